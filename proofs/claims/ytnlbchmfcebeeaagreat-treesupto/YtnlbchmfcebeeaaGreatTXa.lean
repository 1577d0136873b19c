import Derived.Test.YtnlbchmfcebeeaaGreatTX5
import Derived.Test.YtnlbchmfcebeeaaGreatTC5
import Derived.Test.YtnlbchmfcebeeaaGreatTX4
import Derived.Test.YtnlbchmfcebeeaaGreatTX6
import Derived.Test.YtnlbchmfcebeeaaGreatTB4
import Derived.Deep.QuietTactic
import Derived.BigQuiet
set_option maxHeartbeats 12800000
set_option maxRecDepth 100000
namespace Go.Proofs.YtnlbchmfcebeeaaGreat
open Go.RowKit
namespace Ch
def kidsK (L : List RN) (i : Int) (k : Nat) : List Nat:=(List.range k).filter (isKid L i)
def natI (l : List Nat) : List Int:=l.map fun (n : Nat)=>(n : Int)
theorem kidsK_hit {L : List RN} {i : Int} {k : Nat} (h : isKid L i k = true) : kidsK L i (k + 1) = kidsK L i k ++ [k]:=by
 unfold kidsK;rw [List.range_succ,List.filter_append];simp [h]
theorem kidsK_miss {L : List RN} {i : Int} {k : Nat} (h : isKid L i k = false) : kidsK L i (k + 1) = kidsK L i k:=by
 unfold kidsK;rw [List.range_succ,List.filter_append];simp [h]
theorem kidsK_len (L : List RN) (i : Int) (k : Nat) : (kidsK L i k).length ≤ k:=by
 unfold kidsK;have:=List.length_filter_le (isKid L i) (List.range k);simpa using this
theorem natI_snoc (l : List Nat) (k : Nat) : natI (l ++ [k]) = natI l ++ [(k : Int)]:=by simp [natI]
theorem isKid_at {l : List NV} {k : Nat} {x : NV} (hx : l[k]? = some x) (i : Int) : isKid (mk l) i k = (x.n.parent == i && x.n.kind != 5):=by
 unfold isKid;rw [rnAt_of (L:=mk l) (n:=x.n) (by unfold mk;rw [List.getElem?_map,hx];rfl)]
theorem mk_len (l : List NV) : (mk l).length = l.length:=by simp [mk]
end Ch
section
variable (w : World) (B cb : Nat)
theorem rKids_any (l : List NV) (v : Value) (i : Int) (hF : ChF w B cb l v) (hl : l.length ≤ 1000) :
 Calls Tryz.prog 234 #[.pointer (some ⟨cb,0,none⟩),.int .i64 i] w fun x w'=>∃ u,x = .returned u ∧ w'.ownsRow w.heap.size 3 1 u (Ch.kidsR (Ch.mk l) i).length (inCells (Ch.natI (Ch.kidsR (Ch.mk l) i))) ∧ Kp (fun _=>False) w w':=by
 obtain ⟨i0,hi,hz0,hz1,hz2⟩:=info_parts Tryz.infoInt;obtain ⟨ao,cap,rfl⟩:=hF.2.1.len
 go_enter Tryz.func234,Tryz.ntmps234
 go_wp2_with fail
 go_loopw [5,6] (fun fv j wr=>∃ k : Nat,j = .int .i64 k ∧ k ≤ l.length ∧ wr.ownsRow w.heap.size 3 1 fv (Ch.kidsK (Ch.mk l) i k).length (inCells (Ch.natI (Ch.kidsK (Ch.mk l) i k))) ∧ Kp (fun _=>False) w wr) (fun _ j _=>l.length - (intOf j).toNat)
 case atStart=>exact ⟨0,rfl,Nat.zero_le _,World.ownsRow_nil _ _ _ _,Kp.refl _ _⟩
 case round =>
  obtain ⟨k,rfl,hk,ho,KW⟩:=hrel;have hFr:=hF.keep0 KW;have zc:=hFr.cell;have hkl:=Ch.kidsK_len (Ch.mk l) i k
  by_cases hlt : k < l.length
  ·have hlt' : (k : Int) < (l.length : Int):=by omega
   obtain ⟨x,hx⟩ : ∃ x,l[k]? = some x:=⟨_,List.getElem?_eq_getElem hlt⟩
   obtain ⟨g,cap',hv,hBg,hcell,hfr⟩:=hFr.2.1.form hx;simp only [Value.slice.injEq] at hv;obtain ⟨rfl,-,rfl⟩:=hv;have z2 : wr.cell? ⟨g,k * 7 + 2,none⟩ = some (.int .i64 x.n.parent):=hcell 2 (by omega);have z1 : wr.cell? ⟨g,k * 7 + 1,none⟩ = some (.int .i64 x.n.kind):=hcell 1 (by omega);have hkid:=Ch.isKid_at hx i;clear hFr hcell hfr
   cases q1 : x.n.parent == i with
   | false =>
     rw [q1] at hkid;have HK:=hid (Ch.kidsK_miss hkid);clear hkid;go_wp2
     go_roundw
     case rel=>exact ⟨k + 1,by go_num,by omega,by rw [HK.out];exact ho,KW⟩
     case measure=>simp [intOf];omega
   | true=>?_
   cases q2 : x.n.kind != 5 with
   | false =>
     rw [q1,q2] at hkid;have HK:=hid (Ch.kidsK_miss hkid);clear hkid;go_wp2
     go_roundw
     case rel=>exact ⟨k + 1,by go_num,by omega,by rw [HK.out];exact ho,KW⟩
     case measure=>simp [intOf];omega
   | true=>?_
   rw [q1,q2] at hkid;have HK:=hid (Ch.kidsK_hit hkid);have hsz:=KW.size;clear hkid
   go_wp2_with (at_builtin;refine wpList_append_own (P:=Tryz.prog) _ rfl (.tmp 37) (.tmp 39) 38 rfl w.heap.size 3 i0 (.int .i64 0) 1 8 Tryz.underlying38 hi hz0 hz1 hz2 rfl (by decide) u5 (Ch.kidsK (Ch.mk l) i k).length (inCells (Ch.natI (Ch.kidsK (Ch.mk l) i k))) rfl (by exact ho.alloc _) ⟨wr.heap.size,0,none⟩ 1 1 [.int .i64 k] rfl rfl (by exact cell1_new _ _ _) (by intro u hu;simp at hu;subst hu;rfl) (by unfold maxLen;omega) (by omega) (by simp;omega) ?_)
   intro v' w9 o9 g9 _;have K9 : Kp (fun _=>False) w w9:=(KW.alloc (.cells #[.int .i64 k] 3)).grown (by exact g9) (fun j hj hlt=>by have:=(ho.lt j hj).1;omega);have HO:=hid (And.intro o9 K9);clear o9 g9 K9 ho KW zc z1 z2;go_wp2
   go_roundw
   case rel =>
    refine ⟨k + 1,by go_num,by omega,?_,HO.out.2⟩;rw [HK.out,Ch.natI_snoc];have:=HO.out.1;simpa [inCells] using this
   case measure=>simp [intOf];omega
  have hge : ¬ (k : Int) < (l.length : Int):=by omega
  obtain rfl : k = l.length:=by omega
  have HR:=hid (show Ch.kidsR (Ch.mk l) i = Ch.kidsK (Ch.mk l) i l.length by unfold Ch.kidsR Ch.kidsK;rw [Ch.mk_len]);clear hFr;go_wp2;go_ret;rw [HR.out];exact ⟨_,rfl,ho,KW⟩
end
namespace Ch
def TrBd (n : RN) : Prop:=∀ rt ∈ n.trans,1 ≤ rt.text.size ∧ rt.text.size ≤ 300 ∧ 0 ≤ rt.pos ∧ rt.pos ≤ 300
def nmE (L : List RN) : Int:=if 0 ≤ namesR L then 6 else 0
def nmP (L : List RN) : Int:=if 0 ≤ namesR L then namesR L else 0
theorem bestS_no1 {L : List RN} {b c p : Int} (h : inR c 65 90 = false) : bestS L b ⟨c,p⟩ = b:=by
 unfold bestS;rw [show isNm c = false from h];rfl
theorem bestS_no2 {L : List RN} {b c p : Int} (h : seenR L c = true) : bestS L b ⟨c,p⟩ = b:=by
 unfold bestS;simp only [h];simp
theorem bestS_no3 {L : List RN} {b c p : Int} (h1 : ¬ b < 0) (h2 : ¬ p < b) : bestS L b ⟨c,p⟩ = b:=by
 unfold bestS;simp [h1,h2]
theorem bestS_yes {L : List RN} {b c p : Int} (h1 : inR c 65 90 = true) (h2 : seenR L c = false) (h3 : b < 0 ∨ p < b) : bestS L b ⟨c,p⟩ = p:=by
 unfold bestS;rw [show isNm c = true from h1,h2];rcases h3 with h | h <;> simp [h]
def bestK (L : List RN) (k : Nat) : Int:=((L.take k).flatMap fun n=>n.trans.flatMap candT).foldl (bestS L) (-1)
def bestT (L : List RN) (n : RN) (b : Int) (k : Nat) : Int:=((n.trans.take k).flatMap candT).foldl (bestS L) b
theorem bestK_succ {L : List RN} {k : Nat} {n : RN} (h : L[k]? = some n) : bestK L (k + 1) = bestT L n (bestK L k) n.trans.length:=by
 unfold bestK bestT;have hlt:=(List.getElem?_eq_some_iff.1 h).1;have e : L[k] = n:=(List.getElem?_eq_some_iff.1 h).2;rw [List.take_succ_eq_append_getElem hlt,List.flatMap_append,List.foldl_append,e,List.take_length];simp
theorem bestT_succ {L : List RN} {n : RN} {b : Int} {k : Nat} {rt : RT} (h : n.trans[k]? = some rt) : bestT L n b (k + 1) = (candT rt).foldl (bestS L) (bestT L n b k):=by
 unfold bestT;have hlt:=(List.getElem?_eq_some_iff.1 h).1;have e : n.trans[k] = rt:=(List.getElem?_eq_some_iff.1 h).2;rw [List.take_succ_eq_append_getElem hlt,List.flatMap_append,List.foldl_append,e];simp
theorem namesR_K (L : List RN) : namesR L = bestK L L.length:=by unfold namesR bestK cand;rw [List.take_length]
theorem bestS_bd {L : List RN} {b : Int} {u : Us} (h : -1 ≤ b ∧ b ≤ 1000) (hu : 0 ≤ u.pos ∧ u.pos ≤ 1000) : -1 ≤ bestS L b u ∧ bestS L b u ≤ 1000:=by unfold bestS;split <;> omega
theorem rtCells_at (l : List RT) (k : Nat) (x : RT) (h : l[k]? = some x) : (rtCells l)[k * 2]? = some (.string x.text) ∧ (rtCells l)[k * 2 + 1]? = some (.int .i64 x.pos):=by
 induction l generalizing k with
 | nil=>simp at h
 | cons a l ih=>?_
 have e : rtCells (a :: l) = [.string a.text,.int .i64 a.pos] ++ rtCells l:=by simp [rtCells]
 rw [e]
 cases k with
 | zero=>simp at h;subst h;simp
 | succ k=>?_
 have:=ih k (by simpa using h);rw [List.getElem?_append_right (by simp;omega),List.getElem?_append_right (by simp;omega)];simp only [List.length_cons,List.length_nil];rw [show (k + 1) * 2 - (0 + 1 + 1) = k * 2 by omega,show (k + 1) * 2 + 1 - (0 + 1 + 1) = k * 2 + 1 by omega];exact this
end Ch
theorem Kp.cellF {w w' : World} (k : Kp (fun _=>False) w w') {p : Addr} {v : Value} (h : w.cell? p = some v) : w'.cell? p = some v:=by
 have hb : p.block < w.heap.size:=World.block_lt_of_cell? w p h;rw [← h];exact World.cell?_of_block (k.block _ hb (fun x=>x))
def SnB (w : World) (sb : Nat) (f : Int → Bool) : Prop:=∃ C,w.heap[sb]? = some (.cells C 294 (0,0)) ∧ C.size = 256 ∧ ∀ n : Nat,n < 256 → C[n]? = some (.bool (f n))
theorem SnB.cell {w : World} {sb : Nat} {f : Int → Bool} (h : SnB w sb f) (n : Nat) (hn : n < 256) : w.cell? ⟨sb,n,none⟩ = some (.bool (f n)):=by
 obtain ⟨C,hC,_,hf⟩:=h;rw [cell_of_row w sb _ C _ _ hC];exact hf n hn
theorem SnB.keep0 {w w' : World} {sb : Nat} {f : Int → Bool} (h : SnB w sb f) (k : Kp (fun _=>False) w w') : SnB w' sb f:=by
 obtain ⟨C,hC,r⟩:=h;exact ⟨C,k.at_ hC (fun x=>x),r⟩
section
variable (w : World) (B cb : Nat)
theorem rNames_any (l : List NV) (v : Value) (SA : Array Value) (hF : ChF w B cb l v) (hl : l.length ≤ 300) (hT : ∀ x ∈ l,x.n.trans.length ≤ 300 ∧ Ch.TrBd x.n) (hs : SA.size = 256) (hS : ∀ n : Nat,n < 256 → SA[n]? = some (.bool (Ch.seenR (Ch.mk l) n))) :
 Calls Tryz.prog 235 #[.pointer (some ⟨cb,0,none⟩),.agg SA] w fun x w'=>x = .returned (.tuple #[.int .i64 (Ch.nmE (Ch.mk l)),.int .i64 (Ch.nmP (Ch.mk l))]) ∧ Kp (fun _=>False) w w':=by
 have hb1:=heap_alloc_new w (.cells SA 294)
 have hS1 : SnB (w.alloc (.cells SA 294)) w.heap.size (Ch.seenR (Ch.mk l)):=⟨SA,hb1,hs,hS⟩
 have K1 : Kp (fun _=>False) w (w.alloc (.cells SA 294)):=(Kp.refl _ _).alloc _;have hF1:=hF.keep0 K1;obtain ⟨ao,cap,rfl⟩:=hF.2.1.len
 go_enter Tryz.func235,Tryz.ntmps235
 go_upto_region 3 with (fail)
 generalize w.alloc (.cells SA 294) = w1 at *;clear hF hs hS hb1
 go_loopw [6,7] (fun b i wr=>∃ k : Nat,i = .int .i64 k ∧ k ≤ l.length ∧ b = .int .i64 (Ch.bestK (Ch.mk l) k) ∧ (-1 ≤ Ch.bestK (Ch.mk l) k ∧ Ch.bestK (Ch.mk l) k ≤ 1000) ∧ Kp (fun _=>False) w1 wr) (fun _ i _=>l.length - (intOf i).toNat)
 case atStart=>exact ⟨0,rfl,Nat.zero_le _,rfl,by simp [Ch.bestK],Kp.refl _ _⟩
 case round =>
  obtain ⟨k,rfl,hk,rfl,hbb,KW⟩:=hrel;have hFr:=hF1.keep0 KW;have zc:=hFr.cell
  by_cases hlt : k < l.length
  ·have hlt' : (k : Int) < (l.length : Int):=by omega
   obtain ⟨x,hx⟩ : ∃ x,l[k]? = some x:=⟨_,List.getElem?_eq_getElem hlt⟩
   have hxm:=List.mem_of_getElem? hx
   have hxk : (Ch.mk l)[k]? = some x.n:=by unfold Ch.mk;rw [List.getElem?_map,hx];rfl
   obtain ⟨g,cap',hv,hBg,hcell,hfr⟩:=hFr.2.1.form hx;simp only [Value.slice.injEq] at hv;obtain ⟨rfl,-,rfl⟩:=hv;obtain ⟨hTl,hTb⟩:=hT x hxm;have HB:=hid (Ch.bestK_succ hxk);generalize hbk : Ch.bestK (Ch.mk l) k = bk at *;clear hbk;have zt : wr.cell? ⟨g,k * 7 + 6,none⟩ = some x.tv:=hcell 6 (by omega);have hown:=hFr.2.1.tra x hxm;obtain ⟨ta,tcap,htv⟩:=own_len hown;have HS:=hid hS1;have HX:=hid (And.intro hown (And.intro hFr KW))
   have hbx : ∀ j,-1 ≤ Ch.bestT (Ch.mk l) x.n bk j ∧ Ch.bestT (Ch.mk l) x.n bk j ≤ 1000:=by
    intro j;unfold Ch.bestT
    have : ∀ (m : List Ch.RT) (b : Int),(∀ rt ∈ m,0 ≤ rt.pos ∧ rt.pos ≤ 300 ∧ 1 ≤ rt.text.size ∧ rt.text.size ≤ 300) → -1 ≤ b ∧ b ≤ 1000 → -1 ≤ (m.flatMap Ch.candT).foldl (Ch.bestS (Ch.mk l)) b ∧ (m.flatMap Ch.candT).foldl (Ch.bestS (Ch.mk l)) b ≤ 1000:=by
     intro m
     induction m with
     | nil=>intro b _ h;exact h
     | cons a m ih=>?_
     intro b hm hb;have ha:=hm a (by simp);rw [List.flatMap_cons,List.foldl_append];refine ih _ (fun rt hr=>hm rt (by simp [hr])) ?_;simp only [Ch.candT,List.foldl_cons,List.foldl_nil];exact Ch.bestS_bd (Ch.bestS_bd hb ⟨by simp only;omega,by simp only;omega⟩) ⟨by simp only;omega,by simp only;omega⟩
    exact this _ _ (fun rt hr=>by have:=hTb rt (List.mem_of_mem_take hr);omega) hbb
   clear hcell hfr hFr KW hown hS1
   go_wp2_with fail
   go_loopw [6,8] (fun b j wq=>∃ m : Nat,j = .int .i64 m ∧ m ≤ x.n.trans.length ∧ b = .int .i64 (Ch.bestT (Ch.mk l) x.n bk m) ∧ Kp (fun _=>False) wr wq) (fun _ j _=>x.n.trans.length - (intOf j).toNat)
   case atStart=>exact ⟨0,rfl,Nat.zero_le _,by simp [Ch.bestT],Kp.refl _ _⟩
   case round =>
    obtain ⟨m,rfl,hm,rfl,KQ⟩:=hrel;obtain ⟨hown,hFr,KW⟩:=HX.out;have zc2:=(hFr.keep0 KQ).cell;have zt2:=Kp.cellF KQ zt
    by_cases hmlt : m < x.n.trans.length
    ·have hmlt' : (m : Int) < (x.n.trans.length : Int):=by omega
     obtain ⟨rt,hrt⟩ : ∃ rt,x.n.trans[m]? = some rt:=⟨_,List.getElem?_eq_getElem hmlt⟩
     have hrb:=hTb rt (List.mem_of_getElem? hrt);obtain ⟨tg,tcap2,htv2⟩:=own_form hown (by omega);rw [htv2] at htv zt2 zt;simp only [Value.slice.injEq] at htv;obtain ⟨rfl,-,rfl⟩:=htv;have hown2:=KQ.owns hown (fun _ _ x=>x);rw [htv2] at hown2;have a0:=(hown2.cellAt (m * 2) (by omega)).trans (Ch.rtCells_at _ m rt hrt).1;have a1:=(hown2.cellAt (m * 2 + 1) (by omega)).trans (Ch.rtCells_at _ m rt hrt).2
     have hsn:=(HS.out.keep0 (KW.trans KQ))
     have hbm:=hbx m;have HBT:=hid (Ch.bestT_succ (L:=Ch.mk l) (b:=bk) hrt);generalize Ch.bestT (Ch.mk l) x.n bk m = bm at *;clear hown hFr hown2;have K5 : Kp (fun _=>False) wr ((wr.alloc (.cells #[.string rt.text,.int .i64 rt.pos] 292)).alloc (.cells #[.int .i64 0,.int .i64 ((rt.text.size : Int) - 1)] 3)):=((Kp.refl _ _).alloc _).alloc _
     have hb5:=(((Kp.refl (fun _=>False) _).alloc (.cells #[.int .i64 0,.int .i64 ((rt.text.size : Int) - 1)] 3)).at_ (heap_alloc_new wr (.cells #[.string rt.text,.int .i64 rt.pos] 292)) (fun x=>x))
     have hd5:=heap_alloc_new (wr.alloc (.cells #[.string rt.text,.int .i64 rt.pos] 292)) (.cells #[.int .i64 0,.int .i64 ((rt.text.size : Int) - 1)] 3);have hs5:=hsn.keep0 K5
     have hsz : (wr.alloc (.cells #[.string rt.text,.int .i64 rt.pos] 292)).heap.size = wr.heap.size + 1:=by simp
     rw [hsz] at hd5
     go_upto_region 11 with (fail)
     generalize (wr.alloc (.cells #[.string rt.text,.int .i64 rt.pos] 292)).alloc (.cells #[.int .i64 0,.int .i64 ((rt.text.size : Int) - 1)] 3) = w5 at *
     have c0 : w5.cell? ⟨wr.heap.size,0,none⟩ = some (.string rt.text):=by rw [World.cell?,hb5];rfl
     have c1 : w5.cell? ⟨wr.heap.size,1,none⟩ = some (.int .i64 rt.pos):=by rw [World.cell?,hb5];rfl
     have d0 : w5.cell? ⟨wr.heap.size + 1,0,none⟩ = some (.int .i64 0):=by rw [World.cell?,hd5];rfl
     have d1 : w5.cell? ⟨wr.heap.size + 1,1,none⟩ = some (.int .i64 ((rt.text.size : Int) - 1)):=by rw [World.cell?,hd5];rfl
     generalize wr.heap.size = tb at *;have hb1:=Ch.bestS_bd (L:=Ch.mk l) (b:=bm) (u:=⟨Ch.peek rt.text 0,rt.pos⟩) hbm ⟨by simp only;omega,by simp only;omega⟩;have hb2:=Ch.bestS_bd (L:=Ch.mk l) (u:=⟨Ch.peek rt.text (rt.text.size - 1),rt.pos + ((rt.text.size : Int) - 1)⟩) hb1 ⟨by simp only;omega,by simp only;omega⟩;have HC:=hid (show (Ch.candT rt).foldl (Ch.bestS (Ch.mk l)) bm = Ch.bestS (Ch.mk l) (Ch.bestS (Ch.mk l) bm ⟨Ch.peek rt.text 0,rt.pos⟩) ⟨Ch.peek rt.text (rt.text.size - 1),rt.pos + ((rt.text.size : Int) - 1)⟩ from rfl);have HY:=hid (And.intro KW (And.intro KQ K5));have HU1:=hid (show Ch.bestS (Ch.mk l) bm ⟨Ch.peek rt.text 0,rt.pos⟩ = Ch.bestS (Ch.mk l) bm ⟨Ch.peek rt.text 0,rt.pos⟩ from rfl);generalize hB1 : Ch.bestS (Ch.mk l) bm ⟨Ch.peek rt.text 0,rt.pos⟩ = b1 at *;have HB1:=hid hB1;have HU2:=hid (show Ch.bestS (Ch.mk l) b1 ⟨Ch.peek rt.text (rt.text.size - 1),rt.pos + ((rt.text.size : Int) - 1)⟩ = Ch.bestS (Ch.mk l) b1 ⟨Ch.peek rt.text (rt.text.size - 1),rt.pos + ((rt.text.size : Int) - 1)⟩ from rfl);generalize hB2 : Ch.bestS (Ch.mk l) b1 ⟨Ch.peek rt.text (rt.text.size - 1),rt.pos + ((rt.text.size : Int) - 1)⟩ = b2 at *;have HB2:=hid hB2;clear hb5 hd5 hsn KW KQ K5 zc2 zt2 a0 a1 zc zt hsz hB1 hB2 HU1 HU2
     go_loop [6,55] (fun b i=>∃ q : Nat,i = .int .i64 q ∧ q ≤ 2 ∧ b = .int .i64 (if q = 0 then bm else if q = 1 then b1 else b2)) (fun _ i=>2 - (intOf i).toNat)
     case atStart=>exact ⟨0,rfl,by omega,rfl⟩
     case round =>
      obtain ⟨q,rfl,hq,rfl⟩:=hrel
      obtain rfl | rfl | rfl : q = 0 ∨ q = 1 ∨ q = 2:=by omega
      ·simp only [if_true]
       have hix : 0 < rt.text.size:=by omega
       obtain ⟨n,hn⟩ : ∃ n : Nat,(rt.text[0]'hix).toNat = n:=⟨_,rfl⟩
       have hn256 : n < 256:=by rw [← hn];exact (rt.text[0]'hix).toNat_lt
       have hn' : (n : Int) < 256:=by omega
       have zs:=hs5.cell n hn256;have hu : Hid (Ch.peek rt.text (0) = (n : Int)):=hid (by rw [Ch.peek_get hix,hn]);have E:=hid (rIn_any w5 (n : Int) 65 90)
       cases q1 : Ch.inR (n : Int) 65 90 with
       | false =>
         rw [q1] at E;have HV:=hid (show b1 = bm by rw [← HB1.out,hu.out];exact Ch.bestS_no1 q1)
         go_wp2_with fail
         refine cMo E ?_;rintro y w6 ⟨rfl,e6⟩;rw [e6];clear e6 w6;go_wp2
         go_round
         case rel=>exact ⟨1,rfl,by omega,by rw [HV.out];rfl⟩
         case measure=>simp [intOf]
       | true=>?_
       rw [q1] at E
       cases q2 : Ch.seenR (Ch.mk l) (n : Int) with
       | true =>
         have HV:=hid (show b1 = bm by rw [← HB1.out,hu.out];exact Ch.bestS_no2 q2)
         go_wp2_with fail
         refine cMo E ?_;rintro y w6 ⟨rfl,e6⟩;rw [e6];clear e6 w6;go_wp2
         go_round
         case rel=>exact ⟨1,rfl,by omega,by rw [HV.out];rfl⟩
         case measure=>simp [intOf]
       | false=>?_
       by_cases h3 : bm < 0
       ·have HV:=hid (show b1 = rt.pos by rw [← HB1.out,hu.out];exact Ch.bestS_yes q1 q2 (.inl h3))
        go_wp2_with fail
        refine cMo E ?_;rintro y w6 ⟨rfl,e6⟩;rw [e6];clear e6 w6;go_wp2
        go_round
        case rel=>exact ⟨1,rfl,by omega,by rw [HV.out];rfl⟩
        case measure=>simp [intOf]
       by_cases h4 : rt.pos < bm
       ·have HV:=hid (show b1 = rt.pos by rw [← HB1.out,hu.out];exact Ch.bestS_yes q1 q2 (.inr h4))
        go_wp2_with fail
        refine cMo E ?_;rintro y w6 ⟨rfl,e6⟩;rw [e6];clear e6 w6;go_wp2
        go_round
        case rel=>exact ⟨1,rfl,by omega,by rw [HV.out];rfl⟩
        case measure=>simp [intOf]
       have HV:=hid (show b1 = bm by rw [← HB1.out,hu.out];exact Ch.bestS_no3 h3 h4)
       go_wp2_with fail
       refine cMo E ?_;rintro y w6 ⟨rfl,e6⟩;rw [e6];clear e6 w6;go_wp2
       go_round
       case rel=>exact ⟨1,rfl,by omega,by rw [HV.out];rfl⟩
       case measure=>simp [intOf]
      ·simp only [if_true,show ((1 : Nat) = 0) = False by simp,if_false]
       have hix : rt.text.size - 1 < rt.text.size:=by omega
       obtain ⟨n,hn⟩ : ∃ n : Nat,(rt.text[rt.text.size - 1]'hix).toNat = n:=⟨_,rfl⟩
       have hn256 : n < 256:=by rw [← hn];exact (rt.text[rt.text.size - 1]'hix).toNat_lt
       have hn' : (n : Int) < 256:=by omega
       have zs:=hs5.cell n hn256;have hu : Hid (Ch.peek rt.text (rt.text.size - 1) = (n : Int)):=hid (by rw [Ch.peek_get hix,hn]);have E:=hid (rIn_any w5 (n : Int) 65 90)
       cases q1 : Ch.inR (n : Int) 65 90 with
       | false =>
         rw [q1] at E;have HV:=hid (show b2 = b1 by rw [← HB2.out,hu.out];exact Ch.bestS_no1 q1)
         go_wp2_with fail
         refine cMo E ?_;rintro y w6 ⟨rfl,e6⟩;rw [e6];clear e6 w6;go_wp2
         go_round
         case rel=>exact ⟨2,rfl,by omega,by rw [HV.out];rfl⟩
         case measure=>simp [intOf]
       | true=>?_
       rw [q1] at E
       cases q2 : Ch.seenR (Ch.mk l) (n : Int) with
       | true =>
         have HV:=hid (show b2 = b1 by rw [← HB2.out,hu.out];exact Ch.bestS_no2 q2)
         go_wp2_with fail
         refine cMo E ?_;rintro y w6 ⟨rfl,e6⟩;rw [e6];clear e6 w6;go_wp2
         go_round
         case rel=>exact ⟨2,rfl,by omega,by rw [HV.out];rfl⟩
         case measure=>simp [intOf]
       | false=>?_
       by_cases h3 : b1 < 0
       ·have HV:=hid (show b2 = (rt.pos + ((rt.text.size : Int) - 1)) by rw [← HB2.out,hu.out];exact Ch.bestS_yes q1 q2 (.inl h3))
        go_wp2_with fail
        refine cMo E ?_;rintro y w6 ⟨rfl,e6⟩;rw [e6];clear e6 w6;go_wp2
        go_round
        case rel=>exact ⟨2,rfl,by omega,by rw [HV.out];rfl⟩
        case measure=>simp [intOf]
       by_cases h4 : (rt.pos + ((rt.text.size : Int) - 1)) < b1
       ·have HV:=hid (show b2 = (rt.pos + ((rt.text.size : Int) - 1)) by rw [← HB2.out,hu.out];exact Ch.bestS_yes q1 q2 (.inr h4))
        go_wp2_with fail
        refine cMo E ?_;rintro y w6 ⟨rfl,e6⟩;rw [e6];clear e6 w6;go_wp2
        go_round
        case rel=>exact ⟨2,rfl,by omega,by rw [HV.out];rfl⟩
        case measure=>simp [intOf]
       have HV:=hid (show b2 = b1 by rw [← HB2.out,hu.out];exact Ch.bestS_no3 h3 h4)
       go_wp2_with fail
       refine cMo E ?_;rintro y w6 ⟨rfl,e6⟩;rw [e6];clear e6 w6;go_wp2
       go_round
       case rel=>exact ⟨2,rfl,by omega,by rw [HV.out];rfl⟩
       case measure=>simp [intOf]
      simp only [show ((2 : Nat) = 0) = False by simp,show ((2 : Nat) = 1) = False by simp,if_false];go_wp2
      go_roundw
      case rel =>
       obtain ⟨KW,KQ,K5⟩:=HY.out;refine ⟨m + 1,by go_num,by omega,?_,KQ.trans K5⟩;rw [HBT.out,HC.out]
      case measure=>simp [intOf];omega
    have hmge : ¬ (m : Int) < (x.n.trans.length : Int):=by omega
    obtain rfl : m = x.n.trans.length:=by omega
    have hbe:=hbx x.n.trans.length;clear hown hFr;go_wp2
    go_roundw
    case rel=>exact ⟨k + 1,by go_num,by omega,by rw [HB.out],by rw [HB.out];exact hbe,HX.out.2.2.trans KQ⟩
    case measure=>simp [intOf];omega
  have hge : ¬ (k : Int) < (l.length : Int):=by omega
  obtain rfl : k = l.length:=by omega
  have hR : Ch.namesR (Ch.mk l) = Ch.bestK (Ch.mk l) l.length:=by rw [Ch.namesR_K,Ch.mk_len]
  have K2:=K1.trans KW
  by_cases h0 : 0 ≤ Ch.bestK (Ch.mk l) l.length
  ·have e1:=hid (show Ch.nmE (Ch.mk l) = 6 by unfold Ch.nmE;rw [hR,if_pos h0])
   have e2:=hid (show Ch.nmP (Ch.mk l) = Ch.bestK (Ch.mk l) l.length by unfold Ch.nmP;rw [hR,if_pos h0]);clear hFr hR;go_wp2;go_ret2;rw [e1.out,e2.out];exact ⟨rfl,K2⟩
  have e1:=hid (show Ch.nmE (Ch.mk l) = 0 by unfold Ch.nmE;rw [hR,if_neg h0]);have e2:=hid (show Ch.nmP (Ch.mk l) = 0 by unfold Ch.nmP;rw [hR,if_neg h0]);clear hFr hR;go_wp2;go_ret2;rw [e1.out,e2.out];exact ⟨rfl,K2⟩
end
namespace Ch
def fE (L : List RN) : Int:=(faultR L).1
def fP (L : List RN) : Int:=(faultR L).2
theorem find_hit {n k : Nat} {q : Nat → Bool} (hk : k < n) (h : q k = true) (hb : ∀ j,j < k → q j = false) : (List.range n).find? q = some k:=by
 rw [List.find?_range_eq_some];exact ⟨h,by simpa using hk,fun j hj=>by simp [hb j hj]⟩
theorem find_miss {n : Nat} {q : Nat → Bool} (hb : ∀ j,j < n → q j = false) : (List.range n).find? q = none:=by
 rw [List.find?_eq_none];intro j hj;simp [hb j (by simpa using hj)]
theorem faultR_many {L : List RN} (h : 16 < L.length) : fE L = 3 ∧ fP L = (rnAt L 16).pos:=by unfold fE fP faultR;rw [if_pos h];exact ⟨rfl,rfl⟩
theorem faultR_twice {L : List RN} (h : ¬ 16 < L.length) {k : Nat} (hk : k < L.length) (hd : dupR L k = true) (hb : ∀ j,j < k → dupR L j = false) : fE L = 4 ∧ fP L = (rnAt L k).pos:=by
 unfold fE fP faultR;rw [if_neg h,find_hit hk hd hb];exact ⟨rfl,rfl⟩
theorem faultR_shape {L : List RN} (h : ¬ 16 < L.length) (hn : ∀ j,j < L.length → dupR L j = false) {k : Nat} (hk : k < L.length) (hd : misR L k = true) (hb : ∀ j,j < k → misR L j = false) : fE L = 5 ∧ fP L = (rnAt L k).pos:=by
 unfold fE fP faultR;rw [if_neg h,find_miss hn];simp only;rw [find_hit hk hd hb];exact ⟨rfl,rfl⟩
theorem faultR_names {L : List RN} (h : ¬ 16 < L.length) (hn : ∀ j,j < L.length → dupR L j = false) (hb : ∀ j,j < L.length → misR L j = false) : fE L = nmE L ∧ fP L = nmP L:=by
 unfold fE fP faultR nmE nmP;rw [if_neg h,find_miss hn];simp only;rw [find_miss hb];simp only
 by_cases c : 0 ≤ namesR L <;> simp [c]
def seenK (L : List RN) (k : Nat) (b : Int) : Bool:=(L.take k).any fun m=>m.name == b
theorem misR_at {L : List RN} {k : Nat} {n : RN} (h : rnAt L k = n) : misR L k = if n.kind == 5 || n.kind == 4 then (rnAt L n.parent.toNat).kind == 3 else (n.kind == 3 || n.kind == 2) && (kidsR L (k : Int)).length == 0:=by
 subst h;rfl
theorem seenK_all (L : List RN) (b : Int) : seenK L L.length b = seenR L b:=by unfold seenK seenR;rw [List.take_length]
theorem seenK_all' {L : List RN} {n : Nat} (h : L.length = n) (b : Int) : seenK L n b = seenR L b:=by subst h;exact seenK_all L b
theorem seenK_succ {L : List RN} {k : Nat} {n : RN} (h : L[k]? = some n) (b : Int) : seenK L (k + 1) b = (seenK L k b || n.name == b):=by
 have hlt:=(List.getElem?_eq_some_iff.1 h).1;have e : L[k] = n:=(List.getElem?_eq_some_iff.1 h).2;unfold seenK;rw [List.take_succ_eq_append_getElem hlt,List.any_append,e];simp
theorem dup_seen {L : List RN} {k : Nat} {n : RN} (h : L[k]? = some n) : dupR L k = seenK L k n.name:=by unfold dupR seenK;rw [rnAt_of h]
end Ch
theorem SnB.set {w : World} {sb : Nat} {f f' : Int → Bool} (h : SnB w sb f) {n : Nat} (hn : n < 256) (hf : ∀ m : Nat,m < 256 → f' m = (f m || (n : Int) == (m : Int))) : SnB (w.setCell ⟨sb,n,none⟩ (.bool true)) sb f':=by
 obtain ⟨C,hC,hs,hg⟩:=h;refine ⟨_,heap_set_same _ hC,by simp [hs],fun m hm=>?_⟩;rw [hf m hm]
 by_cases e : n = m
 ·subst e;rw [Array.getElem?_setIfInBounds_self_of_lt (by omega)];simp
 rw [Array.getElem?_setIfInBounds_ne e,hg m hm]
 have : ((n : Int) == (m : Int)) = false:=by simp;omega
 rw [this,Bool.or_false]
theorem SnB.keep {S : Nat → Prop} {w w' : World} {sb : Nat} {f : Int → Bool} (h : SnB w sb f) (k : Kp S w w') (hs : ¬ S sb) : SnB w' sb f:=by
 obtain ⟨C,hC,r⟩:=h;exact ⟨C,k.at_ hC hs,r⟩
theorem SnB.free {w : World} {sb : Nat} {f : Int → Bool} (h : SnB w sb f) (o : Nat) : w.frozen? ⟨sb,o,none⟩ = false:=by
 obtain ⟨C,hC,_⟩:=h;simp [World.frozen?,hC]
theorem Tryz.size256 : (Tryz.prog.info? 294).map (·.size) = some 256:=by kernel_rfl
def z256 : Array Value:=#[.bool false,.bool false,.bool false,.bool false,.bool false,.bool false,.bool false,.bool false,.bool false,.bool false,.bool false,.bool false,.bool false,.bool false,.bool false,.bool false,.bool false,.bool false,.bool false,.bool false,.bool false,.bool false,.bool false,.bool false,.bool false,.bool false,.bool false,.bool false,.bool false,.bool false,.bool false,.bool false,.bool false,.bool false,.bool false,.bool false,.bool false,.bool false,.bool false,.bool false,.bool false,.bool false,.bool false,.bool false,.bool false,.bool false,.bool false,.bool false,.bool false,.bool false,.bool false,.bool false,.bool false,.bool false,.bool false,.bool false,.bool false,.bool false,.bool false,.bool false,.bool false,.bool false,.bool false,.bool false,.bool false,.bool false,.bool false,.bool false,.bool false,.bool false,.bool false,.bool false,.bool false,.bool false,.bool false,.bool false,.bool false,.bool false,.bool false,.bool false,.bool false,.bool false,.bool false,.bool false,.bool false,.bool false,.bool false,.bool false,.bool false,.bool false,.bool false,.bool false,.bool false,.bool false,.bool false,.bool false,.bool false,.bool false,.bool false,.bool false,.bool false,.bool false,.bool false,.bool false,.bool false,.bool false,.bool false,.bool false,.bool false,.bool false,.bool false,.bool false,.bool false,.bool false,.bool false,.bool false,.bool false,.bool false,.bool false,.bool false,.bool false,.bool false,.bool false,.bool false,.bool false,.bool false,.bool false,.bool false,.bool false,.bool false,.bool false,.bool false,.bool false,.bool false,.bool false,.bool false,.bool false,.bool false,.bool false,.bool false,.bool false,.bool false,.bool false,.bool false,.bool false,.bool false,.bool false,.bool false,.bool false,.bool false,.bool false,.bool false,.bool false,.bool false,.bool false,.bool false,.bool false,.bool false,.bool false,.bool false,.bool false,.bool false,.bool false,.bool false,.bool false,.bool false,.bool false,.bool false,.bool false,.bool false,.bool false,.bool false,.bool false,.bool false,.bool false,.bool false,.bool false,.bool false,.bool false,.bool false,.bool false,.bool false,.bool false,.bool false,.bool false,.bool false,.bool false,.bool false,.bool false,.bool false,.bool false,.bool false,.bool false,.bool false,.bool false,.bool false,.bool false,.bool false,.bool false,.bool false,.bool false,.bool false,.bool false,.bool false,.bool false,.bool false,.bool false,.bool false,.bool false,.bool false,.bool false,.bool false,.bool false,.bool false,.bool false,.bool false,.bool false,.bool false,.bool false,.bool false,.bool false,.bool false,.bool false,.bool false,.bool false,.bool false,.bool false,.bool false,.bool false,.bool false,.bool false,.bool false,.bool false,.bool false,.bool false,.bool false,.bool false,.bool false,.bool false,.bool false,.bool false,.bool false,.bool false,.bool false,.bool false,.bool false,.bool false,.bool false,.bool false,.bool false,.bool false,.bool false,.bool false,.bool false,.bool false,.bool false]
theorem z256_eq : z256 = Array.replicate 256 (.bool false):=by rfl
theorem zeroB (k : Nat) (hk : k < 256) : z256[k]? = some (.bool false):=by
 rw [z256_eq,Array.getElem?_replicate,if_pos hk]
theorem z256_size : z256.size = 256:=by rw [z256_eq];simp
structure FltOk (l : List NV) : Prop where
 len : l.length ≤ 300
 nm : ∀ x ∈ l,0 ≤ x.n.name ∧ x.n.name ≤ 255
 up : ∀ (k : Nat) (x : NV),l[k]? = some x → (x.n.kind = 4 ∨ x.n.kind = 5) → ∃ p : Nat,x.n.parent = p ∧ p < l.length
 tr : ∀ x ∈ l,x.n.trans.length ≤ 300 ∧ Ch.TrBd x.n
section
variable (w : World) (B cb : Nat)
theorem rFault_any (l : List NV) (v : Value) (hF : ChF w B cb l v) (hO : FltOk l) :
 Calls Tryz.prog 195 #[.pointer (some ⟨cb,0,none⟩)] w fun x w'=>x = .returned (.tuple #[.int .i64 (Ch.fE (Ch.mk l)),.int .i64 (Ch.fP (Ch.mk l))]) ∧ Kp (fun _=>False) w w':=by
 have hlen:=hO.len;obtain ⟨ao,cap,rfl⟩:=hF.2.1.len;have zc:=hF.cell;have hml:=Ch.mk_len l
 by_cases h16 : 16 < l.length
 ·have h16' : (16 : Int) < (l.length : Int):=by omega
  obtain ⟨x,hx⟩ : ∃ x,l[16]? = some x:=⟨_,List.getElem?_eq_getElem h16⟩
  obtain ⟨g,cap',hv,hBg,hcell,hfr⟩:=hF.2.1.form hx;simp only [Value.slice.injEq] at hv;obtain ⟨rfl,-,rfl⟩:=hv;have z3 : w.cell? ⟨g,16 * 7 + 3,none⟩ = some (.int .i64 x.n.pos):=hcell 3 (by omega);have hR:=hid (Ch.faultR_many (L:=Ch.mk l) (by omega));have hrn : Ch.rnAt (Ch.mk l) 16 = x.n:=Ch.rnAt_of (by unfold Ch.mk;rw [List.getElem?_map,hx];rfl);rw [hrn] at hR;clear hcell hfr hF hO hml;simp only [Nat.reduceMul,Nat.reduceAdd] at z3
  go_enter Tryz.func195,Tryz.ntmps195
  go_wp2
  go_quiet (fail)
  go_wp2;go_ret2;rw [hR.out.1,hR.out.2];exact ⟨rfl,(Kp.refl _ _).drewN _⟩
 have h16' : ¬ (16 : Int) < (l.length : Int):=by omega
 have hne : ¬ 16 < (Ch.mk l).length:=by omega
 have HO:=hid hO;have HF:=hid hF;have hcb : cb < w.heap.size:=lt_of_block hF.1;clear hO hF
 go_enter Tryz.func195,Tryz.ntmps195
 go_upto_region 5 with (fail)
 refine (fun hgen : ∀ w1 : World,Kp (fun _=>False) w w1 → SnB w1 w.heap.size (Ch.seenK (Ch.mk l) 0) → Code.wp _ _ _ _ w1=>hgen _ ((Kp.refl _ _).alloc _) ⟨_,heap_alloc_new w _,z256_size,fun n hn=>zeroB n hn⟩) ?_;intro w1 K1 hS1;have hF1:=HF.out.keep0 K1;clear zc HF;generalize hsb : w.heap.size = sb at *
 go_loopw [5] (fun i wr=>∃ k : Nat,i = .int .i64 k ∧ k ≤ l.length ∧ Hid (∀ j,j < k → Ch.dupR (Ch.mk l) j = false) ∧ SnB wr sb (Ch.seenK (Ch.mk l) k) ∧ Kp (fun i=>i = sb) w1 wr) (fun i _=>l.length - (intOf i).toNat)
 case atStart=>exact ⟨0,rfl,Nat.zero_le _,hid (fun j h=>absurd h (by omega)),hS1,Kp.refl _ _⟩
 case round =>
  obtain ⟨k,rfl,hk,HD,hS,KW⟩:=hrel
  have hFr : ChF wr B cb l (.slice ao l.length cap):=hF1.keepT KW (fun i cur T hi _ hT e=>by
   subst e;obtain ⟨C,hC,_⟩:=hS1;rw [hC] at hi;simp only [Option.some.injEq,Obj.cells.injEq] at hi
   rcases hT with h | h | h | h <;> rw [h] at hi <;> exact absurd hi.2.1 (by decide))
  have zc:=hFr.cell
  by_cases hlt : k < l.length
  ·have hlt' : (k : Int) < (l.length : Int):=by omega
   obtain ⟨x,hx⟩ : ∃ x,l[k]? = some x:=⟨_,List.getElem?_eq_getElem hlt⟩
   have hxk : (Ch.mk l)[k]? = some x.n:=by unfold Ch.mk;rw [List.getElem?_map,hx];rfl
   obtain ⟨g,cap',hv,hBg,hcell,hfr⟩:=hFr.2.1.form hx;simp only [Value.slice.injEq] at hv;obtain ⟨rfl,-,rfl⟩:=hv;have hnm:=HO.out.nm x (List.mem_of_getElem? hx)
   obtain ⟨n,hn⟩ : ∃ n : Nat,x.n.name = n:=⟨x.n.name.toNat,by omega⟩
   have hn256 : n < 256:=by omega
   have hn' : (n : Int) < 256:=by omega
   have z0 : wr.cell? ⟨g,k * 7,none⟩ = some (.int .u8 n):=by rw [← hn];exact hcell 0 (by omega)
   have z3 : wr.cell? ⟨g,k * 7 + 3,none⟩ = some (.int .i64 x.n.pos):=hcell 3 (by omega);have zs:=hS.cell n hn256;have fs:=hS.free n;have hdup:=Ch.dup_seen hxk;rw [hn] at hdup;have hrn:=Ch.rnAt_of hxk
   cases q : Ch.seenK (Ch.mk l) k (n : Int) with
   | true =>
     have hR:=hid (Ch.faultR_twice hne (by omega) (by rw [hdup];exact q) HD.out);rw [hrn] at hR;have KZ:=hid (K1.trans' KW (fun i hi x=>by omega));rw [q] at zs;clear hcell hfr hFr hS KW HD hdup hn;go_wp2
     go_quiet (fail)
     go_wp2;go_ret2;rw [hR.out.1,hR.out.2];exact ⟨rfl,KZ.out.drewN _⟩
   | false=>?_
   have HD2:=hid (show ∀ j,j < k + 1 → Ch.dupR (Ch.mk l) j = false from fun j hj=>by
    rcases Nat.lt_or_eq_of_le (Nat.le_of_lt_succ hj) with h | h
    ·exact HD.out j h
    subst h;rw [hdup];exact q)
   have hS2:=hid (hS.set hn256 (f':=Ch.seenK (Ch.mk l) (k + 1)) (fun m _=>by rw [Ch.seenK_succ hxk,hn]));have KZ:=hid (KW.setCell (p:=⟨sb,n,none⟩) (fun _=>rfl) (.bool true));rw [q] at zs;clear hcell hfr hFr hS KW HD hdup hn;go_wp2
   go_roundw
   case rel=>exact ⟨k + 1,by go_num,by omega,HD2,hS2.out,KZ.out⟩
   case measure=>simp [intOf];omega
  have hge : ¬ (k : Int) < (l.length : Int):=by omega
  obtain rfl : k = l.length:=by omega
  have HD':=hid (show ∀ j,j < (Ch.mk l).length → Ch.dupR (Ch.mk l) j = false by rw [hml];exact HD.out);clear HD
  go_upto_region 11 with (fail)
  have K2:=K1.trans' KW (fun i hi x=>by omega)
  go_loopw [6] (fun i wq=>∃ k : Nat,i = .int .i64 k ∧ k ≤ l.length ∧ Hid (∀ j,j < k → Ch.misR (Ch.mk l) j = false) ∧ Kp (fun _=>False) wr wq) (fun i _=>l.length - (intOf i).toNat)
  case atStart=>exact ⟨0,rfl,Nat.zero_le _,hid (fun j h=>absurd h (by omega)),Kp.refl _ _⟩
  case round =>
   obtain ⟨k,rfl,hk,HM,KQ⟩:=hrel;have hFq:=hFr.keep0 KQ;have zc2:=hFq.cell
   by_cases hlt : k < l.length
   ·have hlt' : (k : Int) < (l.length : Int):=by omega
    obtain ⟨x,hx⟩ : ∃ x,l[k]? = some x:=⟨_,List.getElem?_eq_getElem hlt⟩
    have hxk : (Ch.mk l)[k]? = some x.n:=by unfold Ch.mk;rw [List.getElem?_map,hx];rfl
    obtain ⟨g,cap',hv,hBg,hcell,hfr⟩:=hFq.2.1.form hx;simp only [Value.slice.injEq] at hv;obtain ⟨rfl,-,rfl⟩:=hv;have hxm:=List.mem_of_getElem? hx;have z0 : wr.cell? ⟨g,k * 7,none⟩ = some (.int .u8 x.n.name):=hcell 0 (by omega);have z1 : wr.cell? ⟨g,k * 7 + 1,none⟩ = some (.int .i64 x.n.kind):=hcell 1 (by omega);have z2 : wr.cell? ⟨g,k * 7 + 2,none⟩ = some (.int .i64 x.n.parent):=hcell 2 (by omega);have z3 : wr.cell? ⟨g,k * 7 + 3,none⟩ = some (.int .i64 x.n.pos):=hcell 3 (by omega);have z4 : wr.cell? ⟨g,k * 7 + 4,none⟩ = some x.ev:=hcell 4 (by omega);have z5 : wr.cell? ⟨g,k * 7 + 5,none⟩ = some x.lv:=hcell 5 (by omega);have z6 : wr.cell? ⟨g,k * 7 + 6,none⟩ = some x.tv:=hcell 6 (by omega);obtain ⟨ea,ec,hev⟩:=own_len (hFq.2.1.ent x hxm);obtain ⟨la,lc,hlv⟩:=own_len (hFq.2.1.lea x hxm);obtain ⟨ta,tc,htv⟩:=own_len (hFq.2.1.tra x hxm);rw [hev] at z4;rw [hlv] at z5;rw [htv] at z6;have HQ:=hid (And.intro hFq KQ);clear hFq KQ hcell hfr zc;have K3 : Kp (fun _=>False) wr (wr.alloc (.cells #[.int .u8 x.n.name,.int .i64 x.n.kind,.int .i64 x.n.parent,.int .i64 x.n.pos,.slice ea x.n.enter.length ec,.slice la x.n.leave.length lc,.slice ta x.n.trans.length tc] 223)):=(Kp.refl _ _).alloc _;have hb3:=heap_alloc_new wr (.cells #[.int .u8 x.n.name,.int .i64 x.n.kind,.int .i64 x.n.parent,.int .i64 x.n.pos,.slice ea x.n.enter.length ec,.slice la x.n.leave.length lc,.slice ta x.n.trans.length tc] 223)
    go_upto_region 14 with (fail)
    generalize wr.alloc (.cells #[.int .u8 x.n.name,.int .i64 x.n.kind,.int .i64 x.n.parent,.int .i64 x.n.pos,.slice ea x.n.enter.length ec,.slice la x.n.leave.length lc,.slice ta x.n.trans.length tc] 223) = w3 at *;have hF3:=HQ.out.1.keep0 K3;have E:=hid (rKids_any w3 B cb l _ (k : Int) hF3 (by omega));clear hF3 z0 z1 z2 z3 z4 z5 z6 zc2
    go_wp2_with fail
    refine cMo E ?_;rintro y w4 ⟨u,rfl,hu,K4⟩;obtain ⟨ua,uc,rfl⟩:=own_len hu;have K34:=K3.trans K4;have hb4:=K4.at_ hb3 (fun x=>x);generalize wr.heap.size = nb at *;have hF4:=HQ.out.1.keep0 K34;have zc4:=hF4.cell
    have c1 : w4.cell? ⟨nb,1,none⟩ = some (.int .i64 x.n.kind):=by rw [World.cell?,hb4];rfl
    have c2 : w4.cell? ⟨nb,2,none⟩ = some (.int .i64 x.n.parent):=by rw [World.cell?,hb4];rfl
    have c3 : w4.cell? ⟨nb,3,none⟩ = some (.int .i64 x.n.pos):=by rw [World.cell?,hb4];rfl
    have hrn:=Ch.rnAt_of hxk;have KZ:=hid (K2.trans (HQ.out.2.trans K34));have KR:=hid (HQ.out.2.trans K34);have hshape:=hid (fun h=>Ch.faultR_shape hne HD'.out (k:=k) (by omega) h HM.out);rw [hrn] at hshape
    have hnext:=hid (show Ch.misR (Ch.mk l) k = false → ∀ j,j < k + 1 → Ch.misR (Ch.mk l) j = false from fun q j hj=>by
     rcases Nat.lt_or_eq_of_le (Nat.le_of_lt_succ hj) with h | h
     ·exact HM.out j h
     subst h;exact q)
    have hmis:=Ch.misR_at hrn;have hup:=HO.out.up k x hx;clear E hu K3 K4 hb3 hb4 HQ
    by_cases hk5 : x.n.kind = 5
    ·have hkk : x.n.kind = 5:=hk5
     obtain ⟨p,hp,hpl⟩:=hup (by omega)
     obtain ⟨y,hy⟩ : ∃ y,l[p]? = some y:=⟨_,List.getElem?_eq_getElem hpl⟩
     obtain ⟨g2,cap2,hv2,_,hcell2,_⟩:=hF4.2.1.form hy;simp only [Value.slice.injEq,Option.some.injEq,Addr.mk.injEq,true_and,and_true] at hv2;obtain ⟨rfl,rfl⟩:=hv2;have w1p : w4.cell? ⟨g,p * 7 + 1,none⟩ = some (.int .i64 y.n.kind):=hcell2 1 (by omega)
     have hpl' : (p : Int) < (l.length : Int):=by omega
     have hry : Ch.rnAt (Ch.mk l) p = y.n:=Ch.rnAt_of (by unfold Ch.mk;rw [List.getElem?_map,hy];rfl);rw [hkk,hp,Int.toNat_natCast,hry] at hmis;rw [hkk] at c1;rw [hp] at c2;have HMI:=hid hmis;clear hmis hcell2 hF4 hup hp hkk hk5
     cases q : y.n.kind == 3 with
     | true =>
       have hR:=hid (hshape.out (by rw [HMI.out];simpa using q));go_wp2
       go_quiet (fail)
       go_wp2
       go_quiet (fail)
       go_wp2;go_ret2;rw [hR.out.1,hR.out.2];exact ⟨rfl,(KZ.out.drewN _).drewN _⟩
     | false=>?_
     have hN:=hid (hnext.out (by rw [HMI.out];simpa using q));go_wp2
     go_quiet (fail)
     go_wp2
     go_roundw
     case rel=>exact ⟨k + 1,by go_num,by omega,hN,KR.out.drewN _⟩
     case measure=>simp [intOf];omega
    by_cases hk4 : x.n.kind = 4
    ·have hkk : x.n.kind = 4:=hk4
     obtain ⟨p,hp,hpl⟩:=hup (by omega)
     obtain ⟨y,hy⟩ : ∃ y,l[p]? = some y:=⟨_,List.getElem?_eq_getElem hpl⟩
     obtain ⟨g2,cap2,hv2,_,hcell2,_⟩:=hF4.2.1.form hy;simp only [Value.slice.injEq,Option.some.injEq,Addr.mk.injEq,true_and,and_true] at hv2;obtain ⟨rfl,rfl⟩:=hv2;have w1p : w4.cell? ⟨g,p * 7 + 1,none⟩ = some (.int .i64 y.n.kind):=hcell2 1 (by omega)
     have hpl' : (p : Int) < (l.length : Int):=by omega
     have hry : Ch.rnAt (Ch.mk l) p = y.n:=Ch.rnAt_of (by unfold Ch.mk;rw [List.getElem?_map,hy];rfl);rw [hkk,hp,Int.toNat_natCast,hry] at hmis;rw [hkk] at c1;rw [hp] at c2;have HMI:=hid hmis;clear hmis hcell2 hF4 hup hp hkk hk4
     cases q : y.n.kind == 3 with
     | true =>
       have hR:=hid (hshape.out (by rw [HMI.out];simpa using q));go_wp2
       go_quiet (fail)
       go_wp2
       go_quiet (fail)
       go_wp2;go_ret2;rw [hR.out.1,hR.out.2];exact ⟨rfl,(KZ.out.drewN _).drewN _⟩
     | false=>?_
     have hN:=hid (hnext.out (by rw [HMI.out];simpa using q));go_wp2
     go_quiet (fail)
     go_wp2
     go_roundw
     case rel=>exact ⟨k + 1,by go_num,by omega,hN,KR.out.drewN _⟩
     case measure=>simp [intOf];omega
    by_cases hk3 : x.n.kind = 3
    ·rw [hk3] at hmis c1
     have HMI:=hid hmis;clear hmis hF4 hup hk3
     by_cases q : (Ch.kidsR (Ch.mk l) (k : Int)).length = 0
     ·have q' : ((Ch.kidsR (Ch.mk l) (k : Int)).length : Int) = 0:=by omega
      have hR:=hid (hshape.out (by rw [HMI.out];simp [q]));clear q;go_wp2
      go_quiet (fail)
      go_wp2;go_ret2;rw [hR.out.1,hR.out.2];exact ⟨rfl,KZ.out.drewN _⟩
     have q' : (((Ch.kidsR (Ch.mk l) (k : Int)).length : Int) == 0) = false:=by simp;intro h;simp [h] at q
     have hN:=hid (hnext.out (by rw [HMI.out];simp at q ⊢;exact q));clear q;go_wp2
     go_roundw
     case rel=>exact ⟨k + 1,by go_num,by omega,hN,KR.out⟩
     case measure=>simp [intOf];omega
    by_cases hk2 : x.n.kind = 2
    ·rw [hk2] at hmis c1
     have HMI:=hid hmis;clear hmis hF4 hup hk2
     by_cases q : (Ch.kidsR (Ch.mk l) (k : Int)).length = 0
     ·have q' : ((Ch.kidsR (Ch.mk l) (k : Int)).length : Int) = 0:=by omega
      have hR:=hid (hshape.out (by rw [HMI.out];simp [q]));clear q;go_wp2
      go_quiet (fail)
      go_wp2;go_ret2;rw [hR.out.1,hR.out.2];exact ⟨rfl,KZ.out.drewN _⟩
     have q' : (((Ch.kidsR (Ch.mk l) (k : Int)).length : Int) == 0) = false:=by simp;intro h;simp [h] at q
     have hN:=hid (hnext.out (by rw [HMI.out];simp at q ⊢;exact q));clear q;go_wp2
     go_roundw
     case rel=>exact ⟨k + 1,by go_num,by omega,hN,KR.out⟩
     case measure=>simp [intOf];omega
    have b5 : (x.n.kind == 5) = false:=by simpa using hk5
    have b4 : (x.n.kind == 4) = false:=by simpa using hk4
    have b3 : (x.n.kind == 3) = false:=by simpa using hk3
    have b2 : (x.n.kind == 2) = false:=by simpa using hk2
    rw [b5,b4,b3,b2] at hmis;have HMI:=hid hmis;have hN:=hid (hnext.out (by rw [HMI.out];rfl));clear hmis hF4 hup hk5 hk4 hk3 hk2;go_wp2
    go_roundw
    case rel=>exact ⟨k + 1,by go_num,by omega,hN,KR.out⟩
    case measure=>simp [intOf];omega
   have hge2 : ¬ (k : Int) < (l.length : Int):=by omega
   obtain rfl : k = l.length:=by omega
   have hR:=hid (Ch.faultR_names hne HD'.out (by rw [hml];exact HM.out));obtain ⟨C,hC,hCs,hCf⟩:=hS.keep0 KQ;have EN:=hid (rNames_any wr B cb l _ C hFq (by omega) HO.out.tr hCs (fun n hn=>by rw [hCf n hn,Ch.seenK_all' hml]));have KZ:=hid (K2.trans KQ);clear zc hFq KQ hCf
   go_wp2_with (refine wpList_load_row rfl 294 (.tmp 4) rfl sb rfl 294 C (0,0) _ hC Tryz.underlying294 (by rfl) (by rw [hCs];exact Tryz.size256) ?_)
   refine cMo EN ?_;rintro y w4 ⟨rfl,K4⟩;go_wp2;go_ret2;rw [hR.out.1,hR.out.2];exact ⟨rfl,KZ.out.trans K4⟩
end
end Go.Proofs.YtnlbchmfcebeeaaGreat
