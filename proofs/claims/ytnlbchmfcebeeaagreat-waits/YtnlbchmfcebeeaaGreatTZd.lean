import Derived.Test.YtnlbchmfcebeeaaGreatTZa
import Derived.Test.YtnlbchmfcebeeaaGreatTXp
set_option maxHeartbeats 12800000
set_option maxRecDepth 100000
namespace Go.Proofs.YtnlbchmfcebeeaaGreat
open Go.RowKit
section
variable (B xb cb g : Nat) (pv : Value) (m : Ch.Ma) (l : List NV) (v : Value) (ol : Ch.Ol)
theorem rEnded_at (on : List Bool) (hso : Ch.SameOn l.length on m.s.act) (hR : Rf l ol) : ∀ (N : Nat) (w : World) (i : Nat),l.length ≤ i + N → i < l.length → NwB w xb cb g l.length pv m → OnB w g on → ChF w B cb l v →
 Calls Tryz.prog 264 #[.pointer (some ⟨xb,0,none⟩),.int .i64 i] w fun y w'=>y = .returned (.bool (Ch.atEnd ol.sts m.s.act i)) ∧ Kp (fun _=>False) w w':=by
 intro N
 induction N with
 | zero=>intro w i h1 h2;omega
 | succ N ih =>
 intro w i hN hi h hon hF;have hle:=hR.le;have hst:=Ch.atEnd_step hR.ols.shp m.s.act i;rw [Ch.hasFin_kids,← Ch.kids_eq hR] at hst;have hkl:=Ch.kidsR_len (Ch.mk l) (i : Int)
 have hlt0:=fun j (h : j ∈ Ch.kidsR (Ch.mk l) (i : Int))=>(show i < j ∧ j < l.length from by
  rw [Ch.kids_eq hR] at h;have:=Ch.kid_lt hR.ols.shp (Ch.mem_kids.1 h)
  rw [hR.len] at this;exact this)
 rw [Ch.mk_len] at hkl;have E0:=hid (rKids_any w B cb l v (i : Int) hF (by omega));generalize Ch.kidsR (Ch.mk l) (i : Int) = ks at *;obtain ⟨ao,cap,rfl⟩:=hF.2.1.len
 obtain ⟨y,hy⟩ : ∃ y,l[i]? = some y:=⟨_,List.getElem?_eq_getElem hi⟩
 rw [hR.kind hy] at hst
 have hi' : (i : Int) < (l.length : Int):=by omega
 have HL:=hid hlt0;have HST:=hid hst;have HIH:=hid ih;have HH:=hid (And.intro h (And.intro hF hon));clear h hF hon hlt0 hst ih;have c0' : w.cell? ⟨xb,0,none⟩ = some (.pointer (some ⟨cb,0,none⟩)):=HH.out.1.cell 0
 go_enter Tryz.func264,Tryz.ntmps264
 go_wp2_with fail
 refine hm E0 ?_;rintro z w2 ⟨u,rfl,hu,K2⟩;obtain ⟨ua,uc,rfl⟩:=own_len hu;have HU:=hid (And.intro hu (And.intro K2 (And.intro (HH.out.1.keep K2 (fun x=>x) : NwB w2 xb cb g l.length pv m) (And.intro (HH.out.2.1.keep0 K2) (K2.at_ HH.out.2.2 (fun x=>x) : OnB w2 g on)))));clear hu K2 E0 HH c0'
 go_wp2_with fail
 go_loopw [6,7,8] (fun fv av kv wr=>∃ k : Nat,kv = .int .i64 k ∧ k ≤ ks.length ∧ fv = .bool ((ks.take k).any fun j=>Ch.kindAt ol.sts j == 4 && Ch.bit m.s.act j) ∧ av = .bool (if y.n.kind == 3 then (ks.take k).all (fun j=>Ch.atEnd ol.sts m.s.act j) else true) ∧ Kp (fun _=>False) w2 wr) (fun _ _ kv _=>ks.length - (intOf kv).toNat)
 case atStart=>exact ⟨0,rfl,Nat.zero_le _,rfl,by cases y.n.kind == 3 <;> rfl,Kp.refl _ _⟩
 case round =>
  obtain ⟨k,rfl,hk,rfl,rfl,KW⟩:=hrel;have hr : NwB wr xb cb g l.length pv m:=HU.out.2.2.1.keep KW (fun x=>x);have hFr:=HU.out.2.2.2.1.keep0 KW;have honr : OnB wr g on:=KW.at_ HU.out.2.2.2.2 (fun x=>x);have hur:=KW.owns HU.out.1 (fun _ _ x=>x);have c0 : wr.cell? ⟨xb,0,none⟩ = some (.pointer (some ⟨cb,0,none⟩)):=hr.cell 0;have c1 : wr.cell? ⟨xb,1,none⟩ = some (.slice (some ⟨g,0,none⟩) l.length l.length):=hr.cell 1;have zc:=hFr.cell;obtain ⟨g1,cap1,hv,_,hcell,_⟩:=hFr.2.1.form hy;simp only [Value.slice.injEq] at hv;obtain ⟨rfl,-,rfl⟩:=hv;have zi : wr.cell? ⟨g1,i * 7 + 1,none⟩ = some (.int .i64 y.n.kind):=hcell 1 (by omega)
  by_cases hlt : k < ks.length
  ·have hlt' : (k : Int) < (ks.length : Int):=by omega
   obtain ⟨j,hj⟩ : ∃ j,ks[k]? = some j:=⟨_,List.getElem?_eq_getElem hlt⟩
   have hjl:=HL.out j (List.mem_of_getElem? hj)
   have hjl' : (j : Int) < (l.length : Int):=by omega
   obtain ⟨yj,hyj⟩ : ∃ yj,l[j]? = some yj:=⟨_,List.getElem?_eq_getElem hjl.2⟩
   obtain ⟨g3,cap3,hv3,_,hcell3,_⟩:=hFr.2.1.form hyj;simp only [Value.slice.injEq,Option.some.injEq,Addr.mk.injEq,true_and,and_true] at hv3;obtain ⟨rfl,rfl⟩:=hv3;have zj : wr.cell? ⟨g1,j * 7 + 1,none⟩ = some (.int .i64 yj.n.kind):=hcell3 1 (by omega);obtain ⟨g2,cap2,hv2,_⟩:=World.ownsRow.form hur (by omega);simp only [Value.slice.injEq] at hv2;obtain ⟨rfl,-,rfl⟩:=hv2
   have zk : wr.cell? ⟨g2,k,none⟩ = some (.int .i64 j):=by
    rw [World.ownsRow.cellAt hur k (by omega)];simp [inCells,Ch.natI,hj]
   have zon:=honr.cell (k:=j) (by have:=hso.1;omega);have hF1:=Ch.any_take_succ (p:=fun j=>Ch.kindAt ol.sts j == 4 && Ch.bit m.s.act j) hj
   have hA1 : (ks.take (k + 1)).all (fun j=>Ch.atEnd ol.sts m.s.act j) = ((ks.take k).all (fun j=>Ch.atEnd ol.sts m.s.act j) && Ch.atEnd ol.sts m.s.act j):=by
    rw [List.take_add_one,hj,List.all_append];simp
   simp only [hR.kind hyj,← hso.2.2 j] at hF1;have E:=hid (fun nn=>HIH.out (wr.drewN nn) j (by omega) hjl.2 (hr.keep ((Kp.refl (fun _=>False) _).drewN nn) (fun x=>x)) (((Kp.refl (fun _=>False) _).drewN nn).at_ honr (fun x=>x)) (hFr.keep0 ((Kp.refl _ _).drewN nn)));have HF1:=hid hF1;have HA1:=hid hA1;have HKW:=hid KW;generalize (ks.take k).any (fun j=>Ch.kindAt ol.sts j == 4 && Ch.bit m.s.act j) = fb at *;generalize (ks.take k).all (fun j=>Ch.atEnd ol.sts m.s.act j) = ab at *;generalize Ch.atEnd ol.sts m.s.act j = ej at *;generalize Ch.onAt on j = oj at *;clear hr hFr honr hur KW hcell hcell3 hF1 hA1
   cases q3 : y.n.kind == 3 with
   | false =>
     cases q4 : yj.n.kind == 4 <;> cases oj <;> rw [q4] at HF1 <;>
     (go_upto_region 7 with (fail)
      go_quiet (fail)
      go_wp2
      go_roundw
      case rel=>exact ⟨k + 1,by go_num,by omega,by rw [HF1.out];cases fb <;> rfl,by rfl,HKW.out.drewN _⟩
      case measure=>simp [intOf];omega)
   | true=>?_
   cases q4 : yj.n.kind == 4 <;> cases oj <;> rw [q4] at HF1 <;>
   (go_upto_region 7 with (fail)
    go_quiet (fail)
    go_wp2_with fail
    refine Calls.mono (Hid.out E _) ?_;rintro z w5 ⟨rfl,K5⟩;have HK5:=hid ((HKW.out.drewN nq).trans K5);clear K5
    cases ab <;> cases ej <;>
    (go_wp2
     go_roundw
     case rel=>exact ⟨k + 1,by go_num,by omega,by rw [HF1.out];cases fb <;> rfl,by simp [HA1.out],HK5.out⟩
     case measure=>simp [intOf];omega))
  have hge : ¬ (k : Int) < (ks.length : Int):=by omega
  obtain rfl : k = ks.length:=by omega
  rw [List.take_length];have hs2:=HST.out;have HKW:=hid (HU.out.2.1.trans KW);clear hr hFr honr hur KW hcell
  cases q2 : y.n.kind == 2 with
  | true =>
    have e2 : y.n.kind = 2:=by simpa using q2
    rw [q2] at hs2;have HN:=hid (hs2.trans (if_pos rfl));rw [e2] at zi;clear hs2;rw [e2];go_wp2;go_ret;rw [HN.out];exact ⟨rfl,HKW.out⟩
  | false=>?_
  rw [q2] at hs2
  cases q3 : y.n.kind == 3 with
  | true =>
    have e3 : y.n.kind = 3:=by simpa using q3
    rw [q3] at hs2;have HN:=hid (hs2.trans rfl);rw [e3] at zi;clear hs2;go_wp2;go_ret;rw [HN.out];exact ⟨by simp,HKW.out⟩
  | false=>?_
  rw [q3] at hs2;have HN:=hid (hs2.trans rfl);clear hs2;go_wp2;go_ret;rw [HN.out];exact ⟨by simp,HKW.out⟩
end
namespace Ch
theorem sorted_len : ∀ (l : List Nat) (a b : Nat),l.Pairwise (· < ·) → (∀ x ∈ l,a ≤ x ∧ x < b) → l.length ≤ b - a:=by
 intro l
 induction l with
 | nil=>intro a b _ _;simp
 | cons x l ih=>?_
 intro a b hp hm;rw [List.pairwise_cons] at hp;have hx:=hm x (by simp);have:=ih (x + 1) b hp.2 (fun y hy=>⟨hp.1 y hy,(hm y (by simp [hy])).2⟩);simp;omega
theorem next_len {ss : List St} (h : Shp ss) (S : Nat → Bool) (goals : List Int) {i : Nat} (hi : i < ss.length) : (nextR ss S goals ss.length i).length ≤ ss.length:=by
 obtain ⟨_,_,h3,_,h5⟩:=next_mem h S goals ss.length i hi (by omega);have:=sorted_len _ 0 ss.length h5 (fun x hx=>⟨Nat.zero_le _,(h3 x hx).1⟩);omega
theorem lastP_snoc (p : Nat → Bool) (c : Nat) {l : List Nat} {k j : Nat} (h : l[k]? = some j) : lastP p c (l.take (k + 1)) = if p j then j else lastP p c (l.take k):=by
 unfold lastP;rw [List.take_add_one,h,List.foldl_append];rfl
theorem lastP_mem (p : Nat → Bool) {c : Nat} {l : List Nat} (hc : c ∈ l) (k : Nat) : lastP p c (l.take k) ∈ l:=by
 rcases lastP_cases p (l.take k) c with ⟨e,_⟩ | ⟨e,_⟩
 ·rw [e];exact hc
 exact List.mem_of_mem_take e
def hit1 (ss : List St) (k : Nat) (g : Int) : Bool:=decide (0 ≤ g) && (g == (k : Int) || isAbove ss k g)
theorem hitG_any (ss : List St) (goals : List Int) (k : Nat) : hitG ss goals k = goals.any (hit1 ss k):=rfl
end Ch
section
variable (B xb cb g : Nat) (pv : Value) (m : Ch.Ma) (l : List NV) (v : Value) (ol : Ch.Ol)
theorem rNext_at (on : List Bool) (hso : Ch.SameOn l.length on m.s.act) (hR : Rf l ol) (goals : List Int) (gv : Value) (B3 : Nat) (hgl : goals.length ≤ 16) (hgo : ∀ x ∈ goals,x < l.length) : ∀ (N : Nat) (w : World) (i : Nat),l.length ≤ i + N → i < l.length → NwB w xb cb g l.length pv m → OnB w g on → ChF w B cb l v → w.ownsRow B3 3 1 gv goals.length (inCells goals) →
 Calls Tryz.prog 239 #[.pointer (some ⟨xb,0,none⟩),.int .i64 i,gv] w fun y w'=>∃ u,y = .returned u ∧ w'.ownsRow w.heap.size 3 1 u (Ch.nextR ol.sts (Ch.bit m.s.act) goals ol.sts.length i).length (inCells (Ch.natI (Ch.nextR ol.sts (Ch.bit m.s.act) goals ol.sts.length i))) ∧ Kp (fun _=>False) w w':=by
 obtain ⟨i0,hi0,hz0,hz1,hz2⟩:=info_parts Tryz.infoInt;intro N
 induction N with
 | zero=>intro w i h1 h2;omega
 | succ N ih =>
 intro w i hN hi h hon hF hg;have hle:=hR.le
 have hil : i < ol.sts.length:=by rw [hR.len];exact hi
 have hst:=Ch.next_step hR.ols.shp (Ch.bit m.s.act) goals hil;have hlen:=Nat.le_trans (Ch.next_len hR.ols.shp (Ch.bit m.s.act) goals hil) hR.ols.le;have hkl:=Ch.kidsR_len (Ch.mk l) (i : Int)
 have hlt0:=fun j (h : j ∈ Ch.kidsR (Ch.mk l) (i : Int))=>(show i < j ∧ j < l.length from by
  rw [Ch.kids_eq hR] at h;have:=Ch.kid_lt hR.ols.shp (Ch.mem_kids.1 h)
  rw [hR.len] at this;exact this)
 have hne : Ch.kindAt ol.sts i = 2 → Ch.kidsR (Ch.mk l) (i : Int) ≠ []:=fun hk=>by
  obtain ⟨j,_,hj⟩:=hR.ols.shp.kid i hil (.inl hk);rw [Ch.kids_eq hR];intro hz;have:=Ch.mem_kids.2 hj;rw [hz] at this;cases this
 unfold Ch.pickR at hst;rw [← Ch.kids_eq hR] at hst;rw [Ch.mk_len] at hkl;obtain ⟨ao,cap,rfl⟩:=hF.2.1.len
 obtain ⟨y,hy⟩ : ∃ y,l[i]? = some y:=⟨_,List.getElem?_eq_getElem hi⟩
 rw [hR.kind hy] at hst hne
 have hi' : (i : Int) < (l.length : Int):=by omega
 have hb1:=heap_alloc_new w (.cells #[.int .i64 i] 3);have K1 : Kp (fun _=>False) w (w.alloc (.cells #[.int .i64 i] 3)):=(Kp.refl _ _).alloc _
 have ho1 : (w.alloc (.cells #[.int .i64 i] 3)).ownsRow w.heap.size 3 1 (.slice (some ⟨w.heap.size,0,none⟩) 1 1) 1 (inCells (Ch.natI [i])):=⟨rfl,.inr ⟨w.heap.size,1,_,rfl,Nat.le_refl _,hb1,Nat.le_refl _,by unfold maxLen;omega,rfl,rfl⟩⟩
 have hF1:=hF.keep0 K1;have hxo : xb ≠ w.heap.size:=Nat.ne_of_lt (lt_of_block h);have hgw : g ≠ w.heap.size:=Nat.ne_of_lt (lt_of_block hon)
 have hgvo : ∀ k,gv.ownBlock = some k → k ≠ w.heap.size:=fun k hk=>Nat.ne_of_lt (hg.lt k hk).2
 have hs1 : (w.alloc (.cells #[.int .i64 i] 3)).heap.size = w.heap.size + 1:=by simp only [World.alloc,Array.size_push]
 have E0:=hid (rKids_any _ B cb l _ (i : Int) hF1 (by omega));generalize Ch.kidsR (Ch.mk l) (i : Int) = ks at *;have HL:=hid hlt0;have HST:=hid (And.intro hst (And.intro hlen hne));have HIH:=hid ih;have HH:=hid (And.intro (h.keep K1 (fun x=>x) : NwB _ xb cb g l.length pv m) (And.intro hF1 (And.intro (K1.at_ hon (fun x=>x) : OnB _ g on) (And.intro (K1.owns hg (fun _ _ x=>x)) ho1))));clear h hF hon hlt0 hst ih hlen hne hF1 hg ho1
 go_enter Tryz.func239,Tryz.ntmps239
 go_upto_region 2 with (fail)
 generalize w.alloc (.cells #[.int .i64 i] 3) = w1 at *;generalize hob : w.heap.size = ob at *;have c0 : w1.cell? ⟨xb,0,none⟩ = some (.pointer (some ⟨cb,0,none⟩)):=HH.out.1.cell 0
 go_wp2_with fail
 refine cMo E0 ?_;rintro z w2 ⟨u,rfl,hu,K2⟩;obtain ⟨ua,uc,rfl⟩:=own_len hu;have HU:=hid (And.intro hu (And.intro (K1.trans K2) (And.intro (HH.out.1.keep K2 (fun x=>x) : NwB w2 xb cb g l.length pv m) (And.intro (HH.out.2.1.keep0 K2) (And.intro (K2.at_ HH.out.2.2.1 (fun x=>x) : OnB w2 g on) (And.intro (K2.owns HH.out.2.2.2.1 (fun _ _ x=>x)) (K2.owns HH.out.2.2.2.2 (fun _ _ x=>x))))))))
 have huo : ∀ k,(Value.slice ua ks.length uc).ownBlock = some k → k ≠ ob:=fun k hk=>by have:=(hu.lt k hk).1;omega
 have hbo:=K2.at_ hb1 (fun x=>x);obtain ⟨ga,gc,hgv⟩:=own_len HU.out.2.2.2.2.2.1;subst hgv;have hsz2:=HU.out.2.1.size;clear hu K2 K1 E0 HH c0
 have HKP:=hid (fun (W : World) (KW : Kp (fun k=>k = ob) w2 W)=>show NwB W xb cb g l.length pv m ∧ OnB W g on ∧ ChF W B cb l (.slice ao l.length cap) ∧ W.ownsRow B3 3 1 (.slice ga goals.length gc) goals.length (inCells goals) ∧ W.ownsRow w1.heap.size 3 1 (.slice ua ks.length uc) ks.length (inCells (Ch.natI ks)) from
  ⟨HU.out.2.2.1.keep KW hxo,KW.at_ HU.out.2.2.2.2.1 hgw,HU.out.2.2.2.1.keepT KW (fun i cur T hi _ hT e=>by
   subst e;rw [hbo] at hi;simp only [Option.some.injEq,Obj.cells.injEq] at hi
   rcases hT with h | h | h | h <;> rw [h] at hi <;> exact absurd hi.2.1 (by decide)),KW.owns HU.out.2.2.2.2.2.1 hgvo,KW.owns HU.out.1 huo⟩)
 have hF2:=HU.out.2.2.2.1;have c0 : w2.cell? ⟨xb,0,none⟩ = some (.pointer (some ⟨cb,0,none⟩)):=HU.out.2.2.1.cell 0;have zc:=hF2.cell;obtain ⟨g1,cap1,hv,_,hcell,_⟩:=hF2.2.1.form hy;simp only [Value.slice.injEq] at hv;obtain ⟨rfl,-,rfl⟩:=hv;have zi : w2.cell? ⟨g1,i * 7 + 1,none⟩ = some (.int .i64 y.n.kind):=hcell 1 (by omega);clear hF2 hcell
 cases q2 : y.n.kind == 2 with
 | true =>
   have e2 : y.n.kind = 2:=by simpa using q2
   have q3 : (y.n.kind == 3) = false:=by rw [e2];rfl
   have hst:=HST.out.1;rw [q2] at hst;simp only [if_true] at hst
   obtain ⟨k0,kt,hks⟩ : ∃ k0 kt,ks = k0 :: kt:=by
    have:=HST.out.2.2 e2
    cases ks with
    | nil=>exact absurd rfl this
    | cons a b=>exact ⟨a,b,rfl⟩
   have hk0 : ks.headD 0 = k0:=by rw [hks];rfl
   have hk0m : k0 ∈ ks:=by rw [hks];simp
   have hpos : 0 < ks.length:=by rw [hks];simp
   have hpos' : (0 : Int) < (ks.length : Int):=by omega
   rw [hk0] at hst;obtain ⟨g2,cap2,hv2,_⟩:=World.ownsRow.form HU.out.1 (by omega);simp only [Value.slice.injEq] at hv2;obtain ⟨rfl,-,rfl⟩:=hv2
   have z0 : w2.cell? ⟨g2,0,none⟩ = some (.int .i64 k0):=by
    rw [World.ownsRow.cellAt HU.out.1 0 (by omega),hks];rfl
   have HS:=hid hst;clear hst hks hk0
   go_wp2_with fail
   go_loopw [9,10] (fun cv kv wr=>∃ k : Nat,kv = .int .i64 k ∧ k ≤ ks.length ∧ cv = .int .i64 (Ch.lastP (Ch.hitG ol.sts goals) k0 (ks.take k) : Nat) ∧ Kp (fun _=>False) w2 wr) (fun _ kv _=>ks.length - (intOf kv).toNat)
   case atStart=>exact ⟨0,rfl,Nat.zero_le _,rfl,Kp.refl _ _⟩
   case round =>
    obtain ⟨k,rfl,hk,rfl,KW⟩:=hrel
    by_cases hlt : k < ks.length
    ·have hlt' : (k : Int) < (ks.length : Int):=by omega
     obtain ⟨kk,hkk⟩ : ∃ kk,ks[k]? = some kk:=⟨_,List.getElem?_eq_getElem hlt⟩
     have hkkl:=HL.out kk (List.mem_of_getElem? hkk);have HLS:=hid (Ch.lastP_snoc (Ch.hitG ol.sts goals) k0 hkk);generalize Ch.lastP (Ch.hitG ol.sts goals) k0 (ks.take k) = ck at *
     go_wp2_with fail
     go_loopw [9,11] (fun cv jv wq=>∃ j : Nat,jv = .int .i64 j ∧ j ≤ goals.length ∧ cv = .int .i64 ((if (goals.take j).any (Ch.hit1 ol.sts kk) then kk else ck : Nat) : Int) ∧ Kp (fun _=>False) w2 wq) (fun _ jv _=>goals.length - (intOf jv).toNat)
     case atStart=>exact ⟨0,rfl,Nat.zero_le _,rfl,KW⟩
     case round =>
      obtain ⟨j,rfl,hj,rfl,KQ⟩:=hrel;have KQ' : Kp (fun k=>k = ob) w2 wr:=KQ.mono (fun _ _ x=>x.elim);obtain ⟨hr,honr,hFr,hgr,hur⟩:=HKP.out wr KQ';have c0 : wr.cell? ⟨xb,0,none⟩ = some (.pointer (some ⟨cb,0,none⟩)):=hr.cell 0
      have zk : wr.cell? ⟨g2,k,none⟩ = some (.int .i64 kk):=by
       rw [World.ownsRow.cellAt hur k (by omega)];simp [inCells,Ch.natI,hkk]
      by_cases hjl : j < goals.length
      ·have hjl' : (j : Int) < (goals.length : Int):=by omega
       obtain ⟨gj,hgj⟩ : ∃ gj,goals[j]? = some gj:=⟨_,List.getElem?_eq_getElem hjl⟩
       have hgjl:=hgo gj (List.mem_of_getElem? hgj);obtain ⟨g3,cap3,hv3,_⟩:=World.ownsRow.form hgr (by omega);simp only [Value.slice.injEq] at hv3;obtain ⟨rfl,-,rfl⟩:=hv3
       have zg : wr.cell? ⟨g3,j,none⟩ = some (.int .i64 gj):=by
        rw [World.ownsRow.cellAt hgr j (by omega)];simp [inCells,hgj]
       have hsn : (goals.take (j + 1)).any (Ch.hit1 ol.sts kk) = ((goals.take j).any (Ch.hit1 ol.sts kk) || Ch.hit1 ol.sts kk gj):=by
        rw [List.take_add_one,hgj,List.any_append];simp
       generalize (goals.take j).any (Ch.hit1 ol.sts kk) = aj at *
       by_cases hg0 : 0 ≤ gj
       ·obtain ⟨gn,rfl⟩ : ∃ gn : Nat,gj = gn:=⟨gj.toNat,by omega⟩
        have E:=hid (fun nn=>rAbove_any (wr.drewN nn) B cb l _ kk gn (hFr.keep0 ((Kp.refl _ _).drewN nn)) (by omega) hR.up (by omega))
        have hh : Ch.hit1 ol.sts kk gn = ((gn : Int) == (kk : Int) || Ch.isAbove (Ch.sts l) kk gn):=by unfold Ch.hit1;rw [decide_eq_true hg0,Bool.true_and,hR.sts]
        rw [hh] at hsn;generalize Ch.isAbove (Ch.sts l) kk gn = ab at *;clear hr honr hFr hgr hur hh
        cases qe : (gn : Int) == (kk : Int) with
        | true =>
          have HN:=hid (show (goals.take (j + 1)).any (Ch.hit1 ol.sts kk) = true by rw [hsn,qe];simp);clear hsn
          go_upto_region 11 with (fail)
          go_quiet ((go_at_call 243;exact Calls.quiet_of_same (Hid.out E _)))
          go_wp2
          go_roundw
          case rel=>exact ⟨j + 1,by go_num,by omega,by rw [HN.out];rfl,KQ.drewN _⟩
          case measure=>simp [intOf];omega
        | false=>?_
        have HN:=hid (show (goals.take (j + 1)).any (Ch.hit1 ol.sts kk) = (aj || ab) by rw [hsn,qe];simp);clear hsn
        cases ab <;>
        (go_upto_region 11 with (fail)
         go_quiet ((go_at_call 243;exact Calls.quiet_of_same (Hid.out E _)))
         go_wp2
         go_roundw
         case rel=>exact ⟨j + 1,by go_num,by omega,by rw [HN.out];cases aj <;> rfl,KQ.drewN _⟩
         case measure=>simp [intOf];omega)
       have hg1 : gj < 0:=by omega
       have HN:=hid (show (goals.take (j + 1)).any (Ch.hit1 ol.sts kk) = aj by rw [hsn];unfold Ch.hit1;rw [decide_eq_false hg0];simp);clear hr honr hFr hgr hur hsn
       go_upto_region 11 with (fail)
       go_quiet (fail)
       go_wp2
       go_roundw
       case rel=>exact ⟨j + 1,by go_num,by omega,by rw [HN.out],KQ.drewN _⟩
       case measure=>simp [intOf];omega
      have hge : ¬ (j : Int) < (goals.length : Int):=by omega
      obtain rfl : j = goals.length:=by omega
      rw [List.take_length];have HN:=hid HLS.out;clear hr honr hFr hgr hur;go_wp2
      go_roundw
      case rel=>exact ⟨k + 1,by go_num,by omega,by rw [HN.out,Ch.hitG_any],KQ⟩
      case measure=>simp [intOf];omega
    have hge : ¬ (k : Int) < (ks.length : Int):=by omega
    obtain rfl : k = ks.length:=by omega
    rw [List.take_length]
    have hc1 : Ch.lastP (Ch.hitG ol.sts goals) k0 ks ∈ ks:=by have:=Ch.lastP_mem (Ch.hitG ol.sts goals) hk0m ks.length;rwa [List.take_length] at this
    generalize Ch.lastP (Ch.hitG ol.sts goals) k0 ks = c1 at *
    go_wp2_with fail
    go_loopw [9,12] (fun cv kv wr=>∃ k : Nat,kv = .int .i64 k ∧ k ≤ ks.length ∧ cv = .int .i64 (Ch.lastP (Ch.bit m.s.act) c1 (ks.take k) : Nat) ∧ Kp (fun _=>False) w2 wr) (fun _ kv _=>ks.length - (intOf kv).toNat)
    case atStart=>exact ⟨0,rfl,Nat.zero_le _,rfl,KW⟩
    case round =>
     obtain ⟨k,rfl,hk,rfl,KQ⟩:=hrel;have KQ' : Kp (fun k=>k = ob) w2 wr:=KQ.mono (fun _ _ x=>x.elim);obtain ⟨hr,honr,hFr,hgr,hur⟩:=HKP.out wr KQ'
     by_cases hlt : k < ks.length
     ·have hlt' : (k : Int) < (ks.length : Int):=by omega
      obtain ⟨kk,hkk⟩ : ∃ kk,ks[k]? = some kk:=⟨_,List.getElem?_eq_getElem hlt⟩
      have hkkl:=HL.out kk (List.mem_of_getElem? hkk)
      have hkk' : (kk : Int) < (l.length : Int):=by omega
      have c1c : wr.cell? ⟨xb,1,none⟩ = some (.slice (some ⟨g,0,none⟩) l.length l.length):=hr.cell 1
      have zk : wr.cell? ⟨g2,k,none⟩ = some (.int .i64 kk):=by
       rw [World.ownsRow.cellAt hur k (by omega)];simp [inCells,Ch.natI,hkk]
      have zon:=honr.cell (k:=kk) (by have:=hso.1;omega);have hls:=Ch.lastP_snoc (Ch.bit m.s.act) c1 hkk;rw [← hso.2.2 kk] at hls;have HLS:=hid hls;generalize Ch.lastP (Ch.bit m.s.act) c1 (ks.take k) = ck at *;generalize Ch.onAt on kk = ok at *;clear hr honr hFr hgr hur hls
      cases ok <;>
      (go_upto_region 16 with (fail)
       go_quiet (fail)
       go_wp2
       go_roundw
       case rel=>exact ⟨k + 1,by go_num,by omega,by rw [HLS.out];rfl,KQ.drewN _⟩
       case measure=>simp [intOf];omega)
     have hge : ¬ (k : Int) < (ks.length : Int):=by omega
     obtain rfl : k = ks.length:=by omega
     rw [List.take_length];have hst:=HS.out
     have hc2 : Ch.lastP (Ch.bit m.s.act) c1 ks ∈ ks:=by have:=Ch.lastP_mem (Ch.bit m.s.act) hc1 ks.length;rwa [List.take_length] at this
     generalize Ch.lastP (Ch.bit m.s.act) c1 ks = c2 at *;have hc2l:=HL.out c2 hc2;have E:=hid (HIH.out wr c2 (by omega) hc2l.2 hr honr hFr hgr);have hlen:=HST.out.2.1;rw [hst] at hlen;simp only [List.length_cons] at hlen
     have hne : 0 < (Ch.nextR ol.sts (Ch.bit m.s.act) goals ol.sts.length c2).length:=by
      rw [Ch.next_step hR.ols.shp _ _ (by rw [hR.len];exact hc2l.2)];simp
     generalize Ch.nextR ol.sts (Ch.bit m.s.act) goals ol.sts.length c2 = nj at *;have HN:=hid hst;have ho:=KQ.owns HU.out.2.2.2.2.2.2 (fun _ _ x=>x);have HX:=hid (And.intro ho KQ');clear hr honr hFr hgr hur hst ho
     go_wp2_with fail
     refine cMo E ?_;rintro z w5 ⟨u5,rfl,hu5,K5⟩;obtain ⟨g5,cap5,hv5,_⟩:=World.ownsRow.form hu5 hne;subst hv5;have ho5:=K5.owns HX.out.1 (fun _ _ x=>x);have KW5 : Kp (fun k=>k = ob) w2 w5:=HX.out.2.trans' K5 (fun _ _ x=>x.elim);have hsz5:=KW5.size;have hsob : ob < w2.heap.size:=lt_of_block hbo
     have hcells : ∀ e u,(inCells (Ch.natI nj))[e]? = some u → w5.cell? ((⟨g5,0,none⟩ : Addr).add e) = some u:=by
      intro e u he;have hlt:=(List.getElem?_eq_some_iff.1 he).1
      have hlt2 : e < nj.length:=by simpa [inCells,Ch.natI] using hlt
      have:=World.ownsRow.cellAt hu5 e (by omega);rw [he] at this
      by_cases c : e = 0
      ·subst c;simpa [Addr.add] using this
      simpa [Addr.add,c] using this
     go_wp2_with (at_builtin;refine wpList_append_where (P:=Tryz.prog) rfl (.tmp 110) (.tmp 111) 38 rfl ob 3 i0 (.int .i64 0) 1 8 Tryz.underlying38 hi0 hz0 hz1 hz2 rfl (by decide) (.slice (some ⟨ob,0,none⟩) 1 1) 1 (inCells (Ch.natI [i])) rfl (by exact ho5) ⟨g5,0,none⟩ nj.length cap5 (inCells (Ch.natI nj)) rfl (by simp [inCells,Ch.natI]) hcells (by intro u hu;simp [inCells,Ch.natI] at hu;obtain ⟨_,_,rfl⟩:=hu;rfl) hne (by unfold maxLen;omega) (by omega) (by omega) ?_)
     intro g9 c9 w9 o9 gr9 wh9;have K9 : Kp (fun k=>k = ob) w2 w9:=KW5.grown (by exact gr9) (fun e he hlt=>by simpa [Value.ownBlock] using he.symm);obtain ⟨hr9,_,hF9,_,_⟩:=HKP.out w9 K9;have c09 : w9.cell? ⟨xb,0,none⟩ = some (.pointer (some ⟨cb,0,none⟩)):=hr9.cell 0;have zc9:=hF9.cell;obtain ⟨g1',cap1',hv',_,hcell',_⟩:=hF9.2.1.form hy;simp only [Value.slice.injEq,Option.some.injEq,Addr.mk.injEq,true_and,and_true] at hv';obtain ⟨rfl,rfl⟩:=hv';have zi9 : w9.cell? ⟨g1,i * 7 + 1,none⟩ = some (.int .i64 y.n.kind):=hcell' 1 (by omega);have HO9:=hid (And.intro o9 (HU.out.2.1.trans' K9 (fun i hi e=>by omega)));clear o9 gr9 K9 ho5 KW5 hu5 K5 hcells wh9 hr9 hF9 hcell';go_wp2;go_ret;rw [HN.out];refine ⟨_,rfl,?_,HO9.out.2⟩;have:=HO9.out.1;simp [inCells,Ch.natI] at this ⊢;rw [show nj.length + 1 = 1 + nj.length by omega]
     first | exact this | (rw [hob];exact this)
 | false=>?_
 cases q3 : y.n.kind == 3 with
 | true =>
   have e3 : y.n.kind = 3:=by simpa using q3
   have hst:=HST.out.1;rw [q2,q3] at hst;simp only [Bool.false_eq_true,if_false,if_true] at hst;have hlen:=HST.out.2.1;rw [hst] at hlen;simp only [List.length_cons] at hlen
   have hpre : ∀ k,(i :: (ks.take k).flatMap (Ch.nextR ol.sts (Ch.bit m.s.act) goals ol.sts.length)).length ≤ 16:=fun k=>by
    have hsub : ((ks.take k).flatMap (Ch.nextR ol.sts (Ch.bit m.s.act) goals ol.sts.length)).length ≤ (ks.flatMap (Ch.nextR ol.sts (Ch.bit m.s.act) goals ol.sts.length)).length:=by
     rw [← List.take_append_drop k ks,List.flatMap_append,List.length_append,List.take_append_drop];omega
    simp only [List.length_cons];omega
   have HS:=hid hst;have HP:=hid hpre;clear hst hlen hpre
   go_wp2_with fail
   go_loopw [7,14] (fun ov kv wr=>∃ k : Nat,kv = .int .i64 k ∧ k ≤ ks.length ∧ wr.ownsRow ob 3 1 ov (i :: (ks.take k).flatMap (Ch.nextR ol.sts (Ch.bit m.s.act) goals ol.sts.length)).length (inCells (Ch.natI (i :: (ks.take k).flatMap (Ch.nextR ol.sts (Ch.bit m.s.act) goals ol.sts.length)))) ∧ Hid (∀ e,ov.ownBlock = some e → e = ob ∨ w2.heap.size ≤ e) ∧ Kp (fun k=>k = ob) w2 wr) (fun _ kv _=>ks.length - (intOf kv).toNat)
   case atStart=>exact ⟨0,rfl,Nat.zero_le _,HU.out.2.2.2.2.2.2,hid (fun e he=>.inl (by simpa [Value.ownBlock] using he.symm)),Kp.refl _ _⟩
   case round =>
    obtain ⟨k,rfl,hk,ho,HWH,KW⟩:=hrel
    by_cases hlt : k < ks.length
    ·have hlt' : (k : Int) < (ks.length : Int):=by omega
     obtain ⟨hr,honr,hFr,hgr,hur⟩:=HKP.out wr KW
     obtain ⟨j,hj⟩ : ∃ j,ks[k]? = some j:=⟨_,List.getElem?_eq_getElem hlt⟩
     have hjl:=HL.out j (List.mem_of_getElem? hj);obtain ⟨g2,cap2,hv2,_⟩:=World.ownsRow.form hur (by omega);simp only [Value.slice.injEq] at hv2;obtain ⟨rfl,-,rfl⟩:=hv2
     have zk : wr.cell? ⟨g2,k,none⟩ = some (.int .i64 j):=by
      rw [World.ownsRow.cellAt hur k (by omega)];simp [inCells,Ch.natI,hj]
     have E:=hid (HIH.out wr j (by omega) hjl.2 hr honr hFr hgr)
     have hsn : (ks.take (k + 1)).flatMap (Ch.nextR ol.sts (Ch.bit m.s.act) goals ol.sts.length) = (ks.take k).flatMap (Ch.nextR ol.sts (Ch.bit m.s.act) goals ol.sts.length) ++ Ch.nextR ol.sts (Ch.bit m.s.act) goals ol.sts.length j:=by
      rw [List.take_add_one,hj,List.flatMap_append];simp
     have hp1:=HP.out (k + 1)
     have hne : 0 < (Ch.nextR ol.sts (Ch.bit m.s.act) goals ol.sts.length j).length:=by
      rw [Ch.next_step hR.ols.shp _ _ (by rw [hR.len];exact hjl.2)];simp
     rw [hsn] at hp1;simp only [List.length_cons,List.length_append] at hp1;generalize Ch.nextR ol.sts (Ch.bit m.s.act) goals ol.sts.length j = nj at *;generalize (ks.take k).flatMap (Ch.nextR ol.sts (Ch.bit m.s.act) goals ol.sts.length) = fk at *;have HSN:=hid hsn;have HX:=hid (And.intro ho KW);obtain ⟨oa,oc,hov⟩:=own_len ho;subst hov;clear hr honr hFr hgr hur hsn ho KW
     go_wp2_with fail
     refine cMo E ?_;rintro z w5 ⟨u5,rfl,hu5,K5⟩;obtain ⟨g5,cap5,hv5,_⟩:=World.ownsRow.form hu5 hne;subst hv5;have ho5:=K5.owns HX.out.1 (fun _ _ x=>x);have KW5 : Kp (fun k=>k = ob) w2 w5:=HX.out.2.trans' K5 (fun _ _ x=>x.elim);have hsz5:=KW5.size;have hsob : ob < w2.heap.size:=lt_of_block hbo
     have hcells : ∀ e u,(inCells (Ch.natI nj))[e]? = some u → w5.cell? ((⟨g5,0,none⟩ : Addr).add e) = some u:=by
      intro e u he;have hlt:=(List.getElem?_eq_some_iff.1 he).1
      have hlt2 : e < nj.length:=by simpa [inCells,Ch.natI] using hlt
      have:=World.ownsRow.cellAt hu5 e (by omega);rw [he] at this
      by_cases c : e = 0
      ·subst c;simpa [Addr.add] using this
      simpa [Addr.add,c] using this
     go_wp2_with (at_builtin;refine wpList_append_where (P:=Tryz.prog) rfl (.tmp 138) (.tmp 139) 38 rfl ob 3 i0 (.int .i64 0) 1 8 Tryz.underlying38 hi0 hz0 hz1 hz2 rfl (by decide) (.slice oa (i :: fk).length oc) (i :: fk).length (inCells (Ch.natI (i :: fk))) rfl (by exact ho5) ⟨g5,0,none⟩ nj.length cap5 (inCells (Ch.natI nj)) rfl (by simp [inCells,Ch.natI]) hcells (by intro u hu;simp [inCells,Ch.natI] at hu;obtain ⟨_,_,rfl⟩:=hu;rfl) hne (by unfold maxLen;simp only [List.length_cons];omega) (by simp only [List.length_cons];omega) (by omega) ?_)
     intro g9 c9 w9 o9 gr9 wh9
     have K9 : Kp (fun k=>k = ob) w2 w9:=KW5.grown (by exact gr9) (fun e he hlt=>by
      rcases HWH.out e (by simpa [Value.ownBlock] using he) with h | h
      ·exact h
      omega)
     have HO9:=hid (And.intro o9 (And.intro K9 (show ∀ e,(Value.slice (some ⟨g9,0,none⟩) ((i :: fk).length + nj.length) c9).ownBlock = some e → e = ob ∨ w2.heap.size ≤ e from fun e he=>by
      have heq : g9 = e:=by simpa [Value.ownBlock] using he
      subst heq
      rcases wh9 with h | h
      ·exact HWH.out _ (by simpa [Value.ownBlock] using h)
      exact .inr (by omega))))
     clear o9 gr9 K9 ho5 KW5 hu5 K5 hcells wh9;go_wp2
     go_roundw
     case rel =>
      refine ⟨k + 1,by go_num,by omega,?_,hid (by first | exact HO9.out.2.2 | (have:=HO9.out.2.2;simpa using this)),HO9.out.2.1⟩;rw [HSN.out];have:=HO9.out.1;simp [inCells,Ch.natI] at this ⊢;rw [show fk.length + nj.length + 1 = fk.length + 1 + nj.length by omega];exact this
     case measure=>simp [intOf];omega
    have hge : ¬ (k : Int) < (ks.length : Int):=by omega
    obtain rfl : k = ks.length:=by omega
    rw [List.take_length] at ho;have HX:=hid (And.intro ho (HU.out.2.1.trans' KW (fun i hi e=>by omega)));clear ho KW;go_wp2;go_ret;rw [HS.out];exact ⟨_,rfl,by first | exact HX.out.1 | (rw [hob];exact HX.out.1),HX.out.2⟩
 | false=>?_
 have hst:=HST.out.1;rw [q2,q3] at hst;have HS:=hid (hst.trans (show _ = [i] from rfl));clear hst;go_wp2;go_ret;rw [HS.out];exact ⟨_,rfl,by rw [hob];exact HU.out.2.2.2.2.2.2,HU.out.2.1⟩
end
end Go.Proofs.YtnlbchmfcebeeaaGreat
