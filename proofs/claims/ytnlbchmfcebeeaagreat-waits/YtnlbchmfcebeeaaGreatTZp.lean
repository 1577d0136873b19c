import Derived.Test.YtnlbchmfcebeeaaGreatTZl
import Derived.Test.YtnlbchmfcebeeaaGreatTY2
import Derived.Test.YtnlbchmfcebeeaaGreatTF3
import Derived.Lib.ConvBytes
set_option maxHeartbeats 12800000
set_option maxRecDepth 100000
namespace Go.Proofs.YtnlbchmfcebeeaaGreat
open Go.RowKit
namespace Ch
theorem TL.mono {lo lo' : Int} (h : lo' ≤ lo) : ∀ (n : Nat) {l : List Int},l.length ≤ n → TL lo l → TL lo' l:=by
 intro n
 induction n with
 | zero=>intro l hl _;cases l with | nil=>trivial | cons a l=>simp at hl
 | succ n ih=>?_
 intro l hl hT
 match l,hT with
 | [],_=>trivial
 | a :: b :: l,⟨⟨h1,h2,h3⟩,h4⟩=>exact ⟨⟨h1,by omega,h3⟩,ih (by simp at hl;omega) h4⟩
theorem tmF_tl {t : ByteArray} : ∀ (f k : Nat),tmF t f k = true → t.size ≤ k + f → (t.size - k) % 2 = 0 → TL 49 ((bys t).drop k):=by
 intro f
 induction f with
 | zero=>intro k _ h1 _;rw [List.drop_eq_nil_of_le (by rw [bys_len];omega)];trivial
 | succ f ih=>?_
 intro k h h1 h2
 by_cases c : k + 1 < t.size
 ·rw [bys_drop2 c]
  simp only [tmF,if_pos c] at h
  split at h
  ·rename_i q
   simp at q;refine ⟨⟨q.1.1,by omega,by omega⟩,ih (k + 2) h (by omega) (by omega)⟩
  simp at h
 rw [List.drop_eq_nil_of_le (by rw [bys_len];omega)];trivial
theorem tl_sent {t : ByteArray} (h : areTm t = true) : TL 49 (bys t) ∧ t.size ≤ 16:=by
 unfold areTm at h
 split at h
 ·simp at h
 rename_i c;simp at c;have:=tmF_tl t.size 0 h (by omega) (by omega);exact ⟨by simpa using this,by omega⟩
theorem tpF_text {ss : List St} {t : ByteArray} : ∀ (f k n : Nat) (l : List Int) (r : List Int × Nat),tpF ss t f k n l = some r → k + f ≤ l.length → n ≤ t.size →
 r.2 ≤ t.size ∧ (bys t).drop n = ((List.range' k f).filter (hist ss)).map (fun j=>r.1.getD j 0) ++ (bys t).drop r.2:=by
 intro f
 induction f with
 | zero=>intro k n l r h _ hn;simp [tpF] at h;subst h;exact ⟨hn,by simp⟩
 | succ f ih=>?_
 intro k n l r h hl hn;have hp:=tpF_past (f + 1) k n l r h hl;simp only [tpF] at h;rw [List.range'_succ]
 split at h
 ·rename_i q
  split at h
  ·cases h
  rename_i c
  have c' : n < t.size:=by simp at c;omega
  obtain ⟨h1,h2⟩:=ih (k + 1) (n + 1) _ r h (by simp;omega) (by omega);have h3:=(tpF_past f (k + 1) (n + 1) _ r h (by simp;omega)).1 k (by omega);refine ⟨h1,?_⟩;rw [List.filter_cons_of_pos q,List.map_cons,List.cons_append,← h2,h3]
  have hk : k < l.length:=by omega
  rw [List.drop_eq_getElem_cons (by rw [bys_len];exact c')];have h4:=bys_get t n c';rw [List.getElem?_eq_getElem (by rw [bys_len];exact c')] at h4;simp only [Option.some.injEq] at h4;rw [h4];simp [hk]
 rename_i q;obtain ⟨h1,h2⟩:=ih (k + 1) n l r h (by omega) hn;exact ⟨h1,by rw [List.filter_cons_of_neg q];exact h2⟩
structure TkF (L : List RN) (ol : Ol) (a : As) (sd : Sd) (on : List Bool) : Prop where
 spread : spreadR L a.act = some on
 same : SameOn L.length on sd.act
 past : bys a.past = pastR ol.sts sd
 tm : sd.tm = a.tm
 x : sd.x = a.x
 y : sd.y = a.y
 z : sd.z = a.z
 tl : TmL 48 sd
theorem take_form {L : List RN} {ol : Ol} (hsts : L.map RN.st = ol.sts) (h16 : L.length ≤ 16) {a : As} (h : (takeA ol.sts a).1 = true) : ∃ on,TkF L ol a (takeA ol.sts a).2 on:=by
 have hl : ol.sts.length ≤ 16:=by rw [← hsts];simpa using h16
 unfold takeA take at h ⊢
 split at h
 ·rename_i c1
  rw [if_pos c1]
  split at h
  ·rename_i c2
   rw [if_pos c2]
   split at h
   ·rename_i c3
    rw [if_pos c3];simp only [Bool.and_eq_true] at c3
    have hA : ∃ on,spreadR L a.act = some on ∧ SameOn L.length on (takeActV ol.sts a.act).1:=by
     unfold takeActV takeAct at c1 ⊢;rw [← hsts] at c1 ⊢;unfold spreadR
     rcases spreadF_eq (t:=a.act) h16 a.act.size 0 (-1) _ _ (same0 L.length) (by omega) with ⟨_,e2⟩ | ⟨on,l,e1,e2,hs⟩
     ·rw [e2] at c1;simp at c1
     rw [e2] at c1 ⊢;refine ⟨on,e1,?_⟩
     cases qf : allFit (L.map RN.st) l (L.map RN.st).length with
     | true=>simp only [qf,if_true];exact hs
     | false=>simp only [qf,Bool.false_eq_true,if_false] at c1
    obtain ⟨on,h1,h2⟩:=hA;refine ⟨on,h1,h2,?_,rfl,rfl,rfl,rfl,TL.mono (by omega) _ (Nat.le_refl _) (tl_sent c3.1.1.1).1,(tl_sent c3.1.1.1).2⟩
    show bys a.past = ((List.range ol.sts.length).filter (hist ol.sts)).map fun j=>(takePastV ol.sts a.past).1.getD j 0
    unfold takePastV at c2 ⊢
    cases q : tpF ol.sts a.past (min ol.sts.length 16) 0 0 (blankP ol.sts) with
    | none=>rw [q] at c2;simp at c2
    | some r=>?_
    rw [q] at c2;obtain ⟨rl,rn⟩:=r;have ht:=tpF_text _ _ _ _ _ q (by rw [blankP_len];omega) (by omega);simp only at c2 ht ⊢
    split at c2
    ·simp at c2
    rename_i c;rw [if_neg c]
    have e : rn = a.past.size:=by simp at c;omega
    have:=ht.2;rw [List.drop_eq_nil_of_le (i:=rn) (by rw [bys_len];omega),show min ol.sts.length 16 = ol.sts.length by omega,← List.range_eq_range',List.drop_zero,List.append_nil] at this;exact this
   simp at h
  simp at h
 simp at h
def firedR (ol : Ol) (sd : Sd) (ev : Int) : Bool × As × ByteArray :=
 if (roundsR ol 29 (micro ol ⟨sd,[],[]⟩ (choose ol sd ev))).1 then (true,asOf ol.sts (roundsR ol 29 (micro ol ⟨sd,[],[]⟩ (choose ol sd ev))).2.s,strOfNums (roundsR ol 29 (micro ol ⟨sd,[],[]⟩ (choose ol sd ev))).2.out) else (false,as0,⟨#[]⟩)
theorem fired_eq (ol : Ol) (sd : Sd) (ev : Int) : mfire ol sd ev = if (firedR ol sd ev).1 then ((roundsR ol 29 (micro ol ⟨sd,[],[]⟩ (choose ol sd ev))).2.s,(firedR ol sd ev).2.2,0) else (noSd,ByteArray.empty,9):=by
 unfold mfire finish firedR;rw [roundsR_eq]
 cases busy ol (rounds ol 29 (micro ol ⟨sd,[],[]⟩ (choose ol sd ev))) <;> rfl
end Ch
theorem bytes_kp (w : World) (e : TypeId) (s : ByteArray) : Kp (fun _=>False) w (Lib.bytesWorld w e s):=⟨rfl,rfl,rfl,by rw [Lib.bytesWorld_size];omega,fun k hk _=>Lib.bytesWorld_at_old w e s k hk⟩
theorem bytes_own (w : World) (s : ByteArray) (c : Nat) : OwnP (Lib.bytesWorld w 5 s) w.heap.size (.slice (some ⟨w.heap.size,0,none⟩) s.size c) s.size (byCells (Ch.bys s)):=by
 refine ⟨by simp [byCells,Ch.bys],.inr ⟨_,_,_,_,rfl,Nat.le_refl _,Lib.bytesWorld_at_new w 5 s,.inr (Nat.le_refl _),?_,?_⟩⟩
 ·simp [Lib.bytesCells]
 simp [Lib.bytesCells,byCells,Ch.bys]
section
variable (w : World) (B cb : Nat) (l : List NV) (v : Value) (ol : Ch.Ol)
theorem rFired_any (a : Ch.As) (ev : Int) (sd : Ch.Sd) (on : List Bool) (hF : ChF w B cb l v) (hR : Rf l ol) (ha : a.Sm) (hT : Ch.TkF (Ch.mk l) ol a sd on) (hI : Ch.Inv ol sd) (hok : sd.Ok) :
 Calls Tryz.prog 146 #[.pointer (some ⟨cb,0,none⟩),.agg (asA a),.int .u8 ev] w fun y w'=>y = .returned (.tuple #[.agg (asA (Ch.firedR ol sd ev).2.1),.string (Ch.firedR ol sd ev).2.2,.bool (Ch.firedR ol sd ev).1]) ∧ Kp (fun _=>False) w w':=by
 obtain ⟨da,hdA,hdAa⟩:=Tryz.undAs;have hle:=hR.le;obtain ⟨ao,cap,rfl⟩:=hF.2.1.len;have K0 : Kp (fun _=>False) w ((w.alloc (.cells (asA a) 26)).alloc (.cells y6S 26)):=((Kp.refl _ _).alloc _).alloc _
 have hs0 : ((w.alloc (.cells (asA a) 26)).alloc (.cells y6S 26)).heap[w.heap.size]? = some (.cells (asA a) 26):=by rw [Below.heap_alloc _ _ _ (by simp)];exact heap_alloc_new _ _
 have hb0 : ((w.alloc (.cells (asA a) 26)).alloc (.cells y6S 26)).heap[w.heap.size + 1]? = some (.cells y6S 26):=by
  have:=heap_alloc_new (w.alloc (.cells (asA a) 26)) (.cells y6S 26);simpa using this
 have hF0:=hF.keep0 K0;have hsz0 : w.heap.size + 1 < ((w.alloc (.cells (asA a) 26)).alloc (.cells y6S 26)).heap.size:=lt_of_block hb0;clear hF
 go_enter Tryz.func146,Tryz.ntmps146
 go_upto_region 1 with (fail)
 generalize (w.alloc (.cells (asA a) 26)).alloc (.cells y6S 26) = w0 at *;have E1:=hid (rSpread_any w0 B cb l _ a.act hF0 (by omega) ha.act)
 have c0 : w0.cell? ⟨w.heap.size,0,none⟩ = some (.string a.act):=by rw [World.cell?,hs0];rfl
 have HF:=hid (And.intro hF0 (And.intro hb0 (And.intro K0 hs0)));clear hF0 hb0 K0 hs0
 go_wp2_with fail
 refine hm E1 ?_;rintro y w1 ⟨u,rfl,K1,hsp⟩;obtain ⟨rfl,hon1,_⟩:=hsp on hT.spread;have hs1:=K1.at_ HF.out.2.2.2 (fun x=>x);have hcv:=Lib.run_convert_string_bytes (P:=Tryz.prog) w1 9 47 5 a.past Tryz.underlying9 Tryz.underlying47 Tryz.underlying5;have KB:=bytes_kp w1 5 a.past;have hps:=bytes_own w1 a.past (grownCap w1 a.past.size 0 5);have hlt1 : w0.heap.size < w1.heap.size:=lt_of_block hon1;have hs2:=KB.at_ hs1 (fun x=>x)
 have d1 : w1.cell? ⟨w.heap.size,1,none⟩ = some (.string a.past):=by rw [World.cell?,hs1];rfl
 have d2 : (Lib.bytesWorld w1 5 a.past).cell? ⟨w.heap.size,2,none⟩ = some (.string a.tm):=by rw [World.cell?,hs2];rfl
 have d3 : (Lib.bytesWorld w1 5 a.past).cell? ⟨w.heap.size,3,none⟩ = some (.int .i64 a.x):=by rw [World.cell?,hs2];rfl
 have d4 : (Lib.bytesWorld w1 5 a.past).cell? ⟨w.heap.size,4,none⟩ = some (.int .i64 a.y):=by rw [World.cell?,hs2];rfl
 have d5 : (Lib.bytesWorld w1 5 a.past).cell? ⟨w.heap.size,5,none⟩ = some (.int .i64 a.z):=by rw [World.cell?,hs2];rfl
 have H1:=hid (And.intro (KB.at_ hon1 (fun x=>x) : OnB (Lib.bytesWorld w1 5 a.past) w0.heap.size on) (And.intro (K1.trans KB) hps));clear E1 c0 hs1 hs2 KB hps K1 hsp hon1;generalize grownCap w1 a.past.size 0 5 = pc at *;generalize hw2 : Lib.bytesWorld w1 5 a.past = w2 at *;clear hw2;generalize hg : w0.heap.size = g at *;generalize w1.heap.size = pb at *;generalize hNow : (#[.pointer (some ⟨cb,0,none⟩),.slice (some ⟨g,0,none⟩) l.length l.length,.slice (some ⟨pb,0,none⟩) a.past.size pc,.string a.tm,.int .i64 a.x,.int .i64 a.y,.int .i64 a.z,.string ⟨#[]⟩,.string ⟨#[]⟩] : Array Value) = NW
 go_upto_region 3 with (fail)
 have hN : NwX (w2.alloc (.cells NW 274)) B w0.heap.size w2.heap.size cb g (.slice (some ⟨pb,0,none⟩) a.past.size pc) (.slice ao l.length cap) l ol ⟨sd,[],[]⟩:=by
  have KA:=(Kp.refl (fun _=>False) w2).alloc (.cells NW 274);refine ⟨?_,⟨on,KA.at_ H1.out.1 (fun x=>x),by have:=hT.same;rw [Ch.mk_len] at this;exact this⟩,?_,(HF.out.1.keep0 H1.out.2.1).keep0 KA⟩
  ·unfold NwB nwA
   have e : (#[.pointer (some ⟨cb,0,none⟩),.slice (some ⟨g,0,none⟩) l.length l.length,.slice (some ⟨pb,0,none⟩) a.past.size pc,.string sd.tm,.int .i64 sd.x,.int .i64 sd.y,.int .i64 sd.z,.string ⟨#[]⟩,.string ⟨#[]⟩] : Array Value) = NW:=by rw [hT.tm,hT.x,hT.y,hT.z];exact hNow
   rw [← e];exact heap_alloc_new _ _
  unfold PsR;rw [← hT.past];rw [Ch.bys_len];exact ⟨H1.out.2.2.1,(OwnP.keep H1.out.2.2 KA (fun _ _ x=>x)).2.imp id (fun ⟨g',c',cu,fr,e1,e2,r⟩=>⟨g',c',cu,fr,e1,by omega,r⟩)⟩
 have KW : Kp (fun _=>False) w0 (w2.alloc (.cells NW 274)):=H1.out.2.1.alloc _
 have hgx : g ≤ w2.heap.size:=by have:=H1.out.2.1.size;omega
 have HP:=hid KW;have HX:=hid hN;have hck:=Ch.choose_ok hR.ols hI ev;have hin:=(Ch.choose_in ol sd ev).1;have hc16:=Ch.choose_16 hR.ok sd ev
 have hM : Ch.MOk ⟨sd,[],[]⟩ 0:=⟨hok,hT.tl,⟨Nat.le_refl _,Nat.le_refl _⟩⟩
 have hQ : Ch.QB ⟨sd,[],[]⟩:=fun x hx=>by simp at hx
 have HM:=hid (And.intro (hM.micro hR.ok hR.aca hc16) (And.intro (hQ.micro hR.nmb hR.aca (Ch.choose ol sd ev)) (Ch.micro_inv hR.ols (m:=⟨sd,[],[]⟩) hI ev)));have HC:=hid (And.intro hck (And.intro hin hM));have E2:=hid (rChoose_any (w2.alloc (.cells NW 274)) B w2.heap.size cb g _ ⟨sd,[],[]⟩ l _ ol ev on hN.nb (((Kp.refl (fun _=>False) w2).alloc (.cells NW 274)).at_ H1.out.1 (fun x=>x)) (by have:=hT.same;rw [Ch.mk_len] at this;exact this) hI hN.ch hR)
 have hpl : w0.heap.size ≤ pb:=by omega
 clear hN KW hck hin hM hQ hcv d1 d2 d3 d4 d5 hNow H1;generalize w2.alloc (.cells NW 274) = w3 at *;generalize w2.heap.size = xb at *;have HBG:=hid (show Ch.firedR ol sd ev = if (Ch.roundsR ol 29 (Ch.micro ol ⟨sd,[],[]⟩ (Ch.choose ol sd ev))).1 then (true,Ch.asOf ol.sts (Ch.roundsR ol 29 (Ch.micro ol ⟨sd,[],[]⟩ (Ch.choose ol sd ev))).2.s,strOfNums (Ch.roundsR ol 29 (Ch.micro ol ⟨sd,[],[]⟩ (Ch.choose ol sd ev))).2.out) else (false,Ch.as0,⟨#[]⟩) from rfl);replace E2 : Hid (Calls Tryz.prog 205 #[.pointer (some ⟨xb,0,none⟩),.int .u8 ev] w3 fun y w'=>∃ u,y = .returned u ∧ w'.ownsRow w3.heap.size 301 2 u (Ch.choose ol sd ev).length (mvCells ol (Ch.choose ol sd ev)) ∧ Kp (fun _=>False) w3 w'):=E2;generalize hcs : Ch.choose ol sd ev = cs at *;clear hcs
 go_wp2_with fail
 refine hm E2 ?_;rintro y w4 ⟨u,rfl,hu,K4⟩;have E3:=hid (rMicro_any w4 B w0.heap.size xb cb g _ _ l ol ⟨sd,[],[]⟩ 0 _ cs _ (HX.out.keep0 K4) hR hI HC.out.2.2 (by omega) hc16 HC.out.2.1 HC.out.1.2 HC.out.1.1 hu);have HK4:=hid (HP.out.trans K4);clear E2 hu K4 HP HC HX
 go_wp2_with fail
 refine hm E3 ?_;rintro y w5 ⟨rfl,X5,K5⟩;generalize Ch.micro ol ⟨sd,[],[]⟩ cs = ms at *;have E4:=hid (rRounds_at B w0.heap.size xb cb g _ _ l ol hR 29 w5 ms _ X5 HM.out.2.2 HM.out.1 HM.out.2.1 (by omega));replace E4 : Hid (Calls Tryz.prog 203 #[.pointer (some ⟨xb,0,none⟩),.int .i64 29] w5 fun y w'=>y = .returned (.bool (Ch.roundsR ol 29 ms).1) ∧ NwX w' B w0.heap.size xb cb g (.slice (some ⟨pb,0,none⟩) a.past.size pc) (.slice ao l.length cap) l ol (Ch.roundsR ol 29 ms).2 ∧ Kp (nS xb g (.slice (some ⟨pb,0,none⟩) a.past.size pc)) w5 w'):=E4;have HI8:=hid (show Ch.Inv ol (Ch.roundsR ol 29 ms).2.s by rw [Ch.roundsR_eq];exact Ch.rounds_inv hR.ols 29 HM.out.2.2);have HK5:=hid K5;clear E3 X5 K5 HM
 go_wp2_with fail
 refine hm E4 ?_;rintro y w8 ⟨rfl,X8,K8⟩
 have hnS : ∀ i,i < w0.heap.size → nS xb g (.slice (some ⟨pb,0,none⟩) a.past.size pc) i → False:=fun i hi e=>by
  rcases e with e | e | e
  ·omega
  ·omega
  simp [Value.ownBlock] at e;omega
 have KA : Kp (fun _=>False) w0 w8:=(HK4.out.trans' HK5.out hnS).trans' K8 hnS;have hrb:=KA.at_ HF.out.2.1 (fun x=>x);have HA:=hid (And.intro X8 (HF.out.2.2.1.trans KA));clear E4 X8 K8 HK5 HK4 hnS KA hT;generalize Ch.roundsR ol 29 ms = rr at *;obtain ⟨ok,m8⟩:=rr;generalize hrbe : w.heap.size + 1 = rb at *
 cases ok with
 | false =>
   have HB2:=hid (HBG.out.trans (if_neg (by simp)));have KF : Kp (fun _=>False) w (w8.setRow rb y6S):=HA.out.2.setRow (fun x=>by omega) _;clear HBG HI8 HF HA
   go_wp2_with (refine wpList_store_row rfl 26 (.tmp 6) (.tmp 48) rfl rb y6S rfl rfl 26 y6S hrb Tryz.sizeAs rfl (asOne Ch.as0) ?_)
   refine bodyPost_ret (results_cell_tmp2 rfl _ _ rb 26 y6S (0,0) da rfl (setRow_heap _ _ _ _ _ _ hrb) hdA hdAa Tryz.sizeAs) rfl ?_;rw [HB2.out];exact ⟨rfl,KF⟩
 | true=>?_
 have HB2:=hid (HBG.out.trans (if_pos rfl));have E4:=hid (rState_any w8 B w0.heap.size xb cb g _ _ l ol m8 HA.out.1 hR HI8.out);clear HBG HI8 HF
 go_wp2_with fail
 refine hm E4 ?_;rintro y w9 ⟨rfl,K9⟩;have hrb9:=K9.at_ hrb (fun x=>x);have X9:=HA.out.1.keep0 K9;have hnew:=heap_alloc_new w9 (.cells y6S 26);have aO:=asOne (Ch.asOf ol.sts m8.s);have aI : (Tryz.prog.info? 26).map (·.size) = some (asA (Ch.asOf ol.sts m8.s)).size:=Tryz.sizeAs;have aS : (asA (Ch.asOf ol.sts m8.s)).size = 6:=rfl;generalize hAA : asA (Ch.asOf ol.sts m8.s) = AA at *;have HAA:=hid hAA;have K10 : Kp (fun _=>False) w9 ((w9.alloc (.cells y6S 26)).setRow w9.heap.size AA):=((Kp.refl _ _).alloc _).setRow (fun x=>by omega) _;have hrow:=setRow_heap (w9.alloc (.cells y6S 26)) w9.heap.size y6S AA 26 (0,0) hnew;have hrb10:=K10.at_ hrb9 (fun x=>x);have c8 : ((w9.alloc (.cells y6S 26)).setRow w9.heap.size AA).cell? ⟨xb,8,none⟩ = some (.string (strOfNums m8.out)):=(X9.keep0 K10).nb.cell 8
 have hsb : w9.heap.size ≠ rb:=by have:=lt_of_block hrb9;omega
 have HK:=hid ((HA.out.2.trans K9).trans K10)
 have hxne : xb ≠ rb:=fun e=>by
  have h1:=X9.nb;unfold NwB at h1;rw [e,hrb9] at h1;simp only [Option.some.injEq,Obj.cells.injEq] at h1;exact absurd h1.2.1 (by decide)
 clear hAA E4 K9 K10 X9 HA hrb hrb9
 go_upto_region 9 with (refine wpList_store_row rfl 26 (.tmp 14) (.tmp 50) rfl w9.heap.size AA rfl rfl 26 y6S hnew aI aS.symm aO ?_)
 generalize (w9.alloc (.cells y6S 26)).setRow w9.heap.size AA = w10 at *;clear hnew;generalize w9.heap.size = sb at *
 have hS0 : w10.drew.heap[sb]? = some (.cells AA 26 (0,0)) ∧ w10.drew.cell? ⟨xb,8,none⟩ = some (.string (strOfNums m8.out)):=⟨hrow,c8⟩
 have hS1 : (w10.drew.setRow rb AA).heap[sb]? = some (.cells AA 26 (0,0)) ∧ (w10.drew.setRow rb AA).cell? ⟨xb,8,none⟩ = some (.string (strOfNums m8.out)):=⟨by rw [setRow_other _ _ _ _ hsb];exact hrow,by rw [World.cell?_of_block (setRow_other w10.drew _ _ _ hxne)];exact c8⟩
 have KF : Kp (fun _=>False) w (w10.drew.setRow rb AA):=HK.out.drew.setRow (fun x=>by omega) _;refine region_begin (fun w'=>w'.heap[sb]? = some (.cells AA 26 (0,0)) ∧ w'.cell? ⟨xb,8,none⟩ = some (.string (strOfNums m8.out))) (by kernel_rfl) ?_;refine tk 0 51 (.agg AA) rfl (by kernel_rfl) rfl rfl (fun w' hS=>exec_load_row 26 (.tmp 14) rfl sb (by simp [Act.eval,Act.put]) 26 AA (0,0) da hS.1 hdA hdAa aI) hS0 ?_;simp only [Act.put,pA,pB,pC];refine tk 1 52 (.pointer (some ⟨xb,0,none⟩)) rfl (by kernel_rfl) rfl rfl (fun w' _=>by simp [execOp,Act.eval,go_sem]) hS0 ?_;simp only [Act.put,pA,pB,pC];refine tk 2 53 (.pointer (some ⟨xb,0,none⟩)) rfl (by kernel_rfl) rfl rfl (fun w' _=>by simp [execOp,Act.eval,go_sem]) hS0 ?_;simp only [Act.put,pA,pB,pC];refine tk 3 54 (.pointer (some ⟨xb,8,none⟩)) rfl (by kernel_rfl) rfl rfl (fun w' _=>by simp [execOp,Act.eval,go_sem]) hS0 ?_;simp only [Act.put,pA,pB,pC];refine tk 4 55 (.string (strOfNums m8.out)) rfl (by kernel_rfl) rfl rfl (fun w' hS=>by have:=hS.2;simp [execOp,Act.eval,go_sem,this]) hS0 ?_;simp only [Act.put,pA,pB,pC];refine do_store 5 (by kernel_rfl) rfl rfl 26 (.tmp 6) (.tmp 51) rfl rfl rb AA (by simp [Act.eval]) (by simp [Act.eval]) 26 y6S (by exact hrb10) aI aS.symm aO hS1 ?_;refine tk 6 7 (.string (strOfNums m8.out)) rfl (by kernel_rfl) rfl rfl (fun w' _=>by simp [execOp,Act.eval,go_sem]) hS1 ?_;simp only [Act.put,pA,pB,pC];refine tk 7 8 (.bool true) rfl (by kernel_rfl) rfl rfl (fun w' _=>by rfl) hS1 ?_;simp only [Act.put,pA,pB,pC];refine wpAnyH_done (by kernel_rfl) (NoPanic.normal ?_) _;go_wp2;refine bodyPost_ret (results_cell_tmp2 rfl _ _ rb 26 AA (0,0) da rfl (setRow_heap w10.drew _ _ _ _ _ (by exact hrb10)) hdA hdAa aI) rfl ?_;rw [HB2.out];exact ⟨by rw [← HAA.out];rfl,KF⟩
end
namespace Ch
theorem lgS_take {t : ByteArray} {a : As} (h : lgE t a = 0) : lgS t a = (takeA (read t).2.2.sts a).2 ∧ (takeA (read t).2.2.sts a).1 = true:=by
 unfold lgE at h;unfold lgS
 split at h
 ·rename_i c;simp at c;exact absurd h c
 rename_i c;rw [if_neg c]
 split at h
 ·rename_i c2;rw [if_pos c2];exact ⟨rfl,c2⟩
 simp at h
end Ch
end Go.Proofs.YtnlbchmfcebeeaaGreat
