import Derived.Test.YtnlbchmfcebeeaaGreatTF2
set_option maxHeartbeats 12800000
set_option maxRecDepth 100000
namespace Go.Proofs.YtnlbchmfcebeeaaGreat
open Go.Proofs.Tryz Ch
open Go.RowKit
namespace Ch
def takeA (ss : List St) (a : As) : Bool × Sd:=take ss a.act a.past a.tm a.x a.y a.z
def pJ (t : ByteArray) (a : As) : Int:=if (read t).1 != 0 then (read t).1 else if (takeA (read t).2.2.ag a).1 then 0 else 7
def nV (t : ByteArray) (a : As) : Sd:=if (read t).1 != 0 then fY else if (takeA (read t).2.2.ag a).1 then (takeA (read t).2.2.ag a).2 else fY
theorem IZ (t : ByteArray) (h : (read t).1 = 0) : (read t).2.1 = 0:=by
 unfold read at *
 split at h
 ·simp at h
 rename_i q0;rw [if_neg q0] at *
 split at h
 ·rename_i q1
  rw [if_pos q1] at *
  split at h
  ·rename_i q2;rw [if_pos q2]
  rename_i q2;simp only at h;rw [h] at q2;simp at q2
 simp at h
structure As.Sm (a : As) : Prop where
 act : a.act.size <= 9223372036854775807
 past : a.past.size <= 9223372036854775807
 tm : a.tm.size <= 9223372036854775807
end Ch
section
variable (w : World)
theorem uR (t : ByteArray) (a : As) (ha : a.Sm) :
 Calls prog 55 #[.string t,.agg (bq a)] w fun x w'=>∃ sv tv bv lt lb,x = .returned (.agg (qD (pJ t a) sv tv bv (nV t a))) /\
  (sv.oneCell' = true /\ tv.oneCell' = true /\ bv.oneCell' = true) /\ (pJ t a = 0 -> qY w' w.heap.size (Ch.read t).2.2 sv tv bv lt lb) /\ Kp (fun _=>False) w w':=by
 obtain ⟨dg,hdg,hga⟩:=MM;obtain ⟨da,j5,dV⟩:=jS;obtain ⟨dO,Qr,Lj⟩:=JB;obtain ⟨ds,hds,eH⟩:=cQ
 have hb1 : ((w.alloc (.cells (bq a) 26)).alloc (.cells iF 119)).heap[w.heap.size]? = some (.cells (bq a) 26):=by
  rw [Below.heap_alloc _ _ _ (by simp)];exact heap_alloc_new _ _
 have hr1 : ((w.alloc (.cells (bq a) 26)).alloc (.cells iF 119)).heap[w.heap.size + 1]? = some (.cells iF 119):=heap_alloc2_new w _ _;have K1 : Kp (fun _=>False) w ((w.alloc (.cells (bq a) 26)).alloc (.cells iF 119)):=((Kp.refl _ _).alloc _).alloc _;have E0:=hid (ns t ((w.alloc (.cells (bq a) 26)).alloc (.cells iF 119)));have hol:=jl t;have hrf:=IZ t;have HU:=hid (show pJ t a = if (Ch.read t).1 != 0 then (Ch.read t).1 else if (takeA (Ch.read t).2.2.ag a).1 then 0 else 7 from rfl);have HV:=hid (show nV t a = if (Ch.read t).1 != 0 then fY else if (takeA (Ch.read t).2.2.ag a).1 then (takeA (Ch.read t).2.2.ag a).2 else fY from rfl);have HW:=hid (show bq a = bq a from rfl);generalize Ec : bq a = AA at hb1 hr1 K1 E0 HW ⊢
 have aI : (prog.info? 26).map (·.size) = some AA.size:=by rw [<- Ec];exact bo
 have Qs:=hid Ec;clear Ec HW
 go_enter func55,ntmps55
 go_wp2_with fail
 refine hm E0 ?_;rintro x w2 ⟨sv,tv,bv,lt,lb,rfl,F2,B2⟩;have K2:=gG B2;have hb2:=K2.at_ hb1 (fun x=>x);have hr2:=K2.at_ hr1 (fun x=>x);have KA:=K1.trans K2;have hws : w.heap.size <= ((w.alloc (.cells AA 26)).alloc (.cells iF 119)).heap.size:=K1.size
 have Md : qY w2 w.heap.size (Ch.read t).2.2 sv tv bv lt lb :=
  ⟨eV F2.ag hws,F2.wM,eV F2.bH hws,fun x hx=>eV (F2.kx x hx) hws,F2.y7,eV F2.cM hws,fun x hx=>eV (F2.kH x hx) hws⟩
 clear E0 hb1 hr1 K1 K2 B2 F2 hws;generalize hrd : Ch.read t = rd at *;obtain ⟨re,rf,ol⟩:=rd;have Uz:=hid hrd;clear hrd;simp only at hol Md HU HV hrf;have o1:=fg Md.ag;have o2:=fg Md.bH;have o3:=fg Md.cM;have qZ:=Bi (e:=re) (f:=rf) o1 o2 o3;have hnew:=heap_alloc_new w2 (.cells uc 87);have hrow:=setRow_heap (w2.alloc (.cells uc 87)) w2.heap.size _ (mB re rf sv tv bv) 87 (0,0) hnew;have K3 : Kp (fun _=>False) w2 ((w2.alloc (.cells uc 87)).setRow w2.heap.size (mB re rf sv tv bv)):=((Kp.refl _ _).alloc _).setRow (fun x=>by omega) _;have F3:=Md.au K3;have hb3:=K3.at_ hb2 (fun x=>x);have hr3:=K3.at_ hr2 (fun x=>x);have KB:=KA.trans K3;have hlt : w.heap.size + 1 < w2.heap.size:=lt_of_block hr2;have HX:=hid (ae F3 (ae hb3 (ae hr3 (ae KB hrow))));clear hb2 hr2 KA K3 F3 hb3 hr3 KB hrow Md
 go_upto_region 2 with (refine wpList_store_row rfl 87 (.tmp 5) (.tmp 9) rfl w2.heap.size (mB re rf sv tv bv) rfl rfl 87 uc hnew oD rfl qZ ?_)
 generalize (w2.alloc (.cells uc 87)).setRow w2.heap.size (mB re rf sv tv bv) = w3 at *;obtain ⟨F3,hb3,hr3,KB,hrow⟩:=HX.out
 have z0 : w3.cell? ⟨w2.heap.size,0,none⟩ = some (.int .i64 re):=by rw [World.cell?,hrow];rfl
 clear hnew qZ F3 hb3 KB hrow;generalize w2.heap.size = ob at *
 cases q1 : re != 0 with
 | true =>
   have HE:=hid (HU.out.trans (show _ = re by rw [q1];rfl));have HS:=hid (HV.out.trans (show _ = fY by rw [q1];rfl));have HB:=hid (nF re);have JK:=k_ re (.slice none 0 0) (.slice none 0 0) (.slice none 0 0) l7;have Nq:=jL re (.slice none 0 0) (.slice none 0 0) (.slice none 0 0) l7;have Nr:=nG re (sv:=.slice none 0 0) (tv:=.slice none 0 0) (bv:=.slice none 0 0) rfl rfl rfl fY
   have hre : re ≠ 0:=by simpa using q1
   generalize BJ : qD re (.slice none 0 0) (.slice none 0 0) (.slice none 0 0) fY = GA at *;have HG:=hid BJ;clear BJ
   go_wp2_with (first | (refine bn rfl 119 #[(0,.tmp 14)] rfl GA [(0,.int .i64 re)] ?_ HB.out ?_;rfl) | refine wpList_store_row rfl 119 (.tmp 4) (.tmp 15) rfl (w.heap.size + 1) GA rfl rfl 119 iF hr3 JK (by rw [Nq];rfl) Nr ?_)
   obtain ⟨F3,hb3,hr3,KB,hrow⟩:=HX.out;refine bodyPost_ret (results_cell_row rfl _ _ (w.heap.size + 1) 119 GA (0,0) dg rfl (setRow_heap _ _ _ _ _ _ hr3) hdg (by cases dg <;> first | rfl | exact absurd hga (by simp [ar])) JK) rfl ?_;rw [HE.out,HS.out,<- HG.out];exact ⟨_,_,_,lt,lb,rfl,⟨rfl,rfl,rfl⟩,fun e=>absurd e hre,KB.setRow (fun x=>by omega) _⟩
 | false=>?_
 have hre : re = 0:=by simpa using q1
 have Qt:=hid (HU.out.trans (show _ = if (takeA ol.ag a).1 then (0 : Int) else 7 by rw [q1];rfl));have Qu:=hid (HV.out.trans (show _ = if (takeA ol.ag a).1 then (takeA ol.ag a).2 else fY by rw [q1];rfl));obtain ⟨F3,hb3,Qv,KB,hrow⟩:=HX.out;have hp3:=Pl.ofRow hrow F3;have E1:=hid (CP ob 0 w3 ol.ag a.act a.past a.tm a.x a.y a.z ha.act ha.past ha.tm hp3.str (by have:=hol.ag;omega));have Ns:=xF (ss:=ol.ag) (a:=a.act) (p:=a.past) (t:=a.tm) (x:=a.x) (y:=a.y) (z:=a.z)
 have Qw : Hid (Calls prog 79 #[.pointer (some ⟨ob,0,none⟩),.agg AA] w3
  fun r w'=>r = .returned (.tuple #[.agg (aj (takeA ol.ag a).2).toArray,.bool (takeA ol.ag a).1]) /\ Kp (fun _=>False) w3 w'):=by rw [<- Qs.out];exact E1
 have uS : (takeA ol.ag a).2.Ok:=Ns;clear F3 KB hrow E1 Ns hp3 HU HV;generalize takeA ol.ag a = tk at *;obtain ⟨tb,ts⟩:=tk;simp only at uS Qt Qu Qw;have tI:=cY uS.1;have tS:=dy uS.1;have tO:=fT ts
 go_wp2_with (refine wpList_load_row rfl 26 (.tmp 3) rfl w.heap.size rfl 26 AA (0,0) da hb3 j5 (by cases da <;> first | rfl | exact absurd dV (by simp [ar])) aI ?_)
 refine Calls.mono (Hid.out Qw) ?_;rintro x w4 ⟨rfl,K4⟩;obtain ⟨F3,hb3,hr3,KB,hrow⟩:=HX.out;have F4:=F3.au K4;have hr4:=K4.at_ hr3 (fun x=>x);have hrow4:=K4.at_ hrow (fun x=>x);have KC:=KB.trans K4;have hnew:=heap_alloc_new w4 (.cells aF 95);have jm:=setRow_heap (w4.alloc (.cells aF 95)) w4.heap.size aF (aj ts).toArray 95 (0,0) hnew;have K5 : Kp (fun _=>False) w4 ((w4.alloc (.cells aF 95)).setRow w4.heap.size (aj ts).toArray):=((Kp.refl _ _).alloc _).setRow (fun x=>by omega) _;have F5:=F4.au K5;have gb:=K5.at_ hr4 (fun x=>x);have tE:=K5.at_ hrow4 (fun x=>x);have KD:=KC.trans K5;have HY:=hid (ae F5 (ae gb KD));have HT:=hid (show (aj ts).toArray = (aj ts).toArray from rfl);clear F3 hb3 hr3 Qv KB hrow F4 hr4 hrow4 KC K4 K5 HX Qw F5 KD z0;generalize Nt : (aj ts).toArray = TA at *;have UA:=hid Nt;clear Nt HT
 go_upto_region 5 with (refine wpList_store_row rfl 95 (.tmp 6) (.tmp 19) rfl w4.heap.size TA rfl rfl 95 aF hnew tI (by rw [tS];rfl) tO ?_)
 generalize (w4.alloc (.cells aF 95)).setRow w4.heap.size TA = w5 at *;generalize w4.heap.size = UB at *
 cases tb with
 | false =>
   have HE:=hid (Qt.out.trans (show _ = (7 : Int) from rfl));have HS:=hid (Qu.out.trans (show _ = fY from rfl));have HB:=hid (nF 7);have JK:=k_ 7 (.slice none 0 0) (.slice none 0 0) (.slice none 0 0) l7;have Nq:=jL 7 (.slice none 0 0) (.slice none 0 0) (.slice none 0 0) l7;have Nr:=nG 7 (sv:=.slice none 0 0) (tv:=.slice none 0 0) (bv:=.slice none 0 0) rfl rfl rfl fY;generalize BJ : qD 7 (.slice none 0 0) (.slice none 0 0) (.slice none 0 0) fY = GA at *;have HG:=hid BJ;clear BJ
   go_wp2_with (first | (refine bn rfl 119 #[(0,.const (.int .i64 7))] rfl GA [(0,.int .i64 7)] ?_ HB.out ?_;rfl) | refine wpList_store_row rfl 119 (.tmp 4) (.tmp 23) rfl (w.heap.size + 1) GA rfl rfl 119 iF gb JK (by rw [Nq];rfl) Nr ?_)
   obtain ⟨F5,gb,KD⟩:=HY.out;refine bodyPost_ret (results_cell_row rfl _ _ (w.heap.size + 1) 119 GA (0,0) dg rfl (setRow_heap _ _ _ _ _ _ gb) hdg (by cases dg <;> first | rfl | exact absurd hga (by simp [ar])) JK) rfl ?_;rw [HE.out,HS.out,<- HG.out];exact ⟨_,_,_,lt,lb,rfl,⟨rfl,rfl,rfl⟩,fun e=>absurd e (by decide),KD.setRow (fun x=>by omega) _⟩
 | true=>?_
 have HE:=hid (Qt.out.trans (show _ = (0 : Int) from rfl));have HS:=hid (Qu.out.trans (show _ = ts from rfl));obtain ⟨F5,Nu,KD⟩:=HY.out;obtain ⟨sa,sl,sc,rfl⟩:=cv F5.ag;obtain ⟨ta,tl,tc,rfl⟩:=cv F5.bH;obtain ⟨ba,bl,bc,rfl⟩:=cv F5.cM;have Qx:=hrf hre;subst hre Qx;have HB : Hid (prog.built 119 [(1,.agg (mB 0 0 (.slice sa sl sc) (.slice ta tl tc) (.slice ba bl bc))),(2,.agg TA)] = some (qD 0 (.slice sa sl sc) (.slice ta tl tc) (.slice ba bl bc) ts)):=hid (by rw [<- UA.out];exact xp sa ta ba sl sc tl tc bl bc ts uS.1);have JK:=k_ 0 (.slice sa sl sc) (.slice ta tl tc) (.slice ba bl bc) uS.1;have Nq:=jL 0 (.slice sa sl sc) (.slice ta tl tc) (.slice ba bl bc) uS.1;have Nr:=nG 0 (sv:=.slice sa sl sc) (tv:=.slice ta tl tc) (bv:=.slice ba bl bc) rfl rfl rfl ts;have oI : (prog.info? 87).map (·.size) = some (mB 0 0 (.slice sa sl sc) (.slice ta tl tc) (.slice ba bl bc)).size:=oD;clear F5 KD Nu;generalize BJ : qD 0 (.slice sa sl sc) (.slice ta tl tc) (.slice ba bl bc) ts = GA at *;have HG:=hid BJ;clear BJ;generalize mB 0 0 (.slice sa sl sc) (.slice ta tl tc) (.slice ba bl bc) = OA at *
 go_wp2_with (first | refine wpList_load_row rfl 87 (.tmp 5) rfl ob rfl 87 OA (0,0) dO tE Qr (by cases dO <;> first | rfl | exact absurd Lj (by simp [ar])) oI ?_ | refine wpList_load_row rfl 95 (.tmp 6) rfl UB rfl 95 TA (0,0) ds jm hds (by cases ds <;> first | rfl | exact absurd eH (by simp [ar])) tI ?_ | (refine bn rfl 119 #[(1,.tmp 24),(2,.tmp 25)] rfl GA [(1,.agg OA),(2,.agg TA)] ?_ HB.out ?_;rfl) | refine wpList_store_row rfl 119 (.tmp 4) (.tmp 26) rfl (w.heap.size + 1) GA rfl rfl 119 iF gb JK (by rw [Nq];rfl) Nr ?_)
 obtain ⟨F5,Nu,KD⟩:=HY.out;refine bodyPost_ret (results_cell_row rfl _ _ (w.heap.size + 1) 119 GA (0,0) dg rfl (setRow_heap _ _ _ _ _ _ gb) hdg (by cases dg <;> first | rfl | exact absurd hga (by simp [ar])) JK) rfl ?_;have KR : Kp (fun k=>k = w.heap.size + 1) w5 (w5.setRow (w.heap.size + 1) GA):=Kp.setRow (S:=fun k=>k = w.heap.size + 1) (Kp.refl _ _) (g:=w.heap.size + 1) (fun _=>rfl) _
 have hN : ∀ {base e size v n xs},w5.ownsRow base e size v n xs -> e ≠ 119 -> ∀ i,v.ownBlock = some i -> ¬ i = w.heap.size + 1:=by
  intro base e size v n xs ho he i hi hx;obtain ⟨cur,hc⟩:=aR ho hi;rw [hx,gb] at hc;simp at hc;exact he hc.2.symm
 rw [HE.out,HS.out,<- HG.out];refine ⟨_,_,_,rfl,⟨rfl,rfl,rfl⟩,⟨lt,lb,fun _=>?_⟩,KD.setRow (fun x=>by omega) _⟩;rw [HG.out,Uz.out];exact ⟨KR.owns F5.ag (hN F5.ag (by decide)),F5.wM,KR.owns F5.bH (hN F5.bH (by decide)),fun x hx=>KR.owns (F5.kx x hx) (hN (F5.kx x hx) (by decide)),F5.y7,KR.owns F5.cM (hN F5.cM (by decide)),fun x hx=>KR.owns (F5.kH x hx) (hN (F5.kH x hx) (by decide))⟩
end
namespace Ch
theorem yn {ol : Ol} : ∀ {n : Nat} {s : Sd} {l : List Int} {r : Sd × ByteArray},s.Ok -> cN ol n s l = some r -> r.1.Ok:=by
 intro n
 induction n with
 | zero=>intro s l r _ h;simp [cN] at h
 | succ n ih=>?_
 intro s l r hs h;simp only [cN] at h
 split at h
 ·split at h
  ·exact ih (jR (iR hs) _) h
  exact ih (iR hs) h
 simp at h;subst h;exact iR hs
def pK (n : Nat) (t : ByteArray) (a : As) : As × ByteArray × Int :=
 if pJ t a != 0 then (gw,⟨#[]⟩,pJ t a) else match cN (read t).2.2 n (tick (nV t a)) [] with
  | some r=>(bC (read t).2.2.ag r.1,r.2,0)
  | none=>(gw,⟨#[]⟩,0)
theorem I0 {t : ByteArray} : ∀ (f k : Nat),xe t f k = true -> t.size <= k + 2 * f -> (t.size - k) % 2 = 0 -> ∀ j,k <= j -> j < t.size -> 1 <= af t j:=by
 intro f
 induction f with
 | zero=>intro k _ h1 _ j h2 h3;omega
 | succ f ih=>?_
 intro k h h1 hm j h2 h3;simp only [xe] at h
 split at h
 ·rename_i q
  split at h
  ·rename_i q2
   simp only [Bool.and_eq_true,Bool.not_eq_true',decide_eq_false_iff_not,bN,decide_eq_true_eq] at q2
   rcases Nat.lt_or_ge j (k + 2) with e | e
   ·rcases Nat.eq_or_lt_of_le h2 with e2 | e2
    ·subst e2;omega
    obtain rfl : j = k + 1:=by omega
    omega
   exact ih (k + 2) h (by omega) (by omega) j e h3
  simp at h
 omega
theorem Dw {t : ByteArray} (h : fR t = true) : ∀ j,j < t.size -> 1 <= af t j:=by
 unfold fR at h
 split at h
 ·simp at h
 rename_i q;simp only [Bool.or_eq_true,bne_iff_ne,decide_eq_true_eq,not_or,Decidable.not_not] at q;intro j hj;exact I0 t.size 0 h (by omega) (by omega) j (Nat.zero_le _) hj
theorem BK {ss : List St} {a p t : ByteArray} {x y z : Int} (h : (take ss a p t x y z).1 = true) : fR (take ss a p t x y z).2.tm = true:=by
 unfold take at *
 split
 ·rename_i q1
  rw [if_pos q1] at h
  split
  ·rename_i q2
   rw [if_pos q2] at h
   split
   ·rename_i q3
    simp only [Bool.and_eq_true] at q3;exact q3.1.1.1
   rename_i q3;rw [if_neg q3] at h;simp at h
  rename_i q2;rw [if_neg q2] at h;simp at h
 rename_i q1;rw [if_neg q1] at h;simp at h
theorem I1 {t : ByteArray} {a : As} (h : pJ t a = 0) : (read t).1 = 0 /\ (takeA (read t).2.2.ag a).1 = true /\ nV t a = (takeA (read t).2.2.ag a).2:=by
 unfold pJ at h;unfold nV
 split at h
 ·rename_i q;simp at q;exact absurd h q
 rename_i q
 split at h
 ·rename_i q2;exact ⟨by simpa using q,q2,by rw [if_neg q,if_pos q2]⟩
 simp at h
theorem Gg (t : ByteArray) (a : As) : (nV t a).Ok:=by
 unfold nV
 split
 ·exact vN
 split
 ·exact xF
 exact vN
end Ch
theorem wo {w : World} {cb : Nat} {e : Int} {sv tv bv : Value} {s : Sd} {T : TypeId} (h : w.heap[cb]? = some (.cells (qD e sv tv bv s) T (0,0))) : ∀ j v,(aj s)[j]? = some v -> w.cell? ⟨cb,6 + j,none⟩ = some v:=by
 intro j v hj;rw [World.cell?,h];show ((([Value.int .i64 e,.int .i64 0,.int .i64 0,sv,tv,bv] ++ aj s).toArray)[6 + j]?) = some v;rw [List.getElem?_toArray,List.getElem?_append_right (by simp)];simpa using hj
theorem Pl.Nv {w : World} {cb B : Nat} {ol : Ol} {e : Int} {sv tv bv : Value} {s : Sd} {lt : List (Tr × Value)} {lb : List (Bl × Value)} (h : w.heap[cb]? = some (.cells (qD e sv tv bv s) 119 (0,0))) (F : qY w B ol sv tv bv lt lb) : Pl w cb 1 ol :=
 ⟨sv,tv,bv,lt,lb,B,_,_,⟨h,.inr (.inl rfl),rfl,rfl,rfl⟩,F⟩
section
variable (w : World)
theorem uT (n : Nat) (hn : n <= 1000) (t : ByteArray) (a : As) (ha : a.Sm) (hw : pJ t a = 0 -> (cN (Ch.read t).2.2 n (Ch.tick (nV t a)) []).isSome = true) :
 Calls prog 48 #[.string t,.agg (bq a)] w fun x w'=>x = .returned (.tuple #[.agg (bq (pK n t a).1),.string (pK n t a).2.1,.int .i64 (pK n t a).2.2]) /\ Kp (fun _=>False) w w':=by
 obtain ⟨da,j5,dV⟩:=jS;obtain ⟨ds,hds,eH⟩:=cQ
 have hb1 : ((w.alloc (.cells (bq a) 26)).alloc (.cells cf 26)).heap[w.heap.size]? = some (.cells (bq a) 26):=by
  rw [Below.heap_alloc _ _ _ (by simp)];exact heap_alloc_new _ _
 have hr1 : ((w.alloc (.cells (bq a) 26)).alloc (.cells cf 26)).heap[w.heap.size + 1]? = some (.cells cf 26):=heap_alloc2_new w _ _;have K1 : Kp (fun _=>False) w ((w.alloc (.cells (bq a) 26)).alloc (.cells cf 26)):=((Kp.refl _ _).alloc _).alloc _;have E0:=hid (uR ((w.alloc (.cells (bq a) 26)).alloc (.cells cf 26)) t a ha);have hol:=jl t;have se:=Gg t a
 have hpos : pJ t a = 0 -> ∀ k,k < (nV t a).tm.size -> 1 <= af (nV t a).tm k:=by
  intro h;obtain ⟨_,h2,h3⟩:=I1 h;rw [h3];exact Dw (BK h2)
 have HU:=hid (show pK n t a = if pJ t a != 0 then (gw,⟨#[]⟩,pJ t a) else match cN (Ch.read t).2.2 n (Ch.tick (nV t a)) [] with
  | some r=>(bC (Ch.read t).2.2.ag r.1,r.2,0)
  | none=>(gw,⟨#[]⟩,0) from rfl)
 generalize Ec : bq a = AA at hb1 hr1 K1 E0 ⊢
 have aI : (prog.info? 26).map (·.size) = some AA.size:=by rw [<- Ec];exact bo
 clear Ec;generalize pJ t a = le at *;generalize nV t a = ls at *;generalize (Ch.read t).2.2 = ol at *
 go_enter func48,ntmps48
 go_upto_region 1 with (fail)
 generalize (w.alloc (.cells AA 26)).alloc (.cells cf 26) = w1 at *
 go_wp2_with (refine wpList_load_row rfl 26 (.tmp 3) rfl w.heap.size rfl 26 AA (0,0) da hb1 j5 (by cases da <;> first | rfl | exact absurd dV (by simp [ar])) aI ?_)
 refine br E0 ?_;rintro x w2 ⟨sv,tv,bv,lt,lb,rfl,⟨o1,o2,o3⟩,F2,K2⟩;have hr2:=K2.at_ hr1 (fun x=>x);have KA:=K1.trans K2;have gI:=k_ le sv tv bv se.1;have gS:=jL le sv tv bv se.1;have gO:=nG le o1 o2 o3 ls;have hnew:=heap_alloc_new w2 (.cells iF 119);have hrow:=setRow_heap (w2.alloc (.cells iF 119)) w2.heap.size _ (qD le sv tv bv ls) 119 (0,0) hnew;have K3 : Kp (fun _=>False) w2 ((w2.alloc (.cells iF 119)).setRow w2.heap.size (qD le sv tv bv ls)):=((Kp.refl _ _).alloc _).setRow (fun x=>by omega) _;have hr3:=K3.at_ hr2 (fun x=>x);have KB:=KA.trans K3
 have F3 : le = 0 -> qY ((w2.alloc (.cells iF 119)).setRow w2.heap.size (qD le sv tv bv ls)) w1.heap.size ol sv tv bv lt lb:=fun h=>(F2 h).au K3
 have hlt : w.heap.size + 1 < w2.heap.size:=lt_of_block hr2
 have z0 : ((w2.alloc (.cells iF 119)).setRow w2.heap.size (qD le sv tv bv ls)).cell? ⟨w2.heap.size,0,none⟩ = some (.int .i64 le):=by rw [World.cell?,hrow];rfl
 have hst:=wo hrow;have HX:=hid (ae F3 (ae hr3 (ae KB hrow)));clear E0 hb1 hr1 K1 K2 hr2 KA F2 F3 hr3 KB hrow K3 aI;generalize BJ : qD le sv tv bv ls = GA at *;have Pj:=hid BJ;clear BJ
 go_upto_region 2 with (refine wpList_store_row rfl 119 (.tmp 7) (.tmp 12) rfl w2.heap.size GA rfl rfl 119 iF hnew gI (by rw [gS];rfl) gO ?_)
 generalize (w2.alloc (.cells iF 119)).setRow w2.heap.size GA = w3 at *;generalize w2.heap.size = cb at *;clear hnew gI gS gO
 cases q1 : le != 0 with
 | true =>
   have HF:=hid (HU.out.trans (show _ = (gw,(⟨#[]⟩ : ByteArray),le) by rw [q1];rfl))
   go_upto_region 3 with (fail)
   obtain ⟨F3,hr3,KB,hrow⟩:=HX.out;have hS0 : w3.drew.cell? ⟨cb,0,none⟩ = some (.int .i64 le):=z0
   have hne : cb ≠ w.heap.size + 1:=by omega
   have hS1 : (w3.drew.setRow (w.heap.size + 1) cf).cell? ⟨cb,0,none⟩ = some (.int .i64 le):=by
    have e : (w3.drew.setRow (w.heap.size + 1) cf).heap[cb]? = w3.drew.heap[cb]?:=setRow_other _ _ _ _ hne;unfold World.cell? at *;simp only at *;rw [e];exact hS0
   have KF : Kp (fun _=>False) w (w3.drew.setRow (w.heap.size + 1) cf):=(KB.drewN 1).setRow (fun x=>by omega) _;refine aB (fun w'=>w'.cell? ⟨cb,0,none⟩ = some (.int .i64 le)) (by kernel_rfl) ?_;refine tm 0 16 (.agg cf) rfl (fun w' _=>eh 26 #[] rfl cf [] rfl (by kernel_rfl)) hS0 ?_;refine tm 1 17 (.pointer (some ⟨cb,0,none⟩)) rfl (fun w' _=>by simp [execOp,Act.eval,Act.put,go_sem]) hS0 ?_;refine tm 2 18 (.int .i64 le) rfl (fun w' hS=>by simp [execOp,Act.eval,Act.put,go_sem,hS]) hS0 ?_;refine bE 3 (by kernel_rfl) rfl rfl 26 (.tmp 4) (.tmp 16) rfl rfl (w.heap.size + 1) cf (by simp [Act.eval,Act.put]) (by simp [Act.eval,Act.put]) 26 cf (by exact hr3) bo rfl (fA gw) hS1 ?_;refine tm 4 5 (.string ⟨#[]⟩) rfl (fun w' _=>by rfl) hS1 ?_;refine tm 5 6 (.int .i64 le) rfl (fun w' _=>by simp [execOp,Act.eval,Act.put,go_sem]) hS1 ?_;refine wpAnyH_done (by kernel_rfl) (NoPanic.normal ?_) _;simp only [Act.put,pA,pB,pC];go_wp2;refine bodyPost_ret (aC rfl _ _ (w.heap.size + 1) 26 cf (0,0) da rfl (setRow_heap w3.drew _ _ _ _ _ (by exact hr3)) j5 dV bo) rfl ?_;rw [HF.out];exact ⟨rfl,KF⟩
 | false=>?_
 have hle : le = 0:=by simpa using q1
 subst hle;obtain ⟨r,hr⟩:=Option.isSome_iff_exists.1 (hw rfl);have HF:=hid (HU.out.trans (show _ = (bC ol.ag r.1,r.2,(0 : Int)) by rw [hr];rfl));obtain ⟨F3,hr3,KB,hrow⟩:=HX.out;have hp3 : Pl w3 cb 1 ol:=Pl.Nv (by rw [Pj.out];exact hrow) (F3 rfl);have E1:=hid (uA w3 cb 1 ol ls n r hr hn (hpos rfl) se hp3 hol);have I2:=yn (qG se) hr
 have y_ : (prog.info? 95).map (·.size) = some (aj ls).length:=by rw [aT se.1];exact aY
 have HZ:=hid hp3;clear F3 hr3 KB hrow hp3 HU hw hr hpos;obtain ⟨rs,rt⟩:=r;simp only at I2 HF E1;have fI:=cY I2.1;have fS:=dy I2.1;have fO:=fT rs
 go_wp2_with (refine a_ rfl 95 (.tmp 21) rfl cb 6 rfl (aj ls) ds hst hds eH y_ ?_)
 refine br E1 ?_;rintro x w4 ⟨rfl,K4⟩;obtain ⟨F3,hr3,KB,hrow⟩:=HX.out;have mL:=HZ.out.keep K4 (fun _ _ _ _ _ x=>x);have hr4:=K4.at_ hr3 (fun x=>x);have KC:=KB.trans K4;have hnew:=heap_alloc_new w4 (.cells aF 95);have jm:=setRow_heap (w4.alloc (.cells aF 95)) w4.heap.size aF (aj rs).toArray 95 (0,0) hnew;have K5 : Kp (fun _=>False) w4 ((w4.alloc (.cells aF 95)).setRow w4.heap.size (aj rs).toArray):=((Kp.refl _ _).alloc _).setRow (fun x=>by omega) _;have h5:=bM.lh jm;have qE:=mL.keep K5 (fun _ _ _ _ _ x=>x);have gb:=K5.at_ hr4 (fun x=>x);have KD:=KC.trans K5;have E2:=hid (gU cb 1 ((w4.alloc (.cells aF 95)).setRow w4.heap.size (aj rs).toArray) ol.ag w4.heap.size 0 [] rs [] 95 qE.str (by have:=hol.ag;omega) h5 I2.1 rfl);have HY:=hid (ae gb KD);clear F3 hr3 KB hrow mL hr4 KC K4 K5 h5 qE gb KD HX E1 jm HZ hst z0;generalize (aj rs).toArray = FA at *
 go_upto_region 5 with (refine wpList_store_row rfl 95 (.tmp 8) (.tmp 24) rfl w4.heap.size FA rfl rfl 95 aF hnew fI (by rw [fS];rfl) fO ?_)
 generalize (w4.alloc (.cells aF 95)).setRow w4.heap.size FA = w5 at *;generalize w4.heap.size = fb at *;clear fI fS fO hnew
 go_wp2_with fail
 refine br E2 ?_;rintro x w6 ⟨rfl,K6⟩;obtain ⟨gb,KD⟩:=HY.out;have mw:=K6.at_ gb (fun x=>x);have KF : Kp (fun _=>False) w (w6.setRow (w.heap.size + 1) (bq (bC ol.ag rs))):=(KD.trans K6).setRow (fun x=>by omega) _;clear KD gb HY E2
 go_wp2_with (refine wpList_store_row rfl 26 (.tmp 4) (.tmp 27) rfl (w.heap.size + 1) (bq (bC ol.ag rs)) rfl rfl 26 cf mw bo rfl (fA _) ?_)
 refine bodyPost_ret (aC rfl _ _ (w.heap.size + 1) 26 (bq (bC ol.ag rs)) (0,0) da rfl (setRow_heap _ _ _ _ _ _ mw) j5 dV bo) rfl ?_;rw [HF.out];exact ⟨rfl,KF⟩
end
namespace Ch
def pL (t : ByteArray) (a : As) (ev : ByteArray) : As × ByteArray × Int :=
 if pJ t a != 0 then (gw,⟨#[]⟩,pJ t a) else if decide (ev.size = 1) && bN (af ev 0) then
  (if (aL (read t).2.2 (nV t a) (af ev 0)).2.2 != 0 then (gw,⟨#[]⟩,(aL (read t).2.2 (nV t a) (af ev 0)).2.2)
   else (bC (read t).2.2.ag (aL (read t).2.2 (nV t a) (af ev 0)).1,(aL (read t).2.2 (nV t a) (af ev 0)).2.1,0)) else (gw,⟨#[]⟩,8)
end Ch
section
variable (w : World)
theorem pe (t : ByteArray) (a : As) (ev : ByteArray) (ha : a.Sm) :
 Calls prog 31 #[.string t,.agg (bq a),.string ev] w fun x w'=>x = .returned (.tuple #[.agg (bq (pL t a ev).1),.string (pL t a ev).2.1,.int .i64 (pL t a ev).2.2]) /\ Kp (fun _=>False) w w':=by
 obtain ⟨da,j5,dV⟩:=jS;obtain ⟨ds,hds,eH⟩:=cQ
 have hb1 : ((w.alloc (.cells (bq a) 26)).alloc (.cells cf 26)).heap[w.heap.size]? = some (.cells (bq a) 26):=by
  rw [Below.heap_alloc _ _ _ (by simp)];exact heap_alloc_new _ _
 have hr1 : ((w.alloc (.cells (bq a) 26)).alloc (.cells cf 26)).heap[w.heap.size + 1]? = some (.cells cf 26):=heap_alloc2_new w _ _;have K1 : Kp (fun _=>False) w ((w.alloc (.cells (bq a) 26)).alloc (.cells cf 26)):=((Kp.refl _ _).alloc _).alloc _;have E0:=hid (uR ((w.alloc (.cells (bq a) 26)).alloc (.cells cf 26)) t a ha);have hol:=jl t;have se:=Gg t a
 have HU:=hid (show pL t a ev = if pJ t a != 0 then (gw,⟨#[]⟩,pJ t a) else if decide (ev.size = 1) && bN (af ev 0) then
  (if (aL (Ch.read t).2.2 (nV t a) (af ev 0)).2.2 != 0 then (gw,⟨#[]⟩,(aL (Ch.read t).2.2 (nV t a) (af ev 0)).2.2)
   else (bC (Ch.read t).2.2.ag (aL (Ch.read t).2.2 (nV t a) (af ev 0)).1,(aL (Ch.read t).2.2 (nV t a) (af ev 0)).2.1,0)) else (gw,⟨#[]⟩,8) from rfl)
 generalize Ec : bq a = AA at hb1 hr1 K1 E0 ⊢
 have aI : (prog.info? 26).map (·.size) = some AA.size:=by rw [<- Ec];exact bo
 clear Ec;generalize pJ t a = le at *;generalize nV t a = ls at *;generalize (Ch.read t).2.2 = ol at *
 go_enter func31,ntmps31
 go_upto_region 1 with (fail)
 generalize (w.alloc (.cells AA 26)).alloc (.cells cf 26) = w1 at *
 go_wp2_with (refine wpList_load_row rfl 26 (.tmp 4) rfl w.heap.size rfl 26 AA (0,0) da hb1 j5 (by cases da <;> first | rfl | exact absurd dV (by simp [ar])) aI ?_)
 refine hm E0 ?_;rintro x w2 ⟨sv,tv,bv,lt,lb,rfl,⟨o1,o2,o3⟩,F2,K2⟩;have hr2:=K2.at_ hr1 (fun x=>x);have KA:=K1.trans K2;have gI:=k_ le sv tv bv se.1;have gS:=jL le sv tv bv se.1;have gO:=nG le o1 o2 o3 ls;have hnew:=heap_alloc_new w2 (.cells iF 119);have hrow:=setRow_heap (w2.alloc (.cells iF 119)) w2.heap.size _ (qD le sv tv bv ls) 119 (0,0) hnew;have K3 : Kp (fun _=>False) w2 ((w2.alloc (.cells iF 119)).setRow w2.heap.size (qD le sv tv bv ls)):=((Kp.refl _ _).alloc _).setRow (fun x=>by omega) _;have hr3:=K3.at_ hr2 (fun x=>x);have KB:=KA.trans K3
 have F3 : le = 0 -> qY ((w2.alloc (.cells iF 119)).setRow w2.heap.size (qD le sv tv bv ls)) w1.heap.size ol sv tv bv lt lb:=fun h=>(F2 h).au K3
 have hlt : w.heap.size + 1 < w2.heap.size:=lt_of_block hr2
 have z0 : ((w2.alloc (.cells iF 119)).setRow w2.heap.size (qD le sv tv bv ls)).cell? ⟨w2.heap.size,0,none⟩ = some (.int .i64 le):=by rw [World.cell?,hrow];rfl
 have hst:=wo hrow;have HX:=hid (ae F3 (ae hr3 (ae KB hrow)));clear E0 hb1 hr1 K1 K2 hr2 KA F2 F3 hr3 KB hrow K3 aI;generalize BJ : qD le sv tv bv ls = GA at *;have Pj:=hid BJ;clear BJ
 go_upto_region 2 with (refine wpList_store_row rfl 119 (.tmp 9) (.tmp 15) rfl w2.heap.size GA rfl rfl 119 iF hnew gI (by rw [gS];rfl) gO ?_)
 generalize (w2.alloc (.cells iF 119)).setRow w2.heap.size GA = w3 at *;generalize w2.heap.size = cb at *;clear hnew gI gS gO
 cases q1 : le != 0 with
 | true =>
   have HF:=hid (HU.out.trans (show _ = (gw,(⟨#[]⟩ : ByteArray),le) by rw [q1];rfl))
   go_upto_region 3 with (fail)
   obtain ⟨F3,hr3,KB,hrow⟩:=HX.out;have hS0 : w3.drew.cell? ⟨cb,0,none⟩ = some (.int .i64 le):=z0
   have hne : cb ≠ w.heap.size + 1:=by omega
   have hS1 : (w3.drew.setRow (w.heap.size + 1) cf).cell? ⟨cb,0,none⟩ = some (.int .i64 le):=by
    have e : (w3.drew.setRow (w.heap.size + 1) cf).heap[cb]? = w3.drew.heap[cb]?:=setRow_other _ _ _ _ hne;unfold World.cell? at *;simp only at *;rw [e];exact hS0
   have KF : Kp (fun _=>False) w (w3.drew.setRow (w.heap.size + 1) cf):=(KB.drewN 1).setRow (fun x=>by omega) _;refine aB (fun w'=>w'.cell? ⟨cb,0,none⟩ = some (.int .i64 le)) (by kernel_rfl) ?_;refine tm 0 19 (.agg cf) rfl (fun w' _=>eh 26 #[] rfl cf [] rfl (by kernel_rfl)) hS0 ?_;refine tm 1 20 (.pointer (some ⟨cb,0,none⟩)) rfl (fun w' _=>by simp [execOp,Act.eval,Act.put,go_sem]) hS0 ?_;refine tm 2 21 (.int .i64 le) rfl (fun w' hS=>by simp [execOp,Act.eval,Act.put,go_sem,hS]) hS0 ?_;refine bE 3 (by kernel_rfl) rfl rfl 26 (.tmp 6) (.tmp 19) rfl rfl (w.heap.size + 1) cf (by simp [Act.eval,Act.put]) (by simp [Act.eval,Act.put]) 26 cf (by exact hr3) bo rfl (fA gw) hS1 ?_;refine tm 4 7 (.string ⟨#[]⟩) rfl (fun w' _=>by rfl) hS1 ?_;refine tm 5 8 (.int .i64 le) rfl (fun w' _=>by simp [execOp,Act.eval,Act.put,go_sem]) hS1 ?_;refine wpAnyH_done (by kernel_rfl) (NoPanic.normal ?_) _;simp only [Act.put,pA,pB,pC];go_wp2;refine bodyPost_ret (aC rfl _ _ (w.heap.size + 1) 26 cf (0,0) da rfl (setRow_heap w3.drew _ _ _ _ _ (by exact hr3)) j5 dV bo) rfl ?_;rw [HF.out];exact ⟨rfl,KF⟩
 | false=>?_
 have hle : le = 0:=by simpa using q1
 subst hle
 have HV:=hid (HU.out.trans (show _ = if decide (ev.size = 1) && bN (af ev 0) then
  (if (aL ol ls (af ev 0)).2.2 != 0 then (gw,(⟨#[]⟩ : ByteArray),(aL ol ls (af ev 0)).2.2)
   else (bC ol.ag (aL ol ls (af ev 0)).1,(aL ol ls (af ev 0)).2.1,0)) else (gw,⟨#[]⟩,8) from rfl))
 by_cases hs : ev.size = 1
 ·have hs' : (ev.size : Int) = 1:=by omega
  have hpk : af ev 0 = ((ev[0]'(by omega)).toNat : Int):=by simp [af,hs]
  rw [hpk] at HV;have EV:=hid (eT ((ev[0]'(by omega)).toNat : Int) w3)
  cases q2 : bN ((ev[0]'(by omega)).toNat : Int) with
  | false =>
    rw [q2] at EV;have HF:=hid (HV.out.trans (show _ = (gw,(⟨#[]⟩ : ByteArray),(8 : Int)) by rw [q2];simp))
    go_wp2_with fail
    refine hm EV ?_;rintro x w4 ⟨rfl,rfl⟩;obtain ⟨F3,hr3,KB,hrow⟩:=HX.out;have KF : Kp (fun _=>False) w (w4.setRow (w.heap.size + 1) cf):=KB.setRow (fun x=>by omega) _;clear F3 KB hrow
    go_wp2_with (refine wpList_store_row rfl 26 (.tmp 6) (.tmp 31) rfl (w.heap.size + 1) cf rfl rfl 26 cf hr3 bo rfl (fA gw) ?_)
    refine bodyPost_ret (aC rfl _ _ (w.heap.size + 1) 26 cf (0,0) da rfl (setRow_heap _ _ _ _ _ _ hr3) j5 dV bo) rfl ?_;rw [HF.out];exact ⟨rfl,KF⟩
  | true=>?_
  rw [q2] at EV
  have UC : ev[0]? = some (ev[0]'(by omega)):=by rw [getElem?_pos]
  generalize hc : ((ev[0]'(by omega)).toNat : Int) = c at *
  have HW:=hid (HV.out.trans (show _ = if (aL ol ls c).2.2 != 0 then (gw,(⟨#[]⟩ : ByteArray),(aL ol ls c).2.2)
   else (bC ol.ag (aL ol ls c).1,(aL ol ls c).2.1,0) by rw [q2];simp [hs]))
  go_wp2_with fail
  refine hm EV ?_;rintro x w4 ⟨rfl,rfl⟩;obtain ⟨F3,hr3,KB,hrow⟩:=HX.out;have hp3 : Pl w4 cb 1 ol:=Pl.Nv (by rw [Pj.out];exact hrow) (F3 (by first | rfl | trivial));have jB:=jR (ol:=ol) se c
  have y_ : (prog.info? 95).map (·.size) = some (aj ls).length:=by rw [aT se.1];exact aY
  have E1 : ∀ W,Pl W cb 1 ol -> Hid (Calls prog 57 #[.pointer (some ⟨cb,1,none⟩),.agg (aj ls).toArray,.int .u8 c] W fun x w'=>x = .returned (.tuple #[.agg (aj (aL ol ls c).1).toArray,.string (aL ol ls c).2.1,.int .i64 (aL ol ls c).2.2]) /\ Kp (fun _=>False) W w'):=fun W h=>hid (oV W cb 1 ol ls c se h hol)
  have HZ:=hid (ae hp3 hrow)
  have Nw : ∀ w' : World,w'.heap[cb]? = some (.cells GA 119 (0,0)) -> ∀ j v,(aj ls)[j]? = some v -> w'.cell? ⟨cb,6 + j,none⟩ = some v:=fun w' h=>wo (by rw [Pj.out];exact h)
  clear F3 hr3 KB hp3 HU EV HV hst z0;generalize Qy : aL ol ls c = mf at *;obtain ⟨fs,ft,fe⟩:=mf;clear Qy;simp only at jB HW E1;have fI:=cY jB.1;have fS:=dy jB.1;have fO:=fT fs;generalize xJ : (aj fs).toArray = FA at *;have Bu:=hid xJ;clear xJ
  go_upto_region 6 with (fail)
  go_cut [10,11,12] from 32 to 41 (fun p e f wx=>∃ fb,p = .pointer (some ⟨fb,0,none⟩) /\ e = .string ft /\ f = .int .i64 fe /\ bM wx fb [] fs [] 95 /\ Kp (fun _=>False) w4 wx)
  case first =>
   have hS0 : w4.drew.heap[cb]? = some (.cells GA 119 (0,0)):=hrow;have jF : Kp (fun _=>False) w4 w4.drew:=(Kp.refl _ _).drewN 1
   have UD : (af ev 0) = c:=by rw [hpk]
   refine aB (fun w'=>w'.heap[cb]? = some (.cells GA 119 (0,0))) (by kernel_rfl) ?_;refine tm 0 33 (.pointer (some ⟨cb,1,none⟩)) rfl (fun w' _=>by simp [execOp,Act.eval,go_sem]) hS0 ?_;refine tm 1 34 (.pointer (some ⟨cb,6,none⟩)) rfl (fun w' _=>by simp [execOp,Act.eval,Act.put,go_sem]) hS0 ?_;refine tm 2 35 (.agg (aj ls).toArray) rfl (fun w' hS=>cr 95 (.tmp 34) rfl cb 6 (by simp [Act.eval,Act.put]) (aj ls) ds (Nw w' hS) hds eH y_) hS0 ?_;refine tm 3 36 (.string ev) rfl (fun w' _=>by simp [execOp,Act.eval,Act.put,go_sem]) hS0 ?_;refine tl 4 37 (.int .u8 c) rfl (fun w' _=>by simp [execOp,Act.eval,Act.put,go_sem,hs,hc]) hS0 ?_;refine iJ 5 10 (by kernel_rfl) rfl rfl rfl rfl ?_ ?_
   ·refine bD (some 38) rfl 57 #[.pointer (some ⟨cb,1,none⟩),.agg (aj ls).toArray,.int .u8 c] (by simp [execOp,Act.eval,go_sem]) _ (fun w'=>Kp (fun _=>False) w4.drew w') (E1 w4.drew (HZ.out.1.keep jF (fun _ _ _ _ _ x=>x))).out ?_
    intro w5 K5;have i_:=K5.at_ hS0 (fun x=>x);have hnew:=heap_alloc_new w5 (.cells aF 95);have JL : (w5.alloc (.cells aF 95)).heap[cb]? = some (.cells GA 119 (0,0)):=(Below.heap_alloc _ _ _ (lt_of_block i_)).trans i_
    have hne : cb ≠ w5.heap.size:=by have:=lt_of_block i_;omega
    have tQ : ((w5.alloc (.cells aF 95)).setRow w5.heap.size FA).heap[cb]? = some (.cells GA 119 (0,0)):=by rw [setRow_other _ _ _ _ hne];exact JL
    refine ⟨i_,?_⟩;refine tm 6 32 (.tuple #[.agg FA,.string ft,.int .i64 fe]) rfl (fun w' _=>by simp [execOp,Act.eval,Act.put,go_sem]) i_ ?_;refine tm 7 39 (.agg FA) rfl (fun w' _=>by simp [execOp,Act.eval,Act.put,go_sem]) i_ ?_;refine tm 8 40 (.string ft) rfl (fun w' _=>by simp [execOp,Act.eval,Act.put,go_sem]) i_ ?_;refine tm 9 41 (.int .i64 fe) rfl (fun w' _=>by simp [execOp,Act.eval,Act.put,go_sem]) i_ ?_;refine dO 10 ?_;refine cP (some 10) rfl (.pointer (some ⟨w5.heap.size,0,none⟩)) (w5.alloc (.cells aF 95)) (by simp [execOp,go_sem]) ?_;refine ⟨JL,?_⟩;refine bE 11 (by kernel_rfl) rfl rfl 95 (.tmp 10) (.tmp 39) rfl rfl w5.heap.size FA (by simp [Act.eval,Act.put]) (by simp [Act.eval,Act.put]) 95 aF hnew fI (by rw [fS];rfl) fO tQ ?_;refine tm 12 11 (.string ft) rfl (fun w' _=>by simp [execOp,Act.eval,Act.put,go_sem]) tQ ?_;refine tm 13 12 (.int .i64 fe) rfl (fun w' _=>by simp [execOp,Act.eval,Act.put,go_sem]) tQ ?_;refine wpAnyH_done (by kernel_rfl) (NoPanic.normal ?_) _;simp only [Act.put,pA,pB,pC]
    go_wp2_with fail
    go_meet
    exact ⟨w5.heap.size,rfl,rfl,rfl,bM.lh (by rw [Bu.out];exact setRow_heap _ _ _ _ _ _ hnew),((jF.trans K5).alloc _).setRow (fun x=>by have:=(jF.trans K5).size;omega) _⟩
   refine cP (some 10) rfl (.pointer (some ⟨w4.heap.size,0,none⟩)) (w4.drew.alloc (.cells aF 95)) (by simp [execOp,go_sem]) ?_;have hnew:=heap_alloc_new w4.drew (.cells aF 95);have BM:=jF.alloc (.cells aF 95);have BN : (w4.drew.alloc (.cells aF 95)).heap[cb]? = some (.cells GA 119 (0,0)):=(Below.heap_alloc _ _ _ (lt_of_block hS0)).trans hS0;refine ⟨BN,?_⟩;refine dO 5 ?_;simp only [Act.put,pA,pB,pC];refine bD (some 38) rfl 57 #[.pointer (some ⟨cb,1,none⟩),.agg (aj ls).toArray,.int .u8 c] (by simp [execOp,Act.eval,go_sem]) _ (fun w'=>Kp (fun _=>False) (w4.drew.alloc (.cells aF 95)) w') (E1 _ (HZ.out.1.keep BM (fun _ _ _ _ _ x=>x))).out ?_;intro w5 K5;have i_:=K5.at_ BN (fun x=>x);have iU : w5.heap[w4.heap.size]? = some (.cells aF 95 (0,0)):=K5.at_ (k:=w4.heap.size) (by exact hnew) (fun x=>x)
   have hne : cb ≠ w4.heap.size:=by have:=lt_of_block hS0;have e : w4.drew.heap.size = w4.heap.size:=rfl;omega
   have tQ : (w5.setRow w4.heap.size FA).heap[cb]? = some (.cells GA 119 (0,0)):=by rw [setRow_other _ _ _ _ hne];exact i_
   refine ⟨i_,?_⟩;refine tm 6 32 (.tuple #[.agg FA,.string ft,.int .i64 fe]) rfl (fun w' _=>by simp [execOp,Act.eval,Act.put,go_sem]) i_ ?_;refine tm 7 39 (.agg FA) rfl (fun w' _=>by simp [execOp,Act.eval,Act.put,go_sem]) i_ ?_;refine tm 8 40 (.string ft) rfl (fun w' _=>by simp [execOp,Act.eval,Act.put,go_sem]) i_ ?_;refine tm 9 41 (.int .i64 fe) rfl (fun w' _=>by simp [execOp,Act.eval,Act.put,go_sem]) i_ ?_;refine bE 11 (by kernel_rfl) rfl rfl 95 (.tmp 10) (.tmp 39) rfl rfl w4.heap.size FA (by simp [Act.eval,Act.put]) (by simp [Act.eval,Act.put]) 95 aF iU fI (by rw [fS];rfl) fO tQ ?_;refine tm 12 11 (.string ft) rfl (fun w' _=>by simp [execOp,Act.eval,Act.put,go_sem]) tQ ?_;refine tm 13 12 (.int .i64 fe) rfl (fun w' _=>by simp [execOp,Act.eval,Act.put,go_sem]) tQ ?_;refine wpAnyH_done (by kernel_rfl) (NoPanic.normal ?_) _;simp only [Act.put,pA,pB,pC]
   go_wp2_with fail
   go_meet
   exact ⟨w4.heap.size,rfl,rfl,rfl,bM.lh (by rw [Bu.out];exact setRow_heap _ _ _ _ _ _ iU),(BM.trans K5).setRow (fun x=>by omega) _⟩
  case rest =>
   obtain ⟨fb,rfl,rfl,rfl,h5,K5⟩:=hcut;obtain ⟨F3,hr3,KB,_⟩:=HX.out;have qE:=HZ.out.1.keep K5 (fun _ _ _ _ _ x=>x);have gb:=K5.at_ hr3 (fun x=>x);have KD:=KB.trans K5;have HY:=hid (ae gb KD);have E2:=hid (gU cb 1 wc ol.ag fb 0 [] fs [] 95 qE.str (by have:=hol.ag;omega) h5 jB.1 rfl);clear F3 hr3 KB HX E1 HZ Nw h5 qE K5 hrow
   cases q3 : fe != 0 with
   | true =>
     have HF:=hid (HW.out.trans (show _ = (gw,(⟨#[]⟩ : ByteArray),fe) by rw [q3];rfl));have KF : Kp (fun _=>False) w (wc.setRow (w.heap.size + 1) cf):=KD.setRow (fun x=>by omega) _;clear KD HW
     go_wp2_with (refine wpList_store_row rfl 26 (.tmp 6) (.tmp 44) rfl (w.heap.size + 1) cf rfl rfl 26 cf gb bo rfl (fA gw) ?_)
     refine bodyPost_ret (aC rfl _ _ (w.heap.size + 1) 26 cf (0,0) da rfl (setRow_heap _ _ _ _ _ _ gb) j5 dV bo) rfl ?_;rw [HF.out];exact ⟨rfl,KF⟩
   | false=>?_
   have HF:=hid (HW.out.trans (show _ = (bC ol.ag fs,ft,(0 : Int)) by rw [q3];rfl));clear KD HW gb
   go_wp2_with fail
   refine hm E2 ?_;rintro x w6 ⟨rfl,K6⟩;obtain ⟨gb,KD⟩:=HY.out;have mw:=K6.at_ gb (fun x=>x);have KF : Kp (fun _=>False) w (w6.setRow (w.heap.size + 1) (bq (bC ol.ag fs))):=(KD.trans K6).setRow (fun x=>by omega) _;clear KD gb HY E2
   go_wp2_with (refine wpList_store_row rfl 26 (.tmp 6) (.tmp 47) rfl (w.heap.size + 1) (bq (bC ol.ag fs)) rfl rfl 26 cf mw bo rfl (fA _) ?_)
   refine bodyPost_ret (aC rfl _ _ (w.heap.size + 1) 26 (bq (bC ol.ag fs)) (0,0) da rfl (setRow_heap _ _ _ _ _ _ mw) j5 dV bo) rfl ?_;rw [HF.out];exact ⟨rfl,KF⟩
 have hs' : ¬ (ev.size : Int) = 1:=by omega
 have HF:=hid (HV.out.trans (show _ = (gw,(⟨#[]⟩ : ByteArray),(8 : Int)) by simp [hs]));obtain ⟨F3,hr3,KB,hrow⟩:=HX.out;have KF : Kp (fun _=>False) w (w3.setRow (w.heap.size + 1) cf):=KB.setRow (fun x=>by omega) _;clear F3 KB hrow
 go_wp2_with (refine wpList_store_row rfl 26 (.tmp 6) (.tmp 31) rfl (w.heap.size + 1) cf rfl rfl 26 cf hr3 bo rfl (fA gw) ?_)
 refine bodyPost_ret (aC rfl _ _ (w.heap.size + 1) 26 cf (0,0) da rfl (setRow_heap _ _ _ _ _ _ hr3) j5 dV bo) rfl ?_;rw [HF.out];exact ⟨rfl,KF⟩
end
end Go.Proofs.YtnlbchmfcebeeaaGreat
