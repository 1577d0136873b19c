import Derived.Test.YtnlbchmfcebeeaaGreatTE8
import Derived.Test.YtnlbchmfcebeeaaGreatTA7
import Derived.Lib.AppendStr
set_option maxHeartbeats 12800000
set_option maxRecDepth 100000
namespace Go.Proofs.YtnlbchmfcebeeaaGreat
open Go.RowKit
namespace Ch
def nums (t : ByteArray) : List Int:=t.data.toList.map fun b=>(b.toNat : Int)
theorem nums_len (t : ByteArray) : (nums t).length = t.size:=by simp [nums]
def waitF (ol : Ol) : Nat → Sd → List Int → Option (Sd × ByteArray)
 | 0,_,_=>none
 | f + 1,s,l=>if (takeDue s).2.1 then (if (mfire ol (takeDue s).2.2 (takeDue s).1).2.2 == 0 then waitF ol f (mfire ol (takeDue s).2.2 (takeDue s).1).1 (l ++ nums (mfire ol (takeDue s).2.2 (takeDue s).1).2.1)
  else waitF ol f (takeDue s).2.2 l) else some ((takeDue s).2.2,strOfNums l)
theorem rounds_sz {ol : Ol} (hol : ol.Ok) : ∀ (n : Nat) {m : Ma} {k : Nat},m.Sz k → (rounds ol n m).Sz (k + 3900000 * n):=by
 intro n
 induction n with
 | zero=>intro m k h;exact h
 | succ n ih=>?_
 intro m k h;rw [rounds_succ]
 split
 ·exact (ih (round_sz hol h)).le (by omega)
 exact h.le (by omega)
theorem mfire_size {ol : Ol} (hol : ol.Ok) (s : Sd) (ev : Int) : (mfire ol s ev).2.1.size ≤ 117000000:=by
 have h1:=micro_sz hol (m:=⟨s,[],[]⟩) (n:=0) ⟨by simp,by simp⟩ (choose_16 hol s ev);have h2:=rounds_sz hol 29 h1;unfold mfire finish
 split
 ·simp
 show (strOfNums _).size ≤ _;rw [strOfNums_size];have:=h2.2;omega
theorem mfire_ok {ol : Ol} {s : Sd} (h : s.Ok) (ev : Int) : (mfire ol s ev).1.Ok:=finish_ok (micro_ok (m:=⟨s,[],[]⟩) h _) _
theorem dueF_at (t : ByteArray) : ∀ (f k j : Nat),dueF t f k = some j → k ≤ j ∧ j + 1 < t.size:=by
 intro f
 induction f with
 | zero=>intro k j h;simp [dueF] at h
 | succ f ih=>?_
 intro k j h;simp only [dueF] at h
 split at h
 ·split at h
  ·simp at h;subst h;omega
  have:=ih _ _ h;omega
 simp at h
theorem takeDue_ok {s : Sd} (h : s.Ok) : (takeDue s).2.2.Ok:=by
 unfold takeDue
 split
 ·rename_i k hk
  obtain ⟨h0,h1,h2⟩:=h;refine ⟨h0,h1,?_⟩;have:=dueF_at _ _ _ _ hk;show (s.tm.extract 0 k ++ s.tm.extract (k + 2) s.tm.size).size ≤ 17;rw [ByteArray.size_append,ByteArray.size_extract,ByteArray.size_extract];omega
 exact h
theorem tkF2_len (t : ByteArray) : ∀ (f k : Nat) (acc : List Int),acc.length ≤ k → k ≤ t.size → (tkF2 t f k acc).length ≤ t.size:=by
 intro f
 induction f with
 | zero=>intro k acc h1 h2;simp only [tkF2];omega
 | succ f ih=>?_
 intro k acc h1 h2;simp only [tkF2]
 split
 ·exact ih _ _ (by simp;omega) (by omega)
 omega
theorem tick_ok {s : Sd} (h : s.Ok) : (tick s).Ok:=by
 obtain ⟨h0,h1,h2⟩:=h;refine ⟨h0,h1,?_⟩;show (strOfNums (tkF2 s.tm s.tm.size 0 [])).size ≤ 17;rw [strOfNums_size];have:=tkF2_len s.tm s.tm.size 0 [] (Nat.le_refl _) (Nat.zero_le _);omega
end Ch
theorem strCells_nums (t : ByteArray) : Go.Lib.strCells t = byCells (Ch.nums t):=by
 simp [Go.Lib.strCells,byCells,Ch.nums]
theorem SdB.rowS {w : World} {b : Nat} {s : Ch.Sd} {T : TypeId} (h : SdB w b [] s [] T) : w.heap[b]? = some (.cells (sdAll s).toArray T (0,0)):=by
 unfold SdB SeB at h;simpa [sdAll] using h
theorem SdB.ofRowS {w : World} {b : Nat} {s : Ch.Sd} {T : TypeId} (h : w.heap[b]? = some (.cells (sdAll s).toArray T (0,0))) : SdB w b [] s [] T:=by
 unfold SdB SeB;simpa [sdAll] using h
section
variable (w : World) (ob po : Nat) (ol : Ch.Ol)
theorem mwait_any (s : Ch.Sd) (n : Nat) (r : Ch.Sd × ByteArray) (hr : Ch.waitF ol n (Ch.tick s) [] = some r) (hn : n ≤ 1000) (hnz : ∀ k,k < s.tm.size → 1 ≤ Ch.peek s.tm k) (hok : s.Ok) (hp : Pl w ob po ol) (hol : ol.Ok) :
 Calls Tryz.prog 77 #[.pointer (some ⟨ob,po,none⟩),.agg (sdAll s).toArray] w fun x w' =>
  x = .returned (.tuple #[.agg (sdAll r.1).toArray,.string r.2]) ∧ Kp (fun _=>False) w w':=by
 obtain ⟨ds,hds,hda⟩:=Tryz.undStand;obtain ⟨i0,hi,hz0,hz1,hz2⟩:=info_parts Tryz.infoByte;have hwf:=hok.1;have sI:=sdInfo hwf;have sS:=sdSize hwf;have sO:=sdOne s
 have hb1 : ((w.alloc (.cells (sdAll s).toArray 95)).alloc (.cells yS36 95)).heap[w.heap.size]? = some (.cells (sdAll s).toArray 95):=by
  rw [Below.heap_alloc _ _ _ (by simp)];exact heap_alloc_new _ _
 have hr1 : ((w.alloc (.cells (sdAll s).toArray 95)).alloc (.cells yS36 95)).heap[w.heap.size + 1]? = some (.cells yS36 95):=heap_alloc2_new w _ _;have K1 : Kp (fun _=>False) w ((w.alloc (.cells (sdAll s).toArray 95)).alloc (.cells yS36 95)):=((Kp.refl _ _).alloc _).alloc _
 have hs1 : w.heap.size + 1 < ((w.alloc (.cells (sdAll s).toArray 95)).alloc (.cells yS36 95)).heap.size:=by simp
 have hp1:=hp.keep K1 (fun _ _ _ _ _ x=>x);clear hp;generalize hSA : (sdAll s).toArray = SA at *;have HSA:=hid hSA;clear hSA;have HR:=hid hr;clear hr
 go_enter Tryz.func77,Tryz.ntmps77
 go_upto_region 1 with (fail)
 generalize (w.alloc (.cells SA 95)).alloc (.cells yS36 95) = w2 at *;have hnew:=heap_alloc_new w2 (.cells yS36 95);have hmr:=setRow_heap (w2.alloc (.cells yS36 95)) w2.heap.size yS36 SA 95 (0,0) hnew;have K3 : Kp (fun _=>False) w2 ((w2.alloc (.cells yS36 95)).setRow w2.heap.size SA):=((Kp.refl _ _).alloc _).setRow (fun x=>by omega) _;have hn3 : SdB ((w2.alloc (.cells yS36 95)).setRow w2.heap.size SA) w2.heap.size [] s [] 95:=SdB.ofRowS (by rw [HSA.out];exact hmr);have hp3:=hp1.keep K3 (fun _ _ _ _ _ x=>x);have hr3:=K3.at_ hr1 (fun x=>x);have KB:=K1.trans K3;have HX:=hid (And.intro hn3 (And.intro hp3 (And.intro hr3 KB)));clear hr1 hp1 K1 K3 hmr hn3 hp3 hr3 KB
 go_wp2_with (first | refine wpList_load_row rfl 95 (.tmp 3) rfl w.heap.size rfl 95 SA (0,0) ds hb1 hds (by cases ds <;> first | rfl | exact absurd hda (by simp [isAggD])) sI ?_ | refine wpList_store_row rfl 95 (.tmp 6) (.tmp 13) rfl w2.heap.size SA rfl rfl 95 yS36 hnew sI (by rw [sS];rfl) sO ?_)
 generalize (w2.alloc (.cells yS36 95)).setRow w2.heap.size SA = w3 at *;generalize w2.heap.size = nb at *;obtain ⟨hn3,hp3,hr3,KB⟩:=HX.out;have E0:=hid (tick_any w3 nb 0 [] s [] 95 hn3 hwf rfl (by have:=hok.2.2;omega) hnz);clear hnew sI sS sO hb1 hn3 hp3 hr3 KB hnz
 go_wp2_with fail
 refine hm E0 ?_;rintro x w4 ⟨rfl,h4,K4⟩;obtain ⟨hn3,hp3,hr3,KB⟩:=HX.out;have hp4 : Pl w4 ob po ol:=hp3.keep K4 (fun i cur T hi hT x=>by subst x;rw [SdB.rowS hn3] at hi;simp at hi;obtain ⟨_,rfl⟩:=hi;revert hT;unfold plT oT;decide);have hr4:=K4.at_ hr3 (fun x=>by omega);have KC : Kp (fun _=>False) w w4:=KB.trans' K4 (fun i hi x=>by omega);have hlt4:=h4.lt;have hok1:=Ch.tick_ok hok;clear hn3 hp3 hr3 KB HX E0 K4 HSA;generalize Ch.tick s = s1 at *
 have hT4 : ∀ cur T,w4.heap[nb]? = some (.cells cur T (0,0)) → T = 95:=by
  intro cur T h;rw [SdB.rowS h4] at h;simp at h;exact h.2.symm
 go_wp2_with fail
 go_loopg [7] n (fun gk ov wr=>∃ (s' : Ch.Sd) (l : List Int),Hid (Ch.waitF ol n s1 [] = Ch.waitF ol gk s' l) ∧ SdB wr nb [] s' [] 95 ∧ s'.Ok ∧ wr.ownsRow w4.heap.size 5 1 ov l.length (byCells l) ∧ gk ≤ n ∧ l.length ≤ 117000000 * (n - gk) ∧ Kp (fun k=>k = nb) w4 wr)
 case atStart=>exact ⟨s1,[],hid rfl,h4,hok1,World.ownsRow_nil _ _ _ _,Nat.le_refl _,by simp,Kp.refl _ _⟩
 case round =>
  obtain ⟨s',l,HE,hn',hs',hfo,hgn,hll,KW⟩:=hrel
  obtain ⟨k,rfl⟩ : ∃ k,gk = k + 1:=by
   cases gk with
   | zero=>have:=HE.out.symm.trans HR.out;simp [Ch.waitF] at this
   | succ k=>exact ⟨k,rfl⟩
  have hpr : Pl wr ob po ol:=hp4.keep KW (fun i cur T hi hT x=>by subst x;have:=hT4 _ _ hi;subst this;revert hT;unfold plT oT;decide);have hrr:=KW.at_ hr4 (fun x=>by omega);have E1:=hid (takeDue_any wr nb 0 [] s' [] 95 hn' hs'.1 rfl (by have:=hs'.2.2;omega));have hsd:=Ch.takeDue_ok hs'
  have step : Ch.waitF ol (k + 1) s' l = if (Ch.takeDue s').2.1 then (if (Ch.mfire ol (Ch.takeDue s').2.2 (Ch.takeDue s').1).2.2 == 0 then Ch.waitF ol k (Ch.mfire ol (Ch.takeDue s').2.2 (Ch.takeDue s').1).1 (l ++ Ch.nums (Ch.mfire ol (Ch.takeDue s').2.2 (Ch.takeDue s').1).2.1)
   else Ch.waitF ol k (Ch.takeDue s').2.2 l) else some ((Ch.takeDue s').2.2,strOfNums l):=rfl
  have HX:=hid (And.intro hpr (And.intro hrr (And.intro KW hfo)));have HN:=hid hn';clear hpr hrr KW hn' hfo h4;generalize Ch.takeDue s' = td at *;obtain ⟨ev,ok,s2⟩:=td;simp only at hsd step E1
  cases ok with
  | false =>
    have HF:=hid (show r = (s2,strOfNums l) by
     have e:=HR.out.symm.trans (HE.out.trans step)
     simpa using e)
    clear HE step
    go_wp2_with fail
    refine hm E1 ?_;rintro x w5 ⟨rfl,h5,K5⟩;obtain ⟨hpr,hrr,KW,hfo⟩:=HX.out;have hr5:=K5.at_ hrr (fun x=>by omega);have ho5:=K5.owns hfo (fun i hi x=>by have:=(hfo.lt i hi).1;omega);have KD:=KW.trans K5;have hq5 : OwnsQ w5 w4.heap.size u7 (byCells l):=OwnsQ.ofRow ho5 (Nat.le_refl _);clear HX E1 hpr hrr KW hfo K5
    go_upto_region 6 with (fail)
    have hlI:=sdInfo hsd.1;have n1:=hq5.ne hr5 (by decide)
    have hne : nb ≠ w.heap.size + 1:=by omega
    have hS0 : SdB w5.drew nb [] s2 [] 95 ∧ OwnsQ w5.drew w4.heap.size u7 (byCells l):=⟨h5,hq5⟩
    have KR : Kp (fun k=>k = w.heap.size + 1) w5.drew (w5.drew.setRow (w.heap.size + 1) (sdAll s2).toArray):=Kp.setRow (S:=fun k=>k = w.heap.size + 1) (Kp.refl _ _) (g:=w.heap.size + 1) (fun _=>rfl) _
    have hS1 : SdB (w5.drew.setRow (w.heap.size + 1) (sdAll s2).toArray) nb [] s2 [] 95 ∧ OwnsQ (w5.drew.setRow (w.heap.size + 1) (sdAll s2).toArray) w4.heap.size u7 (byCells l) :=
     ⟨SdB.keep (w:=w5.drew) h5 KR hne,OwnsQ.keep (w:=w5.drew) hq5 KR (fun i hi x=>by subst x;exact n1 hi)⟩
    have KF : Kp (fun _=>False) w (w5.drew.setRow (w.heap.size + 1) (sdAll s2).toArray):=((KC.trans' KD (fun i hi x=>by omega)).drewN 1).setRow (fun x=>by omega) _;refine region_begin (fun w'=>SdB w' nb [] s2 [] 95 ∧ OwnsQ w' w4.heap.size u7 (byCells l)) (by kernel_rfl) ?_;refine tk 0 21 (.agg (sdAll s2).toArray) rfl (by kernel_rfl) rfl rfl (fun w' hS=>exec_load_row 95 (.tmp 6) rfl nb (by simp [Act.eval]) 95 _ (0,0) ds hS.1.rowS hds hda hlI) hS0 ?_;refine tk 1 22 u7 rfl (by kernel_rfl) rfl rfl (fun w' _=>by simp [execOp,Act.eval,Act.put,go_sem]) hS0 ?_;refine tk 2 23 (.string (strOfNums l)) rfl (by kernel_rfl) rfl rfl (fun w' hS=>exec_convert 47 9 (.tmp 22) rfl u7 _ (by simp [Act.eval,Act.put]) (run_textQ hS.2)) hS0 ?_;refine do_store 3 (by kernel_rfl) rfl rfl 95 (.tmp 4) (.tmp 21) rfl rfl (w.heap.size + 1) (sdAll s2).toArray (by simp [Act.eval,Act.put]) (by simp [Act.eval,Act.put]) 95 yS36 (by exact hr5) hlI (by rw [sdSize hsd.1];rfl) (sdOne _) hS1 ?_;refine tk 4 5 (.string (strOfNums l)) rfl (by kernel_rfl) rfl rfl (fun w' _=>by simp [execOp,Act.eval,Act.put,go_sem]) hS1 ?_;refine wpAnyH_done (by kernel_rfl) (NoPanic.normal ?_) _;simp only [Act.put,pA,pB,pC];go_wp2;refine bodyPost_ret (results_cell_tmp rfl _ _ (w.heap.size + 1) 95 (sdAll s2).toArray (0,0) ds rfl (setRow_heap w5.drew _ _ _ _ _ (by exact hr5)) hds hda hlI) rfl ?_;rw [HF.out];exact ⟨rfl,KF⟩
  | true=>?_
  have hfok:=Ch.mfire_ok (ol:=ol) hsd ev;have hfsz:=Ch.mfire_size hol s2 ev;have sI:=sdInfo hsd.1;simp only [if_true] at step;have HS:=hid (HE.out.trans step);clear HE step
  go_wp2_with fail
  refine hm E1 ?_;rintro x w5 ⟨rfl,h5,K5⟩;obtain ⟨hpr,hrr,KW,hfo⟩:=HX.out
  have hp5 : Pl w5 ob po ol:=hpr.keep K5 (fun i cur T hi hT x=>by subst x;have h9:=hT4;have hb:=KW;exact (by
   have hwr:=HN.out
   rw [SdB.rowS hwr] at hi;simp at hi;obtain ⟨_,rfl⟩:=hi;revert hT;unfold plT oT;decide))
  have hr5:=K5.at_ hrr (fun x=>by omega);have ho5:=K5.owns hfo (fun i hi x=>by have:=(hfo.lt i hi).1;omega);have KD:=KW.trans K5;have hrow5:=SdB.rowS h5;have E2:=hid (mfire_any w5 ob po ol s2 ev hsd hp5 hol);have HY:=hid (And.intro h5 (And.intro hp5 (And.intro hr5 (And.intro ho5 KD))));clear HX E1 hpr hrr KW hfo K5 h5 hp5 hr5 ho5 KD;generalize hfr : Ch.mfire ol s2 ev = fr at *;obtain ⟨fs,ft,fe⟩:=fr;clear hfr;simp only at hfok hfsz HS E2;generalize (sdAll s2).toArray = SB at *
  go_wp2_with (refine wpList_load_row rfl 95 (.tmp 6) rfl nb rfl 95 SB (0,0) ds hrow5 hds (by cases ds <;> first | rfl | exact absurd hda (by simp [isAggD])) sI ?_)
  refine hm E2 ?_;rintro x w6 ⟨rfl,K6⟩;obtain ⟨h5,hp5,hr5,ho5,KD⟩:=HY.out;have hnew:=heap_alloc_new w6 (.cells yS36 95);have fI:=sdInfo hfok.1;have fS:=sdSize hfok.1;have fO:=sdOne fs;have hrow7:=setRow_heap (w6.alloc (.cells yS36 95)) w6.heap.size yS36 (sdAll fs).toArray 95 (0,0) hnew;have K7 : Kp (fun _=>False) w5 ((w6.alloc (.cells yS36 95)).setRow w6.heap.size (sdAll fs).toArray):=(K6.alloc _).setRow (fun x=>by have:=K6.size;omega) _;have h7:=SdB.keep h5 K7 (fun x=>x);have ho7:=K7.owns ho5 (fun _ _ x=>x);have KE:=KD.trans' K7 (fun i hi x=>x.elim);have HFA:=hid (show (sdAll fs).toArray = (sdAll fs).toArray from rfl);clear h5 hp5 hr5 ho5 KD HY E2 K6 K7 hrow5 sI;generalize hFA : (sdAll fs).toArray = FA at *;have HA:=hid hFA;clear hFA HFA
  cases q : fe == 0 with
  | true =>
    have HF:=hid (show Ch.waitF ol n s1 [] = Ch.waitF ol k fs (l ++ Ch.nums ft) by rw [HS.out,q];rfl)
    go_upto_region 8 with (refine wpList_store_row rfl 95 (.tmp 10) (.tmp 29) rfl w6.heap.size FA rfl rfl 95 yS36 hnew fI (by rw [fS];rfl) fO ?_)
    generalize (w6.alloc (.cells yS36 95)).setRow w6.heap.size FA = w7 at *;have hold:=SdB.rowS h7;have hold36:=sdSize (s:=s2) hsd.1;have hrow8:=setRow_heap w7 nb _ FA _ _ hold;have K8 : Kp (fun k=>k = nb) w7 (w7.setRow nb FA):=Kp.setRow (S:=fun k=>k = nb) (Kp.refl _ _) (g:=nb) (fun _=>rfl) _;have h8 : SdB (w7.setRow nb FA) nb [] fs [] 95:=SdB.ofRowS (by rw [HA.out];exact hrow8);have ho8:=K8.owns ho7 (fun i hi x=>by have:=(ho7.lt i hi).1;omega);have KF:=KE.trans K8;clear h7 ho7 KE K8 hrow8;generalize (sdAll s2).toArray = SB2 at *
    go_wp2_with (first | refine wpList_load_row rfl 95 (.tmp 10) rfl w6.heap.size rfl 95 FA (0,0) ds hrow7 hds (by cases ds <;> first | rfl | exact absurd hda (by simp [isAggD])) fI ?_ | refine wpList_store_row rfl 95 (.tmp 6) (.tmp 34) rfl nb FA rfl rfl 95 SB2 hold fI (by rw [fS,hold36]) fO ?_ | (at_builtin;refine Go.Lib.wpList_append_own_string _ rfl (.tmp 35) (.tmp 36) 47 9 rfl w4.heap.size 5 i0 Tryz.underlying47 Tryz.underlying9 hi hz0 hz1 hz2 u7 l.length (byCells l) rfl ho8 ft rfl ?c1 ?c2 ?c3 ?_))
    case c1=>unfold maxLen;omega
    case c2=>omega
    case c3=>have:=KF.size;omega
    intro v9 w9 o9 g9 _;have K9 : Kp (fun k=>k = nb) w4 w9:=KF.grown g9 (fun i hi hlt=>by have:=(ho8.lt i hi).1;omega);have h9 : SdB w9 nb [] fs [] 95:=SdB.keep h8 ((Kp.refl (fun i=>u7.ownBlock = some i) _).grown g9 (fun i hi _=>hi)) (fun x=>by have:=(ho8.lt nb x).1;omega);clear g9 KF h8 ho8 hold hrow7;go_wp2
    go_roundg k
    case rel=>exact ⟨fs,l ++ Ch.nums ft,HF,h9,hfok,by rw [strCells_nums] at o9;simpa [byCells,Ch.nums_len] using o9,by omega,by rw [List.length_append,Ch.nums_len,show n - k = (n - (k + 1)) + 1 by omega];omega,K9⟩
    case measure=>omega
  | false=>?_
  have HF:=hid (show Ch.waitF ol n s1 [] = Ch.waitF ol k s2 l by rw [HS.out,q];rfl)
  go_wp2_with (refine wpList_store_row rfl 95 (.tmp 10) (.tmp 29) rfl w6.heap.size FA rfl rfl 95 yS36 hnew fI (by rw [fS];rfl) fO ?_)
  go_roundg k
  case rel=>exact ⟨s2,l,HF,h7,hsd,ho7,by omega,Nat.le_trans hll (Nat.mul_le_mul_left _ (by omega)),KE⟩
  case measure=>omega
end
namespace Ch
theorem mstart_ok (ol : Ol) : (mstart ol).1.Ok:=finish_ok (enter_ok (m:=⟨blankSd ol.sts,[],[]⟩) (blankSd_ok ol.sts) []) _
structure As where
 act : ByteArray
 past : ByteArray
 tm : ByteArray
 x : Int
 y : Int
 z : Int
def as0 : As:=⟨⟨#[]⟩,⟨#[]⟩,⟨#[]⟩,0,0,0⟩
def asOf (ss : List St) (s : Sd) : As:=⟨outAct ss s,outPast ss s,s.tm,s.x,s.y,s.z⟩
def cStart (t : ByteArray) : As × ByteArray × Int :=
 if (read t).1 != 0 then (as0,⟨#[]⟩,(read t).1)
 else if (mstart (read t).2.2).2.2 != 0 then (as0,⟨#[]⟩,(mstart (read t).2.2).2.2)
 else (asOf (read t).2.2.sts (mstart (read t).2.2).1,(mstart (read t).2.2).2.1,0)
end Ch
theorem exec_build {P : Program} {o : Oper} {a : Act} {w : World} (t : TypeId) (parts : Array (Nat × Operand)) (ho : o.op = .build t parts)
 (cells : Array Value) (vals : List (Nat × Value)) (hv : parts.toList.map (fun p=>(p.1,a.eval p.2)) = vals) (hb : P.built t vals = some cells) : (execOp a.eval o).run P w = .ok (.value (.agg cells)) w:=by
 have e : (parts.map fun (i,x)=>(i,a.eval x)).toList = vals:=by rw [Array.toList_map];exact hv
 unfold execOp;simp only [ho,Sem.run_bind,run_build w t _ cells (by rw [e];exact hb),Result.andThen_ok,Sem.run_pure]
def asA (a : Ch.As) : Array Value:=#[.string a.act,.string a.past,.string a.tm,.int .i64 a.x,.int .i64 a.y,.int .i64 a.z]
theorem Tryz.sizeAs : (Tryz.prog.info? 26).map (·.size) = some 6:=by kernel_rfl
theorem Tryz.undAs : ∃ d,Tryz.prog.underlying 26 = some d ∧ isAggD d = true:=⟨_,Tryz.underlying26,rfl⟩
theorem asOne (a : Ch.As) : (asA a).all (fun x=>x.oneCell') = true:=by
 apply Array.all_eq_true_iff_forall_mem.2;intro x hx;simp only [asA,List.mem_toArray,List.mem_cons,List.not_mem_nil,or_false] at hx
 rcases hx with rfl | rfl | rfl | rfl | rfl | rfl <;> rfl
theorem OlF.keep0 {w w' : World} {B : Nat} {o : Ch.Ol} {sv tv bv : Value} {lt : List (Ch.Tr × Value)} {lb : List (Ch.Bl × Value)} (F : OlF w B o sv tv bv lt lb) (k : Kp (fun _=>False) w w') : OlF w' B o sv tv bv lt lb :=
 ⟨k.owns F.sts (fun _ _ x=>x),F.mtr,k.owns F.trs (fun _ _ x=>x),fun x hx=>k.owns (F.tra x hx) (fun _ _ x=>x),F.mbl,k.owns F.bls (fun _ _ x=>x),fun x hx=>k.owns (F.bla x hx) (fun _ _ x=>x)⟩
theorem Pl.ofRow {w : World} {ob B : Nat} {ol : Ch.Ol} {e f : Int} {sv tv bv : Value} {lt : List (Ch.Tr × Value)} {lb : List (Ch.Bl × Value)} (h : w.heap[ob]? = some (.cells (olA e f sv tv bv) 87 (0,0))) (F : OlF w B ol sv tv bv lt lb) : Pl w ob 0 ol :=
 ⟨sv,tv,bv,lt,lb,B,_,_,⟨h,.inl rfl,rfl,rfl,rfl⟩,F⟩
section
variable (w : World)
theorem cStart_any (t : ByteArray) :
 Calls Tryz.prog 20 #[.string t] w fun x w'=>x = .returned (.tuple #[.agg (asA (Ch.cStart t).1),.string (Ch.cStart t).2.1,.int .i64 (Ch.cStart t).2.2]) ∧ Kp (fun _=>False) w w':=by
 obtain ⟨ds,hds,hda⟩:=Tryz.undAs;have hr1:=heap_alloc_new w (.cells y6S 26);have K1 : Kp (fun _=>False) w (w.alloc (.cells y6S 26)):=(Kp.refl _ _).alloc _;have E0:=hid (read_any t (w.alloc (.cells y6S 26)));have hol:=Ch.read_ok t
 have HU:=hid (show Ch.cStart t = if (Ch.read t).1 != 0 then (Ch.as0,⟨#[]⟩,(Ch.read t).1)
  else if (Ch.mstart (Ch.read t).2.2).2.2 != 0 then (Ch.as0,⟨#[]⟩,(Ch.mstart (Ch.read t).2.2).2.2)
  else (Ch.asOf (Ch.read t).2.2.sts (Ch.mstart (Ch.read t).2.2).1,(Ch.mstart (Ch.read t).2.2).2.1,0) from rfl)
 go_enter Tryz.func20,Tryz.ntmps20
 go_wp2_with fail
 refine hm E0 ?_;rintro x w2 ⟨sv,tv,bv,lt,lb,rfl,F2,B2⟩;have K2:=kpOfBelow B2;have hr2:=K2.at_ hr1 (fun x=>x);have KA:=K1.trans K2;clear E0 hr1 K1 K2 B2;generalize hrd : Ch.read t = rd at *;obtain ⟨re,rf,ol⟩:=rd;clear hrd;simp only at hol F2 HU;have oOne:=olOne (e:=re) (f:=rf) (own_one F2.sts) (own_one F2.trs) (own_one F2.bls);have hnew:=heap_alloc_new w2 (.cells y5L 87);have hrow:=setRow_heap (w2.alloc (.cells y5L 87)) w2.heap.size _ (olA re rf sv tv bv) 87 (0,0) hnew;have K3 : Kp (fun _=>False) w2 ((w2.alloc (.cells y5L 87)).setRow w2.heap.size (olA re rf sv tv bv)):=((Kp.refl _ _).alloc _).setRow (fun x=>by omega) _;have hp3:=Pl.ofRow hrow (F2.keep0 K3);have hr3:=K3.at_ hr2 (fun x=>x);have KB:=KA.trans K3;have HX:=hid (And.intro hp3 (And.intro hr3 (And.intro KB hrow)));clear hr2 KA K3 hp3 hr3 KB hrow F2
 go_upto_region 2 with (refine wpList_store_row rfl 87 (.tmp 5) (.tmp 10) rfl w2.heap.size (olA re rf sv tv bv) rfl rfl 87 y5L hnew Tryz.sizeOl rfl oOne ?_)
 generalize (w2.alloc (.cells y5L 87)).setRow w2.heap.size (olA re rf sv tv bv) = w3 at *;obtain ⟨hp3,hr3,KB,hrow⟩:=HX.out
 have z0 : w3.cell? ⟨w2.heap.size,0,none⟩ = some (.int .i64 re):=by rw [World.cell?,hrow];rfl
 clear hnew oOne hp3 hr3 KB hrow;generalize w2.heap.size = ob at *
 cases q1 : re != 0 with
 | true =>
   have HF:=hid (HU.out.trans (show _ = (Ch.as0,(⟨#[]⟩ : ByteArray),re) by rw [q1];rfl))
   go_upto_region 3 with (fail)
   obtain ⟨hp3,hr3,KB,hrow⟩:=HX.out
   have r0 : w3.cell? ⟨w.heap.size,0,none⟩ = some (.string ⟨#[]⟩):=by rw [World.cell?,hr3];rfl
   have r1 : w3.cell? ⟨w.heap.size,1,none⟩ = some (.string ⟨#[]⟩):=by rw [World.cell?,hr3];rfl
   have r2 : w3.cell? ⟨w.heap.size,2,none⟩ = some (.string ⟨#[]⟩):=by rw [World.cell?,hr3];rfl
   have r3 : w3.cell? ⟨w.heap.size,3,none⟩ = some (.int .i64 0):=by rw [World.cell?,hr3];rfl
   have r4 : w3.cell? ⟨w.heap.size,4,none⟩ = some (.int .i64 0):=by rw [World.cell?,hr3];rfl
   have r5 : w3.cell? ⟨w.heap.size,5,none⟩ = some (.int .i64 0):=by rw [World.cell?,hr3];rfl
   have hS0 : w3.drew.heap[ob]? = some (.cells (olA re rf sv tv bv) 87 (0,0)):=hrow
   have hne : ob ≠ w.heap.size:=by intro e;rw [e,hr3] at hrow;simp at hrow
   have hS1 : (w3.drew.setRow w.heap.size y6S).heap[ob]? = some (.cells (olA re rf sv tv bv) 87 (0,0)):=by rw [setRow_other _ _ _ _ hne];exact hrow
   have KF : Kp (fun _=>False) w (w3.drew.setRow w.heap.size y6S):=(KB.drewN 1).setRow (fun x=>by omega) _;refine region_begin (fun w'=>w'.heap[ob]? = some (.cells (olA re rf sv tv bv) 87 (0,0))) (by kernel_rfl) ?_;refine tk 0 14 (.agg y6S) rfl (by kernel_rfl) rfl rfl (fun w' _=>exec_build 26 #[] rfl y6S [] rfl (by kernel_rfl)) hS0 ?_;refine tk 1 15 (.pointer (some ⟨ob,0,none⟩)) rfl (by kernel_rfl) rfl rfl (fun w' _=>by simp [execOp,Act.eval,Act.put,go_sem]) hS0 ?_;refine tk 2 16 (.int .i64 re) rfl (by kernel_rfl) rfl rfl (fun w' hS=>by (have c : w'.cell? ⟨ob,0,none⟩ = some (.int .i64 re):=(by rw [World.cell?,hS];rfl);simp [execOp,Act.eval,Act.put,go_sem,c])) hS0 ?_;refine do_store 3 (by kernel_rfl) rfl rfl 26 (.tmp 2) (.tmp 14) rfl rfl w.heap.size y6S (by simp [Act.eval,Act.put]) (by simp [Act.eval,Act.put]) 26 y6S (by exact hr3) Tryz.sizeAs rfl (asOne Ch.as0) hS1 ?_;refine tk 4 3 (.string ⟨#[]⟩) rfl (by kernel_rfl) rfl rfl (fun w' _=>by rfl) hS1 ?_;refine tk 5 4 (.int .i64 re) rfl (by kernel_rfl) rfl rfl (fun w' _=>by simp [execOp,Act.eval,Act.put,go_sem]) hS1 ?_;refine wpAnyH_done (by kernel_rfl) (NoPanic.normal ?_) _;simp only [Act.put,pA,pB,pC];go_wp2;refine bodyPost_ret (results_cell_tmp2 rfl _ _ w.heap.size 26 y6S (0,0) ds rfl (setRow_heap w3.drew _ _ _ _ _ (by exact hr3)) hds hda Tryz.sizeAs) rfl ?_;rw [HF.out];exact ⟨rfl,KF⟩
 | false=>?_
 obtain ⟨hp3,hr3,KB,hrow⟩:=HX.out;have E1:=hid (mstart_any w3 ob 0 ol hp3 hol);have hmok:=Ch.mstart_ok ol;have HV:=hid (HU.out.trans (show _ = if (Ch.mstart ol).2.2 != 0 then (Ch.as0,(⟨#[]⟩ : ByteArray),(Ch.mstart ol).2.2) else (Ch.asOf ol.sts (Ch.mstart ol).1,(Ch.mstart ol).2.1,0) by rw [q1];rfl));clear hp3 hr3 KB hrow HU;generalize hms : Ch.mstart ol = ms at *;obtain ⟨fs,ft,fe⟩:=ms;clear hms;simp only at hmok HV E1;have fI:=sdInfo hmok.1;have fS:=sdSize hmok.1;have fO:=sdOne fs
 go_wp2_with fail
 refine hm E1 ?_;rintro x w4 ⟨rfl,K4⟩;obtain ⟨hp3,hr3,KB,hrow⟩:=HX.out;have hp4:=hp3.keep K4 (fun _ _ _ _ _ x=>x);have hr4:=K4.at_ hr3 (fun x=>x);have KC:=KB.trans K4;have hnew:=heap_alloc_new w4 (.cells yS36 95);have hrow5:=setRow_heap (w4.alloc (.cells yS36 95)) w4.heap.size yS36 (sdAll fs).toArray 95 (0,0) hnew;have K5 : Kp (fun _=>False) w4 ((w4.alloc (.cells yS36 95)).setRow w4.heap.size (sdAll fs).toArray):=((Kp.refl _ _).alloc _).setRow (fun x=>by omega) _;have h5:=SdB.ofRowS hrow5;have hp5:=hp4.keep K5 (fun _ _ _ _ _ x=>x);have hr5:=K5.at_ hr4 (fun x=>x);have KD:=KC.trans K5;have hlt : w.heap.size < w4.heap.size:=lt_of_block hr4;have HY:=hid (And.intro h5 (And.intro hp5 (And.intro hr5 KD)));clear hp3 hr3 KB hrow hp4 hr4 KC K4 K5 h5 hp5 hr5 KD HX E1 hrow5;generalize (sdAll fs).toArray = FA at *
 go_upto_region 5 with (refine wpList_store_row rfl 95 (.tmp 6) (.tmp 19) rfl w4.heap.size FA rfl rfl 95 yS36 hnew fI (by rw [fS];rfl) fO ?_)
 generalize (w4.alloc (.cells yS36 95)).setRow w4.heap.size FA = w5 at *;generalize w4.heap.size = fb at *;clear fI fS fO hnew z0
 cases q2 : fe != 0 with
 | true =>
   obtain ⟨h5,hp5,hr5,KD⟩:=HY.out;have HF:=hid (HV.out.trans (show _ = (Ch.as0,(⟨#[]⟩ : ByteArray),fe) by rw [q2];rfl));have KF : Kp (fun _=>False) w (w5.setRow w.heap.size y6S):=KD.setRow (fun x=>by omega) _;clear h5 hp5 KD HY HV
   go_wp2_with (refine wpList_store_row rfl 26 (.tmp 2) (.tmp 24) rfl w.heap.size y6S rfl rfl 26 y6S hr5 Tryz.sizeAs rfl (asOne Ch.as0) ?_)
   refine bodyPost_ret (results_cell_tmp2 rfl _ _ w.heap.size 26 y6S (0,0) ds rfl (setRow_heap _ _ _ _ _ _ hr5) hds hda Tryz.sizeAs) rfl ?_;rw [HF.out];exact ⟨rfl,KF⟩
 | false=>?_
 obtain ⟨h5,hp5,hr5,KD⟩:=HY.out;have E2:=hid (state_out_any ob 0 w5 ol.sts fb 0 [] fs [] 95 hp5.str (by have:=hol.sts;omega) h5 hmok.1 rfl);have HF:=hid (HV.out.trans (show _ = (Ch.asOf ol.sts fs,ft,(0 : Int)) by rw [q2];rfl));clear h5 hp5 KD hr5 HV
 go_wp2_with fail
 refine hm E2 ?_;rintro x w6 ⟨rfl,K6⟩;obtain ⟨h5,hp5,hr5,KD⟩:=HY.out;have hr6:=K6.at_ hr5 (fun x=>x);have KF : Kp (fun _=>False) w (w6.setRow w.heap.size (asA (Ch.asOf ol.sts fs))):=(KD.trans K6).setRow (fun x=>by omega) _;clear h5 hp5 KD hr5 HY E2
 go_wp2_with (refine wpList_store_row rfl 26 (.tmp 2) (.tmp 26) rfl w.heap.size (asA (Ch.asOf ol.sts fs)) rfl rfl 26 y6S hr6 Tryz.sizeAs rfl (asOne _) ?_)
 refine bodyPost_ret (results_cell_tmp2 rfl _ _ w.heap.size 26 (asA (Ch.asOf ol.sts fs)) (0,0) ds rfl (setRow_heap _ _ _ _ _ _ hr6) hds hda Tryz.sizeAs) rfl ?_;rw [HF.out];exact ⟨rfl,KF⟩
end
end Go.Proofs.YtnlbchmfcebeeaaGreat
