import Derived.Test.YtnlbchmfcebeeaaGreatTE8
import Derived.Lib.AppendStr
set_option maxHeartbeats 12800000
set_option maxRecDepth 100000
namespace Go.Proofs.YtnlbchmfcebeeaaGreat
open Go.Proofs.Tryz Ch
open Go.RowKit
namespace Ch
def nums (t : ByteArray) : List Int:=t.data.toList.map fun b=>(b.toNat : Int)
theorem rM (t : ByteArray) : (nums t).length = t.size:=by simp [nums]
def cN (ol : Ol) : Nat -> Sd -> List Int -> Option (Sd × ByteArray)
 | 0,_,_=>none
 | f + 1,s,l=>if (aQ s).2.1 then (if (aL ol (aQ s).2.2 (aQ s).1).2.2 == 0 then cN ol f (aL ol (aQ s).2.2 (aQ s).1).1 (l ++ nums (aL ol (aQ s).2.2 (aQ s).1).2.1)
  else cN ol f (aQ s).2.2 l) else some ((aQ s).2.2,strOfNums l)
theorem uz {ol : Ol} (hol : ol.Ok) : ∀ (n : Nat) {m : Ma} {k : Nat},m.Sz k -> (rounds ol n m).Sz (k + 3900000 * n):=by
 intro n
 induction n with
 | zero=>intro m k h;exact h
 | succ n ih=>?_
 intro m k h;rw [rounds_succ]
 split
 ·exact (ih (xE hol h)).le (by omega)
 exact h.le (by omega)
theorem gM {ol : Ol} (hol : ol.Ok) (s : Sd) (ev : Int) : (aL ol s ev).2.1.size <= 117000000:=by
 have h1:=lf hol (m:=⟨s,[],[]⟩) (n:=0) ⟨by simp,by simp⟩ (mc hol s ev);have h2:=uz hol 29 h1;unfold aL finish
 split
 ·simp
 show (strOfNums _).size <= _;rw [strOfNums_size];have:=h2.2;omega
theorem jR {ol : Ol} {s : Sd} (h : s.Ok) (ev : Int) : (aL ol s ev).1.Ok:=me (jP (m:=⟨s,[],[]⟩) h _) _
theorem qF (t : ByteArray) : ∀ (f k j : Nat),jA t f k = some j -> k <= j /\ j + 1 < t.size:=by
 intro f
 induction f with
 | zero=>intro k j h;simp [jA] at h
 | succ f ih=>?_
 intro k j h;simp only [jA] at h
 split at h
 ·split at h
  ·simp at h;subst h;omega
  have:=ih _ _ h;omega
 simp at h
theorem iR {s : Sd} (h : s.Ok) : (aQ s).2.2.Ok:=by
 unfold aQ
 split
 ·rename_i k hk
  obtain ⟨h0,h1,h2⟩:=h;refine ⟨h0,h1,?_⟩;have:=qF _ _ _ _ hk;show (s.tm.extract 0 k ++ s.tm.extract (k + 2) s.tm.size).size <= 17;rw [ByteArray.size_append,ByteArray.size_extract,ByteArray.size_extract];omega
 exact h
theorem Fj (t : ByteArray) : ∀ (f k : Nat) (acc : List Int),acc.length <= k -> k <= t.size -> (k6 t f k acc).length <= t.size:=by
 intro f
 induction f with
 | zero=>intro k acc h1 h2;simp only [k6];omega
 | succ f ih=>?_
 intro k acc h1 h2;simp only [k6]
 split
 ·exact ih _ _ (by simp;omega) (by omega)
 omega
theorem qG {s : Sd} (h : s.Ok) : (tick s).Ok:=by
 obtain ⟨h0,h1,h2⟩:=h;refine ⟨h0,h1,?_⟩;show (strOfNums (k6 s.tm s.tm.size 0 [])).size <= 17;rw [strOfNums_size];have:=Fj s.tm s.tm.size 0 [] (Nat.le_refl _) (Nat.zero_le _);omega
end Ch
theorem tD (t : ByteArray) : Go.Lib.strCells t = ax (nums t):=by
 simp [Go.Lib.strCells,ax,nums]
theorem bM.CX {w : World} {b : Nat} {s : Sd} {T : TypeId} (h : bM w b [] s [] T) : w.heap[b]? = some (.cells (aj s).toArray T (0,0)):=by
 unfold bM fj at h;simpa [aj] using h
theorem bM.lh {w : World} {b : Nat} {s : Sd} {T : TypeId} (h : w.heap[b]? = some (.cells (aj s).toArray T (0,0))) : bM w b [] s [] T:=by
 unfold bM fj;simpa [aj] using h
section
variable (w : World) (ob po : Nat) (ol : Ol)
theorem uA (s : Sd) (n : Nat) (r : Sd × ByteArray) (hr : cN ol n (Ch.tick s) [] = some r) (hn : n <= 1000) (hnz : ∀ k,k < s.tm.size -> 1 <= af s.tm k) (hok : s.Ok) (hp : Pl w ob po ol) (hol : ol.Ok) :
 Calls prog 77 #[.pointer (some ⟨ob,po,none⟩),.agg (aj s).toArray] w fun x w' =>
  x = .returned (.tuple #[.agg (aj r.1).toArray,.string r.2]) /\ Kp (fun _=>False) w w':=by
 obtain ⟨ds,hds,eH⟩:=cQ;obtain ⟨i0,hi,hz0,hz1,hz2⟩:=info_parts infoByte;have hwf:=hok.1;have sI:=cY hwf;have sS:=dy hwf;have sO:=fT s
 have hb1 : ((w.alloc (.cells (aj s).toArray 95)).alloc (.cells aF 95)).heap[w.heap.size]? = some (.cells (aj s).toArray 95):=by
  rw [Below.heap_alloc _ _ _ (by simp)];exact heap_alloc_new _ _
 have hr1 : ((w.alloc (.cells (aj s).toArray 95)).alloc (.cells aF 95)).heap[w.heap.size + 1]? = some (.cells aF 95):=heap_alloc2_new w _ _;have K1 : Kp (fun _=>False) w ((w.alloc (.cells (aj s).toArray 95)).alloc (.cells aF 95)):=((Kp.refl _ _).alloc _).alloc _
 have hs1 : w.heap.size + 1 < ((w.alloc (.cells (aj s).toArray 95)).alloc (.cells aF 95)).heap.size:=by simp
 have hp1:=hp.keep K1 (fun _ _ _ _ _ x=>x);clear hp;generalize m9 : (aj s).toArray = SA at *;have xK:=hid m9;clear m9;have HR:=hid hr;clear hr
 go_enter func77,ntmps77
 go_upto_region 1 with (fail)
 generalize (w.alloc (.cells SA 95)).alloc (.cells aF 95) = w2 at *;have hnew:=heap_alloc_new w2 (.cells aF 95);have hmr:=setRow_heap (w2.alloc (.cells aF 95)) w2.heap.size aF SA 95 (0,0) hnew;have K3 : Kp (fun _=>False) w2 ((w2.alloc (.cells aF 95)).setRow w2.heap.size SA):=((Kp.refl _ _).alloc _).setRow (fun x=>by omega) _;have iN : bM ((w2.alloc (.cells aF 95)).setRow w2.heap.size SA) w2.heap.size [] s [] 95:=bM.lh (by rw [xK.out];exact hmr);have hp3:=hp1.keep K3 (fun _ _ _ _ _ x=>x);have hr3:=K3.at_ hr1 (fun x=>x);have KB:=K1.trans K3;have HX:=hid (ae iN (ae hp3 (ae hr3 KB)));clear hr1 hp1 K1 K3 hmr iN hp3 hr3 KB
 go_wp2_with (first | refine wpList_load_row rfl 95 (.tmp 3) rfl w.heap.size rfl 95 SA (0,0) ds hb1 hds (by cases ds <;> first | rfl | exact absurd eH (by simp [ar])) sI ?_ | refine wpList_store_row rfl 95 (.tmp 6) (.tmp 13) rfl w2.heap.size SA rfl rfl 95 aF hnew sI (by rw [sS];rfl) sO ?_)
 generalize (w2.alloc (.cells aF 95)).setRow w2.heap.size SA = w3 at *;generalize w2.heap.size = nb at *;obtain ⟨iN,hp3,hr3,KB⟩:=HX.out;have E0:=hid (Es w3 nb 0 [] s [] 95 iN hwf rfl (by have:=hok.2.2;omega) hnz);clear hnew sI sS sO hb1 iN hp3 hr3 KB hnz
 go_wp2_with fail
 refine hm E0 ?_;rintro x w4 ⟨rfl,h4,K4⟩;obtain ⟨iN,hp3,hr3,KB⟩:=HX.out;have mL : Pl w4 ob po ol:=hp3.keep K4 (fun i cur T hi hT x=>by subst x;rw [bM.CX iN] at hi;simp at hi;obtain ⟨_,rfl⟩:=hi;revert hT;unfold Im oT;decide);have hr4:=K4.at_ hr3 (fun x=>by omega);have KC : Kp (fun _=>False) w w4:=KB.trans' K4 (fun i hi x=>by omega);have MX:=h4.lt;have hok1:=qG hok;clear iN hp3 hr3 KB HX E0 K4 xK;generalize Ch.tick s = s1 at *
 have Mr : ∀ cur T,w4.heap[nb]? = some (.cells cur T (0,0)) -> T = 95:=by
  intro cur T h;rw [bM.CX h4] at h;simp at h;exact h.2.symm
 go_wp2_with fail
 go_loopg [7] n (fun gk ov wr=>∃ (s' : Sd) (l : List Int),Hid (cN ol n s1 [] = cN ol gk s' l) /\ bM wr nb [] s' [] 95 /\ s'.Ok /\ wr.ownsRow w4.heap.size 5 1 ov l.length (ax l) /\ gk <= n /\ l.length <= 117000000 * (n - gk) /\ Kp (fun k=>k = nb) w4 wr)
 case atStart=>exact ⟨s1,[],hid rfl,h4,hok1,World.ownsRow_nil _ _ _ _,Nat.le_refl _,by simp,Kp.refl _ _⟩
 case round =>
  obtain ⟨s',l,HE,hn',hs',hfo,hgn,hll,KW⟩:=hrel
  obtain ⟨k,rfl⟩ : ∃ k,gk = k + 1:=by
   cases gk with
   | zero=>have:=HE.out.symm.trans HR.out;simp [cN] at this
   | succ k=>exact ⟨k,rfl⟩
  have hpr : Pl wr ob po ol:=mL.keep KW (fun i cur T hi hT x=>by subst x;have:=Mr _ _ hi;subst this;revert hT;unfold Im oT;decide);have hrr:=KW.at_ hr4 (fun x=>by omega);have E1:=hid (xg wr nb 0 [] s' [] 95 hn' hs'.1 rfl (by have:=hs'.2.2;omega));have hsd:=iR hs'
  have step : cN ol (k + 1) s' l = if (aQ s').2.1 then (if (aL ol (aQ s').2.2 (aQ s').1).2.2 == 0 then cN ol k (aL ol (aQ s').2.2 (aQ s').1).1 (l ++ nums (aL ol (aQ s').2.2 (aQ s').1).2.1)
   else cN ol k (aQ s').2.2 l) else some ((aQ s').2.2,strOfNums l):=rfl
  have HX:=hid (ae hpr (ae hrr (ae KW hfo)));have HN:=hid hn';clear hpr hrr KW hn' hfo h4;generalize aQ s' = td at *;obtain ⟨ev,ok,s2⟩:=td;simp only at hsd step E1
  cases ok with
  | false =>
    have HF:=hid (show r = (s2,strOfNums l) by
     have e:=HR.out.symm.trans (HE.out.trans step)
     simpa using e)
    clear HE step
    go_wp2_with fail
    refine hm E1 ?_;rintro x w5 ⟨rfl,h5,K5⟩;obtain ⟨hpr,hrr,KW,hfo⟩:=HX.out;have gb:=K5.at_ hrr (fun x=>by omega);have tE:=K5.owns hfo (fun i hi x=>by have:=(hfo.lt i hi).1;omega);have KD:=KW.trans K5;have Qd : bA w5 w4.heap.size u7 (ax l):=bA.ofRow tE (Nat.le_refl _);clear HX E1 hpr hrr KW hfo K5
    go_upto_region 6 with (fail)
    have y_:=cY hsd.1;have n1:=Qd.ne gb (by decide)
    have hne : nb ≠ w.heap.size + 1:=by omega
    have hS0 : bM w5.drew nb [] s2 [] 95 /\ bA w5.drew w4.heap.size u7 (ax l):=⟨h5,Qd⟩
    have KR : Kp (fun k=>k = w.heap.size + 1) w5.drew (w5.drew.setRow (w.heap.size + 1) (aj s2).toArray):=Kp.setRow (S:=fun k=>k = w.heap.size + 1) (Kp.refl _ _) (g:=w.heap.size + 1) (fun _=>rfl) _
    have hS1 : bM (w5.drew.setRow (w.heap.size + 1) (aj s2).toArray) nb [] s2 [] 95 /\ bA (w5.drew.setRow (w.heap.size + 1) (aj s2).toArray) w4.heap.size u7 (ax l) :=
     ⟨bM.keep (w:=w5.drew) h5 KR hne,bA.keep (w:=w5.drew) Qd KR (fun i hi x=>by subst x;exact n1 hi)⟩
    have KF : Kp (fun _=>False) w (w5.drew.setRow (w.heap.size + 1) (aj s2).toArray):=((KC.trans' KD (fun i hi x=>by omega)).drewN 1).setRow (fun x=>by omega) _;refine aB (fun w'=>bM w' nb [] s2 [] 95 /\ bA w' w4.heap.size u7 (ax l)) (by kernel_rfl) ?_;refine tm 0 21 (.agg (aj s2).toArray) rfl (fun w' hS=>aU 95 (.tmp 6) rfl nb (by simp [Act.eval]) 95 _ (0,0) ds hS.1.CX hds eH y_) hS0 ?_;refine tk 1 22 u7 rfl (by kernel_rfl) rfl rfl (fun w' _=>by simp [execOp,Act.eval,Act.put,go_sem]) hS0 ?_;refine tm 2 23 (.string (strOfNums l)) rfl (fun w' hS=>kf 47 9 (.tmp 22) rfl u7 _ (by simp [Act.eval,Act.put]) (gK hS.2)) hS0 ?_;refine bE 3 (by kernel_rfl) rfl rfl 95 (.tmp 4) (.tmp 21) rfl rfl (w.heap.size + 1) (aj s2).toArray (by simp [Act.eval,Act.put]) (by simp [Act.eval,Act.put]) 95 aF (by exact gb) y_ (by rw [dy hsd.1];rfl) (fT _) hS1 ?_;refine tm 4 5 (.string (strOfNums l)) rfl (fun w' _=>by simp [execOp,Act.eval,Act.put,go_sem]) hS1 ?_;refine wpAnyH_done (by kernel_rfl) (NoPanic.normal ?_) _;simp only [Act.put,pA,pB,pC];go_wp2;refine bodyPost_ret (results_cell_tmp rfl _ _ (w.heap.size + 1) 95 (aj s2).toArray (0,0) ds rfl (setRow_heap w5.drew _ _ _ _ _ (by exact gb)) hds eH y_) rfl ?_;rw [HF.out];exact ⟨rfl,KF⟩
  | true=>?_
  have jB:=jR (ol:=ol) hsd ev;have Qe:=gM hol s2 ev;have sI:=cY hsd.1;simp only [if_true] at step;have HS:=hid (HE.out.trans step);clear HE step
  go_wp2_with fail
  refine hm E1 ?_;rintro x w5 ⟨rfl,h5,K5⟩;obtain ⟨hpr,hrr,KW,hfo⟩:=HX.out
  have qE : Pl w5 ob po ol:=hpr.keep K5 (fun i cur T hi hT x=>by subst x;have h9:=Mr;have hb:=KW;exact (by
   have hwr:=HN.out
   rw [bM.CX hwr] at hi;simp at hi;obtain ⟨_,rfl⟩:=hi;revert hT;unfold Im oT;decide))
  have gb:=K5.at_ hrr (fun x=>by omega);have tE:=K5.owns hfo (fun i hi x=>by have:=(hfo.lt i hi).1;omega);have KD:=KW.trans K5;have jm:=bM.CX h5;have E2:=hid (oV w5 ob po ol s2 ev hsd qE hol);have HY:=hid (ae h5 (ae qE (ae gb (ae tE KD))));clear HX E1 hpr hrr KW hfo K5 h5 qE gb tE KD;generalize hfr : aL ol s2 ev = fr at *;obtain ⟨fs,ft,fe⟩:=fr;clear hfr;simp only at jB Qe HS E2;generalize (aj s2).toArray = SB at *
  go_wp2_with (refine wpList_load_row rfl 95 (.tmp 6) rfl nb rfl 95 SB (0,0) ds jm hds (by cases ds <;> first | rfl | exact absurd eH (by simp [ar])) sI ?_)
  refine hm E2 ?_;rintro x w6 ⟨rfl,K6⟩;obtain ⟨h5,qE,gb,tE,KD⟩:=HY.out;have hnew:=heap_alloc_new w6 (.cells aF 95);have fI:=cY jB.1;have fS:=dy jB.1;have fO:=fT fs;have JC:=setRow_heap (w6.alloc (.cells aF 95)) w6.heap.size aF (aj fs).toArray 95 (0,0) hnew;have K7 : Kp (fun _=>False) w5 ((w6.alloc (.cells aF 95)).setRow w6.heap.size (aj fs).toArray):=(K6.alloc _).setRow (fun x=>by have:=K6.size;omega) _;have h7:=bM.keep h5 K7 (fun x=>x);have Pb:=K7.owns tE (fun _ _ x=>x);have KE:=KD.trans' K7 (fun i hi x=>x.elim);have Bu:=hid (show (aj fs).toArray = (aj fs).toArray from rfl);clear h5 qE gb tE KD HY E2 K6 K7 jm sI;generalize xJ : (aj fs).toArray = FA at *;have HA:=hid xJ;clear xJ Bu
  cases q : fe == 0 with
  | true =>
    have HF:=hid (show cN ol n s1 [] = cN ol k fs (l ++ nums ft) by rw [HS.out,q];rfl)
    go_upto_region 8 with (refine wpList_store_row rfl 95 (.tmp 10) (.tmp 29) rfl w6.heap.size FA rfl rfl 95 aF hnew fI (by rw [fS];rfl) fO ?_)
    generalize (w6.alloc (.cells aF 95)).setRow w6.heap.size FA = w7 at *;have hold:=bM.CX h7;have KI:=dy (s:=s2) hsd.1;have JD:=setRow_heap w7 nb _ FA _ _ hold;have K8 : Kp (fun k=>k = nb) w7 (w7.setRow nb FA):=Kp.setRow (S:=fun k=>k = nb) (Kp.refl _ _) (g:=nb) (fun _=>rfl) _;have h8 : bM (w7.setRow nb FA) nb [] fs [] 95:=bM.lh (by rw [HA.out];exact JD);have Pd:=K8.owns Pb (fun i hi x=>by have:=(Pb.lt i hi).1;omega);have KF:=KE.trans K8;clear h7 Pb KE K8 JD;generalize (aj s2).toArray = Ur at *
    go_wp2_with (first | refine wpList_load_row rfl 95 (.tmp 10) rfl w6.heap.size rfl 95 FA (0,0) ds JC hds (by cases ds <;> first | rfl | exact absurd eH (by simp [ar])) fI ?_ | refine wpList_store_row rfl 95 (.tmp 6) (.tmp 34) rfl nb FA rfl rfl 95 Ur hold fI (by rw [fS,KI]) fO ?_ | (at_builtin;refine Go.Lib.wpList_append_own_string _ rfl (.tmp 35) (.tmp 36) 47 9 rfl w4.heap.size 5 i0 underlying47 underlying9 hi hz0 hz1 hz2 u7 l.length (ax l) rfl Pd ft rfl ?c1 ?c2 ?c3 ?_))
    case c1=>unfold maxLen;omega
    case c2=>omega
    case c3=>have:=KF.size;omega
    intro v9 w9 o9 g9 _;have K9 : Kp (fun k=>k = nb) w4 w9:=KF.grown g9 (fun i hi hlt=>by have:=(Pd.lt i hi).1;omega);have h9 : bM w9 nb [] fs [] 95:=bM.keep h8 ((Kp.refl (fun i=>u7.ownBlock = some i) _).grown g9 (fun i hi _=>hi)) (fun x=>by have:=(Pd.lt nb x).1;omega);clear g9 KF h8 Pd hold JC;go_wp2
    go_roundg k
    case rel=>exact ⟨fs,l ++ nums ft,HF,h9,jB,by rw [tD] at o9;simpa [ax,rM] using o9,by omega,by rw [List.length_append,rM,show n - k = (n - (k + 1)) + 1 by omega];omega,K9⟩
    case measure=>omega
  | false=>?_
  have HF:=hid (show cN ol n s1 [] = cN ol k s2 l by rw [HS.out,q];rfl)
  go_wp2_with (refine wpList_store_row rfl 95 (.tmp 10) (.tmp 29) rfl w6.heap.size FA rfl rfl 95 aF hnew fI (by rw [fS];rfl) fO ?_)
  go_roundg k
  case rel=>exact ⟨s2,l,HF,h7,hsd,Pb,by omega,Nat.le_trans hll (Nat.mul_le_mul_left _ (by omega)),KE⟩
  case measure=>omega
end
namespace Ch
theorem uB (ol : Ol) : (mstart ol).1.Ok:=me (nK (m:=⟨bp ol.ag,[],[]⟩) (mJ ol.ag) []) _
structure As where
 act : ByteArray
 past : ByteArray
 tm : ByteArray
 x : Int
 y : Int
 z : Int
def gw : As:=⟨⟨#[]⟩,⟨#[]⟩,⟨#[]⟩,0,0,0⟩
def bC (ss : List St) (s : Sd) : As:=⟨eY ss s,fJ ss s,s.tm,s.x,s.y,s.z⟩
def mM (t : ByteArray) : As × ByteArray × Int :=
 if (read t).1 != 0 then (gw,⟨#[]⟩,(read t).1)
 else if (mstart (read t).2.2).2.2 != 0 then (gw,⟨#[]⟩,(mstart (read t).2.2).2.2)
 else (bC (read t).2.2.ag (mstart (read t).2.2).1,(mstart (read t).2.2).2.1,0)
end Ch
theorem eh {P : Program} {o : Oper} {a : Act} {w : World} (t : TypeId) (parts : Array (Nat × Operand)) (ho : o.op = .build t parts)
 (cells : Array Value) (vals : List (Nat × Value)) (hv : parts.toList.map (fun p=>(p.1,a.eval p.2)) = vals) (hb : P.built t vals = some cells) : (execOp a.eval o).run P w = .ok (.value (.agg cells)) w:=by
 have e : (parts.map fun (i,x)=>(i,a.eval x)).toList = vals:=by rw [Array.toList_map];exact hv
 unfold execOp;simp only [ho,Sem.run_bind,run_build w t _ cells (by rw [e];exact hb),Result.andThen_ok,Sem.run_pure]
def bq (a : As) : Array Value:=#[.string a.act,.string a.past,.string a.tm,.int .i64 a.x,.int .i64 a.y,.int .i64 a.z]
theorem bo : (prog.info? 26).map (·.size) = some 6:=by kernel_rfl
theorem jS : ∃ d,prog.underlying 26 = some d /\ ar d = true:=⟨_,underlying26,rfl⟩
theorem fA (a : As) : (bq a).all (fun x=>x.oneCell') = true:=by
 apply Array.all_eq_true_iff_forall_mem.2;intro x hx;simp only [bq,List.mem_toArray,List.mem_cons,List.not_mem_nil,or_false] at hx
 rcases hx with rfl | rfl | rfl | rfl | rfl | rfl <;> rfl
theorem qY.au {w w' : World} {B : Nat} {o : Ol} {sv tv bv : Value} {lt : List (Tr × Value)} {lb : List (Bl × Value)} (F : qY w B o sv tv bv lt lb) (k : Kp (fun _=>False) w w') : qY w' B o sv tv bv lt lb :=
 ⟨k.owns F.ag (fun _ _ x=>x),F.wM,k.owns F.bH (fun _ _ x=>x),fun x hx=>k.owns (F.kx x hx) (fun _ _ x=>x),F.y7,k.owns F.cM (fun _ _ x=>x),fun x hx=>k.owns (F.kH x hx) (fun _ _ x=>x)⟩
theorem Pl.ofRow {w : World} {ob B : Nat} {ol : Ol} {e f : Int} {sv tv bv : Value} {lt : List (Tr × Value)} {lb : List (Bl × Value)} (h : w.heap[ob]? = some (.cells (mB e f sv tv bv) 87 (0,0))) (F : qY w B ol sv tv bv lt lb) : Pl w ob 0 ol :=
 ⟨sv,tv,bv,lt,lb,B,_,_,⟨h,.inl rfl,rfl,rfl,rfl⟩,F⟩
section
variable (w : World)
theorem rN (t : ByteArray) :
 Calls prog 20 #[.string t] w fun x w'=>x = .returned (.tuple #[.agg (bq (mM t).1),.string (mM t).2.1,.int .i64 (mM t).2.2]) /\ Kp (fun _=>False) w w':=by
 obtain ⟨ds,hds,eH⟩:=jS;have hr1:=heap_alloc_new w (.cells cf 26);have K1 : Kp (fun _=>False) w (w.alloc (.cells cf 26)):=(Kp.refl _ _).alloc _;have E0:=hid (ns t (w.alloc (.cells cf 26)));have hol:=jl t
 have HU:=hid (show mM t = if (Ch.read t).1 != 0 then (gw,⟨#[]⟩,(Ch.read t).1)
  else if (Ch.mstart (Ch.read t).2.2).2.2 != 0 then (gw,⟨#[]⟩,(Ch.mstart (Ch.read t).2.2).2.2)
  else (bC (Ch.read t).2.2.ag (Ch.mstart (Ch.read t).2.2).1,(Ch.mstart (Ch.read t).2.2).2.1,0) from rfl)
 go_enter func20,ntmps20
 go_wp2_with fail
 refine hm E0 ?_;rintro x w2 ⟨sv,tv,bv,lt,lb,rfl,F2,B2⟩;have K2:=gG B2;have hr2:=K2.at_ hr1 (fun x=>x);have KA:=K1.trans K2;clear E0 hr1 K1 K2 B2;generalize hrd : Ch.read t = rd at *;obtain ⟨re,rf,ol⟩:=rd;clear hrd;simp only at hol F2 HU;have qZ:=Bi (e:=re) (f:=rf) (fg F2.ag) (fg F2.bH) (fg F2.cM);have hnew:=heap_alloc_new w2 (.cells uc 87);have hrow:=setRow_heap (w2.alloc (.cells uc 87)) w2.heap.size _ (mB re rf sv tv bv) 87 (0,0) hnew;have K3 : Kp (fun _=>False) w2 ((w2.alloc (.cells uc 87)).setRow w2.heap.size (mB re rf sv tv bv)):=((Kp.refl _ _).alloc _).setRow (fun x=>by omega) _;have hp3:=Pl.ofRow hrow (F2.au K3);have hr3:=K3.at_ hr2 (fun x=>x);have KB:=KA.trans K3;have HX:=hid (ae hp3 (ae hr3 (ae KB hrow)));clear hr2 KA K3 hp3 hr3 KB hrow F2
 go_upto_region 2 with (refine wpList_store_row rfl 87 (.tmp 5) (.tmp 10) rfl w2.heap.size (mB re rf sv tv bv) rfl rfl 87 uc hnew oD rfl qZ ?_)
 generalize (w2.alloc (.cells uc 87)).setRow w2.heap.size (mB re rf sv tv bv) = w3 at *;obtain ⟨hp3,hr3,KB,hrow⟩:=HX.out
 have z0 : w3.cell? ⟨w2.heap.size,0,none⟩ = some (.int .i64 re):=by rw [World.cell?,hrow];rfl
 clear hnew qZ hp3 hr3 KB hrow;generalize w2.heap.size = ob at *
 cases q1 : re != 0 with
 | true =>
   have HF:=hid (HU.out.trans (show _ = (gw,(⟨#[]⟩ : ByteArray),re) by rw [q1];rfl))
   go_upto_region 3 with (fail)
   obtain ⟨hp3,hr3,KB,hrow⟩:=HX.out
   have r0 : w3.cell? ⟨w.heap.size,0,none⟩ = some (.string ⟨#[]⟩):=by rw [World.cell?,hr3];rfl
   have r1 : w3.cell? ⟨w.heap.size,1,none⟩ = some (.string ⟨#[]⟩):=by rw [World.cell?,hr3];rfl
   have r2 : w3.cell? ⟨w.heap.size,2,none⟩ = some (.string ⟨#[]⟩):=by rw [World.cell?,hr3];rfl
   have r3 : w3.cell? ⟨w.heap.size,3,none⟩ = some (.int .i64 0):=by rw [World.cell?,hr3];rfl
   have r4 : w3.cell? ⟨w.heap.size,4,none⟩ = some (.int .i64 0):=by rw [World.cell?,hr3];rfl
   have r5 : w3.cell? ⟨w.heap.size,5,none⟩ = some (.int .i64 0):=by rw [World.cell?,hr3];rfl
   have hS0 : w3.drew.heap[ob]? = some (.cells (mB re rf sv tv bv) 87 (0,0)):=hrow
   have hne : ob ≠ w.heap.size:=by intro e;rw [e,hr3] at hrow;simp at hrow
   have hS1 : (w3.drew.setRow w.heap.size cf).heap[ob]? = some (.cells (mB re rf sv tv bv) 87 (0,0)):=by rw [setRow_other _ _ _ _ hne];exact hrow
   have KF : Kp (fun _=>False) w (w3.drew.setRow w.heap.size cf):=(KB.drewN 1).setRow (fun x=>by omega) _;refine aB (fun w'=>w'.heap[ob]? = some (.cells (mB re rf sv tv bv) 87 (0,0))) (by kernel_rfl) ?_;refine tm 0 14 (.agg cf) rfl (fun w' _=>eh 26 #[] rfl cf [] rfl (by kernel_rfl)) hS0 ?_;refine tm 1 15 (.pointer (some ⟨ob,0,none⟩)) rfl (fun w' _=>by simp [execOp,Act.eval,Act.put,go_sem]) hS0 ?_;refine tm 2 16 (.int .i64 re) rfl (fun w' hS=>by (have c : w'.cell? ⟨ob,0,none⟩ = some (.int .i64 re):=(by rw [World.cell?,hS];rfl);simp [execOp,Act.eval,Act.put,go_sem,c])) hS0 ?_;refine bE 3 (by kernel_rfl) rfl rfl 26 (.tmp 2) (.tmp 14) rfl rfl w.heap.size cf (by simp [Act.eval,Act.put]) (by simp [Act.eval,Act.put]) 26 cf (by exact hr3) bo rfl (fA gw) hS1 ?_;refine tm 4 3 (.string ⟨#[]⟩) rfl (fun w' _=>by rfl) hS1 ?_;refine tm 5 4 (.int .i64 re) rfl (fun w' _=>by simp [execOp,Act.eval,Act.put,go_sem]) hS1 ?_;refine wpAnyH_done (by kernel_rfl) (NoPanic.normal ?_) _;simp only [Act.put,pA,pB,pC];go_wp2;refine bodyPost_ret (aC rfl _ _ w.heap.size 26 cf (0,0) ds rfl (setRow_heap w3.drew _ _ _ _ _ (by exact hr3)) hds eH bo) rfl ?_;rw [HF.out];exact ⟨rfl,KF⟩
 | false=>?_
 obtain ⟨hp3,hr3,KB,hrow⟩:=HX.out;have E1:=hid (rL w3 ob 0 ol hp3 hol);have vO:=uB ol;have HV:=hid (HU.out.trans (show _ = if (Ch.mstart ol).2.2 != 0 then (gw,(⟨#[]⟩ : ByteArray),(Ch.mstart ol).2.2) else (bC ol.ag (Ch.mstart ol).1,(Ch.mstart ol).2.1,0) by rw [q1];rfl));clear hp3 hr3 KB hrow HU;generalize hms : Ch.mstart ol = ms at *;obtain ⟨fs,ft,fe⟩:=ms;clear hms;simp only at vO HV E1;have fI:=cY vO.1;have fS:=dy vO.1;have fO:=fT fs
 go_wp2_with fail
 refine hm E1 ?_;rintro x w4 ⟨rfl,K4⟩;obtain ⟨hp3,hr3,KB,hrow⟩:=HX.out;have mL:=hp3.keep K4 (fun _ _ _ _ _ x=>x);have hr4:=K4.at_ hr3 (fun x=>x);have KC:=KB.trans K4;have hnew:=heap_alloc_new w4 (.cells aF 95);have jm:=setRow_heap (w4.alloc (.cells aF 95)) w4.heap.size aF (aj fs).toArray 95 (0,0) hnew;have K5 : Kp (fun _=>False) w4 ((w4.alloc (.cells aF 95)).setRow w4.heap.size (aj fs).toArray):=((Kp.refl _ _).alloc _).setRow (fun x=>by omega) _;have h5:=bM.lh jm;have qE:=mL.keep K5 (fun _ _ _ _ _ x=>x);have gb:=K5.at_ hr4 (fun x=>x);have KD:=KC.trans K5;have hlt : w.heap.size < w4.heap.size:=lt_of_block hr4;have HY:=hid (ae h5 (ae qE (ae gb KD)));clear hp3 hr3 KB hrow mL hr4 KC K4 K5 h5 qE gb KD HX E1 jm;generalize (aj fs).toArray = FA at *
 go_upto_region 5 with (refine wpList_store_row rfl 95 (.tmp 6) (.tmp 19) rfl w4.heap.size FA rfl rfl 95 aF hnew fI (by rw [fS];rfl) fO ?_)
 generalize (w4.alloc (.cells aF 95)).setRow w4.heap.size FA = w5 at *;generalize w4.heap.size = fb at *;clear fI fS fO hnew z0
 cases q2 : fe != 0 with
 | true =>
   obtain ⟨h5,qE,gb,KD⟩:=HY.out;have HF:=hid (HV.out.trans (show _ = (gw,(⟨#[]⟩ : ByteArray),fe) by rw [q2];rfl));have KF : Kp (fun _=>False) w (w5.setRow w.heap.size cf):=KD.setRow (fun x=>by omega) _;clear h5 qE KD HY HV
   go_wp2_with (refine wpList_store_row rfl 26 (.tmp 2) (.tmp 24) rfl w.heap.size cf rfl rfl 26 cf gb bo rfl (fA gw) ?_)
   refine bodyPost_ret (aC rfl _ _ w.heap.size 26 cf (0,0) ds rfl (setRow_heap _ _ _ _ _ _ gb) hds eH bo) rfl ?_;rw [HF.out];exact ⟨rfl,KF⟩
 | false=>?_
 obtain ⟨h5,qE,gb,KD⟩:=HY.out;have E2:=hid (gU ob 0 w5 ol.ag fb 0 [] fs [] 95 qE.str (by have:=hol.ag;omega) h5 vO.1 rfl);have HF:=hid (HV.out.trans (show _ = (bC ol.ag fs,ft,(0 : Int)) by rw [q2];rfl));clear h5 qE KD gb HV
 go_wp2_with fail
 refine hm E2 ?_;rintro x w6 ⟨rfl,K6⟩;obtain ⟨h5,qE,gb,KD⟩:=HY.out;have mw:=K6.at_ gb (fun x=>x);have KF : Kp (fun _=>False) w (w6.setRow w.heap.size (bq (bC ol.ag fs))):=(KD.trans K6).setRow (fun x=>by omega) _;clear h5 qE KD gb HY E2
 go_wp2_with (refine wpList_store_row rfl 26 (.tmp 2) (.tmp 26) rfl w.heap.size (bq (bC ol.ag fs)) rfl rfl 26 cf mw bo rfl (fA _) ?_)
 refine bodyPost_ret (aC rfl _ _ w.heap.size 26 (bq (bC ol.ag fs)) (0,0) ds rfl (setRow_heap _ _ _ _ _ _ mw) hds eH bo) rfl ?_;rw [HF.out];exact ⟨rfl,KF⟩
end
end Go.Proofs.YtnlbchmfcebeeaaGreat
