import Derived.Test.YtnlbchmfcebeeaaGreatTSi
set_option maxHeartbeats 12800000
set_option maxRecDepth 100000
namespace Go.Proofs.YtnlbchmfcebeeaaGreat
open Go.Proofs.Tryz Ch
open Go.RowKit
namespace Ch
structure Ln where
 all : List As
 log : ByteArray
 stands : List Bool
 asked : List Rq
 latest : List Int
 steps : List Int
theorem DP {a b : ByteArray} {j : Nat} (h : j < a.size) : af (a ++ b) j = af a j:=by
 unfold af;rw [dif_pos h,dif_pos (by rw [ByteArray.size_append];omega),ByteArray.getElem_append_left h]
theorem AJ {a b : ByteArray} {j : Nat} (h : j < b.size) : af (a ++ b) (a.size + j) = af b j:=by
 unfold af;rw [dif_pos h,dif_pos (by rw [ByteArray.size_append];omega),ByteArray.getElem_append_right (by omega)]
 congr 3
 omega
theorem yL {a : ByteArray} {i : Nat} (h : i < a.size) : af (a.extract i (i + 1)) 0 = af a i:=by
 have hs : (a.extract i (i + 1)).size = 1:=by rw [ByteArray.size_extract];omega
 unfold af;rw [dif_pos h,dif_pos (by omega),ByteArray.getElem_extract];rfl
theorem n_ {a : ByteArray} {i : Nat} (h : i < a.size) : (a.extract i (i + 1)).size = 1:=by rw [ByteArray.size_extract];omega
end Ch
def dp (a : As) : List Value:=[.string a.act,.string a.past,.string a.tm,.int .i64 a.x,.int .i64 a.y,.int .i64 a.z]
theorem BY (a : As) : (dp a).toArray = bq a:=rfl
theorem Ji (a : As) : (dp a).length = 6:=rfl
def ml (l : List As) : List Value:=l.flatMap dp
def pR (r : Rq) : List Value:=[.int .i64 r.kind,.string r.events,.int .i64 r.at_]
theorem wG (r : Rq) : (pR r).length = 3:=rfl
def df (l : List Rq) : List Value:=l.flatMap pR
def iD (l : List Bool) : List Value:=l.map Value.bool
structure Lp where
 wb : Nat
 sb : Nat
 qb : Nat
 lb : Nat
 pb : Nat
def Hw (p : Lp) (t : ByteArray) (L : Ln) (av : Value) : Array Value :=
 #[.string t,av,.string L.log,.slice (some ⟨p.sb,0,none⟩) L.stands.length L.stands.length,.slice (some ⟨p.qb,0,none⟩) L.asked.length L.asked.length,.slice (some ⟨p.lb,0,none⟩) L.latest.length L.latest.length,.slice (some ⟨p.pb,0,none⟩) L.steps.length L.steps.length]
structure dU (w : World) (p : Lp) (t : ByteArray) (L : Ln) (av : Value) : Prop where
 blk : w.heap[p.wb]? = some (.cells (Hw p t L av) 71 (0,0))
 row : w.ownsRow 0 26 6 av L.all.length (ml L.all)
 wH : w.heap[p.sb]? = some (.cells (iD L.stands).toArray 4 (0,0))
 ask : w.heap[p.qb]? = some (.cells (df L.asked).toArray 79 (0,0))
 yM : w.heap[p.lb]? = some (.cells (bK L.latest).toArray 3 (0,0))
 tY : w.heap[p.pb]? = some (.cells (bK L.steps).toArray 3 (0,0))
 ne : p.lb ≠ p.pb
def jb (p : Lp) (av : Value) (k : Nat) : Prop:=k = p.wb \/ k = p.sb \/ k = p.qb \/ k = p.lb \/ k = p.pb \/ av.ownBlock = some k
def sG (w w' : World) (p : Lp) (t : ByteArray) (av : Value) (L : Ln) : Prop :=
 ∃ qM,dU w' p t L qM /\ (∀ k,qM.ownBlock = some k -> av.ownBlock = some k \/ w.heap.size <= k) /\ Kp (jb p av) w w'
def JX (e : TypeId) : Prop:=e = 71 \/ e = 26 \/ e = 4 \/ e = 79 \/ e = 3
section
variable {w w' : World} {p : Lp} {t : ByteArray} {L : Ln} {av : Value}
theorem dU.keep {S : Nat -> Prop} (h : dU w p t L av) (K : Kp S w w') (hs : ∀ k,jb p av k -> ¬ S k) : dU w' p t L av :=
 ⟨K.at_ h.blk (hs _ (.inl rfl)),K.owns h.row (fun k e=>hs k (.inr (.inr (.inr (.inr (.inr e)))))),K.at_ h.wH (hs _ (.inr (.inl rfl))),K.at_ h.ask (hs _ (.inr (.inr (.inl rfl)))),K.at_ h.yM (hs _ (.inr (.inr (.inr (.inl rfl))))),K.at_ h.tY (hs _ (.inr (.inr (.inr (.inr (.inl rfl)))))),h.ne⟩
theorem dU.au (h : dU w p t L av) (K : Kp (fun _=>False) w w') : dU w' p t L av:=h.keep K (fun _ _ x=>x)
theorem dU.low (h : dU w p t L av) : ∀ k,jb p av k -> k < w.heap.size:=by
 rintro k (rfl | rfl | rfl | rfl | rfl | e)
 ·exact lt_of_block h.blk
 ·exact lt_of_block h.wH
 ·exact lt_of_block h.ask
 ·exact lt_of_block h.yM
 ·exact lt_of_block h.tY
 obtain ⟨cur,hc⟩:=aR h.row e;exact lt_of_block hc
theorem dU.type (h : dU w p t L av) {k : Nat} (hk : jb p av k) : ∃ c e,w.heap[k]? = some (.cells c e (0,0)) /\ JX e:=by
 rcases hk with rfl | rfl | rfl | rfl | rfl | e
 ·exact ⟨_,_,h.blk,.inl rfl⟩
 ·exact ⟨_,_,h.wH,.inr (.inr (.inl rfl))⟩
 ·exact ⟨_,_,h.ask,.inr (.inr (.inr (.inl rfl)))⟩
 ·exact ⟨_,_,h.yM,.inr (.inr (.inr (.inr rfl)))⟩
 ·exact ⟨_,_,h.tY,.inr (.inr (.inr (.inr rfl)))⟩
 obtain ⟨cur,hc⟩:=aR h.row e;exact ⟨_,_,hc,.inr (.inl rfl)⟩
theorem dU.other (h : dU w p t L av) {b : Nat} {c : Array Value} {e : TypeId} (hb : w.heap[b]? = some (.cells c e (0,0))) (he : ¬ JX e) : ¬ jb p av b:=by
 intro hk;obtain ⟨c',e',h1,h2⟩:=h.type hk;rw [hb] at h1;simp only [Option.some.injEq,Obj.cells.injEq] at h1;exact he (h1.2.1 ▸ h2)
theorem dU.cell (h : dU w p t L av) (j : Nat) : w.cell? ⟨p.wb,j,none⟩ = (Hw p t L av)[j]?:=by rw [World.cell?,h.blk];rfl
theorem dU.free (h : dU w p t L av) (j : Nat) : w.frozen? ⟨p.wb,j,none⟩ = false:=by simp [World.frozen?,h.blk]
theorem dU.rowAt (h : dU w p t L av) (hl : 0 < L.all.length) : ∃ g cap,av = .slice (some ⟨g,0,none⟩) L.all.length cap:=by
 rcases h.row.2 with ⟨_,e2⟩ | ⟨g,cap,_,e1,_⟩
 ·omega
 exact ⟨g,cap,e1⟩
theorem sG.of (h : dU w' p t L av) (K : Kp (jb p av) w w') : sG w w' p t av L:=⟨av,h,fun _ e=>.inl e,K⟩
theorem sG.trans {w'' : World} {L' : Ln} {qM : Value} (K : Kp (jb p av) w w') (hk : ∀ k,qM.ownBlock = some k -> av.ownBlock = some k \/ w.heap.size <= k) (q : sG w' w'' p t qM L') : sG w w'' p t av L':=by
 obtain ⟨I8,h2,n2,K2⟩:=q;refine ⟨I8,h2,?_,K.trans' K2 ?_⟩
 ·intro k e
  rcases n2 k e with e' | e'
  ·exact hk k e'
  exact .inr (Nat.le_trans K.size e')
 intro i hi s
 rcases s with s | s | s | s | s | s
 ·exact .inl s
 ·exact .inr (.inl s)
 ·exact .inr (.inr (.inl s))
 ·exact .inr (.inr (.inr (.inl s)))
 ·exact .inr (.inr (.inr (.inr (.inl s))))
 rcases hk i s with e | e
 ·exact .inr (.inr (.inr (.inr (.inr e))))
 omega
end
theorem wI {w : World} {xb tb : Nat} {pc : Pc} {ol : Ol} {x : Sv} {kv : Value} (h : cj w xb tb 138 pc ol x kv) {k : Nat} (hk : jr xb tb kv k) : ∃ c e,w.heap[k]? = some (.cells c e (0,0)) /\ ¬ JX e:=by
 rcases hk with rfl | rfl | e
 ·exact ⟨_,_,h.blk,by unfold JX;decide⟩
 ·exact ⟨_,_,h.kA,by unfold JX;decide⟩
 obtain ⟨cur,hc⟩:=aR h.row e;exact ⟨_,_,hc,by unfold JX;decide⟩
theorem cj.sH {w w' : World} {p : Lp} {t : ByteArray} {L : Ln} {av : Value} {xb tb : Nat} {pc : Pc} {ol : Ol} {x : Sv} {kv : Value} (h : cj w xb tb 138 pc ol x kv) (l : dU w p t L av) (K : Kp (jb p av) w w') : cj w' xb tb 138 pc ol x kv:=by
 have hS : ∀ k,jr xb tb kv k -> ¬ jb p av k:=by
  intro k hk;obtain ⟨c,e,h1,h2⟩:=wI h hk;exact l.other h1 h2
 refine h.keep K (hS _ (.inl rfl)) (hS _ (.inr (.inl rfl))) (fun k e=>hS k (.inr (.inr e))) ?_;intro i cur e hi he
 exact l.other hi (by
  intro x
  rcases he with rfl | rfl | rfl | rfl <;> revert x <;> unfold JX <;> decide)
theorem dU.bP {w w' : World} {p : Lp} {t : ByteArray} {L : Ln} {av : Value} {xb tb : Nat} {pc : Pc} {ol : Ol} {x : Sv} {kv : Value} (l : dU w p t L av) (h : cj w xb tb 138 pc ol x kv) (K : Kp (jr xb tb kv) w w') : dU w' p t L av:=by
 refine l.keep K ?_;intro k hk hs;obtain ⟨c,e,h1,h2⟩:=wI h hs;exact l.other h1 h2 hk
section
variable (w : World)
theorem iY (c : Int) (h1 : -9223372036854775808 <= c) (h2 : c <= 9223372036854775807) (n : Nat) (hn : 1 <= n) (Ke : n <= 1000000000000000000) :
 Calls prog 24 #[.int .i64 c,.int .i64 n] w fun x w'=>∃ r : Nat,x = .returned (.int .i64 r) /\ r < n /\ w' = w:=by
 by_cases hc : c < 0
 ·have e : (-(c + 1)).tmod (n : Int) = (((-(c + 1)).toNat % n : Nat) : Int):=by
   rw [Int.tmod_eq_emod_of_nonneg (by omega)]
   have : -(c + 1) = (((-(c + 1)).toNat : Nat) : Int):=by omega
   rw [this];simp
  have hlt : (-(c + 1)).toNat % n < n:=Nat.mod_lt _ (by omega);generalize (-(c + 1)).toNat % n = r at *
  have hn0 : ¬ ((n : Int) = 0):=by omega
  go_enter func24,ntmps24
  go_wp2;go_ret;exact ⟨r,by simp,hlt,rfl⟩
 have e : c.tmod (n : Int) = ((c.toNat % n : Nat) : Int):=by
  rw [Int.tmod_eq_emod_of_nonneg (by omega)]
  have : c = ((c.toNat : Nat) : Int):=by omega
  rw [this];simp
 have hlt : c.toNat % n < n:=Nat.mod_lt _ (by omega);generalize c.toNat % n = r at *
 have hn0 : ¬ ((n : Int) = 0):=by omega
 go_enter func24,ntmps24
 go_wp2;go_ret;exact ⟨r,by simp,hlt,rfl⟩
theorem yN (s : ByteArray) (hs : s.size <= maxLen) :
 Calls prog 83 #[.string s] w fun x w'=>∃ e,x = .returned (.string e) /\ dG e = true /\ w' = w:=by
 unfold maxLen at hs
 go_enter func83,ntmps83
 go_wp2_with fail
 go_loopw [3,4] (fun tv iv wr=>∃ (i : Nat) (e : ByteArray),iv = .int .i64 i /\ tv = .string e /\ i <= s.size /\ e.size <= 4 /\ wr = w /\ Hid (∀ j,j < e.size -> bN (af e j) = true)) (fun _ iv _=>s.size - (intOf iv).toNat)
 case atStart=>exact ⟨0,⟨#[]⟩,rfl,rfl,Nat.zero_le _,Nat.zero_le _,rfl,hid (fun j hj=>by have : j < 0:=hj;omega)⟩
 case round =>
  obtain ⟨i,e,rfl,rfl,hil,hel,rfl,HB⟩:=hrel
  by_cases hgo : i < s.size /\ e.size < 4
  ·obtain ⟨hlt,U4⟩:=hgo
   have hlt' : (i : Int) < (s.size : Int):=by omega
   have U5 : (e.size : Int) < 4:=by omega
   have hidx : s[i]? = some (s[i]'hlt):=getElem?_pos s i hlt
   have hpk : af s i = ((s[i]'hlt).toNat : Int):=by simp [af,hlt]
   generalize hc : ((s[i]'hlt).toNat : Int) = c at *
   by_cases q : 97 <= c /\ c <= 122
   ·obtain ⟨q1,q2⟩:=q
    have hadd:=fun w'=>run_string_add_sum (P:=prog) w' e (s.extract i (i + 1)) (by rw [n_ hlt];omega)
    have hsz : (e ++ s.extract i (i + 1)).size = e.size + 1:=by rw [ByteArray.size_append,n_ hlt]
    have HN:=hid (show ∀ j,j < (e ++ s.extract i (i + 1)).size -> bN (af (e ++ s.extract i (i + 1)) j) = true by
     intro j hj;rw [hsz] at hj
     by_cases ej : j < e.size
     ·rw [DP ej];exact HB.out j ej
     obtain rfl : j = e.size + 0:=by omega
     rw [AJ (by rw [n_ hlt];omega),yL hlt,hpk]
     simp [bN,q1,q2])
    have HS:=hid hsz;clear HB hsz hpk
    go_wp2_with fail
    go_roundw
    case rel=>exact ⟨i + 1,_,by go_num,rfl,by omega,by rw [HS.out];omega,by first | rfl | trivial,HN⟩
    case measure=>simp [intOf];omega
   have HB2:=HB;clear HB hpk
   by_cases q1 : 97 <= c
   ·have q2 : ¬ c <= 122:=by omega
    go_wp2_with fail
    go_roundw
    case rel=>exact ⟨i + 1,e,by go_num,rfl,by omega,hel,by first | rfl | trivial,HB2⟩
    case measure=>simp [intOf];omega
   go_wp2_with fail
   go_roundw
   case rel=>exact ⟨i + 1,e,by go_num,rfl,by omega,hel,by first | rfl | trivial,HB2⟩
   case measure=>simp [intOf];omega
  have hfin : Hid (¬ e = ⟨#[]⟩ -> dG e = true):=hid (fun hne=>yC (fun z=>hne (by apply ByteArray.ext;exact Array.eq_empty_of_size_eq_zero (by show e.size = 0;omega))) (by omega) HB.out)
  have hfa : dG ⟨#[97]⟩ = true:=by decide
  have Bu:=hid hfa;clear HB hfa
  by_cases qe : e = ⟨#[]⟩
  ·subst qe
   have hge : ¬ (i : Int) < (s.size : Int):=by
    intro x;apply hgo;exact ⟨by omega,by decide⟩
   go_wp2;go_ret;exact ⟨_,rfl,Bu.out,rfl⟩
  have hne : e.toList.isEmpty = false:=mh qe;have HF:=hid (hfin.out qe);clear hfin qe
  by_cases hlt : i < s.size
  ·have hlt' : (i : Int) < (s.size : Int):=by omega
   have U4 : ¬ (e.size : Int) < 4:=by
    intro x;apply hgo;exact ⟨hlt,by omega⟩
   go_wp2;go_ret;exact ⟨_,rfl,HF.out,rfl⟩
  have hlt' : ¬ (i : Int) < (s.size : Int):=by omega
  go_wp2;go_ret;exact ⟨_,rfl,HF.out,rfl⟩
theorem u1 (a b : As) :
 Calls prog 21 #[.agg (bq a),.agg (bq b)] w fun x w'=>∃ v,x = .returned (.bool v) /\ Kp (fun _=>False) w w':=by
 unfold bq
 go_enter func21,ntmps21
 go_wp2
 all_goals (go_ret;exact ⟨_,rfl,((Kp.refl _ _).alloc _).alloc _⟩)
end
namespace Ch
theorem SU {e : ByteArray} (he : dG e = true) {a : Int} (ha : -1 <= a) : iC ⟨1,e,a⟩ = true:=by
 unfold iC;rw [if_pos rfl];simp only [he,decide_eq_true ha,Bool.and_self]
theorem U6 {a : Int} (ha : -1 <= a) : iC ⟨3,⟨#[]⟩,a⟩ = true:=by
 unfold iC;rw [if_neg (by simp),if_neg (by simp),if_pos rfl];simp only [decide_eq_true ha,Bool.and_true];rfl
theorem U7 {a : Int} (ha : 0 <= a) : iC ⟨4,⟨#[]⟩,a⟩ = true:=by
 unfold iC;rw [if_neg (by simp),if_neg (by simp),if_neg (by simp),if_pos rfl];simp only [decide_eq_true ha,Bool.and_true];rfl
end Ch
def stA (k u n : Int) (s : ByteArray) : Array Value:=#[.int .i64 k,.int .i64 u,.int .i64 n,.string s]
theorem sJ {P : Program} {o : Oper} {a : Act} {w : World} {K : Act -> World -> Prop} {Q : Exit -> Act -> World -> Prop} (w' : World) (f : ∀ K : Act -> World -> Prop,K a w' -> o.wp P a w K Q) (h : K a w') : o.wp P a w K Q:=f K h
theorem pS (r : Rq) : (cn r).all (fun x=>x.oneCell') = true:=by
 apply Array.all_eq_true_iff_forall_mem.2;intro x hx;simp only [cn,List.mem_toArray,List.mem_cons,List.not_mem_nil,or_false] at hx
 rcases hx with rfl | rfl | rfl <;> rfl
section
variable (w : World) {p : Lp} {t : ByteArray} {L : Ln} {av : Value}
theorem yO (h : dU w p t L av) (k u n : Int) (s : ByteArray) (hk1 : 1 <= k) (hk4 : k <= 4) (hn1 : -9223372036854775808 <= n) (hn2 : n <= 9223372036854775807) (hs : s.size <= maxLen) (hal : L.all.length <= 1000000000000) (lR : L.log.size <= 100000000000000000) :
 Calls prog 59 #[.pointer (some ⟨p.wb,0,none⟩),.agg (stA k u n s)] w fun x w'=>∃ r : Rq,x = .returned (.agg (cn r)) /\ iC r = true /\ r.kind = k /\ Kp (fun _=>False) w w':=by
 obtain ⟨dq,oH,iW⟩:=yF;obtain ⟨ao,cap,mo⟩:=b7 h.row;have K1 : Kp (fun _=>False) w ((w.alloc (.cells (stA k u n s) 58)).alloc (.cells #[.int .i64 0,.string ⟨#[]⟩,.int .i64 0] 79)):=((Kp.refl _ _).alloc _).alloc _
 have hb1 : ((w.alloc (.cells (stA k u n s) 58)).alloc (.cells #[.int .i64 0,.string ⟨#[]⟩,.int .i64 0] 79)).heap[w.heap.size]? = some (.cells (stA k u n s) 58):=by
  rw [Below.heap_alloc _ _ _ (by simp)];exact heap_alloc_new _ _
 have hz1 : ((w.alloc (.cells (stA k u n s) 58)).alloc (.cells #[.int .i64 0,.string ⟨#[]⟩,.int .i64 0] 79)).heap[w.heap.size + 1]? = some (.cells #[.int .i64 0,.string ⟨#[]⟩,.int .i64 0] 79):=heap_alloc2_new w _ _;have HB:=hid (show prog.built 79 [(0,.int .i64 k)] = some (cn ⟨k,⟨#[]⟩,0⟩) by kernel_rfl);have U8:=lt_of_block h.blk;have HH:=hid (ae h K1)
 have EP : ∀ (m : Nat) (hm1 : 1 <= m) (hm2 : m <= 1000000000000000000) (W : World),Hid (Calls prog 24 #[.int .i64 n,.int .i64 (m : Int)] W fun x w'=>∃ r : Nat,x = .returned (.int .i64 r) /\ r < m /\ w' = W):=fun m h1 h2 W=>hid (iY W n hn1 hn2 m h1 h2)
 have EL : ∀ W,Hid (Calls prog 83 #[.string s] W fun x w'=>∃ e,x = .returned (.string e) /\ dG e = true /\ w' = W):=fun W=>hid (yN W s hs)
 have hwr : IntKind.wrap .i64 ((L.all.length : Int) + 2) = (L.all.length : Int) + 2 /\ IntKind.wrap .i64 ((L.all.length : Int) + 3) = (L.all.length : Int) + 3 /\ IntKind.wrap .i64 ((L.log.size : Int) + 2) = (L.log.size : Int) + 2:=by
  refine ⟨?_,?_,?_⟩ <;> (unfold IntKind.wrap;simp [IntKind.bits,IntKind.signed];omega)
 have HE:=hid (ae EP (ae EL hwr));clear h K1 EP EL hwr
 go_enter func59,ntmps59
 go_upto_region 1 with (fail)
 generalize (w.alloc (.cells (stA k u n s) 58)).alloc (.cells #[.int .i64 0,.string ⟨#[]⟩,.int .i64 0] 79) = w1 at *
 have c0 : w1.cell? ⟨w.heap.size,0,none⟩ = some (.int .i64 k):=by rw [World.cell?,hb1];rfl
 have hnb:=heap_alloc_new w1 (.cells #[.int .i64 0,.string ⟨#[]⟩,.int .i64 0] 79);have hx2:=setRow_heap (w1.alloc (.cells #[.int .i64 0,.string ⟨#[]⟩,.int .i64 0] 79)) w1.heap.size #[.int .i64 0,.string ⟨#[]⟩,.int .i64 0] (cn ⟨k,⟨#[]⟩,0⟩) 79 (0,0) hnb;have K2 : Kp (fun _=>False) w1 ((w1.alloc (.cells #[.int .i64 0,.string ⟨#[]⟩,.int .i64 0] 79)).setRow w1.heap.size (cn ⟨k,⟨#[]⟩,0⟩)):=((Kp.refl _ _).alloc _).setRow (fun x=>by omega) _;have hb2:=K2.at_ hb1 (fun x=>x);have hz2:=K2.at_ hz1 (fun x=>x);have h2:=HH.out.1.au (HH.out.2.trans K2);have KA:=HH.out.2.trans K2;have hlt : w.heap.size + 1 < w1.heap.size:=lt_of_block hz1;have oq:=pS ⟨k,⟨#[]⟩,0⟩;have HX:=hid (ae h2 KA);clear K2 h2 KA hb1 hz1 HH
 go_upto_region 2 with (first | (refine bn rfl 79 #[(0,.tmp 7)] rfl (cn ⟨k,⟨#[]⟩,0⟩) [(0,.int .i64 k)] ?_ HB.out ?_;rfl) | refine wpList_store_row rfl 79 (.tmp 5) (.tmp 8) rfl w1.heap.size (cn ⟨k,⟨#[]⟩,0⟩) rfl rfl 79 #[.int .i64 0,.string ⟨#[]⟩,.int .i64 0] hnb kr rfl oq ?_)
 generalize (w1.alloc (.cells #[.int .i64 0,.string ⟨#[]⟩,.int .i64 0] 79)).setRow w1.heap.size (cn ⟨k,⟨#[]⟩,0⟩) = w2 at *;generalize w1.heap.size = rb at *;clear c0 hnb
 have s0 : w2.cell? ⟨w.heap.size,0,none⟩ = some (.int .i64 k):=by rw [World.cell?,hb2];rfl
 have s2 : w2.cell? ⟨w.heap.size,2,none⟩ = some (.int .i64 n):=by rw [World.cell?,hb2];rfl
 have s3 : w2.cell? ⟨w.heap.size,3,none⟩ = some (.string s):=by rw [World.cell?,hb2];rfl
 have l1 : w2.cell? ⟨p.wb,1,none⟩ = some (.slice ao L.all.length cap):=by rw [<- mo];exact HX.out.1.cell 1
 have l2 : w2.cell? ⟨p.wb,2,none⟩ = some (.string L.log):=HX.out.1.cell 2
 have fr : ∀ j,w2.frozen? ⟨rb,j,none⟩ = false:=fun j=>by simp [World.frozen?,hx2]
 have y2 : w2.cell? ⟨rb,2,none⟩ = some (.int .i64 0):=by rw [World.cell?,hx2];rfl
 have y1 : w2.cell? ⟨rb,1,none⟩ = some (.string ⟨#[]⟩):=by rw [World.cell?,hx2];rfl
 have Pr:=fr 2;have Ps:=fr 1;clear fr;have Pt:=hid mo;clear mo
 by_cases q1 : k = 1
 ·subst q1
  have EL:=HE.out.2.1 w2
  go_wp2_with fail
  refine hm EL ?_;rintro y w3 ⟨e,rfl,he,rfl⟩;have Pu:=hid he;clear EL he;have hx3 : (w3.setCell ⟨rb,1,none⟩ (.string e)).heap[rb]? = some (.cells (cn ⟨1,e,0⟩) 79 (0,0)):=ah _ hx2;have K3 : Kp (fun k=>k = rb) w3 (w3.setCell ⟨rb,1,none⟩ (.string e)):=(Kp.refl (fun k=>k = rb) w3).setCell (p:=⟨rb,1,none⟩) (fun _=>rfl) _;have hx4 : ((w3.setCell ⟨rb,1,none⟩ (.string e)).setCell ⟨rb,2,none⟩ (.int .i64 (-1))).heap[rb]? = some (.cells (cn ⟨1,e,-1⟩) 79 (0,0)):=ah _ hx3;have K4 : Kp (fun k=>k = rb) w3 ((w3.setCell ⟨rb,1,none⟩ (.string e)).setCell ⟨rb,2,none⟩ (.int .i64 (-1))):=K3.setCell (p:=⟨rb,2,none⟩) (fun _=>rfl) _;have hb4:=K4.at_ hb2 (by show ¬ w.heap.size = rb;omega);have Iw:=K4.at_ hz2 (by show ¬ w.heap.size + 1 = rb;omega);have hl4:=K4.at_ HX.out.1.blk (by show ¬ p.wb = rb;omega);have KA : Kp (fun _=>False) w ((w3.setCell ⟨rb,1,none⟩ (.string e)).setCell ⟨rb,2,none⟩ (.int .i64 (-1))):=HX.out.2.trans' K4 (fun i hi x=>by omega)
  have z3 : (w3.setCell ⟨rb,1,none⟩ (.string e)).cell? ⟨rb,2,none⟩ = some (.int .i64 0):=by rw [World.cell?,hx3];rfl
  have zf : (w3.setCell ⟨rb,1,none⟩ (.string e)).frozen? ⟨rb,2,none⟩ = false:=by simp [World.frozen?,hx3]
  have e1 : (Hw p t L av)[1]? = some (.slice ao L.all.length cap):=by rw [Pt.out];rfl
  clear K3 K4 hx3 s0 s2 s3 l2
  go_upto_region 5 with (fail)
  generalize w3.setCell ⟨rb,1,none⟩ (.string e) = w4 at *
  go_upto_region 6 with (fail)
  generalize w4.setCell ⟨rb,2,none⟩ (.int .i64 (-1)) = w5 at *;clear z3 zf l1 y1 y2 Ps Pr hx2 hz2 hb2
  have s2 : w5.cell? ⟨w.heap.size,2,none⟩ = some (.int .i64 n):=by rw [World.cell?,hb4];rfl
  have l1 : w5.cell? ⟨p.wb,1,none⟩ = some (.slice ao L.all.length cap):=by rw [World.cell?,hl4];exact e1
  clear e1
  have iN : ¬ ((3 : Int) = 0):=by omega
  cases q5 : (n.tmod 3 == 0) with
  | true =>
    have q6 : n.tmod 3 = 0:=by simpa using q5
    go_upto_region 7 with (fail)
    have hwr:=HE.out.2.2.1;have KW:=KA;have BZ:=hx4;have JY:=Iw
    have hS0 : w5.drew.cell? ⟨w.heap.size,2,none⟩ = some (.int .i64 n) /\ w5.drew.cell? ⟨p.wb,1,none⟩ = some (.slice ao L.all.length cap):=⟨s2,l1⟩
    refine aB (fun w'=>w'.cell? ⟨w.heap.size,2,none⟩ = some (.int .i64 n) /\ w'.cell? ⟨p.wb,1,none⟩ = some (.slice ao L.all.length cap)) (by kernel_rfl) ?_;refine tj 0 22 (.pointer (some ⟨w.heap.size,2,none⟩)) hS0 ?_;refine tl 1 23 (.int .i64 n) rfl (fun w' hS=>by simp [execOp,Act.eval,go_sem,hS.1]) hS0 ?_;refine tj 2 24 (.pointer (some ⟨p.wb,0,none⟩)) hS0 ?_;refine tj 3 25 (.pointer (some ⟨p.wb,0,none⟩)) hS0 ?_;refine tj 4 26 (.pointer (some ⟨p.wb,1,none⟩)) hS0 ?_;refine tl 5 27 (.slice ao L.all.length cap) rfl (fun w' hS=>by simp [execOp,Act.eval,go_sem,hS.2]) hS0 ?_;refine tj 6 28 (.int .i64 L.all.length) hS0 ?_;refine tl 7 29 (.int .i64 ((L.all.length : Int) + 2)) rfl (fun w' _=>by simp [execOp,Act.eval,go_sem,hwr]) hS0 ?_;refine dO 8 ?_;refine cA (some 30) rfl 24 #[.int .i64 n,.int .i64 ((L.all.length : Int) + 2)] (by simp [execOp,Act.eval,go_sem]) (fun y w'=>∃ r : Nat,y = .int .i64 r /\ r < L.all.length + 2 /\ w' = w5.drew) ?_ ?_
    ·exact (HE.out.1 (L.all.length + 2) (by omega) (by omega) w5.drew).out.mono (fun e w' hh=>by obtain ⟨r,rfl,hr,rfl⟩:=hh;exact ⟨_,rfl,r,rfl,hr,rfl⟩)
    rintro _ _ ⟨r,rfl,hr,rfl⟩;refine ⟨hS0,?_⟩;simp only [Act.put,pA,pB,pC];refine tj 9 31 (.pointer (some ⟨rb,2,none⟩)) hS0 ?_
    have hcell : w5.drew.cell? ⟨rb,2,none⟩ = some (.int .i64 (-1)):=by rw [World.cell?];exact (by rw [show w5.drew.heap[rb]? = _ from BZ];rfl)
    have lS : w5.frozen? ⟨rb,2,none⟩ = false:=by simp [World.frozen?,BZ]
    have hfro : w5.drew.frozen? ⟨rb,2,none⟩ = false:=lS;clear lS;have KN : Kp (fun _=>False) w (w5.drew.setCell ⟨rb,2,none⟩ (.int .i64 ((r : Int)))):=(KW.drewN 1).setCell (p:=⟨rb,2,none⟩) (fun x=>by simp only at x;omega) _;have hx : (w5.drew.setCell ⟨rb,2,none⟩ (.int .i64 ((r : Int)))).heap[rb]? = some (.cells (cn ⟨1,e,(r : Int)⟩) 79 (0,0)):=ah (w:=w5.drew) (i:=2) (Value.int .i64 ((r : Int))) BZ
    have hz : (w5.drew.setCell ⟨rb,2,none⟩ (.int .i64 ((r : Int)))).heap[w.heap.size + 1]? = some (.cells #[.int .i64 0,.string ⟨#[]⟩,.int .i64 0] 79 (0,0)):=by
     rw [Below.heap_setCell _ _ _ _ (by show w.heap.size + 1 ≠ rb;omega)];exact JY
    have hS1 : (w5.drew.setCell ⟨rb,2,none⟩ (.int .i64 ((r : Int)))).cell? ⟨w.heap.size,2,none⟩ = some (.int .i64 n) /\ (w5.drew.setCell ⟨rb,2,none⟩ (.int .i64 ((r : Int)))).cell? ⟨p.wb,1,none⟩ = some (.slice ao L.all.length cap):=by
     refine ⟨?_,?_⟩
     ·rw [World.cell?,Below.heap_setCell _ _ _ _ (by show w.heap.size ≠ rb;omega)];exact s2
     rw [World.cell?,Below.heap_setCell _ _ _ _ (by show p.wb ≠ rb;omega)];exact l1
    refine mq 10 (by kernel_rfl) rfl rfl (sJ (w5.drew.setCell ⟨rb,2,none⟩ (.int .i64 ((r : Int)))) (fun K hK=>by unfold Oper.wp;simp [execOp,Act.eval,go_sem,hcell,hfro];exact hK) ⟨hS1,?_⟩);refine wpAnyH_done (by kernel_rfl) (NoPanic.normal ?_) _;clear hcell hfro hS1 hS0 KW BZ JY s2 l1 hx4 Iw hb4 hl4;generalize w5.drew.setCell ⟨rb,2,none⟩ (.int .i64 ((r : Int))) = wN at *;have et:=setRow_heap wN (w.heap.size + 1) #[.int .i64 0,.string ⟨#[]⟩,.int .i64 0] (cn ⟨1,e,(r : Int)⟩) 79 (0,0) hz;have KF:=KN.setRow (g:=w.heap.size + 1) (fun x=>by omega) (cn ⟨1,e,(r : Int)⟩);have HK:=hid KF;clear KF KN;generalize nf : cn ⟨1,e,(r : Int)⟩ = RA at *;have Jj:=hid nf
    have rI : (prog.info? 79).map (·.size) = some RA.size:=by rw [<- nf];exact kr
    have rS : (#[.int .i64 0,.string ⟨#[]⟩,.int .i64 0] : Array Value).size = RA.size:=by rw [<- nf];rfl
    have rO : RA.all (fun x=>x.oneCell') = true:=by rw [<- nf];exact pS _
    clear nf
    go_wp2_with (first | refine wpList_load_row rfl 79 (.tmp 5) rfl rb rfl 79 RA (0,0) dq hx oH (by cases dq <;> first | rfl | exact absurd iW (by simp [ar])) rI ?_ | refine wpList_store_row rfl 79 (.tmp 4) (.tmp 57) rfl (w.heap.size + 1) RA rfl rfl 79 #[.int .i64 0,.string ⟨#[]⟩,.int .i64 0] hz rI rS rO ?_)
    refine bodyPost_ret (results_cell_row rfl _ _ (w.heap.size + 1) 79 RA (0,0) dq rfl et oH (by cases dq <;> first | rfl | exact absurd iW (by simp [ar])) rI) rfl ?_;exact ⟨⟨1,e,(r : Int)⟩,by rw [Jj.out],SU Pu.out (by omega),rfl,HK.out⟩
  | false=>?_
  have q6 : ¬ n.tmod 3 = 0:=by simpa using q5
  have hx:=hx4;have hz:=Iw;have KN:=KA;clear KA hx4 Iw hl4 hb4 l1 HX HE;generalize w5 = wN at *;have et:=setRow_heap wN (w.heap.size + 1) #[.int .i64 0,.string ⟨#[]⟩,.int .i64 0] (cn ⟨1,e,-1⟩) 79 (0,0) hz;have KF:=KN.setRow (g:=w.heap.size + 1) (fun x=>by omega) (cn ⟨1,e,-1⟩);have HK:=hid KF;clear KF KN;generalize nf : cn ⟨1,e,-1⟩ = RA at *;have Jj:=hid nf
  have rI : (prog.info? 79).map (·.size) = some RA.size:=by rw [<- nf];exact kr
  have rS : (#[.int .i64 0,.string ⟨#[]⟩,.int .i64 0] : Array Value).size = RA.size:=by rw [<- nf];rfl
  have rO : RA.all (fun x=>x.oneCell') = true:=by rw [<- nf];exact pS _
  clear nf
  go_wp2_with (first | refine wpList_load_row rfl 79 (.tmp 5) rfl rb rfl 79 RA (0,0) dq hx oH (by cases dq <;> first | rfl | exact absurd iW (by simp [ar])) rI ?_ | refine wpList_store_row rfl 79 (.tmp 4) (.tmp 57) rfl (w.heap.size + 1) RA rfl rfl 79 #[.int .i64 0,.string ⟨#[]⟩,.int .i64 0] hz rI rS rO ?_)
  refine bodyPost_ret (results_cell_row rfl _ _ (w.heap.size + 1) 79 RA (0,0) dq rfl et oH (by cases dq <;> first | rfl | exact absurd iW (by simp [ar])) rI) rfl ?_;exact ⟨⟨1,e,-1⟩,by rw [Jj.out],SU Pu.out (by omega),rfl,HK.out⟩
 by_cases q2 : k = 2
 ·subst q2
  have hx:=hx2;have hz:=hz2;have KN:=HX.out.2;clear HX HE s2 s3 l1 l2 y1 y2 Ps Pr hx2 hz2;generalize w2 = wN at *;have et:=setRow_heap wN (w.heap.size + 1) #[.int .i64 0,.string ⟨#[]⟩,.int .i64 0] (cn ⟨2,⟨#[]⟩,0⟩) 79 (0,0) hz;have KF:=KN.setRow (g:=w.heap.size + 1) (fun x=>by omega) (cn ⟨2,⟨#[]⟩,0⟩);have HK:=hid KF;clear KF KN;generalize nf : cn ⟨2,⟨#[]⟩,0⟩ = RA at *;have Jj:=hid nf
  have rI : (prog.info? 79).map (·.size) = some RA.size:=by rw [<- nf];exact kr
  have rS : (#[.int .i64 0,.string ⟨#[]⟩,.int .i64 0] : Array Value).size = RA.size:=by rw [<- nf];rfl
  have rO : RA.all (fun x=>x.oneCell') = true:=by rw [<- nf];exact pS _
  clear nf
  go_wp2_with (first | refine wpList_load_row rfl 79 (.tmp 5) rfl rb rfl 79 RA (0,0) dq hx oH (by cases dq <;> first | rfl | exact absurd iW (by simp [ar])) rI ?_ | refine wpList_store_row rfl 79 (.tmp 4) (.tmp 57) rfl (w.heap.size + 1) RA rfl rfl 79 #[.int .i64 0,.string ⟨#[]⟩,.int .i64 0] hz rI rS rO ?_)
  refine bodyPost_ret (results_cell_row rfl _ _ (w.heap.size + 1) 79 RA (0,0) dq rfl et oH (by cases dq <;> first | rfl | exact absurd iW (by simp [ar])) rI) rfl ?_;exact ⟨⟨2,⟨#[]⟩,0⟩,by rw [Jj.out],by kernel_rfl,rfl,HK.out⟩
 by_cases q3 : k = 3
 ·subst q3
  go_upto_region 9 with (fail)
  have hwr:=HE.out.2.2.2.1
  have hwr2 : ∀ r : Nat,r < L.all.length + 3 -> IntKind.wrap .i64 ((r : Int) - 1) = (r : Int) - 1:=by
   intro r hr;unfold IntKind.wrap;simp [IntKind.bits,IntKind.signed];omega
  have KW:=HX.out.2;have BZ:=hx2;have JY:=hz2
  have hS0 : w2.drew.cell? ⟨w.heap.size,2,none⟩ = some (.int .i64 n) /\ w2.drew.cell? ⟨p.wb,1,none⟩ = some (.slice ao L.all.length cap):=⟨s2,l1⟩
  refine aB (fun w'=>w'.cell? ⟨w.heap.size,2,none⟩ = some (.int .i64 n) /\ w'.cell? ⟨p.wb,1,none⟩ = some (.slice ao L.all.length cap)) (by kernel_rfl) ?_;refine tj 0 34 (.pointer (some ⟨w.heap.size,2,none⟩)) hS0 ?_;refine tl 1 35 (.int .i64 n) rfl (fun w' hS=>by simp [execOp,Act.eval,go_sem,hS.1]) hS0 ?_;refine tj 2 36 (.pointer (some ⟨p.wb,0,none⟩)) hS0 ?_;refine tj 3 37 (.pointer (some ⟨p.wb,0,none⟩)) hS0 ?_;refine tj 4 38 (.pointer (some ⟨p.wb,1,none⟩)) hS0 ?_;refine tl 5 39 (.slice ao L.all.length cap) rfl (fun w' hS=>by simp [execOp,Act.eval,go_sem,hS.2]) hS0 ?_;refine tj 6 40 (.int .i64 L.all.length) hS0 ?_;refine tl 7 41 (.int .i64 ((L.all.length : Int) + 3)) rfl (fun w' _=>by simp [execOp,Act.eval,go_sem,hwr]) hS0 ?_;refine dO 8 ?_;refine cA (some 42) rfl 24 #[.int .i64 n,.int .i64 ((L.all.length : Int) + 3)] (by simp [execOp,Act.eval,go_sem]) (fun y w'=>∃ r : Nat,y = .int .i64 r /\ r < L.all.length + 3 /\ w' = w2.drew) ?_ ?_
  ·exact (HE.out.1 (L.all.length + 3) (by omega) (by omega) w2.drew).out.mono (fun e w' hh=>by obtain ⟨r,rfl,hr,rfl⟩:=hh;exact ⟨_,rfl,r,rfl,hr,rfl⟩)
  rintro _ _ ⟨r,rfl,hr,rfl⟩;refine ⟨hS0,?_⟩;simp only [Act.put,pA,pB,pC];refine tl 9 43 (.int .i64 ((r : Int) - 1)) rfl (fun w' _=>by simp [execOp,Act.eval,go_sem,hwr2 r hr]) hS0 ?_;refine tj 10 44 (.pointer (some ⟨rb,2,none⟩)) hS0 ?_
  have hcell : w2.drew.cell? ⟨rb,2,none⟩ = some (.int .i64 0):=by rw [World.cell?];exact (by rw [show w2.drew.heap[rb]? = _ from BZ];rfl)
  have lS : w2.frozen? ⟨rb,2,none⟩ = false:=by simp [World.frozen?,BZ]
  have hfro : w2.drew.frozen? ⟨rb,2,none⟩ = false:=lS;clear lS;have KN : Kp (fun _=>False) w (w2.drew.setCell ⟨rb,2,none⟩ (.int .i64 ((r : Int) - 1))):=(KW.drewN 1).setCell (p:=⟨rb,2,none⟩) (fun x=>by simp only at x;omega) _;have hx : (w2.drew.setCell ⟨rb,2,none⟩ (.int .i64 ((r : Int) - 1))).heap[rb]? = some (.cells (cn ⟨3,⟨#[]⟩,(r : Int) - 1⟩) 79 (0,0)):=ah (w:=w2.drew) (i:=2) (Value.int .i64 ((r : Int) - 1)) BZ
  have hz : (w2.drew.setCell ⟨rb,2,none⟩ (.int .i64 ((r : Int) - 1))).heap[w.heap.size + 1]? = some (.cells #[.int .i64 0,.string ⟨#[]⟩,.int .i64 0] 79 (0,0)):=by
   rw [Below.heap_setCell _ _ _ _ (by show w.heap.size + 1 ≠ rb;omega)];exact JY
  have hS1 : (w2.drew.setCell ⟨rb,2,none⟩ (.int .i64 ((r : Int) - 1))).cell? ⟨w.heap.size,2,none⟩ = some (.int .i64 n) /\ (w2.drew.setCell ⟨rb,2,none⟩ (.int .i64 ((r : Int) - 1))).cell? ⟨p.wb,1,none⟩ = some (.slice ao L.all.length cap):=by
   refine ⟨?_,?_⟩
   ·rw [World.cell?,Below.heap_setCell _ _ _ _ (by show w.heap.size ≠ rb;omega)];exact s2
   rw [World.cell?,Below.heap_setCell _ _ _ _ (by show p.wb ≠ rb;omega)];exact l1
  refine mq 11 (by kernel_rfl) rfl rfl (sJ (w2.drew.setCell ⟨rb,2,none⟩ (.int .i64 ((r : Int) - 1))) (fun K hK=>by unfold Oper.wp;simp [execOp,Act.eval,go_sem,hcell,hfro];exact hK) ⟨hS1,?_⟩);refine wpAnyH_done (by kernel_rfl) (NoPanic.normal ?_) _;clear hcell hfro hS1 hS0 KW BZ JY s2 l1 l2 s0 s3 y1 y2 Ps Pr hx2 hz2 hb2;generalize w2.drew.setCell ⟨rb,2,none⟩ (.int .i64 ((r : Int) - 1)) = wN at *;have et:=setRow_heap wN (w.heap.size + 1) #[.int .i64 0,.string ⟨#[]⟩,.int .i64 0] (cn ⟨3,⟨#[]⟩,(r : Int) - 1⟩) 79 (0,0) hz;have KF:=KN.setRow (g:=w.heap.size + 1) (fun x=>by omega) (cn ⟨3,⟨#[]⟩,(r : Int) - 1⟩);have HK:=hid KF;clear KF KN;generalize nf : cn ⟨3,⟨#[]⟩,(r : Int) - 1⟩ = RA at *;have Jj:=hid nf
  have rI : (prog.info? 79).map (·.size) = some RA.size:=by rw [<- nf];exact kr
  have rS : (#[.int .i64 0,.string ⟨#[]⟩,.int .i64 0] : Array Value).size = RA.size:=by rw [<- nf];rfl
  have rO : RA.all (fun x=>x.oneCell') = true:=by rw [<- nf];exact pS _
  clear nf
  go_wp2_with (first | refine wpList_load_row rfl 79 (.tmp 5) rfl rb rfl 79 RA (0,0) dq hx oH (by cases dq <;> first | rfl | exact absurd iW (by simp [ar])) rI ?_ | refine wpList_store_row rfl 79 (.tmp 4) (.tmp 57) rfl (w.heap.size + 1) RA rfl rfl 79 #[.int .i64 0,.string ⟨#[]⟩,.int .i64 0] hz rI rS rO ?_)
  refine bodyPost_ret (results_cell_row rfl _ _ (w.heap.size + 1) 79 RA (0,0) dq rfl et oH (by cases dq <;> first | rfl | exact absurd iW (by simp [ar])) rI) rfl ?_;exact ⟨⟨3,⟨#[]⟩,(r : Int) - 1⟩,by rw [Jj.out],U6 (by omega),rfl,HK.out⟩
 have q4 : k = 4:=by omega
 subst q4
 go_upto_region 11 with (fail)
 have hwr:=HE.out.2.2.2.2;have KW:=HX.out.2;have BZ:=hx2;have JY:=hz2
 have hS0 : w2.drew.cell? ⟨w.heap.size,2,none⟩ = some (.int .i64 n) /\ w2.drew.cell? ⟨p.wb,2,none⟩ = some (.string L.log):=⟨s2,l2⟩
 refine aB (fun w'=>w'.cell? ⟨w.heap.size,2,none⟩ = some (.int .i64 n) /\ w'.cell? ⟨p.wb,2,none⟩ = some (.string L.log)) (by kernel_rfl) ?_;refine tj 0 47 (.pointer (some ⟨w.heap.size,2,none⟩)) hS0 ?_;refine tl 1 48 (.int .i64 n) rfl (fun w' hS=>by simp [execOp,Act.eval,go_sem,hS.1]) hS0 ?_;refine tj 2 49 (.pointer (some ⟨p.wb,0,none⟩)) hS0 ?_;refine tj 3 50 (.pointer (some ⟨p.wb,0,none⟩)) hS0 ?_;refine tj 4 51 (.pointer (some ⟨p.wb,2,none⟩)) hS0 ?_;refine tl 5 52 (.string L.log) rfl (fun w' hS=>by simp [execOp,Act.eval,go_sem,hS.2]) hS0 ?_;refine tj 6 53 (.int .i64 L.log.size) hS0 ?_;refine tl 7 54 (.int .i64 ((L.log.size : Int) + 2)) rfl (fun w' _=>by simp [execOp,Act.eval,go_sem,hwr]) hS0 ?_;refine dO 8 ?_;refine cA (some 55) rfl 24 #[.int .i64 n,.int .i64 ((L.log.size : Int) + 2)] (by simp [execOp,Act.eval,go_sem]) (fun y w'=>∃ r : Nat,y = .int .i64 r /\ r < L.log.size + 2 /\ w' = w2.drew) ?_ ?_
 ·exact (HE.out.1 (L.log.size + 2) (by omega) (by omega) w2.drew).out.mono (fun e w' hh=>by obtain ⟨r,rfl,hr,rfl⟩:=hh;exact ⟨_,rfl,r,rfl,hr,rfl⟩)
 rintro _ _ ⟨r,rfl,hr,rfl⟩;refine ⟨hS0,?_⟩;simp only [Act.put,pA,pB,pC];refine tj 9 56 (.pointer (some ⟨rb,2,none⟩)) hS0 ?_
 have hcell : w2.drew.cell? ⟨rb,2,none⟩ = some (.int .i64 0):=by rw [World.cell?];exact (by rw [show w2.drew.heap[rb]? = _ from BZ];rfl)
 have lS : w2.frozen? ⟨rb,2,none⟩ = false:=by simp [World.frozen?,BZ]
 have hfro : w2.drew.frozen? ⟨rb,2,none⟩ = false:=lS;clear lS;have KN : Kp (fun _=>False) w (w2.drew.setCell ⟨rb,2,none⟩ (.int .i64 ((r : Int)))):=(KW.drewN 1).setCell (p:=⟨rb,2,none⟩) (fun x=>by simp only at x;omega) _;have hx : (w2.drew.setCell ⟨rb,2,none⟩ (.int .i64 ((r : Int)))).heap[rb]? = some (.cells (cn ⟨4,⟨#[]⟩,(r : Int)⟩) 79 (0,0)):=ah (w:=w2.drew) (i:=2) (Value.int .i64 ((r : Int))) BZ
 have hz : (w2.drew.setCell ⟨rb,2,none⟩ (.int .i64 ((r : Int)))).heap[w.heap.size + 1]? = some (.cells #[.int .i64 0,.string ⟨#[]⟩,.int .i64 0] 79 (0,0)):=by
  rw [Below.heap_setCell _ _ _ _ (by show w.heap.size + 1 ≠ rb;omega)];exact JY
 have hS1 : (w2.drew.setCell ⟨rb,2,none⟩ (.int .i64 ((r : Int)))).cell? ⟨w.heap.size,2,none⟩ = some (.int .i64 n) /\ (w2.drew.setCell ⟨rb,2,none⟩ (.int .i64 ((r : Int)))).cell? ⟨p.wb,2,none⟩ = some (.string L.log):=by
  refine ⟨?_,?_⟩
  ·rw [World.cell?,Below.heap_setCell _ _ _ _ (by show w.heap.size ≠ rb;omega)];exact s2
  rw [World.cell?,Below.heap_setCell _ _ _ _ (by show p.wb ≠ rb;omega)];exact l2
 refine mq 10 (by kernel_rfl) rfl rfl (sJ (w2.drew.setCell ⟨rb,2,none⟩ (.int .i64 ((r : Int)))) (fun K hK=>by unfold Oper.wp;simp [execOp,Act.eval,go_sem,hcell,hfro];exact hK) ⟨hS1,?_⟩);refine wpAnyH_done (by kernel_rfl) (NoPanic.normal ?_) _;clear hcell hfro hS1 hS0 KW BZ JY s2 l1 l2 s0 s3 y1 y2 Ps Pr hx2 hz2 hb2;generalize w2.drew.setCell ⟨rb,2,none⟩ (.int .i64 ((r : Int))) = wN at *;have et:=setRow_heap wN (w.heap.size + 1) #[.int .i64 0,.string ⟨#[]⟩,.int .i64 0] (cn ⟨4,⟨#[]⟩,(r : Int)⟩) 79 (0,0) hz;have KF:=KN.setRow (g:=w.heap.size + 1) (fun x=>by omega) (cn ⟨4,⟨#[]⟩,(r : Int)⟩);have HK:=hid KF;clear KF KN;generalize nf : cn ⟨4,⟨#[]⟩,(r : Int)⟩ = RA at *;have Jj:=hid nf
 have rI : (prog.info? 79).map (·.size) = some RA.size:=by rw [<- nf];exact kr
 have rS : (#[.int .i64 0,.string ⟨#[]⟩,.int .i64 0] : Array Value).size = RA.size:=by rw [<- nf];rfl
 have rO : RA.all (fun x=>x.oneCell') = true:=by rw [<- nf];exact pS _
 clear nf
 go_wp2_with (first | refine wpList_load_row rfl 79 (.tmp 5) rfl rb rfl 79 RA (0,0) dq hx oH (by cases dq <;> first | rfl | exact absurd iW (by simp [ar])) rI ?_ | refine wpList_store_row rfl 79 (.tmp 4) (.tmp 57) rfl (w.heap.size + 1) RA rfl rfl 79 #[.int .i64 0,.string ⟨#[]⟩,.int .i64 0] hz rI rS rO ?_)
 refine bodyPost_ret (results_cell_row rfl _ _ (w.heap.size + 1) 79 RA (0,0) dq rfl et oH (by cases dq <;> first | rfl | exact absurd iW (by simp [ar])) rI) rfl ?_;exact ⟨⟨4,⟨#[]⟩,(r : Int)⟩,by rw [Jj.out],U7 (by omega),rfl,HK.out⟩
end
end Go.Proofs.YtnlbchmfcebeeaaGreat
