import Derived.Test.YtnlbchmfcebeeaaGreatTZt
import Derived.Test.YtnlbchmfcebeeaaGreatTY1
set_option maxHeartbeats 12800000
set_option maxRecDepth 100000
namespace Go.Proofs.YtnlbchmfcebeeaaGreat
open Go.RowKit
def NdAt (w : World) (v : Value) (ss : List Ch.St) : Prop:=∃ ao cap,v = .slice ao ss.length cap ∧ ∀ i s,ss[i]? = some s → ∃ g,ao = some ⟨g,0,none⟩ ∧ w.cell? ⟨g,i * 3,none⟩ = some (.string (strOfNums [s.name])) ∧ w.cell? ⟨g,i * 3 + 1,none⟩ = some (.int .i64 s.kind) ∧ w.cell? ⟨g,i * 3 + 2,none⟩ = some (.int .i64 s.parent)
section
variable (w : World)
theorem sameNodes_any (a b : Value) (ss : List Ch.St) (ha : NdAt w a ss) (hb : NdAt w b ss) (hl : ss.length ≤ 1000) :
 Calls Tryz.prog 95 #[a,b] w fun x w'=>x = .returned (.bool true) ∧ Kp (fun _=>False) w w':=by
 obtain ⟨ao,ac,rfl,ha⟩:=ha;obtain ⟨bo,bc,rfl,hb⟩:=hb;have HA:=hid ha;have HB:=hid hb;clear ha hb
 go_enter Tryz.func95,Tryz.ntmps95
 go_wp2_with fail
 go_loopw [5] (fun i wr=>∃ k : Nat,i = .int .i64 k ∧ k ≤ ss.length ∧ Kp (fun _=>False) w wr) (fun i _=>ss.length - (intOf i).toNat)
 case atStart=>exact ⟨0,rfl,Nat.zero_le _,Kp.refl _ _⟩
 case round =>
  obtain ⟨k,rfl,hk,KW⟩:=hrel
  by_cases hlt : k < ss.length
  ·have hlt' : (k : Int) < (ss.length : Int):=by omega
   obtain ⟨s,hs⟩ : ∃ s,ss[k]? = some s:=⟨_,List.getElem?_eq_getElem hlt⟩
   obtain ⟨g,rfl,a0,a1,a2⟩:=HA.out k s hs;obtain ⟨g',rfl,b0,b1,b2⟩:=HB.out k s hs;have c0:=KW.cellF a0;have c1:=KW.cellF a1;have c2:=KW.cellF a2;have d0:=KW.cellF b0;have d1:=KW.cellF b1;have d2:=KW.cellF b2;clear a0 a1 a2 b0 b1 b2;generalize strOfNums [s.name] = nm at *
   go_upto_region 6 with (fail)
   go_quiet (fail)
   go_wp2
   go_roundw
   case rel=>exact ⟨k + 1,by go_num,by omega,KW.drewN _⟩
   case measure=>simp [intOf];omega
  have hge : ¬ (k : Int) < (ss.length : Int):=by omega
  go_wp2;go_ret;exact ⟨rfl,KW⟩
end
def mkL (n : Nat) (m : Int) : List Value:=(List.replicate n [Value.string ⟨#[]⟩,.int .i64 m,.int .i64 m]).flatten
theorem mkL_len (n : Nat) (m : Int) : (mkL n m).length = n * 3:=by
 unfold mkL;rw [List.length_flatten,List.map_replicate,List.sum_replicate_nat];rfl
theorem mkL_add (n k : Nat) (m : Int) : mkL n m ++ mkL k m = mkL (n + k) m:=by
 unfold mkL;rw [← List.flatten_append,List.replicate_append_replicate]
theorem mkL_one {n : Nat} {m : Int} : ∀ u ∈ mkL n m,u.oneCell' = true:=fun u hu=>by
 unfold mkL at hu;obtain ⟨l,hl,hu⟩:=List.mem_flatten.1 hu;have:=List.eq_of_mem_replicate hl;subst this;simp at hu
 rcases hu with rfl | rfl <;> rfl
theorem run_append_full {P : Program} (w : World) (t e : TypeId) (i : TypeInfo) (z : Value) (size bytes : Nat) (ht : P.underlying t = some (.slice e)) (hi : P.info? e = some i) (hz : i.zero = some z)
 (hsize : i.size = size) (hby : i.bytes = bytes) (hzs : z.cells.size = size) (hsz : 0 < size) (base : Nat) (v : Value) (n : Nat) (xs : List Value) (hown : w.ownsRow base e size v n xs) (hcap : ∀ ao c,v = .slice ao n c → c = n)
 (a : Addr) (m c : Nat) (news : List Value) (hl : news.length = m * size) (hnews : ∀ j u,news[j]? = some u → w.cell? (a.add j) = some u) (h1 : ∀ u ∈ news,u.oneCell' = true) (hm : 0 < m)
 (h63 : n + m ≤ maxLen) (hbytes : (n + m) * bytes ≤ 140737488355328) :
 ∃ v' w',(Builtin.append_ #[t,t] t #[v,.slice (some a) m c]).run P w = .ok v' w' ∧ w'.ownsRow w.heap.size e size v' (n + m) (xs ++ news) ∧ Kp (fun _=>False) w w':=by
 rcases hown.2 with ⟨hv,h0⟩ | ⟨g,cap,cur,hv,hb,hg,hnc,_,hcs,htk⟩
 ·subst h0
  have hx : xs = []:=List.eq_nil_of_length_eq_zero (by have:=hown.1;omega);subst hx;subst hv;obtain ⟨v',w',hr,ho,hgr,_⟩:=run_append_own (P:=P) w w.heap.size t t e i z size bytes ht hi hz hsize hby hzs hsz _ 0 [] (World.ownsRow_nil w w.heap.size e size) a m c news hl hnews h1 h63 hbytes (Nat.le_refl _);exact ⟨v',w',hr,ho,(Kp.refl _ _).grown hgr (fun k hk _=>by simp [Value.ownBlock] at hk)⟩
 have hc:=hcap _ _ hv;subst hv;obtain ⟨v',w',hr,ho,hgr⟩:=run_append_arg_grows (P:=P) w t t e i z size bytes ht hi hz hsize hby hzs hsz ⟨g,0,none⟩ n cap xs hown.1 (hown.cells (g:=g) rfl) a m c news hl hnews (by omega) h63 hbytes;exact ⟨v',w',hr,ho,(Kp.refl _ _).grown hgr (fun k hk _=>by simp at hk)⟩
theorem wpList_append_run {P : Program} {ops : Array Oper} {rest : List Oper} {o : Oper} {a : Act} {w : World} {Q : Exit → Act → World → Prop} (hgd : o.guard = none) (s x : Operand) (t : TypeId)
 (hop : o.op = .call { callee:=.builtin .append,args:=#[s,x],argTypes:=#[t,t] }) (v u v' : Value) (w' : World) (hs : a.eval s = v) (hx : a.eval x = u)
 (hr : (Builtin.append_ #[t,t] o.type #[v,u]).run P w = .ok v' w') (hK : wpList P ops Q rest (a.put o.dst v') w') : wpList P ops Q (o :: rest) a w :=
 wpList_plain hgd fun K hK'=>by
  unfold Oper.wp execOp;simp only [hop,resolve,invoke,builtin,Sem.run_bind,Sem.run_pure,Result.andThen_ok,List.map_toArray,List.map_cons,List.map_nil,hs,hx,hr];exact hK' _ _ hK
def wlA (nv mv : Value) (k : Int) : Array Value:=#[.slice none 0 0,.slice none 0 0,nv,.slice none 0 0,mv,.int .i64 k]
section
variable (w : World) (wb : Nat)
theorem mark_any (nv mv : Value) (k : Int) (h : w.heap[wb]? = some (.cells (wlA nv mv k) 77 (0,0))) (h0 : 0 ≤ k) (h1 : k ≤ 1000000000) :
 Calls Tryz.prog 143 #[.pointer (some ⟨wb,0,none⟩)] w fun x w'=>x = .returned (.int .i64 (-(k + 1))) ∧ w' = w.setCell ⟨wb,5,none⟩ (.int .i64 (k + 1)):=by
 have c5 : w.cell? ⟨wb,5,none⟩ = some (.int .i64 k):=by rw [World.cell?,h];rfl
 have f5 : w.frozen? ⟨wb,5,none⟩ = false:=by simp [World.frozen?,h]
 have d5 : (w.setCell ⟨wb,5,none⟩ (.int .i64 (k + 1))).cell? ⟨wb,5,none⟩ = some (.int .i64 (k + 1)):=by rw [World.cell?,heap_set_same _ h];rfl
 go_enter Tryz.func143,Tryz.ntmps143
 go_wp2;go_ret;exact ⟨rfl,rfl⟩
end
theorem Tryz.infoNdS : (Tryz.prog.info? 107).map (fun i=>(i.zero,i.size,i.bytes)) = some (some (.slice none 0 0),1,24):=by kernel_rfl
theorem mkL_set {n j : Nat} {m : Int} {xs : List Value} (hx : xs.length = n * 3) (hj : j < n) : (((mkL j m ++ xs.drop (j * 3)).set (j * 3) (.string ⟨#[]⟩)).set (j * 3 + 1) (.int .i64 m)).set (j * 3 + 2) (.int .i64 m) = mkL (j + 1) m ++ xs.drop ((j + 1) * 3):=by
 have hl:=mkL_len j m
 have e : xs.drop (j * 3) = xs[j * 3]'(by omega) :: xs[j * 3 + 1]'(by omega) :: xs[j * 3 + 2]'(by omega) :: xs.drop ((j + 1) * 3):=by
  rw [List.drop_eq_getElem_cons (by omega),List.drop_eq_getElem_cons (by omega),List.drop_eq_getElem_cons (by omega)]
  congr 4
  omega
 rw [e,List.set_append_right _ _ (by omega),List.set_append_right _ _ (by omega),List.set_append_right _ _ (by omega),hl,← mkL_add];simp only [Nat.sub_self,Nat.add_sub_cancel_left,List.set_cons_zero,List.set_cons_succ];simp [mkL]
section
variable (w : World) (wb B : Nat)
def OwnQ (w w' : World) (wb B : Nat) (nv mv v : Value) (k : Int) (n : Nat) (ls ms : List Value) : Prop:=∃ nv' mv' g1 g2 g3 : Value,w'.heap[wb]? = some (.cells (wlA nv' mv' (k + 1)) 77 (0,0)) ∧ w'.ownsRow B 107 1 nv' (ls.length + 4) (ls ++ [v,g1,g2,g3]) ∧ w'.ownsRow B 3 1 mv' (ms.length + 4) (ms ++ [.int .i64 (-(k + 1)),.int .i64 (-(k + 1)),.int .i64 (-(k + 1)),.int .i64 (-(k + 1))]) ∧
 w'.ownsRow 0 111 3 v n (mkL n (-(k + 1))) ∧ w'.ownsRow 0 111 3 g1 (n + 1) (mkL (n + 1) (-(k + 1))) ∧ w'.ownsRow 0 111 3 g2 (n + 2) (mkL (n + 2) (-(k + 1))) ∧ w'.ownsRow 0 111 3 g3 (n + 3) (mkL (n + 3) (-(k + 1))) ∧
 Kp (fun i=>i = wb ∨ nv.ownBlock = some i ∨ mv.ownBlock = some i ∨ v.ownBlock = some i) w w'
theorem ownNodes_any (nv mv v : Value) (k : Int) (n : Nat) (xs ls ms : List Value) (h : w.heap[wb]? = some (.cells (wlA nv mv k) 77 (0,0))) (h0 : 0 ≤ k) (h1 : k ≤ 1000000000) (hv : w.ownsRow B 111 3 v n xs) (hcap : ∀ ao c,v = .slice ao n c → c = n) (hn : n ≤ 1000)
 (hnv : w.ownsRow B 107 1 nv ls.length ls) (hmv : w.ownsRow B 3 1 mv ms.length ms) (hls : ls.length ≤ 1000000000) (hms : ms.length ≤ 1000000000) (hB : B ≤ w.heap.size) :
 Calls Tryz.prog 96 #[.pointer (some ⟨wb,0,none⟩),v] w fun x w'=>x = .returned (.tuple #[]) ∧ OwnQ w w' wb B nv mv v k n ls ms:=by
 obtain ⟨i0,hi,hz0,hz1,hz2⟩:=info_parts Tryz.infoNode;obtain ⟨i1,hi1,hy0,hy1,hy2⟩:=info_parts Tryz.infoNdS;obtain ⟨i2,hi2,hx0,hx1,hx2⟩:=info_parts Tryz.infoInt;have E1:=hid (mark_any w wb nv mv k h h0 h1)
 have hw1 : (w.setCell ⟨wb,5,none⟩ (.int .i64 (k + 1))).heap[wb]? = some (.cells (wlA nv mv (k + 1)) 77 (0,0)):=by rw [heap_set_same _ h];rfl
 have K1 : Kp (fun i=>i = wb) w (w.setCell ⟨wb,5,none⟩ (.int .i64 (k + 1))):=(Kp.refl _ _).setCell (by intro _;rfl) _;have hv1:=K1.owns hv (fun j hj e=>own_ne hv h (by decide) (by rw [hj,e]));have hn1:=K1.owns hnv (fun j hj e=>own_ne hnv h (by decide) (by rw [hj,e]));have hm1:=K1.owns hmv (fun j hj e=>own_ne hmv h (by decide) (by rw [hj,e]));have hxl : xs.length = n * 3:=hv.1;obtain ⟨ao,ac,rfl⟩:=own_len hv;have hac : n = ac:=(hcap ao ac rfl).symm;subst hac;have H1:=hid (And.intro hw1 (And.intro K1 (And.intro hv1 (And.intro hn1 hm1))));clear hw1 K1 hv1 hn1 hm1 h hv hnv hmv hcap
 go_enter Tryz.func96,Tryz.ntmps96
 go_wp2_with fail
 refine cMo E1 ?_;rintro y w1 ⟨rfl,e1⟩;rw [e1];clear e1 w1 E1;generalize w.setCell ⟨wb,5,none⟩ (.int .i64 (k + 1)) = w1 at *;generalize hmm : -(k + 1) = m at *;have HM:=hid hmm;clear hmm
 go_wp2_with fail
 go_loopw [5] (fun iv wr=>∃ j : Nat,iv = .int .i64 j ∧ j ≤ n ∧ Hid (wr.ownsRow B 111 3 (.slice ao n n) n (mkL j m ++ xs.drop (j * 3))) ∧ Kp (fun i=>(Value.slice ao n n).ownBlock = some i) w1 wr) (fun iv _=>n - (intOf iv).toNat)
 case atStart=>exact ⟨0,rfl,Nat.zero_le _,hid (by simpa [mkL] using H1.out.2.2.1),Kp.refl _ _⟩
 case round =>
  obtain ⟨j,rfl,hj,HO,KW⟩:=hrel
  by_cases hlt : j < n
  ·have hlt' : (j : Int) < (n : Int):=by omega
   obtain ⟨g,cap',hv',_⟩:=World.ownsRow.form HO.out (by omega);simp only [Value.slice.injEq] at hv';obtain ⟨rfl,-,-⟩:=hv';have hll : (mkL j m ++ xs.drop (j * 3)).length = n * 3:=HO.out.1
   obtain ⟨v0,c0⟩ : ∃ u,wr.cell? ⟨g,j * 3,none⟩ = some u:=⟨_,(World.ownsRow.cellAt HO.out (j * 3) (by omega)).trans (List.getElem?_eq_getElem (by omega))⟩
   obtain ⟨v1,c1⟩ : ∃ u,wr.cell? ⟨g,j * 3 + 1,none⟩ = some u:=⟨_,(World.ownsRow.cellAt HO.out (j * 3 + 1) (by omega)).trans (List.getElem?_eq_getElem (by omega))⟩
   obtain ⟨v2,c2⟩ : ∃ u,wr.cell? ⟨g,j * 3 + 2,none⟩ = some u:=⟨_,(World.ownsRow.cellAt HO.out (j * 3 + 2) (by omega)).trans (List.getElem?_eq_getElem (by omega))⟩
   have fz:=World.ownsRow.frozenAt HO.out;have f0:=fz (j * 3);have f1:=fz (j * 3 + 1);have f2:=fz (j * 3 + 2);have o3:=(World.ownsRow.stored (World.ownsRow.stored (World.ownsRow.stored HO.out (j * 3) (.string ⟨#[]⟩)).1 (j * 3 + 1) (.int .i64 m)).1 (j * 3 + 2) (.int .i64 m)).1;rw [mkL_set hxl hlt] at o3;have K3:=((KW.setCell (p:=⟨g,j * 3,none⟩) (fun _=>rfl) (.string ⟨#[]⟩)).setCell (p:=⟨g,j * 3 + 1,none⟩) (fun _=>rfl) (.int .i64 m)).setCell (p:=⟨g,j * 3 + 2,none⟩) (fun _=>rfl) (.int .i64 m);have HZ:=hid (And.intro o3 K3);clear o3 K3 HO KW fz hll;go_wp2
   go_roundw
   case rel=>exact ⟨j + 1,by go_num,by omega,hid HZ.out.1,HZ.out.2⟩
   case measure=>simp [intOf];omega
  have hge : ¬ (j : Int) < (n : Int):=by omega
  obtain rfl : j = n:=by omega
  have hv1 : wr.ownsRow B 111 3 (.slice ao j j) j (mkL j m):=by
   have:=HO.out;rw [List.drop_eq_nil_of_le (by omega),List.append_nil] at this;exact this
  have hac : ∀ ao' c,Value.slice ao j j = .slice ao' j c → c = j:=fun _ _ e=>by injection e with _ _ e;exact e.symm
  have hnb:=heap_alloc_new wr (.cells #[.string ⟨#[]⟩,.int .i64 m,.int .i64 m] 111);have Kn : Kp (fun _=>False) wr (wr.alloc (.cells #[.string ⟨#[]⟩,.int .i64 m,.int .i64 m] 111)):=(Kp.refl _ _).alloc _;have hv2:=Kn.owns hv1 (fun _ _ x=>x);have KA : Kp (fun i=>(Value.slice ao j j).ownBlock = some i) w1 (wr.alloc (.cells #[.string ⟨#[]⟩,.int .i64 m,.int .i64 m] 111)):=KW.trans' Kn (fun _ _ x=>x.elim);clear Kn HO hv1 KW
  go_upto_region 6 with (fail)
  generalize wr.alloc (.cells #[.string ⟨#[]⟩,.int .i64 m,.int .i64 m] 111) = w2 at *;generalize wr.heap.size = nb at *;obtain ⟨g1,w3,hr3,o3,K3⟩:=run_append_full (P:=Tryz.prog) (w2.alloc (.cells #[.string ⟨#[]⟩,.int .i64 m,.int .i64 m] 111)) 107 111 i0 (.agg #[.string ⟨#[]⟩,.int .i64 0,.int .i64 0]) 3 32 Tryz.underlying107 hi hz0 hz1 hz2 rfl (by decide) B (.slice ao j j) j (mkL j m) (by exact hv2.alloc _) hac ⟨w2.heap.size,0,none⟩ 1 1 (mkL 1 m) (mkL_len _ _) (by exact cells_new _ (mkL 1 m) _) mkL_one (by decide) (by unfold maxLen;omega) (by omega);rw [mkL_add] at o3;obtain ⟨a1,b1,rfl⟩:=own_len o3;replace K3 : Kp (fun _=>False) w2 w3:=((Kp.refl _ _).alloc _).trans K3;have hnb3:=K3.at_ hnb (fun x=>x);have hv3:=K3.owns hv2 (fun _ _ x=>x)
  have ea0 : w2.cell? ⟨nb,0,none⟩ = some (.string ⟨#[]⟩):=by rw [World.cell?,hnb];rfl
  have ea1 : w2.cell? ⟨nb,1,none⟩ = some (.int .i64 m):=by rw [World.cell?,hnb];rfl
  have ea2 : w2.cell? ⟨nb,2,none⟩ = some (.int .i64 m):=by rw [World.cell?,hnb];rfl
  go_upto_region 7 with (at_builtin;refine wpList_append_run rfl (.tmp 27) (.tmp 29) 107 rfl _ _ (.slice a1 (j + 1) b1) w3 rfl rfl hr3 ?_)
  clear ea0 ea1 ea2;clear hr3 hnb;obtain ⟨g2,w4,hr4,o4,K4⟩:=run_append_full (P:=Tryz.prog) (w3.alloc (.cells #[.string ⟨#[]⟩,.int .i64 m,.int .i64 m,.string ⟨#[]⟩,.int .i64 m,.int .i64 m] 111)) 107 111 i0 (.agg #[.string ⟨#[]⟩,.int .i64 0,.int .i64 0]) 3 32 Tryz.underlying107 hi hz0 hz1 hz2 rfl (by decide) B (.slice ao j j) j (mkL j m) (by exact hv3.alloc _) hac ⟨w3.heap.size,0,none⟩ 2 2 (mkL 2 m) (mkL_len _ _) (by exact cells_new _ (mkL 2 m) _) mkL_one (by decide) (by unfold maxLen;omega) (by omega);rw [mkL_add] at o4;obtain ⟨a2,b2,rfl⟩:=own_len o4;replace K4 : Kp (fun _=>False) w3 w4:=((Kp.refl _ _).alloc _).trans K4;have hnb4:=K4.at_ hnb3 (fun x=>x);have hv4:=K4.owns hv3 (fun _ _ x=>x);have p4:=K4.owns o3 (fun _ _ x=>x)
  have eb0 : w3.cell? ⟨nb,0,none⟩ = some (.string ⟨#[]⟩):=by rw [World.cell?,hnb3];rfl
  have eb1 : w3.cell? ⟨nb,1,none⟩ = some (.int .i64 m):=by rw [World.cell?,hnb3];rfl
  have eb2 : w3.cell? ⟨nb,2,none⟩ = some (.int .i64 m):=by rw [World.cell?,hnb3];rfl
  go_upto_region 8 with (at_builtin;refine wpList_append_run rfl (.tmp 31) (.tmp 34) 107 rfl _ _ (.slice a2 (j + 2) b2) w4 rfl rfl hr4 ?_)
  clear eb0 eb1 eb2;clear hr4 hnb3 o3;obtain ⟨g3,w5,hr5,o5,K5⟩:=run_append_full (P:=Tryz.prog) (w4.alloc (.cells #[.string ⟨#[]⟩,.int .i64 m,.int .i64 m,.string ⟨#[]⟩,.int .i64 m,.int .i64 m,.string ⟨#[]⟩,.int .i64 m,.int .i64 m] 111)) 107 111 i0 (.agg #[.string ⟨#[]⟩,.int .i64 0,.int .i64 0]) 3 32 Tryz.underlying107 hi hz0 hz1 hz2 rfl (by decide) B (.slice ao j j) j (mkL j m) (by exact hv4.alloc _) hac ⟨w4.heap.size,0,none⟩ 3 3 (mkL 3 m) (mkL_len _ _) (by exact cells_new _ (mkL 3 m) _) mkL_one (by decide) (by unfold maxLen;omega) (by omega);rw [mkL_add] at o5;obtain ⟨a3,b3,rfl⟩:=own_len o5;replace K5 : Kp (fun _=>False) w4 w5:=((Kp.refl _ _).alloc _).trans K5;have hv5:=K5.owns hv4 (fun _ _ x=>x);have p5:=K5.owns p4 (fun _ _ x=>x);have q5:=K5.owns o4 (fun _ _ x=>x)
  have ec0 : w4.cell? ⟨nb,0,none⟩ = some (.string ⟨#[]⟩):=by rw [World.cell?,hnb4];rfl
  have ec1 : w4.cell? ⟨nb,1,none⟩ = some (.int .i64 m):=by rw [World.cell?,hnb4];rfl
  have ec2 : w4.cell? ⟨nb,2,none⟩ = some (.int .i64 m):=by rw [World.cell?,hnb4];rfl
  go_upto_region 9 with (at_builtin;refine wpList_append_run rfl (.tmp 36) (.tmp 40) 107 rfl _ _ (.slice a3 (j + 3) b3) w5 rfl rfl hr5 ?_)
  clear ec0 ec1 ec2;clear hr5 hnb4 o4 p4;obtain ⟨hw1,K1,hv1,hn1,hm1⟩:=H1.out;have KT : Kp (fun i=>(Value.slice ao j j).ownBlock = some i) w1 w5:=((KA.trans' K3 (fun _ _ x=>x.elim)).trans' K4 (fun _ _ x=>x.elim)).trans' K5 (fun _ _ x=>x.elim);have hwb5:=KT.at_ hw1 (own_ne hv1 hw1 (by decide));have hn5:=KT.owns hn1 (own_apart hn1 hv1 (by decide));have hm5:=KT.owns hm1 (own_apart hm1 hv1 (by decide));have hsz5 : B ≤ w5.heap.size:=Nat.le_trans hB (Nat.le_trans K1.size KT.size)
  have hone : ∀ u ∈ ([.slice ao j j,(.slice a1 (j + 1) b1),(.slice a2 (j + 2) b2),(.slice a3 (j + 3) b3)] : List Value),u.oneCell' = true:=by
   intro u hu;simp only [List.mem_cons,List.not_mem_nil,or_false] at hu
   rcases hu with rfl | rfl | rfl | rfl
   ·rfl
   ·exact own_one p5
   ·exact own_one q5
   exact own_one o5
  obtain ⟨gn,cn,w6,hr6,o6,gr6,_⟩:=run_append_where (P:=Tryz.prog) (w5.alloc (.cells #[.slice ao j j,(.slice a1 (j + 1) b1),(.slice a2 (j + 2) b2),(.slice a3 (j + 3) b3)] 107)) B 75 75 107 i1 (.slice none 0 0) 1 24 Tryz.underlying75 hi1 hy0 hy1 hy2 rfl (by decide) nv ls.length ls (by exact hn5.alloc _) ⟨w5.heap.size,0,none⟩ 4 4 [.slice ao j j,(.slice a1 (j + 1) b1),(.slice a2 (j + 2) b2),(.slice a3 (j + 3) b3)] rfl (by exact cells_new _ [.slice ao j j,(.slice a1 (j + 1) b1),(.slice a2 (j + 2) b2),(.slice a3 (j + 3) b3)] _) hone (by decide) (by unfold maxLen;omega) (by omega) (by simp;omega);have K6 : Kp (fun i=>nv.ownBlock = some i) w5 w6:=((Kp.refl _ _).alloc (.cells #[.slice ao j j,(.slice a1 (j + 1) b1),(.slice a2 (j + 2) b2),(.slice a3 (j + 3) b3)] 107)).grown (by exact gr6) (fun i hi _=>hi);have hwb6:=K6.at_ hwb5 (own_ne hn5 hwb5 (by decide))
  have c2 : w5.cell? ⟨wb,2,none⟩ = some nv:=by rw [World.cell?,hwb5];rfl
  have d2 : w6.cell? ⟨wb,2,none⟩ = some nv:=by rw [World.cell?,hwb6];rfl
  have f2 : w6.frozen? ⟨wb,2,none⟩ = false:=by simp [World.frozen?,hwb6]
  have hwb7 : (w6.setCell ⟨wb,2,none⟩ (.slice (some ⟨gn,0,none⟩) (ls.length + 4) cn)).heap[wb]? = some (.cells (wlA (.slice (some ⟨gn,0,none⟩) (ls.length + 4) cn) mv (k + 1)) 77 (0,0)):=by rw [heap_set_same _ hwb6];rfl
  have K7 : Kp (fun i=>i = wb) w6 (w6.setCell ⟨wb,2,none⟩ (.slice (some ⟨gn,0,none⟩) (ls.length + 4) cn)):=(Kp.refl _ _).setCell (by intro _;rfl) _
  have step7 : ∀ {e : TypeId} {sz : Nat} {v : Value} {n : Nat} {xs : List Value} {b : Nat},w5.ownsRow b e sz v n xs → e ≠ 107 → e ≠ 77 → (w6.setCell ⟨wb,2,none⟩ (.slice (some ⟨gn,0,none⟩) (ls.length + 4) cn)).ownsRow b e sz v n xs:=fun ho h1 h2=>by
   have h6:=K6.owns ho (own_apart ho hn5 h1);exact K7.owns h6 (fun q hq e=>own_ne h6 hwb6 h2 (by rw [hq,e]))
  have hm7:=step7 hm5 (by decide) (by decide);have hv7:=step7 hv5 (by decide) (by decide);have p7:=step7 p5 (by decide) (by decide);have q7:=step7 q5 (by decide) (by decide);have r7:=step7 o5 (by decide) (by decide);have o7:=K7.owns o6 (fun q hq e=>own_ne o6 hwb6 (by decide) (by rw [hq,e]));have KX : Kp (fun i=>i = wb ∨ nv.ownBlock = some i ∨ mv.ownBlock = some i ∨ (Value.slice ao j j).ownBlock = some i) w (w6.setCell ⟨wb,2,none⟩ (.slice (some ⟨gn,0,none⟩) (ls.length + 4) cn)):=(((K1.mono (fun _ _ e=>.inl e)).trans' KT (fun _ _ e=>.inr (.inr (.inr e)))).trans' K6 (fun _ _ e=>.inr (.inl e))).trans' K7 (fun _ _ e=>.inl e);have hsz7 : B ≤ (w6.setCell ⟨wb,2,none⟩ (.slice (some ⟨gn,0,none⟩) (ls.length + 4) cn)).heap.size:=Nat.le_trans hB KX.size;have H7:=hid (And.intro hwb7 (And.intro hm7 (And.intro hv7 (And.intro p7 (And.intro q7 (And.intro r7 (And.intro o7 (And.intro KX hsz7))))))));clear hw1 K1 hv1 hn1 hm1 KT hwb5 hn5 hm5 hv5 p5 q5 o5 step7 o6 gr6 hwb6 K6 K7 H1 KA K3 K4 K5 hv2 hv3 hv4 hwb7 hm7 hv7 p7 q7 r7 o7 KX hsz7 hone hac hsz5
  go_upto_region 10 with (at_builtin;refine wpList_append_run rfl (.tmp 46) (.tmp 51) 75 rfl _ _ (.slice (some ⟨gn,0,none⟩) (ls.length + 4) cn) w6 rfl rfl hr6 ?_)
  clear c2 d2 f2 hr6;generalize w6.setCell ⟨wb,2,none⟩ (.slice (some ⟨gn,0,none⟩) (ls.length + 4) cn) = w7 at *;obtain ⟨hwb7,hm7,hv7,p7,q7,r7,o7,KX,hsz7⟩:=H7.out;clear H7;obtain ⟨gm,cm,w8,hr8,o8,gr8,_⟩:=run_append_where (P:=Tryz.prog) (w7.alloc (.cells #[.int .i64 m,.int .i64 m,.int .i64 m,.int .i64 m] 3)) B 38 38 3 i2 (.int .i64 0) 1 8 Tryz.underlying38 hi2 hx0 hx1 hx2 rfl (by decide) mv ms.length ms (by exact hm7.alloc _) ⟨w7.heap.size,0,none⟩ 4 4 [.int .i64 m,.int .i64 m,.int .i64 m,.int .i64 m] rfl (by exact cells_new _ [.int .i64 m,.int .i64 m,.int .i64 m,.int .i64 m] _) (by intro u hu;simp at hu;subst hu;rfl) (by decide) (by unfold maxLen;omega) (by omega) (by simp;omega);have K8 : Kp (fun i=>mv.ownBlock = some i) w7 w8:=((Kp.refl _ _).alloc (.cells #[.int .i64 m,.int .i64 m,.int .i64 m,.int .i64 m] 3)).grown (by exact gr8) (fun i hi _=>hi);have hwb8:=K8.at_ hwb7 (own_ne hm7 hwb7 (by decide))
  have c4 : w7.cell? ⟨wb,4,none⟩ = some mv:=by rw [World.cell?,hwb7];rfl
  have d4 : w8.cell? ⟨wb,4,none⟩ = some mv:=by rw [World.cell?,hwb8];rfl
  have f4 : w8.frozen? ⟨wb,4,none⟩ = false:=by simp [World.frozen?,hwb8]
  have hwb9 : (w8.setCell ⟨wb,4,none⟩ (.slice (some ⟨gm,0,none⟩) (ms.length + 4) cm)).heap[wb]? = some (.cells (wlA (.slice (some ⟨gn,0,none⟩) (ls.length + 4) cn) (.slice (some ⟨gm,0,none⟩) (ms.length + 4) cm) (k + 1)) 77 (0,0)):=by rw [heap_set_same _ hwb8];rfl
  have K9 : Kp (fun i=>i = wb) w8 (w8.setCell ⟨wb,4,none⟩ (.slice (some ⟨gm,0,none⟩) (ms.length + 4) cm)):=(Kp.refl _ _).setCell (by intro _;rfl) _
  have step9 : ∀ {e : TypeId} {sz : Nat} {v : Value} {n : Nat} {xs : List Value} {b : Nat},w7.ownsRow b e sz v n xs → e ≠ 3 → e ≠ 77 → (w8.setCell ⟨wb,4,none⟩ (.slice (some ⟨gm,0,none⟩) (ms.length + 4) cm)).ownsRow b e sz v n xs:=fun ho h1 h2=>by
   have h6:=K8.owns ho (own_apart ho hm7 h1);exact K9.owns h6 (fun q hq e=>own_ne h6 hwb8 h2 (by rw [hq,e]))
  have HQ:=hid (show OwnQ w (w8.setCell ⟨wb,4,none⟩ (.slice (some ⟨gm,0,none⟩) (ms.length + 4) cm)) wb B nv mv (.slice ao j j) k j ls ms from ⟨(.slice (some ⟨gn,0,none⟩) (ls.length + 4) cn),(.slice (some ⟨gm,0,none⟩) (ms.length + 4) cm),(.slice a1 (j + 1) b1),(.slice a2 (j + 2) b2),(.slice a3 (j + 3) b3),hwb9,step9 o7 (by decide) (by decide),by rw [HM.out];exact K9.owns o8 (fun q hq e=>own_ne o8 hwb8 (by decide) (by rw [hq,e])),by rw [HM.out];exact own_weaken (step9 hv7 (by decide) (by decide)) (Nat.zero_le _),by rw [HM.out];exact own_weaken (step9 p7 (by decide) (by decide)) (Nat.zero_le _),by rw [HM.out];exact own_weaken (step9 q7 (by decide) (by decide)) (Nat.zero_le _),by rw [HM.out];exact own_weaken (step9 r7 (by decide) (by decide)) (Nat.zero_le _),(KX.trans' K8 (fun _ _ e=>.inr (.inr (.inl e)))).trans' K9 (fun _ _ e=>.inl e)⟩);clear step9 hwb9 K9 K8 hwb8 o8 gr8 KX hm7 hv7 p7 q7 r7 o7 hwb7
  go_wp2_with (at_builtin;refine wpList_append_run rfl (.tmp 59) (.tmp 64) 38 rfl _ _ (.slice (some ⟨gm,0,none⟩) (ms.length + 4) cm) w8 rfl rfl hr8 ?_)
  go_end0
  exact ⟨rfl,HQ.out⟩
end
def LsE (w : World) (e : Value × Nat × Int) : Prop:=w.ownsRow 0 111 3 e.1 e.2.1 (mkL e.2.1 e.2.2) ∧ e.2.1 ≤ 2000
theorem mkL_at {n i : Nat} {m : Int} (h : i < n) : (mkL n m)[i * 3]? = some (.string ⟨#[]⟩) ∧ (mkL n m)[i * 3 + 1]? = some (.int .i64 m) ∧ (mkL n m)[i * 3 + 2]? = some (.int .i64 m):=by
 obtain ⟨k,rfl⟩ : ∃ k,n = i + (1 + k):=⟨n - i - 1,by omega⟩
 rw [← mkL_add,← mkL_add];have hl:=mkL_len i m;have h1 : mkL 1 m = [.string ⟨#[]⟩,.int .i64 m,.int .i64 m]:=rfl;rw [h1];refine ⟨?_,?_,?_⟩
 ·rw [List.getElem?_append_right (by omega),hl];simp
 ·rw [List.getElem?_append_right (by omega),hl];simp
 rw [List.getElem?_append_right (by omega),hl];simp
section
variable (w : World) (wb B : Nat)
theorem looksN_any (nv mv : Value) (k : Int) (es : List (Value × Nat × Int)) (h : w.heap[wb]? = some (.cells (wlA nv mv k) 77 (0,0))) (hnv : w.ownsRow B 107 1 nv es.length (es.map (·.1))) (hmv : w.ownsRow B 3 1 mv es.length (es.map fun e=>.int .i64 e.2.2)) (hes : ∀ e ∈ es,LsE w e) (hl : es.length ≤ 1000000000) :
 Calls Tryz.prog 41 #[.pointer (some ⟨wb,0,none⟩)] w fun x w'=>x = .returned (.bool true) ∧ Kp (fun _=>False) w w':=by
 obtain ⟨na,nc,rfl⟩:=own_len hnv;obtain ⟨ma,mc,rfl⟩:=own_len hmv
 have c1 : w.cell? ⟨wb,1,none⟩ = some (.slice none 0 0):=by rw [World.cell?,h];rfl
 have H:=hid (And.intro h (And.intro hnv (And.intro hmv hes)));clear h hnv hmv hes
 go_enter Tryz.func41,Tryz.ntmps41
 go_wp2
 go_loop [3] (fun i=>i = .int .i64 0) (fun _=>0)
 case atStart=>rfl
 case round =>
  subst hrel;go_wp2
  go_loopw [5] (fun iv wr=>∃ i : Nat,iv = .int .i64 i ∧ i ≤ es.length ∧ Kp (fun _=>False) w wr) (fun iv _=>es.length - (intOf iv).toNat)
  case atStart=>exact ⟨0,rfl,Nat.zero_le _,Kp.refl _ _⟩
  case round =>
   obtain ⟨i,rfl,hi,KW⟩:=hrel;have hb:=KW.at_ H.out.1 (fun x=>x)
   have d2 : wr.cell? ⟨wb,2,none⟩ = some (.slice na es.length nc):=by rw [World.cell?,hb];rfl
   by_cases hlt : i < es.length
   ·have hlt' : (i : Int) < (es.length : Int):=by omega
    obtain ⟨e,he⟩ : ∃ e,es[i]? = some e:=⟨_,List.getElem?_eq_getElem hlt⟩
    have hE:=H.out.2.2.2 e (List.mem_of_getElem? he);obtain ⟨v,n,m⟩:=e;obtain ⟨va,vc,hva⟩:=own_len hE.1;simp only at hva;subst hva;have hn:=hE.2;simp only at hn;obtain ⟨gn,cn',hn',_⟩:=World.ownsRow.form H.out.2.1 (by omega);simp only [Value.slice.injEq] at hn';obtain ⟨rfl,-,-⟩:=hn';obtain ⟨gm,cm',hm',_⟩:=World.ownsRow.form H.out.2.2.1 (by omega);simp only [Value.slice.injEq] at hm';obtain ⟨rfl,-,-⟩:=hm'
    have z0 : w.cell? ⟨gn,i,none⟩ = some (.slice va n vc):=by
     rw [World.ownsRow.cellAt H.out.2.1 i (by omega),List.getElem?_map,he];rfl
    have y0 : w.cell? ⟨gm,i,none⟩ = some (.int .i64 m):=by
     rw [World.ownsRow.cellAt H.out.2.2.1 i (by omega),List.getElem?_map,he];rfl
    have hE1 : w.ownsRow 0 111 3 (.slice va n vc) n (mkL n m):=hE.1;have HE:=hid (And.intro hE1 hE1);clear hE hE1 hb he
    go_wp2_with fail
    go_loopw [6] (fun kv wq=>∃ j : Nat,kv = .int .i64 j ∧ j ≤ n ∧ Kp (fun _=>False) w wq) (fun kv _=>n - (intOf kv).toNat)
    case atStart=>exact ⟨0,rfl,Nat.zero_le _,KW⟩
    case round =>
     clear d2;obtain ⟨j,rfl,hj,KQ⟩:=hrel;have hb:=KQ.at_ H.out.1 (fun x=>x)
     have d2 : wr.cell? ⟨wb,2,none⟩ = some (.slice (some ⟨gn,0,none⟩) es.length nc):=by rw [World.cell?,hb];rfl
     have z1:=KQ.cellF z0
     by_cases hjn : j < n
     ·have hjn' : (j : Int) < (n : Int):=by omega
      obtain ⟨gv,cv',hv',_⟩:=World.ownsRow.form HE.out.1 (by omega);simp only [Value.slice.injEq] at hv';obtain ⟨rfl,-,-⟩:=hv';obtain ⟨m0,m1,m2⟩:=mkL_at (m:=m) hjn;have x0:=KQ.cellF ((World.ownsRow.cellAt HE.out.1 (j * 3) (by omega)).trans m0);have x1:=KQ.cellF ((World.ownsRow.cellAt HE.out.1 (j * 3 + 1) (by omega)).trans m1);have x2:=KQ.cellF ((World.ownsRow.cellAt HE.out.1 (j * 3 + 2) (by omega)).trans m2);have KN : Kp (fun _=>False) w (wr.alloc (.cells #[.string ⟨#[]⟩,.int .i64 m,.int .i64 m] 111)):=KQ.alloc _;have hbN:=KN.at_ H.out.1 (fun x=>x);have hnb:=heap_alloc_new wr (.cells #[.string ⟨#[]⟩,.int .i64 m,.int .i64 m] 111);clear m0 m1 m2
      go_upto_region 16 with (fail)
      generalize wr.alloc (.cells #[.string ⟨#[]⟩,.int .i64 m,.int .i64 m] 111) = wn at *
      have a0 : wn.cell? ⟨wr.heap.size,0,none⟩ = some (.string ⟨#[]⟩):=by rw [World.cell?,hnb];rfl
      have a1 : wn.cell? ⟨wr.heap.size,1,none⟩ = some (.int .i64 m):=by rw [World.cell?,hnb];rfl
      have a2 : wn.cell? ⟨wr.heap.size,2,none⟩ = some (.int .i64 m):=by rw [World.cell?,hnb];rfl
      have d4 : wn.cell? ⟨wb,4,none⟩ = some (.slice (some ⟨gm,0,none⟩) es.length mc):=by rw [World.cell?,hbN];rfl
      have y1:=KN.cellF y0;clear hb hbN hnb d2 z1 x0 x1 x2 KQ
      go_quiet (fail)
      go_wp2
      go_roundw
      case rel=>exact ⟨j + 1,by go_num,by omega,KN.drewN _⟩
      case measure=>simp [intOf];omega
     have hge : ¬ (j : Int) < (n : Int):=by omega
     clear hb;go_wp2
     go_roundw
     case rel=>exact ⟨i + 1,by go_num,by omega,KQ⟩
     case measure=>simp [intOf];omega
   have hge : ¬ (i : Int) < (es.length : Int):=by omega
   go_wp2;go_ret;exact ⟨rfl,KW⟩
end
section
variable (w : World)
theorem plays_anyN (v : Value) (ops : List OpV) (lo hi : Int) (WI : Nat → World → Prop) (hs : ScR w v ops) (hl : ops.length ≤ maxLen)
 (hmono : ∀ k W,WI k W → WI (k + 1) W)
 (h0 : WI 0 (w.alloc (.cells #[.slice none 0 0,.slice none 0 0,.slice none 0 0,.slice none 0 0,.slice none 0 0,.int .i64 0] 77)))
 (hstep : ∀ (k : Nat) (W : World) (o : OpV),k < ops.length → o ∈ ops → lo ≤ o.kind → o.kind ≤ hi → WI k W → KB w.heap.size w W → Calls Tryz.prog 39 #[.pointer (some ⟨w.heap.size,0,none⟩),.agg (opA o)] W fun x W'=>x = .returned (.bool true) ∧ WI (k + 1) W' ∧ KB w.heap.size W W')
 (hends : ∀ W : World,WI ops.length W → KB w.heap.size w W → Calls Tryz.prog 40 #[.pointer (some ⟨w.heap.size,0,none⟩)] W fun x W'=>x = .returned (.bool true) ∧ WI ops.length W' ∧ KB w.heap.size W W')
 (hlook : ∀ W : World,WI ops.length W → KB w.heap.size w W → Calls Tryz.prog 41 #[.pointer (some ⟨w.heap.size,0,none⟩)] W fun x W'=>x = .returned (.bool true) ∧ KB w.heap.size W W') :
 Calls Tryz.prog 19 #[v,.int .i64 lo,.int .i64 hi] w fun x w'=>x = .returned (.bool true) ∧ Kp (fun _=>False) w w':=by
 unfold maxLen at hl;obtain ⟨d,hd,hda⟩:=Tryz.undOp;obtain ⟨ao,cap,rfl⟩:=hs.len;have K0 : KB w.heap.size w (w.alloc (.cells #[.slice none 0 0,.slice none 0 0,.slice none 0 0,.slice none 0 0,.slice none 0 0,.int .i64 0] 77)):=(Kp.refl _ _).alloc _;have HST:=hid hstep;have HMO:=hid hmono;have HEN:=hid hends;have HLK:=hid hlook;have HSC:=hid hs;clear hstep hends hlook hs hmono
 go_enter Tryz.func19,Tryz.ntmps19
 go_upto_region 3 with (fail)
 generalize w.alloc (.cells #[.slice none 0 0,.slice none 0 0,.slice none 0 0,.slice none 0 0,.slice none 0 0,.int .i64 0] 77) = w1 at *
 go_loopw [8] (fun i wr=>∃ k : Nat,i = .int .i64 k ∧ k ≤ ops.length ∧ Hid (WI k wr ∧ KB w.heap.size w wr)) (fun i _=>ops.length - (intOf i).toNat)
 case atStart=>exact ⟨0,rfl,Nat.zero_le _,hid ⟨h0,K0⟩⟩
 case round =>
  obtain ⟨k,rfl,hk,HW⟩:=hrel
  by_cases hlt : k < ops.length
  ·have hlt' : (k : Int) < (ops.length : Int):=by omega
   obtain ⟨o,ho⟩ : ∃ o,ops[k]? = some o:=⟨_,List.getElem?_eq_getElem hlt⟩
   obtain ⟨g,off,cap',hv,hc⟩:=(HSC.out.keep HW.out.2).at_ ho;simp only [Value.slice.injEq,true_and] at hv;obtain ⟨rfl,rfl⟩:=hv;have z0 : wr.cell? ⟨g,off + k * 14,none⟩ = some (.int .i64 o.kind):=hc 0 _ rfl
   by_cases hlo : lo ≤ o.kind
   ·by_cases hhi : o.kind ≤ hi
    ·have E:=hid (HST.out k wr o hlt (List.mem_of_getElem? ho) hlo hhi HW.out.1 HW.out.2)
     go_wp2_with (refine wpList_load_part rfl 81 (.tmp 38) rfl g (off + k * 14) rfl (opL o) d hc hd hda Tryz.sizeOp ?_)
     refine hm E ?_;rintro y w2 ⟨rfl,h2,K2⟩;have HW2:=hid (show WI (k + 1) w2 ∧ KB w.heap.size w w2 from ⟨h2,Kp.trans HW.out.2 K2⟩);clear E h2 K2;go_wp2
     go_roundw
     case rel=>exact ⟨k + 1,by go_num,by omega,HW2⟩
     case measure=>simp [intOf];omega
    go_wp2
    go_roundw
    case rel=>exact ⟨k + 1,by go_num,by omega,hid ⟨HMO.out _ _ HW.out.1,HW.out.2⟩⟩
    case measure=>simp [intOf];omega
   go_wp2
   go_roundw
   case rel=>exact ⟨k + 1,by go_num,by omega,hid ⟨HMO.out _ _ HW.out.1,HW.out.2⟩⟩
   case measure=>simp [intOf];omega
  have hge : ¬ (k : Int) < (ops.length : Int):=by omega
  obtain rfl : k = ops.length:=by omega
  have E1:=hid (HEN.out wr HW.out.1 HW.out.2)
  go_wp2_with fail
  refine hm E1 ?_;rintro y w2 ⟨rfl,h2,K2⟩;have K3 : KB w.heap.size w w2:=Kp.trans HW.out.2 K2;have E2:=hid (HLK.out w2 h2 K3)
  go_wp2_with fail
  refine hm E2 ?_;rintro y w3 ⟨rfl,K4⟩;go_wp2;go_ret;exact ⟨rfl,(show KB w.heap.size w w3 from Kp.trans K3 K4).mono (fun i hi x=>by omega)⟩
end
def TWI (wb B K : Nat) (W : World) : Prop:=∃ (nv mv : Value) (k : Int) (es : List (Value × Nat × Int)),W.heap[wb]? = some (.cells (wlA nv mv k) 77 (0,0)) ∧ 0 ≤ k ∧ k ≤ K ∧ es.length ≤ 4 * K ∧ W.ownsRow B 107 1 nv es.length (es.map (·.1)) ∧ W.ownsRow B 3 1 mv es.length (es.map fun e=>.int .i64 e.2.2) ∧ (∀ e ∈ es,LsE W e) ∧ B ≤ W.heap.size
theorem TWI.up {wb B K : Nat} {W : World} (h : TWI wb B K W) : TWI wb B (K + 1) W:=by
 obtain ⟨nv,mv,k,es,h1,h2,h3,h4,r⟩:=h;exact ⟨nv,mv,k,es,h1,h2,by omega,by omega,r⟩
theorem TWI.keep {wb B K : Nat} {W W' : World} (h : TWI wb B K W) (k0 : Kp (fun _=>False) W W') : TWI wb B K W':=by
 obtain ⟨nv,mv,k,es,h1,h2,h3,h4,h5,h6,h7,h8⟩:=h;exact ⟨nv,mv,k,es,k0.at_ h1 (fun x=>x),h2,h3,h4,k0.owns h5 (fun _ _ x=>x),k0.owns h6 (fun _ _ x=>x),fun e he=>⟨k0.owns (h7 e he).1 (fun _ _ x=>x),(h7 e he).2⟩,Nat.le_trans h8 k0.size⟩
theorem ndL_len (ss : List Ch.St) : (ndL ss).length = ss.length * 3:=by
 unfold ndL
 induction ss with
 | nil=>rfl
 | cons a l ih=>rw [List.flatMap_cons,List.length_append,ih];simp [ndA];omega
theorem ndL_at {ss : List Ch.St} {i : Nat} {s : Ch.St} (h : ss[i]? = some s) : (ndL ss)[i * 3]? = some (.string (strOfNums [s.name])) ∧ (ndL ss)[i * 3 + 1]? = some (.int .i64 s.kind) ∧ (ndL ss)[i * 3 + 2]? = some (.int .i64 s.parent):=by
 have hlt:=(List.getElem?_eq_some_iff.1 h).1
 have e : ndL ss = ndL (ss.take i) ++ ([.string (strOfNums [s.name]),.int .i64 s.kind,.int .i64 s.parent] ++ ndL (ss.drop (i + 1))):=by
  rw [← List.append_assoc,← ndL_snoc h];unfold ndL;rw [← List.flatMap_append,List.take_append_drop]
 have hl : (ndL (ss.take i)).length = i * 3:=by rw [ndL_len,List.length_take];omega
 rw [e];refine ⟨?_,?_,?_⟩
 ·rw [List.getElem?_append_right (by omega),hl];simp
 ·rw [List.getElem?_append_right (by omega),hl];simp
 rw [List.getElem?_append_right (by omega),hl];simp
theorem NdAt.nil (w : World) : NdAt w (.slice none 0 0) []:=⟨none,0,rfl,fun i s h=>by simp at h⟩
theorem NdAt.ofRow {w : World} {B : Nat} {u : Value} {ss : List Ch.St} (h : w.ownsRow B 111 3 u ss.length (ndL ss)) : NdAt w u ss:=by
 obtain ⟨ao,c,rfl⟩:=own_len h;refine ⟨ao,c,rfl,fun i s hs=>?_⟩;have hlt:=(List.getElem?_eq_some_iff.1 hs).1;obtain ⟨g,c',hv,_⟩:=World.ownsRow.form h (by omega);simp only [Value.slice.injEq] at hv;obtain ⟨rfl,-,-⟩:=hv;obtain ⟨h0,h1,h2⟩:=ndL_at hs;exact ⟨g,rfl,(World.ownsRow.cellAt h (i * 3) (by omega)).trans h0,(World.ownsRow.cellAt h (i * 3 + 1) (by omega)).trans h1,(World.ownsRow.cellAt h (i * 3 + 2) (by omega)).trans h2⟩
theorem NdAt.ofNdR {w : World} {g : Nat} {ss : List Ch.St} (h : NdR w g ss.length ss.length ss) : NdAt w (.slice (some ⟨g,0,none⟩) ss.length ss.length) ss:=by
 obtain ⟨C,hC,_,hx⟩:=h;refine ⟨_,_,rfl,fun i s hs=>⟨g,rfl,?_,?_,?_⟩⟩
 ·rw [World.cell?,hC];exact hx i s (List.getElem?_eq_some_iff.1 hs).1 hs 0 (by omega)
 ·rw [World.cell?,hC];exact hx i s (List.getElem?_eq_some_iff.1 hs).1 hs 1 (by omega)
 rw [World.cell?,hC];exact hx i s (List.getElem?_eq_some_iff.1 hs).1 hs 2 (by omega)
theorem ownNdR {w : World} {B g : Nat} {ss : List Ch.St} (h : NdR w g ss.length ss.length ss) (hB : B ≤ g) (hl : ss.length ≤ 16) : ∃ xs,w.ownsRow B 111 3 (.slice (some ⟨g,0,none⟩) ss.length ss.length) ss.length xs:=by
 obtain ⟨C,hC,hs,_⟩:=h;exact ⟨C.toList,by simp [hs],.inr ⟨g,_,C,rfl,hB,hC,Nat.le_refl _,by unfold maxLen;omega,hs,by rw [List.take_of_length_le (by simp [hs])]⟩⟩
theorem NdAt.keep {w w' : World} {v : Value} {ss : List Ch.St} (h : NdAt w v ss) (k : Kp (fun _=>False) w w') : NdAt w' v ss:=by
 obtain ⟨ao,c,hv,hx⟩:=h;refine ⟨ao,c,hv,fun i s hs=>?_⟩;obtain ⟨g,h1,h2,h3,h4⟩:=hx i s hs;exact ⟨g,h1,k.cellF h2,k.cellF h3,k.cellF h4⟩
theorem tree_facts {w1 w2 : World} {t : ByteArray} {v : Value} (h1 : (Ch.read t).1 ≠ 0 → v = .slice none 0 0) (h2 : (Ch.read t).1 = 0 → ∃ g,v = .slice (some ⟨g,0,none⟩) (Ch.read t).2.2.sts.length (Ch.read t).2.2.sts.length ∧ w1.heap.size ≤ g ∧ NdR w2 g (Ch.read t).2.2.sts.length (Ch.read t).2.2.sts.length (Ch.read t).2.2.sts) :
 ∃ ss xs,ss.length ≤ 16 ∧ NdAt w2 v ss ∧ w2.ownsRow w1.heap.size 111 3 v ss.length xs ∧ (∀ ao c,v = .slice ao ss.length c → c = ss.length) ∧ ss = if (Ch.read t).1 = 0 then (Ch.read t).2.2.sts else []:=by
 by_cases h0 : (Ch.read t).1 = 0
 ·obtain ⟨g,rfl,hg,hN⟩:=h2 h0
  have hl:=(Ch.read_ols h0).1.le;obtain ⟨xs,hx⟩:=ownNdR hN hg hl;exact ⟨_,xs,hl,.ofNdR hN,hx,fun _ _ e=>by injection e with _ _ e;exact e.symm,by rw [if_pos h0]⟩
 obtain rfl:=h1 h0;exact ⟨[],[],by simp,.nil _,World.ownsRow_nil _ _ _ _,fun _ _ e=>by injection e with _ _ e;exact e.symm,by rw [if_neg h0]⟩
section
variable (w : World) (wb B : Nat)
theorem text_tree_any (o : OpV) (K : Nat) (hk : o.kind = 2) (hI : TWI wb B K w) (hK : K ≤ 2000000) :
 Calls Tryz.prog 64 #[.pointer (some ⟨wb,0,none⟩),.agg (opA o)] w fun x w'=>x = .returned (.bool true) ∧ TWI wb B (K + 1) w' ∧ (wb < w.heap.size → B ≤ wb → KB B w w'):=by
 have hb1:=heap_alloc_new w (.cells (opA o) 81);have K1 : Kp (fun _=>False) w (w.alloc (.cells (opA o) 81)):=(Kp.refl _ _).alloc _;have HI:=hid hI;clear hI
 go_enter Tryz.func64,Tryz.ntmps64
 go_upto_region 1 with (fail)
 generalize w.alloc (.cells (opA o) 81) = w1 at *;generalize hob : w.heap.size = ob at *
 have c0 : w1.cell? ⟨ob,0,none⟩ = some (.int .i64 2):=by rw [World.cell?,hb1,← hk];rfl
 have c1 : w1.cell? ⟨ob,1,none⟩ = some (.string o.t):=by rw [World.cell?,hb1];rfl
 have E1:=hid (cTree_any w1 o.t)
 go_wp2_with fail
 refine hm E1 ?_;rintro x w2 ⟨v,rfl,hv1,hv2,K2⟩;have c2:=K2.cellF c1;have E2:=hid (rTree_any w2 o.t);obtain ⟨ss,xs,hss,hNv,hov,hcap,hse⟩:=tree_facts hv1 hv2;obtain ⟨ao,ac,rfl⟩:=own_len hov;have HV:=hid (And.intro hNv (And.intro hov (And.intro hcap hse)));clear hv1 hv2 E1 c0 c1 hNv hov hcap hse
 go_wp2_with fail
 refine hm E2 ?_;rintro x w3 ⟨u,rfl,hu1,hu2,K3⟩
 have hNu : NdAt w3 u ss:=by
  have hse:=HV.out.2.2.2
  by_cases h0 : (Ch.read o.t).1 = 0
  ·rw [if_pos h0] at hse
   subst hse;exact .ofRow (hu2 h0)
  rw [if_neg h0] at hse;subst hse;rw [hu1 h0];exact .nil _
 have E3:=hid (sameNodes_any w3 _ u ss (HV.out.1.keep K3) hNu (by omega));have KA:=(K1.trans K2).trans K3;have HA:=hid (And.intro KA (And.intro K2 K3));clear E2 c2 hu1 hu2 hNu K3 KA;generalize (Ch.read o.t).1 = re at *
 go_wp2_with fail
 refine hm E3 ?_;rintro x w4 ⟨rfl,K4⟩;obtain ⟨nv,mv,k,es,h1,h2,h3,h4,h5,h6,h7,h8⟩:=HI.out;have KC:=HA.out.1.trans K4;have hov:=HV.out.2.1;have hsz1:=K1.size;have hov4:=own_weaken ((HA.out.2.2.trans K4).owns hov (fun _ _ x=>x)) (show B ≤ w1.heap.size by omega);have E4:=hid (ownNodes_any w4 wb B nv mv (.slice ao ss.length ac) k ss.length xs (es.map (·.1)) (es.map fun e=>.int .i64 e.2.2) (KC.at_ h1 (fun x=>x)) h2 (by omega) hov4 HV.out.2.2.1 (by omega) (by simpa using KC.owns h5 (fun _ _ x=>x)) (by simpa using KC.owns h6 (fun _ _ x=>x)) (by simp;omega) (by simp;omega) (Nat.le_trans h8 KC.size));clear E3 K4 hov4
 go_wp2_with fail
 refine hm E4 ?_;rintro x w5 ⟨rfl,nv',mv',g1,g2,g3,r1,r2,r3,r4,r5,r6,r7,r8⟩
 have hold : ∀ e ∈ es,LsE w5 e:=fun e he=>by
  have hw:=(h7 e he).1;have h4':=KC.owns hw (fun _ _ x=>x);refine ⟨r8.owns h4' (fun q hq S=>?_),(h7 e he).2⟩
  rcases S with S | S | S | S
  ·exact own_ne h4' (KC.at_ h1 (fun x=>x)) (by decide) (by rw [hq,S])
  ·exact own_apart h4' (KC.owns h5 (fun _ _ x=>x)) (by decide) q hq S
  ·exact own_apart h4' (KC.owns h6 (fun _ _ x=>x)) (by decide) q hq S
  have a1:=(hw.lt q hq).2;have a2:=(hov.lt q S).1;omega
 have HT:=hid (show TWI wb B (K + 1) w5 from ⟨nv',mv',k + 1,es ++ [(.slice ao ss.length ac,ss.length,-(k + 1)),(g1,ss.length + 1,-(k + 1)),(g2,ss.length + 2,-(k + 1)),(g3,ss.length + 3,-(k + 1))],r1,by omega,by omega,by simp;omega,by simpa using r2,by simpa using r3,fun e he=>by
  rcases List.mem_append.1 he with he | he
  ·exact hold e he
  simp only [List.mem_cons,List.not_mem_nil,or_false] at he
  rcases he with rfl | rfl | rfl | rfl
  ·exact ⟨r4,by simp only;omega⟩
  ·exact ⟨r5,by simp only;omega⟩
  ·exact ⟨r6,by simp only;omega⟩
  exact ⟨r7,by simp only;omega⟩,Nat.le_trans h8 (Nat.le_trans KC.size r8.size)⟩)
 have HK:=hid (show (wb < ob → B ≤ wb → KB B w w5) from fun _ hwb=>by
  refine (KC.mono (S':=fun i=>B ≤ i) (fun _ _ x=>x.elim)).trans' r8 (fun q _ S=>?_)
  rcases S with S | S | S | S
  ·omega
  ·exact (h5.lt q S).1
  ·exact (h6.lt q S).1
  have:=(hov.lt q S).1;omega)
 have E6:=hid (num_any w5 re);clear E4 hold r1 r2 r3 r4 r5 r6 r7 r8 h1 h5 h6 h7 KC hov HV HA
 go_wp2_with fail
 refine hm E6 ?_;rintro x w7 ⟨rfl,e7⟩;rw [e7];clear e7 w7
 go_wp2_with fail
 refine hm E6 ?_;rintro x w7 ⟨rfl,e7⟩;rw [e7];clear e7 w7;go_wp2;go_ret;exact ⟨rfl,HT.out,by rw [hob];exact HK.out⟩
theorem step_tree_any (o : OpV) (K : Nat) (hk : o.kind = 2) (hI : TWI wb B K w) (hK : K ≤ 2000000) (hwb : wb < w.heap.size) (hBw : B ≤ wb) :
 Calls Tryz.prog 39 #[.pointer (some ⟨wb,0,none⟩),.agg (opA o)] w fun x w'=>x = .returned (.bool true) ∧ TWI wb B (K + 1) w' ∧ KB B w w':=by
 obtain ⟨d,hd,hda⟩:=Tryz.undOp;have hb1:=heap_alloc_new w (.cells (opA o) 81);have K1 : Kp (fun _=>False) w (w.alloc (.cells (opA o) 81)):=(Kp.refl _ _).alloc _;have E:=hid (text_tree_any (w.alloc (.cells (opA o) 81)) wb B o K hk (hI.keep K1) hK)
 have hk0 : (opA o)[0]? = some (.int .i64 2):=by rw [← hk];rfl
 have hsz:=opA_size o;generalize opA o = OA at *
 have aI : (Tryz.prog.info? 81).map (·.size) = some OA.size:=by rw [hsz];exact Tryz.sizeOp
 go_enter Tryz.func39,Tryz.ntmps39
 go_upto_region 1 with (fail)
 generalize w.alloc (.cells OA 81) = w1 at *;generalize hob : w.heap.size = ob at *
 have c0 : w1.cell? ⟨ob,0,none⟩ = some (.int .i64 2):=by rw [World.cell?,hb1];exact hk0
 go_wp2_with (refine wpList_load_row rfl 81 (.tmp 3) rfl ob rfl 81 OA (0,0) d hb1 hd (by cases d <;> first | rfl | exact absurd hda (by simp [isAggD])) aI ?_)
 refine hm E ?_;rintro x w2 ⟨rfl,T2,K2⟩;have K3:=K2 (by have:=K1.size;omega) hBw;have HT:=hid (And.intro T2 (show KB B w w2 from (K1.mono (S':=fun i=>B ≤ i) (fun _ _ x=>x.elim)).trans K3));clear E T2 K2 K3 hI;go_wp2;go_ret;exact ⟨rfl,HT.out⟩
theorem endsT_any (K : Nat) (h : TWI wb B K w) :
 Calls Tryz.prog 40 #[.pointer (some ⟨wb,0,none⟩)] w fun x w'=>x = .returned (.bool true) ∧ w' = w:=by
 obtain ⟨nv,mv,k,es,h1,_⟩:=h
 have c0 : w.cell? ⟨wb,0,none⟩ = some (.slice none 0 0):=by rw [World.cell?,h1];rfl
 go_enter Tryz.func40,Tryz.ntmps40
 go_wp2
 go_loop [3] (fun i=>i = .int .i64 0) (fun _=>0)
 case atStart=>rfl
 case round =>
  subst hrel;go_wp2;go_ret;exact ⟨rfl,rfl⟩
theorem looksT_any (K : Nat) (hK : K ≤ 2000000) (h : TWI wb B K w) :
 Calls Tryz.prog 41 #[.pointer (some ⟨wb,0,none⟩)] w fun x w'=>x = .returned (.bool true) ∧ Kp (fun _=>False) w w':=by
 obtain ⟨nv,mv,k,es,h1,_,_,h4,h5,h6,h7,_⟩:=h;exact looksN_any w wb B nv mv k es h1 h5 h6 h7 (by omega)
theorem trees_any (v : Value) (ops : List OpV) (hs : ScR w v ops) (hl : ops.length ≤ 1048576) :
 Calls Tryz.prog 4 #[v] w fun x w'=>x = .returned (.bool true) ∧ Kp (fun _=>False) w w':=by
 have E:=hid (plays_anyN w v ops 2 2 (fun K W=>TWI w.heap.size w.heap.size K W) hs (by unfold maxLen;omega) (fun _ _ h=>h.up)
  ⟨.slice none 0 0,.slice none 0 0,0,[],heap_alloc_new w _,by omega,by omega,by simp,World.ownsRow_nil _ _ _ _,World.ownsRow_nil _ _ _ _,by simp,by simp⟩
  (fun K W o hk _ h1 h2 hW _=>step_tree_any W w.heap.size w.heap.size o K (by omega) hW (by omega) (by obtain ⟨_,_,_,_,hb,_⟩:=hW;exact lt_of_block hb) (Nat.le_refl _))
  (fun W hW _=>(endsT_any W w.heap.size w.heap.size ops.length hW).mono (fun x W' ⟨hx,hk⟩=>by subst hk;exact ⟨hx,hW,Kp.refl _ _⟩))
  (fun W hW _=>(looksT_any W w.heap.size w.heap.size ops.length (by omega) hW).mono (fun x W' ⟨hx,hk⟩=>⟨hx,hk.mono (fun _ _ x=>x.elim)⟩)))
 go_enter Tryz.func4,Tryz.ntmps4
 go_wp2_with fail
 refine hm E ?_;rintro x w2 ⟨rfl,K⟩;go_wp2;go_ret;exact ⟨rfl,K⟩
end
end Go.Proofs.YtnlbchmfcebeeaaGreat
