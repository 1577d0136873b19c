import Derived.Test.YtnlbchmfcebeeaaGreatTB4
set_option maxHeartbeats 12800000
set_option maxRecDepth 100000
namespace Go.Proofs.YtnlbchmfcebeeaaGreat
open Go.Proofs.Tryz Ch
open Go.RowKit
def bA (w : World) (base : Nat) (v : Value) (xs : List Value) : Prop :=
 (v = .slice none 0 0 /\ xs = []) \/
 ∃ g off cap cur,v = .slice (some ⟨g,off,none⟩) xs.length cap /\ base <= g /\ w.heap[g]? = some (.cells cur 5 (0,0)) /\ xs.length <= cap /\ off + cap <= cur.size /\ ∀ j u,xs[j]? = some u -> cur[off + j]? = some u
theorem tu (g : Nat) (T : TypeId) (f : Nat × Nat) : ∀ (vs : List Value) (o : Nat) (w : World) (cur : Array Value),w.heap[g]? = some (.cells cur T f) -> o + vs.length <= cur.size ->
 ∃ cur',(w.setCells g o vs).heap[g]? = some (.cells cur' T f) /\ cur'.size = cur.size /\ (∀ j,j < o -> cur'[j]? = cur[j]?) /\ ∀ j u,vs[j]? = some u -> cur'[o + j]? = some u:=by
 intro vs
 induction vs with
 | nil=>intro o w cur h _;exact ⟨cur,h,rfl,fun _ _=>rfl,by simp⟩
 | cons v vs ih=>?_
 intro o w cur h hs;simp only [List.length_cons] at hs;obtain ⟨cur',h1,h2,h3,h4⟩:=ih (o + 1) (w.setCell ⟨g,o,none⟩ v) (cur.setIfInBounds o v) (ah v h) (by simp;omega);refine ⟨cur',h1,by simpa using h2,fun j hj=>?_,fun j u hu=>?_⟩
 ·rw [h3 j (by omega)];simp [show o ≠ j by omega]
 cases j with
 | zero =>
   simp at hu;subst hu;rw [Nat.add_zero,h3 o (by omega)];simp [Array.getElem?_setIfInBounds];omega
 | succ j=>?_
 have:=h4 j u (by simpa using hu)
 rwa [show o + (j + 1) = o + 1 + j by omega]
theorem ry (g : Nat) : ∀ (vs : List Value) (o : Nat) (w : World),w.grownBy (w.setCells g o vs) (some g):=by
 intro vs
 induction vs with
 | nil=>intro o w;exact ⟨rfl,rfl,rfl,Nat.le_refl _,fun _ _ _=>rfl⟩
 | cons v vs ih=>?_
 intro o w;have h:=ih (o + 1) (w.setCell ⟨g,o,none⟩ v);refine ⟨h.os,h.tape,h.output,by have:=h.size;rw [World.size_setCell] at this;exact this,fun k hk hn=>?_⟩;rw [World.setCells,h.block k (by simpa using hk) hn];exact Below.heap_setCell _ _ _ _ (fun e=>hn (by simp [e]))
theorem bA.lt {w : World} {base : Nat} {v : Value} {xs : List Value} (h : bA w base v xs) : ∀ k,v.ownBlock = some k -> base <= k /\ k < w.heap.size:=by
 intro k hk
 rcases h with ⟨rfl,_⟩ | ⟨g,off,cap,cur,rfl,hb,hg,_⟩
 ·simp [Value.ownBlock] at hk
 simp [Value.ownBlock] at hk;subst hk;exact ⟨hb,lt_of_block hg⟩
theorem bA.block {w : World} {base : Nat} {v : Value} {xs : List Value} (h : bA w base v xs) {k : Nat} (hk : v.ownBlock = some k) : ∃ cur,w.heap[k]? = some (.cells cur 5 (0,0)):=by
 rcases h with ⟨rfl,_⟩ | ⟨g,off,cap,cur,rfl,hb,hg,_⟩
 ·simp [Value.ownBlock] at hk
 simp [Value.ownBlock] at hk;subst hk;exact ⟨cur,hg⟩
theorem bA.ne {w : World} {base : Nat} {v : Value} {xs : List Value} (h : bA w base v xs) {b : Nat} {c : Array Value} {T : TypeId} {f : Nat × Nat} (hb : w.heap[b]? = some (.cells c T f)) (hT : T ≠ 5) : v.ownBlock ≠ some b:=by
 intro hk;obtain ⟨cur,hg⟩:=h.block hk;rw [hg] at hb;simp at hb;exact hT hb.2.1.symm
theorem bA.keep {S : Nat -> Prop} {w w' : World} {base : Nat} {v : Value} {xs : List Value} (h : bA w base v xs) (k : Kp S w w') (hs : ∀ i,v.ownBlock = some i -> ¬ S i) : bA w' base v xs:=by
 rcases h with h | ⟨g,off,cap,cur,rfl,hb,hg,r⟩
 ·exact .inl h
 exact .inr ⟨g,off,cap,cur,rfl,hb,k.at_ hg (hs g rfl),r⟩
theorem bA.alloc {w : World} {base : Nat} {v : Value} {xs : List Value} (h : bA w base v xs) (o : Obj) : bA (w.alloc o) base v xs :=
 h.keep (S:=fun _=>False) ((Kp.refl _ _).alloc _) (fun _ _ x=>x)
theorem bA.ofRow {w : World} {base base' : Nat} {v : Value} {n : Nat} {xs : List Value} (h : w.ownsRow base' 5 1 v n xs) (hb : base <= base') : bA w base v xs:=by
 rcases h.2 with ⟨rfl,rfl⟩ | ⟨g,cap,cur,rfl,hg,hh,hc,_,hcs,ht⟩
 ·exact .inl ⟨rfl,List.eq_nil_of_length_eq_zero (by simpa using h.1)⟩
 have hl : xs.length = n:=by simpa using h.1
 refine .inr ⟨g,0,cap,cur,by rw [hl],by omega,hh,by omega,by omega,fun j u hu=>?_⟩;rw [Nat.zero_add];rw [<- ht,List.getElem?_take] at hu
 split at hu
 ·simpa using hu
 cases hu
theorem bA.len {w : World} {base : Nat} {v : Value} {xs : List Value} (h : bA w base v xs) : ∃ ao cap,v = .slice ao xs.length cap:=by
 rcases h with ⟨rfl,rfl⟩ | ⟨g,off,cap,cur,rfl,_⟩
 ·exact ⟨_,_,rfl⟩
 exact ⟨_,_,rfl⟩
theorem nD (w : World) (ty : TypeId) {base : Nat} {v : Value} {xs : List Value} (h : bA w base v xs) (ad : Addr) (m c : Nat) (news : List Value) (hl : news.length = m) (hm : 0 < m)
 (hnews : ∀ j u,news[j]? = some u -> w.cell? (ad.add j) = some u) (h1 : ∀ u ∈ news,u.oneCell' = true) (hb : xs.length + m <= 140737488355328) (hbase : base <= w.heap.size) :
 ∃ g off cap w',(Builtin.append_ #[47,47] ty #[v,.slice (some ad) m c]).run prog w = .ok (.slice (some ⟨g,off,none⟩) (xs.length + m) cap) w' /\
  bA w' base (.slice (some ⟨g,off,none⟩) (xs.length + m) cap) (xs ++ news) /\ w.grownBy w' v.ownBlock /\ (v.ownBlock = some g \/ w.heap.size <= g):=by
 obtain ⟨i0,hi,hz0,hz1,hz2⟩:=info_parts infoByte
 have h63 : xs.length + m <= maxLen:=by unfold maxLen;omega
 rcases h with ⟨rfl,rfl⟩ | ⟨g,off,cap,cur,rfl,hbg,hg,hnc,hsz,hx⟩
 ·obtain ⟨v',w',hr,ho,hgr,_⟩:=run_append_own (P:=prog) w w.heap.size 47 ty 5 i0 (.int .u8 0) 1 1 underlying47 hi hz0 hz1 hz2 rfl (by decide) (.slice none 0 0) 0 [] (World.ownsRow_nil _ _ _ _) ad m c news (by simpa using hl) hnews h1 (by simpa using h63) (by simpa using hb) (Nat.le_refl _)
  obtain ⟨g,cap,rfl⟩:=ey ho (by omega);refine ⟨g,0,cap,w',by simpa using hr,?_,by simpa [Value.ownBlock] using hgr,.inr (ho.lt g rfl).1⟩;have:=bA.ofRow (base:=base) ho hbase;simpa using this
 by_cases hroom : xs.length + m <= cap
 ·have hr:=run_append_room_cells (P:=prog) w 47 ty 5 i0 underlying47 hi g off xs.length cap ad m c news (by rw [hz1];omega) hnews h1 hroom
   (fun j hj=>by rw [hz1,cell_of_row w g _ cur _ _ hg];simp;omega) (fun j hj=>by simp [World.frozen?,hg])
  rw [hz1,Nat.mul_one] at hr;obtain ⟨cur',c1,c2,c3,c4⟩:=tu g 5 (0,0) news (off + xs.length) w cur hg (by omega);refine ⟨g,off,cap,_,hr,.inr ⟨g,off,cap,cur',by simp [hl],hbg,c1,by simp [hl];omega,by omega,fun j u hu=>?_⟩,ry g _ _ _,.inl rfl⟩
  by_cases hj : j < xs.length
  ·rw [List.getElem?_append_left hj] at hu
   rw [c3 _ (by omega)];exact hx j u hu
  rw [List.getElem?_append_right (by omega)] at hu;have:=c4 _ u hu
  rwa [show off + xs.length + (j - xs.length) = off + j by omega] at this
 obtain ⟨v',w',hr,ho,hgr⟩:=run_append_arg_grows (P:=prog) w 47 ty 5 i0 (.int .u8 0) 1 1 underlying47 hi hz0 hz1 hz2 rfl (by decide) ⟨g,off,none⟩ xs.length cap xs (by simp)
  (fun j u hu=>by
   have hadd : (⟨g,off,none⟩ : Addr).add j = ⟨g,off + j,none⟩:=by unfold Addr.add;split <;> simp_all
   rw [hadd,cell_of_row w g _ cur _ _ hg];exact hx j u hu) ad m c news (by simpa using hl) hnews (by omega) h63 (by omega)
 obtain ⟨g',cap',rfl⟩:=ey ho (by omega);exact ⟨g',0,cap',w',hr,bA.ofRow ho hbase,⟨hgr.os,hgr.tape,hgr.output,hgr.size,fun k hk _=>hgr.block k hk (by simp)⟩,.inr (ho.lt g' rfl).1⟩
theorem eC {ops : Array Oper} {rest : List Oper} {o : Oper} {a : Act} {w : World} {Q : Exit -> Act -> World -> Prop} (hgd : o.guard = none) (s x : Operand)
 (hop : o.op = .call { callee:=.builtin .append,args:=#[s,x],argTypes:=#[47,47] })
 {base : Nat} {v : Value} {xs : List Value} (hs : a.eval s = v) (h : bA w base v xs) (ad : Addr) (m c : Nat) (news : List Value) (hx : a.eval x = .slice (some ad) m c) (hl : news.length = m) (hm : 0 < m)
 (hnews : ∀ j u,news[j]? = some u -> w.cell? (ad.add j) = some u) (h1 : ∀ u ∈ news,u.oneCell' = true) (hb : xs.length + m <= 140737488355328) (hbase : base <= w.heap.size)
 (hK : ∀ g off cap w',bA w' base (.slice (some ⟨g,off,none⟩) (xs.length + m) cap) (xs ++ news) -> w.grownBy w' v.ownBlock -> (v.ownBlock = some g \/ w.heap.size <= g) ->
  wpList prog ops Q rest (a.put o.dst (.slice (some ⟨g,off,none⟩) (xs.length + m) cap)) w') : wpList prog ops Q (o :: rest) a w :=
 wpList_plain hgd fun K hK'=>by
  obtain ⟨g,off,cap,w',hr,r1,r2,r3⟩:=nD w o.type h ad m c news hl hm hnews h1 hb hbase;unfold Oper.wp execOp;simp only [hop,resolve,invoke,builtin,Sem.run_bind,Sem.run_pure,Result.andThen_ok,List.map_toArray,List.map_cons,List.map_nil,hs,hx,hr];exact hK' _ _ (hK g off cap w' r1 r2 r3)
theorem tz {ops : Array Oper} {o : Oper} {a : Act} {w : World} {K : Act -> World -> Prop} {Q : Exit -> Act -> World -> Prop} {E : Prop} (hgd : o.guard = none) (s x : Operand)
 (hop : o.op = .call { callee:=.builtin .append,args:=#[s,x],argTypes:=#[47,47] })
 {base : Nat} {v : Value} {xs : List Value} (hs : a.eval s = v) (h : bA w base v xs) (ad : Addr) (m c : Nat) (news : List Value) (hx : a.eval x = .slice (some ad) m c) (hl : news.length = m) (hm : 0 < m)
 (hnews : ∀ j u,news[j]? = some u -> w.cell? (ad.add j) = some u) (h1 : ∀ u ∈ news,u.oneCell' = true) (hb : xs.length + m <= 140737488355328) (hbase : base <= w.heap.size)
 (hK : ∀ g off cap w',bA w' base (.slice (some ⟨g,off,none⟩) (xs.length + m) cap) (xs ++ news) -> w.grownBy w' v.ownBlock -> (v.ownBlock = some g \/ w.heap.size <= g) ->
  K (a.put o.dst (.slice (some ⟨g,off,none⟩) (xs.length + m) cap)) w') : if Region.wanted o (yielded ops a.tmps) = true then Oper.wp prog o a w K Q else E:=by
 have hw : Region.wanted o (yielded ops a.tmps) = true:=by simp [Region.wanted,hgd]
 rw [if_pos hw];obtain ⟨g,off,cap,w',hr,r1,r2,r3⟩:=nD w o.type h ad m c news hl hm hnews h1 hb hbase;unfold Oper.wp;simp [execOp,hop,resolve,invoke,builtin,hs,hx,hr,Result.andThen];exact hK g off cap w' r1 r2 r3
theorem gK {w : World} {base : Nat} {v : Value} {l : List Int} (h : bA w base v (ax l)) :
 (convert 47 9 v).run prog w = .ok (.string (strOfNums l)) w:=by
 rcases h with ⟨rfl,h0⟩ | ⟨g,off,cap,cur,rfl,hb,hg,hn,hs,hx⟩
 ·have : l = []:=by cases l with | nil=>rfl | cons a l=>simp [ax] at h0
  subst this;exact run_convert_bytes_nil w 47 5 underlying47 underlying5 0 0 9 underlying9
 have hl : (ax l).length = l.length:=by simp [ax]
 rw [hl];refine run_convert_bytes_arg w 47 5 underlying47 underlying5 g off l.length cap l rfl ?_ 9 underlying9;intro i hi;rw [cell_of_row w g _ cur _ _ hg];exact hx i _ (by simp [ax,hi])
theorem fm (w : World) (x : Value) (T : TypeId) : ∀ j u,[x][j]? = some u -> (w.alloc (.cells #[x] T)).cell? ((⟨w.heap.size,0,none⟩ : Addr).add j) = some u:=by
 intro j u hj
 match j,hj with
 | 0,hj=>simp at hj;subst hj;simp [Addr.add]
theorem fp (l : List Int) (a : Int) : ax (l ++ [a]) = ax l ++ [.int .u8 a]:=by simp [ax]
namespace Ch
def dP (ss : List St) (k : Nat) : Int:=match ss[k]? with | some s=>s.name | none=>0
def fM (ss : List St) (s : Sd) (k : Nat) : List Int:=((List.range k).filter fun (j : Nat)=>has s.act (j : Int)).map (dP ss)
def fu (ss : List St) (s : Sd) (k : Nat) : List Int:=((List.range k).filter (dh ss)).map (bx s)
theorem CC (ss : List St) (s : Sd) (k : Nat) : fM ss s (k + 1) = fM ss s k ++ if has s.act (k : Int) then [dP ss k] else []:=by
 unfold fM;rw [List.range_succ,List.filter_append,List.map_append];cases h : has s.act (k : Int) <;> simp_all
theorem CD (ss : List St) (s : Sd) (k : Nat) : fu ss s (k + 1) = fu ss s k ++ if dh ss k then [bx s k] else []:=by
 unfold fu;rw [List.range_succ,List.filter_append,List.map_append];cases h : dh ss k <;> simp_all
theorem xj (ss : List St) (s : Sd) (k : Nat) : (fM ss s k).length <= k:=by
 have:=List.length_filter_le (fun (j : Nat)=>has s.act (j : Int)) (List.range k);simpa [fM] using this
theorem xk (ss : List St) (s : Sd) (k : Nat) : (fu ss s k).length <= k:=by
 have:=List.length_filter_le (dh ss) (List.range k);simpa [fu] using this
def eY (ss : List St) (s : Sd) : ByteArray:=strOfNums (fM ss s (min ss.length 16))
def fJ (ss : List St) (s : Sd) : ByteArray:=strOfNums (fu ss s (min ss.length 16))
end Ch
def Apart (v u : Value) : Prop:=∀ k,v.ownBlock = some k -> u.ownBlock ≠ some k
def qU (w : World) (b : Nat) (v0 v1 v2 v3 v4 v5 : Value) : World :=
 (((((w.setCell ⟨b,0,none⟩ v0).setCell ⟨b,1,none⟩ v1).setCell ⟨b,2,none⟩ v2).setCell ⟨b,3,none⟩ v3).setCell ⟨b,4,none⟩ v4).setCell ⟨b,5,none⟩ v5
theorem uj {w : World} {b : Nat} {c0 c1 c2 c3 c4 c5 : Value} {T : TypeId} (h : w.heap[b]? = some (.cells #[c0,c1,c2,c3,c4,c5] T (0,0))) (v0 v1 v2 v3 v4 v5 : Value) :
 (qU w b v0 v1 v2 v3 v4 v5).heap[b]? = some (.cells #[v0,v1,v2,v3,v4,v5] T (0,0)):=by
 unfold qU;rw [ah _ (ah _ (ah _ (ah _ (ah _ (ah _ h)))))];rfl
theorem Bq (w : World) (b : Nat) (v0 v1 v2 v3 v4 v5 : Value) : Kp (fun k=>k = b) w (qU w b v0 v1 v2 v3 v4 v5) :=
 (((((((Kp.refl _ _).setCell (by intro _;rfl) _).setCell (by intro _;rfl) _).setCell (by intro _;rfl) _).setCell (by intro _;rfl) _).setCell (by intro _;rfl) _).setCell (by intro _;rfl) _)
section
variable (ob oo : Nat) (w : World) (ss : List St) (b o : Nat) (pre : List Value) (s : Sd) (post : List Value) (T : TypeId)
theorem gU (hS : ib w ob oo ss) (hl : ss.length <= 1000) (h : bM w b pre s post T) (hw : s.Wf) (ho : pre.length = o) :
 Calls prog 44 #[.pointer (some ⟨b,o,none⟩),.pointer (some ⟨ob,oo,none⟩)] w fun x w' =>
  x = .returned (.agg #[.string (eY ss s),.string (fJ ss s),.string s.tm,.int .i64 s.x,.int .i64 s.y,.int .i64 s.z]) /\ Kp (fun _=>False) w w':=by
 subst ho;have hS1 : ib (w.alloc (.cells #[.string ⟨#[]⟩,.string ⟨#[]⟩,.string ⟨#[]⟩,.int .i64 0,.int .i64 0,.int .i64 0] 26)) ob oo ss:=hS.alloc _;have hr1 : (w.alloc (.cells #[.string ⟨#[]⟩,.string ⟨#[]⟩,.string ⟨#[]⟩,.int .i64 0,.int .i64 0,.int .i64 0] 26)).heap[w.heap.size]? = some (.cells #[.string ⟨#[]⟩,.string ⟨#[]⟩,.string ⟨#[]⟩,.int .i64 0,.int .i64 0,.int .i64 0] 26):=heap_alloc_new _ _;have K1 : Kp (fun _=>False) w (w.alloc (.cells #[.string ⟨#[]⟩,.string ⟨#[]⟩,.string ⟨#[]⟩,.int .i64 0,.int .i64 0,.int .i64 0] 26)):=(Kp.refl _ _).alloc _;have h1 : bM (w.alloc (.cells #[.string ⟨#[]⟩,.string ⟨#[]⟩,.string ⟨#[]⟩,.int .i64 0,.int .i64 0,.int .i64 0] 26)) b pre s post T:=h.keep K1 (fun x=>x);clear hS h
 go_enter func44,ntmps44
 go_wp2_with fail
 generalize w.alloc (.cells #[.string ⟨#[]⟩,.string ⟨#[]⟩,.string ⟨#[]⟩,.int .i64 0,.int .i64 0,.int .i64 0] 26) = w1 at hS1 hr1 K1 h1 ⊢;have hsz1 : w.heap.size < w1.heap.size:=lt_of_block hr1
 go_loopw [5,6,7] (fun av pv i wr=>∃ k : Nat,i = .int .i64 k /\ k <= 16 /\ k <= ss.length /\ bA wr w1.heap.size av (ax (fM ss s k)) /\ bA wr w1.heap.size pv (ax (fu ss s k)) /\ Apart av pv /\ Kp (fun _=>False) w1 wr) (fun _ _ i _=>16 - (intOf i).toNat)
 case atStart=>exact ⟨0,rfl,Nat.zero_le _,Nat.zero_le _,.inl ⟨rfl,by simp [fM,ax]⟩,.inl ⟨rfl,by simp [fu,ax]⟩,by intro k hk;simp [Value.ownBlock] at hk,Kp.refl _ _⟩
 case round =>
  obtain ⟨k,rfl,zE,hkn,qa,qp,hap,KW⟩:=hrel;have hSr : ib wr ob oo ss:=hS1.keep KW (fun x=>x) (fun _ _ _ x=>x);have hr : wr.heap[w.heap.size]? = some (.cells #[.string ⟨#[]⟩,.string ⟨#[]⟩,.string ⟨#[]⟩,.int .i64 0,.int .i64 0,.int .i64 0] 26):=KW.at_ hr1 (fun x=>x);have hd : bM wr b pre s post T:=h1.keep KW (fun x=>x);have la:=xj ss s k;have lp:=xk ss s k
  by_cases hgo : k < ss.length /\ k < 16
  ·obtain ⟨hlt,h16⟩:=hgo
   obtain ⟨st,hs⟩ : ∃ s,ss[k]? = some s:=⟨_,List.getElem?_eq_getElem hlt⟩
   have hlt' : (k : Int) < (ss.length : Int):=by omega
   have vo : (k : Int) < 16:=by omega
   have sa:=CC ss s k;have sp:=CD ss s k
   have hnm : dP ss k = st.name:=by simp [dP,hs]
   have hhi : dh ss k = (st.kind == 5):=by simp [dh,hs]
   obtain ⟨g,cap,c2,a0,a1,a2,a3⟩:=hSr.at_ hs;have E1:=hid (fk wr b pre.length pre s.act (bg s ++ post) T k hd hw.1 rfl)
   cases qh : Ch.has s.act (k : Int) with
   | true =>
     rw [qh] at E1;have HA:=hid (show fM ss s (k + 1) = fM ss s k ++ [st.name] by rw [sa,qh];simp [hnm])
     cases qk : st.kind == 5 with
     | true =>
       have HP:=hid (show fu ss s (k + 1) = fu ss s k ++ [bx s k] by rw [sp,hhi,qk];simp);clear sa sp hnm hhi
       go_wp2_with fail
       refine hm E1 ?_;rintro xx w2 ⟨rfl,e2⟩;rw [e2];clear e2 E1
       go_wp2_with (at_builtin;refine eC rfl (.tmp 26) (.tmp 35) rfl rfl (qa.alloc _) ⟨wr.heap.size,0,none⟩ 1 1 [.int .u8 st.name] rfl rfl (by decide) (by exact fm _ _ _) (by intro u hu;simp at hu;subst hu;rfl) (by simp [ax];omega) (by have:=KW.size;simp;omega) ?_)
       intro ga oa ca w3 L3 g3 hb3;have KG : Kp (fun i=>u5.ownBlock = some i) wr w3:=((Kp.refl _ _).alloc _).grown g3 (fun i hi _=>hi);have JA : Kp (fun _=>False) w1 w3:=KW.trans' KG (fun i hi x=>by have:=(qa.lt i x).1;omega);have OV:=qp.keep KG (fun i hi x=>hap i x hi)
       have Il : Apart (.slice (some ⟨ga,oa,none⟩) ((ax (fM ss s k)).length + 1) ca) u6:=by
        intro i hi x;simp [Value.ownBlock] at hi;subst hi
        rcases hb3 with hb3 | hb3
        ·exact hap _ hb3 x
        have:=(qp.lt _ x).2;try simp at hb3
        omega
       have Eu : ib w3 ob oo ss:=hS1.keep JA (fun x=>x) (fun _ _ _ x=>x);have hd3 : bM w3 b pre s post T:=h1.keep JA (fun x=>x);rw [<- fp] at L3;obtain ⟨g',cap',c2',a0',a1',TV,a3'⟩:=Eu.at_ hs;clear KG g3 hb3 qa qp hap KW hSr hd c2 a0 a1 a2 a3 hr;have PY : w3.cell? ⟨b,pre.length + 16 + k,none⟩ = some (.int .u8 (bx s k)):=hd3.past hw h16;clear hd3 Eu
       go_wp2_with (at_builtin;refine eC rfl (.tmp 46) (.tmp 53) rfl rfl (OV.alloc _) ⟨w3.heap.size,0,none⟩ 1 1 [.int .u8 (bx s k)] rfl rfl (by decide) (by exact fm _ _ _) (by intro u hu;simp at hu;subst hu;rfl) (by simp [ax];omega) (by have:=JA.size;simp;omega) ?_)
       intro gp op cp w4 MG g4 hb4;have KG : Kp (fun i=>u6.ownBlock = some i) w3 w4:=((Kp.refl _ _).alloc _).grown g4 (fun i hi _=>hi);have vD : Kp (fun _=>False) w1 w4:=JA.trans' KG (fun i hi x=>by have:=(OV.lt i x).1;omega);have PZ:=L3.keep KG (fun i hi x=>Il i hi x)
       have Kq : Apart (.slice (some ⟨ga,oa,none⟩) ((ax (fM ss s k)).length + 1) ca) (.slice (some ⟨gp,op,none⟩) ((ax (fu ss s k)).length + 1) cp):=by
        intro i hi x;simp [Value.ownBlock] at x;subst x
        rcases hb4 with hb4 | hb4
        ·exact Il _ hi hb4
        have:=(L3.lt _ hi).2;try simp at hb4
        omega
       rw [<- fp] at MG;clear KG g4 hb4;go_wp2
       go_roundw
       case rel=>exact ⟨k + 1,by go_num,by omega,by omega,by rw [HA.out];simpa [ax] using PZ,by rw [HP.out];simpa [ax] using MG,Kq,vD⟩
       case measure=>simp [intOf];omega
     | false=>?_
     have HP:=hid (show fu ss s (k + 1) = fu ss s k by rw [sp,hhi,qk];simp);clear sa sp hnm hhi
     go_wp2_with fail
     refine hm E1 ?_;rintro xx w2 ⟨rfl,e2⟩;rw [e2];clear e2 E1
     go_wp2_with (at_builtin;refine eC rfl (.tmp 26) (.tmp 35) rfl rfl (qa.alloc _) ⟨wr.heap.size,0,none⟩ 1 1 [.int .u8 st.name] rfl rfl (by decide) (by exact fm _ _ _) (by intro u hu;simp at hu;subst hu;rfl) (by simp [ax];omega) (by have:=KW.size;simp;omega) ?_)
     intro ga oa ca w3 L3 g3 hb3;have KG : Kp (fun i=>u5.ownBlock = some i) wr w3:=((Kp.refl _ _).alloc _).grown g3 (fun i hi _=>hi);have JA : Kp (fun _=>False) w1 w3:=KW.trans' KG (fun i hi x=>by have:=(qa.lt i x).1;omega);have OV:=qp.keep KG (fun i hi x=>hap i x hi)
     have Il : Apart (.slice (some ⟨ga,oa,none⟩) ((ax (fM ss s k)).length + 1) ca) u6:=by
      intro i hi x;simp [Value.ownBlock] at hi;subst hi
      rcases hb3 with hb3 | hb3
      ·exact hap _ hb3 x
      have:=(qp.lt _ x).2;try simp at hb3
      omega
     have Eu : ib w3 ob oo ss:=hS1.keep JA (fun x=>x) (fun _ _ _ x=>x);have hd3 : bM w3 b pre s post T:=h1.keep JA (fun x=>x);rw [<- fp] at L3;obtain ⟨g',cap',c2',a0',a1',TV,a3'⟩:=Eu.at_ hs;clear KG g3 hb3 qa qp hap KW hSr hd c2 a0 a1 a2 a3 hr;clear hd3 Eu;go_wp2
     go_roundw
     case rel=>exact ⟨k + 1,by go_num,by omega,by omega,by rw [HA.out];simpa [ax] using L3,by rw [HP.out];exact OV,Il,JA⟩
     case measure=>simp [intOf];omega
   | false=>?_
   rw [qh] at E1;have HA:=hid (show fM ss s (k + 1) = fM ss s k by rw [sa,qh];simp)
   cases qk : st.kind == 5 with
   | true =>
     have HP:=hid (show fu ss s (k + 1) = fu ss s k ++ [bx s k] by rw [sp,hhi,qk];simp);clear sa sp hnm hhi
     go_wp2_with fail
     refine hm E1 ?_;rintro xx w2 ⟨rfl,e2⟩;rw [e2];clear e2 E1;have PY : wr.cell? ⟨b,pre.length + 16 + k,none⟩ = some (.int .u8 (bx s k)):=hd.past hw h16;clear hd hSr
     go_wp2_with (at_builtin;refine eC rfl (.tmp 46) (.tmp 53) rfl rfl (qp.alloc _) ⟨wr.heap.size,0,none⟩ 1 1 [.int .u8 (bx s k)] rfl rfl (by decide) (by exact fm _ _ _) (by intro u hu;simp at hu;subst hu;rfl) (by simp [ax];omega) (by have:=KW.size;simp;omega) ?_)
     intro gp op cp w4 MG g4 hb4;have KG : Kp (fun i=>u6.ownBlock = some i) wr w4:=((Kp.refl _ _).alloc _).grown g4 (fun i hi _=>hi);have vD : Kp (fun _=>False) w1 w4:=KW.trans' KG (fun i hi x=>by have:=(qp.lt i x).1;omega);have PZ:=qa.keep KG (fun i hi x=>hap i hi x)
     have Kq : Apart u5 (.slice (some ⟨gp,op,none⟩) ((ax (fu ss s k)).length + 1) cp):=by
      intro i hi x;simp [Value.ownBlock] at x;subst x
      rcases hb4 with hb4 | hb4
      ·exact hap _ hi hb4
      have:=(qa.lt _ hi).2;try simp at hb4
      omega
     rw [<- fp] at MG;clear KG g4 hb4;go_wp2
     go_roundw
     case rel=>exact ⟨k + 1,by go_num,by omega,by omega,by rw [HA.out];exact PZ,by rw [HP.out];simpa [ax] using MG,Kq,vD⟩
     case measure=>simp [intOf];omega
   | false=>?_
   have HP:=hid (show fu ss s (k + 1) = fu ss s k by rw [sp,hhi,qk];simp);clear sa sp hnm hhi
   go_wp2_with fail
   refine hm E1 ?_;rintro xx w2 ⟨rfl,e2⟩;rw [e2];clear e2 E1;clear hd hSr;go_wp2
   go_roundw
   case rel=>exact ⟨k + 1,by go_num,by omega,by omega,by rw [HA.out];exact qa,by rw [HP.out];exact qp,hap,KW⟩
   case measure=>simp [intOf];omega
  have hmin : k = min ss.length 16:=by omega
  have TW:=gK qa;have MH:=gK qp;have TX : (convert 47 9 u5).run prog wr.drew = .ok (.string (strOfNums (fM ss s k))) wr.drew:=gK (w:=wr.drew) (base:=w1.heap.size) (by exact qa);have TY : (convert 47 9 u6).run prog wr.drew = .ok (.string (strOfNums (fu ss s k))) wr.drew:=gK (w:=wr.drew) (base:=w1.heap.size) (by exact qp);have t1:=hd.tm hw;have t2:=hd.cx hw;have t3:=hd.cy hw;have t4:=hd.cz hw;obtain ⟨ao,cap,c2⟩:=hSr.len
  have r0 : wr.cell? ⟨w.heap.size,0,none⟩ = some (.string ⟨#[]⟩):=by simp [World.cell?,hr]
  have r1 : wr.cell? ⟨w.heap.size,1,none⟩ = some (.string ⟨#[]⟩):=by simp [World.cell?,hr]
  have r2 : wr.cell? ⟨w.heap.size,2,none⟩ = some (.string ⟨#[]⟩):=by simp [World.cell?,hr]
  have r3 : wr.cell? ⟨w.heap.size,3,none⟩ = some (.int .i64 0):=by simp [World.cell?,hr]
  have r4 : wr.cell? ⟨w.heap.size,4,none⟩ = some (.int .i64 0):=by simp [World.cell?,hr]
  have r5 : wr.cell? ⟨w.heap.size,5,none⟩ = some (.int .i64 0):=by simp [World.cell?,hr]
  have fr : ∀ i,wr.frozen? ⟨w.heap.size,i,none⟩ = false:=by intro i;simp [World.frozen?,hr]
  have HX:=hid (ae hr (ae (K1.trans KW) hmin));clear qa qp hap KW hSr hd hr hmin
  by_cases hlt : k < ss.length
  ·have x1 : (k : Int) < (ss.length : Int):=by omega
   have x2 : decide ((k : Int) < 16) = false:=by simp;omega
   clear hgo
   go_upto_region 9 with (fail)
   go_region
   go_wp2;obtain ⟨hr,KW,hmin⟩:=HX.out
   have eA : eY ss s = strOfNums (fM ss s k):=by rw [hmin];rfl
   have eP : fJ ss s = strOfNums (fu ss s k):=by rw [hmin];rfl
   rw [eA,eP];have HH:=uj hr (.string (strOfNums (fM ss s k))) (.string (strOfNums (fu ss s k))) (.string s.tm) (.int .i64 s.x) (.int .i64 s.y) (.int .i64 s.z);have KX:=Bq wr w.heap.size (.string (strOfNums (fM ss s k))) (.string (strOfNums (fu ss s k))) (.string s.tm) (.int .i64 s.x) (.int .i64 s.y) (.int .i64 s.z)
   change bodyPost _ _ _ _ _ (qU wr w.heap.size (.string (strOfNums (fM ss s k))) (.string (strOfNums (fu ss s k))) (.string s.tm) (.int .i64 s.x) (.int .i64 s.y) (.int .i64 s.z)).drew
   generalize qU wr w.heap.size (.string (strOfNums (fM ss s k))) (.string (strOfNums (fu ss s k))) (.string s.tm) (.int .i64 s.x) (.int .i64 s.y) (.int .i64 s.z) = w9 at HH KX ⊢
   have z0 : w9.drew.cell? ⟨w.heap.size,0,none⟩ = some (.string (strOfNums (fM ss s k))):=show w9.cell? _ = _ by simp [World.cell?,HH]
   have z1 : w9.drew.cell? ⟨w.heap.size,1,none⟩ = some (.string (strOfNums (fu ss s k))):=show w9.cell? _ = _ by simp [World.cell?,HH]
   have z2 : w9.drew.cell? ⟨w.heap.size,2,none⟩ = some (.string s.tm):=show w9.cell? _ = _ by simp [World.cell?,HH]
   have z3 : w9.drew.cell? ⟨w.heap.size,3,none⟩ = some (.int .i64 s.x):=show w9.cell? _ = _ by simp [World.cell?,HH]
   have z4 : w9.drew.cell? ⟨w.heap.size,4,none⟩ = some (.int .i64 s.y):=show w9.cell? _ = _ by simp [World.cell?,HH]
   have z5 : w9.drew.cell? ⟨w.heap.size,5,none⟩ = some (.int .i64 s.z):=show w9.cell? _ = _ by simp [World.cell?,HH]
   refine bodyPost_ret (v:=.agg #[.string (strOfNums (fM ss s k)),.string (strOfNums (fu ss s k)),.string s.tm,.int .i64 s.x,.int .i64 s.y,.int .i64 s.z]) (by simp [results,Tryz.results44,go_sem,z0,z1,z2,z3,z4,z5]) rfl ?_;exact ⟨rfl,(KW.trans' KX (fun i hi x=>by omega)).drew⟩
  have x1 : decide ((k : Int) < (ss.length : Int)) = false:=by simp;omega
  clear hgo
  go_upto_region 9 with (fail)
  go_region
  go_wp2;obtain ⟨hr,KW,hmin⟩:=HX.out
  have eA : eY ss s = strOfNums (fM ss s k):=by rw [hmin];rfl
  have eP : fJ ss s = strOfNums (fu ss s k):=by rw [hmin];rfl
  rw [eA,eP];have HH:=uj hr (.string (strOfNums (fM ss s k))) (.string (strOfNums (fu ss s k))) (.string s.tm) (.int .i64 s.x) (.int .i64 s.y) (.int .i64 s.z);have KX:=Bq wr w.heap.size (.string (strOfNums (fM ss s k))) (.string (strOfNums (fu ss s k))) (.string s.tm) (.int .i64 s.x) (.int .i64 s.y) (.int .i64 s.z)
  change bodyPost _ _ _ _ _ (qU wr w.heap.size (.string (strOfNums (fM ss s k))) (.string (strOfNums (fu ss s k))) (.string s.tm) (.int .i64 s.x) (.int .i64 s.y) (.int .i64 s.z)).drew
  generalize qU wr w.heap.size (.string (strOfNums (fM ss s k))) (.string (strOfNums (fu ss s k))) (.string s.tm) (.int .i64 s.x) (.int .i64 s.y) (.int .i64 s.z) = w9 at HH KX ⊢
  have z0 : w9.drew.cell? ⟨w.heap.size,0,none⟩ = some (.string (strOfNums (fM ss s k))):=show w9.cell? _ = _ by simp [World.cell?,HH]
  have z1 : w9.drew.cell? ⟨w.heap.size,1,none⟩ = some (.string (strOfNums (fu ss s k))):=show w9.cell? _ = _ by simp [World.cell?,HH]
  have z2 : w9.drew.cell? ⟨w.heap.size,2,none⟩ = some (.string s.tm):=show w9.cell? _ = _ by simp [World.cell?,HH]
  have z3 : w9.drew.cell? ⟨w.heap.size,3,none⟩ = some (.int .i64 s.x):=show w9.cell? _ = _ by simp [World.cell?,HH]
  have z4 : w9.drew.cell? ⟨w.heap.size,4,none⟩ = some (.int .i64 s.y):=show w9.cell? _ = _ by simp [World.cell?,HH]
  have z5 : w9.drew.cell? ⟨w.heap.size,5,none⟩ = some (.int .i64 s.z):=show w9.cell? _ = _ by simp [World.cell?,HH]
  refine bodyPost_ret (v:=.agg #[.string (strOfNums (fM ss s k)),.string (strOfNums (fu ss s k)),.string s.tm,.int .i64 s.x,.int .i64 s.y,.int .i64 s.z]) (by simp [results,Tryz.results44,go_sem,z0,z1,z2,z3,z4,z5]) rfl ?_;exact ⟨rfl,(KW.trans' KX (fun i hi x=>by omega)).drew⟩
end
namespace Ch
def oM (ss : List St) (act left : List Bool) (k : Nat) : Bool:=dh ss k && has left (aq ss k) && (jh ss act (aq ss k) != -2)
def k8 (ss : List St) (act left : List Bool) : Nat -> Nat -> List Int -> List Int
 | 0,_,p=>p
 | f + 1,k,p=>k8 ss act left f (k + 1) (if oM ss act left k then p.set k (dP ss (jh ss act (aq ss k)).toNat) else p)
def rem (ss : List St) (s : Sd) (left : List Bool) : Sd:={ s with past:=k8 ss s.act left (min ss.length 16) 0 s.past }
theorem rz (ss : List St) (act left : List Bool) : ∀ (f k : Nat) (p : List Int),(k8 ss act left f k p).length = p.length:=by
 intro f
 induction f with
 | zero=>intro k p;rfl
 | succ f ih=>intro k p;simp only [k8];rw [ih];split <;> simp
theorem Kr {ss : List St} {s : Sd} (left : List Bool) (h : s.Wf) : (rem ss s left).Wf:=⟨h.1,by simp [rem,rz,h.2]⟩
theorem CE (ss : List St) (l : List Bool) (parent : Int) : ∀ (f k : Nat),gj ss l parent f k ≠ -2 -> ∃ j : Nat,gj ss l parent f k = j /\ j < k + f:=by
 intro f
 induction f with
 | zero=>intro k h;exact absurd rfl h
 | succ f ih=>?_
 intro k h;simp only [gj] at h ⊢
 split
 ·exact ⟨k,rfl,by omega⟩
 rename_i q;rw [if_neg q] at h;obtain ⟨j,e,hj⟩:=ih (k + 1) h;exact ⟨j,e,by omega⟩
theorem Ev {ss : List St} {l : List Bool} {parent : Int} (h : (jh ss l parent != -2) = true) : ∃ j : Nat,jh ss l parent = j /\ j < ss.length:=by
 obtain ⟨j,e,hj⟩:=CE ss l parent ss.length 0 (by simpa [jh] using h);exact ⟨j,e,by omega⟩
end Ch
section
variable (ob oo : Nat) (w : World) (ss : List St) (b o : Nat) (pre : List Value) (s : Sd) (post : List Value) (T : TypeId) (lb lo : Nat) (pre' : List Value) (l : List Bool) (post' : List Value) (T' : TypeId)
theorem vE (hS : ib w ob oo ss) (hl : ss.length <= 1000) (h : bM w b pre s post T) (hw : s.Wf) (ho : pre.length = o) (hL : fj w lb pre' l post' T') (h16 : l.length = 16) (hlo : pre'.length = lo) (hne : lb ≠ b) (Eo : ob ≠ b) (hT : T ≠ 155) :
 Calls prog 132 #[.pointer (some ⟨b,o,none⟩),.pointer (some ⟨ob,oo,none⟩),.pointer (some ⟨lb,lo,none⟩)] w fun x w'=>x = .returned (.tuple #[]) /\ bM w' b pre (Ch.rem ss s l) post T /\ Kp (fun k=>k = b) w w':=by
 subst ho
 have hnb : ∀ i cur,w.heap[i]? = some (.cells cur 155 (0,0)) -> i ≠ b:=by
  intro i cur hi e;subst e;unfold bM fj at h;rw [h] at hi;simp at hi;exact hT hi.2
 go_enter func132,ntmps132
 go_wp2_with fail
 go_loopw [6] (fun i wr=>∃ (k : Nat) (p : List Int),i = .int .i64 k /\ k <= 16 /\ k <= ss.length /\ p.length = 16 /\ Hid (k8 ss s.act l (min ss.length 16) 0 s.past = k8 ss s.act l (min ss.length 16 - k) k p) /\ bM wr b pre { s with past:=p } post T /\ Kp (fun k=>k = b) w wr) (fun i _=>16 - (intOf i).toNat)
 case atStart=>exact ⟨0,s.past,rfl,Nat.zero_le _,Nat.zero_le _,hw.2,hid rfl,h,Kp.refl _ _⟩
 case round =>
  obtain ⟨k,p,rfl,zE,hkn,hp,HE,hd,KW⟩:=hrel
  have hwp : Sd.Wf { s with past:=p }:=⟨hw.1,hp⟩
  have hSr : ib wr ob oo ss:=hS.keep KW Eo hnb;have xm : fj wr lb pre' l post' T':=hL.keep KW hne
  by_cases hgo : k < ss.length /\ k < 16
  ·obtain ⟨hlt,vo⟩:=hgo
   obtain ⟨st,hs⟩ : ∃ s,ss[k]? = some s:=⟨_,List.getElem?_eq_getElem hlt⟩
   have hlt' : (k : Int) < (ss.length : Int):=by omega
   have R_ : (k : Int) < 16:=by omega
   have ef : min ss.length 16 - k = (min ss.length 16 - (k + 1)) + 1:=by omega
   have y8 : aq ss k = st.parent:=by simp [aq,ch,hs]
   have hhi : dh ss k = (st.kind == 5):=by simp [dh,hs]
   have hP : oM ss s.act l k = ((st.kind == 5) && Ch.has l st.parent && (jh ss s.act st.parent != -2)):=by simp [oM,y8,hhi]
   obtain ⟨g,cap,c2,a0,a1,a2,a3⟩:=hSr.at_ hs;have E1:=hid (fk wr lb lo pre' l post' T' st.parent xm h16 hlo);have E2:=hid (pY ob oo wr ss b pre.length pre post T { s with past:=p } st.parent hSr hl hd hwp rfl)
   have step : oM ss s.act l k = false -> k8 ss s.act l (min ss.length 16) 0 s.past = k8 ss s.act l (min ss.length 16 - (k + 1)) (k + 1) p:=fun q=>by
    rw [HE.out,ef];simp only [k8];rw [q];rfl
   cases q1 : st.kind == 5 with
   | false =>
     have HF:=hid (step (by rw [hP,q1];rfl))
     have q1' : (st.kind != 5) = true:=by simp [bne,q1]
     clear step hP y8 hhi ef HE hs hS hSr h hL xm E1 E2
     go_wp2_with fail
     go_roundw
     case rel=>exact ⟨k + 1,p,by go_num,by omega,by omega,hp,HF,hd,KW⟩
     case measure=>simp [intOf];omega
   | true=>?_
   have q1' : (st.kind != 5) = false:=by simp [bne,q1]
   cases q2 : Ch.has l st.parent with
   | false =>
     rw [q2] at E1;have HF:=hid (step (by rw [hP,q1,q2];rfl));clear step hP y8 hhi ef HE hs hS hSr h hL xm E2
     go_wp2_with fail
     refine hm E1 ?_;rintro x w1 ⟨rfl,rfl⟩
     go_wp2_with fail
     go_roundw
     case rel=>exact ⟨k + 1,p,by go_num,by omega,by omega,hp,HF,hd,KW⟩
     case measure=>simp [intOf];omega
   | true=>?_
   rw [q2] at E1
   cases q3 : jh ss s.act st.parent != -2 with
   | false =>
     have HF:=hid (step (by rw [hP,q1,q2,q3];rfl));clear step hP y8 hhi ef HE hs hS hSr h hL xm
     go_wp2_with fail
     refine hm E1 ?_;rintro x w1 ⟨rfl,rfl⟩
     go_wp2_with fail
     refine hm E2 ?_;rintro x w1 ⟨rfl,rfl⟩
     go_wp2_with fail
     go_roundw
     case rel=>exact ⟨k + 1,p,by go_num,by omega,by omega,hp,HF,hd,KW⟩
     case measure=>simp [intOf];omega
   | true=>?_
   obtain ⟨j,ej,hj⟩:=Ev q3
   obtain ⟨sj,hsj⟩ : ∃ s,ss[j]? = some s:=⟨_,List.getElem?_eq_getElem hj⟩
   have hjl : (j : Int) < (ss.length : Int):=by omega
   have HF:=hid (show k8 ss s.act l (min ss.length 16) 0 s.past = k8 ss s.act l (min ss.length 16 - (k + 1)) (k + 1) (p.set k sj.name) by
    rw [HE.out,ef];simp only [k8];rw [if_pos (by rw [hP,q1,q2,q3];rfl),y8,ej];simp [dP,hsj])
   have hset:=hd.Ic hwp vo sj.name;obtain ⟨g',cap',c2',b0,b1,b2,b3⟩:=hSr.at_ hsj;have fr:=hd.free (pre.length + 16 + k);have cp:=hd.past hwp vo;rw [c2] at c2';simp only [Option.some.injEq,Value.slice.injEq,true_and] at c2';have eg:=c2'.1;simp only [Addr.mk.injEq,and_true] at eg;subst eg;have HS:=hid hset
   have q3' : ((j : Int) != -2) = true:=by rw [ej] at q3;exact q3
   simp only [ej] at E2;have hix:=oL wr b (pre.length + 16) k vo;clear step hP y8 hhi ef HE hs hS hSr h hL xm hset hsj hd q3
   go_wp2_with fail
   refine hm E1 ?_;rintro x w1 ⟨rfl,rfl⟩
   go_wp2_with fail
   refine hm E2 ?_;rintro x w1 ⟨rfl,rfl⟩
   go_wp2_with fail
   go_region
   go_wp2
   go_roundw
   case rel=>exact ⟨k + 1,p.set k sj.name,by go_num,by omega,by omega,by simpa using hp,HF,HS.out,(show Kp (fun k=>k = b) w (w1.setCell ⟨b,pre.length + 16 + k,none⟩ (.int .u8 sj.name)) from KW.setCell (by intro _;rfl) _).drew⟩
   case measure=>simp [intOf];omega
  have HF:=hid (HE.out.trans (show _ = p by rw [show min ss.length 16 - k = 0 by omega];rfl));obtain ⟨ao,cap,c2⟩:=hSr.len;clear HE hS h hL xm hSr
  by_cases hlt : k < ss.length
  ·have x1 : (k : Int) < (ss.length : Int):=by omega
   have x2 : decide ((k : Int) < 16) = false:=by simp;omega
   clear hgo
   go_wp2_with fail
   go_end0
   exact ⟨rfl,by unfold Ch.rem;rw [HF.out];exact hd,KW⟩
  have x1 : decide ((k : Int) < (ss.length : Int)) = false:=by simp;omega
  clear hgo
  go_wp2_with fail
  go_end0
  exact ⟨rfl,by unfold Ch.rem;rw [HF.out];exact hd,KW⟩
end
end Go.Proofs.YtnlbchmfcebeeaaGreat
