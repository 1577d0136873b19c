import Derived.Test.YtnlbchmfcebeeaaGreatTB4
set_option maxHeartbeats 12800000
set_option maxRecDepth 100000
namespace Go.Proofs.YtnlbchmfcebeeaaGreat
open Go.RowKit
def OwnsQ (w : World) (base : Nat) (v : Value) (xs : List Value) : Prop :=
 (v = .slice none 0 0 ∧ xs = []) ∨
 ∃ g off cap cur,v = .slice (some ⟨g,off,none⟩) xs.length cap ∧ base ≤ g ∧ w.heap[g]? = some (.cells cur 5 (0,0)) ∧ xs.length ≤ cap ∧ off + cap ≤ cur.size ∧ ∀ j u,xs[j]? = some u → cur[off + j]? = some u
theorem setCells_heap (g : Nat) (T : TypeId) (f : Nat × Nat) : ∀ (vs : List Value) (o : Nat) (w : World) (cur : Array Value),w.heap[g]? = some (.cells cur T f) → o + vs.length ≤ cur.size →
 ∃ cur',(w.setCells g o vs).heap[g]? = some (.cells cur' T f) ∧ cur'.size = cur.size ∧ (∀ j,j < o → cur'[j]? = cur[j]?) ∧ ∀ j u,vs[j]? = some u → cur'[o + j]? = some u:=by
 intro vs
 induction vs with
 | nil=>intro o w cur h _;exact ⟨cur,h,rfl,fun _ _=>rfl,by simp⟩
 | cons v vs ih=>?_
 intro o w cur h hs;simp only [List.length_cons] at hs;obtain ⟨cur',h1,h2,h3,h4⟩:=ih (o + 1) (w.setCell ⟨g,o,none⟩ v) (cur.setIfInBounds o v) (heap_set_same v h) (by simp;omega);refine ⟨cur',h1,by simpa using h2,fun j hj=>?_,fun j u hu=>?_⟩
 ·rw [h3 j (by omega)];simp [show o ≠ j by omega]
 cases j with
 | zero =>
   simp at hu;subst hu;rw [Nat.add_zero,h3 o (by omega)];simp [Array.getElem?_setIfInBounds];omega
 | succ j=>?_
 have:=h4 j u (by simpa using hu)
 rwa [show o + (j + 1) = o + 1 + j by omega]
theorem setCells_grown (g : Nat) : ∀ (vs : List Value) (o : Nat) (w : World),w.grownBy (w.setCells g o vs) (some g):=by
 intro vs
 induction vs with
 | nil=>intro o w;exact ⟨rfl,rfl,rfl,Nat.le_refl _,fun _ _ _=>rfl⟩
 | cons v vs ih=>?_
 intro o w;have h:=ih (o + 1) (w.setCell ⟨g,o,none⟩ v);refine ⟨h.os,h.tape,h.output,by have:=h.size;rw [World.size_setCell] at this;exact this,fun k hk hn=>?_⟩;rw [World.setCells,h.block k (by simpa using hk) hn];exact Below.heap_setCell _ _ _ _ (fun e=>hn (by simp [e]))
theorem OwnsQ.lt {w : World} {base : Nat} {v : Value} {xs : List Value} (h : OwnsQ w base v xs) : ∀ k,v.ownBlock = some k → base ≤ k ∧ k < w.heap.size:=by
 intro k hk
 rcases h with ⟨rfl,_⟩ | ⟨g,off,cap,cur,rfl,hb,hg,_⟩
 ·simp [Value.ownBlock] at hk
 simp [Value.ownBlock] at hk;subst hk;exact ⟨hb,lt_of_block hg⟩
theorem OwnsQ.block {w : World} {base : Nat} {v : Value} {xs : List Value} (h : OwnsQ w base v xs) {k : Nat} (hk : v.ownBlock = some k) : ∃ cur,w.heap[k]? = some (.cells cur 5 (0,0)):=by
 rcases h with ⟨rfl,_⟩ | ⟨g,off,cap,cur,rfl,hb,hg,_⟩
 ·simp [Value.ownBlock] at hk
 simp [Value.ownBlock] at hk;subst hk;exact ⟨cur,hg⟩
theorem OwnsQ.ne {w : World} {base : Nat} {v : Value} {xs : List Value} (h : OwnsQ w base v xs) {b : Nat} {c : Array Value} {T : TypeId} {f : Nat × Nat} (hb : w.heap[b]? = some (.cells c T f)) (hT : T ≠ 5) : v.ownBlock ≠ some b:=by
 intro hk;obtain ⟨cur,hg⟩:=h.block hk;rw [hg] at hb;simp at hb;exact hT hb.2.1.symm
theorem OwnsQ.keep {S : Nat → Prop} {w w' : World} {base : Nat} {v : Value} {xs : List Value} (h : OwnsQ w base v xs) (k : Kp S w w') (hs : ∀ i,v.ownBlock = some i → ¬ S i) : OwnsQ w' base v xs:=by
 rcases h with h | ⟨g,off,cap,cur,rfl,hb,hg,r⟩
 ·exact .inl h
 exact .inr ⟨g,off,cap,cur,rfl,hb,k.at_ hg (hs g rfl),r⟩
theorem OwnsQ.alloc {w : World} {base : Nat} {v : Value} {xs : List Value} (h : OwnsQ w base v xs) (o : Obj) : OwnsQ (w.alloc o) base v xs :=
 h.keep (S:=fun _=>False) ((Kp.refl _ _).alloc _) (fun _ _ x=>x)
theorem OwnsQ.ofRow {w : World} {base base' : Nat} {v : Value} {n : Nat} {xs : List Value} (h : w.ownsRow base' 5 1 v n xs) (hb : base ≤ base') : OwnsQ w base v xs:=by
 rcases h.2 with ⟨rfl,rfl⟩ | ⟨g,cap,cur,rfl,hg,hh,hc,_,hcs,ht⟩
 ·exact .inl ⟨rfl,List.eq_nil_of_length_eq_zero (by simpa using h.1)⟩
 have hl : xs.length = n:=by simpa using h.1
 refine .inr ⟨g,0,cap,cur,by rw [hl],by omega,hh,by omega,by omega,fun j u hu=>?_⟩;rw [Nat.zero_add];rw [← ht,List.getElem?_take] at hu
 split at hu
 ·simpa using hu
 cases hu
theorem OwnsQ.len {w : World} {base : Nat} {v : Value} {xs : List Value} (h : OwnsQ w base v xs) : ∃ ao cap,v = .slice ao xs.length cap:=by
 rcases h with ⟨rfl,rfl⟩ | ⟨g,off,cap,cur,rfl,_⟩
 ·exact ⟨_,_,rfl⟩
 exact ⟨_,_,rfl⟩
theorem run_append_q (w : World) (ty : TypeId) {base : Nat} {v : Value} {xs : List Value} (h : OwnsQ w base v xs) (ad : Addr) (m c : Nat) (news : List Value) (hl : news.length = m) (hm : 0 < m)
 (hnews : ∀ j u,news[j]? = some u → w.cell? (ad.add j) = some u) (h1 : ∀ u ∈ news,u.oneCell' = true) (hb : xs.length + m ≤ 140737488355328) (hbase : base ≤ w.heap.size) :
 ∃ g off cap w',(Builtin.append_ #[47,47] ty #[v,.slice (some ad) m c]).run Tryz.prog w = .ok (.slice (some ⟨g,off,none⟩) (xs.length + m) cap) w' ∧
  OwnsQ w' base (.slice (some ⟨g,off,none⟩) (xs.length + m) cap) (xs ++ news) ∧ w.grownBy w' v.ownBlock ∧ (v.ownBlock = some g ∨ w.heap.size ≤ g):=by
 obtain ⟨i0,hi,hz0,hz1,hz2⟩:=info_parts Tryz.infoByte
 have h63 : xs.length + m ≤ maxLen:=by unfold maxLen;omega
 rcases h with ⟨rfl,rfl⟩ | ⟨g,off,cap,cur,rfl,hbg,hg,hnc,hsz,hx⟩
 ·obtain ⟨v',w',hr,ho,hgr,_⟩:=run_append_own (P:=Tryz.prog) w w.heap.size 47 ty 5 i0 (.int .u8 0) 1 1 Tryz.underlying47 hi hz0 hz1 hz2 rfl (by decide) (.slice none 0 0) 0 [] (World.ownsRow_nil _ _ _ _) ad m c news (by simpa using hl) hnews h1 (by simpa using h63) (by simpa using hb) (Nat.le_refl _)
  obtain ⟨g,cap,rfl⟩:=own_form ho (by omega);refine ⟨g,0,cap,w',by simpa using hr,?_,by simpa [Value.ownBlock] using hgr,.inr (ho.lt g rfl).1⟩;have:=OwnsQ.ofRow (base:=base) ho hbase;simpa using this
 by_cases hroom : xs.length + m ≤ cap
 ·have hr:=run_append_room_cells (P:=Tryz.prog) w 47 ty 5 i0 Tryz.underlying47 hi g off xs.length cap ad m c news (by rw [hz1];omega) hnews h1 hroom
   (fun j hj=>by rw [hz1,cell_of_row w g _ cur _ _ hg];simp;omega) (fun j hj=>by simp [World.frozen?,hg])
  rw [hz1,Nat.mul_one] at hr;obtain ⟨cur',c1,c2,c3,c4⟩:=setCells_heap g 5 (0,0) news (off + xs.length) w cur hg (by omega);refine ⟨g,off,cap,_,hr,.inr ⟨g,off,cap,cur',by simp [hl],hbg,c1,by simp [hl];omega,by omega,fun j u hu=>?_⟩,setCells_grown g _ _ _,.inl rfl⟩
  by_cases hj : j < xs.length
  ·rw [List.getElem?_append_left hj] at hu
   rw [c3 _ (by omega)];exact hx j u hu
  rw [List.getElem?_append_right (by omega)] at hu;have:=c4 _ u hu
  rwa [show off + xs.length + (j - xs.length) = off + j by omega] at this
 obtain ⟨v',w',hr,ho,hgr⟩:=run_append_arg_grows (P:=Tryz.prog) w 47 ty 5 i0 (.int .u8 0) 1 1 Tryz.underlying47 hi hz0 hz1 hz2 rfl (by decide) ⟨g,off,none⟩ xs.length cap xs (by simp)
  (fun j u hu=>by
   have hadd : (⟨g,off,none⟩ : Addr).add j = ⟨g,off + j,none⟩:=by unfold Addr.add;split <;> simp_all
   rw [hadd,cell_of_row w g _ cur _ _ hg];exact hx j u hu) ad m c news (by simpa using hl) hnews (by omega) h63 (by omega)
 obtain ⟨g',cap',rfl⟩:=own_form ho (by omega);exact ⟨g',0,cap',w',hr,OwnsQ.ofRow ho hbase,⟨hgr.os,hgr.tape,hgr.output,hgr.size,fun k hk _=>hgr.block k hk (by simp)⟩,.inr (ho.lt g' rfl).1⟩
theorem wpList_append_q {ops : Array Oper} {rest : List Oper} {o : Oper} {a : Act} {w : World} {Q : Exit → Act → World → Prop} (hgd : o.guard = none) (s x : Operand)
 (hop : o.op = .call { callee:=.builtin .append,args:=#[s,x],argTypes:=#[47,47] })
 {base : Nat} {v : Value} {xs : List Value} (hs : a.eval s = v) (h : OwnsQ w base v xs) (ad : Addr) (m c : Nat) (news : List Value) (hx : a.eval x = .slice (some ad) m c) (hl : news.length = m) (hm : 0 < m)
 (hnews : ∀ j u,news[j]? = some u → w.cell? (ad.add j) = some u) (h1 : ∀ u ∈ news,u.oneCell' = true) (hb : xs.length + m ≤ 140737488355328) (hbase : base ≤ w.heap.size)
 (hK : ∀ g off cap w',OwnsQ w' base (.slice (some ⟨g,off,none⟩) (xs.length + m) cap) (xs ++ news) → w.grownBy w' v.ownBlock → (v.ownBlock = some g ∨ w.heap.size ≤ g) →
  wpList Tryz.prog ops Q rest (a.put o.dst (.slice (some ⟨g,off,none⟩) (xs.length + m) cap)) w') : wpList Tryz.prog ops Q (o :: rest) a w :=
 wpList_plain hgd fun K hK'=>by
  obtain ⟨g,off,cap,w',hr,r1,r2,r3⟩:=run_append_q w o.type h ad m c news hl hm hnews h1 hb hbase;unfold Oper.wp execOp;simp only [hop,resolve,invoke,builtin,Sem.run_bind,Sem.run_pure,Result.andThen_ok,List.map_toArray,List.map_cons,List.map_nil,hs,hx,hr];exact hK' _ _ (hK g off cap w' r1 r2 r3)
theorem run_textQ {w : World} {base : Nat} {v : Value} {l : List Int} (h : OwnsQ w base v (byCells l)) :
 (convert 47 9 v).run Tryz.prog w = .ok (.string (strOfNums l)) w:=by
 rcases h with ⟨rfl,h0⟩ | ⟨g,off,cap,cur,rfl,hb,hg,hn,hs,hx⟩
 ·have : l = []:=by cases l with | nil=>rfl | cons a l=>simp [byCells] at h0
  subst this;exact run_convert_bytes_nil w 47 5 Tryz.underlying47 Tryz.underlying5 0 0 9 Tryz.underlying9
 have hl : (byCells l).length = l.length:=by simp [byCells]
 rw [hl];refine run_convert_bytes_arg w 47 5 Tryz.underlying47 Tryz.underlying5 g off l.length cap l rfl ?_ 9 Tryz.underlying9;intro i hi;rw [cell_of_row w g _ cur _ _ hg];exact hx i _ (by simp [byCells,hi])
theorem cell1_new (w : World) (x : Value) (T : TypeId) : ∀ j u,[x][j]? = some u → (w.alloc (.cells #[x] T)).cell? ((⟨w.heap.size,0,none⟩ : Addr).add j) = some u:=by
 intro j u hj
 match j,hj with
 | 0,hj=>simp at hj;subst hj;simp [Addr.add]
theorem byCells_snoc (l : List Int) (a : Int) : byCells (l ++ [a]) = byCells l ++ [.int .u8 a]:=by simp [byCells]
namespace Ch
def nmAt (ss : List St) (k : Nat) : Int:=match ss[k]? with | some s=>s.name | none=>0
end Ch
def Apart (v u : Value) : Prop:=∀ k,v.ownBlock = some k → u.ownBlock ≠ some k
namespace Ch
def remP (ss : List St) (act left : List Bool) (k : Nat) : Bool:=hist ss k && has left (parAt ss k) && (actCh ss act (parAt ss k) != -2)
def remF (ss : List St) (act left : List Bool) : Nat → Nat → List Int → List Int
 | 0,_,p=>p
 | f + 1,k,p=>remF ss act left f (k + 1) (if remP ss act left k then p.set k (nmAt ss (actCh ss act (parAt ss k)).toNat) else p)
def rem (ss : List St) (s : Sd) (left : List Bool) : Sd:={ s with past:=remF ss s.act left (min ss.length 16) 0 s.past }
end Ch
end Go.Proofs.YtnlbchmfcebeeaaGreat
