import Derived.Test.YtnlbchmfcebeeaaGreatTXe
import Derived.Test.YtnlbchmfcebeeaaGreatTXp
import Derived.Test.YtnlbchmfcebeeaaGreatTXq
import Derived.Test.YtnlbchmfcebeeaaGreatTC0
import Derived.Test.YtnlbchmfcebeeaaGreatTX5
import Derived.Test.YtnlbchmfcebeeaaGreatTX2
import Derived.Test.YtnlbchmfcebeeaaGreatTA1
import Derived.Test.YtnlbchmfcebeeaaGreatTE7
import Derived.Deep.CutRange
import Derived.Deep.RegionHeld3
import Derived.Deep.QuietTactic
import Derived.BigQuiet
import Derived.OwnWalk
import Derived.Test.YtnlbchmfcebeeaaGreatTB1
set_option maxHeartbeats 12800000
set_option maxRecDepth 100000
namespace Go.Proofs.YtnlbchmfcebeeaaGreat
open Go.RowKit
def nwA (cb g n : Nat) (pv : Value) (m : Ch.Ma) : Array Value:=#[.pointer (some ⟨cb,0,none⟩),.slice (some ⟨g,0,none⟩) n n,pv,.string m.s.tm,.int .i64 m.s.x,.int .i64 m.s.y,.int .i64 m.s.z,.string (strOfNums m.q),.string (strOfNums m.out)]
def NwB (w : World) (xb cb g n : Nat) (pv : Value) (m : Ch.Ma) : Prop:=w.heap[xb]? = some (.cells (nwA cb g n pv m) 274 (0,0))
section
variable {w w' : World} {xb cb g n : Nat} {pv : Value} {m : Ch.Ma}
theorem NwB.cell (h : NwB w xb cb g n pv m) (i : Nat) : w.cell? ⟨xb,i,none⟩ = (nwA cb g n pv m)[i]?:=by unfold NwB at h;rw [World.cell?,h];rfl
theorem NwB.free (h : NwB w xb cb g n pv m) (i : Nat) : w.frozen? ⟨xb,i,none⟩ = false:=by unfold NwB at h;simp [World.frozen?,h]
theorem NwB.keep {S : Nat → Prop} (h : NwB w xb cb g n pv m) (k : Kp S w w') (hS : ¬ S xb) : NwB w' xb cb g n pv m:=k.at_ h hS
theorem NwB.setX (h : NwB w xb cb g n pv m) (v : Int) : NwB (w.setCell ⟨xb,4,none⟩ (.int .i64 v)) xb cb g n pv { m with s:={ m.s with x:=v } }:=by unfold NwB at *;rw [heap_set_same _ h];rfl
theorem NwB.setY (h : NwB w xb cb g n pv m) (v : Int) : NwB (w.setCell ⟨xb,5,none⟩ (.int .i64 v)) xb cb g n pv { m with s:={ m.s with y:=v } }:=by unfold NwB at *;rw [heap_set_same _ h];rfl
theorem NwB.setZ (h : NwB w xb cb g n pv m) (v : Int) : NwB (w.setCell ⟨xb,6,none⟩ (.int .i64 v)) xb cb g n pv { m with s:={ m.s with z:=v } }:=by unfold NwB at *;rw [heap_set_same _ h];rfl
theorem NwB.setQ (h : NwB w xb cb g n pv m) (q : List Int) : NwB (w.setCell ⟨xb,7,none⟩ (.string (strOfNums q))) xb cb g n pv { m with q:=q }:=by unfold NwB at *;rw [heap_set_same _ h];rfl
theorem NwB.setO (h : NwB w xb cb g n pv m) (q : List Int) : NwB (w.setCell ⟨xb,8,none⟩ (.string (strOfNums q))) xb cb g n pv { m with out:=q }:=by unfold NwB at *;rw [heap_set_same _ h];rfl
end
namespace Ch
def sts (l : List NV) : List St:=(mk l).map RN.st
theorem sts_len (l : List NV) : (sts l).length = l.length:=by simp [sts,mk]
theorem sts_par {l : List NV} {i : Nat} {x : NV} (h : l[i]? = some x) : parAt (sts l) i = x.n.parent:=by
 have hlt:=(List.getElem?_eq_some_iff.1 h).1;unfold sts;rw [parAt_rn (by rw [mk_len];exact hlt),rnAt_mk h]
theorem sts_kind {l : List NV} {i : Nat} {x : NV} (h : l[i]? = some x) : kindAt (sts l) i = x.n.kind:=by
 have hlt:=(List.getElem?_eq_some_iff.1 h).1;unfold sts;rw [kindAt_rn (by rw [mk_len];exact hlt),rnAt_mk h]
end Ch
def NvBd (l : List NV) (k : Nat) : Prop:=l.length ≤ k ∧ ∀ x ∈ l,x.n.enter.length ≤ k ∧ x.n.leave.length ≤ k ∧ x.n.trans.length ≤ k
theorem NvBd.mono {l : List NV} {k j : Nat} (h : NvBd l k) (hk : k ≤ j) : NvBd l j:=⟨by have:=h.1;omega,fun x hx=>by have:=h.2 x hx;omega⟩
theorem NvBd.push {l : List NV} {k : Nat} (h : NvBd l k) {n : Ch.RN} (hn : n.enter = [] ∧ n.leave = [] ∧ n.trans = []) {a b c : Value} : NvBd (l ++ [⟨n,a,b,c⟩]) (k + 1):=by
 refine ⟨by have:=h.1;simp;omega,fun x hx=>?_⟩
 rcases List.mem_append.1 hx with hx | hx
 ·have:=h.2 x hx;omega
 simp at hx;subst hx;simp [hn.1,hn.2.1,hn.2.2]
theorem NvBd.set {l : List NV} {k j m : Nat} (h : NvBd l k) (hk : k ≤ j) {y : NV} (hy : y.n.enter.length ≤ j ∧ y.n.leave.length ≤ j ∧ y.n.trans.length ≤ j) : NvBd (l.set m y) j:=by
 refine ⟨by have:=h.1;simp;omega,fun x hx=>?_⟩
 rcases mem_set_or hx with hx | rfl
 ·have:=h.2 x hx;omega
 exact hy
theorem NvBd.kind {l : List NV} {k m : Nat} {x : NV} (h : NvBd l k) (hx : l[m]? = some x) (c : Int) : NvBd (l.set m { x with n:={ x.n with kind:=c } }) k :=
 h.set (Nat.le_refl _) (h.2 x (List.mem_of_getElem? hx))
namespace Ch
def TB (L : List RN) : Prop:=∀ n ∈ L,∀ rt ∈ n.trans,rt.text.size ≤ 300 ∧ rt.pos ≤ 300
theorem TB.mod {L : List RN} (h : TB L) {i : Int} {f : RN → RN} (hf : ∀ n,∀ rt ∈ (f n).trans,rt ∈ n.trans ∨ (rt.text.size ≤ 300 ∧ rt.pos ≤ 300)) : TB (nMod L i f):=by
 intro n hn rt hr
 cases i with
 | negSucc j=>exact h n hn rt hr
 | ofNat j=>?_
 obtain ⟨k,hk⟩:=List.getElem?_of_mem hn;rw [show (nMod L (Int.ofNat j) f)[k]? = _ from nMod_get (L:=L) (k:=j) (f:=f) k] at hk
 split at hk
 ·rw [Option.map_eq_some_iff] at hk
  obtain ⟨m,hm,rfl⟩:=hk
  rcases hf m rt hr with h' | h'
  ·exact h m (List.mem_of_getElem? hm) rt h'
  exact h'
 exact h n (List.mem_of_getElem? hk) rt hr
theorem TB.mark {L : List RN} (h : TB L) (i : Int) : TB (nMark L i):=by
 intro n hn rt hr;obtain ⟨k,hk⟩:=List.getElem?_of_mem hn;obtain ⟨m,hm,e,_⟩:=nMark_get L i k n hk;exact h m (List.mem_of_getElem? hm) rt (by rw [← e];exact hr)
end Ch
structure Rf (l : List NV) (ol : Ch.Ol) : Prop where
 sts : Ch.sts l = ol.sts
 trs : ∀ (k : Nat) (x : NV),l[k]? = some x → Ch.Fa2 Ch.TrOk x.n.trans (ol.trs.filter (Ch.inS k))
 ent : ∀ (k : Nat) (x : NV),l[k]? = some x → Ch.Fa2 Ch.BlOk x.n.enter (ol.bls.filter (Ch.inB_ k 94))
 lea : ∀ (k : Nat) (x : NV),l[k]? = some x → Ch.Fa2 Ch.BlOk x.n.leave (ol.bls.filter (Ch.inB_ k 36))
 ols : Ch.OlS ol
 aca : Ch.AcA ol
 ok : ol.Ok
 nm : ∀ (k : Nat) (x : NV),l[k]? = some x → 65 ≤ x.n.name ∧ x.n.name ≤ 90
 tb : ∀ x ∈ l,∀ rt ∈ x.n.trans,rt.text.size ≤ 300
 kd : ∀ (k : Nat) (x : NV),l[k]? = some x → 1 ≤ x.n.kind ∧ x.n.kind ≤ 5
theorem Rf.len {l : List NV} {ol : Ch.Ol} (h : Rf l ol) : ol.sts.length = l.length:=by rw [← h.sts,Ch.sts_len]
theorem Rf.le {l : List NV} {ol : Ch.Ol} (h : Rf l ol) : l.length ≤ 16:=by rw [← h.len];exact h.ols.le
theorem Rf.up {l : List NV} {ol : Ch.Ol} (h : Rf l ol) : Ch.Up (Ch.sts l):=by rw [h.sts];exact h.ols.shp.up
theorem Rf.par {l : List NV} {ol : Ch.Ol} (h : Rf l ol) {k : Nat} {x : NV} (hx : l[k]? = some x) : Ch.parAt ol.sts k = x.n.parent:=by rw [← h.sts];exact Ch.sts_par hx
theorem Rf.kind {l : List NV} {ol : Ch.Ol} (h : Rf l ol) {k : Nat} {x : NV} (hx : l[k]? = some x) : Ch.kindAt ol.sts k = x.n.kind:=by rw [← h.sts];exact Ch.sts_kind hx
theorem Rf.move {l : List NV} {ol : Ch.Ol} (h : Rf l ol) {t a k : Nat} (hm : Ch.MvOf ol t a k) : ∃ (nd : NV) (rt : Ch.RT) (x : Ch.Tr),l[a]? = some nd ∧ nd.n.trans[k]? = some rt ∧ ol.trs[t]? = some x ∧ x.state = a ∧ Ch.TrOk rt x ∧ rt.text.size ≤ 300:=by
 obtain ⟨x,h1,h2,h3⟩:=hm.tr;obtain ⟨a',e,hal⟩:=h.ols.src x (List.mem_of_getElem? h1)
 have : a' = a:=by omega
 subst this;rw [h.len] at hal;have hnd : l[a']? = some l[a']:=List.getElem?_eq_getElem hal;obtain ⟨rt,hr1,hr2⟩:=(h.trs a' _ hnd).get h3;exact ⟨_,rt,x,hnd,hr1,h1,h2,hr2,h.tb _ (List.mem_of_getElem? hnd) rt (List.mem_of_getElem? hr1)⟩
namespace Ch
def dm (ss : List St) (tg d : Int) : Int:=domF ss tg (d + 1).toNat d
theorem meets_any {ol : Ol} (h16 : ol.sts.length ≤ 16) (s : Sd) (a b : Nat) : meets (leaves ol s a) (leaves ol s b) = (List.range ol.sts.length).any (fun j=>lv ol s a j && lv ol s b j):=by
 have h:=meets_no h16 (s:=s) (a:=(a : Int)) (b:=(b : Int));simp only [Int.toNat_natCast] at h
 cases q : (List.range ol.sts.length).any (fun j=>lv ol s a j && lv ol s b j) with
 | false =>
   rw [h];intro j hj;rw [List.any_eq_false] at q
   have hjl : j < ol.sts.length:=by
    obtain ⟨x,hx⟩:=lv_some hj.1;exact ((lv_iff hx j).1 hj.1).2.1
   exact q j (by simpa using hjl) (by rw [hj.1,hj.2];rfl)
 | true=>?_
 rw [List.any_eq_true] at q;obtain ⟨j,_,hj⟩:=q;simp only [Bool.and_eq_true] at hj
 cases q2 : meets (leaves ol s a) (leaves ol s b) with
 | true=>rfl
 | false=>exact absurd hj ((h.1 q2) j)
end Ch
theorem MvW.set {w : World} {ob : Nat} {a b : Value} (h : w.heap[ob]? = some (.cells #[a,b] 301)) (x y : Int) : ((w.setCell ⟨ob,0,none⟩ (.int .i64 x)).setCell ⟨ob,1,none⟩ (.int .i64 y)).heap[ob]? = some (.cells #[.int .i64 x,.int .i64 y] 301):=by
 rw [heap_set_same _ (heap_set_same _ h)];rfl
def OwnP (w : World) (base : Nat) (v : Value) (n : Nat) (xs : List Value) : Prop :=
 xs.length = n ∧ ((v = .slice none 0 0 ∧ n = 0) ∨ ∃ g cap cur fr,v = .slice (some ⟨g,0,none⟩) n cap ∧ base ≤ g ∧ w.heap[g]? = some (.cells cur 5 fr) ∧ (fr = (0,0) ∨ cur.size ≤ fr.1) ∧ n ≤ cur.size ∧ cur.toList.take n = xs)
section
variable {w w' : World} {base g cap : Nat} {v : Value} {n : Nat} {xs : List Value}
theorem OwnP.keep {S : Nat → Prop} (h : OwnP w base v n xs) (k : Kp S w w') (hs : ∀ i,v.ownBlock = some i → ¬ S i) : OwnP w' base v n xs:=by
 refine ⟨h.1,?_⟩
 rcases h.2 with h0 | ⟨g,cap,cur,fr,rfl,hb,hg,r⟩
 ·exact .inl h0
 exact .inr ⟨g,cap,cur,fr,rfl,hb,k.at_ hg (hs g rfl),r⟩
theorem OwnP.block (h : OwnP w base v n xs) {k : Nat} (hk : v.ownBlock = some k) : base ≤ k ∧ ∃ cur fr,w.heap[k]? = some (.cells cur 5 fr):=by
 rcases h.2 with ⟨rfl,_⟩ | ⟨g,cap,cur,fr,rfl,hb,hg,_⟩
 ·simp [Value.ownBlock] at hk
 simp [Value.ownBlock] at hk;subst hk;exact ⟨hb,cur,fr,hg⟩
theorem OwnP.ne (h : OwnP w base v n xs) {b : Nat} {c : Array Value} {T : TypeId} {f : Nat × Nat} (hb : w.heap[b]? = some (.cells c T f)) (hT : 5 ≠ T) : v.ownBlock ≠ some b:=fun hk=>by
 obtain ⟨_,cur,fr,hg⟩:=h.block hk;rw [hb] at hg;simp only [Option.some.injEq,Obj.cells.injEq] at hg;exact hT hg.2.1.symm
theorem OwnP.lt (h : OwnP w base v n xs) (k : Nat) (hk : v.ownBlock = some k) : base ≤ k ∧ k < w.heap.size:=by
 obtain ⟨hb,_,_,hg⟩:=h.block hk;exact ⟨hb,lt_of_block hg⟩
theorem OwnP.len (h : OwnP w base v n xs) : ∃ ao cap,v = .slice ao n cap:=by
 rcases h.2 with ⟨rfl,rfl⟩ | ⟨g,cap,cur,fr,rfl,_⟩
 ·exact ⟨_,_,rfl⟩
 exact ⟨_,_,rfl⟩
theorem OwnP.apart (h : OwnP w base v n xs) {base' : Nat} {e : TypeId} {size : Nat} {u : Value} {n' : Nat} {xs' : List Value} (h' : w.ownsRow base' e size u n' xs') (hT : e ≠ 5) (k : Nat) (hk : u.ownBlock = some k) : v.ownBlock ≠ some k:=fun hv=>by
 obtain ⟨_,_,_,hg⟩:=h.block hv;exact own_ne h' hg hT hk
theorem OwnP.cellAt (h : OwnP w base (.slice (some ⟨g,0,none⟩) n cap) n xs) (j : Nat) (hj : j < n) : w.cell? ⟨g,j,none⟩ = xs[j]?:=by
 rcases h.2 with ⟨h',_⟩ | ⟨g',cap',cur,fr,h',_,hg,_,_,ht⟩
 ·simp at h'
 simp only [Value.slice.injEq,Option.some.injEq,Addr.mk.injEq,and_true,true_and] at h';obtain ⟨rfl,rfl⟩:=h';rw [World.cell?,hg,← ht,List.getElem?_take,if_pos hj];simp
theorem OwnP.free (h : OwnP w base (.slice (some ⟨g,0,none⟩) n cap) n xs) (j : Nat) (hj : j < n) : w.frozen? ⟨g,j,none⟩ = false:=by
 rcases h.2 with ⟨h',_⟩ | ⟨g',cap',cur,fr,h',_,hg,hf,hn,_⟩
 ·simp at h'
 simp only [Value.slice.injEq,Option.some.injEq,Addr.mk.injEq,and_true,true_and] at h';obtain ⟨rfl,rfl⟩:=h';obtain ⟨lo,hi⟩:=fr;simp only [World.frozen?,hg]
 rcases hf with hf | hf
 ·simp at hf;simp [hf]
 simp at hf
 have : ¬ lo ≤ j:=by omega
 simp [this]
theorem OwnP.stored (h : OwnP w base (.slice (some ⟨g,0,none⟩) n cap) n xs) (j : Nat) (u : Value) : OwnP (w.setCell ⟨g,j,none⟩ u) base (.slice (some ⟨g,0,none⟩) n cap) n (xs.set j u):=by
 rcases h.2 with ⟨h',_⟩ | ⟨g',cap',cur,fr,h',hb,hg,hf,hn,ht⟩
 ·simp at h'
 simp only [Value.slice.injEq,Option.some.injEq,Addr.mk.injEq,and_true,true_and] at h';obtain ⟨rfl,rfl⟩:=h';refine ⟨by rw [List.length_set];exact h.1,.inr ⟨g,cap,_,fr,rfl,hb,heap_set_same _ hg,by simpa using hf,by simpa using hn,?_⟩⟩;rw [← ht];simp [List.take_set]
theorem OwnP.text {l : List Int} (h : OwnP w base v l.length (byCells l)) : (convert 47 9 v).run Tryz.prog w = .ok (.string (strOfNums l)) w:=by
 rcases h.2 with ⟨rfl,h0⟩ | ⟨g,cap,cur,fr,rfl,r⟩
 ·have : l = []:=List.eq_nil_of_length_eq_zero h0
  subst this;exact run_convert_bytes_nil w 47 5 Tryz.underlying47 Tryz.underlying5 0 0 9 Tryz.underlying9
 refine run_convert_bytes_arg w 47 5 Tryz.underlying47 Tryz.underlying5 g 0 l.length cap l rfl ?_ 9 Tryz.underlying9;intro i hi;rw [Nat.zero_add,h.cellAt i (by omega)];simp [byCells,hi]
end
def PsR (w : World) (B : Nat) (ol : Ch.Ol) (s : Ch.Sd) (pv : Value) : Prop:=OwnP w B pv (Ch.pastR ol.sts s).length (byCells (Ch.pastR ol.sts s))
end Go.Proofs.YtnlbchmfcebeeaaGreat
