import Derived.Test.YtnlbchmfcebeeaaGreatTOf
set_option maxHeartbeats 12800000
set_option maxRecDepth 100000
namespace Go.Proofs.YtnlbchmfcebeeaaGreat
open Go.Proofs.Tryz Ch
open Go.RowKit
namespace Ch
section
variable {t : ByteArray} {ol : Ol} {x : Sv} {all : List Sd} {log : ByteArray} {u : Nat} {k : Tk}
theorem SI.ask (h : SI ol x all log) (hu : x.tasks[u]? = some k) (hk : k.kind = 0) {r : Rq} (hr : iC r = true) : SI ol (ak x u (mW r)) all log:=by
 have e:=(h.tk u k hu).idle hk;subst e
 have hn : r.kind ≠ 0:=by rcases mj hr with e | e | e | e <;> omega
 refine h.set hu (fun m=>by rw [lO,mZ rfl]) ?_ rfl (fun d=>by simp [cW] at d);exact ⟨fun e=>absurd (show r.kind = 0 from e) hn,fun _=>hr,fun d=>by simp [mW,cW] at d,by simp [mW,cW],fun _=>rfl,fun _ e=>by simp [mW,cW] at e,fun _=>rfl,fun e=>by simp [mW,cW] at e⟩
theorem Jt (hR : sf t ol) (hm : (mstart ol).2.2 = 0) {n : Nat} (hn : n <= 6) : SI ol (gx ol n) [(mstart ol).1] (mstart ol).2.1:=by
 have hp : bY (List.replicate n cW) 0 = 0:=by
  unfold bY;apply List.countP_eq_zero.2;intro a ha;rw [List.eq_of_mem_replicate ha,lO];simp
 have hk:=pO (all:=[]) (l:=List.replicate n cW) (mstart ol).1 hp
 have ht : ∀ (i : Nat) (a : Tk),(List.replicate n cW)[i]? = some a -> a = cW:=by
  intro i a ha;exact List.eq_of_mem_replicate (List.mem_of_getElem? ha)
 refine ⟨rfl,by simp,?_,?_,?_,?_,by simpa [gx,fN] using hn,?_,?_,?_,Nat.le_refl _⟩
 ·exact hk
 ·intro s hs;simp at hs;subst hs;exact Ar hR hm
 ·show 0 + (mstart ol).2.1.size = _;omega
 ·have:=yI ⟨#[]⟩ (mstart ol).2.1
  have e0 : ((⟨#[]⟩ : ByteArray) ++ (mstart ol).2.1) = (mstart ol).2.1:=by apply ByteArray.ext;simp [ByteArray.data_append]
  rw [e0] at this;exact this
 ·intro i a ha
  rw [ht i a ha];exact BX _ _ _ _
 ·intro i j ti tj hi hj di
  rw [ht i ti hi] at di;simp [cW] at di
 intro m h1 h2;have : m < 0:=h2;omega
end
structure LR (ol : Ol) (x : Sv) (all : List Sd) (log : ByteArray) (L : Ln) : Prop where
 al : L.all = all.map (bC ol.ag)
 lg : L.log = log
 ls : L.stands.length = x.tasks.length
 la : L.asked.length = x.tasks.length
 ll : L.latest.length = x.tasks.length
 lp : L.steps.length = x.tasks.length
 tk : ∀ (u : Nat) (k : Tk),x.tasks[u]? = some k -> ∃ l s,L.stands[u]? = some (decide (k.kind ≠ 0)) /\ L.latest[u]? = some l /\ L.steps[u]? = some s /\ 0 <= s /\
  (k.kind ≠ 0 -> L.asked[u]? = some ⟨k.kind,k.events,k.at_⟩ /\ 0 <= l /\ l <= (all.length : Int) - 1 /\ (k.kind = 3 -> s = (k.steps : Int) /\ (1 <= k.steps -> k.at_ < 0 -> l <= k.pinned)))
section
variable {ol : Ol} {x : Sv} {all : List Sd} {log : ByteArray} {L : Ln}
theorem LR.reads (r : LR ol x all log L) : ∀ i,i <= x.tasks.length -> Cb L i = readsOf (x.tasks.take i):=by
 intro i
 induction i with
 | zero=>intro _;rfl
 | succ i ih=>?_
 intro hi
 obtain ⟨k,hk⟩ : ∃ k,x.tasks[i]? = some k:=⟨_,List.getElem?_eq_getElem (by omega)⟩
 obtain ⟨l,s,h1,_,h3,_,h5⟩:=r.tk i k hk
 have e1 : x.tasks.take (i + 1) = x.tasks.take i ++ [k]:=by
  obtain ⟨a,b⟩:=List.getElem?_eq_some_iff.1 hk;rw [<- b,List.take_append_getElem a]
 have e2 : Cb L (i + 1) = Cb L i + (if LD L i then 1 else 0):=rfl;rw [e2,e1,ih (by omega)];unfold readsOf;rw [List.countP_append,List.countP_singleton]
 congr 1
 have : LD L i = (decide (k.kind = 3) && decide (1 <= k.steps)):=by
  unfold LD;simp only [List.getD_eq_getElem?_getD,h1,h3,Option.getD_some]
  by_cases q : k.kind = 0
  ·simp [q]
  obtain ⟨g1,_,_,g4⟩:=h5 q;rw [g1];simp only [Option.getD_some]
  by_cases q3 : k.kind = 3
  ·have:=(g4 q3).1
   subst this;simp [q3];omega
  simp [q3]
 rw [this]
theorem LR.held (r : LR ol x all log L) (h : SI ol x all log) : J1 L (x.kept.map Vr.num):=by
 have hN : x.kept.map Vr.num = lN all.length x.tasks:=by rw [h.kept];exact sB _ _
 have hl : L.all.length = all.length:=by rw [r.al,List.length_map]
 have hk:=u0 all.length x.tasks
 have hrd : Cb L L.stands.length = readsOf x.tasks:=by
  rw [r.ls,r.reads _ (Nat.le_refl _),List.take_length]
 rw [hN];refine ⟨by rw [hl];exact h.pos,by rw [hl];exact hk.1,by rw [hl,hrd];exact hk.2,fun m hm=>by rw [hl];exact GO hm,AI _ _,?_,by rw [r.la,r.ls],by rw [r.lp,r.ls],by rw [r.ls];exact h.len⟩;rw [hl];exact GP _ h.pos
end
section
variable {t : ByteArray} {ol : Ol} (hR : sf t ol)
include hR
theorem sN {s : Sd} (g : Good ol s) {ev : ByteArray} {i : Nat} (hi : i < ev.size) (he : bN (af ev i) = true) :
 pL t (bC ol.ag s) (ev.extract i (i + 1)) = if (aL ol s (af ev i)).2.2 != 0 then (gw,⟨#[]⟩,(aL ol s (af ev i)).2.2) else (bC ol.ag (aL ol s (af ev i)).1,(aL ol s (af ev i)).2.1,0):=by
 obtain ⟨e1,e2⟩:=g.lg hR;unfold pL;rw [e1,e2,hR.rd,yL hi,he];rw [show decide ((ev.extract i (i + 1)).size = 1) = true from decide_eq_true (n_ hi)];simp only [bne_self_eq_false,Bool.false_eq_true,if_false,Bool.and_self,if_true]
theorem AM {s : Sd} (g : Good ol s) : pK 17 t (bC ol.ag s) = (bC ol.ag (nc ol s).1,(nc ol s).2,0):=by
 obtain ⟨e1,e2⟩:=g.lg hR;have hw:=nY (g.wait hR);unfold pK;rw [e1,e2,hR.rd];simp only [bne_self_eq_false,Bool.false_eq_true,if_false,hw]
end
theorem sP {α : Type} {l : List α} {u : Nat} {b : α} (h : l[u]? = some b) : l.set u b = l:=by
 obtain ⟨a,e⟩:=List.getElem?_eq_some_iff.1 h;rw [<- e,List.set_getElem_self]
theorem ju {α : Type} {l : List α} {u i : Nat} {b a : α} (h : l[i]? = some a) : (l.set u b)[i]? = some (if i = u then b else a):=by
 have hl:=(List.getElem?_eq_some_iff.1 h).1;rw [List.getElem?_set]
 by_cases e : u = i
 ·subst e;simp [hl]
 rw [if_neg e,if_neg (fun x=>e x.symm)];exact h
section
variable {ol : Ol} {x x' : Sv} {all all' : List Sd} {log lT : ByteArray} {L L' : Ln} {u : Nat} {k k' : Tk}
theorem LR.upd (r : LR ol x all log L) (hu : x.tasks[u]? = some k) (ht : x'.tasks = x.tasks.set u k') (hle : all.length <= all'.length) (e1 : L'.all = all'.map (bC ol.ag)) (e2 : L'.log = lT) (e3 : L'.stands = L.stands.set u (decide (k'.kind ≠ 0))) (e4 : L'.asked = L.asked) (e5 : L'.latest = L.latest) {s' : Int} (e6 : L'.steps = L.steps.set u s') (hs : 0 <= s')
 (hk : k'.kind ≠ 0 -> k'.kind = k.kind /\ k'.events = k.events /\ k'.at_ = k.at_ /\ (k.kind = 3 -> s' = (k'.steps : Int) /\ ∀ l,L.latest[u]? = some l -> 1 <= k'.steps -> k.at_ < 0 -> l <= k'.pinned)) : LR ol x' all' lT L':=by
 refine ⟨e1,e2,by rw [e3,ht,List.length_set,List.length_set];exact r.ls,by rw [e4,ht,List.length_set];exact r.la,by rw [e5,ht,List.length_set];exact r.ll,by rw [e6,ht,List.length_set,List.length_set];exact r.lp,?_⟩;intro i a ha;rw [ht] at ha
 rcases cZ ha with ⟨rfl,rfl⟩ | ⟨ni,ha⟩
 ·obtain ⟨l,s,h1,h2,h3,h4,h5⟩:=r.tk i k hu
  refine ⟨l,s',?_,by rw [e5];exact h2,?_,hs,?_⟩
  ·rw [e3,ju h1,if_pos rfl]
  ·rw [e6,ju h3,if_pos rfl]
  intro h0;obtain ⟨g1,g2,g3,g4⟩:=hk h0;obtain ⟨f1,f2,f3,_⟩:=h5 (by rw [<- g1];exact h0);refine ⟨by rw [e4,g1,g2,g3];exact f1,f2,by omega,fun q=>?_⟩;rw [g1] at q;obtain ⟨m1,m2⟩:=g4 q;exact ⟨m1,fun c1 c2=>m2 l h2 c1 (by rw [<- g3];exact c2)⟩
 obtain ⟨l,s,h1,h2,h3,h4,h5⟩:=r.tk i a ha;refine ⟨l,s,?_,by rw [e5];exact h2,?_,h4,?_⟩
 ·rw [e3,ju h1,if_neg ni]
 ·rw [e6,ju h3,if_neg ni]
 intro h0;obtain ⟨f1,f2,f3,f4⟩:=h5 h0;exact ⟨by rw [e4];exact f1,f2,by omega,f4⟩
theorem LR.ask (r : LR ol x all log L) (hu : x.tasks[u]? = some k) (hp : 0 < all.length) {q : Rq} (hq : q.kind ≠ 0) : LR ol (ak x u (mW q)) all log (DX L u q):=by
 have hl : L.all.length = all.length:=by rw [r.al,List.length_map]
 refine ⟨r.al,r.lg,by simp [DX,ak,r.ls],by simp [DX,ak,r.la],by simp [DX,ak,r.ll],by simp [DX,ak,r.lp],?_⟩;intro i a ha;obtain ⟨hlt,_⟩:=List.getElem?_eq_some_iff.1 hu
 rcases cZ ha with ⟨rfl,rfl⟩ | ⟨ni,ha⟩
 ·have g : ∀ {α : Type} (l : List α) (b : α),l.length = x.tasks.length -> (l.set i b)[i]? = some b:=by
   intro α l b e;rw [List.getElem?_set_self (by omega)]
  refine ⟨(all.length : Int) - 1,0,?_,?_,?_,Int.le_refl _,?_⟩
  ·show (L.stands.set i true)[i]? = _
   rw [g _ _ r.ls];simp [mW,hq]
  ·show (L.latest.set i ((L.all.length : Int) - 1))[i]? = _
   rw [g _ _ r.ll,hl]
  ·exact g _ _ r.lp
  intro _;refine ⟨g _ _ r.la,by omega,Int.le_refl _,fun _=>⟨rfl,fun c=>by simp [mW,cW] at c⟩⟩
 obtain ⟨l,s,h1,h2,h3,h4,h5⟩:=r.tk i a ha;refine ⟨l,s,?_,?_,?_,h4,?_⟩
 ·show (L.stands.set u true)[i]? = _
  rw [ju h1,if_neg ni]
 ·show (L.latest.set u _)[i]? = _
  rw [ju h2,if_neg ni]
 ·show (L.steps.set u 0)[i]? = _
  rw [ju h3,if_neg ni]
 intro h0;obtain ⟨f1,f2,f3,f4⟩:=h5 h0;refine ⟨?_,f2,f3,f4⟩;show (L.asked.set u q)[i]? = _;rw [ju f1,if_neg ni]
theorem LR.new (ol : Ol) (n : Nat) : LR ol (gx ol n) [(mstart ol).1] (mstart ol).2.1 (s9 (bC ol.ag (mstart ol).1) (mstart ol).2.1 n):=by
 refine ⟨rfl,rfl,by simp [s9,gx,fN],by simp [s9,gx,fN],by simp [s9,gx,fN],by simp [s9,gx,fN],?_⟩;intro i a ha;have ha' : (List.replicate n cW)[i]? = some a:=ha;have e:=List.eq_of_mem_replicate (List.mem_of_getElem? ha')
 have hl : i < n:=by have:=(List.getElem?_eq_some_iff.1 ha').1;simpa using this
 subst e;refine ⟨0,0,by simp [s9,hl,cW],by simp [s9,hl],by simp [s9,hl],Int.le_refl _,fun h=>absurd rfl h⟩
end
theorem Ce (b : ByteArray) {i j m : Nat} (h1 : i <= j) (h2 : j <= m) : (b.extract i b.size).extract (j - i) (m - i) = b.extract j m:=by
 apply ByteArray.ext;apply Array.toList_inj.1;rw [ByteArray.data_extract,Array.toList_extract,qL,ByteArray.data_extract,Array.toList_extract,List.extract_eq_take_drop,List.extract_eq_take_drop,List.drop_drop]
 congr 1
 ·omega
 congr 1;omega
theorem SI.Ox {ol : Ol} {x : Sv} {all : List Sd} {log : ByteArray} (h : SI ol x all log) {a : Int} (ha : 0 <= a) :
 ((log.size : Int) < a /\ j0 x a = { b8 with err:=14,dT:=(all.length : Int) - 1 }) \/
 (a < (log.size : Int) - 24 /\ j0 x a = { b8 with err:=15,dT:=(all.length : Int) - 1 }) \/
 (a <= (log.size : Int) /\ (log.size : Int) - 24 <= a /\ j0 x a = { b8 with dT:=(all.length : Int) - 1,next:=(if a + 8 < (log.size : Int) then a + 8 else (log.size : Int)),text:=log.extract a.toNat (if a + 8 < (log.size : Int) then a + 8 else (log.size : Int)).toNat }):=by
 have hT : x.tail.size = log.size - (log.size - 24):=by rw [h.tail,ByteArray.size_extract];omega
 by_cases c1 : (log.size : Int) < a
 ·left
  refine ⟨c1,?_⟩
  have e : dx x.joined x.tail a = (⟨#[]⟩,14):=by unfold dx;rw [h.joined,if_pos c1]
  unfold j0;rw [e,if_pos (by decide)];unfold dW;rw [h.made]
 right
 by_cases c2 : a < (log.size : Int) - (x.tail.size : Int)
 ·left
  refine ⟨by omega,?_⟩
  have e : dx x.joined x.tail a = (⟨#[]⟩,15):=by unfold dx;rw [h.joined,if_neg c1,if_pos c2]
  unfold j0;rw [e,if_pos (by decide)];unfold dW;rw [h.made]
 right
 refine ⟨by omega,by omega,?_⟩
 have hi : (a - ((log.size : Int) - (x.tail.size : Int))).toNat = a.toNat - (log.size - 24):=by omega
 have e : dx x.joined x.tail a = (log.extract a.toNat (if a + 8 < (log.size : Int) then a + 8 else (log.size : Int)).toNat,0):=by
  unfold dx;rw [h.joined,if_neg c1,if_neg c2,hi]
  by_cases c3 : a + 8 < (log.size : Int)
  ·rw [if_pos (by omega),if_pos c3,h.tail,show a.toNat - (log.size - 24) + 8 = (a.toNat + 8) - (log.size - 24) by omega,Ce log (by omega) (by omega),show (a + 8).toNat = a.toNat + 8 by omega]
  rw [if_neg (by omega),if_neg c3,hT,h.tail,Ce log (by omega) (by omega)];rfl
 have hz : (log.extract a.toNat (if a + 8 < (log.size : Int) then a + 8 else (log.size : Int)).toNat).size = (if a + 8 < (log.size : Int) then a + 8 else (log.size : Int)).toNat - a.toNat:=by
  rw [ByteArray.size_extract]
  split <;> omega
 unfold j0;rw [e,if_neg (by simp),h.made];simp only;rw [hz]
 congr 1
 split <;> omega
def Cf (ol : Ol) (s : Sd) (ev : ByteArray) : Nat -> Sd
 | 0=>s
 | i + 1=>(aL ol (Cf ol s ev i) (af ev i)).1
def AN (ol : Ol) (s : Sd) (ev : ByteArray) : Nat -> ByteArray
 | 0=>⟨#[]⟩
 | i + 1=>AN ol s ev i ++ (aL ol (Cf ol s ev i) (af ev i)).2.1
theorem u9 {ol : Ol} {s : Sd} {ev : ByteArray} : ∀ {i : Nat} {r : Sd × ByteArray},dJ ol s ev i = some r -> r = (Cf ol s ev i,AN ol s ev i) /\ ∀ j,j < i -> (aL ol (Cf ol s ev j) (af ev j)).2.2 = 0:=by
 intro i
 induction i with
 | zero=>intro r h;simp [dJ] at h;subst h;exact ⟨rfl,fun j hj=>by omega⟩
 | succ i ih=>?_
 intro r h;simp only [dJ] at h
 cases q : dJ ol s ev i with
 | none=>rw [q] at h;simp at h
 | some r0=>?_
 rw [q] at h;simp only at h;obtain ⟨e,hj⟩:=ih q;subst e;simp only at h
 split at h
 ·rename_i c
  simp at h;subst h;refine ⟨rfl,fun j hj'=>?_⟩
  by_cases e : j = i
  ·subst e;simpa using c
  exact hj j (by omega)
 simp at h
theorem yR {t : ByteArray} {ol : Ol} (hR : sf t ol) {s : Sd} (g : Good ol s) {ev : ByteArray} : ∀ (i : Nat),(∀ j,j < i -> (aL ol (Cf ol s ev j) (af ev j)).2.2 = 0) -> Good ol (Cf ol s ev i):=by
 intro i
 induction i with
 | zero=>intro _;exact g
 | succ i ih=>intro h;exact ph hR (ih (fun j hj=>h j (by omega))) (h i (by omega))
theorem px {ol : Ol} (hol : ol.Ok) (s : Sd) (ev : ByteArray) : ∀ i,(AN ol s ev i).size <= 117000000 * i:=by
 intro i
 induction i with
 | zero=>exact Nat.zero_le _
 | succ i ih=>?_
 have:=gM hol (Cf ol s ev i) (af ev i);show (AN ol s ev i ++ _).size <= _;rw [ByteArray.size_append];omega
theorem AO {ol : Ol} {all : List Sd} (h : 0 < all.length) : (all.map (bC ol.ag))[(all.map (bC ol.ag)).length - 1]? = some (bC ol.ag (lastOf all)):=by
 rw [List.length_map,List.getElem?_map];unfold lastOf;rw [List.getD_eq_getElem?_getD,List.getElem?_eq_getElem (by omega)];rfl
end Ch
section
variable {t : ByteArray} {ol : Ol} {x : Sv} {all : List Sd} {log : ByteArray} {L : Ln} {u : Nat} {k : Tk}
def yS (p : Lp) (t : ByteArray) (ol : Ol) (x : Sv) (all : List Sd) (log : ByteArray) (L : Ln) (av : Value) (u : Nat) : Prop :=
 ∃ L' all' lT b s,L.stands[u]? = some b /\ L.steps[u]? = some s /\ 0 <= s /\ Rl p t L L' av u b s (bG ol x (u : Int)).2 /\ SI ol (bG ol x (u : Int)).1 all' lT /\ LR ol (bG ol x (u : Int)).1 all' lT L' /\ all'.length <= all.length + 1 /\ lT.size <= log.size + 2000000000 /\ (bG ol x (u : Int)).1.aN <= x.aN + 1 /\ (bG ol x (u : Int)).1.tasks.length = x.tasks.length /\ (L'.steps = L.steps \/ L'.steps = L.steps.set u (s + 1))
theorem AP (h : SI ol x all log) (r : LR ol x all log L) (hu : x.tasks[u]? = some k) (hk : k.kind = 0) (p : Lp) (av : Value) : yS p t ol x all log L av u:=by
 obtain ⟨l,s,h1,h2,h3,h4,h5⟩:=r.tk u k hu;have e:=kt (ol:=ol) hu hk;refine ⟨L,all,log,_,s,h1,h3,h4,?_,by rw [e];exact h,by rw [e];exact r,by omega,by omega,by rw [e];exact Nat.le_succ _,by rw [e],.inl rfl⟩;rw [e];exact .inl ⟨by simp [hk],rfl,rfl,rfl⟩
theorem iZ (r : LR ol x all log L) (hu : x.tasks[u]? = some k) (hk : k.kind ≠ 0) (p : Lp) (av : Value) {x' : Sv} {k' : Tk} (e : bG ol x (u : Int) = (x',b8,false,0)) (h' : SI ol x' all log) (ht : x'.tasks = x.tasks.set u k') (hk' : k'.kind = k.kind /\ k'.events = k.events /\ k'.at_ = k.at_)
 (Vk : k.kind = 3 -> k'.steps = k.steps + 1 /\ ∀ l,L.latest[u]? = some l -> l <= (all.length : Int) - 1 -> (1 <= k.steps -> k.at_ < 0 -> l <= k.pinned) -> k.at_ < 0 -> l <= k'.pinned) (hti : x'.aN <= x.aN + 1:=by first | exact Nat.le_succ _ | exact Nat.le_refl _) : yS p t ol x all log L av u:=by
 obtain ⟨l,s,h1,h2,h3,h4,h5⟩:=r.tk u k hu;obtain ⟨f1,f2,f3,f4⟩:=h5 hk;refine ⟨{ L with steps:=L.steps.set u (s + 1) },all,log,_,s,h1,h3,h4,?_,by rw [e];exact h',?_,by omega,by omega,by rw [e];exact hti,by rw [e];simp only;rw [ht,List.length_set],.inr rfl⟩
 ·rw [e]
  exact .inr (.inl ⟨by simp [hk],rfl,rfl,rfl,rfl⟩)
 rw [e];refine r.upd (k':=k') hu ht (Nat.le_refl _) r.al r.lg ?_ rfl rfl (s':=s + 1) rfl (by omega) (fun _=>⟨hk'.1,hk'.2.1,hk'.2.2,fun q=>?_⟩)
 ·rw [hk'.1];exact (sP h1).symm
 obtain ⟨g1,g2⟩:=f4 q;obtain ⟨m1,m2⟩:=Vk q;refine ⟨by rw [g1,m1];omega,fun l' hl' _ c=>?_⟩;rw [h2] at hl';simp at hl';subst hl';exact m2 l h2 f3 g2 c
end
section
variable {t : ByteArray} {ol : Ol} {x : Sv} {all : List Sd} {log : ByteArray} {L : Ln} {u : Nat} {k : Tk}
theorem fX (r : LR ol x all log L) (hu : x.tasks[u]? = some k) (hk : k.kind ≠ 0) (p : Lp) (av : Value) {x' : Sv} {rp : Rp} {all' : List Sd} {lT : ByteArray} (e : bG ol x (u : Int) = (x',rp,true,0)) (h' : SI ol x' all' lT) (ht : x'.tasks = x.tasks.set u cW) (hle : all.length <= all'.length) (hl1 : all'.length <= all.length + 1) (hl2 : lT.size <= log.size + 2000000000)
 (hD : ∀ s,Ca p t { L with steps:=L.steps.set u s } { L with all:=all'.map (bC ol.ag),log:=lT,stands:=L.stands.set u false,steps:=L.steps.set u s } av u ⟨k.kind,k.events,k.at_⟩ rp) (hti : x'.aN <= x.aN + 1:=by first | exact Nat.le_succ _ | exact Nat.le_refl _) : yS p t ol x all log L av u:=by
 obtain ⟨l,s,h1,h2,h3,h4,h5⟩:=r.tk u k hu;obtain ⟨f1,f2,f3,f4⟩:=h5 hk;refine ⟨{ L with all:=all'.map (bC ol.ag),log:=lT,stands:=L.stands.set u false,steps:=L.steps.set u (s + 1) },all',lT,_,s,h1,h3,h4,?_,by rw [e];exact h',?_,hl1,hl2,by rw [e];exact hti,by rw [e];simp only;rw [ht,List.length_set],.inr rfl⟩
 ·rw [e]
  exact .inr (.inr ⟨by simp [hk],rfl,rfl,_,f1,hD (s + 1)⟩)
 rw [e];exact r.upd (k':=cW) hu ht hle rfl rfl rfl rfl rfl (s':=s + 1) rfl (by omega) (fun q=>absurd rfl q)
theorem AQ (h : SI ol x all log) (r : LR ol x all log L) (hu : x.tasks[u]? = some k) (hk : k.kind = 4) (hm : all.length <= 100000000000) (hl : log.size <= 9000000000000000) (p : Lp) (av : Value) : yS p t ol x all log L av u:=by
 obtain ⟨e,h'⟩:=h.poll hu hk
 have hal : L.all.length = all.length:=by rw [r.al,List.length_map]
 have lR:=r.lg
 have ha : 0 <= k.at_:=by
  have:=(h.tk u k hu).rq (by rw [hk];decide);unfold iC at this;rw [if_neg (by show ¬ k.kind = 1;rw [hk];decide),if_neg (by show ¬ k.kind = 2;rw [hk];decide),if_neg (by show ¬ k.kind = 3;rw [hk];decide),if_pos (by show k.kind = 4;exact hk)] at this;simp only [Bool.and_eq_true,decide_eq_true_eq] at this;exact this.2
 refine fX r hu (by rw [hk];decide) p av e h' rfl (Nat.le_refl _) (by omega) (by omega) ?_;intro s;rw [<- r.al,<- lR];have hL' : ({ L with all:=L.all,log:=L.log,stands:=L.stands.set u false,steps:=L.steps.set u s } : Ln) = { { L with steps:=L.steps.set u s } with stands:=({ L with steps:=L.steps.set u s } : Ln).stands.set u false }:=rfl
 rcases h.Ox ha with ⟨c,e2⟩ | ⟨c,e2⟩ | ⟨c1,c2,e2⟩
 ·rw [e2]
  refine .inr (.inr (.inr ⟨hk,rfl,rfl,hL',fun W hW=>?_⟩));have:=GV W hW ⟨k.kind,k.events,k.at_⟩ (by show (L.log.size : Int) < k.at_;rw [lR];exact c) (by show L.all.length <= _;omega);rw [<- hal];exact hid this
 ·rw [e2]
  refine .inr (.inr (.inr ⟨hk,rfl,rfl,hL',fun W hW=>?_⟩));have:=GW W hW ⟨k.kind,k.events,k.at_⟩ (by show k.at_ < (L.log.size : Int) - 24;rw [lR];exact c) (by show L.all.length <= _;omega) (by show L.log.size <= _;rw [lR];omega);rw [<- hal];exact hid this
 rw [e2];refine .inr (.inr (.inr ⟨hk,rfl,rfl,hL',fun W hW=>?_⟩));have:=GX W hW ⟨k.kind,k.events,k.at_⟩ (e:=if k.at_ + 8 < (log.size : Int) then k.at_ + 8 else (log.size : Int)) ha (by show k.at_ <= (L.log.size : Int);rw [lR];exact c1) (by show (L.log.size : Int) - 24 <= k.at_;rw [lR];exact c2) (by show _ = if k.at_ + 8 < (L.log.size : Int) then k.at_ + 8 else (L.log.size : Int);rw [lR]) (by show L.all.length <= _;omega) (by show L.log.size <= _;rw [lR];omega);rw [<- hal,<- lR];rw [<- lR] at this;exact hid this
theorem AR (h : SI ol x all log) (r : LR ol x all log L) (hu : x.tasks[u]? = some k) (hk : k.kind = 3) (hm : all.length <= 100000000000) (p : Lp) (av : Value) : yS p t ol x all log L av u:=by
 have hI:=h.tk u k hu
 have hal : L.all.length = all.length:=by rw [r.al,List.length_map]
 have lR:=r.lg
 have hk0 : k.kind ≠ 0:=by rw [hk];decide
 have hL' : ∀ s,({ L with all:=L.all,log:=L.log,stands:=L.stands.set u false,steps:=L.steps.set u s } : Ln) = { { L with steps:=L.steps.set u s } with stands:=({ L with steps:=L.steps.set u s } : Ln).stands.set u false }:=fun _=>rfl
 have hst:=hI.st
 rcases (show k.steps = 0 \/ k.steps = 1 \/ k.steps = 2 by omega) with hs | hs | hs
 ·rcases h.JU hu hk hs with ⟨c,e,h'⟩ | ⟨c1,c2,e,h'⟩ | ⟨n,hn,c1,c2,e,h'⟩
  ·refine fX r hu hk0 p av e h' rfl (Nat.le_refl _) (by omega) (by omega) ?_
   intro s;rw [<- r.al,<- lR];refine .inr (.inr (.inl ⟨hk,rfl,rfl,rfl,hL' s,fun W hW=>?_⟩));have:=GY W hW ⟨k.kind,k.events,k.at_⟩ (u : Int) (by show (L.all.length : Int) - 1 < k.at_;rw [hal];exact c) (by show L.all.length <= _;omega);rw [<- hal];exact hid this
  ·refine fX r hu hk0 p av e h' rfl (Nat.le_refl _) (by omega) (by omega) ?_
   intro s;rw [<- r.al,<- lR];refine .inr (.inr (.inl ⟨hk,rfl,rfl,rfl,hL' s,fun W hW=>?_⟩));have:=GZ W hW ⟨k.kind,k.events,k.at_⟩ (u : Int) c1 (by show k.at_ <= (L.all.length : Int) - 5;rw [hal];exact c2) (by show L.all.length <= _;omega);rw [<- hal];exact hid this
  refine iZ r hu hk0 p av (k':={ k with steps:=1,pinned:=(n : Int) }) e h' rfl ⟨rfl,rfl,rfl⟩ (fun _=>⟨by show 1 = k.steps + 1;omega,fun l _ f3 _ c=>?_⟩);show l <= (n : Int);rw [c2 c];exact f3
 ·obtain ⟨e,h'⟩:=h.JV hu hk hs
  exact iZ r hu hk0 p av (k':={ k with steps:=2 }) e h' rfl ⟨rfl,rfl,rfl⟩ (fun _=>⟨by show 2 = k.steps + 1;omega,fun l _ _ g c=>g (by omega) c⟩)
 obtain ⟨n,hn,hnl,e,h'⟩:=h.JW hu hk hs;obtain ⟨l,s0,h1,h2,h3,h4,h5⟩:=r.tk u k hu;obtain ⟨f1,f2,f3,f4⟩:=h5 hk0;refine fX r hu hk0 p av e h' rfl (Nat.le_refl _) (by omega) (by omega) ?_;intro s;rw [<- r.al,<- lR];refine .inr (.inr (.inl ⟨hk,rfl,rfl,rfl,hL' s,fun W hW=>?_⟩))
 have hv : L.all[n]? = some (bC ol.ag (all.getD n mT)):=by
  rw [r.al,List.getElem?_map,List.getD_eq_getElem?_getD,List.getElem?_eq_getElem hnl];rfl
 have:=G0 W hW ⟨k.kind,k.events,k.at_⟩ (u:=u) (v:=n) (l:=l) hv h2 (fun c=>by rw [<- hn];exact (hI.pin hk (by omega)).2.2 c) (fun c=>by rw [<- hn];exact (f4 hk).2 (by omega) c) (by show L.all.length <= _;omega);exact hid this
end
section
variable {t : ByteArray} {ol : Ol} {x : Sv} {all : List Sd} {log : ByteArray} {L : Ln} {u : Nat} {k : Tk}
theorem DY (hR : sf t ol) {s : Sd} (g : Ch.Good ol s) (W : World) : Hid (Calls prog 48 #[.string t,.agg (bq (bC ol.ag s))] W fun x w'=>x = .returned (.tuple #[.agg (bq (bC ol.ag (nc ol s).1)),.string (nc ol s).2,.int .i64 0]) /\ Kp (fun _=>False) W w'):=by
 have:=uT W 17 (by omega) t (bC ol.ag s) g.sm (fun e=>Gm e);rw [AM hR g] at this;exact hid this
theorem u_ (hR : sf t ol) {s : Sd} (g : Ch.Good ol s) {ev : ByteArray} {i : Nat} (hi : i < ev.size) (he : bN (af ev i) = true) (h0 : (aL ol s (af ev i)).2.2 = 0) (W : World) : Hid (Calls prog 31 #[.string t,.agg (bq (bC ol.ag s)),.string (ev.extract i (i + 1))] W fun x w'=>x = .returned (.tuple #[.agg (bq (bC ol.ag (aL ol s (af ev i)).1)),.string (aL ol s (af ev i)).2.1,.int .i64 0]) /\ Kp (fun _=>False) W w'):=by
 have:=pe W t (bC ol.ag s) (ev.extract i (i + 1)) g.sm;rw [sN hR g hi he,if_neg (by simp [h0])] at this;exact hid this
theorem DZ (hR : sf t ol) {s : Sd} (g : Ch.Good ol s) {ev : ByteArray} {i : Nat} (hi : i < ev.size) (he : bN (af ev i) = true) (h0 : (aL ol s (af ev i)).2.2 ≠ 0) (W : World) : Hid (Calls prog 31 #[.string t,.agg (bq (bC ol.ag s)),.string (ev.extract i (i + 1))] W fun x w'=>x = .returned (.tuple #[.agg (bq gw),.string ⟨#[]⟩,.int .i64 9]) /\ Kp (fun _=>False) W w'):=by
 have:=pe W t (bC ol.ag s) (ev.extract i (i + 1)) g.sm
 have h9 : (aL ol s (af ev i)).2.2 = 9:=by
  rcases uU ol s (af ev i) with e | e
  ·exact absurd e h0
  exact e
 rw [sN hR g hi he,if_pos (by simp [h9]),h9] at this;exact hid this
theorem AS (hR : sf t ol) (hol : ol.Ok) (h : SI ol x all log) (r : LR ol x all log L) (hu : x.tasks[u]? = some k) (hk : k.kind = 2) (hm : all.length <= 100000000000) (hl : log.size <= 9000000000000000) (p : Lp) (av : Value) : yS p t ol x all log L av u:=by
 have hal : L.all.length = all.length:=by rw [r.al,List.length_map]
 have lR:=r.lg
 have hk0 : k.kind ≠ 0:=by rw [hk];decide
 cases hd : k.drawn with
 | false =>
   obtain ⟨e,h'⟩:=h.draws hu (.inr hk) hd;exact iZ r hu hk0 p av (k':={ k with drawn:=true,ticket:=x.aN }) e h' rfl ⟨rfl,rfl,rfl⟩ (fun q=>by rw [hk] at q;simp at q)
 | true=>?_
 by_cases ht : k.ticket = x.turn
 ·obtain ⟨e,h'⟩:=h.JS hR hu hk hd ht
  have hg:=h.yJ;have hsz:=sx hol 17 (nY (hg.wait hR));simp only [List.length_nil] at hsz;refine fX r hu hk0 p av e h' rfl (by simp) (by simp) (by rw [ByteArray.size_append];omega) ?_;intro s;refine .inr (.inl ⟨hk,rfl,rfl,fun W hW=>?_⟩);have:=DQ W hW (a:=bC ol.ag (lastOf all)) (b:=bC ol.ag (nc ol (lastOf all)).1) (o:=(nc ol (lastOf all)).2) (by show L.all[L.all.length - 1]? = _;rw [r.al];exact AO h.pos) (by show L.all.length <= _;omega) (by show L.log.size + _ <= _;rw [lR];omega) (DY hR hg)
  have e1 : (L.all ++ [bC ol.ag (nc ol (lastOf all)).1]) = (all ++ [(nc ol (lastOf all)).1]).map (bC ol.ag):=by rw [r.al,List.map_append];rfl
  simp only at this;rw [e1,lR,hal] at this;exact hid this
 have e:=SI.waits (ol:=ol) hu (.inr hk) hd ht;exact iZ r hu hk0 p av (k':=k) e h (sP hu).symm ⟨rfl,rfl,rfl⟩ (fun q=>by rw [hk] at q;simp at q)
theorem AT (hR : sf t ol) (hol : ol.Ok) (h : SI ol x all log) (r : LR ol x all log L) (hu : x.tasks[u]? = some k) (hk : k.kind = 1) (hm : all.length <= 100000000000) (hl : log.size <= 9000000000000000) (p : Lp) (av : Value) : yS p t ol x all log L av u:=by
 have hI:=h.tk u k hu
 have hal : L.all.length = all.length:=by rw [r.al,List.length_map]
 have lR:=r.lg
 have hk0 : k.kind ≠ 0:=by rw [hk];decide
 have n3 : k.kind = 3 -> False:=fun q=>by rw [hk] at q;simp at q
 cases hd : k.drawn with
 | false =>
   obtain ⟨e,h'⟩:=h.draws hu (.inl hk) hd;exact iZ r hu hk0 p av (k':={ k with drawn:=true,ticket:=x.aN }) e h' rfl ⟨rfl,rfl,rfl⟩ (fun q=>(n3 q).elim)
 | true=>?_
 by_cases ht : k.ticket = x.turn
 ·have hq:=gT (hI.rq hk0) hk
  have hq4 : k.events.size <= 4:=hq.2.1;have hev : ∀ j,j < k.events.size -> bN (af k.events j) = true:=hq.2.2.1;have hg:=h.yJ
  by_cases hv : 0 < k.fired \/ k.at_ < 0 \/ k.at_ = (all.length : Int) - 1
  ·have hat : k.at_ < 0 \/ k.at_ = (all.length : Int) - 1:=by
    rcases hv with c | c
    ·exact (hI.wk c).2.2.2.2.1
    exact c
   obtain ⟨s,o,hfi,hlt,hc⟩:=h.JT hR hu hk hd ht hv;obtain ⟨e0,hz⟩:=u9 hfi;have es : s = Cf ol (lastOf all) k.events k.fired:=congrArg Prod.fst e0
   rcases hc with ⟨_,hne,e,h'⟩ | ⟨s',o',hN,c,e,h'⟩ | ⟨s',o',hN,c,e,h'⟩
   ·refine fX r hu hk0 p av e h' rfl (Nat.le_refl _) (by omega) (by omega) ?_
    intro s1;rw [<- r.al,<- lR];refine .inl ⟨hk,rfl,rfl,fun W hW=>?_⟩
    have hgd:=fun i (hi : i <= k.fired)=>yR hR hg (ev:=k.events) i (fun j hj=>hz j (by omega))
    have:=u3 W hW ⟨k.kind,k.events,k.at_⟩ (by show k.at_ < 0 \/ k.at_ = (L.all.length : Int) - 1;rw [hal];exact hat) (a:=bC ol.ag (lastOf all)) (by show L.all[L.all.length - 1]? = _;rw [r.al];exact AO h.pos) (by show L.all.length <= _;omega)
     (m:=k.fired) (S:=fun i=>bC ol.ag (Cf ol (lastOf all) k.events i)) (D:=fun i=>(aL ol (Cf ol (lastOf all) k.events i) (af k.events i)).2.1) (O:=AN ol (lastOf all) k.events)
     (by show k.events.size <= _;omega) (by show k.fired <= k.events.size;omega) rfl rfl (fun _=>rfl) (fun i hi=>by have:=px hol (lastOf all) k.events i;omega) (by show L.log.size <= _;rw [lR];omega)
     (fun i hi=>u_ hR (hgd i (by omega)) (by show i < k.events.size;omega) (hev i (by omega)) (hz i hi))
     (fun _=>DZ hR (hgd k.fired (Nat.le_refl _)) hlt (hev _ hlt) (by rw [<- es];exact hne))
    rw [if_neg (by show ¬ k.fired = k.events.size;omega)] at this;unfold kE at this;rw [if_neg (by show ¬ k.fired = k.events.size;omega)] at this;rw [<- hal];exact hid this
   ·exact iZ r hu hk0 p av (k':={ k with fired:=k.fired + 1,now:=s',out:=o' }) e h' rfl ⟨rfl,rfl,rfl⟩ (fun q=>(n3 q).elim)
   obtain ⟨e1,hz1⟩:=u9 hN;have hsz:=px hol (lastOf all) k.events (k.fired + 1);have eo : o' = AN ol (lastOf all) k.events (k.fired + 1):=congrArg Prod.snd e1;have es' : s' = Cf ol (lastOf all) k.events (k.fired + 1):=congrArg Prod.fst e1;refine fX r hu hk0 p av e h' rfl (by simp) (by simp) (by rw [ByteArray.size_append,eo];omega) ?_;intro s1;refine .inl ⟨hk,rfl,rfl,fun W hW=>?_⟩
   have hgd:=fun i (hi : i <= k.events.size)=>yR hR hg (ev:=k.events) i (fun j hj=>hz1 j (by omega))
   have:=u3 W hW ⟨k.kind,k.events,k.at_⟩ (by show k.at_ < 0 \/ k.at_ = (L.all.length : Int) - 1;rw [hal];exact hat) (a:=bC ol.ag (lastOf all)) (by show L.all[L.all.length - 1]? = _;rw [r.al];exact AO h.pos) (by show L.all.length <= _;omega)
    (m:=k.events.size) (S:=fun i=>bC ol.ag (Cf ol (lastOf all) k.events i)) (D:=fun i=>(aL ol (Cf ol (lastOf all) k.events i) (af k.events i)).2.1) (O:=AN ol (lastOf all) k.events)
    (by show k.events.size <= _;omega) (Nat.le_refl _) rfl rfl (fun _=>rfl) (fun i hi=>by have:=px hol (lastOf all) k.events i;omega) (by show L.log.size <= _;rw [lR];omega)
    (fun i hi=>u_ hR (hgd i (by omega)) hi (hev i hi) (hz1 i (by omega)))
    (fun c=>absurd c (Nat.lt_irrefl _))
   rw [if_pos rfl] at this;unfold kE at this;rw [if_pos rfl] at this
   have e3 : (L.all ++ [bC ol.ag (Cf ol (lastOf all) k.events k.events.size)]) = (all ++ [s']).map (bC ol.ag):=by rw [r.al,List.map_append,es',c];rfl
   simp only at this;rw [e3,lR,hal,<- c,<- eo,c] at this;exact hid this
  have hf : k.fired = 0:=by omega
  obtain ⟨e,h'⟩:=h.lK hu hk hd ht hf (by omega) (by omega);refine fX r hu hk0 p av e h' rfl (Nat.le_refl _) (by omega) (by omega) ?_;intro s;rw [<- r.al,<- lR];refine .inl ⟨hk,rfl,rfl,fun W hW=>?_⟩;have:=DR W hW ⟨k.kind,k.events,k.at_⟩ (by show 0 <= k.at_;omega) (by show k.at_ ≠ (L.all.length : Int) - 1;rw [hal];omega) (by show L.all.length <= _;omega);rw [<- hal];exact hid (this.mono (fun y w' g=>⟨g.1,sG.of (hW.au g.2) (g.2.mono (fun _ _ x=>x.elim))⟩))
 have e:=SI.waits (ol:=ol) hu (.inl hk) hd ht;exact iZ r hu hk0 p av (k':=k) e h (sP hu).symm ⟨rfl,rfl,rfl⟩ (fun q=>(n3 q).elim)
theorem Hc (hR : sf t ol) (hol : ol.Ok) (h : SI ol x all log) (r : LR ol x all log L) (hu : x.tasks[u]? = some k) (hm : all.length <= 100000000000) (hl : log.size <= 9000000000000000) (p : Lp) (av : Value) : yS p t ol x all log L av u:=by
 by_cases q : k.kind = 0
 ·exact AP h r hu q p av
 rcases mj ((h.tk u k hu).rq q) with c | c | c | c
 ·exact AT hR hol h r hu c hm hl p av
 ·exact AS hR hol h r hu c hm hl p av
 ·exact AR h r hu c hm p av
 exact AQ h r hu c hm hl p av
end
end Go.Proofs.YtnlbchmfcebeeaaGreat
