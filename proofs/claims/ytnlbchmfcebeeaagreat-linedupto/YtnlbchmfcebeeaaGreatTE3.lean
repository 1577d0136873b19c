import Derived.Test.YtnlbchmfcebeeaaGreatTB5
import Derived.Deep.CutRange
set_option maxHeartbeats 12800000
set_option maxRecDepth 100000
namespace Go.Proofs.YtnlbchmfcebeeaaGreat
open Go.Proofs.Tryz Ch
open Go.RowKit
namespace Ch
def dL (ss : List St) (act : List Bool) (d : Int) : Nat -> Nat -> List Bool -> List Bool
 | 0,_,l=>l
 | f + 1,k,l=>dL ss act d f (k + 1) (if has act (k : Int) && an ss d (k : Int) then kZ l (k : Int) true else l)
def leaves (ol : Ol) (s : Sd) (t : Nat) : List Bool:=match ol.bH[t]? with
 | some x=>if x.target == 45 then cJ else dL ol.ag s.act (dom ol.ag x.state x.target) ol.ag.length 0 cJ
 | none=>cJ
theorem xz (ss : List St) (act : List Bool) (d : Int) : ∀ (f k : Nat) (l : List Bool),(dL ss act d f k l).length = l.length:=by
 intro f
 induction f with
 | zero=>intro k l;rfl
 | succ f ih=>intro k l;simp only [dL];rw [ih];split <;> simp [gh]
theorem iO (ol : Ol) (s : Sd) (t : Nat) : (leaves ol s t).length = 16:=by
 unfold leaves
 split
 ·split
  ·rfl
  rw [xz];rfl
 rfl
def dI (ol : Ol) (s : Sd) (t : Nat) : List Int -> List Int -> Option (List Int)
 | [],kept=>some (kept ++ [(t : Int)])
 | x :: l,kept=>if meets (leaves ol s t) (leaves ol s x.toNat) then (if within ol t x.toNat then dI ol s t l kept else none) else dI ol s t l (kept ++ [x])
def admis (ol : Ol) (s : Sd) (list : List Int) (t : Nat) : List Int:=match dI ol s t list [] with | some l=>l | none=>list
def dD (ol : Ol) (s : Sd) : List Int -> List Int -> List Int
 | [],acc=>acc
 | x :: l,acc=>dD ol s l (admis ol s acc x.toNat)
def choose (ol : Ol) (s : Sd) (trg : Int) : List Int:=dD ol s (find ol s trg) []
theorem CQ {ol : Ol} {s : Sd} {t : Nat} (ht : t < ol.bH.length) : ∀ (l kept r : List Int),InT ol l -> InT ol kept -> dI ol s t l kept = some r -> InT ol r /\ r.length <= kept.length + l.length + 1:=by
 intro l
 induction l with
 | nil =>
   intro kept r _ hk h;simp only [dI,Option.some.injEq] at h;subst h;refine ⟨?_,by simp⟩;intro n hn
   rcases List.mem_append.1 hn with hn | hn
   ·exact hk n hn
   simp at hn;subst hn;omega
 | cons x l ih=>?_
 intro kept r hl hk h;have hx:=hl x (by simp)
 have hl' : InT ol l:=fun n hn=>hl n (by simp [hn])
 simp only [dI] at h
 split at h
 ·split at h
  ·obtain ⟨h1,h2⟩:=ih kept r hl' hk h
   exact ⟨h1,by simp;omega⟩
  simp at h
 obtain ⟨h1,h2⟩:=ih (kept ++ [x]) r hl' (fun n hn=>by
  rcases List.mem_append.1 hn with hn | hn
  ·exact hk n hn
  simp at hn;subst hn;exact hx) h
 refine ⟨h1,?_⟩;simp at h2 ⊢;omega
theorem xA {ol : Ol} {s : Sd} {t : Nat} (ht : t < ol.bH.length) {l : List Int} (hl : InT ol l) : InT ol (admis ol s l t) /\ (admis ol s l t).length <= l.length + 1:=by
 unfold admis
 split
 ·rename_i r h
  have:=CQ ht l [] r hl (by intro n hn;simp at hn) h;exact ⟨this.1,by have:=this.2;simp at this;omega⟩
 exact ⟨hl,by omega⟩
theorem zR {ol : Ol} {s : Sd} : ∀ (l acc : List Int),InT ol l -> InT ol acc -> InT ol (dD ol s l acc) /\ (dD ol s l acc).length <= acc.length + l.length:=by
 intro l
 induction l with
 | nil=>intro acc _ h;exact ⟨h,by simp [dD]⟩
 | cons x l ih=>?_
 intro acc hl h;have hx:=hl x (by simp);simp only [dD];have ha:=xA (s:=s) (t:=x.toNat) (by omega) h;obtain ⟨h1,h2⟩:=ih (admis ol s acc x.toNat) (fun n hn=>hl n (by simp [hn])) ha.1;exact ⟨h1,by have:=ha.2;simp;omega⟩
theorem xB {ol : Ol} {s : Sd} {trg : Int} {fl : List Int} {k : Nat} (h : InT ol fl) : InT ol (dQ ol s trg fl k) /\ (dQ ol s trg fl k).length <= fl.length + 1:=by
 unfold dQ
 split
 ·rename_i q
  simp only [Bool.and_eq_true,bne_iff_ne] at q;refine ⟨?_,by simp⟩;intro n hn
  rcases List.mem_append.1 hn with hn | hn
  ·exact h n hn
  simp at hn;subst hn
  rcases pG ol s trg ((k : Int) + 2).toNat k with e | ⟨j,e,hj⟩
  ·exact absurd e q.1.2
  unfold dC;rw [e];omega
 exact ⟨h,by omega⟩
theorem Fe {ol : Ol} {s : Sd} {trg : Int} : ∀ (f k : Nat) (fl : List Int),InT ol fl -> InT ol (findF ol s trg f k fl) /\ (findF ol s trg f k fl).length <= fl.length + f:=by
 intro f
 induction f with
 | zero=>intro k fl h;exact ⟨h,by simp [findF]⟩
 | succ f ih=>?_
 intro k fl h;simp only [findF];have h0:=xB (s:=s) (trg:=trg) (k:=k) h;obtain ⟨h1,h2⟩:=ih (k + 1) _ h0.1;exact ⟨h1,by have:=h0.2;omega⟩
theorem vL (ol : Ol) (s : Sd) (trg : Int) : InT ol (find ol s trg) /\ (find ol s trg).length <= ol.ag.length:=by
 have:=Fe (ol:=ol) (s:=s) (trg:=trg) ol.ag.length 0 [] (by intro n hn;simp at hn);exact ⟨this.1,by have h2:=this.2;simp only [List.length_nil,Nat.zero_add] at h2;exact h2⟩
theorem jO (ol : Ol) (s : Sd) (trg : Int) : InT ol (choose ol s trg) /\ (choose ol s trg).length <= ol.ag.length:=by
 have h:=vL ol s trg;have:=zR (s:=s) (find ol s trg) [] h.1 (by intro n hn;simp at hn);exact ⟨this.1,by have h2:=this.2;have:=h.2;simp only [List.length_nil,Nat.zero_add] at h2;unfold choose;omega⟩
def ky (ol : Ol) (s : Sd) : List Int -> List Bool -> List Bool
 | [],l=>l
 | x :: r,l=>ky ol s r (join l (leaves ol s x.toNat))
def cO (ol : Ol) (s : Sd) (list : List Int) : List Bool:=ky ol s list cJ
theorem CR (ol : Ol) (s : Sd) : ∀ (r : List Int) (l : List Bool),l.length = 16 -> (ky ol s r l).length = 16:=by
 intro r
 induction r with
 | nil=>intro l h;exact h
 | cons x r ih=>intro l h;simp only [ky];exact ih _ (nA _ _)
theorem xC (ol : Ol) (s : Sd) (list : List Int) : (cO ol s list).length = 16:=CR _ _ _ _ rfl
def oS (ol : Ol) (t : Nat) : List Ac:=match ol.bH[t]? with | some x=>x.acts | none=>[]
def fF (ol : Ol) : List Int -> Ma -> Ma
 | [],m=>m
 | x :: l,m=>fF ol l (cV (oS ol x.toNat) m)
def cL (ol : Ol) (aP : List Bool) (goals : List Int) : Nat -> Nat -> Ma -> Ma
 | 0,_,m=>m
 | f + 1,k,m=>cL ol aP goals f (k + 1) (if eM ol.ag m.s.act aP goals (k : Int) then ck ol m k else m)
def enter (ol : Ol) (m : Ma) (list : List Int) : Ma:=cL ol m.s.act (bI ol m.s list) ol.ag.length 0 m
def dE (ol : Ol) (m : Ma) (list : List Int) : Ma :=
 enter ol (fF ol list (cu ol (cO ol m.s list) ol.ag.length { m with s:=rem ol.ag m.s (cO ol m.s list) })) list
def busy (ol : Ol) (m : Ma) : Bool:=decide (0 < (choose ol m.s 46).length) || decide (0 < m.q.length)
def round (ol : Ol) (m : Ma) : Ma :=
 if (choose ol m.s 46).length == 0 then match m.q with
  | []=>dE ol m (choose ol m.s 46)
  | a :: q=>dE ol { m with q:=q } (choose ol m.s a)
 else dE ol m (choose ol m.s 46)
def rounds (ol : Ol) : Nat -> Ma -> Ma
 | 0,m=>m
 | n + 1,m=>if busy ol m then rounds ol n (round ol m) else m
def finish (ol : Ol) (n : Nat) (m : Ma) : Sd × ByteArray × Int :=
 if busy ol (rounds ol n m) then (fY,ByteArray.empty,9) else ((rounds ol n m).s,strOfNums (rounds ol n m).out,0)
def mstart (ol : Ol) : Sd × ByteArray × Int:=finish ol 30 (enter ol ⟨bp ol.ag,[],[]⟩ [])
def aL (ol : Ol) (s : Sd) (ev : Int) : Sd × ByteArray × Int:=finish ol 29 (dE ol ⟨s,[],[]⟩ (choose ol s ev))
theorem zS (ol : Ol) (s : Sd) : ∀ (l : List Int),(bI ol s l).length <= l.length:=by
 intro l
 induction l with
 | nil=>simp [bI]
 | cons x l ih=>?_
 simp only [bI]
 split
 ·split
  ·simp;omega
  simp;omega
 simp;omega
theorem Ma.Sz.le {m : Ma} {a b : Nat} (h : m.Sz a) (hab : a <= b) : m.Sz b:=⟨Nat.le_trans h.1 hab,Nat.le_trans h.2 hab⟩
theorem uu (ol : Ol) (left : List Bool) : ∀ (k : Nat) {m : Ma},m.s.Ok -> (cu ol left k m).s.Ok:=by
 intro k
 induction k with
 | zero=>intro m h;exact h
 | succ k ih=>?_
 intro m h;simp only [cu];refine ih ?_
 split
 ·exact jM (ld _ _ _ h) _ _
 exact h
theorem uw {ol : Ol} (hol : ol.Ok) (left : List Bool) : ∀ (k : Nat) {m : Ma} {n : Nat},m.Sz n -> (cu ol left k m).Sz (n + 115200 * k):=by
 intro k
 induction k with
 | zero=>intro m n h;simpa [cu] using h
 | succ k ih=>?_
 intro m n h;simp only [cu]
 have h1 : (if has left (k : Int) then dz (cD k 36 ol.cM m) k false else m : Ma).Sz (n + 115200):=by
  split
  ·exact ma hol _ _ h
  exact h.le (by omega)
 exact (ih h1).le (by omega)
theorem Ff (ol : Ol) : ∀ (l : List Int) {m : Ma},m.s.Ok -> (fF ol l m).s.Ok:=by
 intro l
 induction l with
 | nil=>intro m h;exact h
 | cons x l ih=>intro m h;simp only [fF];exact ih (l_ _ h)
theorem zT {ol : Ol} (hol : ol.Ok) (t : Nat) : (oS ol t).length <= 240:=by
 unfold oS
 split
 ·rename_i x hx;exact (hol.kx x (List.mem_of_getElem? hx)).1
 simp
theorem Fg {ol : Ol} (hol : ol.Ok) : ∀ (l : List Int) {m : Ma} {n : Nat},m.Sz n -> (fF ol l m).Sz (n + 480 * l.length):=by
 intro l
 induction l with
 | nil=>intro m n h;simpa [fF] using h
 | cons x l ih=>?_
 intro m n h;simp only [fF];exact (ih (oN h (zT hol _))).le (by simp;omega)
theorem CS (ol : Ol) (aP : List Bool) (goals : List Int) : ∀ (f k : Nat) {m : Ma},m.s.Ok -> (cL ol aP goals f k m).s.Ok:=by
 intro f
 induction f with
 | zero=>intro k m h;exact h
 | succ f ih=>?_
 intro k m h;simp only [cL];refine ih _ ?_
 split
 ·exact rF h _
 exact h
theorem CT {ol : Ol} (hol : ol.Ok) (aP : List Bool) (goals : List Int) : ∀ (f k : Nat) {m : Ma} {n : Nat},m.Sz n -> (cL ol aP goals f k m).Sz (n + 115202 * f):=by
 intro f
 induction f with
 | zero=>intro k m n h;simpa [cL] using h
 | succ f ih=>?_
 intro k m n h;simp only [cL]
 have h1 : (if eM ol.ag m.s.act aP goals (k : Int) then ck ol m k else m : Ma).Sz (n + 115202):=by
  split
  ·exact rG hol h _
  exact h.le (by omega)
 exact (ih (k + 1) h1).le (by omega)
theorem nK {ol : Ol} {m : Ma} (h : m.s.Ok) (list : List Int) : (enter ol m list).s.Ok:=CS _ _ _ _ _ h
theorem rJ {ol : Ol} (hol : ol.Ok) {m : Ma} {n : Nat} (h : m.Sz n) (list : List Int) : (enter ol m list).Sz (n + 1900000):=by
 have:=CT hol m.s.act (bI ol m.s list) ol.ag.length 0 h;have h16:=hol.ag;exact this.le (by omega)
theorem Fh {ss : List St} {s : Sd} (left : List Bool) (h : s.Ok) : (rem ss s left).Ok:=⟨Kr left h.1,h.2⟩
theorem jP {ol : Ol} {m : Ma} (h : m.s.Ok) (list : List Int) : (dE ol m list).s.Ok :=
 nK (Ff _ _ (uu _ _ _ (Fh _ h))) _
theorem lf {ol : Ol} (hol : ol.Ok) {m : Ma} {n : Nat} (h : m.Sz n) {list : List Int} (hl : list.length <= 16) : (dE ol m list).Sz (n + 3900000):=by
 have h16:=hol.ag;have h1 : ({ m with s:=rem ol.ag m.s (cO ol m.s list) } : Ma).Sz n:=h;have h2:=uw hol (cO ol m.s list) ol.ag.length h1;have h3:=Fg hol list h2;exact (rJ hol h3 list).le (by omega)
theorem xD {ol : Ol} {m : Ma} (h : m.s.Ok) : (round ol m).s.Ok:=by
 unfold round
 split
 ·split
  ·exact jP h _
  rename_i q _;exact jP (m:={ m with q:=q }) h _
 exact jP h _
theorem mc {ol : Ol} (hol : ol.Ok) (s : Sd) (trg : Int) : (choose ol s trg).length <= 16:=by
 have:=(jO ol s trg).2;have:=hol.ag;omega
theorem xE {ol : Ol} (hol : ol.Ok) {m : Ma} {n : Nat} (h : m.Sz n) : (round ol m).Sz (n + 3900000):=by
 unfold round
 split
 ·split
  ·exact lf hol h (mc hol _ _)
  rename_i a q e;refine lf hol (m:={ m with q:=q }) ?_ (mc hol _ _);refine ⟨?_,h.2⟩;have:=h.1;rw [e] at this;simp at this ⊢;omega
 exact lf hol h (mc hol _ _)
theorem mJ (ss : List St) : (bp ss).Ok:=⟨iL ss,by simp [bp],by simp [bp]⟩
theorem xF {ss : List St} {a p t : ByteArray} {x y z : Int} : (take ss a p t x y z).2.Ok:=by
 have h0 : fY.Ok:=⟨l7,by simp [fY],by simp [fY]⟩
 unfold take
 split
 ·split
  ·split
   ·rename_i q
    simp only [Bool.and_eq_true,om,decide_eq_true_eq] at q;obtain ⟨⟨⟨q1,q2⟩,q3⟩,q4⟩:=q;refine ⟨⟨ka ss a,jz ss p⟩,⟨q2,q3,q4⟩,?_⟩;show t.size <= 17;unfold fR at q1
    split at q1
    ·simp at q1
    rename_i q5;simp only [Bool.or_eq_true,decide_eq_true_eq,not_or] at q5;omega
   exact h0
  exact h0
 exact h0
end Ch
def eI (l : List Bool) : Array Value:=(l.map Value.bool).toArray
section
variable {w : World} {b : Nat} {l : List Bool}
theorem fj.row (h : fj w b [] l [] 91) : w.heap[b]? = some (.cells (eI l) 91 (0,0)):=by unfold fj at h;simpa [eI] using h
theorem fj.ofRow (h : w.heap[b]? = some (.cells (eI l) 91 (0,0))) : fj w b [] l [] 91:=by unfold fj;simpa [eI] using h
theorem fU (h : l.length = 16) : (eI l).size = 16:=by simp [eI,h]
theorem gL (h : l.length = 16) : (prog.info? 91).map (·.size) = some (eI l).size:=by rw [fU h];exact jk
theorem iP (l : List Bool) : (eI l).all (·.oneCell') = true:=by
 apply Array.all_eq_true_iff_forall_mem.2;intro x hx;simp only [eI,List.mem_toArray,List.mem_map] at hx;obtain ⟨a,_,rfl⟩:=hx;rfl
end
theorem Kp.cell0 {w w' : World} (k : Kp (fun _=>False) w w') {p : Addr} {v : Value} (h : w.cell? p = some v) : w'.cell? p = some v:=by
 have hlt:=World.block_lt_of_cell? w _ h;have e:=k.block p.block hlt (fun x=>x);unfold World.cell? at *;rw [e];exact h
section
variable (w : World) (mb ob po : Nat) (s : Sd) (qv ov : Value) (ol : Ol)
theorem mK (t : Nat) (ht : t < ol.bH.length) (hm : eF w mb ob po s qv ov) (hw : s.Wf) (hp : Pl w ob po ol) (hol : ol.Ok) :
 Calls prog 176 #[.pointer (some ⟨mb,0,none⟩),.int .i64 t] w fun x w'=>x = .returned (.agg (eI (Ch.leaves ol s t))) /\ Kp (fun _=>False) w w':=by
 obtain ⟨ds,hds,eH⟩:=rr;have mE:=hol.ag
 have ht' : (t : Int) < (ol.bH.length : Int):=by omega
 obtain ⟨a,ha⟩ : ∃ s,ol.bH[t]? = some s:=⟨_,List.getElem?_eq_getElem ht⟩
 have K2 : Kp (fun _=>False) w ((w.alloc (.cells aW 91)).alloc (.cells aW 91)):=((Kp.refl _ _).alloc _).alloc _
 have hr2 : ((w.alloc (.cells aW 91)).alloc (.cells aW 91)).heap[w.heap.size]? = some (.cells aW 91):=by
  rw [Below.heap_alloc _ _ _ (by simp)];exact heap_alloc_new _ _
 have hv2 : ((w.alloc (.cells aW 91)).alloc (.cells aW 91)).heap[w.heap.size + 1]? = some (.cells aW 91):=heap_alloc2_new w _ _
 have hsz2 : ((w.alloc (.cells aW 91)).alloc (.cells aW 91)).heap.size = w.heap.size + 2:=by simp
 have hmb:=hm.lt;have cp : ((w.alloc (.cells aW 91)).alloc (.cells aW 91)).cell? ⟨mb,0,none⟩ = some (.pointer (some ⟨ob,po,none⟩)):=eF.plan (bM.keep hm K2 (fun x=>x));have hm2 : eF ((w.alloc (.cells aW 91)).alloc (.cells aW 91)) mb ob po s qv ov:=bM.keep hm K2 (fun x=>x);have hp2 : Pl ((w.alloc (.cells aW 91)).alloc (.cells aW 91)) ob po ol:=hp.keep K2 (fun _ _ _ _ _ x=>x);obtain ⟨g,cap,ac,base,c3,cc,hac⟩:=hp2.tr ha;have c0:=cc 0 (by omega);have c1:=cc 1 (by omega);have c2:=cc 2 (by omega);have c4:=cc 4 (by omega);have c5:=cc 5 (by omega);have c6:=cc 6 (by omega);have OX:=cc 3 (by omega);simp only [List.getElem?_cons_succ,List.getElem?_cons_zero,Nat.add_zero] at c0 c1 c2 OX c4 c5 c6;clear cc hac hp hm
 cases q1 : a.target == 45 with
 | true =>
   rw [show Ch.leaves ol s t = cJ by simp [Ch.leaves,ha,q1]];clear hm2 hp2
   go_enter func176,ntmps176
   go_wp2_with fail
   generalize ((w.alloc (.cells aW 91)).alloc (.cells aW 91)) = w2 at *;refine bodyPost_ret (results_cell_row rfl _ _ w.heap.size 91 aW (0,0) ds rfl hr2 hds (by cases ds <;> first | rfl | exact absurd eH (by simp [ar])) jk) rfl ?_;exact ⟨rfl,K2⟩
 | false=>?_
 rw [show Ch.leaves ol s t = dL ol.ag s.act (dom ol.ag a.state a.target) ol.ag.length 0 cJ by simp [Ch.leaves,ha,q1]];have E1:=hid (zH ob po ((w.alloc (.cells aW 91)).alloc (.cells aW 91)).drew ol.ag a.state a.kG a.guard.var a.guard.sign a.guard.digit a.target ac hol.up (by exact hp2.str) (by omega))
 go_enter func176,ntmps176
 go_upto_region 4 with (fail)
 generalize hw2 : ((w.alloc (.cells aW 91)).alloc (.cells aW 91)) = w2 at *;clear hw2
 go_cut [6] from 21 to 35 (fun d wx=>d = .int .i64 (dom ol.ag a.state a.target) /\ Kp (fun _=>False) w2 wx)
 case first =>
  go_region_held3 (fun w'=>w'.cell? ⟨mb,0,none⟩ = some (.pointer (some ⟨ob,po,none⟩)) /\ w'.cell? ⟨ob,po + 3,none⟩ = some (.slice (some ⟨g,0,none⟩) ol.bH.length cap) /\ w'.cell? ⟨g,t * 7,none⟩ = some (.int .i64 a.state) /\ w'.cell? ⟨g,t * 7 + 1,none⟩ = some (.int .u8 a.kG) /\ w'.cell? ⟨g,t * 7 + 2,none⟩ = some (.int .u8 a.guard.var) /\ w'.cell? ⟨g,t * 7 + 3,none⟩ = some (.int .u8 a.guard.sign) /\ w'.cell? ⟨g,t * 7 + 4,none⟩ = some (.int .i64 a.guard.digit) /\ w'.cell? ⟨g,t * 7 + 5,none⟩ = some ac /\ w'.cell? ⟨g,t * 7 + 6,none⟩ = some (.int .u8 a.target)) (first | exact ⟨cp,c3,c0,c1,c2,OX,c4,c5,c6⟩ | exact HS.out) ((go_at_call 222;refine br E1 ?_;rintro x w3 ⟨rfl,K3⟩;have H:=hid K3;have HS:=hid (ae (K3.cell0 cp) (ae (K3.cell0 c3) (ae (K3.cell0 c0) (ae (K3.cell0 c1) (ae (K3.cell0 c2) (ae (K3.cell0 OX) (ae (K3.cell0 c4) (ae (K3.cell0 c5) (K3.cell0 c6)))))))));clear E1 K3))
  all_goals (go_wp2_with fail;go_meet;exact ⟨rfl,((Kp.refl (fun _=>False) w2).drewN 1).trans H.out⟩)
 case rest =>
  obtain ⟨rfl,KC⟩:=hcut;have hmc : eF wc mb ob po s qv ov:=bM.keep hm2 KC (fun x=>x);have hpc : Pl wc ob po ol:=hp2.keep KC (fun _ _ _ _ _ x=>x);have hrc:=KC.at_ hr2 (fun x=>x);have Si : fj wc (w.heap.size + 1) [] cJ [] 91:=fj.ofRow (KC.at_ hv2 (fun x=>x));have KW:=K2.trans KC
  have hnr : ∀ cur T,wc.heap[w.heap.size + 1]? = some (.cells cur T (0,0)) -> T = 91:=by
   intro cur T h;rw [fj.row Si] at h;simp at h;exact h.2.symm
  clear E1 hm2 hp2 hr2 hv2 K2 KC cp c0 c1 c2 c3 c4 c5 c6 OX q1 ha;generalize LZ : dom ol.ag a.state a.target = dm at *;have HD:=hid LZ;clear LZ
  go_wp2_with fail
  go_loopw [7] (fun i wr=>∃ (k : Nat) (l : List Bool),i = .int .i64 k /\ k <= ol.ag.length /\ l.length = 16 /\ Hid (dL ol.ag s.act dm ol.ag.length 0 cJ = dL ol.ag s.act dm (ol.ag.length - k) k l) /\ fj wr (w.heap.size + 1) [] l [] 91 /\ Kp (fun k=>k = w.heap.size + 1) wc wr) (fun i _=>ol.ag.length - (intOf i).toNat)
  case atStart=>exact ⟨0,cJ,rfl,Nat.zero_le _,rfl,hid rfl,Si,Kp.refl _ _⟩
  case round =>
   obtain ⟨k,l,rfl,hk,h16,HE,h1,K1⟩:=hrel;have hmr : eF wr mb ob po s qv ov:=bM.keep hmc K1 (fun x=>by omega);have hpr : Pl wr ob po ol:=hpc.keep K1 (fun i cur T hi hT x=>by subst x;have:=hnr _ _ hi;subst this;revert hT;unfold Im oT;decide);have hrr:=K1.at_ hrc (fun x=>by omega);have KX : Kp (fun _=>False) w wr:=KW.trans' K1 (fun i hi x=>by omega);have cp:=hmr.plan;obtain ⟨ao,cap,c2⟩:=hpr.str.len
   by_cases hlt : k < ol.ag.length
   ·have hlt' : (k : Int) < (ol.ag.length : Int):=by omega
    have ef : ol.ag.length - k = (ol.ag.length - (k + 1)) + 1:=by omega
    have E1:=hid (fk wr mb 1 [.pointer (some ⟨ob,po,none⟩)] s.act (bg s ++ [qv,ov]) 149 k hmr hw.1 rfl);have E2:=hid (gX ob po wr ol.ag dm k hol.up hpr.str (by omega));have E3:=hid (vw wr (w.heap.size + 1) 0 [] l [] 91 k h1 h16 rfl);have HK:=hid (ae K1 h1)
    cases q1 : Ch.has s.act (k : Int) with
    | false =>
      rw [q1] at E1;have HF:=hid (HE.out.trans (show _ = dL ol.ag s.act dm (ol.ag.length - (k + 1)) (k + 1) l by rw [ef];simp only [dL];rw [q1];rfl));clear HE ef K1 KX h1 hmr hpr hrr
      go_wp2_with fail
      refine br E1 ?_;rintro x w1 ⟨rfl,rfl⟩
      go_wp2_with fail
      go_roundw
      case rel=>exact ⟨k + 1,l,by go_num,by omega,h16,HF,HK.out.2,HK.out.1⟩
      case measure=>simp [intOf];omega
    | true=>?_
    rw [q1] at E1
    cases q2 : an ol.ag dm (k : Int) with
    | false =>
      rw [q2] at E2;have HF:=hid (HE.out.trans (show _ = dL ol.ag s.act dm (ol.ag.length - (k + 1)) (k + 1) l by rw [ef];simp only [dL];rw [q1,q2];rfl));clear HE ef K1 KX h1 hmr hpr hrr
      go_wp2_with fail
      refine br E1 ?_;rintro x w1 ⟨rfl,rfl⟩
      go_wp2_with fail
      refine br E2 ?_;rintro x w1 ⟨rfl,rfl⟩
      go_wp2_with fail
      go_roundw
      case rel=>exact ⟨k + 1,l,by go_num,by omega,h16,HF,HK.out.2,HK.out.1⟩
      case measure=>simp [intOf];omega
    | true=>?_
    rw [q2] at E2;have HF:=hid (HE.out.trans (show _ = dL ol.ag s.act dm (ol.ag.length - (k + 1)) (k + 1) (kZ l (k : Int) true) by rw [ef];simp only [dL];rw [q1,q2];rfl));clear HE ef K1 KX h1 hmr hpr hrr
    go_wp2_with fail
    refine br E1 ?_;rintro x w1 ⟨rfl,rfl⟩
    go_wp2_with fail
    refine br E2 ?_;rintro x w1 ⟨rfl,rfl⟩
    go_wp2_with fail
    refine br E3 ?_;rintro x w3 ⟨rfl,h3,K3⟩;have K4:=HK.out.1.trans K3;clear E1 E2 E3 HK K3
    go_wp2_with fail
    go_roundw
    case rel=>exact ⟨k + 1,_,by go_num,by omega,by rw [gh];exact h16,HF,h3,K4⟩
    case measure=>simp [intOf];omega
   have hge : ¬ (k : Int) < (ol.ag.length : Int):=by omega
   have HF:=hid (HE.out.trans (show _ = l by rw [show ol.ag.length - k = 0 by omega];rfl));have hrow:=h1.row;have hszI:=gL h16;have hsz:=fU h16;have hone:=iP l;have KZ : Kp (fun _=>False) w (wr.setRow w.heap.size (eI l)):=KX.setRow (fun x=>by omega) _;clear HE h1 K1 KX hmr hpr;generalize hL : eI l = L at *;have HL:=hid hL;clear hL
   go_wp2_with (first | refine wpList_load_row rfl 91 (.tmp 5) rfl (w.heap.size + 1) rfl 91 L (0,0) ds hrow hds (by cases ds <;> first | rfl | exact absurd eH (by simp [ar])) hszI ?_ | refine wpList_store_row rfl 91 (.tmp 4) (.tmp 65) rfl w.heap.size L rfl rfl 91 aW hrr hszI hsz.symm hone ?_)
   refine bodyPost_ret (results_cell_row rfl _ _ w.heap.size 91 L (0,0) ds rfl (setRow_heap _ _ _ _ _ _ hrr) hds (by cases ds <;> first | rfl | exact absurd eH (by simp [ar])) hszI) rfl ?_;rw [HD.out,HF.out,HL.out];exact ⟨rfl,KZ⟩
end
section
variable (w : World) (mb ob po : Nat) (s : Sd) (qv ov : Value) (ol : Ol)
theorem CU (v : Value) (list : List Int) (t : Nat) (h : kI w v list) (hin : InT ol list) (hl : list.length <= 1000) (ht : t < ol.bH.length) (hm : eF w mb ob po s qv ov) (hw : s.Wf) (hp : Pl w ob po ol) (hol : ol.Ok) :
 Calls prog 130 #[.pointer (some ⟨mb,0,none⟩),v,.int .i64 t] w fun x w'=>∃ v',x = .returned v' /\ kI w' v' (Ch.admis ol s list t) /\ Kp (fun _=>False) w w':=by
 obtain ⟨i0,hi,hz0,hz1,hz2⟩:=info_parts nJ;obtain ⟨ao,cap,rfl⟩:=h.len;have E0:=hid (mK w mb ob po s qv ov ol t ht hm hw hp hol);have h16:=iO ol s t
 go_enter func130,ntmps130
 go_wp2_with fail
 refine br E0 ?_;rintro x w1 ⟨rfl,K1⟩;have hnew:=heap_alloc_new w1 (.cells aW 91);have hS2:=fj.ofRow (setRow_heap (w1.alloc (.cells aW 91)) w1.heap.size aW (eI (Ch.leaves ol s t)) 91 (0,0) hnew);have K2 : Kp (fun _=>False) w ((w1.alloc (.cells aW 91)).setRow w1.heap.size (eI (Ch.leaves ol s t))):=(K1.alloc _).setRow (fun x=>by have:=K1.size;omega) _;have hm2 : eF ((w1.alloc (.cells aW 91)).setRow w1.heap.size (eI (Ch.leaves ol s t))) mb ob po s qv ov:=bM.keep hm K2 (fun x=>x);have hp2 : Pl ((w1.alloc (.cells aW 91)).setRow w1.heap.size (eI (Ch.leaves ol s t))) ob po ol:=hp.keep K2 (fun _ _ _ _ _ x=>x);have h2 : kI ((w1.alloc (.cells aW 91)).setRow w1.heap.size (eI (Ch.leaves ol s t))) (.slice ao list.length cap) list:=h.keep K2 (fun _ _ _ x=>x);clear hm hp h K1 E0;have hsI:=gL h16;have nL:=fU h16;have hs1:=iP (Ch.leaves ol s t);generalize hlv : eI (Ch.leaves ol s t) = LV at *
 go_wp2_with (refine wpList_store_row rfl 91 (.tmp 7) (.tmp 13) rfl w1.heap.size LV rfl rfl 91 aW hnew hsI nL.symm hs1 ?_)
 generalize (w1.alloc (.cells aW 91)).setRow w1.heap.size LV = w2 at *;generalize w1.heap.size = L1 at *;clear hnew hsI nL hs1 hlv;have hL1:=hS2.lt
 go_loopw [8,9] (fun kv i wr=>∃ (k : Nat) (fl : List Int),i = .int .i64 k /\ k <= list.length /\ wr.ownsRow w2.heap.size 3 1 kv fl.length (bK fl) /\ fl.length <= k /\ Hid (dI ol s t list [] = dI ol s t (list.drop k) fl) /\ Kp (fun _=>False) w2 wr) (fun _ i _=>list.length - (intOf i).toNat)
 case atStart=>exact ⟨0,[],rfl,Nat.zero_le _,World.ownsRow_nil _ _ _ _,Nat.le_refl _,hid rfl,Kp.refl _ _⟩
 case round =>
  obtain ⟨k,fl,rfl,hk,hfo,hfl,HE,KW⟩:=hrel;have hmr : eF wr mb ob po s qv ov:=bM.keep hm2 KW (fun x=>x);have hpr : Pl wr ob po ol:=hp2.keep KW (fun _ _ _ _ _ x=>x);have hr : kI wr (.slice ao list.length cap) list:=h2.keep KW (fun _ _ _ x=>x);have hSr:=hS2.keep KW (fun x=>x)
  by_cases hlt : k < list.length
  ·have hlt' : (k : Int) < (list.length : Int):=by omega
   obtain ⟨a,ha⟩ : ∃ s,list[k]? = some s:=⟨_,List.getElem?_eq_getElem hlt⟩
   obtain ⟨g,cap',hg,a0⟩:=hr.at_ ha;simp only [Value.slice.injEq,true_and] at hg;obtain ⟨rfl,rfl⟩:=hg
   have ed : list.drop k = a :: list.drop (k + 1):=by
    rw [List.drop_eq_getElem_cons hlt];congr 1;exact (List.getElem?_eq_some_iff.1 ha).2
   obtain ⟨ha1,ha2⟩:=hin a (List.mem_of_getElem? ha)
   obtain ⟨j,rfl⟩ : ∃ j : Nat,a = j:=⟨a.toNat,by omega⟩
   have hj : j < ol.bH.length:=by omega
   have E1:=hid (mK wr mb ob po s qv ov ol j hj hmr hw hpr hol);have o16:=iO ol s j
   have step : dI ol s t (list.drop k) fl = if Ch.meets (Ch.leaves ol s t) (Ch.leaves ol s j) then (if Ch.within ol t j then dI ol s t (list.drop (k + 1)) fl else none) else dI ol s t (list.drop (k + 1)) (fl ++ [(j : Int)]):=by
    rw [ed];simp only [dI,Int.toNat_natCast]
   have HX:=hid (ae hmr (ae hpr (ae hfo (ae hr (ae hSr (ae KW step))))));have HA:=hid ha;clear hmr hpr hfo hr hSr KW step ed ha
   go_wp2_with fail
   refine br E1 ?_;rintro x w3 ⟨rfl,K3⟩;obtain ⟨hmr,hpr,hfo,hr,hSr,KW,step⟩:=HX.out;have hnew:=heap_alloc_new w3 (.cells aW 91);have hO4:=fj.ofRow (setRow_heap (w3.alloc (.cells aW 91)) w3.heap.size aW (eI (Ch.leaves ol s j)) 91 (0,0) hnew);have K4 : Kp (fun _=>False) wr ((w3.alloc (.cells aW 91)).setRow w3.heap.size (eI (Ch.leaves ol s j))):=(K3.alloc _).setRow (fun x=>by have:=K3.size;omega) _;have hsI:=gL o16;have nL:=fU o16;have hs1:=iP (Ch.leaves ol s j);have HX:=hid (ae hmr (ae hpr (ae hfo (ae hr (ae hSr (ae KW step))))));clear hmr hpr hfo hr hSr KW step K3 E1;generalize hlv : eI (Ch.leaves ol s j) = LV at *
   go_wp2_with (refine wpList_store_row rfl 91 (.tmp 10) (.tmp 25) rfl w3.heap.size LV rfl rfl 91 aW hnew hsI nL.symm hs1 ?_)
   generalize (w3.alloc (.cells aW 91)).setRow w3.heap.size LV = w4 at *;generalize w3.heap.size = L4 at *;clear hnew hsI nL hs1 hlv;obtain ⟨hmr,hpr,hfo,hr,hSr,KW,step⟩:=HX.out;have Iv : eF w4 mb ob po s qv ov:=bM.keep hmr K4 (fun x=>x);have mL : Pl w4 ob po ol:=hpr.keep K4 (fun _ _ _ _ _ x=>x);have hr4 : kI w4 (.slice (some ⟨g,0,none⟩) list.length cap) list:=hr.keep K4 (fun _ _ _ x=>x);have j3:=hSr.keep K4 (fun x=>x);have Fi:=K4.owns hfo (fun _ _ x=>x);have vD:=KW.trans K4;obtain ⟨g',cap',hg',a4⟩:=hr4.at_ HA.out;simp only [Value.slice.injEq,Option.some.injEq,Addr.mk.injEq,true_and,and_true] at hg';obtain ⟨rfl,rfl⟩:=hg';have E2:=hid (ui w4 L1 0 [] (Ch.leaves ol s t) [] 91 L4 0 [] (Ch.leaves ol s j) [] 91 j3 h16 rfl hO4 o16 rfl);have E3:=hid (zQ w4 mb ob po s qv ov ol t j ht hj Iv mL hol);have HK:=hid (ae Fi (ae hr4 (ae vD step)));clear Iv mL hr4 j3 Fi vD hmr hpr hfo hr hSr KW step HX K4 hO4 a0
   cases q1 : Ch.meets (Ch.leaves ol s t) (Ch.leaves ol s j) with
   | true =>
     rw [q1] at E2
     cases q2 : Ch.within ol t j with
     | true =>
       rw [q2] at E3;have HF:=hid (HE.out.trans (show _ = dI ol s t (list.drop (k + 1)) fl by rw [HK.out.2.2.2,q1,q2];rfl))
       go_wp2_with fail
       refine br E2 ?_;rintro x w5 ⟨rfl,rfl⟩
       go_wp2_with fail
       refine br E3 ?_;rintro x w6 ⟨rfl,K6⟩;obtain ⟨Fi,hr4,vD,step⟩:=HK.out;have OY:=K6.owns Fi (fun _ _ x=>x);have P6:=vD.trans K6;clear Fi hr4 vD step HK K6 E2 E3 a4;go_wp2
       go_roundw
       case rel=>exact ⟨k + 1,fl,by go_num,by omega,OY,by omega,HF,P6⟩
       case measure=>simp [intOf];omega
     | false=>?_
     rw [q2] at E3
     have HF:=hid (show Ch.admis ol s list t = list by
      have e:=HE.out.trans (show _ = none by rw [HK.out.2.2.2,q1,q2];rfl)
      unfold Ch.admis;rw [e])
     go_wp2_with fail
     refine br E2 ?_;rintro x w5 ⟨rfl,rfl⟩
     go_wp2_with fail
     refine br E3 ?_;rintro x w6 ⟨rfl,K6⟩;obtain ⟨Fi,hr4,vD,step⟩:=HK.out;have mw:=hr4.keep K6 (fun _ _ _ x=>x);have P6:=K2.trans (vD.trans K6);clear Fi hr4 vD step HK K6 E2 E3 a4;go_wp2;go_ret;rw [HF.out];exact ⟨_,rfl,mw,P6⟩
   | false=>?_
   rw [q1] at E2;have HF:=hid (HE.out.trans (show _ = dI ol s t (list.drop (k + 1)) (fl ++ [(j : Int)]) by rw [HK.out.2.2.2,q1];rfl))
   go_wp2_with fail
   refine br E2 ?_;rintro x w5 ⟨rfl,rfl⟩;obtain ⟨Fi,hr4,vD,step⟩:=HK.out;clear hr4 step HK E2 E3
   go_wp2_with (at_builtin;refine wpList_append_own _ rfl (.tmp 28) (.tmp 33) 38 rfl w2.heap.size 3 i0 (.int .i64 0) 1 8 underlying38 hi hz0 hz1 hz2 rfl (by decide) _ _ _ rfl (Fi.alloc _) ⟨w5.heap.size,0,none⟩ 1 1 [.int .i64 j] rfl rfl ?c1 ?c2 ?c3 ?c4 ?c5 ?_)
   case c1=>exact fm _ _ _
   case c2=>intro u hu;simp at hu;subst hu;rfl
   case c3=>unfold maxLen;omega
   case c4=>omega
   case c5=>have:=vD.size;simp;omega
   intro v6 w6 o6 g6 _;have K6 : Kp (fun _=>False) w2 w6:=Kp.grown (vD.alloc _) g6 (fun i hi hlt=>by have:=(Fi.lt i hi).1;omega);clear g6 vD Fi a4;go_wp2
   go_roundw
   case rel=>exact ⟨k + 1,_,by go_num,by omega,by simpa [bK] using o6,by simp;omega,HF,K6⟩
   case measure=>simp [intOf];omega
  have hge : ¬ (k : Int) < (list.length : Int):=by omega
  have HF:=hid (show Ch.admis ol s list t = fl ++ [(t : Int)] by
   have e:=HE.out.trans (show _ = some (fl ++ [(t : Int)]) by rw [List.drop_eq_nil_of_le (by omega)];rfl)
   unfold Ch.admis;rw [e])
  clear HE hr hpr hmr hSr
  go_wp2_with (at_builtin;refine wpList_append_own _ rfl (.tmp 44) (.tmp 46) 38 rfl w2.heap.size 3 i0 (.int .i64 0) 1 8 underlying38 hi hz0 hz1 hz2 rfl (by decide) _ _ _ rfl (hfo.alloc _) ⟨wr.heap.size,0,none⟩ 1 1 [.int .i64 t] rfl rfl ?c1 ?c2 ?c3 ?c4 ?c5 ?_)
  case c2=>first | rfl | (intro u hu;simp at hu;subst hu;rfl)
  case c3=>first | (unfold maxLen;omega) | omega | (simp [maxLen];omega)
  case c4=>omega
  case c5=>have:=KW.size;simp;omega
  intro v6 w6 o6 g6 _;have K6 : Kp (fun _=>False) w2 w6:=Kp.grown (KW.alloc _) g6 (fun i hi hlt=>by have:=(hfo.lt i hi).1;omega);have K7:=K2.trans K6;clear g6 KW hfo K6;go_wp2;go_ret;rw [HF.out];exact ⟨_,rfl,⟨_,by simpa [bK] using o6⟩,K7⟩
end
section
variable (w : World) (mb ob po : Nat) (s : Sd) (qv ov : Value) (ol : Ol)
theorem iQ (trg : Int) (hm : eF w mb ob po s qv ov) (hw : s.Wf) (hp : Pl w ob po ol) (hol : ol.Ok) :
 Calls prog 80 #[.pointer (some ⟨mb,0,none⟩),.int .u8 trg] w fun x w'=>∃ v',x = .returned v' /\ kI w' v' (Ch.choose ol s trg) /\ Kp (fun _=>False) w w':=by
 have h16:=hol.ag;have E0:=hid (Fc w mb ob po s qv ov ol trg hm hw hp hol);obtain ⟨hin,hlen⟩:=vL ol s trg;have HU:=hid (show Ch.choose ol s trg = dD ol s (Ch.find ol s trg) [] from rfl)
 go_enter func80,ntmps80
 go_wp2_with fail
 refine br E0 ?_;rintro x w1 ⟨fv,rfl,ho1,K1⟩
 have h1 : kI w1 fv (Ch.find ol s trg):=⟨_,ho1⟩
 have hm1 : eF w1 mb ob po s qv ov:=bM.keep hm K1 (fun x=>x);have hp1 : Pl w1 ob po ol:=hp.keep K1 (fun _ _ _ _ _ x=>x);clear ho1 hm hp E0;generalize Ch.find ol s trg = list at *;obtain ⟨ao,cap,rfl⟩:=h1.len
 go_wp2_with fail
 go_loopw [6,7] (fun kv i wr=>∃ (k : Nat) (fl : List Int),i = .int .i64 k /\ k <= list.length /\ kI wr kv fl /\ fl.length <= k /\ InT ol fl /\ Hid (dD ol s list [] = dD ol s (list.drop k) fl) /\ Kp (fun _=>False) w1 wr) (fun _ i _=>list.length - (intOf i).toNat)
 case atStart=>exact ⟨0,[],rfl,Nat.zero_le _,⟨0,World.ownsRow_nil _ _ _ _⟩,Nat.le_refl _,by intro n hn;simp at hn,hid rfl,Kp.refl _ _⟩
 case round =>
  obtain ⟨k,fl,rfl,hk,hfo,hfl,hfi,HE,KW⟩:=hrel;have hmr : eF wr mb ob po s qv ov:=bM.keep hm1 KW (fun x=>x);have hpr : Pl wr ob po ol:=hp1.keep KW (fun _ _ _ _ _ x=>x);have hr : kI wr (.slice ao list.length cap) list:=h1.keep KW (fun _ _ _ x=>x)
  by_cases hlt : k < list.length
  ·have hlt' : (k : Int) < (list.length : Int):=by omega
   obtain ⟨a,ha⟩ : ∃ s,list[k]? = some s:=⟨_,List.getElem?_eq_getElem hlt⟩
   obtain ⟨g,cap',hg,a0⟩:=hr.at_ ha;simp only [Value.slice.injEq,true_and] at hg;obtain ⟨rfl,rfl⟩:=hg
   have ed : list.drop k = a :: list.drop (k + 1):=by
    rw [List.drop_eq_getElem_cons hlt];congr 1;exact (List.getElem?_eq_some_iff.1 ha).2
   obtain ⟨ha1,ha2⟩:=hin a (List.mem_of_getElem? ha)
   obtain ⟨j,rfl⟩ : ∃ j : Nat,a = j:=⟨a.toNat,by omega⟩
   have hj : j < ol.bH.length:=by omega
   have E1:=hid (CU wr mb ob po s qv ov ol _ fl j hfo hfi (by omega) hj hmr hw hpr hol);have HF:=hid (HE.out.trans (show _ = dD ol s (list.drop (k + 1)) (Ch.admis ol s fl j) by rw [ed];simp only [dD,Int.toNat_natCast]));have hai:=xA (s:=s) hj hfi;clear hmr hpr hr ed ha hfo HE
   go_wp2_with fail
   refine br E1 ?_;rintro x w3 ⟨v3,rfl,h3,K3⟩;have K4:=KW.trans K3;clear E1 K3 KW a0;go_wp2
   go_roundw
   case rel=>exact ⟨k + 1,_,by go_num,by omega,h3,by omega,hai.1,HF,K4⟩
   case measure=>simp [intOf];omega
  have hge : ¬ (k : Int) < (list.length : Int):=by omega
  have HF:=hid (HE.out.trans (show _ = fl by rw [List.drop_eq_nil_of_le (by omega)];rfl));have K2:=K1.trans KW;clear HE hr hpr hmr
  go_wp2_with fail
  go_ret;rw [HU.out,HF.out];exact ⟨_,rfl,hfo,K2⟩
end
section
variable (w : World) (mb ob po : Nat) (s : Sd) (qv ov : Value) (ol : Ol)
theorem xG (v : Value) (list : List Int) (h : kI w v list) (hin : InT ol list) (hl : list.length <= 1000) (hm : eF w mb ob po s qv ov) (hw : s.Wf) (hp : Pl w ob po ol) (hol : ol.Ok) :
 Calls prog 131 #[.pointer (some ⟨mb,0,none⟩),v] w fun x w'=>x = .returned (.agg (eI (cO ol s list))) /\ Kp (fun _=>False) w w':=by
 obtain ⟨ds,hds,eH⟩:=rr;obtain ⟨ao,cap,rfl⟩:=h.len;rw [show cO ol s list = ky ol s list cJ from rfl];have K2 : Kp (fun _=>False) w ((w.alloc (.cells aW 91)).alloc (.cells aW 91)):=((Kp.refl _ _).alloc _).alloc _
 have hr2 : ((w.alloc (.cells aW 91)).alloc (.cells aW 91)).heap[w.heap.size]? = some (.cells aW 91):=by
  rw [Below.heap_alloc _ _ _ (by simp)];exact heap_alloc_new _ _
 have hv2 : ((w.alloc (.cells aW 91)).alloc (.cells aW 91)).heap[w.heap.size + 1]? = some (.cells aW 91):=heap_alloc2_new w _ _
 have hsz2 : ((w.alloc (.cells aW 91)).alloc (.cells aW 91)).heap.size = w.heap.size + 2:=by simp
 have hmb:=hm.lt;have hm2 : eF ((w.alloc (.cells aW 91)).alloc (.cells aW 91)) mb ob po s qv ov:=bM.keep hm K2 (fun x=>x);have hp2 : Pl ((w.alloc (.cells aW 91)).alloc (.cells aW 91)) ob po ol:=hp.keep K2 (fun _ _ _ _ _ x=>x);have h2 : kI ((w.alloc (.cells aW 91)).alloc (.cells aW 91)) (.slice ao list.length cap) list:=h.keep K2 (fun _ _ _ x=>x);clear hp hm h
 go_enter func131,ntmps131
 go_wp2_with fail
 generalize ((w.alloc (.cells aW 91)).alloc (.cells aW 91)) = w2 at *;have hS2 : fj w2 (w.heap.size + 1) [] cJ [] 91:=fj.ofRow hv2
 have hnr : ∀ cur T,w2.heap[w.heap.size + 1]? = some (.cells cur T (0,0)) -> T = 91:=by
  intro cur T h;rw [hv2] at h;simp at h;exact h.2.symm
 go_loopw [6] (fun i wr=>∃ (k : Nat) (l : List Bool),i = .int .i64 k /\ k <= list.length /\ l.length = 16 /\ Hid (ky ol s list cJ = ky ol s (list.drop k) l) /\ fj wr (w.heap.size + 1) [] l [] 91 /\ Kp (fun k=>k = w.heap.size + 1) w2 wr) (fun i _=>list.length - (intOf i).toNat)
 case atStart=>exact ⟨0,cJ,rfl,Nat.zero_le _,rfl,hid rfl,hS2,Kp.refl _ _⟩
 case round =>
  obtain ⟨k,l,rfl,hk,h16,HE,h1,K1⟩:=hrel;have hmr : eF wr mb ob po s qv ov:=bM.keep hm2 K1 (fun x=>by omega);have hpr : Pl wr ob po ol:=hp2.keep K1 (fun i cur T hi hT x=>by subst x;have:=hnr _ _ hi;subst this;revert hT;unfold Im oT;decide);have hr : kI wr (.slice ao list.length cap) list:=h2.keep K1 (fun i cur hi x=>by subst x;have:=hnr _ _ hi;revert this;decide);have hrr:=K1.at_ hr2 (fun x=>by omega);have KX : Kp (fun _=>False) w wr:=K2.trans' K1 (fun i hi x=>by omega)
  by_cases hlt : k < list.length
  ·have hlt' : (k : Int) < (list.length : Int):=by omega
   obtain ⟨a,ha⟩ : ∃ s,list[k]? = some s:=⟨_,List.getElem?_eq_getElem hlt⟩
   obtain ⟨g,cap',hg,a0⟩:=hr.at_ ha;simp only [Value.slice.injEq,true_and] at hg;obtain ⟨rfl,rfl⟩:=hg
   have ed : list.drop k = a :: list.drop (k + 1):=by
    rw [List.drop_eq_getElem_cons hlt];congr 1;exact (List.getElem?_eq_some_iff.1 ha).2
   obtain ⟨ha1,ha2⟩:=hin a (List.mem_of_getElem? ha)
   obtain ⟨j,rfl⟩ : ∃ j : Nat,a = j:=⟨a.toNat,by omega⟩
   have hj : j < ol.bH.length:=by omega
   have E1:=hid (mK wr mb ob po s qv ov ol j hj hmr hw hpr hol);have o16:=iO ol s j;have HF:=hid (HE.out.trans (show _ = ky ol s (list.drop (k + 1)) (Ch.join l (Ch.leaves ol s j)) by rw [ed];simp only [ky,Int.toNat_natCast]));have HX:=hid (ae h1 K1);clear hmr hpr hr ed ha HE h1 K1 KX hrr
   go_wp2_with fail
   refine br E1 ?_;rintro x w3 ⟨rfl,K3⟩;obtain ⟨h1,K1⟩:=HX.out
   have hs3 : w.heap.size + 2 <= w3.heap.size:=by have:=K3.size;have:=K1.size;omega
   have hnew:=heap_alloc_new w3 (.cells aW 91);have hO4:=fj.ofRow (setRow_heap (w3.alloc (.cells aW 91)) w3.heap.size aW (eI (Ch.leaves ol s j)) 91 (0,0) hnew);have K4 : Kp (fun _=>False) wr ((w3.alloc (.cells aW 91)).setRow w3.heap.size (eI (Ch.leaves ol s j))):=(K3.alloc _).setRow (fun x=>by have:=K3.size;omega) _;have hsI:=gL o16;have nL:=fU o16;have hs1:=iP (Ch.leaves ol s j);clear K3 E1 h1 K1;generalize hlv : eI (Ch.leaves ol s j) = LV at *
   go_wp2_with (refine wpList_store_row rfl 91 (.tmp 7) (.tmp 19) rfl w3.heap.size LV rfl rfl 91 aW hnew hsI nL.symm hs1 ?_)
   generalize (w3.alloc (.cells aW 91)).setRow w3.heap.size LV = w4 at *;generalize w3.heap.size = L4 at *;clear hnew hsI nL hs1 hlv;obtain ⟨h1,K1⟩:=HX.out;have h4:=h1.keep K4 (fun x=>x);have vD : Kp (fun k=>k = w.heap.size + 1) w2 w4:=K1.trans' K4 (fun i hi x=>x.elim);have E2:=hid (El w4 (w.heap.size + 1) 0 [] l [] 91 L4 0 [] (Ch.leaves ol s j) [] 91 h4 h16 rfl hO4 o16 rfl (by omega));clear h1 K1 K4 h4 HX hO4 a0
   go_wp2_with fail
   refine br E2 ?_;rintro x w5 ⟨rfl,h5,K5⟩;have K6:=vD.trans K5;clear E2 K5 vD;go_wp2
   go_roundw
   case rel=>exact ⟨k + 1,_,by go_num,by omega,nA _ _,HF,h5,K6⟩
   case measure=>simp [intOf];omega
  have hge : ¬ (k : Int) < (list.length : Int):=by omega
  have HF:=hid (HE.out.trans (show _ = l by rw [List.drop_eq_nil_of_le (by omega)];rfl));have hrow:=h1.row;have hszI:=gL h16;have hsz:=fU h16;have hone:=iP l;have KZ : Kp (fun _=>False) w (wr.setRow w.heap.size (eI l)):=KX.setRow (fun x=>by omega) _;clear HE h1 K1 KX hmr hpr hr;generalize hL : eI l = L at *;have HL:=hid hL;clear hL
  go_wp2_with (first | refine wpList_load_row rfl 91 (.tmp 5) rfl (w.heap.size + 1) rfl 91 L (0,0) ds hrow hds (by cases ds <;> first | rfl | exact absurd eH (by simp [ar])) hszI ?_ | refine wpList_store_row rfl 91 (.tmp 4) (.tmp 21) rfl w.heap.size L rfl rfl 91 aW hrr hszI hsz.symm hone ?_)
  refine bodyPost_ret (results_cell_row rfl _ _ w.heap.size 91 L (0,0) ds rfl (setRow_heap _ _ _ _ _ _ hrr) hds (by cases ds <;> first | rfl | exact absurd eH (by simp [ar])) hszI) rfl ?_;rw [HF.out,HL.out];exact ⟨rfl,KZ⟩
end
end Go.Proofs.YtnlbchmfcebeeaaGreat
