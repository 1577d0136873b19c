import Derived.Test.YtnlbchmfcebeeaaGreatTV2
set_option maxHeartbeats 12800000
set_option maxRecDepth 100000
namespace Go.Proofs.YtnlbchmfcebeeaaGreat
namespace Ch
def rn (n : Nat) (c : Int) : Int:=if isNm c then 65 + (c - 65 + (n : Int)) % 26 else c
section
variable {n : Nat}
theorem rn_id {c : Int} (h : isNm c = false) : rn n c = c:=by unfold rn;rw [h];rfl
theorem rn_nm (c : Int) : isNm (rn n c) = isNm c:=by
 unfold rn
 cases q : isNm c with
 | false=>simp [q]
 | true=>?_
 simp only [if_true];unfold isNm;simp;omega
theorem rn_inj {a b : Int} (h : rn n a = rn n b) : a = b:=by
 have h1:=rn_nm (n:=n) a;have h2:=rn_nm (n:=n) b;rw [h] at h1;rw [h1] at h2;unfold rn at h
 cases q : isNm a with
 | false =>
   rw [q] at h h2;rw [← h2] at h;simpa using h
 | true=>?_
 rw [q] at h h2;rw [← h2] at h;simp only [if_true] at h;have h3:=h2.symm;unfold isNm at q h3;simp at q h3;omega
theorem rn_p {p : Int → Bool} (hp : ∀ c,p c = true → isNm c = false) (c : Int) : p (rn n c) = p c:=by
 cases q : isNm c with
 | false=>rw [rn_id q]
 | true=>?_
 have h1 : p c = false:=by
  cases r : p c with
  | false=>rfl
  | true=>rw [hp c r] at q;cases q
 have h2 : p (rn n c) = false:=by
  cases r : p (rn n c) with
  | false=>rfl
  | true=>have:=hp _ r;rw [rn_nm,q] at this;cases this
 rw [h1,h2]
theorem rn_of {p : Int → Bool} (hp : ∀ c,p c = true → isNm c = false) {c : Int} (h : p c = true) : rn n c = c:=rn_id (hp c h)
theorem rn_eq {k : Int} (hk : isNm k = false) (c : Int) : (rn n c == k) = (c == k) :=
 rn_p (p:=fun c=>c == k) (fun c hc=>by simp at hc;rw [hc];exact hk) c
theorem rn_beq (a b : Int) : (rn n a == rn n b) = (a == b):=by
 cases q : a == b with
 | true=>simp at q;subst q;simp
 | false=>simp at q ⊢;exact fun e=>q (rn_inj e)
theorem ev_nm (c : Int) (h : isEv c = true) : isNm c = false:=by unfold isEv at h;unfold isNm;simp at *;omega
theorem vr_nm (c : Int) (h : isVr c = true) : isNm c = false:=by unfold isVr at h;unfold isNm;simp at *;omega
theorem dg_nm {lo : Int} (c : Int) (h : isDg lo c = true) : isNm c = false:=by unfold isDg at h;unfold isNm;simp at *;omega
theorem sg_nm (c : Int) (h : isSg c = true) : isNm c = false:=by unfold isSg at h;unfold isNm;simp at *;omega
theorem op_nm (c : Int) (h : isOpen c = true) : isNm c = false:=by unfold isOpen at h;unfold isNm;simp at *;omega
def mSt (n : Nat) (s : St) : St:={ s with name:=rn n s.name }
def mTr (n : Nat) (x : Tr) : Tr:={ x with trig:=rn n x.trig,target:=rn n x.target }
def mUs (n : Nat) (u : Us) : Us:={ u with name:=rn n u.name }
def mS (n : Nat) (ss : List St) : List St:=ss.map (mSt n)
def mRs (n : Nat) (r : Rs) : Rs:=⟨r.pos,mS n r.sts,r.trs.map (mTr n),r.bls,r.uses.map (mUs n)⟩
def mOl (n : Nat) (o : Ol) : Ol:=⟨mS n o.sts,o.trs.map (mTr n),o.bls⟩
theorem isTg_rn (c : Int) : isTg (rn n c) = isTg c:=by
 unfold isTg;rw [rn_eq rfl,rn_p ev_nm,rn_nm]
theorem isTa_rn (c : Int) : isTa (rn n c) = isTa c:=by
 unfold isTa;rw [rn_eq rfl,rn_nm]
theorem noteUse_ren (c : Int) (p : Nat) (us : List Us) : noteUse (rn n c) p (us.map (mUs n)) = (noteUse c p us).map (mUs n):=by
 unfold noteUse;rw [rn_nm];split
 ·rw [List.map_append];rfl
 rfl
theorem markParent_ren (parent : Int) (ss : List St) : markParent parent (mS n ss) = mS n (markParent parent ss):=by
 unfold markParent mS
 cases parent with
 | negSucc x=>rfl
 | ofNat k=>?_
 simp only [List.getElem?_map]
 cases q : ss[k]? with
 | none=>rfl
 | some s=>?_
 simp only [Option.map_some];show (if s.kind == 1 then _ else _) = _
 split
 ·rw [List.map_set];rfl
 rfl
structure Ren (n : Nat) (t t' : ByteArray) : Prop where
 size : t'.size = t.size
 pk : ∀ p,peek t' p = rn n (peek t p)
variable {t t' : ByteArray} (h : Ren n t t')
include h
theorem evAct_ren {p : Nat} {a : Ac} (ok : (evAct t p a).1 = true) : evAct t' p a = evAct t p a:=by
 have : peek t' (p + 1) = peek t (p + 1):=by rw [h.pk];exact rn_of ev_nm ok
 unfold evAct;rw [this]
theorem vrAct1_ren {p : Nat} {a : Ac} (ok : (vrAct1 t p a).1 = true) : vrAct1 t' p a = vrAct1 t p a:=by
 have : peek t' (p + 1) = peek t (p + 1):=by rw [h.pk];exact rn_of vr_nm ok
 unfold vrAct1;rw [this]
theorem dgAct_ren {lo : Int} {r : Bool × Ac × Nat} (ok : (dgAct t lo r).1 = true) : r.1 = true ∧ dgAct t' lo r = dgAct t lo r:=by
 unfold dgAct at ok ⊢
 cases q : r.1 with
 | false=>rw [q] at ok;simp at ok;rw [q] at ok;cases ok
 | true=>?_
 rw [q] at ok;simp only [if_true] at ok ⊢
 have : peek t' r.2.2 = peek t r.2.2:=by rw [h.pk];exact rn_of dg_nm ok
 rw [this];exact ⟨trivial,rfl⟩
theorem act_ren {p : Nat} (ok : (act t p ⟨peek t p,0,0⟩).1 = true) : act t' p ⟨peek t' p,0,0⟩ = act t p ⟨peek t p,0,0⟩:=by
 have key : ∀ c : Int,c = peek t p → act t' p ⟨c,0,0⟩ = act t p ⟨c,0,0⟩ ∧ isNm c = false:=by
  intro c hc;rw [← hc] at ok;unfold act at ok ⊢;simp only at ok ⊢
  split at ok
  ·rename_i q
   rw [if_pos q,if_pos q];refine ⟨evAct_ren h ok,?_⟩;simp at q;unfold isNm;simp;omega
  rename_i q1;rw [if_neg q1,if_neg q1]
  split at ok
  ·rename_i q
   rw [if_pos q,if_pos q];unfold tmAct at ok ⊢;obtain ⟨o1,o2⟩:=dgAct_ren h ok;refine ⟨by rw [evAct_ren h o1,o2],?_⟩;simp at q;unfold isNm;simp;omega
  rename_i q2;rw [if_neg q2,if_neg q2]
  split at ok
  ·rename_i q
   rw [if_pos q,if_pos q];unfold vrAct at ok ⊢;obtain ⟨o1,o2⟩:=dgAct_ren h ok;refine ⟨by rw [vrAct1_ren h o1,o2],?_⟩;simp at q;unfold isNm;simp;omega
  cases ok
 obtain ⟨k1,k2⟩:=key _ rfl;rw [h.pk,rn_id k2,k1]
theorem actsF_ren {cl : Int} (hcl : isNm cl = false) : ∀ (f p : Nat) (l : List Ac),(actsF t cl f p l).1 = true → actsF t' cl f p l = actsF t cl f p l:=by
 intro f
 induction f with
 | zero=>intro p l ok;simp [actsF] at ok
 | succ f ih=>?_
 intro p l ok
 have hc : (peek t' p == cl) = (peek t p == cl):=by rw [h.pk];exact rn_eq hcl _
 cases q : peek t p == cl with
 | true=>rw [actsF_close q,actsF_close (by rw [hc];exact q)]
 | false=>?_
 cases q2 : (act t p ⟨peek t p,0,0⟩).1 with
 | false=>rw [actsF_bad q q2] at ok;cases ok
 | true=>?_
 have e:=act_ren h q2;rw [actsF_more q q2] at ok ⊢;rw [actsF_more (by rw [hc];exact q) (by rw [e];exact q2),e];exact ih _ _ ok
theorem acts_ren {cl : Int} (hcl : isNm cl = false) {p : Nat} (ok : (acts t cl p).1 = true) : acts t' cl p = acts t cl p:=by
 unfold acts at ok ⊢;rw [h.size];exact actsF_ren h hcl _ _ _ ok
theorem guard_ren {p : Nat} {g : Gd} (ok : (guard t p g).1 = true) : guard t' p g = guard t p g:=by
 have hc : (peek t' p == 63) = (peek t p == 63):=by rw [h.pk];exact rn_eq rfl _
 unfold guard at ok ⊢;rw [hc]
 split at ok
 ·rename_i q
  rw [if_pos q,if_pos q]
  split at ok
  ·rename_i q1
   have e1 : peek t' (p + 1) = peek t (p + 1):=by rw [h.pk];exact rn_of vr_nm q1
   rw [e1,if_pos q1,if_pos q1]
   split at ok
   ·rename_i q2
    have e2 : peek t' (p + 2) = peek t (p + 2):=by rw [h.pk];exact rn_of sg_nm q2
    have e3 : peek t' (p + 3) = peek t (p + 3):=by rw [h.pk];exact rn_of dg_nm ok
    rw [e2,e3,if_pos q2]
   cases ok
  cases ok
 rename_i q;rw [if_neg q,if_neg q]
theorem transition_ren {self : Int} {r : Rs} (ok : (transition t self r).1 = true) : transition t' self (mRs n r) = (true,mRs n (transition t self r).2):=by
 unfold transition at ok ⊢;have hp : (mRs n r).pos = r.pos:=rfl;rw [hp,h.pk (r.pos + 1),isTg_rn]
 split at ok
 ·rename_i q
  rw [if_pos q,if_pos q]
  split at ok
  ·rename_i q1
   rw [guard_ren h q1,if_pos q1,if_pos q1]
   split at ok
   ·rename_i q2
    rw [acts_ren h rfl q2,if_pos q2,if_pos q2];simp only at ok;rw [h.pk,isTa_rn,ok];simp only [mRs,noteUse_ren,List.map_append];rfl
   cases ok
  cases ok
 cases ok
theorem block_ren {self : Int} {r : Rs} (hs : isNm (peek t r.pos) = false) (ok : (block t self r).1 = true) : block t' self (mRs n r) = (true,mRs n (block t self r).2):=by
 unfold block at ok ⊢;have hp : (mRs n r).pos = r.pos:=rfl;rw [hp]
 split at ok
 ·rename_i q
  rw [acts_ren h rfl q,if_pos q,if_pos q,h.pk,rn_id hs];rfl
 cases ok
theorem stateName_ren {op parent : Int} {r : Rs} (ok : (stateName t op parent r).1 = true) : stateName t' op parent (mRs n r) = (true,mRs n (stateName t op parent r).2):=by
 unfold stateName at ok ⊢;have hp : (mRs n r).pos = r.pos:=rfl;have hs : (mRs n r).sts = mS n r.sts:=rfl;rw [hp,hs,h.pk,rn_nm]
 split at ok
 ·rename_i q
  rw [if_pos q,if_pos q]
  have e : mS n r.sts ++ [(⟨rn n (peek t r.pos),(r.pos : Int),kindOf op,parent⟩ : St)] = mS n (r.sts ++ [⟨peek t r.pos,(r.pos : Int),kindOf op,parent⟩]):=by unfold mS;rw [List.map_append];rfl
  rw [e,markParent_ren];rfl
 cases ok
theorem stateW_ren {it it' : Int → Int → Rs → Bool × Rs} (hit : ∀ a c s,isNm c = false → (it a c s).1 = true → it' a c (mRs n s) = (true,mRs n (it a c s).2)) {parent : Int} {r : Rs} (ho : isNm (peek t r.pos) = false)
 (ok : (stateW t it parent r).1 = true) : stateW t' it' parent (mRs n r) = (true,mRs n (stateW t it parent r).2):=by
 have hpk : peek t' r.pos = peek t r.pos:=by rw [h.pk,rn_id ho]
 have hp : (mRs n r).pos = r.pos:=rfl
 have hln : (mRs n r).sts.length = r.sts.length:=by show (List.map _ _).length = _;simp
 unfold stateW at ok ⊢;rw [hp,hpk,hln]
 cases q : (stateName t (peek t r.pos) parent { r with pos:=r.pos + 1 }).1 with
 | false=>rw [q] at ok;cases ok
 | true=>?_
 have e:=stateName_ren h q;have e' : stateName t' (peek t r.pos) parent { mRs n r with pos:=r.pos + 1 } = (true,mRs n (stateName t (peek t r.pos) parent { r with pos:=r.pos + 1 }).2):=e;rw [q] at ok;rw [e'];simp only [if_true] at ok ⊢;generalize (stateName t (peek t r.pos) parent { r with pos:=r.pos + 1 }).2 = r2 at ok ⊢
 split at ok
 ·rename_i q1;rw [if_pos q1,if_pos q1];exact hit _ _ _ rfl ok
 rename_i q1;rw [if_neg q1,if_neg q1]
 split at ok
 ·rename_i q2;rw [if_pos q2,if_pos q2];exact hit _ _ _ rfl ok
 rename_i q2;rw [if_neg q2,if_neg q2]
 split at ok
 ·rename_i q3
  rw [if_pos q3,if_pos q3];have hp2 : (mRs n r2).pos = r2.pos:=rfl;simp only at ok;rw [hp2,h.pk,rn_eq rfl,ok];rfl
 rename_i q3;rw [if_neg q3,if_neg q3]
theorem itemsF_ren : ∀ (f : Nat) (self cl : Int) (r : Rs),isNm cl = false → (itemsF t f self cl r).1 = true → itemsF t' f self cl (mRs n r) = (true,mRs n (itemsF t f self cl r).2):=by
 intro f
 induction f with
 | zero=>intro self cl r _ ok;simp [itemsF] at ok
 | succ f ih=>?_
 intro self cl r hcl ok;have hp : (mRs n r).pos = r.pos:=rfl;simp only [itemsF] at ok ⊢;rw [hp,h.pk r.pos,rn_p op_nm,rn_eq rfl,rn_eq rfl,rn_eq rfl,rn_eq hcl]
 split at ok
 ·rename_i q
  rw [if_pos q,if_pos q]
  split at ok
  ·rename_i q1
   have e:=stateW_ren h (it:=itemsF t f) (it':=itemsF t' f) (fun a c s hc hs=>ih a c s hc hs) (op_nm _ q) q1;rw [e,if_pos q1];simp only [if_true];exact ih _ _ _ hcl ok
  cases ok
 rename_i q;rw [if_neg q,if_neg q]
 split at ok
 ·rename_i q1
  rw [if_pos q1,if_pos q1]
  split at ok
  ·rename_i q2
   rw [transition_ren h q2,if_pos q2];simp only [if_true];exact ih _ _ _ hcl ok
  cases ok
 rename_i q1;rw [if_neg q1,if_neg q1]
 split at ok
 ·rename_i q2
  rw [if_pos q2,if_pos q2]
  split at ok
  ·rename_i q3
   rw [block_ren h (by simp at q2;unfold isNm;simp;omega) q3,if_pos q3];simp only [if_true];exact ih _ _ _ hcl ok
  cases ok
 rename_i q2;rw [if_neg q2,if_neg q2];simp only at ok;rw [ok];rfl
theorem chart_ren (ok : (chart t).1 = true) : chart t' = (true,mRs n (chart t).2):=by
 unfold chart at ok ⊢;rw [h.pk 0,rn_eq rfl,rn_eq rfl,h.size]
 split at ok
 ·rename_i q
  rw [if_pos q,if_pos q]
  split at ok
  ·rename_i q1
   have e:=stateW_ren h (it:=itemsF t (t.size + 1)) (it':=itemsF t' (t.size + 1)) (fun a c s hc hs=>itemsF_ren h _ a c s hc hs) (r:=r0) (by simp at q;show isNm (peek t 0) = false;unfold isNm;simp;omega) q1;have e' : stateW t' (itemsF t' (t.size + 1)) (-1) r0 = (true,mRs n (stateW t (itemsF t (t.size + 1)) (-1) r0).2):=e;rw [e',if_pos q1];simp only [if_true];simp only at ok;have hp : (mRs n (stateW t (itemsF t (t.size + 1)) (-1) r0).2).pos = (stateW t (itemsF t (t.size + 1)) (-1) r0).2.pos:=rfl;rw [hp,ok]
  cases ok
 cases ok
end
section
variable {n : Nat}
theorem mS_len (ss : List St) : (mS n ss).length = ss.length:=by simp [mS]
theorem mS_get (ss : List St) (k : Nat) : (mS n ss)[k]? = (ss[k]?).map (mSt n):=by simp [mS]
theorem stAt_ren (ss : List St) (i : Int) : stAt (mS n ss) i = (stAt ss i).map (mSt n):=by
 unfold stAt;cases i with
 | ofNat k=>exact mS_get ss k
 | negSucc _=>rfl
theorem kindAt_ren (ss : List St) : kindAt (mS n ss) = kindAt ss:=by
 funext i;unfold kindAt;rw [stAt_ren];cases stAt ss i <;> rfl
theorem parAt_ren (ss : List St) : parAt (mS n ss) = parAt ss:=by
 funext i;unfold parAt;rw [stAt_ren];cases stAt ss i <;> rfl
theorem isChild_ren (ss : List St) : isChild (mS n ss) = isChild ss:=by
 funext i p;unfold isChild;rw [stAt_ren];cases stAt ss i <;> rfl
theorem hist_ren (ss : List St) : hist (mS n ss) = hist ss:=by
 funext k;unfold hist;rw [mS_get];cases ss[k]? <;> rfl
theorem nmAt_ren (ss : List St) (k : Nat) : nmAt (mS n ss) k = rn n (nmAt ss k):=by
 unfold nmAt;rw [mS_get];cases ss[k]? with
 | none=>exact (rn_id rfl).symm
 | some s=>rfl
theorem placeF_ren (c : Int) : ∀ (ss : List St) (k : Nat),placeF (rn n c) (mS n ss) k = placeF c ss k:=by
 intro ss
 induction ss with
 | nil=>intro k;rfl
 | cons s ss ih=>?_
 intro k;show (if rn n s.name == rn n c then _ else placeF (rn n c) (mS n ss) (k + 1)) = _;rw [rn_beq,ih];rfl
theorem place_ren (ss : List St) (c : Int) : place (mS n ss) (rn n c) = place ss c:=placeF_ren c ss 0
theorem firstChildF_ren (ss : List St) : ∀ (p : Int) (f k : Nat),firstChildF (mS n ss) p f k = firstChildF ss p f k:=by
 intro p f
 induction f with
 | zero=>intro k;rfl
 | succ f ih=>intro k;simp only [firstChildF,isChild_ren,ih]
theorem firstChild_ren (ss : List St) : firstChild (mS n ss) = firstChild ss:=by
 funext p;unfold firstChild;rw [mS_len];exact firstChildF_ren ss p _ _
theorem firstAtF_map {p p' : Nat → St → Bool} (hp : ∀ k s,p' k (mSt n s) = p k s) : ∀ (ss : List St) (k : Nat),firstAtF p' (mS n ss) k = firstAtF p ss k:=by
 intro ss
 induction ss with
 | nil=>intro k;rfl
 | cons s ss ih=>?_
 intro k;show (if p' k (mSt n s) then (mSt n s).pos else firstAtF p' (mS n ss) (k + 1)) = _;rw [hp,ih];rfl
theorem firstUnk_ren (ss : List St) : ∀ us : List Us,firstUnk (mS n ss) (us.map (mUs n)) = firstUnk ss us:=by
 intro us
 induction us with
 | nil=>rfl
 | cons u us ih=>?_
 show (if place (mS n ss) (rn n u.name) == -2 then _ else firstUnk (mS n ss) (us.map (mUs n))) = _;rw [place_ren,ih];rfl
theorem judge_ren (ss : List St) (us : List Us) : judge (mS n ss) (us.map (mUs n)) = judge ss us:=by
 have h1 : firstTwice (mS n ss) = firstTwice ss:=by
  unfold firstTwice;exact firstAtF_map (fun k s=>by show decide (place (mS n ss) (rn n s.name) < _) = _;rw [place_ren]) ss 0
 have h2 : firstMis (mS n ss) = firstMis ss:=by
  unfold firstMis;refine firstAtF_map (fun k s=>?_) ss 0;unfold isMis;rw [stAt_ren,kindAt_ren,firstChild_ren]
  cases stAt ss (k : Int) <;> rfl
 unfold judge;rw [mS_len,h1,h2,firstUnk_ren,mS_get]
 cases ss[16]? <;> rfl
theorem read_ren {t t' : ByteArray} (h : Ren n t t') {ol : Ol} (hr : read t = (0,0,ol)) : read t' = (0,0,mOl n ol):=by
 unfold read at hr ⊢;rw [h.size]
 split at hr
 ·simp at hr
 rename_i q;rw [if_neg q]
 split at hr
 ·rename_i q1
  rw [chart_ren h q1];simp only [if_true];have e1 : (mRs n (chart t).2).sts = mS n (chart t).2.sts:=rfl;have e2 : (mRs n (chart t).2).uses = (chart t).2.uses.map (mUs n):=rfl;rw [e1,e2,judge_ren]
  split at hr
  ·rename_i q2
   rw [if_pos q2];simp only [Prod.mk.injEq] at hr;rw [← hr.2.2];rfl
  rename_i q2;simp only [Prod.mk.injEq] at hr;rw [hr.1] at q2;exact absurd rfl q2
 simp at hr
-- the machine
def mSd (n : Nat) (s : Sd) : Sd:={ s with past:=s.past.map (rn n) }
def mMa (n : Nat) (m : Ma) : Ma:=⟨mSd n m.s,m.q.map (rn n),m.out⟩
theorem rn_zero : rn n 0 = 0:=rn_id rfl
theorem pastAt_ren (s : Sd) (k : Nat) : pastAt (mSd n s) k = rn n (pastAt s k):=by
 unfold pastAt mSd;simp only [List.getD_eq_getElem?_getD,List.getElem?_map]
 cases s.past[k]? with
 | none=>exact rn_zero.symm
 | some x=>rfl
theorem abvF_ren (ss : List St) (hi : Int) : ∀ (f : Nat) (i : Int),abvF (mS n ss) hi f i = abvF ss hi f i:=by
 intro f
 induction f with
 | zero=>intro i;rfl
 | succ f ih=>intro i;simp only [abvF,parAt_ren,ih]
theorem isAbove_ren (ss : List St) : isAbove (mS n ss) = isAbove ss:=by funext a b;exact abvF_ren ss a _ b
theorem domF_ren (ss : List St) (tg : Int) : ∀ (f : Nat) (d : Int),domF (mS n ss) tg f d = domF ss tg f d:=by
 intro f
 induction f with
 | zero=>intro d;rfl
 | succ f ih=>intro d;simp only [domF,encl,kindAt_ren,isAbove_ren,parAt_ren,ih];rfl
theorem dom_ren (ss : List St) (st c : Int) : dom (mS n ss) st (rn n c) = dom ss st c:=by
 unfold dom;rw [place_ren,parAt_ren,domF_ren]
theorem findInF_ren (s : Sd) (st c : Int) : ∀ (l : List Tr) (k : Nat),findInF (mSd n s) st (rn n c) (l.map (mTr n)) k = findInF s st c l k:=by
 intro l
 induction l with
 | nil=>intro k;rfl
 | cons x l ih=>?_
 intro k
 have : findP (mSd n s) st (rn n c) (mTr n x) = findP s st c x:=by
  unfold findP;show (x.state == st && (rn n x.trig == rn n c) && holds (mSd n s) x.guard) = _;rw [rn_beq];rfl
 simp only [List.map_cons,findInF,this,ih]
theorem findIn_ren (ol : Ol) (s : Sd) (st c : Int) : findIn (mOl n ol) (mSd n s) st (rn n c) = findIn ol s st c:=findInF_ren s st c ol.trs 0
theorem findFromF_ren (ol : Ol) (s : Sd) (c : Int) : ∀ (f : Nat) (i : Int),findFromF (mOl n ol) (mSd n s) (rn n c) f i = findFromF ol s c f i:=by
 intro f
 induction f with
 | zero=>intro i;rfl
 | succ f ih=>?_
 intro i;simp only [findFromF,findIn_ren,ih];have : (mOl n ol).sts = mS n ol.sts:=rfl;rw [this,parAt_ren]
theorem findF_ren (ol : Ol) (s : Sd) (c : Int) : ∀ (f k : Nat) (fl : List Int),findF (mOl n ol) (mSd n s) (rn n c) f k fl = findF ol s c f k fl:=by
 intro f
 induction f with
 | zero=>intro k fl;rfl
 | succ f ih=>?_
 intro k fl
 have e : findStep (mOl n ol) (mSd n s) (rn n c) fl k = findStep ol s c fl k:=by
  unfold findStep findFrom isLeaf;have : (mOl n ol).sts = mS n ol.sts:=rfl;rw [this,kindAt_ren,findFromF_ren];rfl
 simp only [findF,e,ih]
theorem find_ren (ol : Ol) (s : Sd) (c : Int) : find (mOl n ol) (mSd n s) (rn n c) = find ol s c:=by
 unfold find;have : (mOl n ol).sts.length = ol.sts.length:=mS_len _;rw [this,findF_ren]
theorem trs_get (ol : Ol) (k : Nat) : (mOl n ol).trs[k]? = (ol.trs[k]?).map (mTr n):=by simp [mOl]
theorem within_ren (ol : Ol) : within (mOl n ol) = within ol:=by
 have e : ∀ k,stateOf (mOl n ol) k = stateOf ol k:=by
  intro k;unfold stateOf;rw [trs_get];cases ol.trs[k]? <;> rfl
 funext a b
 unfold within;rw [e,e];show isAbove (mS n ol.sts) _ _ = _;rw [isAbove_ren]
theorem leavesF_ren (ss : List St) (act : List Bool) (d : Int) : ∀ (f k : Nat) (l : List Bool),leavesF (mS n ss) act d f k l = leavesF ss act d f k l:=by
 intro f
 induction f with
 | zero=>intro k l;rfl
 | succ f ih=>intro k l;simp only [leavesF,isAbove_ren,ih]
theorem leaves_ren (ol : Ol) (s : Sd) : leaves (mOl n ol) (mSd n s) = leaves ol s:=by
 funext k
 unfold leaves;rw [trs_get]
 cases ol.trs[k]? with
 | none=>rfl
 | some x=>?_
 show (if rn n x.target == 45 then noSet else leavesF (mS n ol.sts) s.act (dom (mS n ol.sts) x.state (rn n x.target)) (mS n ol.sts).length 0 noSet) = _;rw [rn_eq rfl,dom_ren,leavesF_ren,mS_len]
theorem admitF_ren (ol : Ol) (s : Sd) (k : Nat) : ∀ (l kept : List Int),admitF (mOl n ol) (mSd n s) k l kept = admitF ol s k l kept:=by
 intro l
 induction l with
 | nil=>intro kept;rfl
 | cons x l ih=>intro kept;simp only [admitF,leaves_ren,within_ren,ih]
theorem chooseF_ren (ol : Ol) (s : Sd) : ∀ (l acc : List Int),chooseF (mOl n ol) (mSd n s) l acc = chooseF ol s l acc:=by
 intro l
 induction l with
 | nil=>intro acc;rfl
 | cons x l ih=>intro acc;simp only [chooseF,admis,admitF_ren,ih]
theorem choose_ren (ol : Ol) (s : Sd) (c : Int) : choose (mOl n ol) (mSd n s) (rn n c) = choose ol s c:=by
 unfold choose;rw [find_ren,chooseF_ren]
theorem choose_ren46 (ol : Ol) (s : Sd) : choose (mOl n ol) (mSd n s) 46 = choose ol s 46:=by
 have:=choose_ren (n:=n) ol s 46
 rwa [rn_id rfl] at this
theorem leftF_ren (ol : Ol) (s : Sd) : ∀ (r : List Int) (l : List Bool),leftF (mOl n ol) (mSd n s) r l = leftF ol s r l:=by
 intro r
 induction r with
 | nil=>intro l;rfl
 | cons x r ih=>intro l;simp only [leftF,leaves_ren,ih]
theorem leftAll_ren (ol : Ol) (s : Sd) (l : List Int) : leftAll (mOl n ol) (mSd n s) l = leftAll ol s l:=leftF_ren ol s l _
theorem actChF_ren (ss : List St) (l : List Bool) (p : Int) : ∀ (f k : Nat),actChF (mS n ss) l p f k = actChF ss l p f k:=by
 intro f
 induction f with
 | zero=>intro k;rfl
 | succ f ih=>intro k;simp only [actChF,isChild_ren,ih]
theorem actCh_ren (ss : List St) : actCh (mS n ss) = actCh ss:=by
 funext l p;unfold actCh;rw [mS_len,actChF_ren]
theorem remF_ren (ss : List St) (act left : List Bool) : ∀ (f k : Nat) (p : List Int),remF (mS n ss) act left f k (p.map (rn n)) = (remF ss act left f k p).map (rn n):=by
 intro f
 induction f with
 | zero=>intro k p;rfl
 | succ f ih=>?_
 intro k p
 have e : remP (mS n ss) act left k = remP ss act left k:=by unfold remP;rw [hist_ren,parAt_ren,actCh_ren]
 simp only [remF];rw [e,nmAt_ren,parAt_ren,actCh_ren,← ih]
 split
 ·rw [List.map_set]
 rfl
theorem rem_ren (ss : List St) (s : Sd) (left : List Bool) : rem (mS n ss) (mSd n s) left = mSd n (rem ss s left):=by
 unfold rem mSd;simp only;rw [mS_len,remF_ren]
theorem acv_nm {a : Ac} (h : AcV a) : isNm a.letter = false:=by
 rcases h with h | h | h
 ·exact ev_nm _ h.2.1
 ·exact ev_nm _ h.2.1
 exact vr_nm _ h.2.1
theorem doAct_ren (m : Ma) {a : Ac} (ha : AcV a) : doAct (mMa n m) a = ((doAct m a).1,mMa n (doAct m a).2):=by
 have hl : rn n a.letter = a.letter:=rn_id (acv_nm ha);unfold doAct
 split
 ·simp only [mMa,List.map_append,List.map_cons,List.map_nil,hl]
 split
 ·show ((send (mSd n m.s) _ _).1,_) = _
  unfold send mMa;simp only;have : (mSd n m.s).tm = m.s.tm:=rfl;rw [this]
  split <;> rfl
 split
 ·rfl
 split
 ·rfl
 have e1 : newVal (mMa n m).s a = newVal m.s a:=rfl;rw [e1]
 have e2 : setV (mMa n m).s a.letter (newVal m.s a) = mSd n (setV m.s a.letter (newVal m.s a)):=by
  unfold setV setVar mMa mSd
  split
  ·split
   ·rfl
   split <;> rfl
  rfl
 rw [e2];rfl
theorem doActs_ren : ∀ (l : List Ac) (m : Ma),(∀ a ∈ l,AcV a) → doActs l (mMa n m) = mMa n (doActs l m):=by
 intro l
 induction l with
 | nil=>intro m _;rfl
 | cons a l ih=>?_
 intro m ha;simp only [doActs];rw [doAct_ren m (ha a (by simp))];simp only
 split
 ·exact ih _ (fun b hb=>ha b (by simp [hb]))
 have h122 : rn n 122 = 122:=rn_id rfl;simp only [mMa,List.map_append,List.map_cons,List.map_nil,h122]
theorem doBls_ren (k : Nat) {sg : Int} (hsg : sg = 94 ∨ sg = 36) : ∀ (l : List Bl) (m : Ma),(∀ b ∈ l,∀ k : Nat,∀ sg : Int,b.state = k → b.sign = sg → (sg = 94 ∨ sg = 36) → ∀ a ∈ b.acts,AcV a) → doBls k sg l (mMa n m) = mMa n (doBls k sg l m):=by
 intro l
 induction l with
 | nil=>intro m _;rfl
 | cons b l ih=>?_
 intro m hb;simp only [doBls]
 split
 ·rename_i q
  simp only [Bool.and_eq_true,beq_iff_eq] at q;rw [doActs_ren b.acts m (hb b (by simp) k sg q.1 q.2 hsg)];exact ih _ (fun c hc=>hb c (by simp [hc]))
 exact ih _ (fun c hc=>hb c (by simp [hc]))
theorem atEndF_ren (ss : List St) (l : List Bool) : ∀ (f : Nat) (st : Int),atEndF (mS n ss) l f st = atEndF ss l f st:=by
 intro f
 induction f with
 | zero=>intro st;rfl
 | succ f ih=>?_
 intro st
 have e1 : hasFin (mS n ss) l st = hasFin ss l st:=by
  unfold hasFin
  have : finP (mS n ss) l st = finP ss l st:=by funext i;unfold finP;rw [kindAt_ren,parAt_ren]
  rw [this,mS_len]
 simp only [atEndF,kindAt_ren,isChild_ren,e1,mS_len,ih]
theorem atEnd_ren (ss : List St) : atEnd (mS n ss) = atEnd ss:=by
 funext l st;unfold atEnd;rw [mS_len,atEndF_ren]
theorem tellEnd_ren (ss : List St) (m : Ma) (st : Int) : tellEnd (mS n ss) (mMa n m) st = mMa n (tellEnd ss m st):=by
 unfold tellEnd;rw [kindAt_ren,parAt_ren,atEnd_ren,nmAt_ren,nmAt_ren];have e : (mMa n m).s.act = m.s.act:=rfl;rw [e]
 split
 ·rfl
 split
 ·simp only [mMa,List.map_append,List.map_cons,List.map_nil]
 simp only [mMa,List.map_append,List.map_cons,List.map_nil]
end
theorem goalsF_ren {n : Nat} {ol : Ol} (s : Sd) : ∀ (l : List Int),goalsF (mOl n ol) (mSd n s) l = goalsF ol s l:=by
 intro l
 induction l with
 | nil=>rfl
 | cons x l ih=>?_
 simp only [goalsF];rw [trs_get]
 cases ol.trs[x.toNat]? with
 | none=>exact ih
 | some y=>?_
 show (if rn n y.target == 45 then _ else goal (mS n ol.sts) (mSd n s) (place (mS n ol.sts) (rn n y.target)) :: goalsF (mOl n ol) (mSd n s) l) = _
 have eg : ∀ g,goal (mS n ol.sts) (mSd n s) g = goal ol.sts s g:=by
  intro g;unfold goal;rw [kindAt_ren,pastAt_ren,rn_eq rfl,firstChild_ren,parAt_ren,place_ren]
 rw [rn_eq rfl,place_ren,ih,eg]
theorem busy_ren {n : Nat} {ol : Ol} (m : Ma) : busy (mOl n ol) (mMa n m) = busy ol m:=by
 unfold busy;have e2 : (mMa n m).s = mSd n m.s:=rfl;rw [e2,choose_ren46];simp [mMa]
section
variable {n : Nat} {ol : Ol} (hA : AcA ol)
include hA
theorem enterSt_ren (m : Ma) (k : Nat) : enterSt (mOl n ol) (mMa n m) k = mMa n (enterSt ol m k):=by
 unfold enterSt;have e1 : (mOl n ol).sts = mS n ol.sts:=rfl;have e2 : (mOl n ol).bls = ol.bls:=rfl;have e3 : setAct (mMa n m) k true = mMa n (setAct m k true):=rfl;rw [e1,e2,e3,kindAt_ren,parAt_ren,doBls_ren k (.inl rfl) ol.bls _ hA.bl,tellEnd_ren]
 split <;> rfl
theorem leaveF_ren (left : List Bool) : ∀ (k : Nat) (m : Ma),leaveF (mOl n ol) left k (mMa n m) = mMa n (leaveF ol left k m):=by
 intro k
 induction k with
 | zero=>intro m;rfl
 | succ k ih=>?_
 intro m;simp only [leaveF];rw [← ih]
 split
 ·have e2 : (mOl n ol).bls = ol.bls:=rfl
  rw [e2,doBls_ren k (.inr rfl) ol.bls m hA.bl];rfl
 rfl
theorem doTrs_ren : ∀ (l : List Int) (m : Ma),doTrs (mOl n ol) l (mMa n m) = mMa n (doTrs ol l m):=by
 intro l
 induction l with
 | nil=>intro m;rfl
 | cons x l ih=>?_
 intro m;simp only [doTrs]
 have e : actsOf (mOl n ol) x.toNat = actsOf ol x.toNat:=by unfold actsOf;rw [trs_get];cases ol.trs[x.toNat]? <;> rfl
 rw [e,doActs_ren]
 ·exact ih _
 intro a ha;unfold actsOf at ha
 cases q : ol.trs[x.toNat]? with
 | none=>rw [q] at ha;cases ha
 | some y=>rw [q] at ha;exact hA.tr y (List.mem_of_getElem? q) a ha
theorem enterF_ren (st : List Bool) (gl : List Int) : ∀ (f k : Nat) (m : Ma),enterF (mOl n ol) st gl f k (mMa n m) = mMa n (enterF ol st gl f k m):=by
 intro f
 induction f with
 | zero=>intro k m;rfl
 | succ f ih=>?_
 intro k m;simp only [enterF]
 have hp : ∀ (c p : Int) (l : List Int),pickF (mS n ol.sts) c p l = pickF ol.sts c p l:=by
  intro c p l
  induction l with
  | nil=>simp only [pickF,firstChild_ren]
  | cons g l il=>simp only [pickF,isAbove_ren,il]
 have e : isDue (mOl n ol).sts (mMa n m).s.act st gl (k : Int) = isDue ol.sts m.s.act st gl (k : Int):=by
  show isDue (mS n ol.sts) m.s.act st gl (k : Int) = _;unfold isDue kept;rw [isChild_ren,parAt_ren,kindAt_ren,mS_len,hp]
 rw [e]
 split
 ·rw [enterSt_ren hA];exact ih _ _
 exact ih _ _
theorem enter_ren (m : Ma) (l : List Int) : enter (mOl n ol) (mMa n m) l = mMa n (enter ol m l):=by
 unfold enter;have e1 : (mOl n ol).sts.length = ol.sts.length:=mS_len _;have e2 : (mMa n m).s = mSd n m.s:=rfl;have e3 : (mSd n m.s).act = m.s.act:=rfl;rw [e1,e2,goalsF_ren,e3,enterF_ren hA]
theorem micro_ren (m : Ma) (l : List Int) : micro (mOl n ol) (mMa n m) l = mMa n (micro ol m l):=by
 unfold micro;have e1 : (mOl n ol).sts.length = ol.sts.length:=mS_len _;have e0 : (mOl n ol).sts = mS n ol.sts:=rfl;have e2 : (mMa n m).s = mSd n m.s:=rfl;have e3 : ({ mMa n m with s:=mSd n (rem ol.sts m.s (leftAll ol m.s l)) } : Ma) = mMa n { m with s:=rem ol.sts m.s (leftAll ol m.s l) }:=rfl;rw [e1,e0,e2,leftAll_ren,rem_ren,e3,leaveF_ren hA,doTrs_ren hA,enter_ren hA]
theorem round_ren (m : Ma) : round (mOl n ol) (mMa n m) = mMa n (round ol m):=by
 unfold round;have e2 : (mMa n m).s = mSd n m.s:=rfl;rw [e2,choose_ren46]
 split
 ·have eq : (mMa n m).q = m.q.map (rn n):=rfl
  rw [eq]
  cases q : m.q with
  | nil=>exact micro_ren hA m _
  | cons a l=>?_
  simp only [List.map_cons];rw [choose_ren];exact micro_ren hA { m with q:=l } _
 exact micro_ren hA m _
theorem rounds_ren : ∀ (k : Nat) (m : Ma),rounds (mOl n ol) k (mMa n m) = mMa n (rounds ol k m):=by
 intro k
 induction k with
 | zero=>intro m;rfl
 | succ k ih=>?_
 intro m;simp only [rounds];rw [busy_ren]
 split
 ·rw [round_ren hA];exact ih _
 rfl
theorem finish_ren (k : Nat) (m : Ma) (h : (finish ol k m).2.2 = 0) : finish (mOl n ol) k (mMa n m) = (mSd n (finish ol k m).1,(finish ol k m).2.1,0):=by
 unfold finish at h ⊢;rw [rounds_ren hA,busy_ren]
 split at h
 ·simp at h
 rename_i q;rw [if_neg q,if_neg q];rfl
theorem finish_ren9 (k : Nat) (m : Ma) (h : (finish ol k m).2.2 = 9) : finish (mOl n ol) k (mMa n m) = (noSd,ByteArray.empty,9):=by
 unfold finish at h ⊢;rw [rounds_ren hA,busy_ren]
 split at h
 ·rename_i q
  rw [if_pos q]
 simp at h
theorem mfire_ren (s : Sd) (ev : Int) (hev : isNm ev = false) (h : (mfire ol s ev).2.2 = 0) : mfire (mOl n ol) (mSd n s) ev = (mSd n (mfire ol s ev).1,(mfire ol s ev).2.1,0):=by
 unfold mfire at h ⊢;have e:=choose_ren (n:=n) ol s ev;rw [rn_id hev] at e;rw [e];have:=micro_ren (n:=n) hA ⟨s,[],[]⟩ (choose ol s ev);rw [show (⟨mSd n s,[],[]⟩ : Ma) = mMa n ⟨s,[],[]⟩ from rfl,this];exact finish_ren hA 29 _ h
theorem mfire_ren9 (s : Sd) (ev : Int) (hev : isNm ev = false) (h : (mfire ol s ev).2.2 = 9) : (mfire (mOl n ol) (mSd n s) ev).2.2 = 9:=by
 unfold mfire at h ⊢;have e:=choose_ren (n:=n) ol s ev;rw [rn_id hev] at e;rw [e];have:=micro_ren (n:=n) hA ⟨s,[],[]⟩ (choose ol s ev);rw [show (⟨mSd n s,[],[]⟩ : Ma) = mMa n ⟨s,[],[]⟩ from rfl,this,finish_ren9 hA 29 _ h]
end
def tnT (n : Nat) (t : ByteArray) : ByteArray:=strOfNums ((bys t).map (rn n))
theorem rn_byte {n : Nat} {c : Int} (h : 0 ≤ c ∧ c < 256) : 0 ≤ rn n c ∧ rn n c < 256:=by
 unfold rn;split
 ·omega
 exact h
theorem tnT_bys (n : Nat) (t : ByteArray) : bys (tnT n t) = (bys t).map (rn n):=by
 unfold tnT;refine bys_str (fun x hx=>?_);obtain ⟨c,hc,rfl⟩:=List.mem_map.1 hx;exact rn_byte (bys_byte t c hc)
theorem tnT_size (n : Nat) (t : ByteArray) : (tnT n t).size = t.size:=by rw [← bys_len,tnT_bys,List.length_map,bys_len]
theorem tnT_ren (n : Nat) (t : ByteArray) : Ren n t (tnT n t):=by
 refine ⟨tnT_size n t,fun p=>?_⟩
 by_cases h : p < t.size
 ·have h1:=bys_get t p h
  have h2:=bys_get (tnT n t) p (by rw [tnT_size];exact h);rw [tnT_bys,List.getElem?_map,h1] at h2;simpa using h2.symm
 rw [peek_zero (by rw [tnT_size];omega),peek_zero (by omega)];exact rn_zero.symm
theorem tnT_str {n : Nat} {l : List Int} (h : ∀ x ∈ l,0 ≤ x ∧ x < 256) : tnT n (strOfNums l) = strOfNums (l.map (rn n)):=by
 unfold tnT;rw [bys_str h]
def mAs (n : Nat) (a : As) : As:={ a with act:=tnT n a.act,past:=tnT n a.past }
section
variable {n : Nat} {t : ByteArray} {ol : Ol}
theorem rdC_ren (h : RdC t ol) : RdC (tnT n t) (mOl n ol) :=
 rdC_of (read_ren (tnT_ren n t) h.rd) (fun k=>by
  rw [show nmAt (mOl n ol).sts k = rn n (nmAt ol.sts k) from nmAt_ren ol.sts k]
  exact rn_byte (h.nmb k))
theorem asOf_ren (h : RdC t ol) {s : Sd} (hI : Inv ol s) : asOf (mOl n ol).sts (mSd n s) = mAs n (asOf ol.sts s):=by
 have h16:=h.ols.le
 have hm : min ol.sts.length 16 = ol.sts.length:=by omega
 have hs : (mOl n ol).sts = mS n ol.sts:=rfl
 have e1 : outAct (mS n ol.sts) (mSd n s) = tnT n (outAct ol.sts s):=by
  unfold outAct actK;rw [mS_len,hm,tnT_str (fun x hx=>by obtain ⟨k,_,rfl⟩:=List.mem_map.1 hx;exact h.nmb k),List.map_map]
  congr 1
  exact List.map_congr_left (fun k _=>nmAt_ren ol.sts k)
 have e2 : outPast (mS n ol.sts) (mSd n s) = tnT n (outPast ol.sts s):=by
  have hb:=past_byte h.nmb hI;unfold pastR at hb;unfold outPast pstK;rw [mS_len,hm,hist_ren,tnT_str hb,List.map_map]
  congr 1
  exact List.map_congr_left (fun k _=>pastAt_ren s k)
 unfold asOf mAs;rw [hs,e1,e2];rfl
theorem due_ev {s : Sd} (h : TmL 48 s) {k : Nat} (hk : dueF s.tm s.tm.size 0 = some k) : isEv (peek s.tm k) = true:=by
 have h1:=dueF_at _ _ _ _ hk;have h2:=(dueF_even _ _ _ _ hk rfl).1;have hd:=TL.drop2 (k / 2) h.1;rw [show 2 * (k / 2) = k by omega,bys_drop2 h1.2] at hd;exact hd.1.1
theorem takeDue_ren (s : Sd) : takeDue (mSd n s) = ((takeDue s).1,(takeDue s).2.1,mSd n (takeDue s).2.2):=by
 unfold takeDue;have : (mSd n s).tm = s.tm:=rfl;rw [this]
 cases dueF s.tm s.tm.size 0 <;> rfl
theorem mid_fire (hR : RdC t ol) {s2 : Sd} (gd : Mid ol s2) {ev : Int} (c' : (mfire ol s2 ev).2.2 = 0) : Mid ol (mfire ol s2 ev).1:=by
 have hs:=finish_stb (by unfold mfire at c';exact c')
 have e : (mfire ol s2 ev).1 = (rounds ol 29 (micro ol ⟨s2,[],[]⟩ (choose ol s2 ev))).s:=by
  unfold mfire finish at c' ⊢
  cases q : busy ol (rounds ol 29 (micro ol ⟨s2,[],[]⟩ (choose ol s2 ev))) with
  | true=>rw [q] at c';simp at c'
  | false=>simp only [Bool.false_eq_true,if_false]
 refine ⟨?_,?_,?_,mfire_ok gd.ok ev,hs⟩
 ·rw [e];exact rounds_inv hR.ols 29 (micro_inv hR.ols (m:=⟨s2,[],[]⟩) gd.inv ev)
 ·rw [e];exact ((keeps_pz hR.ols.le).rounds hR.aca 29 ((keeps_pz hR.ols.le).micro hR.aca (m:=⟨s2,[],[]⟩) ⟨gd.pz,gd.ok.1.2⟩ _)).1
 rw [e];exact (keeps_tl (by omega) ol).rounds hR.aca 29 ((keeps_tl (by omega) ol).micro hR.aca (m:=⟨s2,[],[]⟩) gd.tl _)
theorem waitF_ren (hR : RdC t ol) : ∀ (k : Nat) {s : Sd} {l : List Int} {r : Sd × ByteArray},Mid ol s → waitF ol k s l = some r → waitF (mOl n ol) k (mSd n s) l = some (mSd n r.1,r.2):=by
 intro k
 induction k with
 | zero=>intro s l r _ h;simp [waitF] at h
 | succ k ih=>?_
 intro s l r g h;have gd:=g.due;simp only [waitF] at h ⊢;rw [takeDue_ren];simp only
 split at h
 ·rename_i q
  rw [if_pos q]
  have hev : isNm (takeDue s).1 = false:=by
   unfold takeDue at q ⊢
   cases q2 : dueF s.tm s.tm.size 0 with
   | none=>rw [q2] at q;simp at q
   | some j=>exact ev_nm _ (due_ev g.tl q2)
  rcases mfire_err ol (takeDue s).2.2 (takeDue s).1 with e | e
  ·rw [mfire_ren hR.aca _ _ hev e]
   rw [e] at h;simp only [beq_self_eq_true,if_true] at h ⊢;exact ih (mid_fire hR gd e) h
  rw [mfire_ren9 hR.aca _ _ hev e];rw [e] at h;rw [if_neg (by decide)] at h ⊢;exact ih gd h
 rename_i q;rw [if_neg q];simp at h;rw [← h]
theorem start_ren (hR : RdC t ol) : (∃ s o,cStart t = (asOf ol.sts s,o,0) ∧ cStart (tnT n t) = (mAs n (asOf ol.sts s),o,0) ∧ Good ol s ∧ Good (mOl n ol) (mSd n s)) ∨ (cStart t = (as0,⟨#[]⟩,9) ∧ cStart (tnT n t) = (as0,⟨#[]⟩,9)):=by
 have hR':=rdC_ren (n:=n) hR
 have e0 : enter (mOl n ol) ⟨blankSd (mOl n ol).sts,[],[]⟩ [] = mMa n (enter ol ⟨blankSd ol.sts,[],[]⟩ []):=by
  have eb : (⟨blankSd (mOl n ol).sts,[],[]⟩ : Ma) = mMa n ⟨blankSd ol.sts,[],[]⟩:=by
   unfold mMa mSd blankSd;simp only [List.map_nil]
   congr 2
   show blankP (mS n ol.sts) = _;unfold blankP blankK;rw [hist_ren,List.map_map];refine List.map_congr_left (fun k _=>?_);simp only [Function.comp]
   split
   ·exact (rn_id rfl).symm
   exact rn_zero.symm
  rw [eb,enter_ren hR.aca]
 unfold cStart;rw [hR.rd,hR'.rd];simp only [bne_self_eq_false,Bool.false_eq_true,if_false]
 rcases mstart_err ol with e | e
 ·left
  have e' : mstart (mOl n ol) = (mSd n (mstart ol).1,(mstart ol).2.1,0):=by
   unfold mstart at e ⊢;rw [e0];exact finish_ren hR.aca 30 _ e
  have g:=start_good hR e;have g':=start_good hR' (by rw [e']);rw [e'] at g';refine ⟨(mstart ol).1,(mstart ol).2.1,by rw [e];rfl,?_,g,g'⟩;rw [e',← asOf_ren hR g.inv];rfl
 right
 have e' : (mstart (mOl n ol)).2.2 = 9:=by
  unfold mstart at e ⊢;rw [e0,finish_ren9 hR.aca 30 _ e]
 rw [e,e'];exact ⟨rfl,rfl⟩
theorem goes_ren (hR : RdC t ol) {s : Sd} (g : Good ol s) (g' : Good (mOl n ol) (mSd n s)) {b : Int} (h0 : 0 ≤ b) (h1 : b < 256) :
 (∃ s2 o,goes 17 t (asOf ol.sts s) b = (asOf ol.sts s2,o,0) ∧ goes 17 (tnT n t) (mAs n (asOf ol.sts s)) b = (mAs n (asOf ol.sts s2),o,0) ∧ Good ol s2 ∧ Good (mOl n ol) (mSd n s2)) ∨
 (goes 17 t (asOf ol.sts s) b = (as0,⟨#[]⟩,9) ∧ goes 17 (tnT n t) (mAs n (asOf ol.sts s)) b = (as0,⟨#[]⟩,9)):=by
 have hR':=rdC_ren (n:=n) hR;rw [← asOf_ren hR g.inv];obtain ⟨e1,e2⟩:=g.lg hR;obtain ⟨f1,f2⟩:=g'.lg hR';have hw:=wait17 e1;unfold goes
 split
 ·rename_i q
  have hev:=ev_nm _ q;unfold cFire;rw [e1,e2,f1,f2,hR.rd,hR'.rd,peek_one b h0 h1,q];rw [show decide ((strOfNums [b]).size = 1) = true from by rw [strOfNums_size];rfl];simp only [bne_self_eq_false,Bool.false_eq_true,if_false,Bool.and_self,if_true]
  rcases mfire_err ol s b with e | e
  ·left
   have e':=mfire_ren (n:=n) hR.aca s b hev e;have k:=fire_good hR g e;have k':=fire_good hR' g' (ev:=b) (by rw [e']);rw [e'] at k';refine ⟨(mfire ol s b).1,(mfire ol s b).2.1,by rw [e];rfl,?_,k,k'⟩;rw [e',← asOf_ren hR k.inv];rfl
  right
  have e':=mfire_ren9 (n:=n) hR.aca s b hev e;rw [e,e'];exact ⟨rfl,rfl⟩
 left
 unfold cWait;rw [e1,f1,hR'.rd,f2];rw [hR.rd] at hw;rw [e2] at hw ⊢;rw [hR.rd];simp only [bne_self_eq_false,Bool.false_eq_true,if_false];obtain ⟨r,hr⟩:=Option.isSome_iff_exists.1 hw;simp only at hr;have hr':=waitF_ren (n:=n) hR 17 g.mid hr;have et : tick (mSd n s) = mSd n (tick s):=rfl;have k:=wait_good hR 17 g.mid hr;have gm : Mid (mOl n ol) (mSd n (tick s)):=g'.mid;have k':=wait_good hR' 17 gm hr';rw [hr,et,hr'];refine ⟨r.1,r.2,rfl,?_,k,k'⟩;rw [← asOf_ren hR k.inv]
end
end Ch
end Go.Proofs.YtnlbchmfcebeeaaGreat
