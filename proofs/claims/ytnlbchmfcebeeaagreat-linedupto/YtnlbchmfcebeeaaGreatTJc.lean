import Derived.Test.YtnlbchmfcebeeaaGreatTV1
import Derived.Test.YtnlbchmfcebeeaaGreatTBc
import Derived.Test.YtnlbchmfcebeeaaGreatTJb
import Derived.Test.YtnlbchmfcebeeaaGreatTU2
set_option maxHeartbeats 12800000
set_option maxRecDepth 100000
namespace Go.Proofs.YtnlbchmfcebeeaaGreat
open Go.Proofs.Tryz Ch
open Go.RowKit
namespace Ch
theorem py {P : List (Int × Int)} {L : List Int} (hP : zv P) (hW : Wr P none 0 P.length L) (hL : L.length <= 215) : ∃ ol,sf (strOfNums L) ol /\ Mw P ol:=by
 have hs : (strOfNums L).size = L.length:=strOfNums_size L;obtain ⟨_,ol,hr,ho⟩:=zx hP hW (Ia (hW.byte hP.len)) hs.symm (by omega);refine ⟨ol,Lq hr (fun k=>?_),ho⟩;unfold dP
 cases q : ol.ag[k]? with
 | none=>simp
 | some s=>?_
 have h1:=(ho.at_ k s q).2;have h2:=(List.getElem?_eq_some_iff.1 q).1;have:=hP.len;have:=ho.len;simp only;omega
end Ch
def J6 (k u n : Int) (s : ByteArray) : List Value:=[.int .i64 k,.int .i64 u,.int .i64 n,.string s]
def In64 (x : Int) : Prop:=-9223372036854775808 <= x /\ x <= 9223372036854775807
def yU (w : World) (B : Nat) (v : Value) (n : Nat) : Prop:=((∃ ao cap,v = .slice ao 0 cap) /\ n = 0) \/
 ∃ g off cap,v = .slice (some ⟨g,off,none⟩) n cap /\ g < B /\ ∀ j,j < n -> ∃ k u m s,(∀ i y,(J6 k u m s)[i]? = some y -> w.cell? ⟨g,off + j * 4 + i,none⟩ = some y) /\ In64 u /\ In64 m /\ s.size <= maxLen
theorem yU.keep {w w' : World} {B B' : Nat} {v : Value} {n : Nat} (h : yU w B v n) (hB : B <= B') (hw : B <= w.heap.size) (K : Kp (fun k=>B <= k) w w') : yU w' B' v n:=by
 rcases h with h | ⟨g,off,cap,e,hg,hc⟩
 ·exact .inl h
 refine .inr ⟨g,off,cap,e,by omega,fun j hj=>?_⟩;obtain ⟨k,u,m,s,h1,h2,h3,h4⟩:=hc j hj;refine ⟨k,u,m,s,fun i y hi=>?_,h2,h3,h4⟩;have:=h1 i y hi;unfold World.cell? at *;simp only at *;rw [K.block g (by omega) (by omega)];exact this
structure du (w0 w : World) (B c : Nat) (p : Lp) (t : ByteArray) (xb tb : Nat) (pc : Pc) (ol : Ol) (n i : Nat) (L : Ln) (x : Sv) (all : List Sd) (log : ByteArray) (av kv : Value) : Prop where
 ln : dU w p t L av
 sv : cj w xb tb 138 pc ol x kv
 fl : ∀ k,jb p av k -> B <= k
 fs : ∀ k,jr xb tb kv k -> B <= k
 si : SI ol x all log
 lr : LR ol x all log L
 md : all.length <= 1 + i
 lg : log.size <= c + 2000000000 * i
 tk : x.aN <= i
 st : ∀ (u : Nat) (s : Int),L.steps[u]? = some s -> s <= (i : Int)
 tn : x.tasks.length = n
 kp : Kp (fun k=>B <= k) w0 w
section
variable {w0 w w' : World} {B c : Nat} {p : Lp} {t : ByteArray} {xb tb : Nat} {pc : Pc} {ol : Ol} {n i : Nat} {L : Ln} {x : Sv} {all : List Sd} {log : ByteArray} {av kv : Value}
theorem du.au (T : du w0 w B c p t xb tb pc ol n i L x all log av kv) (K : Kp (fun _=>False) w w') : du w0 w' B c p t xb tb pc ol n i L x all log av kv :=
 ⟨T.ln.au K,T.sv.au K,T.fl,T.fs,T.si,T.lr,T.md,T.lg,T.tk,T.st,T.tn,T.kp.trans' K (fun _ _ x=>x.elim)⟩
theorem du.next (T : du w0 w B c p t xb tb pc ol n i L x all log av kv) : du w0 w B c p t xb tb pc ol n (i + 1) L x all log av kv :=
 ⟨T.ln,T.sv,T.fl,T.fs,T.si,T.lr,by have:=T.md;omega,by have:=T.lg;omega,by have:=T.tk;omega,fun u s h=>by have:=T.st u s h;omega,T.tn,T.kp⟩
theorem du.small (T : du w0 w B c p t xb tb pc ol n i L x all log av kv) (hR : sf t ol) (hol : ol.Ok) (hi : i <= 2000000) (hc : c <= 10000000000) {u : Nat} (hu : u < n) :
 ∃ L' all' lT,Calls prog 37 #[.pointer (some ⟨p.wb,0,none⟩),.pointer (some ⟨xb,0,none⟩),.int .i64 (u : Int)] w fun y w'=>y = .returned (.bool true) /\ ∃ qM fV,du w0 w' B c p t xb tb pc ol n (i + 1) L' (bG ol x (u : Int)).1 all' lT qM fV:=by
 obtain ⟨k,hk⟩ : ∃ k,x.tasks[u]? = some k:=⟨_,List.getElem?_eq_getElem (by rw [T.tn];exact hu)⟩
 have hmk:=T.md;have lR:=T.lg;have htk:=T.tk;obtain ⟨L',all',lT,b,s,h1,h2,h3,h4,h5,h6,h7,h8,h9,h10,h11⟩:=Hc hR hol T.si T.lr hk (by omega) (by omega) p av;have hs:=T.st u s h2;have hbd:=T.si.bd (by omega) (by omega) (by omega);generalize hSS : bG ol x (u : Int) = SS at *
 have m1 : all'.length <= 1 + (i + 1):=by rw [<- Nat.add_assoc];exact Nat.le_trans h7 (Nat.succ_le_succ hmk)
 have m2 : lT.size <= c + 2000000000 * (i + 1):=by
  rw [Nat.mul_succ,<- Nat.add_assoc];exact Nat.le_trans h8 (Nat.add_le_add_right lR _)
 have m3 : SS.1.aN <= i + 1:=Nat.le_trans h9 (Nat.succ_le_succ htk)
 have hsm:=DW (L':=L') w T.ln T.sv T.fl T.fs hbd hol (u:=u) (fun k' hk'=>by
  rw [lP hk] at hk';simp at hk';subst hk'
  exact T.si.tY hR hol hk) h1 h2 h3 (by omega) (by rw [hSS];exact h4)
 rw [hSS] at hsm;refine ⟨L',all',lT,hsm.mono ?_⟩;rintro y w' ⟨rfl,qM,fV,g1,g2,g3,g4,g5⟩;refine ⟨rfl,qM,fV,g1,g2,g3,g4,h5,h6,m1,m2,m3,?_,by rw [h10];exact T.tn,T.kp.trans' g5 (fun k _ hk=>hk)⟩;intro v s' hv
 rcases h11 with e | e
 ·rw [e] at hv;have:=T.st v s' hv;omega
 rw [e] at hv;rw [List.getElem?_set] at hv
 split at hv
 ·split at hv
  ·simp at hv;omega
  simp at hv
 have:=T.st v s' hv;omega
theorem du.held (T : du w0 w B c p t xb tb pc ol n i L x all log av kv) (hi : i <= 2000000) : Calls prog 36 #[.pointer (some ⟨p.wb,0,none⟩),.pointer (some ⟨xb,0,none⟩)] w fun y w'=>y = .returned (.bool true) /\ du w0 w' B c p t xb tb pc ol n i L x all log av kv:=by
 have hmk:=T.md
 have hal : L.all.length = all.length:=by rw [T.lr.al,List.length_map]
 have hk : x.kept.length <= 1000:=by
  rw [T.si.kept];have:=sC all x.tasks;have:=T.si.len;omega
 exact (G_ w T.ln T.sv hk (T.lr.held T.si) (by omega)).mono (fun y w' g=>⟨g.1,T.au g.2⟩)
theorem du.asks (T : du w0 w B c p t xb tb pc ol n i L x all log av kv) (hi : i <= 2000000) (hc : c <= 10000000000) {u : Nat} (hu : u < n) (k us m : Int) (s : ByteArray) (hk1 : 1 <= k) (hk4 : k <= 4) (hm : In64 m) (hs : s.size <= maxLen) :
 Calls prog 35 #[.pointer (some ⟨p.wb,0,none⟩),.pointer (some ⟨xb,0,none⟩),.int .i64 (u : Int),.agg (stA k us m s)] w fun y w'=>y = .returned (.bool true) /\ ∃ L' x' qM fV,du w0 w' B c p t xb tb pc ol n i L' x' all log qM fV:=by
 obtain ⟨tk,htk⟩ : ∃ k,x.tasks[u]? = some k:=⟨_,List.getElem?_eq_getElem (by rw [T.tn];exact hu)⟩
 have hmk:=T.md;have lR:=T.lg
 have hal : L.all.length = all.length:=by rw [T.lr.al,List.length_map]
 have hll : L.log.size = log.size:=by rw [T.lr.lg]
 obtain ⟨l,s0,h1,h2,h3,h4,h5⟩:=T.lr.tk u tk htk
 obtain ⟨r0,hr0⟩ : ∃ r0,L.asked[u]? = some r0:=⟨_,List.getElem?_eq_getElem (by rw [T.lr.la,T.tn];exact hu)⟩
 refine (Ha w T.ln T.sv T.fl T.fs k us m s hk1 hk4 hm.1 hm.2 hs (by omega) (by omega) h1 hr0 h2 h3 htk rfl).mono ?_;rintro y w' ⟨rfl,r,hr,Ro,qM,fV,g1,g2,g3,g4,g5⟩
 have hrn : r.kind ≠ 0:=by omega
 by_cases q : tk.kind = 0
 ·have e : decide (tk.kind ≠ 0) = false:=by simp [q]
  rw [e] at g1 g2;simp only [Bool.false_eq_true,if_false] at g1 g2;refine ⟨rfl,_,_,qM,fV,g1,g2,g3,g4,T.si.ask htk q hr,T.lr.ask htk T.si.pos hrn,T.md,T.lg,T.tk,?_,by simp [ak];exact T.tn,T.kp.trans' g5 (fun k _ hk=>hk)⟩;intro v s' hv;have hv' : (L.steps.set u 0)[v]? = some s':=hv;rw [List.getElem?_set] at hv'
  split at hv'
  ·split at hv'
   ·simp at hv';omega
   simp at hv'
  have:=T.st v s' hv';omega
 have e : decide (tk.kind ≠ 0) = true:=by simp [q]
 rw [e] at g1 g2;simp only [if_true] at g1 g2
 have T' : du w0 w' B c p t xb tb pc ol n i L x all log qM fV:=⟨g1,g2,g3,g4,T.si,T.lr,T.md,T.lg,T.tk,T.st,T.tn,T.kp.trans' g5 (fun k _ hk=>hk)⟩
 exact ⟨rfl,_,_,qM,fV,T'⟩
end
open Go.ChangeShapes Go.WideShapes Go.ChangeAt Go.RowKit Go.Deep
theorem vd : prog.cellsOf 58 = 4:=by kernel_rfl
theorem AY : prog.cellsOf 9 = 1:=by kernel_rfl
section
variable {H : Type} {enc : TypeId × Value -> H} {w : World} {base : Nat} {spare : Nat -> Bool} {held : Bool}
theorem D1 {n : Nat} {cs : List Value} {x : DataW H × List MemPlace} (h : DataW.trod enc prog w base spare held n 58 cs = some x) :
 ∃ (k u m : Int) (s : ByteArray),cs = J6 k u m s /\ In64 u /\ In64 m /\ s.size <= maxLen:=by
 obtain ⟨xs,m,_,_,hl,hlen,hf⟩:=DataW.trod_struct underlying58 h;rw [vd] at hl
 match cs,hl,hf with
 | [c0,c1,c2,c3],_,hf =>
   match xs,hlen,hf with
   | [x0,x1,x2,x3],_,hf =>
     have g0:=hf 0 _ rfl;have g1:=hf 1 _ rfl;have g2:=hf 2 _ rfl;have g3:=hf 3 _ rfl;simp [ri,AY] at g0 g1 g2 g3;obtain ⟨s0,e0,_⟩:=DataW.trod_int underlying3 g0;obtain ⟨s1,e1,_,w1⟩:=DataW.trod_int underlying3 g1;obtain ⟨s2,e2,_,w2⟩:=DataW.trod_int underlying3 g2;obtain ⟨s3,e3,_,b3⟩:=DataW.trod_string underlying9 g3;simp only [List.cons.injEq,and_true] at e0 e1 e2 e3;exact ⟨s0,s1,s2,s3,by rw [e0,e1,e2,e3];rfl,bounds_i64 w1,bounds_i64 w2,b3⟩
end
theorem sV {H : Type} {enc : TypeId × Value -> H} {W : World} {base : Nat} {v : Value} {d : DataW H} {p : List MemPlace} (hv : Value.okWide prog W .any base 52 v)
 (h : DataW.Trod enc prog W 0 (fun _=>true) true 52 v d p) : ∃ n,yU W W.heap.size v n /\ n <= maxLen:=by
 obtain ⟨fuel,hf⟩:=h;obtain ⟨a0,len,cap,rfl⟩:=okWide_slice underlying52 hv
 rcases open_slice underlying52 hf with ⟨hcs,_⟩ | ⟨a,len',cap',m,n,D,Pl,hcs,hb,hl,hm,hmm,_,hel⟩
 ·simp [Value.cells] at hcs
  obtain ⟨rfl,rfl,rfl⟩:=hcs;exact ⟨0,.inl ⟨⟨_,_,rfl⟩,rfl⟩,Nat.zero_le _⟩
 simp [Value.cells] at hcs;obtain ⟨rfl,rfl,rfl⟩:=hcs;simp only [if_true] at hmm;subst hmm;rw [vd] at hel
 by_cases hz : len = 0
 ·subst hz
  exact ⟨0,.inl ⟨⟨_,_,rfl⟩,rfl⟩,Nat.zero_le _⟩
 have hex : ∀ i,i < len -> ∃ k u m s,(∀ j y,(J6 k u m s)[j]? = some y -> W.cell? (a.add (i * 4 + j)) = some y) /\ In64 u /\ In64 m /\ s.size <= maxLen:=by
  intro i hi;obtain ⟨cs',hc,ht⟩:=hel i (by omega);obtain ⟨k,u,m',s,rfl,h1,h2,h3⟩:=D1 ht;obtain ⟨_,_,hcell⟩:=World.cells?_some hc;refine ⟨k,u,m',s,fun j y hy=>?_,h1,h2,h3⟩
  have hj : j < 4:=by have:=(List.getElem?_eq_some_iff.1 hy).1;simpa [J6] using this
  rw [<- Go.Deep.add_add,hcell j hj];exact hy
 obtain ⟨b,off,spot⟩:=a
 have hspot : spot = none:=by
  obtain ⟨k,u,m',s,hx,_⟩:=hex 0 (by omega);have:=hx 0 _ rfl;simpa [Addr.add] using World.cell?_spot this
 subst hspot
 have hlt : b < W.heap.size:=by
  obtain ⟨k,u,m',s,hx,_⟩:=hex 0 (by omega);have hx:=hx 0 _ rfl
  by_cases q : b < W.heap.size
  ·exact q
  rw [World.cell?] at hx;simp [Addr.add,Array.getElem?_eq_none (Nat.le_of_not_lt q)] at hx
 refine ⟨len,.inr ⟨b,off,m,rfl,hlt,fun j hj=>?_⟩,by omega⟩;obtain ⟨k,u,m',s,hx,h1,h2,h3⟩:=hex j hj;refine ⟨k,u,m',s,fun i y hy=>?_,h1,h2,h3⟩;have:=hx i y hy;rw [show off + j * 4 + i = off + (j * 4 + i) by omega];unfold Addr.add at this
 split at this <;> simp_all
theorem du.start {w : World} {B : Nat} {p : Lp} {t : ByteArray} {xb tb : Nat} {pc : Pc} {ol : Ol} {n : Nat} {av kv : Value} (hR : sf t ol) (he : (Ch.mstart ol).2.2 = 0) (hn : n <= 6) (hL : dU w p t (s9 (bC ol.ag (Ch.mstart ol).1) (Ch.mstart ol).2.1 n) av) (hS : cj w xb tb 138 pc ol (gx ol n) kv) (hfl : ∀ k,jb p av k -> B <= k) (hfs : ∀ k,jr xb tb kv k -> B <= k) :
 du w w B (Ch.mstart ol).2.1.size p t xb tb pc ol n 0 (s9 (bC ol.ag (Ch.mstart ol).1) (Ch.mstart ol).2.1 n) (gx ol n) [(Ch.mstart ol).1] (Ch.mstart ol).2.1 av kv:=by
 refine ⟨hL,hS,hfl,hfs,Jt hR he hn,LR.new ol n,by simp,by omega,Nat.le_refl _,?_,by simp [gx,fN],Kp.refl _ _⟩;intro u s hs;have hs' : (List.replicate n (0 : Int))[u]? = some s:=hs;rw [List.eq_of_mem_replicate (List.mem_of_getElem? hs')];exact Int.le_refl _
theorem yU.len {w : World} {B : Nat} {v : Value} {n : Nat} (h : yU w B v n) : ∃ ao cap,v = .slice ao n cap:=by
 rcases h with ⟨⟨ao,cap,e⟩,rfl⟩ | ⟨g,off,cap,e,_⟩
 ·exact ⟨ao,cap,e⟩
 exact ⟨_,cap,e⟩
theorem yU.at_ {w : World} {B : Nat} {v : Value} {n j : Nat} (h : yU w B v n) (hj : j < n) : ∃ g off cap,v = .slice (some ⟨g,off,none⟩) n cap /\ ∃ k u m s,(∀ i y,(J6 k u m s)[i]? = some y -> w.cell? ⟨g,off + j * 4 + i,none⟩ = some y) /\ In64 u /\ In64 m /\ s.size <= maxLen:=by
 rcases h with ⟨_,rfl⟩ | ⟨g,off,cap,e,_,hc⟩
 ·omega
 exact ⟨g,off,cap,e,hc j hj⟩
theorem Hk (k u m : Int) (s : ByteArray) : (stA k u m s).all (fun x=>x.oneCell') = true:=by simp [stA,Value.oneCell']
section
variable (w : World)
theorem D2 {lv : Value} {n : Nat} (hI : kY w w.heap.size lv n) (hn : n <= maxLen) (cl : Int) (hcl : In64 cl) {sv : Value} {sn : Nat} (hS : yU w w.heap.size sv sn) (hsn : sn <= 1048576) :
 Calls prog 16 #[lv,.int .i64 cl,sv] w fun x w'=>x = .returned (.bool true) /\ Below w.heap.size w w':=by
 have E0:=hid (m8 w hI hn);have HS:=hid hS;clear hI hn hS
 go_enter func16,ntmps16
 go_wp2_with fail
 refine hm E0 ?_;rintro y w1 ⟨LL,P,pv,rfl,_,B1,hP,hW,hL⟩;obtain ⟨ol,hR,OF⟩:=py hP hW hL;have HR:=hid hR;generalize strOfNums LL = T at HR;clear E0 hP hW hL hR OF;have EP : Hid (Calls prog 24 #[.int .i64 cl,.int .i64 6] w1 fun x w'=>∃ r : Nat,x = .returned (.int .i64 r) /\ r < 6 /\ w' = w1):=hid (iY w1 cl hcl.1 hcl.2 6 (by omega) (by omega))
 go_wp2_with fail
 refine hm EP ?_;rintro y w2 ⟨r,rfl,hr,rfl⟩;clear EP;have E1:=hid (sT w2)
 go_wp2_with fail
 refine hm E1 ?_;rintro y w3 ⟨rfl,K3⟩;have B3:=B1.trans (bu K3 B1.size);clear E1 K3 B1;have EB:=pw w3 T (r + 1) (by omega) (by omega) (by rw [HR.out.rd]) (by rw [HR.out.rd];exact gR ol);rw [show ((r + 1 : Nat) : Int) = 1 + (r : Int) by omega] at EB;replace EB:=hid EB
 go_wp2_with fail
 refine hm EB ?_;rintro y w4 ⟨xv,wv,rfl,hq,K4⟩;have B4:=B3.trans (bu K4 B3.size);unfold DV at hq;rw [HR.out.rd] at hq;simp only at hq
 rcases gR ol with e | e
 ·obtain ⟨xb,tb,pc,kv,p,av,rfl,rfl,J7,hLn,hfs,hfl⟩:=hq.2 e
  have hol : ol.Ok:=by have:=jl T;rw [HR.out.rd] at this;exact this
  have hcz:=jt hol;have T0:=du.start HR.out e (by omega) hLn J7 hfl hfs;obtain ⟨ao,cap,rfl⟩:=HS.out.len;have OG : w.heap.size <= w3.heap.size:=B3.size;have j3 : yU w4 w.heap.size (.slice ao sn cap) sn:=HS.out.keep (Nat.le_refl _) (Nat.le_refl _) ((gG B4).mono (fun _ _ x=>x.elim));have hs4 : w3.heap.size <= w4.heap.size:=K4.size;generalize OH : w3.heap.size = B at *;generalize (Ch.mstart ol).2.1.size = c at *;have BN:=hid j3;have HB:=hid B4;have AZ:=hid (ae hol hcz);obtain ⟨dS,Cd,od⟩:=Cc;generalize hL0 : s9 (bC ol.ag (Ch.mstart ol).1) (Ch.mstart ol).2.1 (r + 1) = L0 at T0;generalize hx0 : gx ol (r + 1) = x0 at T0;have HT0:=hid T0;clear T0 hfl hfs hLn J7 hq EB K4 HS j3 B3 B4 hL0 hx0 hol hcz OH
  have OI : (sn : Int) <= 1048576:=by omega
  go_upto_region 8 with (fail)
  go_loopw [13,14] (fun ok iv wr=>∃ i : Nat,ok = .bool true /\ iv = .int .i64 i /\ i <= sn /\ Hid (∃ L x all log av kv,du w4 wr B c p T xb tb pc ol (r + 1) i L x all log av kv)) (fun _ iv _=>sn - (intOf iv).toNat)
  case atStart=>exact ⟨0,rfl,rfl,Nat.zero_le _,hid ⟨_,_,_,_,_,_,HT0.out⟩⟩
  case round =>
   obtain ⟨i,rfl,rfl,hi,HT⟩:=hrel;clear HT0
   by_cases hlt : i < sn
   ·have hlt' : (i : Int) < (sn : Int):=by omega
    obtain ⟨L,x,all,log,OJ,Jp,TT⟩:=HT.out;have hSr : yU wr w.heap.size (.slice ao sn cap) sn:=BN.out.keep (Nat.le_refl _) (by omega) (TT.kp.mono (fun k _ hk=>by show w.heap.size <= k;have : B <= k:=hk;omega));obtain ⟨g,off,cap',hv,k,us,m,s,hc,hu64,Hl,Hm⟩:=hSr.at_ hlt;simp only [Value.slice.injEq,true_and] at hv;obtain ⟨rfl,rfl⟩:=hv;have hnew:=heap_alloc_new wr (.cells #[.int .i64 0,.int .i64 0,.int .i64 0,.string ⟨#[]⟩] 58);have h5:=setRow_heap (wr.alloc (.cells #[.int .i64 0,.int .i64 0,.int .i64 0,.string ⟨#[]⟩] 58)) wr.heap.size #[.int .i64 0,.int .i64 0,.int .i64 0,.string ⟨#[]⟩] (stA k us m s) 58 (0,0) hnew;have K5 : Kp (fun _=>False) wr ((wr.alloc (.cells #[.int .i64 0,.int .i64 0,.int .i64 0,.string ⟨#[]⟩] 58)).setRow wr.heap.size (stA k us m s)):=((Kp.refl _ _).alloc _).setRow (fun x=>by omega) _;have T5:=hid (TT.au K5);have sI : (prog.info? 58).map (·.size) = some (stA k us m s).size:=m7;have sO:=Hk k us m s;clear HT TT K5 hSr
    go_upto_region 11 with (first | refine a_ rfl 58 (.tmp 55) rfl g (off + i * 4) rfl (J6 k us m s) dS hc Cd od m7 ?_ | refine wpList_store_row rfl 58 (.tmp 15) (.tmp 56) rfl wr.heap.size (stA k us m s) rfl rfl 58 #[.int .i64 0,.int .i64 0,.int .i64 0,.string ⟨#[]⟩] hnew sI rfl sO ?_)
    generalize (wr.alloc (.cells #[.int .i64 0,.int .i64 0,.int .i64 0,.string ⟨#[]⟩] 58)).setRow wr.heap.size (stA k us m s) = w5 at *;generalize wr.heap.size = b0 at *
    have z0 : w5.cell? ⟨b0,0,none⟩ = some (.int .i64 k):=by simp [World.cell?,h5,stA]
    have z1 : w5.cell? ⟨b0,1,none⟩ = some (.int .i64 us):=by simp [World.cell?,h5,stA]
    have EP:=iY w5 us hu64.1 hu64.2 (r + 1) (by omega) (by omega);rw [show ((r + 1 : Nat) : Int) = 1 + (r : Int) by omega] at EP;replace EP:=hid EP;generalize m9 : stA k us m s = SA at *;have xK:=hid m9;clear m9 hnew hc
    go_wp2_with fail
    refine hm EP ?_;rintro y w6 ⟨u,rfl,hu,rfl⟩;clear EP
    by_cases hk1 : 1 <= k /\ k <= 4
    ·have hka : 1 <= k:=hk1.1
     have hkb : k <= 4:=hk1.2;have EA:=T5.out.asks (by omega) AZ.out.2 hu k us m s hka hkb Hl Hm;rw [xK.out] at EA;replace EA:=hid EA
     go_wp2_with (refine wpList_load_row rfl 58 (.tmp 15) rfl b0 rfl 58 SA (0,0) dS h5 Cd (by cases dS <;> first | rfl | exact absurd od (by simp [ar])) sI ?_)
     refine hm EA ?_;rintro y w7 ⟨rfl,L7,x7,Mo,tV,T7⟩
     have j2:=hid T7.next
     clear EA T7;go_wp2
     go_roundw
     case rel=>exact ⟨i + 1,rfl,by go_num,by omega,hid ⟨_,_,_,_,_,_,j2.out⟩⟩
     case measure=>simp [intOf];omega
    by_cases hk5 : k = 5
    ·subst hk5
     have EA:=hid (T5.out.held (by omega))
     go_wp2_with fail
     refine hm EA ?_;rintro y w7 ⟨rfl,T7⟩
     have j2:=hid T7.next
     clear EA T7;go_wp2
     go_roundw
     case rel=>exact ⟨i + 1,rfl,by go_num,by omega,hid ⟨_,_,_,_,_,_,j2.out⟩⟩
     case measure=>simp [intOf];omega
    obtain ⟨L7,OK,OL,J8⟩:=T5.out.small HR.out AZ.out.1 (by omega) AZ.out.2 hu;have EA:=hid J8;clear J8
    have VE : (k == 5) = false:=by simpa using hk5
    by_cases hka : 1 <= k
    ·have hkb : ¬ k <= 4:=by omega
     go_wp2_with fail
     refine hm EA ?_;rintro y w7 ⟨rfl,Mo,tV,T7⟩;have j2:=hid T7;clear EA T7;go_wp2
     go_roundw
     case rel=>exact ⟨i + 1,rfl,by go_num,by omega,hid ⟨_,_,_,_,_,_,j2.out⟩⟩
     case measure=>simp [intOf];omega
    go_wp2_with fail
    refine hm EA ?_;rintro y w7 ⟨rfl,Mo,tV,T7⟩;have j2:=hid T7;clear EA T7;go_wp2
    go_roundw
    case rel=>exact ⟨i + 1,rfl,by go_num,by omega,hid ⟨_,_,_,_,_,_,j2.out⟩⟩
    case measure=>simp [intOf];omega
   have hge : ¬ (i : Int) < (sn : Int):=by omega
   obtain ⟨L,x,all,log,OJ,Jp,TT⟩:=HT.out;have EH:=hid (TT.held (by omega));clear HT TT
   go_wp2_with fail
   refine hm EH ?_;rintro y w6 ⟨rfl,T6⟩;have HZ:=hid (HB.out.trans (T6.kp.below (by omega) (fun k hk=>by show w.heap.size <= k;have : B <= k:=hk;omega)));clear EH T6;go_wp2;go_ret;exact ⟨rfl,HZ.out⟩
 have hxv:=hq.1 (by rw [e];decide);subst hxv;have HB:=hid B4;clear B4 hq EB K4;go_wp2;go_ret;exact ⟨rfl,HB.out⟩
end
namespace Ch
def sl (t : Tk) : Nat:=if t.kind = 1 then t.events.size - t.fired else if t.kind = 2 then 1 else 0
def fq (t : Tk) : Nat:=if t.kind = 3 then 3 - t.steps else if t.kind = 4 then 1 else 0
def yV (l : List Tk) : Nat:=(l.map sl).sum
theorem Cg {t : Tk} (t' : Tk) : ∀ {l : List Tk} {u : Nat},l[u]? = some t -> yV (l.set u t') + sl t = yV l + sl t':=by
 intro l
 induction l with
 | nil=>intro u h;simp at h
 | cons a l ih=>?_
 intro u h
 cases u with
 | zero=>simp at h;subst h;simp [yV];omega
 | succ u=>?_
 simp at h;have:=ih h;simp [yV] at *;omega
theorem LN {l : List Tk} (h : ∀ t ∈ l,sl t <= 4) : yV l <= 4 * l.length:=by
 induction l with
 | nil=>simp [yV]
 | cons a l ih=>?_
 have:=ih (fun t ht=>h t (List.mem_cons_of_mem _ ht));have:=h a (List.mem_cons_self ..);simp [yV] at *;omega
theorem Jv {l : List Tk} (h : yV l ≠ 0) : ∃ (i : Nat) (t : Tk),l[i]? = some t /\ sl t ≠ 0:=by
 induction l with
 | nil=>simp [yV] at h
 | cons a l ih=>?_
 by_cases q : sl a = 0
 ·obtain ⟨i,t,h1,h2⟩:=ih (by simp [yV] at *;omega)
  exact ⟨i + 1,t,h1,h2⟩
 exact ⟨0,a,rfl,q⟩
theorem Hn {l : List Tk} (h : yV l = 0) {i : Nat} {t : Tk} (ht : l[i]? = some t) : sl t = 0:=by
 have:=Cg cW ht
 have h0 : sl cW = 0:=by simp [sl,cW]
 omega
theorem A0 : sl cW = 0:=by simp [sl,cW]
theorem LQ : fq cW = 0:=by simp [fq,cW]
section
variable {t : ByteArray} {ol : Ol} {x : Sv} {all : List Sd} {log : ByteArray} {u n : Nat} {k : Tk}
def Ef (x x' : Sv) (u : Nat) (k k' : Tk) : Prop:=x'.tasks = x.tasks.set u k' /\ (fq k' = 0 \/ fq k' + 1 <= fq k) /\ sl k' <= sl k /\ (sl k' ≠ 0 -> k'.drawn = true) /\ (k.drawn = true -> k.ticket = x.turn -> sl k' < sl k) /\ (¬ (k.drawn = true /\ k.ticket = x.turn) -> x'.turn = x.turn)
theorem oe (h : k.kind = 1 \/ k.kind = 2) : fq k = 0:=by
 unfold fq
 rcases h with e | e <;> rw [e] <;> rfl
theorem Ci (h : k.kind = 3 \/ k.kind = 4) : sl k = 0:=by
 unfold sl
 rcases h with e | e <;> rw [e] <;> rfl
theorem Ef.end_ {x' : Sv} (e : x'.tasks = x.tasks.set u cW) (h : k.drawn = true -> k.ticket = x.turn -> 0 < sl k) (ht : ¬ (k.drawn = true /\ k.ticket = x.turn) -> x'.turn = x.turn) : Ef x x' u k cW :=
 ⟨e,.inl LQ,by rw [A0];exact Nat.zero_le _,fun c=>absurd A0 c,fun a b=>by rw [A0];exact h a b,ht⟩
theorem wJ {l : List Tk} (h : l[u]? = some k) : l.set u k = l:=by
 apply List.ext_getElem?;intro i;rw [List.getElem?_set]
 split
 ·rename_i e
  subst e;rw [if_pos (List.getElem?_eq_some_iff.1 h).1,h]
 rfl
theorem SI.step (h : SI ol x all log) (hR : sf t ol) (hu : x.tasks[u]? = some k) : ∃ k',Ef x (bG ol x (u : Int)).1 u k k':=by
 have hI:=h.tk u k hu
 by_cases q : k.kind = 0
 ·rw [kt hu q]
  have e:=hI.idle q;subst e;exact ⟨cW,Ef.end_ (wJ hu).symm (fun d=>by simp [cW] at d) (fun _=>rfl)⟩
 rcases mj (hI.rq q) with c | c | c | c
 ·have c : k.kind = 1:=c
  have hq:=gT (hI.rq q) c;have hsz : 1 <= k.events.size:=hq.1
  have hs : sl k = k.events.size - k.fired:=by unfold sl;rw [if_pos c]
  cases hd : k.drawn with
  | false =>
    rw [(h.draws hu (.inl c) hd).1];refine ⟨{ k with drawn:=true,ticket:=x.aN },rfl,.inl (oe (.inl c)),Nat.le_refl _,fun _=>rfl,fun e=>?_,fun _=>rfl⟩;rw [hd] at e;cases e
  | true=>?_
  by_cases ht : k.ticket = x.turn
  ·by_cases hv : 0 < k.fired \/ k.at_ < 0 \/ k.at_ = (all.length : Int) - 1
   ·obtain ⟨s,o,_,hlt,hc⟩:=h.JT hR hu c hd ht hv
    have hp : 0 < sl k:=by omega
    rcases hc with ⟨_,_,e,_⟩ | ⟨s',o',_,c1,e,_⟩ | ⟨s',o',_,c1,e,_⟩
    ·rw [e]
     exact ⟨cW,Ef.end_ rfl (fun _ _=>hp) (fun n=>absurd ⟨hd,ht⟩ n)⟩
    ·rw [e]
     have hs' : sl { k with fired:=k.fired + 1,now:=s',out:=o' } = k.events.size - (k.fired + 1):=by unfold sl;rw [if_pos c]
     refine ⟨{ k with fired:=k.fired + 1,now:=s',out:=o' },rfl,.inl (oe (.inl c)),by omega,fun _=>hd,fun _ _=>by omega,fun n=>absurd ⟨hd,ht⟩ n⟩
    rw [e];exact ⟨cW,Ef.end_ rfl (fun _ _=>hp) (fun n=>absurd ⟨hd,ht⟩ n)⟩
   have hf : k.fired = 0:=by omega
   rw [(h.lK hu c hd ht hf (by omega) (by omega)).1];exact ⟨cW,Ef.end_ rfl (fun _ _=>by omega) (fun n=>absurd ⟨hd,ht⟩ n)⟩
  rw [SI.waits (ol:=ol) hu (.inl c) hd ht];exact ⟨k,(wJ hu).symm,.inl (oe (.inl c)),Nat.le_refl _,fun _=>hd,fun _ e=>absurd e ht,fun _=>rfl⟩
 ·have c : k.kind = 2:=c
  have hs : sl k = 1:=by unfold sl;rw [if_neg (by rw [c];decide),if_pos c]
  cases hd : k.drawn with
  | false =>
    rw [(h.draws hu (.inr c) hd).1];refine ⟨{ k with drawn:=true,ticket:=x.aN },rfl,.inl (oe (.inr c)),Nat.le_refl _,fun _=>rfl,fun e=>?_,fun _=>rfl⟩;rw [hd] at e;cases e
  | true=>?_
  by_cases ht : k.ticket = x.turn
  ·rw [(h.JS hR hu c hd ht).1]
   exact ⟨cW,Ef.end_ rfl (fun _ _=>by omega) (fun n=>absurd ⟨hd,ht⟩ n)⟩
  rw [SI.waits (ol:=ol) hu (.inr c) hd ht];exact ⟨k,(wJ hu).symm,.inl (oe (.inr c)),Nat.le_refl _,fun _=>hd,fun _ e=>absurd e ht,fun _=>rfl⟩
 ·have c : k.kind = 3:=c
  have hnd:=h.sF hu (.inl c)
  have hf : fq k = 3 - k.steps:=by unfold fq;rw [if_pos c]
  have hst:=hI.st
  have hno : k.drawn = true -> k.ticket = x.turn -> 0 < sl k:=fun d=>by rw [hnd] at d;cases d
  rcases (by omega : k.steps = 0 \/ k.steps = 1 \/ k.steps = 2) with hs | hs | hs
  ·rcases h.JU hu c hs with ⟨_,e,_⟩ | ⟨_,_,e,_⟩ | ⟨m,_,_,_,e,_⟩
   ·rw [e]
    exact ⟨cW,Ef.end_ rfl hno (fun _=>rfl)⟩
   ·rw [e]
    exact ⟨cW,Ef.end_ rfl hno (fun _=>rfl)⟩
   rw [e]
   have h1 : fq { k with steps:=1,pinned:=(m : Int) } = 2:=by unfold fq;rw [if_pos c];rfl
   have h2 : sl { k with steps:=1,pinned:=(m : Int) } = 0:=Ci (.inl c);exact ⟨{ k with steps:=1,pinned:=(m : Int) },rfl,.inr (by omega),by omega,fun g=>absurd h2 g,fun d=>(by rw [hnd] at d;cases d),fun _=>rfl⟩
  ·rw [(h.JV hu c hs).1]
   have h1 : fq { k with steps:=2 } = 1:=by unfold fq;rw [if_pos c];rfl
   have h2 : sl { k with steps:=2 } = 0:=Ci (.inl c);exact ⟨{ k with steps:=2 },rfl,.inr (by omega),by omega,fun g=>absurd h2 g,fun d=>(by rw [hnd] at d;cases d),fun _=>rfl⟩
  obtain ⟨m,_,_,e,_⟩:=h.JW hu c hs;rw [e];exact ⟨cW,Ef.end_ rfl hno (fun _=>rfl)⟩
 have c : k.kind = 4:=c;have hnd:=h.sF hu (.inr c);rw [(h.poll hu c).1];exact ⟨cW,Ef.end_ rfl (fun d=>by rw [hnd] at d;cases d) (fun _=>rfl)⟩
structure ix (x : Sv) (n m u : Nat) : Prop where
 fr : ∀ (i : Nat) (a : Tk),x.tasks[i]? = some a -> fq a = 0 \/ fq a + m + (if i < u then 1 else 0) <= 3
 dr : ∀ (i : Nat) (a : Tk),x.tasks[i]? = some a -> 1 <= m \/ i < u -> sl a ≠ 0 -> a.drawn = true
 sm : yV x.tasks = 0 \/ yV x.tasks + m <= 4 * n \/ (yV x.tasks + (m - 1) <= 4 * n /\ (1 <= m -> ∃ (i : Nat) (a : Tk),u <= i /\ x.tasks[i]? = some a /\ a.drawn = true /\ a.ticket = x.turn))
theorem OM (h : SI ol x all log) (hu : x.tasks[u]? = some k) : sl k <= 4:=by
 unfold sl
 split
 ·rename_i c
  have hq:=gT ((h.tk u k hu).rq (by rw [c];decide)) c;have : k.events.size <= 4:=hq.2.1;omega
 split <;> omega
theorem ON (k : Tk) : fq k <= 3:=by
 unfold fq
 split
 ·omega
 split <;> omega
theorem ix.start (h : SI ol x all log) (hn : x.tasks.length = n) : ix x n 0 0:=by
 refine ⟨fun i a ha=>.inr ?_,fun i a ha c=>by omega,.inr (.inl ?_)⟩
 ·have:=ON a
  rw [if_neg (by omega)];omega
 rw [<- hn];refine LN (fun a ha=>?_);obtain ⟨i,hi⟩:=List.mem_iff_getElem?.1 ha;exact OM h hi
theorem ix.step {m : Nat} (F : ix x n m u) (h : SI ol x all log) (hR : sf t ol) (hu : u < x.tasks.length) : ix (bG ol x (u : Int)).1 n m (u + 1):=by
 obtain ⟨k,hk⟩ : ∃ k,x.tasks[u]? = some k:=⟨_,List.getElem?_eq_getElem hu⟩
 obtain ⟨k',e,h1,h2,h3,h4,h5⟩:=h.step hR hk;generalize (bG ol x (u : Int)).1 = x' at *;have hsum:=Cg k' hk;rw [<- e] at hsum;refine ⟨fun i a ha=>?_,fun i a ha c=>?_,?_⟩
 ·rw [e] at ha
  rcases cZ ha with ⟨rfl,rfl⟩ | ⟨ni,ha⟩
  ·rw [if_pos (by omega)]
   rcases h1 with g | g
   ·exact .inl g
   rcases F.fr i k hk with f | f
   ·omega
   rw [if_neg (by omega)] at f
   right;omega
  rcases F.fr i a ha with f | f
  ·exact .inl f
  right
  by_cases q : i < u
  ·rw [if_pos q] at f;rw [if_pos (by omega)];exact f
  rw [if_neg q] at f;rw [if_neg (by omega)];exact f
 ·rw [e] at ha
  rcases cZ ha with ⟨rfl,rfl⟩ | ⟨ni,ha⟩
  ·exact h3
  exact F.dr i a ha (by omega)
 rcases F.sm with f | f | ⟨f,g⟩
 ·left;omega
 ·right;left;omega
 by_cases q : k.drawn = true /\ k.ticket = x.turn
 ·have:=h4 q.1 q.2
  right;left;omega
 by_cases qm : 1 <= m
 ·obtain ⟨i,a,i1,i2,i3,i4⟩:=g qm
  right;right
  refine ⟨by omega,fun _=>⟨i,a,?_,?_,i3,by rw [h5 q];exact i4⟩⟩
  ·rcases Nat.lt_or_ge u i with c | c
   ·exact c
   have : i = u:=by omega
   subst this;rw [hk] at i2;simp at i2;subst i2;exact absurd ⟨i3,i4⟩ q
  rw [e,List.getElem?_set_ne (fun c=>?_)]
  ·exact i2
  subst c;rw [hk] at i2;simp at i2;subst i2;exact absurd ⟨i3,i4⟩ q
 right;left;omega
theorem ix.round {m : Nat} (F : ix x n m n) (h : SI ol x all log) (hn : x.tasks.length = n) : ix x n (m + 1) 0:=by
 have hlt : ∀ (i : Nat) (a : Tk),x.tasks[i]? = some a -> i < n:=fun i a ha=>by rw [<- hn];exact (List.getElem?_eq_some_iff.1 ha).1
 refine ⟨fun i a ha=>?_,fun i a ha _=>F.dr i a ha (.inr (hlt i a ha)),?_⟩
 ·rcases F.fr i a ha with f | f
  ·exact .inl f
  rw [if_pos (hlt i a ha)] at f
  right;rw [if_neg (by omega)];omega
 by_cases q : yV x.tasks = 0
 ·exact .inl q
 right;right
 have hs : yV x.tasks + m <= 4 * n:=by
  rcases F.sm with f | f | ⟨f,g⟩
  ·exact absurd f q
  ·exact f
  by_cases qm : 1 <= m
  ·obtain ⟨i,a,i1,i2,_⟩:=g qm
   have:=hlt i a i2;omega
  omega
 refine ⟨by omega,fun _=>?_⟩;obtain ⟨i,a,ha,hs⟩:=Jv q;have hd:=F.dr i a ha (.inr (hlt i a ha)) hs;have hI:=(h.tk i a ha).dr hd;obtain ⟨j,b,hb,d,e⟩:=h.Mi x.turn (Nat.le_refl _) (by omega);exact ⟨j,b,Nat.zero_le _,hb,d,e⟩
theorem ix.done {m : Nat} (F : ix x n m 0) (h : SI ol x all log) (hm : 4 * n + 3 <= m) (hn : 1 <= n) (hu : x.tasks[u]? = some k) : k.kind = 0:=by
 have hs : yV x.tasks = 0:=by
  rcases F.sm with f | f | ⟨f,_⟩ <;> omega
 have hf : fq k = 0:=by
  rcases F.fr u k hu with f | f
  ·exact f
  omega
 have hz:=Hn hs hu;have hI:=h.tk u k hu
 rcases Decidable.em (k.kind = 0) with q | q
 ·exact q
 rcases mj (hI.rq q) with c | c | c | c
 ·have c : k.kind = 1:=c
  have hq:=gT (hI.rq q) c;have hsz : 1 <= k.events.size:=hq.1;unfold sl at hz;rw [if_pos c] at hz
  rcases Nat.eq_zero_or_pos k.fired with e | e
  ·omega
  have:=(hI.wk e).2.2.2.1;omega
 ·have c : k.kind = 2:=c
  unfold sl at hz;rw [if_neg (by rw [c];decide),if_pos c] at hz;omega
 ·have c : k.kind = 3:=c
  unfold fq at hf;rw [if_pos c] at hf;have:=hI.st;omega
 have c : k.kind = 4:=c;unfold fq at hf;rw [if_neg (by rw [c];decide),if_pos c] at hf;omega
end
end Ch
end Go.Proofs.YtnlbchmfcebeeaaGreat
