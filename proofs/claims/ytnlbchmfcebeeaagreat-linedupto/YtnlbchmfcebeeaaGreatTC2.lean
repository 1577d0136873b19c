import Derived.Test.YtnlbchmfcebeeaaGreatTE7
set_option maxHeartbeats 12800000
set_option maxRecDepth 100000
namespace Go.Proofs.YtnlbchmfcebeeaaGreat
open Go.Proofs.Tryz Ch
open Go.RowKit
namespace Ch
def dw (m : Ma) (a : Ac) : Bool × Ma :=
 if a.sign == 33 then (true,{ m with q:=m.q ++ [a.letter] })
 else if a.sign == 64 then ((send m.s a.letter a.digit).1,{ m with s:=(send m.s a.letter a.digit).2 })
 else if a.sign == 126 then (true,{ m with s:=jJ m.s a.letter })
 else if a.sign == 35 then (true,{ m with out:=m.out ++ [a.letter] })
 else (om (ea m.s a),{ m with s:=mG m.s a.letter (ea m.s a) })
theorem Bs (t : ByteArray) (c : Int) : ∀ (f k : Nat) (acc : List Int),acc.length <= k -> k <= t.size -> (pE t c f k acc).length <= t.size:=by
 intro f
 induction f with
 | zero=>intro k acc h1 h2;simp only [pE];omega
 | succ f ih=>?_
 intro k acc h1 h2;simp only [pE]
 split
 ·split
  ·exact ih _ _ (by simp;omega) (by omega)
  exact ih _ _ (by omega) (by omega)
 omega
theorem xr {s : Sd} (h : s.Ok) (c : Int) : (jJ s c).Ok:=by
 obtain ⟨h0,h1,h2⟩:=h;refine ⟨h0,h1,?_⟩;show (strOfNums (pE s.tm c s.tm.size 0 [])).size <= 17;rw [strOfNums_size];have:=Bs s.tm c s.tm.size 0 [] (Nat.le_refl _) (Nat.zero_le _);omega
theorem Iq {s : Sd} (h : s.Ok) (ev d : Int) : (send s ev d).2.Ok:=by
 unfold send
 split
 ·exact h
 obtain ⟨h0,h1,h2⟩:=h;refine ⟨h0,h1,?_⟩;show (s.tm ++ strOfNums [ev,48 + d]).size <= 17;rw [ByteArray.size_append,strOfNums_size];simp;omega
theorem rD {m : Ma} (h : m.s.Ok) (a : Ac) : (dw m a).2.s.Ok:=by
 unfold dw
 split
 ·exact h
 split
 ·exact Iq h _ _
 split
 ·exact xr h _
 split
 ·exact h
 exact Io h _ _
theorem Bt (m : Ma) (a : Ac) : (dw m a).2.q.length <= m.q.length + 1 /\ (dw m a).2.out.length <= m.out.length + 1:=by
 unfold dw
 split
 ·simp
 split
 ·simp
 split
 ·simp
 split <;> simp
def cV : List Ac -> Ma -> Ma
 | [],m=>m
 | a :: l,m=>if (dw m a).1 then cV l (dw m a).2 else { (dw m a).2 with q:=(dw m a).2.q ++ [122] }
theorem l_ : ∀ (l : List Ac) {m : Ma},m.s.Ok -> (cV l m).s.Ok:=by
 intro l
 induction l with
 | nil=>intro m h;exact h
 | cons a l ih=>?_
 intro m h;simp only [cV]
 split
 ·exact ih (rD h a)
 exact rD h a
theorem xt : ∀ (l : List Ac) (m : Ma),(cV l m).q.length <= m.q.length + 2 * l.length /\ (cV l m).out.length <= m.out.length + 2 * l.length:=by
 intro l
 induction l with
 | nil=>intro m;simp [cV]
 | cons a l ih=>?_
 intro m;have h:=Bt m a;simp only [cV]
 split
 ·have:=ih (dw m a).2
  simp;omega
 simp;omega
end Ch
theorem Mm.still {w w' : World} {B mb ob po : Nat} {m : Ma} (h : Mm w B mb ob po m) (k : Kp (fun _=>False) w w') : Mm w' B mb ob po m:=by
 obtain ⟨qv,ov,hm,oq,oo,ap⟩:=h;exact ⟨qv,ov,bM.keep hm k (fun x=>x),oq.keep k (fun _ _ x=>x),oo.keep k (fun _ _ x=>x),ap⟩
theorem Kp.km {w w' : World} {B mb : Nat} (k : Kp (fun _=>False) w w') : Kp (km B mb w) w w':=(Kp.refl _ _).trans' k (fun _ _ x=>x.elim)
section
variable (w : World) (B mb ob po : Nat)
theorem CF (m : Ma) (a : Ac) (h : Mm w B mb ob po m) (hs : m.s.Ok) (ha : a.Ok) (hB : B <= w.heap.size) (hq : m.q.length <= 1000000000) (hu : m.out.length <= 1000000000) :
 Calls prog 182 #[.pointer (some ⟨mb,0,none⟩),.agg #[.int .u8 a.sign,.int .u8 a.letter,.int .i64 a.digit]] w fun x w'=>x = .returned (.bool (dw m a).1) /\ Mm w' B mb ob po (dw m a).2 /\ Kp (km B mb w) w w':=by
 have K1 : Kp (fun _=>False) w (w.alloc (.cells #[.int .u8 a.sign,.int .u8 a.letter,.int .i64 a.digit] 255)):=(Kp.refl _ _).alloc _;have e1:=heap_alloc_new w (.cells #[.int .u8 a.sign,.int .u8 a.letter,.int .i64 a.digit] 255);have M1 : Mm (w.alloc (.cells #[.int .u8 a.sign,.int .u8 a.letter,.int .i64 a.digit] 255)) B mb ob po m:=h.still K1
 have hB1 : B <= ((w.alloc (.cells #[.int .u8 a.sign,.int .u8 a.letter,.int .i64 a.digit] 255))).heap.size:=by have:=K1.size;omega
 have hw:=hs.1
 have c0 : (w.alloc (.cells #[.int .u8 a.sign,.int .u8 a.letter,.int .i64 a.digit] 255)).cell? ⟨w.heap.size,0,none⟩ = some (.int .u8 a.sign):=by rw [World.cell?,e1];rfl
 have c1 : (w.alloc (.cells #[.int .u8 a.sign,.int .u8 a.letter,.int .i64 a.digit] 255)).cell? ⟨w.heap.size,1,none⟩ = some (.int .u8 a.letter):=by rw [World.cell?,e1];rfl
 have c2 : (w.alloc (.cells #[.int .u8 a.sign,.int .u8 a.letter,.int .i64 a.digit] 255)).cell? ⟨w.heap.size,2,none⟩ = some (.int .i64 a.digit):=by rw [World.cell?,e1];rfl
 have row : (w.alloc (.cells #[.int .u8 a.sign,.int .u8 a.letter,.int .i64 a.digit] 255)).heap[w.heap.size]? = some (.cells #[.int .u8 a.sign,.int .u8 a.letter,.int .i64 a.digit] 255 (0,0)):=e1;have HK:=hid (K1.km (B:=B) (mb:=mb));have HM:=hid M1;clear K1 e1 h M1
 have nv : dw m a = if a.sign == 33 then (true,{ m with q:=m.q ++ [a.letter] }) else if a.sign == 64 then ((Ch.send m.s a.letter a.digit).1,{ m with s:=(Ch.send m.s a.letter a.digit).2 }) else if a.sign == 126 then (true,{ m with s:=jJ m.s a.letter }) else if a.sign == 35 then (true,{ m with out:=m.out ++ [a.letter] }) else (om (ea m.s a),{ m with s:=mG m.s a.letter (ea m.s a) }):=rfl
 cases q1 : a.sign == 33 with
 | true =>
   rw [show dw m a = (true,{ m with q:=m.q ++ [a.letter] }) by rw [nv,q1];rfl];have E:=hid (l8 (w.alloc (.cells #[.int .u8 a.sign,.int .u8 a.letter,.int .i64 a.digit] 255)) B mb ob po m a.letter HM.out hw hB1 hq);clear nv
   go_enter func182,ntmps182
   go_wp2_with fail
   refine br E ?_;rintro x w2 ⟨rfl,M2,K2⟩;have H2:=hid (ae M2 (Km.trans HK.out K2));clear E M2 K2;go_wp2;go_ret;exact ⟨rfl,H2.out.1,H2.out.2⟩
 | false=>?_
 cases q2 : a.sign == 64 with
 | true =>
   rw [show dw m a = ((Ch.send m.s a.letter a.digit).1,{ m with s:=(Ch.send m.s a.letter a.digit).2 }) by rw [nv,q1,q2];rfl];obtain ⟨qv,ov,hm,oq,oo,ap⟩:=HM.out;have E:=hid (Ep ((w.alloc (.cells #[.int .u8 a.sign,.int .u8 a.letter,.int .i64 a.digit] 255))).drew mb 1 [.pointer (some ⟨ob,po,none⟩)] m.s [qv,ov] 149 a.letter a.digit (by exact hm) hw rfl ha.1 ha.2);have HX:=hid (ae hm (ae oq (ae oo ap)));clear nv oq oo ap hm
   go_enter func182,ntmps182
   go_upto_region 6 with (fail)
   go_region_with (go_at_call 223;refine br E ?_;rintro x w3 ⟨rfl,h3,K3⟩;have H3:=hid (ae h3 K3);clear h3 K3)
   all_goals
    obtain ⟨h3,K3⟩:=H3.out;obtain ⟨hm,oq,oo,ap⟩:=HX.out;have n1:=oq.ne hm (by decide);have n2:=oo.ne hm (by decide);have KS : Kp (fun k=>k = mb) (w.alloc (.cells #[.int .u8 a.sign,.int .u8 a.letter,.int .i64 a.digit] 255)) w3:=(show Kp (fun k=>k = mb) (w.alloc (.cells #[.int .u8 a.sign,.int .u8 a.letter,.int .i64 a.digit] 255)) ((w.alloc (.cells #[.int .u8 a.sign,.int .u8 a.letter,.int .i64 a.digit] 255))).drew from (Kp.refl _ _).drew).trans K3
    have MF : Mm w3 B mb ob po { m with s:=(Ch.send m.s a.letter a.digit).2 }:=⟨qv,ov,h3,oq.keep KS (fun i hi x=>by subst x;exact n1 hi),oo.keep KS (fun i hi x=>by subst x;exact n2 hi),ap⟩
    have KF:=HK.out.trans' KS (fun i _ x=>.inl x);clear h3 K3 hm oq oo n1 n2 KS H3;go_wp2;go_ret;exact ⟨rfl,MF,KF⟩
 | false=>?_
 cases q3 : a.sign == 126 with
 | true =>
   rw [show dw m a = (true,{ m with s:=jJ m.s a.letter }) by rw [nv,q1,q2,q3];rfl];obtain ⟨qv,ov,hm,oq,oo,ap⟩:=HM.out;have E:=hid (vC ((w.alloc (.cells #[.int .u8 a.sign,.int .u8 a.letter,.int .i64 a.digit] 255))).drew mb 1 [.pointer (some ⟨ob,po,none⟩)] m.s [qv,ov] 149 a.letter (by exact hm) hw rfl (by have:=hs.2.2;omega));have HX:=hid (ae hm (ae oq (ae oo ap)));clear nv oq oo ap hm
   go_enter func182,ntmps182
   go_upto_region 8 with (fail)
   go_region_with (go_at_call 224;refine br E ?_;rintro x w3 ⟨rfl,h3,K3⟩;have H3:=hid (ae h3 K3);clear h3 K3)
   all_goals
    obtain ⟨h3,K3⟩:=H3.out;obtain ⟨hm,oq,oo,ap⟩:=HX.out;have n1:=oq.ne hm (by decide);have n2:=oo.ne hm (by decide);have KS : Kp (fun k=>k = mb) (w.alloc (.cells #[.int .u8 a.sign,.int .u8 a.letter,.int .i64 a.digit] 255)) w3:=(show Kp (fun k=>k = mb) (w.alloc (.cells #[.int .u8 a.sign,.int .u8 a.letter,.int .i64 a.digit] 255)) ((w.alloc (.cells #[.int .u8 a.sign,.int .u8 a.letter,.int .i64 a.digit] 255))).drew from (Kp.refl _ _).drew).trans K3
    have MF : Mm w3 B mb ob po { m with s:=jJ m.s a.letter }:=⟨qv,ov,h3,oq.keep KS (fun i hi x=>by subst x;exact n1 hi),oo.keep KS (fun i hi x=>by subst x;exact n2 hi),ap⟩
    have KF:=HK.out.trans' KS (fun i _ x=>.inl x);clear h3 K3 hm oq oo n1 n2 KS H3;go_wp2;go_ret;exact ⟨rfl,MF,KF⟩
 | false=>?_
 cases q4 : a.sign == 35 with
 | true =>
   rw [show dw m a = (true,{ m with out:=m.out ++ [a.letter] }) by rw [nv,q1,q2,q3,q4];rfl];obtain ⟨qv,ov,hm,oq,oo,ap⟩:=HM.out;have co:=hm.out hw
   have TZ : ∀ o,(((w.alloc (.cells #[.int .u8 a.sign,.int .u8 a.letter,.int .i64 a.digit] 255))).alloc o).cell? ⟨mb,38,none⟩ = some ov:=fun o=>eF.out (bM.keep hm ((Kp.refl (fun _=>False) _).alloc o) (fun x=>x)) hw
   have HX:=hid (ae hm (ae oq (ae oo ap)));clear nv oq oo ap hm HM
   go_enter func182,ntmps182
   go_upto_region 10 with (fail)
   generalize (w.alloc (.cells #[.int .u8 a.sign,.int .u8 a.letter,.int .i64 a.digit] 255)) = w1 at *
   go_region_law (refine tz rfl (.tmp 40) (.tmp 43) rfl (v:=ov) (by simp [Act.eval]) (by exact HX.out.2.2.1.alloc _) ⟨w1.heap.size,0,none⟩ 1 1 [.int .u8 a.letter] (by simp [Act.eval]) rfl (by decide) (by exact fm _ _ _) (by intro u hu;simp at hu;subst hu;rfl) (by simp [ax];omega) (by simp;omega) ?_;intro ga oa ca w3 q3' g3 hb3;have KG : Kp (fun i=>ov.ownBlock = some i) w1 w3:=Kp.grown (by exact ((Kp.refl _ _).alloc _).drew) g3 (fun i hi _=>hi);have wP : eF w3 mb ob po m.s qv ov:=bM.keep HX.out.1 KG (HX.out.2.2.1.ne HX.out.1 (by decide));have x1:=wP.out hw;have x2:=bM.free wP 38;have H3:=hid (ae wP (ae q3' (ae KG hb3)));clear wP q3' KG g3 hb3)
   all_goals
    obtain ⟨wP,q3',KG,hb3⟩:=H3.out;obtain ⟨hm,oq,oo,ap⟩:=HX.out;clear x1 x2 H3 HX co TZ;have Kw:=oq.keep KG (fun i hi x=>ap i hi x)
    have hap : Apart qv (.slice (some ⟨ga,oa,none⟩) ((ax m.out).length + 1) ca):=by
     intro i hi x;simp [Value.ownBlock] at x;subst x
     rcases hb3 with hb3 | hb3
     ·exact ap _ hi hb3
     have:=(oq.lt _ hi).2;try simp at hb3
     omega
    have KA : Kp (km B mb w1) w1 w3:=(Kp.refl _ _).trans' KG (fun i hi x=>.inr ⟨(oo.lt i x).1,oo.block x⟩);have n1:=q3'.ne wP (by decide);have n2:=Kw.ne wP (by decide);have KS : Kp (fun k=>k = mb) w3 (w3.setCell ⟨mb,38,none⟩ (.slice (some ⟨ga,oa,none⟩) ((ax m.out).length + 1) ca)):=(Kp.refl _ _).setCell (by intro _;rfl) _
    have MF : Mm (w3.setCell ⟨mb,38,none⟩ (.slice (some ⟨ga,oa,none⟩) ((ax m.out).length + 1) ca)) B mb ob po { m with out:=m.out ++ [a.letter] } :=
     ⟨qv,_,wP.Ks hw _,Kw.keep KS (fun i hi x=>by subst x;exact n2 hi),by rw [fp];exact q3'.keep KS (fun i hi x=>by subst x;exact n1 hi),hap⟩
    have KF:=Km.trans HK.out (KA.trans' KS (fun i _ x=>.inl x));generalize w3.setCell ⟨mb,38,none⟩ (.slice (some ⟨ga,oa,none⟩) ((ax m.out).length + 1) ca) = w4 at MF KF ⊢;clear wP q3' KG hb3 hm oq oo ap Kw hap KA n1 n2 KS;go_wp2;go_ret;exact ⟨rfl,MF,KF⟩
 | false=>?_
 rw [show dw m a = (om (ea m.s a),{ m with s:=mG m.s a.letter (ea m.s a) }) by rw [nv,q1,q2,q3,q4];rfl];have E:=hid (zI (w.alloc (.cells #[.int .u8 a.sign,.int .u8 a.letter,.int .i64 a.digit] 255)) B mb ob po m a HM.out hs ha);clear nv
 go_enter func182,ntmps182
 go_wp2_with fail
 refine br E ?_;rintro x w2 ⟨rfl,M2,K2⟩;have H2:=hid (ae M2 (Km.trans HK.out K2));clear E M2 K2;go_wp2;go_ret;exact ⟨rfl,H2.out.1,H2.out.2⟩
end
section
variable {w w' : World} {B mb ob po : Nat} {m : Ma}
theorem Mm.blk (h : Mm w B mb ob po m) : ∃ c,w.heap[mb]? = some (.cells c 149 (0,0)):=by
 obtain ⟨qv,ov,hm,_⟩:=h;exact ⟨_,hm⟩
theorem Mm.lt (h : Mm w B mb ob po m) : mb < w.heap.size:=by obtain ⟨c,hc⟩:=h.blk;exact lt_of_block hc
theorem Mm.at_ (h : Mm w B mb ob po m) (k : Kp (km B mb w) w w') {i : Nat} {c : Array Value} {T : TypeId} {f : Nat × Nat} (hi : w.heap[i]? = some (.cells c T f)) (h1 : T ≠ 149) (h2 : T ≠ 5) : w'.heap[i]? = some (.cells c T f):=by
 refine k.at_ hi fun x=>?_
 rcases x with rfl | ⟨_,cur,y⟩
 ·obtain ⟨c',hc⟩:=h.blk
  rw [hc] at hi;simp at hi;exact h1 hi.2.1.symm
 rw [y] at hi;simp at hi;exact h2 hi.2.1.symm
theorem Mm.row (h : Mm w B mb ob po m) (k : Kp (km B mb w) w w') {base : Nat} {e : TypeId} {size : Nat} {v : Value} {n : Nat} {xs : List Value} (ho : w.ownsRow base e size v n xs) (h1 : e ≠ 149) (h2 : e ≠ 5) : w'.ownsRow base e size v n xs:=by
 refine k.owns ho fun i hi x=>?_
 obtain ⟨cur,hc⟩:=aR ho hi
 rcases x with rfl | ⟨_,cur',y⟩
 ·obtain ⟨c',hc'⟩:=h.blk
  rw [hc'] at hc;simp at hc;exact h1 hc.2.symm
 rw [y] at hc;simp at hc;exact h2 hc.2.symm
theorem Mm.pl (h : Mm w B mb ob po m) (k : Kp (km B mb w) w w') {pb pp : Nat} {ol : Ol} (p : Pl w pb pp ol) : Pl w' pb pp ol:=by
 obtain ⟨c,hc⟩:=h.blk;exact p.km k hc
end
theorem zJ (l : List Ac) (k : Nat) (a : Ac) (h : l[k]? = some a) : (cX l)[k * 3]? = some (.int .u8 a.sign) /\ (cX l)[k * 3 + 1]? = some (.int .u8 a.letter) /\ (cX l)[k * 3 + 2]? = some (.int .i64 a.digit):=by
 have:=qC (fun a : Ac=>[Value.int .u8 a.sign,.int .u8 a.letter,.int .i64 a.digit]) 3 (by intro _;rfl) l k;exact ⟨this 0 a h (by omega),this 1 a h (by omega),this 2 a h (by omega)⟩
section
variable (w : World) (B mb ob po : Nat)
theorem Ez (m : Ma) (uk : List Ac) (av : Value) (base : Nat) (ho : w.ownsRow base 255 3 av uk.length (cX uk)) (h : Mm w B mb ob po m) (hs : m.s.Ok) (ha : ∀ a ∈ uk,a.Ok) (hB : B <= w.heap.size) (hl : uk.length <= 1000) (hq : m.q.length <= 995000000) (hu : m.out.length <= 995000000) :
 Calls prog 134 #[.pointer (some ⟨mb,0,none⟩),av] w fun x w'=>x = .returned (.tuple #[]) /\ Mm w' B mb ob po (cV uk m) /\ Kp (km B mb w) w w':=by
 obtain ⟨ao,cap,rfl⟩:=b7 ho
 go_enter func134,ntmps134
 go_wp2_with fail
 go_loopw [4] (fun i wr=>∃ (k : Nat) (m' : Ma),i = .int .i64 k /\ k <= uk.length /\ Hid (cV uk m = cV (uk.drop k) m') /\ Mm wr B mb ob po m' /\ m'.s.Ok /\ m'.q.length <= m.q.length + k /\ m'.out.length <= m.out.length + k /\ Kp (km B mb w) w wr) (fun i _=>uk.length - (intOf i).toNat)
 case atStart=>exact ⟨0,m,rfl,Nat.zero_le _,hid rfl,h,hs,Nat.le_refl _,Nat.le_refl _,Kp.refl _ _⟩
 case round =>
  obtain ⟨k,m',rfl,hk,HE,hm',hs',hq',hu',KW⟩:=hrel;have hor : wr.ownsRow base 255 3 (.slice ao uk.length cap) uk.length (cX uk):=h.row KW ho (by decide) (by decide)
  have hBr : B <= wr.heap.size:=by have:=KW.size;omega
  by_cases hlt : k < uk.length
  ·have hlt' : (k : Int) < (uk.length : Int):=by omega
   obtain ⟨a,hs1⟩ : ∃ s,uk[k]? = some s:=⟨_,List.getElem?_eq_getElem hlt⟩
   obtain ⟨g,cap',hg⟩:=ey hor (by omega);simp only [Value.slice.injEq,true_and] at hg;obtain ⟨rfl,rfl⟩:=hg;obtain ⟨z0,z1,z2⟩:=zJ uk k a hs1;have a0:=(hor.cellAt (k * 3) (by omega)).trans z0;have a1:=(hor.cellAt (k * 3 + 1) (by omega)).trans z1;have a2:=(hor.cellAt (k * 3 + 2) (by omega)).trans z2
   have ed : uk.drop k = a :: uk.drop (k + 1):=by
    rw [List.drop_eq_getElem_cons hlt];congr 1;exact (List.getElem?_eq_some_iff.1 hs1).2
   have E1:=hid (CF wr B mb ob po m' a hm' hs' (ha a (List.mem_of_getElem? hs1)) hBr (by omega) (by omega));have VX:=Bt m' a;have MN:=rD hs' a
   cases q1 : (dw m' a).1 with
   | true =>
     rw [q1] at E1;have HF:=hid (HE.out.trans (show _ = cV (uk.drop (k + 1)) (dw m' a).2 by rw [ed];simp only [cV];rw [q1];rfl));clear ed HE hs1 hor z0 z1 z2 hm' ho h
     go_wp2_with fail
     refine br E1 ?_;rintro x w2 ⟨rfl,M2,K2⟩;have K3:=Km.trans KW K2;clear E1 K2 a0 a1 a2;go_wp2
     go_roundw
     case rel=>exact ⟨k + 1,_,by go_num,by omega,HF,M2,MN,by omega,by omega,K3⟩
     case measure=>simp [intOf];omega
   | false=>?_
   rw [q1] at E1;have HF:=hid (HE.out.trans (show _ = { (dw m' a).2 with q:=(dw m' a).2.q ++ [122] } by rw [ed];simp only [cV];rw [q1];rfl));clear ed HE hs1 hor z0 z1 z2 hm' ho h
   go_wp2_with fail
   refine br E1 ?_;rintro x w2 ⟨rfl,M2,K2⟩;have K3:=Km.trans KW K2;have E2:=hid (l8 w2 B mb ob po (dw m' a).2 122 M2 MN.1 (by have:=K3.size;omega) (by omega));clear E1 K2 a0 a1 a2
   go_wp2_with fail
   refine br E2 ?_;rintro x w4 ⟨rfl,M4,K4⟩;have K5:=Km.trans K3 K4;clear E2 K4 K3 M2;go_wp2;refine bodyPost_ret (results_none rfl _ _ _) rfl ?_;rw [HF.out];exact ⟨rfl,M4,K5⟩
  have hge : ¬ (k : Int) < (uk.length : Int):=by omega
  have HF:=hid (HE.out.trans (show _ = m' by rw [List.drop_eq_nil_of_le (by omega)];rfl));clear HE
  go_wp2_with fail
  go_end0
  rw [HF.out];exact ⟨rfl,hm',KW⟩
end
namespace Ch
def cD (state sign : Int) : List Bl -> Ma -> Ma
 | [],m=>m
 | b :: l,m=>cD state sign l (if (b.state == state) && (b.sign == sign) then cV b.acts m else m)
structure Ol.Ok (ol : Ol) : Prop where
 up : Up ol.ag
 ag : ol.ag.length <= 16
 bH : ol.bH.length <= 240
 cM : ol.cM.length <= 240
 kx : ∀ t ∈ ol.bH,t.acts.length <= 240 /\ ∀ a ∈ t.acts,a.Ok
 kH : ∀ b ∈ ol.cM,b.acts.length <= 240 /\ ∀ a ∈ b.acts,a.Ok
def Ma.Sz (m : Ma) (n : Nat) : Prop:=m.q.length <= n /\ m.out.length <= n
theorem oN {m : Ma} {n : Nat} (h : m.Sz n) {l : List Ac} (hl : l.length <= 240) : (cV l m).Sz (n + 480):=by
 have:=xt l m;unfold Ma.Sz at *;omega
theorem EG (state sign : Int) : ∀ (l : List Bl) {m : Ma} {n : Nat},m.Sz n -> (∀ b ∈ l,b.acts.length <= 240) -> (cD state sign l m).Sz (n + 480 * l.length):=by
 intro l
 induction l with
 | nil=>intro m n h _;simpa [cD] using h
 | cons b l ih=>?_
 intro m n h hl;simp only [cD]
 have h2 : ((if (b.state == state) && (b.sign == sign) then cV b.acts m else m) : Ma).Sz (n + 480):=by
  split
  ·exact oN h (hl b (by simp))
  unfold Ma.Sz at *;omega
 have:=ih h2 (fun x hx=>hl x (by simp [hx]));unfold Ma.Sz at *;simp only [List.length_cons];omega
theorem ld (state sign : Int) : ∀ (l : List Bl) {m : Ma},m.s.Ok -> (cD state sign l m).s.Ok:=by
 intro l
 induction l with
 | nil=>intro m h;exact h
 | cons b l ih=>?_
 intro m h;simp only [cD];refine ih ?_
 split
 ·exact l_ _ h
 exact h
end Ch
section
variable (w : World) (B mb ob po : Nat)
theorem kg (m : Ma) (ol : Ol) (state sign : Int) (hp : Pl w ob po ol) (hol : ol.Ok) (h : Mm w B mb ob po m) (hs : m.s.Ok) (hB : B <= w.heap.size) (hz : m.Sz 990000000) :
 Calls prog 167 #[.pointer (some ⟨mb,0,none⟩),.int .i64 state,.int .u8 sign] w fun x w'=>x = .returned (.tuple #[]) /\ Mm w' B mb ob po (cD state sign ol.cM m) /\ Kp (km B mb w) w w':=by
 obtain ⟨hz1,hz2⟩:=hz;have hbl:=hol.cM
 go_enter func167,ntmps167
 go_wp2_with fail
 go_loopw [6] (fun i wr=>∃ (k : Nat) (m' : Ma),i = .int .i64 k /\ k <= ol.cM.length /\ Hid (cD state sign ol.cM m = cD state sign (ol.cM.drop k) m') /\ Mm wr B mb ob po m' /\ m'.s.Ok /\ m'.q.length <= m.q.length + 480 * k /\ m'.out.length <= m.out.length + 480 * k /\ Kp (km B mb w) w wr) (fun i _=>ol.cM.length - (intOf i).toNat)
 case atStart=>exact ⟨0,m,rfl,Nat.zero_le _,hid rfl,h,hs,Nat.le_refl _,Nat.le_refl _,Kp.refl _ _⟩
 case round =>
  obtain ⟨k,m',rfl,hk,HE,hm',hs',hq',hu',KW⟩:=hrel;have hpr : Pl wr ob po ol:=h.pl KW hp
  have hBr : B <= wr.heap.size:=by have:=KW.size;omega
  obtain ⟨qv,ov,hmb,_⟩:=id hm';have cp:=hmb.plan;clear hmb
  by_cases hlt : k < ol.cM.length
  ·have hlt' : (k : Int) < (ol.cM.length : Int):=by omega
   obtain ⟨bk,hs1⟩ : ∃ s,ol.cM[k]? = some s:=⟨_,List.getElem?_eq_getElem hlt⟩
   obtain ⟨g,cap,ac,base,c4,cc,hac⟩:=hpr.bl hs1;have a0:=cc 0 (by omega);have a1:=cc 1 (by omega);have a2:=cc 2 (by omega);simp only [List.getElem?_cons_succ,List.getElem?_cons_zero,Nat.add_zero] at a0 a1 a2
   have ed : ol.cM.drop k = bk :: ol.cM.drop (k + 1):=by
    rw [List.drop_eq_getElem_cons hlt];congr 1;exact (List.getElem?_eq_some_iff.1 hs1).2
   have T_:=hol.kH bk (List.mem_of_getElem? hs1);obtain ⟨L6,CG,Ua⟩:=b7 hac;subst Ua;have KB : Kp (fun _=>False) wr (wr.alloc (.cells #[.int .i64 bk.state,.int .u8 bk.sign,.slice L6 bk.acts.length CG] 282)):=(Kp.refl _ _).alloc _;have KM:=Km.trans KW (KB.km (B:=B) (mb:=mb));have MB:=hm'.still KB
   have skip : ((bk.state == state) && (bk.sign == sign)) = false -> cD state sign ol.cM m = cD state sign (ol.cM.drop (k + 1)) m':=fun q=>by
    rw [HE.out,ed];simp only [cD];rw [q];rfl
   cases q1 : bk.state == state with
   | false =>
     have HF:=hid (skip (by rw [q1];rfl));clear ed HE hs1 cc skip hac hpr
     go_wp2_with fail
     go_roundw
     case rel=>exact ⟨k + 1,m',by go_num,by omega,HF,MB,hs',by omega,by omega,KM⟩
     case measure=>simp [intOf];omega
   | true=>?_
   cases q2 : bk.sign == sign with
   | false =>
     have HF:=hid (skip (by rw [q2];simp));clear ed HE hs1 cc skip hac hpr
     go_wp2_with fail
     go_roundw
     case rel=>exact ⟨k + 1,m',by go_num,by omega,HF,MB,hs',by omega,by omega,KM⟩
     case measure=>simp [intOf];omega
   | true=>?_
   have HF:=hid (HE.out.trans (show _ = cD state sign (ol.cM.drop (k + 1)) (cV bk.acts m') by rw [ed];simp only [cD];rw [q1,q2];rfl));have oH:=xt bk.acts m';have hdo:=l_ bk.acts hs';have MO:=hac.alloc (.cells #[.int .i64 bk.state,.int .u8 bk.sign,.slice L6 bk.acts.length CG] 282);have E1:=hid (Ez (wr.alloc (.cells #[.int .i64 bk.state,.int .u8 bk.sign,.slice L6 bk.acts.length CG] 282)) B mb ob po m' bk.acts _ base MO MB hs' T_.2 (by have:=KB.size;omega) (by omega) (by omega) (by omega));have HK:=hid KM;clear ed HE hs1 cc skip hac hpr MO KB KM MB
   go_wp2_with fail
   refine br E1 ?_;rintro x w2 ⟨rfl,M2,K2⟩;have K3:=Km.trans HK.out K2;clear E1 K2 HK a0 a1 a2 c4 cp;go_wp2
   go_roundw
   case rel=>exact ⟨k + 1,_,by go_num,by omega,HF,M2,hdo,by omega,by omega,K3⟩
   case measure=>simp [intOf];omega
  have hge : ¬ (k : Int) < (ol.cM.length : Int):=by omega
  have HF:=hid (HE.out.trans (show _ = m' by rw [List.drop_eq_nil_of_le (by omega)];rfl));obtain ⟨ao,cap,c4⟩:=hpr.MJ;clear HE
  go_wp2_with fail
  go_end0
  rw [HF.out];exact ⟨rfl,hm',KW⟩
end
namespace Ch
theorem um {t : ByteArray} {lo : Int} (hlo : 48 <= lo) {r : Bool × Ac × Nat} (h0 : r.2.1.Ok) (h : (ik t lo r).1 = true) : (ik t lo r).2.1.Ok:=by
 unfold ik at *
 split
 ·rename_i q
  rw [if_pos q] at h;simp only [eQ,Bool.and_eq_true,decide_eq_true_eq] at h;unfold Ac.Ok;simp only;omega
 exact h0
theorem Ir {t : ByteArray} {p : Nat} {a : Ac} (h0 : a.digit = 0) (h : (act t p a).1 = true) : (act t p a).2.1.Ok:=by
 have hev : (eu t p a).2.1.Ok:=by unfold eu Ac.Ok;simp [h0]
 have OQ : (eR t p a).2.1.Ok:=by unfold eR Ac.Ok;simp [h0]
 unfold act at *
 split
 ·exact hev
 rename_i q1;rw [if_neg q1] at h
 split
 ·rename_i q2
  rw [if_pos q2] at h;exact um (by omega) hev h
 rename_i q2;rw [if_neg q2] at h
 split
 ·rename_i q3
  rw [if_pos q3] at h;exact um (by omega) OQ h
 unfold Ac.Ok;simp [h0]
theorem CH {t : ByteArray} {cl : Int} : ∀ (n p : Nat) (l : List Ac),p <= t.size -> l.length <= p -> (∀ a ∈ l,a.Ok) -> (ew t cl n p l).2.1.length <= t.size /\ ∀ a ∈ (ew t cl n p l).2.1,a.Ok:=by
 intro n
 induction n with
 | zero=>intro p l _ _ _;simp [ew]
 | succ n ih=>?_
 intro p l hp hl ha;simp only [ew]
 split
 ·exact ⟨by simp only;omega,ha⟩
 split
 ·rename_i q
  have h1:=vf q;refine ih _ _ (kP hp 0 0) (by simp;omega) ?_;intro a hx
  rcases List.mem_append.1 hx with hx | hx
  ·exact ha a hx
  simp at hx;subst hx;exact Ir rfl q
 simp
theorem xu {t : ByteArray} {cl : Int} {p : Nat} (hp : p <= t.size) : (acts t cl p).2.1.length <= t.size /\ ∀ a ∈ (acts t cl p).2.1,a.Ok :=
 CH _ _ _ hp (Nat.zero_le _) (by simp)
structure Ri (t : ByteArray) (r : Rs) : Prop where
 up : Up r.ag
 kx : ∀ x ∈ r.bH,x.acts.length <= t.size /\ ∀ a ∈ x.acts,a.Ok
 kH : ∀ x ∈ r.cM,x.acts.length <= t.size /\ ∀ a ∈ x.acts,a.Ok
theorem Up.push {ss : List St} (h : Up ss) {s : St} (h1 : -1 <= s.parent) (h2 : s.parent < ss.length) : Up (ss ++ [s]):=by
 intro k x hx
 rcases Nat.lt_or_ge k ss.length with q | q
 ·rw [List.getElem?_append_left q] at hx;exact h k x hx
 rw [List.getElem?_append_right q] at hx
 have : k - ss.length = 0:=by
  rcases Nat.eq_zero_or_pos (k - ss.length) with e | e
  ·exact e
  rw [List.getElem?_eq_none (by simp;omega)] at hx;simp at hx
 rw [this] at hx;simp at hx;subst hx;omega
theorem Up.mark {ss : List St} (h : Up ss) (p : Int) : Up (aK p ss):=by
 unfold aK
 split
 ·split
  ·rename_i k _ s hs
   split
   ·intro j x hx
    by_cases e : k = j
    ·subst e
     have hlt:=(List.getElem?_eq_some_iff.1 hs).1;rw [List.getElem?_set_self hlt] at hx;simp at hx;subst hx;exact h k s hs
    rw [List.getElem?_set_ne e] at hx;exact h j x hx
   exact h
  exact h
 exact h
theorem tB {t : ByteArray} {r : Rs} (self : Int) (h : Ri t r) : Ri t (transition t self r).2 /\ (transition t self r).2.ag = r.ag:=by
 unfold transition
 split
 ·rename_i q1
  have l1 : r.pos + 1 < t.size:=by
   rcases Nat.lt_or_ge (r.pos + 1) t.size with x | x
   ·exact x
   rw [bJ x] at q1;simp [iz,bN,cm] at q1
  have hg:=nr (t:=t) (p:=r.pos + 1 + 1) ⟨0,0,0⟩ (by omega);generalize guard t (r.pos + 1 + 1) ⟨0,0,0⟩ = gg at *;have ha:=xu (t:=t) (cl:=62) (p:=gg.2.2) hg.2;generalize acts t 62 gg.2.2 = aa at *
  split
  ·split
   ·refine ⟨⟨h.up,?_,h.kH⟩,rfl⟩
    intro x hx
    rcases List.mem_append.1 hx with hx | hx
    ·exact h.kx x hx
    simp at hx;subst hx;exact ha
   exact ⟨⟨h.up,h.kx,h.kH⟩,rfl⟩
  exact ⟨⟨h.up,h.kx,h.kH⟩,rfl⟩
 exact ⟨⟨h.up,h.kx,h.kH⟩,rfl⟩
theorem EU {t : ByteArray} {r : Rs} (self : Int) (hp : r.pos < t.size) (h : Ri t r) : Ri t (block t self r).2 /\ (block t self r).2.ag = r.ag:=by
 have ha:=xu (t:=t) (cl:=59) (p:=r.pos + 1) (by omega);unfold block
 split
 ·refine ⟨⟨h.up,h.kx,?_⟩,rfl⟩
  intro x hx
  rcases List.mem_append.1 hx with hx | hx
  ·exact h.kH x hx
  simp at hx;subst hx;exact ha
 exact ⟨⟨h.up,h.kx,h.kH⟩,rfl⟩
theorem vF {t : ByteArray} {r : Rs} (op parent : Int) (h1 : -1 <= parent) (h2 : parent < r.ag.length) (h : Ri t r) : Ri t (az t op parent r).2 /\ r.ag.length <= (az t op parent r).2.ag.length /\
 ((az t op parent r).1 = true -> r.ag.length < (az t op parent r).2.ag.length):=by
 unfold az
 split
 ·refine ⟨⟨?_,h.kx,h.kH⟩,?_,fun _=>?_⟩
  ·exact Up.mark (Up.push h.up h1 h2) parent
  ·simp only [bU];simp
  simp only [bU];simp
 exact ⟨h,Nat.le_refl _,by simp⟩
theorem uo {t : ByteArray} {r : Rs} {it : Int -> Int -> Rs -> Bool × Rs} (hit : ∀ a c s,c ≠ 0 -> Ok t s -> Ri t s -> (0 : Int) <= a -> a < (s.ag.length : Int) -> Ri t (it a c s).2 /\ s.ag.length <= (it a c s).2.ag.length) (parent : Int) (hp : r.pos < t.size) (hk : Ok t r) (h : Ri t r)
 (h1 : -1 <= parent) (h2 : parent < r.ag.length) : Ri t (aE t it parent r).2 /\ r.ag.length <= (aE t it parent r).2.ag.length:=by
 obtain ⟨⟨d1,d2,d3,d4⟩,h5⟩:=hk;have hn:=iA (t:=t) (r:={ r with pos:=r.pos + 1 }) (af t r.pos) parent ⟨⟨by simp only;omega,by simp only;omega,by simp only;omega,by simp only;omega⟩,by simp only;omega⟩;have hm:=vF (t:=t) (r:={ r with pos:=r.pos + 1 }) (af t r.pos) parent h1 h2 ⟨h.up,h.kx,h.kH⟩;unfold aE;generalize az t (af t r.pos) parent { r with pos:=r.pos + 1 } = s at *;obtain ⟨m1,m2,m3⟩:=hm;simp only at m2 m3
 split
 ·rename_i q
  have m4:=m3 q
  split
  ·have:=hit r.ag.length 41 s.2 (by decide) hn.1 m1 (by omega) (by omega);exact ⟨this.1,by omega⟩
  split
  ·have:=hit r.ag.length 93 s.2 (by decide) hn.1 m1 (by omega) (by omega);exact ⟨this.1,by omega⟩
  split
  ·exact ⟨⟨m1.up,m1.kx,m1.kH⟩,m2⟩
  exact ⟨m1,m2⟩
 exact ⟨m1,m2⟩
theorem CI {t : ByteArray} : ∀ (n : Nat) (self cl : Int) (r : Rs),cl ≠ 0 -> Ok t r -> Ri t r -> 0 <= self -> self < r.ag.length -> Ri t (ai t n self cl r).2 /\ r.ag.length <= (ai t n self cl r).2.ag.length:=by
 intro n
 induction n with
 | zero=>intro self cl r _ _ h _ _;exact ⟨h,Nat.le_refl _⟩
 | succ n ih=>?_
 intro self cl r hcl hk h h1 h2;simp only [ai]
 split
 ·rename_i q
  have ho:=fP (fun a c s hc hs=>gD n a c s hc hs) self (iH q) hk;have hs:=uo (it:=ai t n) (fun a c s hc hs hr ha hb=>ih a c s hc hs hr ha hb) self (iH q) hk h (by omega) h2;generalize aE t (ai t n) self r = s at *
  split
  ·have:=ih self cl s.2 hcl ho.1 hs.1 h1 (by omega);exact ⟨this.1,by omega⟩
  exact hs
 split
 ·rename_i q
  have ho:=fD self (cd (by decide) q) hk;have hs:=tB self h;generalize transition t self r = s at *
  split
  ·have:=ih self cl s.2 hcl ho.1 hs.1 h1 (by rw [hs.2];exact h2);rw [hs.2] at this;exact this
  exact ⟨hs.1,by rw [hs.2];exact Nat.le_refl _⟩
 split
 ·rename_i q
  have hlt : r.pos < t.size:=by
   rcases Nat.lt_or_ge r.pos t.size with x | x
   ·exact x
   rw [bJ x] at q;simp at q
  have ho:=kS self hlt hk;have hs:=EU self hlt h;generalize block t self r = s at *
  split
  ·have:=ih self cl s.2 hcl ho.1 hs.1 h1 (by rw [hs.2];exact h2);rw [hs.2] at this;exact this
  exact ⟨hs.1,by rw [hs.2];exact Nat.le_refl _⟩
 exact ⟨⟨h.up,h.kx,h.kH⟩,Nat.le_refl _⟩
theorem E9 (t : ByteArray) : Ri t (chart t).2:=by
 have h0 : Ri t r0:=⟨by intro k s h;simp [r0] at h,by simp [r0],by simp [r0]⟩
 unfold chart
 split
 ·rename_i q
  have hlt : 0 < t.size:=by
   rcases Nat.lt_or_ge 0 t.size with x | x
   ·exact x
   rw [bJ x] at q;simp at q
  have hs:=uo (it:=ai t (t.size + 1)) (fun a c s hc hs hr ha hb=>CI (t.size + 1) a c s hc hs hr ha hb) (-1) (r:=r0) hlt (pD t) h0 (by omega) (by simp [r0])
  split
  ·exact hs.1
  exact hs.1
 exact h0
theorem oO : (⟨[],[],[]⟩ : Ol).Ok:=⟨by intro k s h;simp at h,by simp,by simp,by simp,by simp,by simp⟩
theorem jl (t : ByteArray) : (read t).2.2.Ok:=by
 unfold read
 split
 ·exact oO
 rename_i q
 split
 ·split
  ·rename_i qj
   have hi:=E9 t;obtain ⟨⟨d1,d2,d3,d4⟩,h5⟩:=wU t;refine ⟨hi.up,?_,?_,?_,fun x hx=>⟨by have:=(hi.kx x hx).1;omega,(hi.kx x hx).2⟩,fun x hx=>⟨by have:=(hi.kH x hx).1;omega,(hi.kH x hx).2⟩⟩
   ·simp only
    unfold judge at qj
    split at qj
    ·simp at qj
    omega
   ·simp only;omega
   simp only;omega
  exact oO
 exact oO
end Ch
end Go.Proofs.YtnlbchmfcebeeaaGreat
