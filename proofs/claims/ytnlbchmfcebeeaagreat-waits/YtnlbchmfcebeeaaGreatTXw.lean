import Derived.Test.YtnlbchmfcebeeaaGreatTXr
import Derived.Test.YtnlbchmfcebeeaaGreatTXd
import Derived.Test.YtnlbchmfcebeeaaGreatTB1
set_option maxHeartbeats 12800000
set_option maxRecDepth 100000
namespace Go.Proofs.YtnlbchmfcebeeaaGreat
open Go.RowKit
structure Rf (l : List NV) (ol : Ch.Ol) : Prop where
 sts : Ch.sts l = ol.sts
 trs : ∀ (k : Nat) (x : NV),l[k]? = some x → Ch.Fa2 Ch.TrOk x.n.trans (ol.trs.filter (Ch.inS k))
 ent : ∀ (k : Nat) (x : NV),l[k]? = some x → Ch.Fa2 Ch.BlOk x.n.enter (ol.bls.filter (Ch.inB_ k 94))
 lea : ∀ (k : Nat) (x : NV),l[k]? = some x → Ch.Fa2 Ch.BlOk x.n.leave (ol.bls.filter (Ch.inB_ k 36))
 ols : Ch.OlS ol
 aca : Ch.AcA ol
 ok : ol.Ok
 nm : ∀ (k : Nat) (x : NV),l[k]? = some x → 65 ≤ x.n.name ∧ x.n.name ≤ 90
 tb : ∀ x ∈ l,∀ rt ∈ x.n.trans,rt.text.size ≤ 300
 kd : ∀ (k : Nat) (x : NV),l[k]? = some x → 1 ≤ x.n.kind ∧ x.n.kind ≤ 5
theorem Rf.len {l : List NV} {ol : Ch.Ol} (h : Rf l ol) : ol.sts.length = l.length:=by rw [← h.sts,Ch.sts_len]
theorem Rf.le {l : List NV} {ol : Ch.Ol} (h : Rf l ol) : l.length ≤ 16:=by rw [← h.len];exact h.ols.le
theorem Rf.up {l : List NV} {ol : Ch.Ol} (h : Rf l ol) : Ch.Up (Ch.sts l):=by rw [h.sts];exact h.ols.shp.up
theorem Rf.par {l : List NV} {ol : Ch.Ol} (h : Rf l ol) {k : Nat} {x : NV} (hx : l[k]? = some x) : Ch.parAt ol.sts k = x.n.parent:=by rw [← h.sts];exact Ch.sts_par hx
theorem Rf.kind {l : List NV} {ol : Ch.Ol} (h : Rf l ol) {k : Nat} {x : NV} (hx : l[k]? = some x) : Ch.kindAt ol.sts k = x.n.kind:=by rw [← h.sts];exact Ch.sts_kind hx
theorem Rf.move {l : List NV} {ol : Ch.Ol} (h : Rf l ol) {t a k : Nat} (hm : Ch.MvOf ol t a k) : ∃ (nd : NV) (rt : Ch.RT) (x : Ch.Tr),l[a]? = some nd ∧ nd.n.trans[k]? = some rt ∧ ol.trs[t]? = some x ∧ x.state = a ∧ Ch.TrOk rt x ∧ rt.text.size ≤ 300:=by
 obtain ⟨x,h1,h2,h3⟩:=hm.tr;obtain ⟨a',e,hal⟩:=h.ols.src x (List.mem_of_getElem? h1)
 have : a' = a:=by omega
 subst this;rw [h.len] at hal;have hnd : l[a']? = some l[a']:=List.getElem?_eq_getElem hal;obtain ⟨rt,hr1,hr2⟩:=(h.trs a' _ hnd).get h3;exact ⟨_,rt,x,hnd,hr1,h1,h2,hr2,h.tb _ (List.mem_of_getElem? hnd) rt (List.mem_of_getElem? hr1)⟩
theorem Rf.named {l : List NV} {ol : Ch.Ol} (h : Rf l ol) (c : Int) : (Ch.namedR (Ch.mk l) c = -1 ∧ Ch.place ol.sts c = -2) ∨ ∃ i : Nat,i < l.length ∧ Ch.namedR (Ch.mk l) c = i ∧ Ch.place ol.sts c = i:=by
 have:=Ch.named_place (Ch.mk l) c;rw [show (Ch.mk l).map Ch.RN.st = ol.sts from h.sts,Ch.mk_len] at this
 rcases this with ⟨a,b,_⟩ | ⟨i,hi,a,b,_⟩
 ·exact .inl ⟨a,b⟩
 exact .inr ⟨i,hi,a,b⟩
theorem Rf.named45 {l : List NV} {ol : Ch.Ol} (h : Rf l ol) : Ch.namedR (Ch.mk l) 45 = -1:=by
 rcases Ch.named_place (Ch.mk l) 45 with ⟨a,_,_⟩ | ⟨i,hi,_,_,hn⟩
 ·exact a
 rw [Ch.mk_len] at hi;have hx : l[i]? = some l[i]:=List.getElem?_eq_getElem hi;rw [Ch.rnAt_mk hx] at hn;have:=h.nm i _ hx;omega
theorem rtCells_text {l : List Ch.RT} {k : Nat} {x : Ch.RT} (h : l[k]? = some x) : (rtCells l)[k * 2]? = some (.string x.text):=by
 induction l generalizing k with
 | nil=>simp at h
 | cons a l ih=>?_
 have e : rtCells (a :: l) = [.string a.text,.int .i64 a.pos] ++ rtCells l:=by simp [rtCells]
 rw [e]
 cases k with
 | zero=>simp at h;subst h;rfl
 | succ k=>?_
 rw [List.getElem?_append_right (by simp;omega)];have:=ih (k:=k) (by simpa using h);rw [show (k + 1) * 2 - [Value.string a.text,.int .i64 a.pos].length = k * 2 by simp;omega];exact this
theorem Tryz.undMv : ∃ d,Tryz.prog.underlying 301 = some d ∧ isAggD d = true:=⟨_,Tryz.underlying301,rfl⟩
theorem Tryz.sizeMv : (Tryz.prog.info? 301).map (·.size) = some 2:=by kernel_rfl
section
variable (w : World) (B xb cb g n : Nat) (pv : Value) (m : Ch.Ma) (l : List NV) (v : Value)
theorem rText_any (a k : Nat) (nd : NV) (rt : Ch.RT) (h : NwB w xb cb g n pv m) (hF : ChF w B cb l v) (hnd : l[a]? = some nd) (hrt : nd.n.trans[k]? = some rt) :
 Calls Tryz.prog 245 #[.pointer (some ⟨xb,0,none⟩),.agg #[.int .i64 a,.int .i64 k]] w fun y w'=>y = .returned (.string rt.text) ∧ Kp (fun _=>False) w w':=by
 obtain ⟨ao,cap,rfl⟩:=hF.2.1.len;have hlt:=(List.getElem?_eq_some_iff.1 hnd).1
 have hlt' : (a : Int) < (l.length : Int):=by omega
 have hk:=(List.getElem?_eq_some_iff.1 hrt).1;have hb1:=heap_alloc_new w (.cells #[.int .i64 a,.int .i64 k] 301);have K1 : Kp (fun _=>False) w (w.alloc (.cells #[.int .i64 a,.int .i64 k] 301)):=(Kp.refl _ _).alloc _;have hF1:=hF.keep0 K1;have h1 : NwB _ xb cb g n pv m:=h.keep K1 (fun x=>x);obtain ⟨g1,cap1,hv,_,hcell,_⟩:=hF1.2.1.form hnd;simp only [Value.slice.injEq] at hv;obtain ⟨rfl,-,rfl⟩:=hv;have htr:=hF1.2.1.tra nd (List.mem_of_getElem? hnd);obtain ⟨g2,cap2,hv2,_⟩:=World.ownsRow.form htr (by omega);have z6:=hcell 6 (by omega);rw [show (nvRow nd)[6]? = some nd.tv from rfl,hv2] at z6;rw [hv2] at htr;have zt:=(World.ownsRow.cellAt htr (k * 2) (by omega)).trans (rtCells_text hrt);have c0 : World.cell? _ ⟨xb,0,none⟩ = some (.pointer (some ⟨cb,0,none⟩)):=h1.cell 0;have zc:=hF1.cell
 have hk' : (k : Int) < (nd.n.trans.length : Int):=by omega
 clear hF1 h1 hcell htr h hF
 go_enter Tryz.func245,Tryz.ntmps245
 go_upto_region 1 with (fail)
 generalize w.alloc (.cells #[.int .i64 a,.int .i64 k] 301) = w1 at *;generalize w.heap.size = ob at *
 have m0 : w1.cell? ⟨ob,0,none⟩ = some (.int .i64 a):=by rw [World.cell?,hb1];rfl
 have m1 : w1.cell? ⟨ob,1,none⟩ = some (.int .i64 k):=by rw [World.cell?,hb1];rfl
 clear hb1
 go_quiet (fail)
 go_wp2;go_ret;exact ⟨rfl,K1.drewN _⟩
theorem rTarget_any (a k : Nat) (nd : NV) (rt : Ch.RT) (x : Ch.Tr) (h : NwB w xb cb g n pv m) (hF : ChF w B cb l v) (hl : l.length ≤ 16) (hnd : l[a]? = some nd) (hrt : nd.n.trans[k]? = some rt) (hx : Ch.TrOk rt x) (hsz : rt.text.size ≤ 300) :
 Calls Tryz.prog 268 #[.pointer (some ⟨xb,0,none⟩),.agg #[.int .i64 a,.int .i64 k]] w fun y w'=>y = .returned (.int .i64 (Ch.namedR (Ch.mk l) x.target)) ∧ Kp (fun _=>False) w w':=by
 obtain ⟨d,hd,hda⟩:=Tryz.undMv;obtain ⟨he1,_,he2⟩:=hx.ends;have hb1:=heap_alloc_new w (.cells #[.int .i64 a,.int .i64 k] 301);have K1 : Kp (fun _=>False) w (w.alloc (.cells #[.int .i64 a,.int .i64 k] 301)):=(Kp.refl _ _).alloc _;have hF1:=hF.keep0 K1;have h1 : NwB _ xb cb g n pv m:=h.keep K1 (fun x=>x);have E1:=hid (rText_any _ B xb cb g n pv m l v a k nd rt h1 hF1 hnd hrt)
 obtain ⟨q,hq⟩ : ∃ q,rt.text.size = q + 1:=⟨rt.text.size - 1,by omega⟩
 have hpos : q < rt.text.size:=by omega
 have hqi : (rt.text.size : Int) = (q : Int) + 1:=by omega
 have hb2 : ((rt.text[q]'hpos).toNat : Int) = x.target:=by rw [← he2,show rt.text.size - 1 = q by omega];simp [Ch.peek,hpos]
 have aI : (Tryz.prog.info? 301).map (·.size) = some 2:=Tryz.sizeMv;have HH:=hid (And.intro h1 hF1);clear h hF h1 hF1 he2
 go_enter Tryz.func268,Tryz.ntmps268
 go_upto_region 1 with (fail)
 generalize w.alloc (.cells #[.int .i64 a,.int .i64 k] 301) = w1 at *;generalize w.heap.size = ob at *
 have m0 : w1.cell? ⟨ob,0,none⟩ = some (.int .i64 a):=by rw [World.cell?,hb1];rfl
 have m1 : w1.cell? ⟨ob,1,none⟩ = some (.int .i64 k):=by rw [World.cell?,hb1];rfl
 go_wp2_with fail
 refine cMo E1 ?_;rintro y w2 ⟨rfl,K2⟩;have hF2:=HH.out.2.keep0 K2;have h2 : NwB w2 xb cb g n pv m:=HH.out.1.keep K2 (fun x=>x);have c0 : w2.cell? ⟨xb,0,none⟩ = some (.pointer (some ⟨cb,0,none⟩)):=h2.cell 0;have E2:=hid (fun nn=>rNamed_any (w2.drewN nn) B cb l v ((rt.text[q]'hpos).toNat : Int) (hF2.keep0 ((Kp.refl _ _).drewN nn)) (by omega))
 have hlt1 : (q : Int) < (q : Int) + 1:=by omega
 have HK:=hid (K1.trans K2);clear E1 hF2 h2 HH m0 m1 hb1 K1 K2 hnd hrt hx;have HB:=hid hb2;clear hb2 hq;generalize rt.text = s at *
 go_upto_region 2 with (fail)
 go_quiet ((go_at_call 236;exact Calls.quiet_of_same (Hid.out E2 _)))
 go_wp2;go_ret;rw [← HB.out];exact ⟨rfl,HK.out.drewN _⟩
end
namespace Ch
theorem domF_more {ss : List St} (hu : Up ss) (tg : Int) : ∀ (n f g : Nat) (d : Int),-1 ≤ d → (d + 1).toNat ≤ n → (d + 1).toNat ≤ f → (d + 1).toNat ≤ g → domF ss tg f d = domF ss tg g d:=by
 intro n
 induction n with
 | zero =>
   intro f g d h0 h1 _ _
   have : d = -1:=by omega
   subst this;rw [domF_end ss tg f (by rfl),domF_end ss tg g (by rfl)]
 | succ n ih=>?_
 intro f g d h0 h1 h2 h3
 cases q : (d != -1) && !encl ss d tg with
 | false=>rw [domF_end ss tg f q,domF_end ss tg g q]
 | true=>?_
 have hd : d ≠ -1:=by simp at q;exact q.1
 match f,g,h2,h3 with
 | 0,_,h2,_=>omega
 | _ + 1,0,_,h3=>omega
 | f + 1,g + 1,h2,h3 =>
   simp only [domF];rw [if_pos q,if_pos q];have a:=par_low hu d;have b:=par_lt hu (i:=d) (by omega);exact ih f g _ a (by omega) (by omega) (by omega)
def dm (ss : List St) (tg d : Int) : Int:=domF ss tg (d + 1).toNat d
theorem dm_end (ss : List St) (tg : Int) : dm ss tg (-1) = -1:=rfl
theorem dm_hit {ss : List St} {tg d : Int} (h : encl ss d tg = true) : dm ss tg d = d:=domF_end ss tg _ (by rw [h];simp)
theorem dm_step {ss : List St} (hu : Up ss) {tg d : Int} (h0 : 0 ≤ d) (h : encl ss d tg = false) : dm ss tg d = dm ss tg (parAt ss d):=by
 unfold dm
 obtain ⟨f,hf⟩ : ∃ f,(d + 1).toNat = f + 1:=⟨d.toNat,by omega⟩
 rw [hf];simp only [domF]
 have : ((d != -1) && !encl ss d tg) = true:=by rw [h];simp;omega
 rw [if_pos this];have a:=par_low hu d;have b:=par_lt hu (i:=d) (by omega);exact domF_more hu tg f f _ _ a (by omega) (by omega) (Nat.le_refl _)
end Ch
structure MvR (l : List NV) (ol : Ch.Ol) (t a k : Nat) (nd : NV) (rt : Ch.RT) (x : Ch.Tr) : Prop where
 hnd : l[a]? = some nd
 hrt : nd.n.trans[k]? = some rt
 htr : ol.trs[t]? = some x
 hst : x.state = a
 hok : Ch.TrOk rt x
 hsz : rt.text.size ≤ 300
section
variable (w : World) (B xb cb g : Nat) (pv : Value) (m : Ch.Ma) (l : List NV) (v : Value) (ol : Ch.Ol)
theorem rLeft_any (t a k i : Nat) (nd : NV) (rt : Ch.RT) (x : Ch.Tr) (on : List Bool) (h : NwB w xb cb g l.length pv m) (hon : OnB w g on) (hso : Ch.SameOn l.length on m.s.act) (hF : ChF w B cb l v) (hR : Rf l ol) (hm : MvR l ol t a k nd rt x) (hi : i < l.length) :
 Calls Tryz.prog 266 #[.pointer (some ⟨xb,0,none⟩),.agg #[.int .i64 a,.int .i64 k],.int .i64 i] w fun y w'=>y = .returned (.bool (Ch.lv ol m.s t i)) ∧ Kp (fun _=>False) w w':=by
 obtain ⟨d,hd,hda⟩:=Tryz.undMv;have hlv:=Ch.lv_at (s:=m.s) (t:=(t : Int)) (show ol.trs[((t : Int)).toNat]? = some x from hm.htr) i;rw [hm.hst,decide_eq_true (by rw [hR.len];exact hi),Bool.true_and,← hso.2.2 i] at hlv
 have hdom : Ch.dom ol.sts a x.target = Ch.dm ol.sts (Ch.place ol.sts x.target) nd.n.parent:=by rw [← hR.par hm.hnd];rfl
 rw [hdom] at hlv;have hle:=hR.le;obtain ⟨ao,cap,rfl⟩:=hF.2.1.len;have hb1:=heap_alloc_new w (.cells #[.int .i64 a,.int .i64 k] 301);have K1 : Kp (fun _=>False) w (w.alloc (.cells #[.int .i64 a,.int .i64 k] 301)):=(Kp.refl _ _).alloc _;have hF1:=hF.keep0 K1;have h1 : NwB _ xb cb g l.length pv m:=h.keep K1 (fun x=>x);have hon1 : OnB _ g on:=K1.at_ hon (fun x=>x);have E1:=hid (rTarget_any _ B xb cb g l.length pv m l _ a k nd rt x h1 hF1 hle hm.hnd hm.hrt hm.hok hm.hsz);have HH:=hid (And.intro h1 (And.intro hF1 (And.intro hon1 hlv)));clear h hF h1 hF1 hon hon1 hlv hdom
 go_enter Tryz.func266,Tryz.ntmps266
 go_upto_region 1 with (fail)
 generalize w.alloc (.cells #[.int .i64 a,.int .i64 k] 301) = w1 at *;generalize w.heap.size = ob at *
 have m0 : w1.cell? ⟨ob,0,none⟩ = some (.int .i64 a):=by rw [World.cell?,hb1];rfl
 have m1 : w1.cell? ⟨ob,1,none⟩ = some (.int .i64 k):=by rw [World.cell?,hb1];rfl
 go_wp2_with fail
 refine cMo E1 ?_;rintro y w2 ⟨rfl,K2⟩;have hb2:=K2.at_ hb1 (fun x=>x)
 have m0' : w2.cell? ⟨ob,0,none⟩ = some (.int .i64 a):=by rw [World.cell?,hb2];rfl
 have h2 : NwB w2 xb cb g l.length pv m:=HH.out.1.keep K2 (fun x=>x);have hF2:=HH.out.2.1.keep0 K2;have hon2 : OnB w2 g on:=K2.at_ HH.out.2.2.1 (fun x=>x);have c0 : w2.cell? ⟨xb,0,none⟩ = some (.pointer (some ⟨cb,0,none⟩)):=h2.cell 0;have c1 : w2.cell? ⟨xb,1,none⟩ = some (.slice (some ⟨g,0,none⟩) l.length l.length):=h2.cell 1;have zon:=hon2.cell (k:=i) (by have:=hso.1;omega);have hlv:=HH.out.2.2.2
 have hi' : (i : Int) < (l.length : Int):=by omega
 have K12:=K1.trans K2;clear E1 HH m0 m1 hb1 hb2 K1 K2
 obtain ⟨gt,hgt⟩ : ∃ gt,Ch.namedR (Ch.mk l) x.target = gt:=⟨_,rfl⟩
 rw [hgt]
 by_cases h45 : x.target = 45
 ·have hn:=hR.named45
  rw [← h45,hgt] at hn;subst hn;rw [h45] at hlv;have HR:=hid (hlv.trans (show _ = false from rfl));clear hlv hgt;go_wp2;go_ret;rw [HR.out];exact ⟨rfl,K12⟩
 obtain ⟨gi,hgil,hg1,hg2⟩ : ∃ gi : Nat,gi < l.length ∧ gt = gi ∧ Ch.place ol.sts x.target = gi:=by
  rcases hR.named x.target with ⟨_,h2⟩ | ⟨i,hi,h1,h2⟩
  ·obtain ⟨g',hg',_⟩:=hR.ols.tgt x (List.mem_of_getElem? hm.htr) h45
   omega
  exact ⟨i,hi,by rw [← hgt];exact h1,h2⟩
 subst hg1
 have ht : (x.target == 45) = false:=by simpa using h45
 rw [ht,hg2] at hlv;simp only [Bool.not_false,Bool.true_and] at hlv
 have hgi' : (gi : Int) < (l.length : Int):=by omega
 cases qo : Ch.onAt on i with
 | false =>
   rw [qo] at zon hlv;have HR:=hid (hlv.trans (Bool.false_and _));clear hlv hgt;go_wp2;go_ret;rw [HR.out];exact ⟨rfl,K12⟩
 | true=>?_
 rw [qo] at zon hlv;rw [Bool.true_and] at hlv;have hal:=(List.getElem?_eq_some_iff.1 hm.hnd).1
 have hal' : (a : Int) < (l.length : Int):=by omega
 obtain ⟨g1,cap1,hv,_,hcell,_⟩:=hF2.2.1.form hm.hnd;simp only [Value.slice.injEq] at hv;obtain ⟨rfl,-,rfl⟩:=hv;have zp : w2.cell? ⟨g1,a * 7 + 2,none⟩ = some (.int .i64 nd.n.parent):=hcell 2 (by omega);have zc:=hF2.cell;have hup:=hR.up;have hpd:=hup a ⟨nd.n.name,nd.n.pos,nd.n.kind,nd.n.parent⟩ (by unfold Ch.sts Ch.mk;rw [List.getElem?_map,List.getElem?_map,hm.hnd];rfl);simp only at hpd;have HX:=hid (And.intro hlv (And.intro hF2 (And.intro h2 K12)));clear hlv hF2 h2 hcell hgt hon2 K12
 go_wp2_with fail
 go_quiet (fail)
 go_wp2_with fail
 go_loopw [8] (fun dv wr=>∃ dd : Int,dv = .int .i64 dd ∧ -1 ≤ dd ∧ dd < l.length ∧ Hid (Ch.lv ol m.s t i = Ch.isAbove ol.sts (Ch.dm ol.sts gi dd) i) ∧ Kp (fun _=>False) w2 wr) (fun dv _=>(intOf dv + 1).toNat)
 case atStart=>exact ⟨nd.n.parent,rfl,hpd.1,by omega,hid HX.out.1,(Kp.refl _ _).drewN _⟩
 case round =>
  obtain ⟨dd,rfl,hd1,hd2,HE,KW⟩:=hrel;have hFr:=HX.out.2.1.keep0 KW;have hr : NwB wr xb cb g l.length pv m:=HX.out.2.2.1.keep KW (fun x=>x);have c0r : wr.cell? ⟨xb,0,none⟩ = some (.pointer (some ⟨cb,0,none⟩)):=hr.cell 0;have zcr:=hFr.cell;clear hr
  by_cases hd0 : 0 ≤ dd
  ·obtain ⟨dk,rfl⟩ : ∃ dk : Nat,dd = dk:=⟨dd.toNat,by omega⟩
   have hdk : dk < l.length:=by omega
   obtain ⟨y,hy⟩ : ∃ y,l[dk]? = some y:=⟨_,List.getElem?_eq_getElem hdk⟩
   obtain ⟨g3,cap3,hv3,_,hcell3,_⟩:=hFr.2.1.form hy;simp only [Value.slice.injEq,Option.some.injEq,Addr.mk.injEq,true_and,and_true] at hv3;obtain ⟨rfl,rfl⟩:=hv3;have zk : wr.cell? ⟨g1,dk * 7 + 1,none⟩ = some (.int .i64 y.n.kind):=hcell3 1 (by omega);have zp3 : wr.cell? ⟨g1,dk * 7 + 2,none⟩ = some (.int .i64 y.n.parent):=hcell3 2 (by omega);have hpy:=hup dk ⟨y.n.name,y.n.pos,y.n.kind,y.n.parent⟩ (by unfold Ch.sts Ch.mk;rw [List.getElem?_map,List.getElem?_map,hy];rfl);simp only at hpy;have E:=hid (rAbove_any wr B cb l _ dk gi hFr hgil hup (by omega));have E2:=hid (rAbove_any wr B cb l _ dk i hFr hi hup (by omega))
   have hen : Ch.encl ol.sts dk gi = (y.n.kind == 2 && Ch.isAbove ol.sts dk gi):=by unfold Ch.encl;rw [hR.kind hy]
   have hhit:=fun h=>HE.out.trans (by rw [Ch.dm_hit (ss:=ol.sts) (tg:=gi) (d:=dk) h])
   have hgo:=fun h=>HE.out.trans (show _ = Ch.isAbove ol.sts (Ch.dm ol.sts gi y.n.parent) i by rw [Ch.dm_step hR.ols.shp.up (tg:=gi) (d:=dk) (by omega) h,hR.par hy])
   rw [hen] at hhit hgo;rw [hR.sts] at E E2;have HHIT:=hid hhit;have HGO:=hid hgo;clear hcell3 hen hhit hgo hFr HE;generalize Ch.isAbove ol.sts dk gi = ov at *
   cases ov with
   | false =>
     have HN:=hid (HGO.out (by simp));clear HGO HHIT
     go_wp2_with fail
     refine cMo E ?_;rintro z w5 ⟨rfl,e5⟩;rw [e5];go_wp2
     go_roundw
     case rel=>exact ⟨y.n.parent,rfl,hpy.1,by omega,hid HN.out,KW⟩
     case measure=>simp [intOf];omega
   | true=>?_
   cases q2 : y.n.kind == 2 with
   | false =>
     have HN:=hid (HGO.out (by rw [q2];rfl));clear HGO HHIT
     go_wp2_with fail
     refine cMo E ?_;rintro z w5 ⟨rfl,e5⟩;rw [e5];go_wp2
     go_roundw
     case rel=>exact ⟨y.n.parent,rfl,hpy.1,by omega,hid HN.out,KW⟩
     case measure=>simp [intOf];omega
   | true=>?_
   have HN:=hid (HHIT.out (by rw [q2];rfl));clear HGO HHIT
   go_wp2_with fail
   refine cMo E ?_;rintro z w5 ⟨rfl,e5⟩;rw [e5]
   go_wp2_with fail
   refine cMo E2 ?_;rintro z w6 ⟨rfl,e6⟩;rw [e6];go_wp2;go_ret;rw [HN.out];exact ⟨rfl,HX.out.2.2.2.trans KW⟩
  have hdm : dd = -1:=by omega
  subst hdm;have E2:=hid (rAbove_any wr B cb l _ (-1) i hFr hi hup (by omega));rw [hR.sts] at E2;have HN:=hid (HE.out.trans (by rw [Ch.dm_end]));clear HE hFr
  go_wp2_with fail
  refine cMo E2 ?_;rintro z w6 ⟨rfl,e6⟩;rw [e6];go_wp2;go_ret;rw [HN.out];exact ⟨rfl,HX.out.2.2.2.trans KW⟩
end
namespace Ch
theorem meets_any {ol : Ol} (h16 : ol.sts.length ≤ 16) (s : Sd) (a b : Nat) : meets (leaves ol s a) (leaves ol s b) = (List.range ol.sts.length).any (fun j=>lv ol s a j && lv ol s b j):=by
 have h:=meets_no h16 (s:=s) (a:=(a : Int)) (b:=(b : Int));simp only [Int.toNat_natCast] at h
 cases q : (List.range ol.sts.length).any (fun j=>lv ol s a j && lv ol s b j) with
 | false =>
   rw [h];intro j hj;rw [List.any_eq_false] at q
   have hjl : j < ol.sts.length:=by
    obtain ⟨x,hx⟩:=lv_some hj.1;exact ((lv_iff hx j).1 hj.1).2.1
   exact q j (by simpa using hjl) (by rw [hj.1,hj.2];rfl)
 | true=>?_
 rw [List.any_eq_true] at q;obtain ⟨j,_,hj⟩:=q;simp only [Bool.and_eq_true] at hj
 cases q2 : meets (leaves ol s a) (leaves ol s b) with
 | true=>rfl
 | false=>exact absurd hj ((h.1 q2) j)
theorem any_yes {n k : Nat} {p : Nat → Bool} (hk : k < n) (h : p k = true) : (List.range n).any p = true:=by
 rw [List.any_eq_true];exact ⟨k,by simpa using hk,h⟩
theorem any_no {n : Nat} {p : Nat → Bool} (h : ∀ k,k < n → p k = false) : (List.range n).any p = false:=by
 rw [List.any_eq_false];intro k hk;simp [h k (by simpa using hk)]
end Ch
section
variable (w : World) (B xb cb g : Nat) (pv : Value) (m : Ch.Ma) (l : List NV) (v : Value) (ol : Ch.Ol)
theorem rBoth_any (t a k t2 a2 k2 : Nat) (nd nd2 : NV) (rt rt2 : Ch.RT) (x x2 : Ch.Tr) (on : List Bool) (h : NwB w xb cb g l.length pv m) (hon : OnB w g on) (hso : Ch.SameOn l.length on m.s.act) (hF : ChF w B cb l v) (hR : Rf l ol) (hm : MvR l ol t a k nd rt x) (hm2 : MvR l ol t2 a2 k2 nd2 rt2 x2) :
 Calls Tryz.prog 242 #[.pointer (some ⟨xb,0,none⟩),.agg #[.int .i64 a,.int .i64 k],.agg #[.int .i64 a2,.int .i64 k2]] w fun y w'=>y = .returned (.bool (Ch.meets (Ch.leaves ol m.s t) (Ch.leaves ol m.s t2))) ∧ Kp (fun _=>False) w w':=by
 have hM:=Ch.meets_any hR.ols.le m.s t t2;rw [hR.len] at hM;obtain ⟨ao,cap,rfl⟩:=hF.2.1.len;have hle:=hR.le;have hb1:=heap_alloc_new w (.cells #[.int .i64 a,.int .i64 k] 301);have hb2:=heap_alloc_new (w.alloc (.cells #[.int .i64 a,.int .i64 k] 301)) (.cells #[.int .i64 a2,.int .i64 k2] 301);have hb1':=((Kp.refl (fun _=>False) (w.alloc (.cells #[.int .i64 a,.int .i64 k] 301))).alloc (.cells #[.int .i64 a2,.int .i64 k2] 301)).at_ hb1 (fun x=>x);rw [show (w.alloc (.cells #[.int .i64 a,.int .i64 k] 301)).heap.size = w.heap.size + 1 by simp only [World.alloc,Array.size_push]] at hb2;have K1 : Kp (fun _=>False) w ((w.alloc (.cells #[.int .i64 a,.int .i64 k] 301)).alloc (.cells #[.int .i64 a2,.int .i64 k2] 301)):=((Kp.refl _ _).alloc _).alloc _;have hF1:=hF.keep0 K1;have h1 : NwB _ xb cb g l.length pv m:=h.keep K1 (fun x=>x);have hon1 : OnB _ g on:=K1.at_ hon (fun x=>x);have HH:=hid (And.intro h1 (And.intro hF1 (And.intro hon1 (And.intro hb1' hb2))));have HM:=hid hM;clear h hF h1 hF1 hon hon1 hb1 hb2 hb1' hM
 go_enter Tryz.func242,Tryz.ntmps242
 go_upto_region 1 with (fail)
 generalize (w.alloc (.cells #[.int .i64 a,.int .i64 k] 301)).alloc (.cells #[.int .i64 a2,.int .i64 k2] 301) = w1 at *;generalize w.heap.size = ob at *
 go_wp2_with fail
 go_loopw [7] (fun iv wr=>∃ i : Nat,iv = .int .i64 i ∧ i ≤ l.length ∧ Hid (∀ j,j < i → (Ch.lv ol m.s t j && Ch.lv ol m.s t2 j) = false) ∧ Kp (fun _=>False) w1 wr) (fun iv _=>l.length - (intOf iv).toNat)
 case atStart=>exact ⟨0,rfl,Nat.zero_le _,hid (fun j h=>absurd h (by omega)),Kp.refl _ _⟩
 case round =>
  obtain ⟨i,rfl,hi,HB,KW⟩:=hrel;have hr : NwB wr xb cb g l.length pv m:=HH.out.1.keep KW (fun x=>x);have hFr:=HH.out.2.1.keep0 KW;have honr : OnB wr g on:=KW.at_ HH.out.2.2.1 (fun x=>x);have b1:=KW.at_ HH.out.2.2.2.1 (fun x=>x);have c0 : wr.cell? ⟨xb,0,none⟩ = some (.pointer (some ⟨cb,0,none⟩)):=hr.cell 0;have zc:=hFr.cell
  have m0 : wr.cell? ⟨ob,0,none⟩ = some (.int .i64 a):=by rw [World.cell?,b1];rfl
  have m1 : wr.cell? ⟨ob,1,none⟩ = some (.int .i64 k):=by rw [World.cell?,b1];rfl
  by_cases hlt : i < l.length
  ·have hlt' : (i : Int) < (l.length : Int):=by omega
   have E1:=hid (rLeft_any wr B xb cb g pv m l _ ol t a k i nd rt x on hr honr hso hFr hR hm hlt);have HW:=hid (And.intro hr (And.intro hFr (And.intro honr KW)));have hyes:=hid (fun h=>HM.out.trans (Ch.any_yes hlt (p:=fun j=>Ch.lv ol m.s t j && Ch.lv ol m.s t2 j) h))
   have HNX:=hid (fun (h : (Ch.lv ol m.s t i && Ch.lv ol m.s t2 i) = false)=>show ∀ j,j < i + 1 → (Ch.lv ol m.s t j && Ch.lv ol m.s t2 j) = false from fun j hj=>by
    rcases Nat.lt_or_eq_of_le (Nat.le_of_lt_succ hj) with h' | h'
    ·exact HB.out j h'
    subst h';exact h)
   clear hr hFr honr KW b1 HB
   go_wp2_with fail
   refine cMo E1 ?_;rintro y w2 ⟨rfl,K2⟩;have KW2:=HW.out.2.2.2.trans K2;have b2:=KW2.at_ HH.out.2.2.2.2 (fun x=>x)
   have n0 : w2.cell? ⟨ob + 1,0,none⟩ = some (.int .i64 a2):=by rw [World.cell?,b2];rfl
   have n1 : w2.cell? ⟨ob + 1,1,none⟩ = some (.int .i64 k2):=by rw [World.cell?,b2];rfl
   have E2:=hid (rLeft_any w2 B xb cb g pv m l _ ol t2 a2 k2 i nd2 rt2 x2 on (HW.out.1.keep K2 (fun x=>x)) (K2.at_ HW.out.2.2.1 (fun x=>x)) hso (HW.out.2.1.keep0 K2) hR hm2 hlt);clear E1 K2 b2 HW m0 m1 c0 zc;generalize Ch.lv ol m.s t i = v1 at *;generalize Ch.lv ol m.s t2 i = v2 at *
   go_wp2_with fail
   refine cMo E2 ?_;rintro y w3 ⟨rfl,K3⟩;have HK:=hid (KW2.trans K3);clear E2 K3 KW2 n0 n1
   cases v1 <;> cases v2
   ·go_wp2
    go_roundw
    case rel=>exact ⟨i + 1,by go_num,by omega,hid (HNX.out rfl),HK.out⟩
    case measure=>simp [intOf];omega
   ·go_wp2
    go_roundw
    case rel=>exact ⟨i + 1,by go_num,by omega,hid (HNX.out rfl),HK.out⟩
    case measure=>simp [intOf];omega
   ·go_wp2
    go_roundw
    case rel=>exact ⟨i + 1,by go_num,by omega,hid (HNX.out rfl),HK.out⟩
    case measure=>simp [intOf];omega
   have HR2:=hid (hyes.out rfl);go_wp2;go_ret;rw [HR2.out];exact ⟨rfl,K1.trans HK.out⟩
  have hge : ¬ (i : Int) < (l.length : Int):=by omega
  obtain rfl : i = l.length:=by omega
  have HR2:=hid (HM.out.trans (Ch.any_no HB.out));clear hr hFr honr b1;go_wp2;go_ret;rw [HR2.out];exact ⟨rfl,K1.trans KW⟩
end
namespace Ch
theorem findFromF_more {ol : Ol} (hu : Up ol.sts) (s : Sd) (trg : Int) : ∀ (n f g : Nat) (i : Int),-1 ≤ i → (i + 2).toNat ≤ n → (i + 2).toNat ≤ f → (i + 2).toNat ≤ g → findFromF ol s trg f i = findFromF ol s trg g i:=by
 intro n
 induction n with
 | zero=>intro f g i h0 h1;omega
 | succ n ih=>?_
 intro f g i h0 h1 h2 h3
 match f,g,h2,h3 with
 | 0,_,h2,_=>omega
 | _ + 1,0,_,h3=>omega
 | f + 1,g + 1,h2,h3 =>
   simp only [findFromF]
   by_cases c : i = -1
   ·subst c;rfl
   have a:=par_low hu i;have b:=par_lt hu (i:=i) (by omega);rw [ih f g (parAt ol.sts i) a (by omega) (by omega) (by omega)]
theorem findFrom_end (ol : Ol) (s : Sd) (trg : Int) : findFrom ol s (-1) trg = -2:=rfl
theorem findFrom_hit {ol : Ol} {s : Sd} {trg : Int} {i t : Nat} (h : findIn ol s i trg = t) : findFrom ol s i trg = t:=by
 unfold findFrom;rw [show ((i : Int) + 2).toNat = i + 1 + 1 by omega];simp only [findFromF];rw [h]
 have h1 : ((i : Int) == -1) = false:=by simp
 have h2 : ((t : Int) != -2) = true:=by simp
 rw [h1,h2];rfl
theorem findFrom_up {ol : Ol} (hu : Up ol.sts) {s : Sd} {trg : Int} {i : Nat} (h : findIn ol s i trg = -2) : findFrom ol s i trg = findFrom ol s (parAt ol.sts i) trg:=by
 have a:=par_low hu i;have b:=par_lt hu (i:=(i : Int)) (by omega)
 have e : findFrom ol s i trg = findFromF ol s trg (i + 1) (parAt ol.sts i):=by
  unfold findFrom;rw [show ((i : Int) + 2).toNat = i + 1 + 1 by omega]
  have h1 : ((i : Int) == -1) = false:=by simp
  show (if ((i : Int) == -1) = true then (-2 : Int) else if (findIn ol s i trg != -2) = true then findIn ol s i trg else findFromF ol s trg (i + 1) (parAt ol.sts i)) = _;rw [h1,h];rfl
 rw [e];unfold findFrom;exact findFromF_more hu s trg (i + 1) _ _ _ a (by omega) (by omega) (Nat.le_refl _)
def mvA (ol : Ol) (f : Int) : Array Value:=if f == -2 then #[.int .i64 0,.int .i64 0] else #[.int .i64 (stateOf ol f.toNat),.int .i64 (mvK ol f.toNat)]
theorem mvA_of {ol : Ol} {t a k : Nat} (h : MvOf ol t a k) : mvA ol t = #[.int .i64 a,.int .i64 k]:=by
 unfold mvA
 have : ((t : Int) == -2) = false:=by simp
 rw [this];simp only [Bool.false_eq_true,if_false,Int.toNat_natCast];rw [h.st,h.rk]
end Ch
theorem MvW.set {w : World} {ob : Nat} {a b : Value} (h : w.heap[ob]? = some (.cells #[a,b] 301)) (x y : Int) : ((w.setCell ⟨ob,0,none⟩ (.int .i64 x)).setCell ⟨ob,1,none⟩ (.int .i64 y)).heap[ob]? = some (.cells #[.int .i64 x,.int .i64 y] 301):=by
 rw [heap_set_same _ (heap_set_same _ h)];rfl
section
variable (w : World) (B xb cb g : Nat) (pv : Value) (m : Ch.Ma) (l : List NV) (v : Value) (ol : Ch.Ol)
theorem rFirst_any (i : Nat) (trg : Int) (h : NwB w xb cb g l.length pv m) (hF : ChF w B cb l v) (hR : Rf l ol) (hi : i < l.length) :
 Calls Tryz.prog 265 #[.pointer (some ⟨xb,0,none⟩),.int .i64 i,.int .u8 trg] w fun y w'=>y = .returned (.tuple #[.agg (Ch.mvA ol (Ch.findFrom ol m.s i trg)),.bool (Ch.findFrom ol m.s i trg != -2)]) ∧ Kp (fun _=>False) w w':=by
 obtain ⟨d,hd,hda⟩:=Tryz.undMv;obtain ⟨ao,cap,rfl⟩:=hF.2.1.len;have hle:=hR.le;have hb1:=heap_alloc_new w (.cells #[.int .i64 0,.int .i64 0] 301);have K1 : Kp (fun _=>False) w (w.alloc (.cells #[.int .i64 0,.int .i64 0] 301)):=(Kp.refl _ _).alloc _;have hF1:=hF.keep0 K1;have h1 : NwB _ xb cb g l.length pv m:=h.keep K1 (fun x=>x);have HH:=hid (And.intro h1 (And.intro hF1 hb1));clear h hF h1 hF1 hb1
 go_enter Tryz.func265,Tryz.ntmps265
 go_upto_region 1 with (fail)
 generalize w.alloc (.cells #[.int .i64 0,.int .i64 0] 301) = w1 at *;generalize hob : w.heap.size = ob at *
 go_wp2_with fail
 go_loopw [8] (fun jv wr=>∃ p : Int,jv = .int .i64 p ∧ -1 ≤ p ∧ p < l.length ∧ Hid (Ch.findFrom ol m.s i trg = Ch.findFrom ol m.s p trg) ∧ Kp (fun _=>False) w1 wr) (fun jv _=>(intOf jv + 1).toNat)
 case atStart=>exact ⟨i,rfl,by omega,by omega,hid rfl,Kp.refl _ _⟩
 case round =>
  obtain ⟨p,rfl,hp1,hp2,HE,KW⟩:=hrel;have hr : NwB wr xb cb g l.length pv m:=HH.out.1.keep KW (fun x=>x);have hFr:=HH.out.2.1.keep0 KW;have hbr:=KW.at_ HH.out.2.2 (fun x=>x);have c0 : wr.cell? ⟨xb,0,none⟩ = some (.pointer (some ⟨cb,0,none⟩)):=hr.cell 0;have zc:=hFr.cell
  by_cases hp0 : 0 ≤ p
  ·obtain ⟨j,rfl⟩ : ∃ j : Nat,p = j:=⟨p.toNat,by omega⟩
   have hj : j < l.length:=by omega
   have hj' : (j : Int) < (l.length : Int):=by omega
   obtain ⟨nd,hnd⟩ : ∃ nd,l[j]? = some nd:=⟨_,List.getElem?_eq_getElem hj⟩
   have hfa:=hR.trs j nd hnd;have HFL:=hid hfa.len
   have htl : nd.n.trans.length ≤ 240:=by rw [hfa.len];exact Nat.le_trans (List.length_filter_le _ _) hR.ok.trs
   have hpy:=hR.up j ⟨nd.n.name,nd.n.pos,nd.n.kind,nd.n.parent⟩ (by unfold Ch.sts Ch.mk;rw [List.getElem?_map,List.getElem?_map,hnd];rfl);simp only at hpy;have HW:=hid (And.intro hr (And.intro hFr (And.intro hbr (And.intro hfa KW))));clear hr hFr hbr hfa KW c0 zc
   go_wp2_with fail
   go_loopw [9] (fun kv wq=>∃ k : Nat,kv = .int .i64 k ∧ k ≤ nd.n.trans.length ∧ Hid (∀ (e : Nat) (y : Ch.Tr),e < k → (ol.trs.filter (Ch.inS j))[e]? = some y → Ch.hitT m.s trg y = false) ∧ Kp (fun _=>False) wr wq) (fun kv _=>nd.n.trans.length - (intOf kv).toNat)
   case atStart=>exact ⟨0,rfl,Nat.zero_le _,hid (fun e y h=>absurd h (by omega)),Kp.refl _ _⟩
   case round =>
    obtain ⟨k,rfl,hk,HB,KQ⟩:=hrel;have hq : NwB wr xb cb g l.length pv m:=HW.out.1.keep KQ (fun x=>x);have hFq:=HW.out.2.1.keep0 KQ;have hbq:=KQ.at_ HW.out.2.2.1 (fun x=>x);have c0 : wr.cell? ⟨xb,0,none⟩ = some (.pointer (some ⟨cb,0,none⟩)):=hq.cell 0;have zc:=hFq.cell;obtain ⟨g1,cap1,hv,_,hcell,_⟩:=hFq.2.1.form hnd;simp only [Value.slice.injEq] at hv;obtain ⟨rfl,-,rfl⟩:=hv;have htr:=hFq.2.1.tra nd (List.mem_of_getElem? hnd);have z6:=hcell 6 (by omega);rw [show (nvRow nd)[6]? = some nd.tv from rfl] at z6;have zp : wr.cell? ⟨g1,j * 7 + 2,none⟩ = some (.int .i64 nd.n.parent):=hcell 2 (by omega);obtain ⟨ta,tc,htv⟩:=own_len htr;rw [htv] at z6 htr;have HKQ:=hid (K1.trans (HW.out.2.2.2.2.trans KQ));have HKO:=hid (HW.out.2.2.2.2.trans KQ)
    by_cases hlt : k < nd.n.trans.length
    ·have hlt' : (k : Int) < (nd.n.trans.length : Int):=by omega
     obtain ⟨rt,hrt⟩ : ∃ rt,nd.n.trans[k]? = some rt:=⟨_,List.getElem?_eq_getElem hlt⟩
     obtain ⟨x,hx,hok⟩:=HW.out.2.2.2.1.getL hrt;obtain ⟨g2,cap2,hv2,_⟩:=World.ownsRow.form htr (by omega);simp only [Value.slice.injEq] at hv2;obtain ⟨rfl,-,rfl⟩:=hv2;have zt:=(World.ownsRow.cellAt htr (k * 2) (by omega)).trans (rtCells_text hrt);have hsz:=hR.tb nd (List.mem_of_getElem? hnd) rt (List.mem_of_getElem? hrt);have he:=hok.ends
     have hx0 : 0 < rt.text.size:=by omega
     have hb0 : ((rt.text[0]'hx0).toNat : Int) = x.trig:=by rw [← he.2.1];simp [Ch.peek,hx0]
     have E:=hid (rHolds_any wr xb cb g l.length pv m rt x hq hok (by omega))
     have hhit : Ch.hitT m.s trg x = (((rt.text[0]'hx0).toNat : Int) == trg && Ch.holds m.s x.guard):=by unfold Ch.hitT;rw [hb0]
     have HFH:=hid (fun (hh : Ch.hitT m.s trg x = true)=>Ch.findIn_hit (ol:=ol) (s:=m.s) hx hh HB.out)
     have HNX:=hid (fun (hh : Ch.hitT m.s trg x = false)=>show ∀ (e : Nat) (y : Ch.Tr),e < k + 1 → (ol.trs.filter (Ch.inS j))[e]? = some y → Ch.hitT m.s trg y = false from fun e y he hy=>by
      rcases Nat.lt_or_eq_of_le (Nat.le_of_lt_succ he) with h' | h'
      ·exact HB.out e y h' hy
      subst h';rw [hx] at hy;obtain rfl : x = y:=by simpa using hy
      exact hh)
     have HT:=hid hhit;have HBQ:=hid hbq;clear hFq hcell htr HB hok hhit hb0 hq hbq he hrt;generalize rt.text = s at *;generalize Ch.holds m.s x.guard = ho at *
     go_wp2_with fail
     refine hm E ?_;rintro y w5 ⟨rfl,K5⟩;have hb5:=K5.at_ HBQ.out (fun x=>x)
     have r0 : w5.cell? ⟨ob,0,none⟩ = some (.int .i64 0):=by rw [World.cell?,hb5];rfl
     have r1 : w5.cell? ⟨ob,1,none⟩ = some (.int .i64 0):=by rw [World.cell?,hb5];rfl
     have fr0 : w5.frozen? ⟨ob,0,none⟩ = false:=by simp [World.frozen?,hb5]
     have fr1 : w5.frozen? ⟨ob,1,none⟩ = false:=by simp [World.frozen?,hb5]
     have HB5:=hid (MvW.set hb5 j k);have HK5:=hid (And.intro (HKQ.out.trans K5) (KQ.trans K5));clear E hb5 K5 c0 zc z6 zp zt KQ
     cases ho with
     | false =>
       have HF:=hid (HNX.out (by rw [HT.out,Bool.and_false]));clear HT HNX HFH;go_wp2
       go_roundw
       case rel=>exact ⟨k + 1,by go_num,by omega,hid HF.out,HK5.out.2⟩
       case measure=>simp [intOf];omega
     | true=>?_
     cases qt : ((s[0]'hx0).toNat : Int) == trg with
     | false =>
       have HF:=hid (HNX.out (by rw [HT.out,qt];rfl));clear HT HNX HFH;go_wp2
       go_roundw
       case rel=>exact ⟨k + 1,by go_num,by omega,hid HF.out,HK5.out.2⟩
       case measure=>simp [intOf];omega
     | true=>?_
     obtain ⟨t,hmv,hfi⟩:=HFH.out (by rw [HT.out,qt];rfl);have HN:=hid (HE.out.trans (Ch.findFrom_hit hfi));have HM:=hid (Ch.mvA_of hmv);clear HT HNX HFH hmv hfi;go_wp2;refine bodyPost_ret (results_cell_tmp rfl _ _ ob 301 #[.int .i64 j,.int .i64 k] (0,0) d rfl HB5.out hd hda Tryz.sizeMv) rfl ?_;rw [HN.out,HM.out];refine ⟨by simp,?_⟩;exact HK5.out.1.trans' (((Kp.refl (fun k=>k = ob) _).setCell (by intro _;rfl) _).setCell (by intro _;rfl) _) (fun i hi e=>by omega)
    have hge : ¬ (k : Int) < (nd.n.trans.length : Int):=by omega
    obtain rfl : k = nd.n.trans.length:=by omega
    have HN:=hid (HE.out.trans (show _ = Ch.findFrom ol m.s nd.n.parent trg by
     rw [Ch.findFrom_up hR.ols.shp.up (Ch.findIn_none (fun x hx=>by
      obtain ⟨e,hxe⟩:=List.getElem?_of_mem hx;have:=(List.getElem?_eq_some_iff.1 hxe).1;have:=HFL.out
      exact HB.out e x (by omega) hxe)),hR.par hnd]))
    clear hFq hcell htr HB HE hq hbq;go_wp2
    go_roundw
    case rel=>exact ⟨nd.n.parent,rfl,hpy.1,by omega,hid HN.out,HKO.out⟩
    case measure=>simp [intOf];omega
  have hp : p = -1:=by omega
  subst hp;have HN:=hid (HE.out.trans (Ch.findFrom_end ol m.s trg))
  have r0 : wr.cell? ⟨ob,0,none⟩ = some (.int .i64 0):=by rw [World.cell?,hbr];rfl
  have r1 : wr.cell? ⟨ob,1,none⟩ = some (.int .i64 0):=by rw [World.cell?,hbr];rfl
  have fr0 : wr.frozen? ⟨ob,0,none⟩ = false:=by simp [World.frozen?,hbr]
  have fr1 : wr.frozen? ⟨ob,1,none⟩ = false:=by simp [World.frozen?,hbr]
  have HB:=hid (MvW.set hbr 0 0);have HK:=hid (And.intro K1 KW);clear HE hr hFr hbr;go_wp2;refine bodyPost_ret (results_cell_tmp rfl _ _ ob 301 #[.int .i64 0,.int .i64 0] (0,0) d rfl HB.out hd hda Tryz.sizeMv) rfl ?_;rw [HN.out];refine ⟨rfl,?_⟩;exact HK.out.1.trans' (((HK.out.2.mono (S':=fun k=>k = ob) (fun _ _ x=>x.elim)).setCell (by intro _;rfl) _).setCell (by intro _;rfl) _) (fun i hi e=>by omega)
end
end Go.Proofs.YtnlbchmfcebeeaaGreat
