import Derived.Test.YtnlbchmfcebeeaaGreatTX5
import Derived.Test.YtnlbchmfcebeeaaGreatTH1
set_option maxHeartbeats 12800000
set_option maxRecDepth 100000
namespace Go.Proofs.YtnlbchmfcebeeaaGreat
open Go.Proofs.Tryz Ch
open Go.RowKit
section
variable (w:World) (B b:Nat)
theorem W9(k:Wk)(c:Int)(h:yl w B b k):
 Calls prog 263 #[.pointer (some ⟨b,0,none⟩),.int .u8 c] w λx w'=>x= .returned (.int .i64 (zI k c))/\w'=w:=by
 have z:=h.close;clear h;unfold zI
 cases q1:c==33<;>cases q2:c==126<;>cases q3:c==35<;>cases q4:c==64<;>cases q5:c==43<;>cases q6:c==45<;>cases q7:c==61<;>cases q8:c !=k.close<;>cases q9:c==62<;>
  first
   |(exfalso;simp at q1 q2 q3 q4 q5 q6 q7 q9;omega)
   |(go_enter func263,ntmps263
     go_wp2;go_ret
     exact⟨rfl,rfl⟩)
end
section
variable (w:World)
theorem oH(b lo hi:Int):
 Calls prog 238 #[.int .u8 b,.int .u8 lo,.int .u8 hi] w λx w'=>x= .returned (.bool (lX b lo hi))/\w'=w:=by
 unfold lX
 cases q1:decide (lo<=b)<;>cases q2:decide (b<=hi)<;>
  (go_enter func238,ntmps238
   go_wp2;go_ret
   exact⟨rfl,rfl⟩)
theorem fj(ok:Bool)(n:Int):
 Calls prog 262 #[.bool ok,.int .i64 n] w λx w'=>x= .returned (.int .i64 (eX ok n))/\w'=w:=by
 cases ok<;>
  (go_enter func262,ntmps262
   go_wp2;go_ret
   exact⟨rfl,rfl⟩)
end
section
variable (w:World) (B b:Nat)
theorem yl.abH{w w3:World}{B b:Nat}{k:Wk}{v:Value}{T:TypeId}(hv:w.heap[b]? =some (.cells #[.int .i64 k.mode,v,.int .u8 k.close] T (0,0)))(hT:T≠5)(q:cD w B v (ar k.open_))(g3:Kp (λi=>v.ownBlock=some i) w w3):
 w3.heap[b]? =some (.cells #[.int .i64 k.mode,v,.int .u8 k.close] T (0,0))/\Kp (λi=>B<=i) w w3:=
 ⟨g3.at_ hv (q.ne hv hT),(Kp.refl _ _).trans' g3 (λi _ x=>(q.lt i x).1)⟩
theorem cD.pop{w:World}{B:Nat}{g off n cap:Nat}{l:List Int}{d:Int}(h:cD w B (.slice (some ⟨g,off,none⟩) n cap) (ar (l++[d]))):cD w B (.slice (some ⟨g,off,none⟩) l.length cap) (ar l)/\w.cell? ⟨g,off+l.length,none⟩=some (.int .u8 d):=by
 rcases h with⟨h,_⟩|⟨g',off',cap',cur,h,hb,hg,hn,hs,hx⟩
 ·simp at h
 simp only[Value.slice.injEq,Option.some.injEq,Addr.mk.injEq,and_true]at h;obtain⟨⟨rfl,rfl⟩,rfl,rfl⟩:=h
 have hl:(ar (l++[d])).length=l.length+1:=by simp[ar]
 refine⟨.inr ⟨g,off,cap,cur,by simp[ar],hb,hg,by simp[ar];omega,hs,λj u hu=>hx j u ?_⟩,?_⟩
 ·rw[d_,List.getElem?_append_left (List.getElem?_eq_some_iff.1 hu).1];exact hu
 rw[cell_of_row w g _ cur _ _ hg];exact hx l.length _ (by rw[d_];simp[ar])
theorem Ch.Fj(km kc c d:Int)(o:List Int)(b1:(c==40)=false)(b2:(c==91)=false)(b3:(c==60)=false)(b4:(c==42)=false)(b5:(c==58)=false)(b6:(c==94)=false)(b7:(c==36)=false)(hd:(c !=d)=false):
 eK ⟨km,o++[d],kc⟩ c=(if o.length==0 then 18 else 5,⟨km,o,kc⟩):=by
 unfold eK;simp only[b1,b2,b3,b4,b5,b6,b7,List.getLast?_concat,hd];simp
theorem To(k:Wk)(c:Int)(h:yl w B b k)(hb:B<=b)(hl:k.open_.length<=1000):
 Calls prog 261 #[.pointer (some ⟨b,0,none⟩),.int .u8 c] w λx w'=>x= .returned (.int .i64 (eK k c).1)/\yl w' B b (eK k c).2/\Kp (λi=>B<=i) w w':=by
 have hlt:=h.lt;obtain⟨km,ko,kc⟩:=k;have hS:=h.set2 59;have fz:=h.free;have HW:=hid h;obtain⟨v,hv,q⟩:=h
 change cD w B v (ar ko)at q
 change ko.length<=1000 at hl
 have z1:w.cell? ⟨b,1,none⟩=some v:=by rw[World.cell?,hv];rfl
 have z2:w.cell? ⟨b,2,none⟩=some (.int .u8 kc):=by rw[World.cell?,hv];rfl
 have HM:=hid hv;clear hv
 by_cases c1:c=40
 ·subst c1
  rw[show eK ⟨km,ko,kc⟩ 40=(1,⟨km,ko++[41],kc⟩)by simp[eK]]
  go_enter func261,ntmps261
  go_wp2_with (at_builtin;refine fu rfl (.tmp 13) (.tmp 14) rfl rfl (q.alloc _) ⟨w.heap.size,0,none⟩ 1 1 [.int .u8 41] rfl rfl (by decide) (by exact eO _ _ _) (by intro u hu;simp at hu;subst hu;rfl) (by simp[ar];omega) (by simp;omega) ?_)
  intro ga oa ca w3 q3 g3 hb3;have KG:Kp (λi=>v.ownBlock=some i) w w3:=((Kp.refl _ _).alloc _).grown g3 (λi hi _=>hi);obtain⟨h3,K3⟩:=yl.abH (k:=⟨km,ko,kc⟩) HM.out (by decide) q KG
  have z13:w3.cell? ⟨b,1,none⟩=some v:=by rw[World.cell?,h3];rfl
  have f13:w3.frozen? ⟨b,1,none⟩=false:=by simp[World.frozen?,h3]
  have HH:=hid (ae h3 (ae q3 K3));clear HM KG q3 g3 hb3 h3 K3 z1 z2 q fz hS HW;go_wp2;go_ret;obtain⟨h3,q3,K3⟩:=HH.out;refine⟨rfl,⟨_,by rw[ah _ h3];rfl,?_⟩,K3.setCell (p:=⟨b,1,none⟩) (λ_=>hb) _⟩;rw[d_];exact q3.keep (S:=λi=>i=b) ((Kp.refl _ _).setCell (by intro _;rfl) _) (λi hi x=>by subst x;exact q3.ne h3 (by decide) hi)
 by_cases c2:c=91
 ·subst c2
  rw[show eK ⟨km,ko,kc⟩ 91=(1,⟨km,ko++[93],kc⟩)by simp[eK]]
  go_enter func261,ntmps261
  go_wp2_with (at_builtin;refine fu rfl (.tmp 24) (.tmp 25) rfl rfl (q.alloc _) ⟨w.heap.size,0,none⟩ 1 1 [.int .u8 93] rfl rfl (by decide) (by exact eO _ _ _) (by intro u hu;simp at hu;subst hu;rfl) (by simp[ar];omega) (by simp;omega) ?_)
  intro ga oa ca w3 q3 g3 hb3;have KG:Kp (λi=>v.ownBlock=some i) w w3:=((Kp.refl _ _).alloc _).grown g3 (λi hi _=>hi);obtain⟨h3,K3⟩:=yl.abH (k:=⟨km,ko,kc⟩) HM.out (by decide) q KG
  have z13:w3.cell? ⟨b,1,none⟩=some v:=by rw[World.cell?,h3];rfl
  have f13:w3.frozen? ⟨b,1,none⟩=false:=by simp[World.frozen?,h3]
  have HH:=hid (ae h3 (ae q3 K3));clear HM KG q3 g3 hb3 h3 K3 z1 z2 q fz hS HW;go_wp2;go_ret;obtain⟨h3,q3,K3⟩:=HH.out;refine⟨rfl,⟨_,by rw[ah _ h3];rfl,?_⟩,K3.setCell (p:=⟨b,1,none⟩) (λ_=>hb) _⟩;rw[d_];exact q3.keep (S:=λi=>i=b) ((Kp.refl _ _).setCell (by intro _;rfl) _) (λi hi x=>by subst x;exact q3.ne h3 (by decide) hi)
 by_cases c3:c=60
 ·subst c3
  rw[show eK ⟨km,ko,kc⟩ 60=(2,⟨km,ko,kc⟩)by simp[eK]]
  go_enter func261,ntmps261
  go_wp2;go_ret;exact⟨rfl,HW.out,Kp.refl _ _⟩
 by_cases c4:c=42
 ·subst c4
  rw[show eK ⟨km,ko,kc⟩ 42=(4,⟨km,ko,kc⟩)by simp[eK]]
  go_enter func261,ntmps261
  go_wp2;go_ret;exact⟨rfl,HW.out,Kp.refl _ _⟩
 by_cases c5:c=58
 ·subst c5
  rw[show eK ⟨km,ko,kc⟩ 58=(6,⟨km,ko,kc⟩)by simp[eK]]
  go_enter func261,ntmps261
  go_wp2;go_ret;exact⟨rfl,HW.out,Kp.refl _ _⟩
 by_cases c6:c=94
 ·subst c6
  rw[show eK ⟨km,ko,kc⟩ 94=(11,⟨km,ko,59⟩)by simp[eK]];have HS:=hid hS;clear hS;have f2:=fz 2
  go_enter func261,ntmps261
  go_wp2;go_ret;exact⟨rfl,HS.out,(Kp.refl _ _).setCell (p:=⟨b,2,none⟩) (λ_=>hb) _⟩
 by_cases c7:c=36
 ·subst c7
  rw[show eK ⟨km,ko,kc⟩ 36=(11,⟨km,ko,59⟩)by simp[eK]];have HS:=hid hS;clear hS;have f2:=fz 2
  go_enter func261,ntmps261
  go_wp2;go_ret;exact⟨rfl,HS.out,(Kp.refl _ _).setCell (p:=⟨b,2,none⟩) (λ_=>hb) _⟩
 have b1:(c==40)=false:=by simpa using c1
 have b2:(c==91)=false:=by simpa using c2
 have b3:(c==60)=false:=by simpa using c3
 have b4:(c==42)=false:=by simpa using c4
 have b5:(c==58)=false:=by simpa using c5
 have b6:(c==94)=false:=by simpa using c6
 have b7:(c==36)=false:=by simpa using c7
 clear c1 c2 c3 c4 c5 c6 c7
 rcases List.eq_nil_or_concat ko with rfl|⟨o,d,rfl⟩
 ·rw[show eK ⟨km,[],kc⟩ c=(-1,⟨km,[],kc⟩)by simp[eK,b1,b2,b3,b4,b5,b6,b7]]
  obtain⟨ao,cap,rfl⟩:=q.len;rw[show((ar []).length:Nat)=0 from rfl]at z1;clear hS
  go_enter func261,ntmps261
  go_wp2;go_ret;exact⟨rfl,HW.out,Kp.refl _ _⟩
 rw[List.concat_eq_append]at*
 have hol:o.length<=999:=by simp at hl;omega
 have hlen:(ar (o++[d])).length=o.length+1:=by simp[ar]
 obtain⟨g,off,cap,rfl⟩:∃g off cap,v= .slice (some ⟨g,off,none⟩) (o.length+1) cap:=by
  rcases q with⟨_,hn⟩|⟨g,off,cap,cur,hv,_⟩
  ·simp[ar]at hn
  exact⟨g,off,cap,by rw[hv,hlen]⟩
 obtain⟨qp,cz⟩:=q.pop;have hno:=q.ne HM.out (by decide)
 have hcap:o.length+1<=cap:=by
  rcases q with⟨hn,_⟩|⟨g',off',cap',cur,hv,_,_,hc,_⟩
  ·simp at hn
  simp only[Value.slice.injEq]at hv;rw[hv.2.2];simp[ar]at hc;exact hc
 clear hS hl hlen q
 cases qd:c !=d with
 |true=>
  have hb1:(((o.length:Int)+1)==0)=false:=by simp;omega
  rw[show eK ⟨km,o++[d],kc⟩ c=(-1,⟨km,o++[d],kc⟩)by simp at qd;simp[eK,b1,b2,b3,b4,b5,b6,b7,qd]]
  go_enter func261,ntmps261
  go_wp2;go_ret;exact⟨rfl,HW.out,Kp.refl _ _⟩
 |false=>?_
 have hb1:(((o.length:Int)+1)==0)=false:=by simp;omega
 have f1:=fz 1
 have amd:(o.length:Int)<=(cap:Int):=by omega
 have K2:∀u,Kp (λi=>i=b) w (w.setCell ⟨b,1,none⟩ u):=λu=>(Kp.refl _ _).setCell (by intro _;rfl) _
 by_cases ho:o.length=0
 ·have h1:(((o.length:Int)+1)==1)=true:=by simp;omega
  rw[show eK ⟨km,o++[d],kc⟩ c=(18,⟨km,o,kc⟩)by rw[Fj km kc c d o b1 b2 b3 b4 b5 b6 b7 qd,ho];rfl];have HX:=hid (ae qp hno);clear qp hno ho
  go_enter func261,ntmps261
  go_wp2;go_ret;exact⟨rfl,⟨_,by rw[ah _ HM.out];rfl,HX.out.1.keep (K2 _) (λi hi x=>by subst x;exact HX.out.2 hi)⟩,(K2 _).mono (λi _ x=>by omega)⟩
 have h1:(((o.length:Int)+1)==1)=false:=by simp;omega
 rw[show eK ⟨km,o++[d],kc⟩ c=(5,⟨km,o,kc⟩)by rw[Fj km kc c d o b1 b2 b3 b4 b5 b6 b7 qd];simp;intro h;simp[h]at ho];have HX:=hid (ae qp hno);clear qp hno
 go_enter func261,ntmps261
 go_wp2;go_ret;exact⟨rfl,⟨_,by rw[ah _ HM.out];rfl,HX.out.1.keep (K2 _) (λi hi x=>by subst x;exact HX.out.2 hi)⟩,(K2 _).mono (λi _ x=>by omega)⟩
end
section
variable (w:World) (B b:Nat)
theorem Ch.Oh(k:Wk)(c:Int)(h:k.mode=5):a_ k c=eK k c:=by unfold a_;rw[h];rfl
theorem Tp(k:Wk)(c:Int)(h:yl w B b k)(hb:B<=b)(hl:k.open_.length<=1000):
 Calls prog 230 #[.pointer (some ⟨b,0,none⟩),.int .u8 c] w λx w'=>x= .returned (.int .i64 (a_ k c).1)/\yl w' B b (a_ k c).2/\Kp (λi=>B<=i) w w':=by
 have E1:=hid (oH w c 97 122);have E2:=hid (oH w c 65 90);have E3:=hid (oH w c 120 122);have E4:=hid (oH w c 48 57);have EI:=hid (To w B b k c h hb hl);have EA:=hid (W9 w B b k c h);have z0:=h.mode;have z2:=h.close;have f2:=h.free 2;have HS:=hid (h.set2 62);have HW:=hid h;clear h hl;obtain⟨km,ko,kc⟩:=k;simp only at z0 z2 HS
 by_cases m0:km=0
 ·subst m0
  cases q1:c !=40 with
  |false=>
   rw[show a_ ⟨0,ko,kc⟩ c=eK ⟨0,ko,kc⟩ c by simp[a_,q1]]
   go_enter func230,ntmps230
   go_wp2_with fail
   refine hm E1 ?_;rintro x w1 ⟨rfl,rfl⟩
   go_wp2_with fail
   refine hm E2 ?_;rintro x w1 ⟨rfl,rfl⟩
   go_wp2_with fail
   refine hm E3 ?_;rintro x w1 ⟨rfl,rfl⟩
   go_wp2_with fail
   refine hm E4 ?_;rintro x w1 ⟨rfl,rfl⟩
   go_wp2_with fail
   refine hm EI ?_;rintro x w1 ⟨rfl,h1,K1⟩;go_wp2;go_ret;exact⟨rfl,h1,K1⟩
  |true=>?_
  cases q2:c !=91 with
  |false=>
   rw[show a_ ⟨0,ko,kc⟩ c=eK ⟨0,ko,kc⟩ c by simp[a_,q2]]
   go_enter func230,ntmps230
   go_wp2_with fail
   refine hm E1 ?_;rintro x w1 ⟨rfl,rfl⟩
   go_wp2_with fail
   refine hm E2 ?_;rintro x w1 ⟨rfl,rfl⟩
   go_wp2_with fail
   refine hm E3 ?_;rintro x w1 ⟨rfl,rfl⟩
   go_wp2_with fail
   refine hm E4 ?_;rintro x w1 ⟨rfl,rfl⟩
   go_wp2_with fail
   refine hm EI ?_;rintro x w1 ⟨rfl,h1,K1⟩;go_wp2;go_ret;exact⟨rfl,h1,K1⟩
  |true=>?_
  rw[show a_ ⟨0,ko,kc⟩ c=(-1,⟨0,ko,kc⟩)by simp[a_,q1,q2]]
  go_enter func230,ntmps230
  go_wp2_with fail
  refine hm E1 ?_;rintro x w1 ⟨rfl,rfl⟩
  go_wp2_with fail
  refine hm E2 ?_;rintro x w1 ⟨rfl,rfl⟩
  go_wp2_with fail
  refine hm E3 ?_;rintro x w1 ⟨rfl,rfl⟩
  go_wp2_with fail
  refine hm E4 ?_;rintro x w1 ⟨rfl,rfl⟩;go_wp2;go_ret;exact⟨rfl,HW.out,Kp.refl _ _⟩
 by_cases m1:km=1
 ·subst m1
  rw[show a_ ⟨1,ko,kc⟩ c=(eX (lX c 65 90) 5,⟨1,ko,kc⟩)by simp[a_]]
  go_enter func230,ntmps230
  go_wp2_with fail
  refine hm E1 ?_;rintro x w1 ⟨rfl,rfl⟩
  go_wp2_with fail
  refine hm E2 ?_;rintro x w1 ⟨rfl,rfl⟩
  go_wp2_with fail
  refine hm E3 ?_;rintro x w1 ⟨rfl,rfl⟩
  go_wp2_with fail
  refine hm E4 ?_;rintro x w1 ⟨rfl,rfl⟩
  go_wp2_with fail
  refine(fj _ _ _).mono ?_;rintro x w1 ⟨rfl,rfl⟩;go_wp2;go_ret;exact⟨rfl,HW.out,Kp.refl _ _⟩
 by_cases m4:km=4
 ·subst m4
  rw[show a_ ⟨4,ko,kc⟩ c=(eX (lX c 65 90) 5,⟨4,ko,kc⟩)by simp[a_]]
  go_enter func230,ntmps230
  go_wp2_with fail
  refine hm E1 ?_;rintro x w1 ⟨rfl,rfl⟩
  go_wp2_with fail
  refine hm E2 ?_;rintro x w1 ⟨rfl,rfl⟩
  go_wp2_with fail
  refine hm E3 ?_;rintro x w1 ⟨rfl,rfl⟩
  go_wp2_with fail
  refine hm E4 ?_;rintro x w1 ⟨rfl,rfl⟩
  go_wp2_with fail
  refine(fj _ _ _).mono ?_;rintro x w1 ⟨rfl,rfl⟩;go_wp2;go_ret;exact⟨rfl,HW.out,Kp.refl _ _⟩
 by_cases m2:km=2
 ·subst m2
  rw[show a_ ⟨2,ko,kc⟩ c=(eX (lX c 65 90) 3,⟨2,ko,kc⟩)by simp[a_]]
  go_enter func230,ntmps230
  go_wp2_with fail
  refine hm E1 ?_;rintro x w1 ⟨rfl,rfl⟩
  go_wp2_with fail
  refine hm E2 ?_;rintro x w1 ⟨rfl,rfl⟩
  go_wp2_with fail
  refine hm E3 ?_;rintro x w1 ⟨rfl,rfl⟩
  go_wp2_with fail
  refine hm E4 ?_;rintro x w1 ⟨rfl,rfl⟩
  go_wp2_with fail
  refine(fj _ _ _).mono ?_;rintro x w1 ⟨rfl,rfl⟩;go_wp2;go_ret;exact⟨rfl,HW.out,Kp.refl _ _⟩
 by_cases m3:km=3
 ·subst m3
  rw[show a_ ⟨3,ko,kc⟩ c=(eX (c==62) 5,⟨3,ko,kc⟩)by simp[a_]]
  go_enter func230,ntmps230
  go_wp2_with fail
  refine hm E1 ?_;rintro x w1 ⟨rfl,rfl⟩
  go_wp2_with fail
  refine hm E2 ?_;rintro x w1 ⟨rfl,rfl⟩
  go_wp2_with fail
  refine hm E3 ?_;rintro x w1 ⟨rfl,rfl⟩
  go_wp2_with fail
  refine hm E4 ?_;rintro x w1 ⟨rfl,rfl⟩
  go_wp2_with fail
  refine(fj _ _ _).mono ?_;rintro x w1 ⟨rfl,rfl⟩;go_wp2;go_ret;exact⟨rfl,HW.out,Kp.refl _ _⟩
 by_cases m5:km=5
 ·subst m5
  rw[Oh ⟨5,ko,kc⟩ c rfl]
  go_enter func230,ntmps230
  go_wp2_with fail
  refine hm E1 ?_;rintro x w1 ⟨rfl,rfl⟩
  go_wp2_with fail
  refine hm E2 ?_;rintro x w1 ⟨rfl,rfl⟩
  go_wp2_with fail
  refine hm E3 ?_;rintro x w1 ⟨rfl,rfl⟩
  go_wp2_with fail
  refine hm E4 ?_;rintro x w1 ⟨rfl,rfl⟩
  go_wp2_with fail
  refine hm EI ?_;rintro x w1 ⟨rfl,h1,K1⟩;go_wp2;go_ret;exact⟨rfl,h1,K1⟩
 by_cases m6:km=6
 ·subst m6
  rw[show a_ ⟨6,ko,kc⟩ c=(eX (lX c 97 122||lX c 65 90||c==46) 7,⟨6,ko,62⟩)by simp[a_]]
  cases q1:lX c 97 122<;>cases q2:lX c 65 90<;>cases q3:c==46<;>rw[q1]at E1<;>rw[q2]at E2
  all_goals
   go_enter func230,ntmps230
   go_wp2_with fail
   refine hm E1 ?_;rintro x w1 ⟨rfl,rfl⟩
   go_wp2_with fail
   refine hm E2 ?_;rintro x w1 ⟨rfl,rfl⟩
   go_wp2_with fail
   refine hm E3 ?_;rintro x w1 ⟨rfl,rfl⟩
   go_wp2_with fail
   refine hm E4 ?_;rintro x w1 ⟨rfl,rfl⟩
   go_wp2_with fail
   refine(fj _ _ _).mono ?_;rintro x w1 ⟨rfl,rfl⟩;go_wp2;go_ret;exact⟨rfl,HS.out,(Kp.refl _ _).setCell (p:=⟨b,2,none⟩) (λ_=>hb) _⟩
 by_cases m7:km=7
 ·subst m7
  cases q1:c==63 with
  |true=>
   rw[show a_ ⟨7,ko,kc⟩ c=(8,⟨7,ko,kc⟩)by simp[a_,q1]]
   go_enter func230,ntmps230
   go_wp2_with fail
   refine hm E1 ?_;rintro x w1 ⟨rfl,rfl⟩
   go_wp2_with fail
   refine hm E2 ?_;rintro x w1 ⟨rfl,rfl⟩
   go_wp2_with fail
   refine hm E3 ?_;rintro x w1 ⟨rfl,rfl⟩
   go_wp2_with fail
   refine hm E4 ?_;rintro x w1 ⟨rfl,rfl⟩;go_wp2;go_ret;exact⟨rfl,HW.out,Kp.refl _ _⟩
  |false=>?_
  rw[show a_ ⟨7,ko,kc⟩ c=(zI ⟨7,ko,kc⟩ c,⟨7,ko,kc⟩)by simp[a_,q1]]
  go_enter func230,ntmps230
  go_wp2_with fail
  refine hm E1 ?_;rintro x w1 ⟨rfl,rfl⟩
  go_wp2_with fail
  refine hm E2 ?_;rintro x w1 ⟨rfl,rfl⟩
  go_wp2_with fail
  refine hm E3 ?_;rintro x w1 ⟨rfl,rfl⟩
  go_wp2_with fail
  refine hm E4 ?_;rintro x w1 ⟨rfl,rfl⟩
  go_wp2_with fail
  refine hm EA ?_;rintro x w1 ⟨rfl,rfl⟩;go_wp2;go_ret;exact⟨rfl,HW.out,Kp.refl _ _⟩
 by_cases m8:km=8
 ·subst m8
  rw[show a_ ⟨8,ko,kc⟩ c=(eX (lX c 120 122) 9,⟨8,ko,kc⟩)by simp[a_]]
  go_enter func230,ntmps230
  go_wp2_with fail
  refine hm E1 ?_;rintro x w1 ⟨rfl,rfl⟩
  go_wp2_with fail
  refine hm E2 ?_;rintro x w1 ⟨rfl,rfl⟩
  go_wp2_with fail
  refine hm E3 ?_;rintro x w1 ⟨rfl,rfl⟩
  go_wp2_with fail
  refine hm E4 ?_;rintro x w1 ⟨rfl,rfl⟩
  go_wp2_with fail
  refine(fj _ _ _).mono ?_;rintro x w1 ⟨rfl,rfl⟩;go_wp2;go_ret;exact⟨rfl,HW.out,Kp.refl _ _⟩
 by_cases m9:km=9
 ·subst m9
  rw[show a_ ⟨9,ko,kc⟩ c=(eX (c==60||c==61||c==62) 10,⟨9,ko,kc⟩)by simp[a_]]
  cases q1:c==60<;>cases q2:c==61<;>cases q3:c==62
  all_goals
   go_enter func230,ntmps230
   go_wp2_with fail
   refine hm E1 ?_;rintro x w1 ⟨rfl,rfl⟩
   go_wp2_with fail
   refine hm E2 ?_;rintro x w1 ⟨rfl,rfl⟩
   go_wp2_with fail
   refine hm E3 ?_;rintro x w1 ⟨rfl,rfl⟩
   go_wp2_with fail
   refine hm E4 ?_;rintro x w1 ⟨rfl,rfl⟩
   go_wp2_with fail
   refine(fj _ _ _).mono ?_;rintro x w1 ⟨rfl,rfl⟩;go_wp2;go_ret;exact⟨rfl,HW.out,Kp.refl _ _⟩
 by_cases m10:km=10
 ·subst m10
  rw[show a_ ⟨10,ko,kc⟩ c=(eX (lX c 48 57) 11,⟨10,ko,kc⟩)by simp[a_]]
  go_enter func230,ntmps230
  go_wp2_with fail
  refine hm E1 ?_;rintro x w1 ⟨rfl,rfl⟩
  go_wp2_with fail
  refine hm E2 ?_;rintro x w1 ⟨rfl,rfl⟩
  go_wp2_with fail
  refine hm E3 ?_;rintro x w1 ⟨rfl,rfl⟩
  go_wp2_with fail
  refine hm E4 ?_;rintro x w1 ⟨rfl,rfl⟩
  go_wp2_with fail
  refine(fj _ _ _).mono ?_;rintro x w1 ⟨rfl,rfl⟩;go_wp2;go_ret;exact⟨rfl,HW.out,Kp.refl _ _⟩
 by_cases m16:km=16
 ·subst m16
  rw[show a_ ⟨16,ko,kc⟩ c=(eX (lX c 48 57) 11,⟨16,ko,kc⟩)by simp[a_]]
  go_enter func230,ntmps230
  go_wp2_with fail
  refine hm E1 ?_;rintro x w1 ⟨rfl,rfl⟩
  go_wp2_with fail
  refine hm E2 ?_;rintro x w1 ⟨rfl,rfl⟩
  go_wp2_with fail
  refine hm E3 ?_;rintro x w1 ⟨rfl,rfl⟩
  go_wp2_with fail
  refine hm E4 ?_;rintro x w1 ⟨rfl,rfl⟩
  go_wp2_with fail
  refine(fj _ _ _).mono ?_;rintro x w1 ⟨rfl,rfl⟩;go_wp2;go_ret;exact⟨rfl,HW.out,Kp.refl _ _⟩
 by_cases m11:km=11
 ·subst m11
  rw[show a_ ⟨11,ko,kc⟩ c=(zI ⟨11,ko,kc⟩ c,⟨11,ko,kc⟩)by simp[a_]]
  go_enter func230,ntmps230
  go_wp2_with fail
  refine hm E1 ?_;rintro x w1 ⟨rfl,rfl⟩
  go_wp2_with fail
  refine hm E2 ?_;rintro x w1 ⟨rfl,rfl⟩
  go_wp2_with fail
  refine hm E3 ?_;rintro x w1 ⟨rfl,rfl⟩
  go_wp2_with fail
  refine hm E4 ?_;rintro x w1 ⟨rfl,rfl⟩
  go_wp2_with fail
  refine hm EA ?_;rintro x w1 ⟨rfl,rfl⟩;go_wp2;go_ret;exact⟨rfl,HW.out,Kp.refl _ _⟩
 by_cases m12:km=12
 ·subst m12
  rw[show a_ ⟨12,ko,kc⟩ c=(eX (lX c 97 122) 11,⟨12,ko,kc⟩)by simp[a_]]
  go_enter func230,ntmps230
  go_wp2_with fail
  refine hm E1 ?_;rintro x w1 ⟨rfl,rfl⟩
  go_wp2_with fail
  refine hm E2 ?_;rintro x w1 ⟨rfl,rfl⟩
  go_wp2_with fail
  refine hm E3 ?_;rintro x w1 ⟨rfl,rfl⟩
  go_wp2_with fail
  refine hm E4 ?_;rintro x w1 ⟨rfl,rfl⟩
  go_wp2_with fail
  refine(fj _ _ _).mono ?_;rintro x w1 ⟨rfl,rfl⟩;go_wp2;go_ret;exact⟨rfl,HW.out,Kp.refl _ _⟩
 by_cases m13:km=13
 ·subst m13
  rw[show a_ ⟨13,ko,kc⟩ c=(eX (lX c 97 122) 14,⟨13,ko,kc⟩)by simp[a_]]
  go_enter func230,ntmps230
  go_wp2_with fail
  refine hm E1 ?_;rintro x w1 ⟨rfl,rfl⟩
  go_wp2_with fail
  refine hm E2 ?_;rintro x w1 ⟨rfl,rfl⟩
  go_wp2_with fail
  refine hm E3 ?_;rintro x w1 ⟨rfl,rfl⟩
  go_wp2_with fail
  refine hm E4 ?_;rintro x w1 ⟨rfl,rfl⟩
  go_wp2_with fail
  refine(fj _ _ _).mono ?_;rintro x w1 ⟨rfl,rfl⟩;go_wp2;go_ret;exact⟨rfl,HW.out,Kp.refl _ _⟩
 by_cases m14:km=14
 ·subst m14
  rw[show a_ ⟨14,ko,kc⟩ c=(eX (lX c 48 57&&c !=48) 11,⟨14,ko,kc⟩)by simp[a_]]
  cases q1:lX c 48 57<;>cases q2:c !=48<;>rw[q1]at E4
  all_goals
   go_enter func230,ntmps230
   go_wp2_with fail
   refine hm E1 ?_;rintro x w1 ⟨rfl,rfl⟩
   go_wp2_with fail
   refine hm E2 ?_;rintro x w1 ⟨rfl,rfl⟩
   go_wp2_with fail
   refine hm E3 ?_;rintro x w1 ⟨rfl,rfl⟩
   go_wp2_with fail
   refine hm E4 ?_;rintro x w1 ⟨rfl,rfl⟩
   go_wp2_with fail
   refine(fj _ _ _).mono ?_;rintro x w1 ⟨rfl,rfl⟩;go_wp2;go_ret;exact⟨rfl,HW.out,Kp.refl _ _⟩
 by_cases m15:km=15
 ·subst m15
  rw[show a_ ⟨15,ko,kc⟩ c=(eX (lX c 120 122) 16,⟨15,ko,kc⟩)by simp[a_]]
  go_enter func230,ntmps230
  go_wp2_with fail
  refine hm E1 ?_;rintro x w1 ⟨rfl,rfl⟩
  go_wp2_with fail
  refine hm E2 ?_;rintro x w1 ⟨rfl,rfl⟩
  go_wp2_with fail
  refine hm E3 ?_;rintro x w1 ⟨rfl,rfl⟩
  go_wp2_with fail
  refine hm E4 ?_;rintro x w1 ⟨rfl,rfl⟩
  go_wp2_with fail
  refine(fj _ _ _).mono ?_;rintro x w1 ⟨rfl,rfl⟩;go_wp2;go_ret;exact⟨rfl,HW.out,Kp.refl _ _⟩
 by_cases m17:km=17
 ·subst m17
  rw[show a_ ⟨17,ko,kc⟩ c=(eX (lX c 65 90||c==45) 5,⟨17,ko,kc⟩)by simp[a_]]
  cases q1:lX c 65 90<;>cases q2:c==45<;>rw[q1]at E2
  all_goals
   go_enter func230,ntmps230
   go_wp2_with fail
   refine hm E1 ?_;rintro x w1 ⟨rfl,rfl⟩
   go_wp2_with fail
   refine hm E2 ?_;rintro x w1 ⟨rfl,rfl⟩
   go_wp2_with fail
   refine hm E3 ?_;rintro x w1 ⟨rfl,rfl⟩
   go_wp2_with fail
   refine hm E4 ?_;rintro x w1 ⟨rfl,rfl⟩
   go_wp2_with fail
   refine(fj _ _ _).mono ?_;rintro x w1 ⟨rfl,rfl⟩;go_wp2;go_ret;exact⟨rfl,HW.out,Kp.refl _ _⟩
 have n0:(km==0)=false:=by simpa using m0
 have n1:(km==1)=false:=by simpa using m1
 have n2:(km==2)=false:=by simpa using m2
 have n3:(km==3)=false:=by simpa using m3
 have n4:(km==4)=false:=by simpa using m4
 have n5:(km==5)=false:=by simpa using m5
 have n6:(km==6)=false:=by simpa using m6
 have n7:(km==7)=false:=by simpa using m7
 have n8:(km==8)=false:=by simpa using m8
 have n9:(km==9)=false:=by simpa using m9
 have n10:(km==10)=false:=by simpa using m10
 have n11:(km==11)=false:=by simpa using m11
 have n12:(km==12)=false:=by simpa using m12
 have n13:(km==13)=false:=by simpa using m13
 have n14:(km==14)=false:=by simpa using m14
 have n15:(km==15)=false:=by simpa using m15
 have n16:(km==16)=false:=by simpa using m16
 have n17:(km==17)=false:=by simpa using m17
 rw[show a_ ⟨km,ko,kc⟩ c=(-1,⟨km,ko,kc⟩)by simp only[a_,n0,n1,n2,n3,n4,n5,n6,n7,n8,n9,n10,n11,n12,n13,n14,n15,n16,n17];simp];clear m0 m1 m2 m3 m4 m5 m6 m7 m8 m9 m10 m11 m12 m13 m14 m15 m16 m17
 go_enter func230,ntmps230
 go_wp2_with fail
 refine hm E1 ?_;rintro x w1 ⟨rfl,rfl⟩
 go_wp2_with fail
 refine hm E2 ?_;rintro x w1 ⟨rfl,rfl⟩
 go_wp2_with fail
 refine hm E3 ?_;rintro x w1 ⟨rfl,rfl⟩
 go_wp2_with fail
 refine hm E4 ?_;rintro x w1 ⟨rfl,rfl⟩;go_wp2;go_ret;exact⟨rfl,HW.out,Kp.refl _ _⟩
end
theorem Ch.Oi{t:ByteArray}{b:Int}{f i:Nat}(h:(af t i==b)=true):jY t b (f+1) i=i:=by simp[jY,h]
theorem Ch.J5{t:ByteArray}{b:Int}{f i:Nat}(h:(af t i==b)=false):jY t b (f+1) i=jY t b f (i+1):=by simp[jY,h]
theorem Ch.nQ{t:ByteArray}{k:Nat}(h:k<t.size):af t k=(t[k].toNat:Int):=by unfold af;rw[dif_pos h]
section
variable (w:World)
theorem vF(t:ByteArray)(fr:Nat)(b:Int)(ht:t.size<=240):
 Calls prog 233 #[.string t,.int .i64 fr,.int .u8 b] w λx w'=>x= .returned (.int .i64 (gR t fr b))/\w'=w:=by
 by_cases hle:fr<=t.size
 ·have HE0:=hid (show gR t fr b=jY t b (t.size-fr) fr by unfold gR;rw[if_pos hle])
  go_enter func233,ntmps233
  go_wp2
  go_loop [7] (λi=>∃k:Nat,i= .int .i64 k/\k<=t.size/\Hid (gR t fr b=jY t b (t.size-k) k)) (λi=>t.size-(intOf i).toNat)
  case atStart=>exact⟨fr,rfl,hle,HE0⟩
  case round=>
   obtain⟨k,rfl,hk,HE⟩:=hrel
   by_cases hlt:k<t.size
   ·have hlt':(k:Int)<(t.size:Int):=by omega
    have hg:=hid (nQ hlt)
    cases q:(t[k].toNat:Int)==b with
    |true=>
     go_wp2;go_ret;rw[HE.out,show t.size-k=(t.size-(k+1))+1 by omega,Oi (by rw[hg.out];exact q)];exact⟨rfl,rfl⟩
    |false=>?_
    go_wp2
    go_round
    case rel=>exact⟨k+1,by go_num,by omega,hid (by rw[HE.out,show t.size-k=(t.size-(k+1))+1 by omega,J5 (by rw[hg.out];exact q)])⟩
    case measure=>simp[intOf];omega
   have hge:¬(k:Int)<(t.size:Int):=by omega
   obtain rfl:k=t.size:=by omega
   go_wp2;go_ret;rw[HE.out,Nat.sub_self];exact⟨rfl,rfl⟩
 have HE0:=hid (show gR t fr b=t.size by unfold gR;rw[if_neg hle])
 have hge:¬(fr:Int)<(t.size:Int):=by omega
 go_enter func233,ntmps233
 go_wp2
 go_loop [7] (λi=>i= .int .i64 fr) (λi=>0)
 case atStart=>rfl
 case round=>
  subst hrel;go_wp2;go_ret;rw[HE0.out];exact⟨rfl,rfl⟩
theorem J6(c:Int):
 Calls prog 231 #[.int .u8 c] w λe w'=>e= .returned (.int .i64 (kindOf c))/\w'=w:=by
 unfold kindOf
 cases b1:c==91<;>cases b2:c==60<;>cases b3:c==42<;>
  (go_enter func231,ntmps231
   go_wp2;go_ret
   exact⟨by simp,rfl⟩)
theorem Ch.Ck(t:ByteArray)(fr:Nat)(b:Int):gR t fr b<=t.size:=by
 have:∀f i,i+f<=t.size->jY t b f i<=t.size:=by
  intro f
  induction f with
  |zero=>intro i h;simp[jY];omega
  |succ f ih=>intro i h;simp only[jY];split;omega;exact ih (i+1) (by omega)
 unfold gR;split
 ·exact this _ _ (by omega)
 exact Nat.le_refl _
theorem Hg(t:ByteArray)(p:Nat)(ht:t.size<=240)(hp:p+1<t.size):
 Calls prog 232 #[.string t,.int .i64 p] w λe w'=>e= .returned (.int .i64 (fZ t p))/\w'=w:=by
 unfold fZ;have hg:=hid (nQ hp)
 have hlt:(p:Int)+1<(t.size:Int):=by omega
 rw[hg.out]
 cases q:(t[p+1].toNat:Int)==63 with
 |true=>
  have E:=hid (vF w t (p+4+1) 62 ht);have hu:=Ck t (p+4+1) 62
  go_enter func232,ntmps232
  go_wp2_with fail
  refine hm E ?_;rintro x w2 ⟨rfl,rfl⟩;go_wp2;go_ret;exact⟨by simp,rfl⟩
 |false=>?_
 have E:=hid (vF w t (p+1) 62 ht);have hu:=Ck t (p+1) 62
 go_enter func232,ntmps232
 go_wp2_with fail
 refine hm E ?_;rintro x w2 ⟨rfl,rfl⟩;go_wp2;go_ret;exact⟨by simp,rfl⟩
end
namespace Ch
theorem Tq(k:Wk)(c:Int):(eK k c).2.open_.length<=k.open_.length+1:=by
 unfold eK
 split
 ·simp
 split
 ·simp
 split
 ·simp
 split
 ·simp
 split
 ·simp
 split
 ·simp
 split
 ·simp
 split
 ·simp
 simp;omega
theorem aap{p:Prop}[Decidable p]{a b:Int×Wk}{n:Nat}(ha:a.2.open_.length<=n)(hb:b.2.open_.length<=n):(if p then a else b).2.open_.length<=n:=by split<;>assumption
theorem Ts(k:Wk)(c:Int):(a_ k c).2.open_.length<=k.open_.length+1:=by
 have:=Tq k c;unfold a_
 repeat' (first|exact this|exact Nat.le_succ _|refine aap ?_ ?_)
theorem J7{t:ByteArray}{f i:Nat}{w:Wk}{c:Int}(hc:af t i=c)(h:((a_ w c).1== -1)=true):jA t (f+1) i w=i:=by simp only[jA,hc,h,if_true]
theorem Oj{t:ByteArray}{f i:Nat}{w:Wk}{c:Int}(hc:af t i=c)(h:((a_ w c).1== -1)=false):jA t (f+1) i w=jA t f (i+1) {(a_ w c).2 with mode:=(a_ w c).1}:=by
 simp only[jA,hc,h,Bool.false_eq_true,if_false]
end Ch
section
variable (w:World)
theorem Om(t:ByteArray)(ht:t.size<=240):
 Calls prog 193 #[.string t] w λx w'=>x= .returned (.int .i64 (Cc t))/\Kp (λ_=>False) w w':=by
 have hW:yl (w.alloc (.cells #[.int .i64 0,.slice none 0 0,.int .u8 0] 289)) w.heap.size w.heap.size ⟨0,[],0⟩:=⟨.slice none 0 0,heap_alloc_new w _,.inl ⟨rfl,rfl⟩⟩
 have K0:Kp (λ_=>False) w (w.alloc (.cells #[.int .i64 0,.slice none 0 0,.int .u8 0] 289)):=(Kp.refl _ _).alloc _
 go_enter func193,ntmps193
 go_upto_region 3 with(fail)
 generalize w.alloc (.cells #[.int .i64 0,.slice none 0 0,.int .u8 0] 289)=w1 at*
 go_loopw [4] (λi wr=>∃k:Nat,i= .int .i64 k/\k<=t.size/\∃wk:Wk,yl wr w.heap.size w.heap.size wk/\wk.open_.length<=k/\Hid (Cc t=jA t (t.size-k) k wk)/\Kp (λi=>w.heap.size<=i) w1 wr) (λi _=>t.size-(intOf i).toNat)
 case atStart=>exact⟨0,rfl,Nat.zero_le _,⟨0,[],0⟩,hW,Nat.zero_le _,hid rfl,Kp.refl _ _⟩
 case round=>
  obtain⟨k,rfl,hk,wk,hB,hl,HE,KW⟩:=hrel
  by_cases hlt:k<t.size
  ·have hlt':(k:Int)<(t.size:Int):=by omega
   have hg:=hid (nQ hlt);have hn:=Ts wk (t[k].toNat:Int);have E:=hid (Tp wr w.heap.size w.heap.size wk (t[k].toNat:Int) hB (Nat.le_refl _) (by omega));have HX:=hid (ae KW HE);clear hB KW HE
   cases q:(a_ wk (t[k].toNat:Int)).1== -1 with
   |true=>
    go_wp2_with fail
    refine hm E ?_;rintro x w2 ⟨rfl,h2,K2⟩;have z0:=h2.mode;have f0:=h2.free 0;have HY:=hid K2;clear h2 K2 E;go_wp2;go_ret;obtain⟨KW,HE⟩:=HX.out;rw[HE.out,show t.size-k=(t.size-(k+1))+1 by omega,J7 hg.out q];exact⟨rfl,K0.trans' ((KW.trans HY.out).setCell (p:=⟨w.heap.size,0,none⟩) (λ_=>Nat.le_refl _) _) (λi hi x=>by omega)⟩
   |false=>?_
   go_wp2_with fail
   refine hm E ?_;rintro x w2 ⟨rfl,h2,K2⟩;have z0:=h2.mode;have f0:=h2.free 0;have HY:=hid (ae h2 K2);clear h2 K2 E;go_wp2
   go_roundw
   case rel=>
    obtain⟨KW,HE⟩:=HX.out;obtain⟨h2,K2⟩:=HY.out;refine⟨k+1,by go_num,by omega,_,h2.set0 _,by simp only;omega,hid ?_,(KW.trans K2).setCell (p:=⟨w.heap.size,0,none⟩) (λ_=>Nat.le_refl _) _⟩;rw[HE.out,show t.size-k=(t.size-(k+1))+1 by omega,Oj hg.out q]
   case measure=>simp[intOf];omega
  have hge:¬(k:Int)<(t.size:Int):=by omega
  obtain rfl:k=t.size:=by omega
  have z0:=hB.mode;have HX:=hid (ae KW HE);clear hB KW HE
  cases q:wk.mode !=18 with
  |true=>
   go_wp2;go_ret;obtain⟨KW,HE⟩:=HX.out;rw[HE.out,Nat.sub_self,show jA t 0 t.size wk=(t.size:Int)by simp only[jA,q,if_true]];exact⟨rfl,K0.trans' KW (λi hi x=>by omega)⟩
  |false=>?_
  go_wp2;go_ret;obtain⟨KW,HE⟩:=HX.out;rw[HE.out,Nat.sub_self,show jA t 0 t.size wk= -1 by simp only[jA,q,Bool.false_eq_true,if_false]];exact⟨rfl,K0.trans' KW (λi hi x=>by omega)⟩
end
end Go.Proofs.YtnlbchmfcebeeaaGreat
