import Derived.Test.YtnlbchmfcebeeaaGreatTH1
import Derived.Lib.ConvBytes
import Derived.Laws.BytesArg
set_option maxHeartbeats 12800000
set_option maxRecDepth 100000
namespace Go.Proofs.YtnlbchmfcebeeaaGreat
open Go.Proofs.Tryz Ch
open Go.RowKit
namespace Ch
theorem TL.mono{lo D:Int}(h:D<=lo):∀(n:Nat) {l:List Int},l.length<=n->TL lo l->TL D l:=by
 intro n
 induction n with
 |zero=>intro l E _;cases l with|nil=>trivial|cons a l=>simp at E
 |succ n O=>?_
 intro l E J
 match l,J with
 | [],_=>trivial
 |a::b::l,⟨⟨F,U,G⟩,I⟩=>exact⟨⟨F,by omega,G⟩,O (by simp at E;omega) I⟩
theorem VG{t:ByteArray}:∀(f k:Nat),Wd t f k=true->t.size<=k+f->(t.size-k) % 2=0->TL 49 ((f_ t).drop k):=by
 intro f
 induction f with
 |zero=>intro k _ D _;rw[c_ (by rw[cF];omega)];trivial
 |succ f E=>?_
 intro k h D F
 by_cases c:k+1<t.size
 ·rw[jm c]
  simp only[Wd,aq c]at h
  split at h
  ·rename_i q
   simp at q;refine⟨⟨q.1.1,by omega,by omega⟩,E (k+2) h (by omega) (by omega)⟩
  simp_all
 rw[c_ (by rw[cF];omega)];trivial
theorem SM{t:ByteArray}(h:wY t=true):TL 49 (f_ t)/\t.size<=16:=by
 unfold wY at h
 split at h
 ·simp_all
 rename_i c;simp at c;have:=VG t.size 0 h (by omega) (by omega);simp_all
structure TkF(L:List RN)(ol:Ol)(a:As)(sd:Sd)(on:List Bool):Prop where
 spread:nA L a.act=some on
 same:iN L.length on sd.act
 cd:f_ a.cd=kD ol.ai sd
 tm:sd.tm=a.tm
 x:sd.x=a.x
 y:sd.y=a.y
 z:sd.z=a.z
 tl:CM 48 sd
def eu(ol:Ol)(sd:Sd)(ev:Int):Bool×As×ByteArray:=
 if(cI ol 29 (dC ol ⟨sd,[],[]⟩ (choose ol sd ev))).1 then(true,bV ol.ai (cI ol 29 (dC ol ⟨sd,[],[]⟩ (choose ol sd ev))).2.s,strOfNums (cI ol 29 (dC ol ⟨sd,[],[]⟩ (choose ol sd ev))).2.out)else(false,TC,⟨#[]⟩)
theorem zx(ol:Ol)(sd:Sd)(ev:Int):b_ ol sd ev=if(eu ol sd ev).1 then((cI ol 29 (dC ol ⟨sd,[],[]⟩ (choose ol sd ev))).2.s,(eu ol sd ev).2.2,0)else(wh,ByteArray.empty,9):=by
 unfold b_ finish eu;grind[oK,busy,rounds,dC,choose]
end Ch
theorem zy(w:World)(e:TypeId)(s:ByteArray):Kp (λ_=>False) w (Lib.bytesWorld w e s):=⟨rfl,rfl,rfl,by rw[Lib.bytesWorld_size];omega,λk hk _=>Lib.bytesWorld_at_old w e s k hk⟩
theorem MH(w:World)(s:ByteArray)(c:Nat):eO (Lib.bytesWorld w 5 s) w.heap.size (.slice (some ⟨w.heap.size,0,none⟩) s.size c) s.size (aD (f_ s)):=by
 refine⟨by simp[aD,f_],.inr ⟨_,_,_,_,rfl,aC _,Lib.bytesWorld_at_new w 5 s,.inr (aC _),?_,?_⟩⟩
 ·simp[Lib.bytesCells]
 simp[Lib.bytesCells,aD,f_]
section
variable (w:World) (B cb:Nat) (l:List NV) (v:Value) (ol:Ol)
theorem zA(a:As)(ev:Int)(sd:Sd)(on:List Bool)(hF:jW w B cb l v)(E:Rf l ol)(ha:a.Sm)(Y:TkF (Ch.mk l) ol a sd on)(hI:Ch.Inv ol sd)(eD:sd.Ok):
 Calls prog 146 #[.pointer (some ⟨cb,0,none⟩),.agg (dX a),.int .u8 ev] w λy w'=>y= .returned (.tuple #[.agg (dX (eu ol sd ev).2.1),.string (eu ol sd ev).2.2,.bool (eu ol sd ev).1])/\Kp (λ_=>False) w w':=by
 obtain⟨da,sZ,jY⟩:=sN;have bm:=E.le;obtain⟨ao,cap,rfl⟩:=hF.2.1.len;have K0:Kp (λ_=>False) w ((w.alloc (.cells (dX a) 26)).alloc (.cells ig 26)):=((Kp.refl _ _).alloc _).alloc _
 have a1:((w.alloc (.cells (dX a) 26)).alloc (.cells ig 26)).heap[w.heap.size]? =some (.cells (dX a) 26):=by rw[cQ _ _ _ (by simp)];exact an _ _
 have a0:((w.alloc (.cells (dX a) 26)).alloc (.cells ig 26)).heap[w.heap.size+1]? =some (.cells ig 26):=by
  have:=an (w.alloc (.cells (dX a) 26)) (.cells ig 26);simpa using this
 have VD:=hF.au K0;have be:=aR a0;clear hF
 go_enter func146,ntmps146
 go_upto_region 1 with(fail)
 generalize (w.alloc (.cells (dX a) 26)).alloc (.cells ig 26)=X at*;have E1:=af (D6 X B cb l _ a.act VD (by omega) ha.act)
 have c0:X.cell? ⟨w.heap.size,0,none⟩=some (.string a.act):=by rw[World.cell?,a1];rfl
 have HF:=af (ae VD (ae a0 (ae K0 a1)));clear VD a0 K0 a1
 go_wp2_with fail
 refine hm E1 ?_;rintro y F ⟨u,rfl,K1,a6⟩;obtain⟨rfl,xG,_⟩:=a6 on Y.spread;have a2:=K1.at_ HF.out.2.2.2 (λx=>x);have a9:=Lib.run_convert_string_bytes (P:=prog) F 9 47 5 a.cd underlying9 underlying47 underlying5;have KB:=zy F 5 a.cd;have a5:=MH F a.cd (grownCap F a.cd.size 0 5);have bc:=aR xG;have O:=KB.at_ a2 (λx=>x)
 have d1:F.cell? ⟨w.heap.size,1,none⟩=some (.string a.cd):=by rw[World.cell?,a2];rfl
 have d2:(Lib.bytesWorld F 5 a.cd).cell? ⟨w.heap.size,2,none⟩=some (.string a.tm):=by rw[World.cell?,O];rfl
 have d3:(Lib.bytesWorld F 5 a.cd).cell? ⟨w.heap.size,3,none⟩=some (.int .i64 a.x):=by rw[World.cell?,O];rfl
 have d4:(Lib.bytesWorld F 5 a.cd).cell? ⟨w.heap.size,4,none⟩=some (.int .i64 a.y):=by rw[World.cell?,O];rfl
 have d5:(Lib.bytesWorld F 5 a.cd).cell? ⟨w.heap.size,5,none⟩=some (.int .i64 a.z):=by rw[World.cell?,O];rfl
 have H1:=af (ae (KB.at_ xG (λx=>x):kG (Lib.bytesWorld F 5 a.cd) X.heap.size on) (ae (K1.trans KB) a5));clear E1 c0 a2 O KB a5 K1 a6 xG;generalize grownCap F a.cd.size 0 5=pc at*;generalize bb:Lib.bytesWorld F 5 a.cd=Z at*;clear bb;generalize hg:X.heap.size=g at*;generalize F.heap.size=pb at*;generalize PI:(#[.pointer (some ⟨cb,0,none⟩),.slice (some ⟨g,0,none⟩) l.length l.length,.slice (some ⟨pb,0,none⟩) a.cd.size pc,.string a.tm,.int .i64 a.x,.int .i64 a.y,.int .i64 a.z,.string ⟨#[]⟩,.string ⟨#[]⟩]:Array Value)=NW
 go_upto_region 3 with(fail)
 have hN:mD (Z.alloc (.cells NW 274)) B X.heap.size Z.heap.size cb g (.slice (some ⟨pb,0,none⟩) a.cd.size pc) (.slice ao l.length cap) l ol ⟨sd,[],[]⟩:=by
  have KA:=(Kp.refl (λ_=>False) Z).alloc (.cells NW 274);refine⟨?_,⟨on,KA.at_ H1.out.1 (λx=>x),by have:=Y.same;rw[eI]at this;exact this⟩,?_,(HF.out.1.au H1.out.2.1).au KA⟩
  ·unfold iA nwA
   have e:(#[.pointer (some ⟨cb,0,none⟩),.slice (some ⟨g,0,none⟩) l.length l.length,.slice (some ⟨pb,0,none⟩) a.cd.size pc,.string sd.tm,.int .i64 sd.x,.int .i64 sd.y,.int .i64 sd.z,.string ⟨#[]⟩,.string ⟨#[]⟩]:Array Value)=NW:=by rw[Y.tm,Y.x,Y.y,Y.z];exact PI
   rw[<-e];exact an _ _
  unfold JL;rw[<-Y.cd];rw[cF];exact⟨H1.out.2.2.1,(eO.az H1.out.2.2 KA (λ_ _ x=>x)).2.imp id (λ⟨g',c',cu,fr,e1,e2,r⟩=>⟨g',c',cu,fr,e1,by omega,r⟩)⟩
 have KW:Kp _ _ (Z.alloc (.cells NW 274)):=H1.out.2.1.alloc _
 have bk:g<=Z.heap.size:=by have:=H1.out.2.1.size;omega
 have HP:=af KW;have HX:=af hN;have a3:=qD E.kg hI ev;have a4:=(kS ol sd ev).1;have ad:=kT E.ok sd ev
 have hM:pM ⟨sd,[],[]⟩ 0:=⟨eD,Y.tl,⟨aC _,aC _⟩⟩
 have hQ:QB ⟨sd,[],[]⟩:=λx hx=>by simp at hx
 have HM:=af (ae (hM.dC E.ok E.z_ ad) (ae (hQ.dC E.SC E.z_ (Ch.choose ol sd ev)) (j5 E.kg (m:=⟨sd,[],[]⟩) hI ev)));have HC:=af (ae a3 (ae a4 hM));have E2:=af (pe (Z.alloc (.cells NW 274)) B Z.heap.size cb g _ ⟨sd,[],[]⟩ l _ ol ev on hN.nb (((Kp.refl (λ_=>False) Z).alloc (.cells NW 274)).at_ H1.out.1 (λx=>x)) (by have:=Y.same;rw[eI]at this;exact this) hI hN.ch E)
 have bo:X.heap.size<=pb:=by omega
 clear hN KW a3 a4 hM hQ a9 d1 d2 d3 d4 d5 PI H1;generalize Z.alloc (.cells NW 274)=w3 at*;generalize Z.heap.size=xb at*;have SE:=af (show eu ol sd ev=if(cI ol 29 (dC ol ⟨sd,[],[]⟩ (Ch.choose ol sd ev))).1 then(true,bV ol.ai (cI ol 29 (dC ol ⟨sd,[],[]⟩ (Ch.choose ol sd ev))).2.s,strOfNums (cI ol 29 (dC ol ⟨sd,[],[]⟩ (Ch.choose ol sd ev))).2.out)else(false,TC,⟨#[]⟩)from rfl);replace E2:Hid (Calls prog 205 #[.pointer (some ⟨xb,0,none⟩),.int .u8 ev] w3 λy w'=>∃u,y= .returned u/\w'.ownsRow w3.heap.size 301 2 u (Ch.choose ol sd ev).length (gJ ol (Ch.choose ol sd ev))/\Kp (λ_=>False) w3 w'):=E2;generalize a8:Ch.choose ol sd ev=cs at*;clear a8
 go_wp2_with fail
 refine hm E2 ?_;rintro y w4 ⟨u,rfl,hu,K4⟩;have E3:=af (uL w4 B X.heap.size xb cb g _ _ l ol ⟨sd,[],[]⟩ 0 _ cs _ (HX.out.au K4) E hI HC.out.2.2 (by omega) ad HC.out.2.1 HC.out.1.2 HC.out.1.1 hu);have XR:=af (HP.out.trans K4);clear E2 hu K4 HP HC HX
 go_wp2_with fail
 refine hm E3 ?_;rintro y w5 ⟨rfl,X5,K5⟩;generalize dC ol ⟨sd,[],[]⟩ cs=ms at*;have E4:=af (zv B X.heap.size xb cb g _ _ l ol E 29 w5 ms _ X5 HM.out.2.2 HM.out.1 HM.out.2.1 (by omega));replace E4:Hid (Calls prog 203 #[.pointer (some ⟨xb,0,none⟩),.int .i64 29] w5 λy w'=>y= .returned (.bool (cI ol 29 ms).1)/\mD w' B X.heap.size xb cb g (.slice (some ⟨pb,0,none⟩) a.cd.size pc) (.slice ao l.length cap) l ol (cI ol 29 ms).2/\Kp (nS xb g (.slice (some ⟨pb,0,none⟩) a.cd.size pc)) w5 w'):=E4;have VE:=af (show Ch.Inv ol (cI ol 29 ms).2.s by rw[oK];exact oM E.kg 29 HM.out.2.2);have Gi:=af K5;clear E3 X5 K5 HM
 go_wp2_with fail
 refine hm E4 ?_;rintro y w8 ⟨rfl,X8,K8⟩
 have Nz:∀i,i<X.heap.size->nS xb g (.slice (some ⟨pb,0,none⟩) a.cd.size pc) i->False:=λi hi e=>by
  rcases e with e|e|e
  ·omega
  ·omega
  simp[Value.ownBlock]at e;omega
 have KA:=(XR.out.trans' Gi.out Nz).trans' K8 Nz;have aa:=KA.at_ HF.out.2.1 (λx=>x);have HA:=af (ae X8 (HF.out.2.2.1.trans KA));clear E4 X8 K8 Gi XR Nz KA Y;generalize cI ol 29 ms=rr at*;obtain⟨ok,U⟩:=rr;generalize bi:w.heap.size+1=rb at*
 cases ok with
 |false=>
  have am:=af (SE.out.trans (ay (by simp)));have KF:Kp _ _ (w8.setRow rb ig):=HA.out.2.setRow (λx=>by omega) _;clear SE VE HF HA
  go_wp2_with (refine cj ig aa eC rfl (mU TC) ?_)
  refine bg (bB rfl _ _ rb 26 ig (0,0) da rfl (ax _ _ _ _ _ _ aa) sZ jY eC) rfl ?_;rw[am.out];exact⟨rfl,KF⟩
 |true=>?_
 have am:=af (SE.out.trans (aq rfl));have E4:=af (zw w8 B X.heap.size xb cb g _ _ l ol U HA.out.1 E VE.out);clear SE VE HF
 go_wp2_with fail
 refine hm E4 ?_;rintro y G ⟨rfl,K9⟩;have CW:=K9.at_ aa (λx=>x);have X9:=HA.out.1.au K9;have J:=an G (.cells ig 26);have aO:=mU (bV ol.ai U.s);have aI:_=some (dX (bV ol.ai U.s)).size:=eC;have aS:(dX (bV ol.ai U.s)).size=6:=rfl;generalize xk:dX (bV ol.ai U.s)=D at*;have QJ:=af xk;have Ge:Kp (λ_=>False) G ((G.alloc (.cells ig 26)).setRow G.heap.size D):=((Kp.refl _ _).alloc _).setRow (λx=>by omega) _;have aj:=ax (G.alloc (.cells ig 26)) G.heap.size ig D 26 (0,0) J;have Fj:=Ge.at_ CW (λx=>x);have c8:((G.alloc (.cells ig 26)).setRow G.heap.size D).cell? _=some (.string (strOfNums U.out)):=(X9.au Ge).nb.cell 8
 have ba:G.heap.size≠rb:=by have:=aR CW;omega
 have HK:=af ((HA.out.2.trans K9).trans Ge)
 have a7:xb≠rb:=λe=>by
  have h1:=X9.nb;unfold iA at h1;rw[e,CW]at h1;simp only[bq,dI]at h1;exact absurd h1.2.1 (by decide)
 clear xk E4 K9 Ge X9 HA aa CW
 go_upto_region 9 with(refine cj D J aI aS.symm aO ?_)
 generalize (G.alloc (.cells ig 26)).setRow G.heap.size D=Iq at*;clear J;generalize G.heap.size=sb at*
 have I:Iq.drew.heap[sb]? =some (.cells D 26 (0,0))/\Iq.drew.cell? ⟨xb,8,none⟩=some (.string (strOfNums U.out)):=⟨aj,c8⟩
 have ap:(Iq.drew.setRow rb D).heap[sb]? =some (.cells D 26 (0,0))/\(Iq.drew.setRow rb D).cell? ⟨xb,8,none⟩=some (.string (strOfNums U.out)):=⟨by rw[cG _ _ _ _ ba];exact aj,by rw[jC (cG Iq.drew _ _ _ a7)];exact c8⟩
 have KF:Kp _ _ (Iq.drew.setRow rb D):=HK.out.drew.setRow (λx=>by omega) _;refine bf (λw'=>w'.heap[sb]? =some (.cells D 26 (0,0))/\w'.cell? ⟨xb,8,none⟩=some (.string (strOfNums U.out))) (by kernel_rfl) ?_;refine eG 0 51 (.agg D) rfl (λw' hS=>du 26 (.tmp 14) rfl sb (by simp[Act.eval,Act.put]) 26 D (0,0) da hS.1 sZ jY aI) I ?_;refine bM 1 52 (.pointer (some ⟨xb,0,none⟩)) I ?_;refine bM 2 53 (.pointer (some ⟨xb,0,none⟩)) I ?_;refine bM 3 54 (.pointer (some ⟨xb,8,none⟩)) I ?_;refine eG 4 55 (.string (strOfNums U.out)) rfl (λw' hS=>by have:=hS.2;simp[execOp,Act.eval,go_sem,this]) I ?_;refine cK 5 (by kernel_rfl) rfl rfl 26 (.tmp 6) (.tmp 51) rfl rfl rb D (by simp[Act.eval]) (by simp[Act.eval]) 26 ig (by exact Fj) aI aS.symm aO ap ?_;refine bM 6 7 (.string (strOfNums U.out)) ap ?_;refine eG 7 8 (.bool true) rfl (λw' _=>by rfl) ap ?_;refine bF (by kernel_rfl) (bG ?_) _;go_wp2;refine bg (bB rfl _ _ rb 26 D (0,0) da rfl (ax Iq.drew _ _ _ _ _ (by exact Fj)) sZ jY aI) rfl ?_;rw[am.out];exact⟨by rw[<-QJ.out];rfl,KF⟩
end
namespace Ch
theorem PK{t:ByteArray}{a:As}(h:SH t a=0):VF t a=(xm (read t).2.2.ai a).2/\(xm (read t).2.2.ai a).1=true:=by
 grind[SH,VF]
theorem PL{ss:List St}{c:Int}(h:place ss c≠ -2):∃g:Nat,place ss c=g/\g<ss.length/\gD ss g=c:=by
 grind[kW,place,gD]
theorem PM(t:ByteArray):∀x∈f_ t,0<=x/\x<256:=λx hx=>by
 unfold f_ at hx;obtain⟨b,_,rfl⟩:=ib.1 hx;have:=b.toNat_lt;omega
theorem JN(t:ByteArray):strOfNums (f_ t)=t:=xX (kH (PM t))
/-! A tick. -/
def rW:List Int->List Int
 |a::b::l=>a::(b-1)::rW l
 |_=>[]
theorem PN{t:ByteArray}:∀(f k:Nat) (acc:List Int),t.size<=k+2*f->(t.size-k) % 2=0->sx t f k acc=acc++rW ((f_ t).drop k):=by
 intro f
 induction f with
 |zero=>intro k acc h _;rw[c_ (by rw[cF];omega)];simp[sx,rW]
 |succ f E=>?_
 intro k acc h D
 by_cases c:k+1<t.size
 ·grind[jm,sx,rW]
 rw[c_ (by rw[cF];omega)];grind[sx,rW]
theorem CX:∀(n:Nat) {l:List Int},l.length<=n->TL 49 l->TL 48 (rW l)/\(rW l).length=l.length/\∀x∈rW l,0<=x/\x<256:=by
 intro n
 induction n with
 |zero=>intro l F _;cases l with|nil=>exact⟨trivial,rfl,by simp[rW]⟩|cons a l=>simp at F
 |succ n J=>?_
 intro l F I
 match l,I with
 | [],_=>grind
 |a::b::l,⟨⟨D,O,U⟩,G⟩=>
  obtain⟨g1,g2,g3⟩:=J (by simp at F;omega) G;have E:=D;unfold ez at D;simp at D;refine⟨⟨⟨E,by omega,by omega⟩,g1⟩,by simp[rW,g2],λx hx=>?_⟩;grind[rW]
theorem Fk{s:Sd}(h:CM 49 s):f_ (tick s).tm=rW (f_ s.tm):=by
 have he:s.tm.size % 2=0:=by rw[<-cF];exact TL.even _ (aC _) h.1
 show f_ (strOfNums (sx s.tm s.tm.size 0 []))=_;rw[PN _ _ _ (by omega) (by omega)];simp only[jG,List.drop_zero];exact kH (CX _ (aC _) h.1).2.2
theorem CY{s:Sd}(h:CM 49 s):CM 48 (tick s):=by
 have hb:=Fk h;have D:=CX _ (aC _) h.1;refine⟨by rw[hb];exact D.1,?_⟩;rw[<-cF,hb,D.2.1,cF];exact h.2
theorem VH:∀(n:Nat) {l:List Int},l.length<=n->tR l<=l.length:=by
 intro n
 induction n with
 |zero=>grind[tR]
 |succ n E=>?_
 intro l D
 match l with
 | []=>grind
 | [a]=>simp[tR]
 |a::b::l=>
  grind[tR]
theorem VI{s:Sd}(h:CM 48 s):uY 16 s:=by
 refine⟨by rw[<-cF];exact TL.even _ (aC _) h.1,?_⟩;have:=VH _ (aC (f_ s.tm).length);rw[cF]at this;have:=h.2;omega
theorem Fl{t:ByteArray}(D:(read t).1=0):uZ (read t).2.2:=by
 grind[y8,wD,Pe,y7]
theorem VJ{t:ByteArray}{a:As}(h:SH t a=0):CM 49 (VF t a):=by
 obtain⟨e,D⟩:=PK h;rw[e];exact SM (SK D)
theorem PO{t:ByteArray}{a:As}(h:SH t a=0):(read t).1=0:=by
 grind[SH]
theorem VK{t:ByteArray}{a:As}(h:SH t a=0):(eb (read t).2.2 17 (tick (VF t a)) []).isSome=true:=
 Hz (Fl (PO h)) 16 [] (VI (CY (VJ h)))
structure Ir(ol:Ol)(a:As)(s:Sd):Prop where
 out:a=bV ol.ai s
 inv:Inv ol s
 ok:s.Ok
 tl:CM 48 s
theorem MI{ol:Ol}(hB:Sy ol){s:Sd}(E:Inv ol s):∀x∈kD ol.ai s,0<=x/\x<256:=by
 intro x I;obtain⟨k,hk,rfl⟩:=ib.1 I;obtain⟨D,F⟩:=gP.1 hk;have:=E.cd k (by simpa using D) F;unfold ur at this
 split at this
 ·simp_all
 unfold aW at this
 cases q:rQ ol.ai (place ol.ai (bN s k))with
 |none=>simp_all
 |some y=>?_
 obtain⟨i,e,_,_⟩:=j1 q;obtain⟨g,_,_,G⟩:=PL (ss:=ol.ai) (c:=bN s k) (by omega);rw[<-G];exact hB g
theorem Ir.tk{L:List RN}{ol:Ol}(G:L.map RN.st=ol.ai)(D:z9 ol)(hB:Sy ol){a:As}{s:Sd}(h:Ir ol a s):∃on,TkF L ol a s on:=by
 obtain⟨on,E,F⟩:=y_ G D (λk _=>hB k) h.inv.yY.lt h.inv.la
 have hm:min ol.ai.length 16=ol.ai.length:=by have:=D.le;omega
 obtain rfl:=h.out;refine⟨on,E,F,?_,rfl,rfl,rfl,rfl,h.tl⟩;show f_ (jq ol.ai s)=_;unfold jq;rw[hm];exact kH (MI hB h.inv)
def ki(t:ByteArray)(k:Nat):ByteArray:=t.extract 0 k++t.extract (k+2) t.size
theorem Ir.due{ol:Ol}{a:As}{s:Sd}(h:Ir ol a s){k:Nat}(hk:k % 2=0)(D:k+1<s.tm.size):Ir ol {a with tm:=ki s.tm k} {s with tm:=ki s.tm k}:=by
 have hb:f_ (ki s.tm k)=(f_ s.tm).take (2*(k/2))++(f_ s.tm).drop (2*(k/2+1)):=by
  grind[ki,rz,nB,cF]
 have iG:(ki s.tm k).size<=16:=by
  unfold ki;rw[iJ,pW,pW];have:=h.tl.2;omega
 refine⟨by rw[h.out];rfl,h.inv.same ⟨rfl,rfl⟩,⟨h.ok.1,h.ok.2.1,by show(ki s.tm k).size<=17;omega⟩,⟨?_,iG⟩⟩;show TL 48 (f_ (ki s.tm k));rw[hb];exact TL.append _ (aC _) (TL.Xr _ h.tl.1) (TL.JF _ h.tl.1)
theorem qE{ol:Ol}{s:Sd}{ev:Int}(h:(eu ol s ev).1=true):(b_ ol s ev).2.2=0/\(b_ ol s ev).2.1=(eu ol s ev).2.2/\(eu ol s ev).2.1=bV ol.ai (b_ ol s ev).1:=by
 grind[zx,eu]
theorem Fm{ol:Ol}{s:Sd}{ev:Int}(h:(eu ol s ev).1=false):(b_ ol s ev).2.2=9:=by
 rw[zx,h];rfl
theorem Ir.abl{ol:Ol}(E:z9 ol)(D:uZ ol){a:As}{s:Sd}(h:Ir ol a s){ev:Int}(F:(eu ol s ev).1=true):Ir ol (eu ol s ev).2.1 (b_ ol s ev).1:=by
 have e:=zx ol s ev;rw[aq F]at e
 have e1:(b_ ol s ev).1=(rounds ol 29 (dC ol ⟨s,[],[]⟩ (choose ol s ev))).s:=by rw[e,oK]
 refine⟨(qE F).2.2,?_,qw h.ok ev,?_⟩
 ·rw[e1];exact oM E 29 (j5 E (m:=⟨s,[],[]⟩) h.inv ev)
 rw[e1];exact(jg (by omega) ol).rounds D 29 ((jg (by omega) ol).dC D (m:=⟨s,[],[]⟩) h.tl _)
theorem MJ{ol:Ol}{f:Nat}{s:Sd}{l:List Int}(h:kK s.tm s.tm.size 0=none):eb ol (f+1) s l=some (s,strOfNums l):=by
 grind[eb,bQ]
theorem MK{ol:Ol}{f k:Nat}{s:Sd}{l:List Int}(h:kK s.tm s.tm.size 0=some k)(D:(eu ol {s with tm:=ki s.tm k} (ag s.tm k)).1=true):
 eb ol (f+1) s l=eb ol f (b_ ol {s with tm:=ki s.tm k} (ag s.tm k)).1 (l++sK (eu ol {s with tm:=ki s.tm k} (ag s.tm k)).2.2):=by
 grind[qE,bQ,ag,ki,eb]
theorem ML{ol:Ol}{f k:Nat}{s:Sd}{l:List Int}(h:kK s.tm s.tm.size 0=some k)(D:(eu ol {s with tm:=ki s.tm k} (ag s.tm k)).1=false):
 eb ol (f+1) s l=eb ol f {s with tm:=ki s.tm k} l:=by
 grind[Fm,bQ,ag,ki,eb]
def vJ(t:ByteArray)(k:Nat):Prop:=∃f,kK t t.size 0=kK t f k/\t.size<=k+2*f
theorem Is(t:ByteArray):vJ t 0:=⟨t.size,rfl,by omega⟩
theorem vJ.next{t:ByteArray}{k:Nat}(h:vJ t k)(hk:k+1<t.size)(G:(ag t (k+1)!=48)=true):vJ t (k+2):=by
 obtain⟨f,D,E⟩:=h
 match f,D,E with
 |0,_,E=>omega
 |f+1,D,E=>
  have F:(ag t (k+1)==48)=false:=by simpa using G
  simp only[kK,aq hk,F,bp,bj]at D;exact⟨f,D,by omega⟩
theorem vJ.Ga{t:ByteArray}{k:Nat}(h:vJ t k)(hk:k+1<t.size)(F:(ag t (k+1)!=48)=false):kK t t.size 0=some k:=by
 obtain⟨f,E,D⟩:=h
 match f,E,D with
 |0,_,D=>omega
 |f+1,E,D=>
  grind[ag,kK]
theorem vJ.stop{t:ByteArray}{k:Nat}(h:vJ t k)(hk:¬k+1<t.size):kK t t.size 0=none:=by
 obtain⟨f,D,_⟩:=h;rw[D,Dt hk]
end Ch
theorem Ch.Ir.sm{ol:Ol}(E:z9 ol){a:As}{s:Sd}(h:Ir ol a s):a.Sm:=by
 rw[h.out];have D:=E.le;refine⟨?_,?_,?_⟩
 ·show(strOfNums _).size<=_
  rw[cC];grind[vf]
 ·show(strOfNums _).size<=_
  rw[cC];grind[yo]
 show s.tm.size<=_;have:=h.tl.2;omega
section
variable (w:World) (B cb:Nat) (l:List NV) (v:Value) (ol:Ol)
theorem Fo(a:As)(s:Sd)(r:Sd×ByteArray)(hF:jW w B cb l v)(hR:Rf l ol)(hW:Ir ol a s)(a5:CM 49 s)(hr:eb ol 17 (Ch.tick s) []=some r):
 Calls prog 147 #[.pointer (some ⟨cb,0,none⟩),.agg (dX a)] w λy w'=>y= .returned (.tuple #[.agg (dX (bV ol.ai r.1)),.string r.2])/\Kp (λ_=>False) w w':=by
 obtain⟨da,sZ,jY⟩:=sN
 have ad:a.tm=s.tm:=by rw[hW.out];rfl
 have be:=a5.2
 have b6:s.tm.size % 2=0:=by rw[<-cF];exact Ch.TL.even _ (aC _) a5.1
 have bi:Kp (λ_=>False) w ((w.alloc (.cells (dX a) 26)).alloc (.cells ig 26)):=((Kp.refl _ _).alloc _).alloc _
 have cn:((w.alloc (.cells (dX a) 26)).alloc (.cells ig 26)).heap[w.heap.size]? =some (.cells (dX a) 26):=by rw[cQ _ _ _ (by simp)];exact an _ _
 have a6:((w.alloc (.cells (dX a) 26)).alloc (.cells ig 26)).heap[w.heap.size+1]? =some (.cells ig 26):=by
  have:=an (w.alloc (.cells (dX a) 26)) (.cells ig 26);simpa using this
 have HH:=af (ae hF (ae hW (ae a5 hr)));clear hF hW hr
 go_enter func147,ntmps147
 go_upto_region 1 with(fail)
 generalize (w.alloc (.cells (dX a) 26)).alloc (.cells ig 26)=w0 at*;generalize cs:w.heap.size+1=rb at*;generalize ct:w.heap.size=sb at*;generalize PQ:s.tm=tm at*
 go_wp2_with fail
 go_loopw [6,7] (λtv kv wr=>∃(k:Nat) (acc:List Int),tv= .string (strOfNums acc)/\kv= .int .i64 k/\k<=tm.size/\k % 2=0/\acc.length<=k/\Hid (acc++rW ((f_ tm).drop k)=rW (f_ tm))/\Kp (λ_=>False) w0 wr) (λ_ kv _=>tm.size-(intOf kv).toNat)
 case atStart=>exact⟨0,[],rfl,rfl,aG _,rfl,aC _,af rfl,Kp.refl _ _⟩
 case round=>
  obtain⟨k,acc,rfl,rfl,hk,bo,cr,HE,Z⟩:=hrel;have MM:=Z.at_ cn (λx=>x)
  have c2:wr.cell? ⟨sb,2,none⟩=some (.string tm):=by rw[World.cell?,MM,<-ad];rfl
  by_cases J:k+1<tm.size
  ·have a1:(k:Int)+1<(tm.size:Int):=by omega
   have a9:k<tm.size:=by omega
   have a0:(k:Int)<(tm.size:Int):=by omega
   have b2:((k:Int)+1).toNat=k+1:=by omega
   have bt:(0:Int)<=(k:Int)+1:=by omega
   have p0:ag tm k=((tm[k]'a9).toNat:Int):=by simp[ag,a9]
   have p1:ag tm (k+1)=((tm[k+1]'J).toNat:Int):=by simp[ag,J]
   have hd:=jm J;have hT:=Ch.TL.JF (k/2) (by have:=HH.out.2.2.1.1;rw[PQ]at this;exact this);rw[show 2*(k/2)=k by omega,hd]at hT;have h1:=hT.1.2;rw[p1]at h1
   have HG:=af (show(acc++[((tm[k]'a9).toNat:Int),((tm[k+1]'J).toNat:Int)-1])++rW ((f_ tm).drop (k+2))=rW (f_ tm)by
    rw[<-HE.out,hd,p0,p1];simp[rW])
   clear hT hd p0 p1 HE;generalize a8:((tm[k]'a9).toNat:Int)=c0 at*;generalize b5:((tm[k+1]'J).toNat:Int)=c1 at*;have cq:IntKind.u8.wrap (c1-1)=c1-1:=yl (by omega);have QV:IntKind.i64.wrap ((k:Int)+1)=(k:Int)+1:=fF (by omega)
   have ao:=ld (P:=prog) ((wr.alloc (.cells #[.int .u8 c0,.int .u8 (c1-1)] 5)).drew) 47 5 underlying47 underlying5 wr.heap.size 0 2 2 [c0,c1-1] rfl (by
    intro i hi
    match i,hi with
    |0,_=>simp
    |1,_=>simp) 9 underlying9
   replace ao:Sem.run prog (convert 47 9 (.slice (some ⟨wr.heap.size,0,none⟩) 2 2)) (wr.drew.alloc (.cells #[.int .u8 c0,.int .u8 (c1-1)] 5))= .ok (.string (strOfNums [c0,c1-1])) (wr.drew.alloc (.cells #[.int .u8 c0,.int .u8 (c1-1)] 5)):=ao
   have aa:=λw'=>lf (P:=prog) w' (strOfNums acc) (strOfNums [c0,c1-1]) (by rw[cC,cC];simp;omega)
   have D:wr.drew.cell? _=_:=c2;have X:(wr.drew.alloc (.cells #[.int .u8 c0,.int .u8 (c1-1)] 5)).cell? _=_:=((Kp.refl (λ_=>False) wr.drew).alloc _).bX c2;have HK:=af (Z.drew.alloc (.cells #[.int .u8 c0,.int .u8 (c1-1)] 5));clear Z MM
   go_upto_region 5 with(fail)
   refine bf (λw'=>w'.cell? ⟨sb,2,none⟩=some (.string tm)) (by kernel_rfl) ?_;refine bM 0 22 (.string (strOfNums acc)) D ?_;refine bM 1 23 (.pointer (some ⟨sb,2,none⟩)) D ?_;refine eG 2 24 (.string tm) rfl (λw' hS=>by simp[execOp,Act.eval,go_sem,hS]) D ?_;refine bM 3 25 (.int .i64 (k:Int)) D ?_;refine eG 4 26 (.int .u8 c0) rfl (λw' _=>by simp[execOp,Act.eval,go_sem,a0,a8]) D ?_;refine bM 5 27 (.pointer (some ⟨sb,2,none⟩)) D ?_;refine eG 6 28 (.string tm) rfl (λw' hS=>by simp[execOp,Act.eval,go_sem,hS]) D ?_;refine bM 7 29 (.int .i64 (k:Int)) D ?_;refine eG 8 30 (.int .i64 ((k:Int)+1)) rfl (λw' _=>by simp[execOp,Act.eval,go_sem,QV]) D ?_;refine eG 9 31 (.int .u8 c1) rfl (λw' _=>by simp[execOp,Act.eval,go_sem,a1,b5,bt,b2]) D ?_;refine eG 10 32 (.int .u8 (c1-1)) rfl (λw' _=>by simp[execOp,Act.eval,go_sem,cq]) D ?_;refine oX 11 ?_;refine Nt (some 33) rfl (.slice (some ⟨wr.heap.size,0,none⟩) 2 2) (wr.drew.alloc (.cells #[.int .u8 c0,.int .u8 (c1-1)] 5)) (by simp[execOp,Act.eval,go_sem]) ?_;simp only[Act.put,pA,pB,pC];refine⟨X,?_⟩;refine oX 12 ?_;refine Nt (some 34) rfl (.string (strOfNums [c0,c1-1])) (wr.drew.alloc (.cells #[.int .u8 c0,.int .u8 (c1-1)] 5)) (by simp[execOp,Act.eval,ao]) ?_;simp only[Act.put,pA,pB,pC];refine⟨X,?_⟩
   refine eG 13 35 (.string (strOfNums acc++strOfNums [c0,c1-1])) rfl (λw' _=>by simp[execOp,Act.eval,go_sem,aa]) X ?_;refine bM 14 6 (.string (strOfNums acc++strOfNums [c0,c1-1])) X ?_;refine bF (by kernel_rfl) (bG ?_) _;generalize wr.drew.alloc (.cells #[.int .u8 c0,.int .u8 (c1-1)] 5)=wz at*;rw[<-jX];clear ao aa D X c2;go_wp2
   go_roundw
   case rel=>exact⟨k+2,_,rfl,by go_num,by omega,by omega,by simp;omega,HG,HK.out⟩
   case measure=>simp[intOf];omega
  have ca:¬(k:Int)+1<(tm.size:Int):=by omega
  have ce:k=tm.size:=by omega
  have HT:=af (show strOfNums acc=(Ch.tick s).tm by
   have h1:=HE.out;rw[c_ (by rw[cF];omega)]at h1;have h2:=Fk HH.out.2.2.1;rw[PQ,<-h1]at h2;apply xX;rw[h2];have hb:=(CX _ (aC _) (by have:=HH.out.2.2.1.1;rw[PQ]at this;exact this:Ch.TL 49 (f_ tm))).2.2;rw[<-h1]at hb;simp only[rW,i_]at hb⊢
   exact kH hb)
  have bm:Ir ol {a with tm:=(Ch.tick s).tm} (Ch.tick s):=⟨by rw[HH.out.2.1.out];rfl,HH.out.2.1.inv.same ⟨rfl,rfl⟩,xP HH.out.2.1.ok,CY HH.out.2.2.1⟩
  have f2:wr.frozen? ⟨sb,2,none⟩=false:=by simp[World.frozen?,MM]
  have cw:=Z.at_ a6 (λx=>x)
  have hz:(wr.setCell ⟨sb,2,none⟩ (.string (Ch.tick s).tm)).heap[sb]? =some (.cells (dX {a with tm:=(Ch.tick s).tm}) 26 (0,0)):=by rw[ak _ MM];rfl
  have Kz:Kp (λi=>i=sb) w0 (wr.setCell ⟨sb,2,none⟩ (.string (Ch.tick s).tm)):=(Z.mono (λ_ _ x=>x.elim)).setCell (by intro _;rfl) _;have HZ:=af (ae bm (ae HH.out.2.2.2 (ae hz Kz)));have HF:=af HH.out.1;have bx:=HT.out;clear HE bm hz Kz HH ce HT Z MM;generalize strOfNums acc=T at*;subst bx;clear PQ;generalize Ch.tick s=s1 at*
  go_upto_region 7 with(fail)
  clear ad b6 be;generalize wr.setCell ⟨sb,2,none⟩ (.string s1.tm)=w1 at*;clear c2 f2
  go_wp2_with fail
  go_loopg [8,9] 400 (λf ov kv wr=>∃(k nf:Nat) (U:As) (s':Sd) (lo:List Int),ov= .string (strOfNums lo)/\kv= .int .i64 k/\k % 2=0/\k<=18/\nf<=17/\nf*20+(20-k)<=f/\lo.length+117000000*nf<=1989000000/\Hid (Ir ol U s'/\eb ol nf s' lo=some r/\vJ s'.tm k/\wr.heap[sb]? =some (.cells (dX U) 26 (0,0))/\Kp (λi=>i=sb) w0 wr))
  case atStart=>exact⟨0,17,_,s1,[],rfl,rfl,rfl,by omega,by omega,by omega,by simp,af ⟨HZ.out.1,HZ.out.2.1,Is _,HZ.out.2.2.1,HZ.out.2.2.2⟩⟩
  case round=>
   obtain⟨k,nf,U,s',lo,rfl,rfl,bo,cu,c9,hf,ck,HI⟩:=hrel
   obtain⟨f,rfl⟩:∃f,gk=f+1:=⟨gk-1,by omega⟩
   obtain⟨hW,F,lG,MM,Z⟩:=HI.out;have be:=hW.tl.2
   have ad:U.tm=s'.tm:=by rw[hW.out];rfl
   have c2:wr.cell? ⟨sb,2,none⟩=some (.string s'.tm):=by rw[World.cell?,MM,<-ad];rfl
   have f2:wr.frozen? ⟨sb,2,none⟩=false:=by simp[World.frozen?,MM]
   generalize PQ:s'.tm=tm at*
   by_cases J:k+1<tm.size
   ·have a1:(k:Int)+1<(tm.size:Int):=by omega
    have a9:k<tm.size:=by omega
    have a0:(k:Int)<(tm.size:Int):=by omega
    have b2:((k:Int)+1).toNat=k+1:=by omega
    have bt:(0:Int)<=(k:Int)+1:=by omega
    have p0:ag tm k=((tm[k]'a9).toNat:Int):=by simp[ag,a9]
    have p1:ag tm (k+1)=((tm[k+1]'J).toNat:Int):=by simp[ag,J]
    cases q:(((tm[k+1]'J).toNat:Int)!=48)with
    |true=>
     have HN:=af (lG.next J (by rw[p1];exact q));have O:=af (ae hW (ae F (ae MM Z)));clear hW F lG MM Z HI p0 p1 ad;go_wp2
     go_roundg f
     case measure=>omega
     case rel=>exact⟨k+2,nf,U,s',lo,rfl,by go_num,by omega,by omega,by omega,by omega,ck,af ⟨O.out.1,O.out.2.1,by rw[PQ];exact HN.out,O.out.2.2.1,O.out.2.2.2⟩⟩
    |false=>?_
    have SN:=lG.Ga J (by rw[p1];exact q)
    obtain⟨Wt,rfl⟩:∃Wt,nf=Wt+1:=by
     cases nf with
     |zero=>simp[eb]at F
     |succ n=>exact⟨n,rfl⟩
    rw[<-PQ]at SN;have aj:=hW.due (k:=k) bo (by rw[PQ];exact J);have eD:=MK (ol:=ol) (f:=Wt) (l:=lo) SN;have Y:=ML (ol:=ol) (f:=Wt) (l:=lo) SN;rw[PQ,p0]at eD Y;rw[PQ]at aj;obtain⟨on,XW⟩:=aj.tk (L:=Ch.mk l) (by have:=hR.ai;unfold Ch.ai at this;exact this) hR.kg hR.SC;have b7:=kL hR.ok {s' with tm:=ki tm k} ((tm[k]'a9).toNat:Int);have G:=qE (ol:=ol) (s:={s' with tm:=ki tm k}) (ev:=((tm[k]'a9).toNat:Int));have I:=aj.abl hR.kg hR.z_ (ev:=((tm[k]'a9).toNat:Int))
    have hz:((wr.drew).setCell ⟨sb,2,none⟩ (.string (ki tm k))).heap[sb]? =some (.cells (dX {U with tm:=ki tm k}) 26 (0,0)):=by rw[ak _ (show wr.drew.heap[sb]? =_ from MM)];rfl
    have Kz:Kp _ _ ((wr.drew).setCell ⟨sb,2,none⟩ (.string (ki tm k))):=Z.drew.setCell (by intro _;rfl) _;have O:=af (ae F (ae hz (ae Kz (ae XW (ae eD (ae Y (ae G (ae I aj))))))));clear hW F lG MM Z HI p0 p1 ad SN eD Y aj XW G I hz Kz;generalize a8:((tm[k]'a9).toNat:Int)=c0 at*
    have cg:(k:Int)<=(tm.size:Int):=by omega
    have ci:((k:Int)).toNat=k:=by omega
    have cc:(k:Int)+2<=(tm.size:Int):=by omega
    have b4:((k:Int)+2).toNat=k+2:=by omega
    have br:(0:Int)<=(k:Int)+2:=by omega
    have cp:IntKind.i64.wrap ((k:Int)+2)=(k:Int)+2:=fF (by omega)
    have aa:∀w',Sem.run prog (Op.stringOp BinOp.add (tm.extract 0 k) (tm.extract (k+2) tm.size)) w'= .ok (.string (ki tm k)) w':=λw'=>lf (P:=prog) w' (tm.extract 0 k) (tm.extract (k+2) tm.size) (by simp;omega)
    have D:wr.drew.cell? _=_:=c2
    have X:((wr.drew).setCell ⟨sb,2,none⟩ (.string (ki tm k))).cell? ⟨sb,2,none⟩=some (.string (ki tm k)):=by rw[World.cell?,O.out.2.1];rfl
    go_upto_region 13 with(fail)
    go_region
    have bc:=af (show((wr.setCell ⟨sb,2,none⟩ (.string (ki tm k))).drew).heap[sb]? =some (.cells (dX {U with tm:=ki tm k}) 26 (0,0))/\Kp (λi=>i=sb) w0 ((wr.setCell ⟨sb,2,none⟩ (.string (ki tm k))).drew)from⟨O.out.2.1,O.out.2.2.1⟩);clear D X aa c2 f2 cg ci cc b4 br cp a8;generalize (wr.setCell ⟨sb,2,none⟩ (.string (ki tm k))).drew=w5 at*;obtain⟨bb,K5⟩:=bc.out;have XY:=O.out.2.2.2.2.2.2.2.2;have Ny:=HF.out.au (bi.trans' K5 (λi hi e=>by omega));have E:=af (zA w5 B cb l v ol {U with tm:=ki tm k} c0 {s' with tm:=ki tm k} on Ny hR (XY.sm hR.kg) O.out.2.2.2.1 XY.inv XY.ok);have a7:=K5.at_ a6 (by omega);have F:=O.out.1;have eD:=O.out.2.2.2.2.1;have Y:=O.out.2.2.2.2.2.1;have G:=O.out.2.2.2.2.2.2.1;have I:=O.out.2.2.2.2.2.2.2.1;have aI:_=some (dX {U with tm:=ki tm k}).size:=eC;generalize T_:eu ol {s' with tm:=ki tm k} c0=fd at*;clear T_;obtain⟨fe,fs,ft⟩:=fd;simp only at E eD Y G I;have fO:=mU fs;have fI:_=some (dX fs).size:=eC;have fS:(dX fs).size=6:=rfl;have HL:=af (ae F (ae eD (ae Y (ae G (ae I XY)))));clear F eD Y G I XY O bc Ny;generalize WJ:dX {U with tm:=ki tm k}=A5 at*;generalize DL:dX fs=FA at*;have HA:=af (ae WJ DL);clear WJ DL
    go_wp2_with (refine jO bb sZ jY aI ?_)
    refine hm E ?_;rintro y w6 ⟨rfl,K6⟩;have b0:=K6.at_ bb (λx=>x);have KV:=K5.trans' K6 (λ_ _ x=>x.elim);have am:=an w6 (.cells ig 26);have Kn:Kp (λ_=>False) w6 ((w6.alloc (.cells ig 26)).setRow w6.heap.size FA):=((Kp.refl _ _).alloc _).setRow (λx=>by omega) _;have a3:=ax (w6.alloc (.cells ig 26)) w6.heap.size ig FA 26 (0,0) am;have ap:=Kn.at_ b0 (λx=>x);have a4:=KV.trans' Kn (λ_ _ x=>x.elim);clear E K5 K6 bb b0 KV Kn
    go_upto_region 15 with(refine cj FA am fI fS.symm fO ?_)
    generalize (w6.alloc (.cells ig 26)).setRow w6.heap.size FA=w7 at*;clear am;generalize w6.heap.size=fb at*
    cases fe with
    |false=>
     have HN:=af (HL.out.1.symm.trans (HL.out.2.2.1 rfl));have HM:=af (ae HL.out.2.2.2.2.2 (ae (show w7.heap[sb]? =some (.cells (dX {U with tm:=ki tm k}) 26 (0,0))by rw[HA.out.1];exact ap) a4));clear HL ap a4 a3;go_wp2
     go_roundg f
     case measure=>omega
     case rel=>exact⟨0,Wt,_,_,lo,rfl,rfl,rfl,by omega,by omega,by omega,by omega,af ⟨HM.out.1,HN.out.symm,Is _,HM.out.2.1,HM.out.2.2⟩⟩
    |true=>?_
    have HN:=af (HL.out.1.symm.trans (HL.out.2.1 rfl));have G:=HL.out.2.2.2.1 rfl;have I:=HL.out.2.2.2.2.1 rfl
    have cV:ft.size<=117000000:=by rw[<-G.2.1];exact b7
    have c8:(strOfNums lo).size<=1989000000:=by rw[cC];omega
    have bk:Kp _ _ (w7.setRow sb FA):=a4.setRow (λ_=>rfl) _;have b1:=ax w7 sb A5 FA 26 (0,0) ap;have cm:=vo ft;have HO:=af (show strOfNums lo++ft=strOfNums (lo++sK ft)by rw[jX];congr 1;exact(JN ft).symm);have HM:=af (ae I (ae (show(w7.setRow sb FA).heap[sb]? =some (.cells (dX fs) 26 (0,0))by rw[HA.out.2];exact b1) bk))
    have b3:A5.size=FA.size:=by rw[<-HA.out.1,fS];rfl
    clear HL G I bk b1
    go_wp2_with (first|refine jO a3 sZ jY fI ?_|refine cj FA ap fI b3 fO ?_)
    generalize w7.setRow sb FA=w8 at*;rw[HO.out]
    go_roundg f
    case measure=>omega
    case rel=>exact⟨0,Wt,_,_,lo++sK ft,rfl,rfl,rfl,by omega,by omega,by omega,by rw[gu,cm];omega,af ⟨HM.out.1,HN.out.symm,Is _,HM.out.2.1,HM.out.2.2⟩⟩
   have ca:¬(k:Int)+1<(tm.size:Int):=by omega
   have ba:=MJ (ol:=ol) (f:=nf-1) (l:=lo) (by rw[PQ];exact lG.stop J:kK s'.tm s'.tm.size 0=none)
   have cv:nf≠0:=λe=>by rw[e]at F;simp[eb]at F
   rw[show nf-1+1=nf by omega,F]at ba
   obtain rfl:r=(s',strOfNums lo):=by simpa using ba
   have a7:=Z.at_ a6 (by omega);have aO:=mU U;have aI:_=some (dX U).size:=eC;have aS:(dX U).size=6:=rfl;have KF:Kp _ _ (wr.setRow rb (dX U)):=(bi.trans' Z (λi hi e=>by omega)).setRow (λx=>by omega) _;have a2:=hW.out;clear ba F lG HI Z hW;generalize xk:dX U=AA at*;have QJ:=af (ae xk a2);clear xk a2
   go_wp2_with (first|refine jO MM sZ jY aI ?_|refine cj AA a7 aI aS.symm aO ?_)
   refine oR (ax _ _ _ _ _ _ a7) sZ jY aI ?_;refine⟨?_,KF⟩;show _=Ending.returned (.tuple #[.agg (dX (bV ol.ai s')),.string (strOfNums lo)]);rw[<-QJ.out.2,QJ.out.1];rfl
end
namespace Ch
end Ch
theorem PR(a:As):(prog.info? 26).map (·.size)=some (dX a).size:=eC
namespace Ch
theorem XZ{t:ByteArray}{ol:Ol}(D:read t=(0,0,ol)){a:As}(E:(xm ol.ai a).1=true):SH t a=0/\VF t a=(xm ol.ai a).2:=by
 unfold SH VF;rw[D];simp[E]
structure Good(ol:Ol)(s:Sd):Prop where
 inv:Inv ol s
 pz:Ew ol.ai s
 tl:CM 49 s
 ok:s.Ok
 ZJ:TQ ol s
structure BJ(t:ByteArray)(ol:Ol):Prop where
 rd:read t=(0,0,ol)
 kg:z9 ol
 z_:uZ ol
 SC:Sy ol
theorem VL{t:ByteArray}{ol:Ol}(h:read t=(0,0,ol))(hB:Sy ol):BJ t ol:=by
 have D:(read t).1=0:=by rw[h]
 have e:(read t).2.2=ol:=by rw[h]
 exact⟨h,by rw[<-e];exact(y8 D).1,by rw[<-e];exact Fl D,hB⟩
section
variable {t:ByteArray} {ol:Ol}
theorem Good.take(D:BJ t ol){s:Sd}(g:Good ol s):xm ol.ai (bV ol.ai s)=(true,s):=
 Ph (L:=ol.ai.map λx=>⟨x.name,x.kind,x.parent,x.pos,[],[],[]⟩) (by rw[List.map_map];exact List.map_id _) D.kg (λk _=>D.SC k) g.inv g.pz g.tl g.ok.2.1.1 g.ok.2.1.2.1 g.ok.2.1.2.2
theorem Good.lg(D:BJ t ol){s:Sd}(g:Good ol s):SH t (bV ol.ai s)=0/\VF t (bV ol.ai s)=s:=by
 have h:=g.take D;have:=XZ D.rd (a:=bV ol.ai s) (by rw[h]);simp_all
theorem xn(D:BJ t ol){n:Nat}{m:Ma}(h:(finish ol n m).2.2=0)(hi:Inv ol m.s)(F:Ew ol.ai m.s/\m.s.cd.length=16)(G:CM 49 m.s)(E:m.s.Ok):Good ol (finish ol n m).1:=by
 have hs:=za h;have hk:=tH E n (ol:=ol)
 have e:(finish ol n m).1=(rounds ol n m).s:=by
  grind[finish,busy,rounds]
 refine⟨?_,?_,?_,hk,hs⟩
 ·rw[e];exact oM D.kg n hi
 ·rw[e];exact((sX D.kg.le).rounds D.z_ n F).1
 rw[e];exact(jg (by omega) ol).rounds D.z_ n G
theorem It(D:BJ t ol)(h:(df ol).2.2=0):Good ol (df ol).1:=by
 unfold df at h⊢;refine xn D h (wK D.kg).2 ?_ ?_ (sG (q_ _) _)
 ·refine(sX D.kg.le).eB D.z_ _ _ _ _ (m:=⟨cS ol.ai,[],[]⟩) ⟨λk hk=>?_,jP _⟩
  show(ix ol.ai).getD k 0=0;grind[ix,iS]
 exact(jg (by omega) ol).eB D.z_ _ _ _ _ (m:=⟨cS ol.ai,[],[]⟩) ⟨trivial,aG _⟩
theorem BK(D:BJ t ol){s:Sd}(g:Good ol s){ev:Int}(h:(b_ ol s ev).2.2=0):Good ol (b_ ol s ev).1:=by
 unfold b_ at h⊢;refine xn D h (j5 D.kg (m:=⟨s,[],[]⟩) g.inv ev) ((sX D.kg.le).dC D.z_ (m:=⟨s,[],[]⟩) ⟨g.pz,g.ok.1.2⟩ _) ((jg (by omega) ol).dC D.z_ (m:=⟨s,[],[]⟩) g.tl _) (sJ (m:=⟨s,[],[]⟩) g.ok _)
end
theorem Iu{ol:Ol}{n:Nat}{m:Ma}:(finish ol n m).2.2=0\/(finish ol n m).2.2=9:=by
 grind[finish]
theorem MN(ol:Ol)(s:Sd)(ev:Int):(b_ ol s ev).2.2=0\/(b_ ol s ev).2.2=9:=Iu
theorem PS{t:ByteArray}:∀(f k:Nat),kK t f k=none->t.size<=k+2*f->TL 48 ((f_ t).drop k)->TL 49 ((f_ t).drop k):=by
 intro f
 induction f with
 |zero=>intro k _ h _;rw[c_ (by rw[cF];omega)];trivial
 |succ f E=>?_
 intro k h G D;simp only[kK]at h
 split at h
 ·rename_i c
  rw[jm c]at D⊢
  split at h
  ·cases h
  rename_i q
  have I:ag t (k+1)≠48:=by simpa using q
  refine⟨⟨D.1.1,?_,D.1.2.2⟩,E (k+2) h (by omega) D.2⟩;have:=D.1.2.1;omega
 rename_i c
 by_cases c2:k<t.size
 ·have F:=TL.even _ (aC _) D
  grind[cF]
 rw[c_ (by rw[cF];omega)];trivial
structure X0(ol:Ol)(s:Sd):Prop where
 inv:Inv ol s
 pz:Ew ol.ai s
 tl:CM 48 s
 ok:s.Ok
 ZJ:TQ ol s
theorem X0.due{ol:Ol}{s:Sd}(g:X0 ol s):X0 ol (bQ s).2.2:=by
 have eD:=uB g.ok;have dE:=g.ZJ.av (H8 s);unfold bQ at eD dE⊢
 split
 ·rename_i k hk
  have D:=Cq _ _ _ _ hk
  have hw:Ir _ _ _:=⟨rfl,g.inv,g.ok,g.tl⟩
  rw[hk]at eD dE;have he:=(wN _ _ _ _ hk rfl).1;exact⟨(hw.due he D.2).inv,g.pz,(hw.due he D.2).tl,eD,dE⟩
 omega
theorem Good.xf{ol:Ol}{s:Sd}(g:Good ol s):X0 ol (tick s):=
 ⟨g.inv.same ⟨rfl,rfl⟩,g.pz,CY g.tl,xP g.ok,g.ZJ.av ⟨rfl,rfl,rfl,rfl⟩⟩
theorem Good.sm{ol:Ol}{s:Sd}(g:Good ol s):(bV ol.ai s).Sm:=by
 have D:(jS ol.ai s).size<=16:=by unfold jS;rw[cC];have:=vf ol.ai s (min ol.ai.length 16);omega
 have E:(jq ol.ai s).size<=16:=by unfold jq;rw[cC];have:=yo ol.ai s (min ol.ai.length 16);omega
 have F:=g.tl.2;exact⟨bA D (by decide),bA E (by decide),bA F (by decide)⟩
section
variable {t:ByteArray} {ol:Ol}
theorem MO(D:BJ t ol):∀(n:Nat) {s:Sd} {l:List Int} {r:Sd×ByteArray},X0 ol s->eb ol n s l=some r->Good ol r.1:=by
 intro n
 induction n with
 |zero=>grind[eb]
 |succ n I=>?_
 intro s l r g h;have gd:=g.due;simp only[eb]at h
 split at h
 ·split at h
  ·rename_i c
   have F:(b_ ol (bQ s).2.2 (bQ s).1).2.2=0:=by simpa using c
   refine I ?_ h;generalize (bQ s).2.2=E at*;generalize (bQ s).1=ev at*;have hs:=za (by unfold b_ at F;exact F)
   have e:(b_ ol E ev).1=(rounds ol 29 (dC ol ⟨E,[],[]⟩ (choose ol E ev))).s:=by
    unfold b_ finish at F⊢
    grind
   refine⟨?_,?_,?_,qw gd.ok ev,hs⟩
   ·rw[e];exact oM D.kg 29 (j5 D.kg (m:=⟨E,[],[]⟩) gd.inv ev)
   ·rw[e];exact((sX D.kg.le).rounds D.z_ 29 ((sX D.kg.le).dC D.z_ (m:=⟨E,[],[]⟩) ⟨gd.pz,gd.ok.1.2⟩ _)).1
   rw[e];exact(jg (by omega) ol).rounds D.z_ 29 ((jg (by omega) ol).dC D.z_ (m:=⟨E,[],[]⟩) gd.tl _)
  grind
 rename_i c;simp at h;subst h
 have G:kK s.tm s.tm.size 0=none:=by
  grind[bQ,kK]
 have e:(bQ s).2.2=s:=by unfold bQ;rw[G]
 simp only[e];have:=PS s.tm.size 0 G (by omega) (by simpa using g.tl.1);exact⟨g.inv,g.pz,⟨by simpa using this,g.tl.2⟩,g.ok,g.ZJ⟩
end
def rn(n:Nat)(c:Int):Int:=if dS c then 65+(c-65+(n:Int)) % 26 else c
section
variable {n:Nat}
def mSt(n:Nat)(s:St):St:={s with name:=rn n s.name}
def mS(n:Nat)(ss:List St):List St:=ss.map (mSt n)
structure Ren(n:Nat)(t t':ByteArray):Prop where
 size:t'.size=t.size
 pk:∀p,ag t' p=rn n (ag t p)
end
structure Has(t:ByteArray)(p:Nat)(s:List Int):Prop where
 le:p+s.length<=t.size
 at_:∀k b,s[k]? =some b->ag t (p+k)=b
section
variable {t:ByteArray} {p:Nat} {a b s:List Int} {x:Int}
theorem Has.right(h:Has t p (a++b)):Has t (p+a.length) b:=
 ⟨by have:=h.le;simp at this;omega,λk c hk=>by
  have:=h.at_ (a.length+k) c (by rw[kr (by omega)];simpa using hk)
  rwa[<-Nat.add_assoc]at this⟩
theorem Has.head(h:Has t p (x::s)):ag t p=x:=h.at_ 0 x rfl
theorem Has.tail(h:Has t p (x::s)):Has t (p+1) s:=Has.right (a:=[x]) h
end
def PT(l:List Int):Prop:=(∃s e:Int,(s=33\/s=126\/s=35)/\ez e=true/\l=[s,e])\/(∃e d:Int,ez e=true/\iw 49 d=true/\l=[64,e,d])\/∃s v d:Int,(s=43\/s=45\/s=61)/\jw v=true/\iw 48 d=true/\l=[s,v,d]
theorem PT.ev{s e:Int}(h:s=33\/s=126\/s=35)(he:ez e=true):PT [s,e]:=.inl ⟨s,e,h,he,rfl⟩
theorem PT.tm{e d:Int}(he:ez e=true)(D:iw 49 d=true):PT [64,e,d]:=.inr (.inl ⟨e,d,he,D,rfl⟩)
theorem PT.vr{s v d:Int}(h:s=43\/s=45\/s=61)(E:jw v=true)(D:iw 48 d=true):PT [s,v,d]:=.inr (.inr ⟨s,v,d,h,E,D,rfl⟩)
theorem PT.ind{M:(l:List Int)->PT l->Prop}(ev:∀{s e:Int} (h:s=33\/s=126\/s=35) (he:ez e=true),M [s,e] (.ev h he))(tm:∀{e d:Int} (he:ez e=true) (D:iw 49 d=true),M [64,e,d] (.tm he D))(vr:∀{s v d:Int} (h:s=43\/s=45\/s=61) (G:jw v=true) (D:iw 48 d=true),M [s,v,d] (.vr h G D)){l:List Int}(h:PT l):M l h:=by
 rcases h with⟨s,e,E,F,rfl⟩|⟨e,d,E,F,rfl⟩|⟨s,v,d,E,F,I,rfl⟩
 ·simp_all
 ·simp_all
 simp_all
def Iv(R:List Int->Prop)(l:List Int):Prop:=∃L:List (List Int),(∀a∈L,R a)/\l=L.flatten
theorem Iv.nil{R:List Int->Prop}:Iv R []:=⟨[],by simp,rfl⟩
theorem Iv.cons{R:List Int->Prop}{a s:List Int}(D:R a)(hs:Iv R s):Iv R (a++s):=by
 obtain⟨L,h,rfl⟩:=hs;refine⟨a::L,λx hx=>?_,rfl⟩
 grind
theorem Iv.ind{R:List Int->Prop}{M:(l:List Int)->Iv R l->Prop}(nil:M [] .nil)(cons:∀{a s:List Int} (E:R a) (hs:Iv R s),M s hs->M (a++s) (.cons E hs)){l:List Int}(h:Iv R l):M l h:=by
 obtain⟨L,D,rfl⟩:=h
 induction L with
 |nil=>simp_all
 |cons a L F=>exact cons (D a (by simp)) ⟨L,λx hx=>D x (by simp[hx]),rfl⟩ (F λx hx=>D x (by simp[hx]))
abbrev vK(l:List Int):Prop:=Iv PT l
theorem vK.snoc{s a:List Int}(h:vK s)(D:PT a):vK (s++a):=by
 induction h using Iv.ind with
 |nil=>have:=Iv.cons D .nil;simp_all
 |cons hb _ E=>rw[iY];exact .cons hb E
section
variable {t:ByteArray}
def QK(l:List Int):Prop:=l=[]\/∃v s d:Int,jw v=true/\pw s=true/\iw 48 d=true/\l=[63,v,s,d]
theorem QK.none:QK []:=.inl rfl
theorem QK.some{v s d:Int}(E:jw v=true)(hs:pw s=true)(D:iw 48 d=true):QK [63,v,s,d]:=.inr ⟨v,s,d,E,hs,D,rfl⟩
theorem QK.ind{M:(l:List Int)->QK l->Prop}(none:M [] .none)(some:∀{v s d:Int} (E:jw v=true) (hs:pw s=true) (D:iw 48 d=true),M [63,v,s,d] (.some E hs D)){l:List Int}(h:QK l):M l h:=by
 rcases h with rfl|⟨v,s,d,F,G,I,rfl⟩
 ·omega
 simp_all
def X1(n:Nat)(c:Int):Prop:=c=46\/c=122\/(97<=c/\c<=100)\/(65<=c/\c<65+(n:Int))
def TaT(n:Nat)(c:Int):Prop:=c=45\/(65<=c/\c<65+(n:Int))
def SO(n:Nat)(l:List Int):Prop:=(∃(tg ta:Int) (g a:List Int),X1 n tg/\QK g/\vK a/\TaT n ta/\l=[58,tg]++(g++(a++[62,ta])))\/∃(b:Int) (a:List Int),(b=94\/b=36)/\vK a/\l=[b]++(a++[59])
section
variable {n:Nat}
theorem SO.tr{tg ta:Int}{g a:List Int}(D:X1 n tg)(E:QK g)(F:vK a)(G:TaT n ta):SO n ([58,tg]++(g++(a++[62,ta]))):=.inl ⟨tg,ta,g,a,D,E,F,G,rfl⟩
theorem SO.bl{b:Int}{a:List Int}(D:b=94\/b=36)(E:vK a):SO n ([b]++(a++[59])):=.inr ⟨b,a,D,E,rfl⟩
theorem SO.ind{M:(l:List Int)->SO n l->Prop}(tr:∀{tg ta:Int} {g a:List Int} (D:X1 n tg) (E:QK g) (F:vK a) (G:TaT n ta),M _ (.tr D E F G))(bl:∀{b:Int} {a:List Int} (D:b=94\/b=36) (E:vK a),M _ (.bl D E)){l:List Int}(h:SO n l):M l h:=by
 rcases h with⟨tg,ta,g,a,D,E,F,G,rfl⟩|⟨b,a,D,E,rfl⟩
 ·simp_all
 simp_all
end
abbrev CZ(n:Nat)(l:List Int):Prop:=Iv (SO n) l
theorem CZ.snoc{n:Nat}{s a:List Int}(h:CZ n s)(D:SO n a):CZ n (s++a):=by
 induction h using Iv.ind with
 |nil=>have:=Iv.cons D .nil;simp_all
 |cons hb _ E=>rw[iY];exact .cons hb E
structure afG(n:Nat)(r:Rs):Prop where
 cW:∀x∈r.cW,X1 n x.qP
 cN:∀u∈r.cN,65<=u.name/\u.name<65+(n:Int)
end
structure abq(P:List (Int×Int)):Prop where
 len:P.length<=16
 root:∃k:Int,P[0]? =some (k,-1)/\(k=2\/k=3)
 kind:∀(j:Nat) (q p:Int),P[j]? =some (q,p)->1<=q/\q<=5
 Aw:∀(j:Nat) (q p:Int),P[j]? =some (q,p)->j=0\/∃i:Nat,p=(i:Int)/\i<j/\∃kd pp:Int,P[i]? =some (kd,pp)/\(kd=2\/kd=3)/\(q=4\/q=5->kd=2)
 CG:∀(i:Nat) (k p:Int),P[i]? =some (k,p)->(k=2\/k=3)->∃(j:Nat) (q:Int),P[j]? =some (q,(i:Int))/\q≠5
structure WrC(P:List (Int×Int))(M:Option Nat->Nat->Nat->List Int->Prop):Prop where
 fin:∀{i:Nat} {p:Int},P[i]? =some (4,p)->M none i (i+1) [60,65+(i:Int),62]
 X_:∀{i:Nat} {p:Int},P[i]? =some (5,p)->M none i (i+1) [42,65+(i:Int)]
 box:∀{i e:Nat} {k p:Int} {a ks b:List Int},P[i]? =some (k,p)->(k=1\/k=2\/k=3)->CZ P.length a->CZ P.length b->M (some i) (i+1) e ks->
  M none i e ([if k=3 then 91 else 40,65+(i:Int)]++(a++(ks++(b++[if k=3 then 93 else 41]))))
 nil:∀{i j:Nat},M (some i) j j []
 cons:∀{i j e f:Nat} {q:Int} {s ss:List Int},P[j]? =some (q,(i:Int))->M none j e s->M (some i) e f ss->M (some i) j f (s++ss)
def Wr(P:List (Int×Int))(o:Option Nat)(i e:Nat)(s:List Int):Prop:=∀M,WrC P M->M o i e s
section
variable {P:List (Int×Int)}
theorem Wr.fin{i:Nat}{p:Int}(h:P[i]? =some (4,p)):Wr P none i (i+1) [60,65+(i:Int),62]:=λ_ c=>c.fin h
theorem Wr.X_{i:Nat}{p:Int}(h:P[i]? =some (5,p)):Wr P none i (i+1) [42,65+(i:Int)]:=λ_ c=>c.X_ h
theorem Wr.box{i e:Nat}{k p:Int}{a ks b:List Int}(h:P[i]? =some (k,p))(hk:k=1\/k=2\/k=3)(D:CZ P.length a)(hb:CZ P.length b)(hs:Wr P (some i) (i+1) e ks):
 Wr P none i e ([if k=3 then 91 else 40,65+(i:Int)]++(a++(ks++(b++[if k=3 then 93 else 41])))):=λM c=>c.box h hk D hb (hs M c)
theorem Wr.nil{i j:Nat}:Wr P (some i) j j []:=λ_ c=>c.nil
theorem Wr.cons{i j e f:Nat}{q:Int}{s ss:List Int}(h:P[j]? =some (q,(i:Int)))(D:Wr P none j e s)(E:Wr P (some i) e f ss):Wr P (some i) j f (s++ss):=λM c=>c.cons h (D M c) (E M c)
theorem Wr.ind{M:(o:Option Nat)->(i e:Nat)->(s:List Int)->Wr P o i e s->Prop}
 (fin:∀{i:Nat} {p:Int} (h:P[i]? =some (4,p)),M none i (i+1) [60,65+(i:Int),62] (.fin h))
 (X_:∀{i:Nat} {p:Int} (h:P[i]? =some (5,p)),M none i (i+1) [42,65+(i:Int)] (.X_ h))
 (box:∀{i e:Nat} {k p:Int} {a ks b:List Int} (h:P[i]? =some (k,p)) (hk:k=1\/k=2\/k=3) (D:CZ P.length a) (hb:CZ P.length b) (hs:Wr P (some i) (i+1) e ks),M (some i) (i+1) e ks hs->M none i e ([if k=3 then 91 else 40,65+(i:Int)]++(a++(ks++(b++[if k=3 then 93 else 41])))) (.box h hk D hb hs))
 (nil:∀{i j:Nat},M (some i) j j [] .nil)
 (cons:∀{i j e f:Nat} {q:Int} {s ss:List Int} (h:P[j]? =some (q,(i:Int))) (E:Wr P none j e s) (F:Wr P (some i) e f ss),M none j e s E->M (some i) e f ss F->M (some i) j f (s++ss) (.cons h E F))
 {o:Option Nat} {i e:Nat} {s:List Int} (h:Wr P o i e s):M o i e s h:=
 (h (λo i e s=>∃h,M o i e s h) ⟨λh=>⟨_,fin h⟩,λh=>⟨_,X_ h⟩,λh hk D hb ⟨_,m⟩=>⟨_,box h hk D hb _ m⟩,⟨_,nil⟩,λh ⟨_,m1⟩ ⟨_,m2⟩=>⟨_,cons h _ _ m1 m2⟩⟩).2
end
structure PU(P:List (Int×Int))(ss:List St):Prop where
 len:ss.length<=P.length
 at_:∀(k:Nat) s,ss[k]? =some s->∃kd p,P[k]? =some (kd,p)/\s.name=65+(k:Int)/\s.parent=p/\(s.kind=kd\/(kd=2/\s.kind=1/\∀(j:Nat) (q:Int),j<ss.length->P[j]? ≠some (q,(k:Int))))
def ZK(k:Int):Int:=if k=3 then 91 else if k=4 then 60 else if k=5 then 42 else 40
theorem Iw{k:Int}(D:1<=k)(E:k<=5):eH (ZK k)=if k=2 then 1 else k:=by
 have:k=1\/k=2\/k=3\/k=4\/k=5:=by omega
 rcases this with rfl|rfl|rfl|rfl|rfl<;>rfl
theorem PU.more{P:List (Int×Int)}(D:abq P){ss:List St}(h:PU P ss){k parent:Int}(hk:P[ss.length]? =some (k,parent))(pos:Int):
 PU P (bU parent (ss++[⟨65+(ss.length:Int),pos,eH (ZK k),parent⟩])):=by
 have U:=(aJ.1 hk).1;have O:=D.kind _ _ _ hk
 have F:∀(j:Nat) (q:Int),j<ss.length+1->P[j]? ≠some (q,(ss.length:Int)):=by
  intro j q hj e
  rcases D.Aw _ _ _ e with rfl|⟨i,e2,e3,_⟩
  ·obtain⟨k0,e0,_⟩:=D.root
   simp_all
  omega
 refine⟨by rw[gQ];simp;omega,?_⟩;rw[gQ];simp only[gu,eh,jB,gw]
 --ahead of the mark
 have I:∀(c:Nat) s,(ss++[⟨65+(ss.length:Int),pos,eH (ZK k),parent⟩])[c]? =some s->∃kd p,P[c]? =some (kd,p)/\s.name=65+(c:Int)/\s.parent=p/\
  (s.kind=kd\/(kd=2/\s.kind=1/\∀(j:Nat) (q:Int),j<ss.length+1->(c:Int)=parent\/P[j]? ≠some (q,(c:Int)))):=by
  intro c s G
  by_cases E:c<ss.length
  ·rw[nU E]at G
   obtain⟨kd,p,e1,e2,e3,J⟩:=h.at_ c s G;grind
  grind[Iw]
 generalize hL:ss++[(⟨65+(ss.length:Int),pos,eH (ZK k),parent⟩:St)]=L at*;unfold bU
 cases parent with
 |negSucc x=>
  simp_all
 |ofNat x=>?_
 simp only
 --the parent is of kind 2 or 3
 have X:∀kd pp,P[x]? =some (kd,pp)->kd=2\/kd=3:=by
  intro kd pp e
  rcases D.Aw _ _ _ hk with e0|⟨i,e2,e3,Y,Z,J,e5,_⟩
  ·obtain⟨k0,e1,_⟩:=D.root
   simp_all
  grind
 grind
structure afI(P:List (Int×Int))(ol:Ol):Prop where
 len:ol.ai.length=P.length
 at_:∀(k:Nat) s,ol.ai[k]? =some s->P[k]? =some (s.kind,s.parent)/\s.name=65+(k:Int)
 cW:∀x∈ol.cW,X1 P.length x.qP
structure afJ(w:Wk):Prop where
 op:∀c∈w.open_,c=41\/c=93
 cl:w.close≠32
end Ch
def SP(l:List (Int×Int)):List Value:=l.flatMap λa=>[.int .i64 a.1,.int .i64 a.2]
def BM(w:World)(B:Nat)(v:Value)(n:Nat):Prop:=((∃E cap,v= .slice E 0 cap)/\n=0)\/
 ∃g D cap,v= .slice (some ⟨g,D,none⟩) n cap/\g<B/\∀j,j<n->∃x:Int,w.cell? ⟨g,D+j,none⟩=some (.int .i64 x)/\ -9223372036854775808<=x/\x<=9223372036854775807
theorem BM.az{w w':World}{B:Nat}{v:Value}{n:Nat}(h:BM w B v n)(k:Below B w w'):BM w' B v n:=by
 rcases h with h|⟨g,D,cap,e,E,F⟩
 ·exact .inl h
 refine .inr ⟨g,D,cap,e,E,λj hj=>?_⟩;obtain⟨x,G,hb⟩:=F j hj;refine⟨x,?_,hb⟩;rw[World.cell?]at G⊢;rw[k.block g E];omega
theorem BM.len{w:World}{B:Nat}{v:Value}{n:Nat}(h:BM w B v n):∃D cap,v= .slice D n cap:=by
 rcases h with⟨⟨D,cap,rfl⟩,rfl⟩|⟨g,E,cap,rfl,_⟩
 ·simp_all
 simp_all
structure Mk(w:World)(B b:Nat)(lv:Value)(n a:Nat)(P:List (Int×Int))(room:Nat)(pv:Value):Prop where
 low:B<=b
 bO:w.heap[b]? =some (.cells #[lv,.int .i64 a,pv,.int .i64 room] 102 (0,0))
 ZL:w.ownsRow B 113 2 pv P.length (SP P)
 ints:BM w B lv n
 nle:n<=maxLen
section
variable {w:World} {B b:Nat} {lv:Value} {n a:Nat} {P:List (Int×Int)} {room:Nat} {pv:Value}
theorem Mk.lt(h:Mk w B b lv n a P room pv):b<w.heap.size:=aR h.bO
theorem Mk.VM(h:Mk w B b lv n a P room pv):B<=w.heap.size:=by have:=h.lt;have:=h.low;omega
theorem Mk.c0(h:Mk w B b lv n a P room pv):w.cell? ⟨b,0,none⟩=some lv:=by rw[World.cell?,h.bO];rfl
theorem Mk.c1(h:Mk w B b lv n a P room pv):w.cell? ⟨b,1,none⟩=some (.int .i64 a):=by rw[World.cell?,h.bO];rfl
theorem Mk.c2(h:Mk w B b lv n a P room pv):w.cell? ⟨b,2,none⟩=some pv:=by rw[World.cell?,h.bO];rfl
theorem Mk.c3(h:Mk w B b lv n a P room pv):w.cell? ⟨b,3,none⟩=some (.int .i64 room):=by rw[World.cell?,h.bO];rfl
theorem Mk.free(h:Mk w B b lv n a P room pv)(i:Nat):w.frozen? ⟨b,i,none⟩=false:=by simp[World.frozen?,h.bO]
theorem Mk.ne(h:Mk w B b lv n a P room pv):pv.ownBlock≠some b:=aZ h.ZL h.bO (by decide)
theorem Mk.az{S:Nat->Prop}{w':World}(h:Mk w B b lv n a P room pv)(k:Kp S w w')(hb:¬S b)(E:∀i,pv.ownBlock=some i->¬S i)(D:∀i,S i->B<=i):Mk w' B b lv n a P room pv:=
 ⟨h.low,k.at_ h.bO hb,k.owns h.ZL E,h.ints.az (k.below h.VM D),h.nle⟩
theorem Mk.au{w':World}(h:Mk w B b lv n a P room pv)(k:Kp (λ_=>False) w w'):Mk w' B b lv n a P room pv:=h.az k (λx=>x) (λ_ _ x=>x) (λ_ x=>x.elim)
theorem Mk.drewN(h:Mk w B b lv n a P room pv)(m:Nat):Mk (w.drewN m) B b lv n a P room pv:=h.au ((Kp.refl _ _).drewN m)
theorem Mk.Dn(h:Mk w B b lv n a P room pv)(c:Nat):Mk (w.setCell ⟨b,1,none⟩ (.int .i64 c)) B b lv n c P room pv:=by
 have D:=h.ne;have K:Kp (λk=>k=b) w (w.setCell ⟨b,1,none⟩ (.int .i64 c)):=(Kp.refl _ _).setCell (by intro _;rfl) _;refine⟨h.low,?_,K.owns h.ZL (λi e x=>D (by rw[<-x];exact e)),h.ints.az (K.below h.VM (λi x=>by have:=h.low;omega)),h.nle⟩;rw[ak _ h.bO];rfl
theorem Mk.Uz(h:Mk w B b lv n a P room pv)(c:Nat):Mk (w.setCell ⟨b,3,none⟩ (.int .i64 c)) B b lv n a P c pv:=by
 have D:=h.ne;have K:Kp (λk=>k=b) w (w.setCell ⟨b,3,none⟩ (.int .i64 c)):=(Kp.refl _ _).setCell (by intro _;rfl) _;refine⟨h.low,?_,K.owns h.ZL (λi e x=>D (by rw[<-x];exact e)),h.ints.az (K.below h.VM (λi x=>by have:=h.low;omega)),h.nle⟩;rw[ak _ h.bO];rfl
end
def Fp(w:World)(b:Nat)(a:As):Prop:=w.heap[b]? =some (.cells (dX a) 26 (0,0))
theorem Fp.az{S:Nat->Prop}{w w':World}{b:Nat}{a:As}(h:Fp w b a)(k:Kp S w w')(hs:¬S b):Fp w' b a:=k.at_ h hs
theorem Fp.lt{w:World}{b:Nat}{a:As}(h:Fp w b a):b<w.heap.size:=aR h
section
variable {w:World} {b:Nat} {a:As}
theorem Fp.c0(h:Fp w b a):w.cell? ⟨b,0,none⟩=some (.string a.act):=by rw[World.cell?,h];rfl
theorem Fp.c1(h:Fp w b a):w.cell? ⟨b,1,none⟩=some (.string a.cd):=by rw[World.cell?,h];rfl
theorem Fp.Xi(h:Fp w b a)(v:ByteArray):Fp (w.setCell ⟨b,0,none⟩ (.string v)) b {a with act:=v}:=by
 unfold Fp at*;rw[heap_setCell_same _ _ _ _ _ _ h];rfl
theorem Fp.Dn(h:Fp w b a)(v:ByteArray):Fp (w.setCell ⟨b,1,none⟩ (.string v)) b {a with cd:=v}:=by
 unfold Fp at*;rw[heap_setCell_same _ _ _ _ _ _ h];rfl
end
def QL(w:World)(g:Nat)(l:List Int):Prop:=∃C:Array Value,w.heap[g]? =some (.cells C 5 (C.size,C.size+1))/\l.length<=C.size/\∀(j:Nat) (x:Int),l[j]? =some x->C[j]? =some (Value.int .u8 x)
section
variable {w:World} {g:Nat} {l:List Int}
theorem QL.cell(h:QL w g l){j:Nat}{x:Int}(F:l[j]? =some x):w.cell? ⟨g,j,none⟩=some (.int .u8 x):=by
 obtain⟨C,D,_,E⟩:=h;rw[World.cell?,D];simp_all
theorem QL.free(h:QL w g l){j:Nat}(F:j<l.length):w.frozen? ⟨g,j,none⟩=false:=by
 obtain⟨C,D,E,_⟩:=h;simp[World.frozen?,D];omega
theorem QL.set(h:QL w g l){j:Nat}(y:Int):QL (w.setCell ⟨g,j,none⟩ (.int .u8 y)) g (l.set j y):=by
 obtain⟨C,E,D,F⟩:=h;refine⟨C.setIfInBounds j (.int .u8 y),?_,by simpa using D,λk x hk=>?_⟩
 ·grind[ak]
 grind
theorem QL.new(w:World)(s:ByteArray):QL (Lib.bytesWorld w 5 s) w.heap.size (f_ s):=by
 refine⟨_,Lib.bytesWorld_at_new w 5 s,?_,λj x hj=>?_⟩
 ·simp[Lib.bytesCells,cF]
 have D:=(aJ.1 hj).1;rw[cF]at D;have:=Lib.bytesWorld_cell w 5 s j D;rw[World.cell?,Lib.bytesWorld_at_new]at this
 grind[f_]
