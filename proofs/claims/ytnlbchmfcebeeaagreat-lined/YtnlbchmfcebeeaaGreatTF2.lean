import Derived.Test.YtnlbchmfcebeeaaGreatTE8
import Derived.Lib.AppendStr
set_option maxHeartbeats 12800000
set_option maxRecDepth 100000
namespace Go.Proofs.YtnlbchmfcebeeaaGreat
open Go.Proofs.Tryz Ch
open Go.RowKit
namespace Ch
def nums(t:ByteArray):List Int:=t.data.toList.map λb=>(b.toNat:Int)
theorem wE(t:ByteArray):(nums t).length=t.size:=by simp[nums]
def cI(ol:Ol):Nat->Sd->List Int->Option (Sd×ByteArray)
 |0,_,_=>none
 |f+1,s,l=>if(aZ s).2.1 then(if(aQ ol (aZ s).2.2 (aZ s).1).2.2==0 then cI ol f (aQ ol (aZ s).2.2 (aZ s).1).1 (l++nums (aQ ol (aZ s).2.2 (aZ s).1).2.1)
  else cI ol f (aZ s).2.2 l)else some ((aZ s).2.2,strOfNums l)
theorem Eb{ol:Ol}(hol:ol.Ok):∀(n:Nat) {m:Ma} {k:Nat},m.Sz k->(rounds ol n m).Sz (k+3900000*n):=by
 intro n
 induction n with
 |zero=>intro m k h;exact h
 |succ n ih=>?_
 intro m k h;rw[rounds_succ]
 split
 ·exact(ih (I8 hol h)).le (by omega)
 exact h.le (by omega)
theorem wRs{ol}(D:ol.Ok):∀ n m,(rounds ol n m).out.length<=m.out.length+7680*n:=by
 intro n;induction n with
 |zero=>intro m;exact Nat.le_refl _
 |succ n E=>?_
 intro m;rw[rounds_succ];split
 ·have:=E (round ol m);have:=wRo D m;omega
 omega
theorem jW{ol}(D:ol.Ok)s ev:(aQ ol s ev).2.1.size<=230400:=by
 have E:=wEh D ⟨s,[],[]⟩ (j5 D s ev);have F:=wRs D 29 (cd ol ⟨s,[],[]⟩ (choose ol s ev));unfold aQ finish;split
 ·simp
 show(strOfNums _).size<=_;rw[strOfNums_size];simp only[List.length_nil]at E;omega
theorem lP{ol:Ol}{s:Sd}(h:s.Ok)(ev:Int):(aQ ol s ev).1.Ok:=uz (nG (m:=⟨s,[],[]⟩) h _) _
theorem wF(t:ByteArray):∀(f k j:Nat),jx t f k=some j->k<=j/\j+1<t.size:=by
 intro f
 induction f with
 |zero=>intro k j h;simp[jx]at h
 |succ f ih=>?_
 intro k j h;simp only[jx]at h
 split at h
 ·split at h
  ·simp at h;subst h;omega
  have:=ih _ _ h;omega
 simp at h
theorem nK{s:Sd}(h:s.Ok):(aZ s).2.2.Ok:=by
 unfold aZ
 split
 ·rename_i k hk
  obtain⟨h0,h1,h2⟩:=h;refine⟨h0,h1,?_⟩;have:=wF _ _ _ _ hk;show(s.tm.extract 0 k++s.tm.extract (k+2) s.tm.size).size<=17;rw[ByteArray.size_append,ByteArray.size_extract,ByteArray.size_extract];omega
 exact h
theorem VQ(t:ByteArray):∀(f k:Nat) (acc:List Int),acc.length<=k->k<=t.size->(sX t f k acc).length<=t.size:=by
 intro f
 induction f with
 |zero=>intro k acc h1 h2;simp only[sX];omega
 |succ f ih=>?_
 intro k acc h1 h2;simp only[sX]
 split
 ·exact ih _ _ (by simp;omega) (by omega)
 omega
theorem wG{s:Sd}(h:s.Ok):(tick s).Ok:=by
 obtain⟨h0,h1,h2⟩:=h;refine⟨h0,h1,?_⟩;show(strOfNums (sX s.tm s.tm.size 0 [])).size<=17;rw[strOfNums_size];have:=VQ s.tm s.tm.size 0 [] (Nat.le_refl _) (Nat.zero_le _);omega
end Ch
theorem Dj(t:ByteArray):Go.Lib.strCells t=ar (nums t):=by
 simp[Go.Lib.strCells,ar,nums]
theorem du.tf{w:World}{b:Nat}{s:Sd}{T:TypeId}(h:du w b [] s [] T):w.heap[b]? =some (.cells (ax s).toArray T (0,0)):=by
 unfold du ju at h;simpa[ax]using h
theorem du.th{w:World}{b:Nat}{s:Sd}{T:TypeId}(h:w.heap[b]? =some (.cells (ax s).toArray T (0,0))):du w b [] s [] T:=by
 unfold du ju;simpa[ax]using h
section
variable (w:World) (ob po:Nat) (ol:Ol)
theorem Ec(s:Sd)(n:Nat)(r:Sd×ByteArray)(hr:cI ol n (Ch.tick s) []=some r)(hn:n<=1000)(hnz:∀k,k<s.tm.size->1<=af s.tm k)(hok:s.Ok)(hp:Pl w ob po ol)(hol:ol.Ok):
 Calls prog 77 #[.pointer (some ⟨ob,po,none⟩),.agg (ax s).toArray] w λx w'=>
  x= .returned (.tuple #[.agg (ax r.1).toArray,.string r.2])/\Kp (λ_=>False) w w':=by
 obtain⟨ds,hds,eY⟩:=eT;obtain⟨i0,hi,hz0,hz1,hz2⟩:=info_parts infoByte;have hwf:=hok.1;have sI:=fG hwf;have sS:=gz hwf;have sO:=j3 s
 have hb1:((w.alloc (.cells (ax s).toArray 95)).alloc (.cells aW 95)).heap[w.heap.size]? =some (.cells (ax s).toArray 95):=by
  rw[Below.heap_alloc _ _ _ (by simp)];exact heap_alloc_new _ _
 have hr1:((w.alloc (.cells (ax s).toArray 95)).alloc (.cells aW 95)).heap[w.heap.size+1]? =some (.cells aW 95):=heap_alloc2_new w _ _;have K1:Kp (λ_=>False) w ((w.alloc (.cells (ax s).toArray 95)).alloc (.cells aW 95)):=((Kp.refl _ _).alloc _).alloc _
 have hs1:w.heap.size+1<((w.alloc (.cells (ax s).toArray 95)).alloc (.cells aW 95)).heap.size:=by simp
 have hp1:=hp.keep K1 (λ_ _ _ _ _ x=>x);clear hp;generalize ye:(ax s).toArray=SA at*;have Nf:=hid ye;clear ye;have HR:=hid hr;clear hr
 go_enter func77,ntmps77
 go_upto_region 1 with(fail)
 generalize (w.alloc (.cells SA 95)).alloc (.cells aW 95)=w2 at*;have hnew:=heap_alloc_new w2 (.cells aW 95);have hmr:=setRow_heap (w2.alloc (.cells aW 95)) w2.heap.size aW SA 95 (0,0) hnew;have K3:Kp (λ_=>False) w2 ((w2.alloc (.cells aW 95)).setRow w2.heap.size SA):=((Kp.refl _ _).alloc _).setRow (λx=>by omega) _;have nD:du ((w2.alloc (.cells aW 95)).setRow w2.heap.size SA) w2.heap.size [] s [] 95:=du.th (by rw[Nf.out];exact hmr);have hp3:=hp1.keep K3 (λ_ _ _ _ _ x=>x);have hr3:=K3.at_ hr1 (λx=>x);have KB:=K1.trans K3;have HX:=hid (ae nD (ae hp3 (ae hr3 KB)));clear hr1 hp1 K1 K3 hmr nD hp3 hr3 KB
 go_wp2_with (first|refine wpList_load_row rfl 95 (.tmp 3) rfl w.heap.size rfl 95 SA (0,0) ds hb1 hds (by cases ds<;>first|rfl|exact absurd eY (by simp[ak])) sI ?_|refine wpList_store_row rfl 95 (.tmp 6) (.tmp 13) rfl w2.heap.size SA rfl rfl 95 aW hnew sI (by rw[sS];rfl) sO ?_)
 generalize (w2.alloc (.cells aW 95)).setRow w2.heap.size SA=w3 at*;generalize w2.heap.size=nb at*;obtain⟨nD,hp3,hr3,KB⟩:=HX.out;have E0:=hid (VC w3 nb 0 [] s [] 95 nD hwf rfl (by have:=hok.2.2;omega) hnz);clear hnew sI sS sO hb1 nD hp3 hr3 KB hnz
 go_wp2_with fail
 refine hm E0 ?_;rintro x w4 ⟨rfl,h4,K4⟩;obtain⟨nD,hp3,hr3,KB⟩:=HX.out;have uU:Pl w4 ob po ol:=hp3.keep K4 (λi cur T hi hT x=>by subst x;rw[du.tf nD]at hi;simp at hi;obtain⟨_,rfl⟩:=hi;revert hT;unfold YS oT;decide);have hr4:=K4.at_ hr3 (λx=>by omega);have KC:Kp (λ_=>False) w w4:=KB.trans' K4 (λi hi x=>by omega);have afg:=h4.lt;have hok1:=wG hok;clear nD hp3 hr3 KB HX E0 K4 Nf;generalize Ch.tick s=s1 at*
 have hT4:∀cur T,w4.heap[nb]? =some (.cells cur T (0,0))->T=95:=by
  intro cur T h;rw[du.tf h4]at h;simp at h;exact h.2.symm
 go_wp2_with fail
 go_loopg [7] n (λgk ov wr=>∃(s':Sd) (l:List Int),Hid (cI ol n s1 []=cI ol gk s' l)/\du wr nb [] s' [] 95/\s'.Ok/\wr.ownsRow w4.heap.size 5 1 ov l.length (ar l)/\gk<=n/\l.length<=230400*(n-gk)/\Kp (λk=>k=nb) w4 wr)
 case atStart=>exact⟨s1,[],hid rfl,h4,hok1,World.ownsRow_nil _ _ _ _,Nat.le_refl _,by simp,Kp.refl _ _⟩
 case round=>
  obtain⟨s',l,HE,hn',hs',hfo,hgn,hll,KW⟩:=hrel
  obtain⟨k,rfl⟩:∃k,gk=k+1:=by
   cases gk with
   |zero=>have:=HE.out.symm.trans HR.out;simp[cI]at this
   |succ k=>exact⟨k,rfl⟩
  have hpr:Pl wr ob po ol:=uU.keep KW (λi cur T hi hT x=>by subst x;have:=hT4 _ _ hi;subst this;revert hT;unfold YS oT;decide);have hrr:=KW.at_ hr4 (λx=>by omega);have E1:=hid (IV wr nb 0 [] s' [] 95 hn' hs'.1 rfl (by have:=hs'.2.2;omega));have hsd:=nK hs'
  have step:cI ol (k+1) s' l=if(aZ s').2.1 then(if(aQ ol (aZ s').2.2 (aZ s').1).2.2==0 then cI ol k (aQ ol (aZ s').2.2 (aZ s').1).1 (l++nums (aQ ol (aZ s').2.2 (aZ s').1).2.1)
   else cI ol k (aZ s').2.2 l)else some ((aZ s').2.2,strOfNums l):=rfl
  have HX:=hid (ae hpr (ae hrr (ae KW hfo)));have HN:=hid hn';clear hpr hrr KW hn' hfo h4;generalize aZ s'=td at*;obtain⟨ev,ok,s2⟩:=td;simp only at hsd step E1
  cases ok with
  |false=>
   have HF:=hid (show r=(s2,strOfNums l)by
    have e:=HR.out.symm.trans (HE.out.trans step)
    simpa using e)
   clear HE step
   go_wp2_with fail
   refine hm E1 ?_;rintro x w5 ⟨rfl,h5,K5⟩;obtain⟨hpr,hrr,KW,hfo⟩:=HX.out;have jV:=K5.at_ hrr (λx=>by omega);have sr:=K5.owns hfo (λi hi x=>by have:=(hfo.lt i hi).1;omega);have KD:=KW.trans K5;have hq5:cD w5 w4.heap.size u7 (ar l):=cD.ofRow sr (Nat.le_refl _);clear HX E1 hpr hrr KW hfo K5
   go_upto_region 6 with(fail)
   have Ml:=fG hsd.1;have n1:=hq5.ne jV (by decide)
   have hne:nb≠w.heap.size+1:=by omega
   have hS0:du w5.drew nb [] s2 [] 95/\cD w5.drew w4.heap.size u7 (ar l):=⟨h5,hq5⟩
   have KR:Kp (λk=>k=w.heap.size+1) w5.drew (w5.drew.setRow (w.heap.size+1) (ax s2).toArray):=Kp.setRow (S:=λk=>k=w.heap.size+1) (Kp.refl _ _) (g:=w.heap.size+1) (λ_=>rfl) _
   have hS1:du (w5.drew.setRow (w.heap.size+1) (ax s2).toArray) nb [] s2 [] 95/\cD (w5.drew.setRow (w.heap.size+1) (ax s2).toArray) w4.heap.size u7 (ar l):=
    ⟨du.keep (w:=w5.drew) h5 KR hne,cD.keep (w:=w5.drew) hq5 KR (λi hi x=>by subst x;exact n1 hi)⟩
   have KF:Kp (λ_=>False) w (w5.drew.setRow (w.heap.size+1) (ax s2).toArray):=((KC.trans' KD (λi hi x=>by omega)).drewN 1).setRow (λx=>by omega) _;refine az (λw'=>du w' nb [] s2 [] 95/\cD w' w4.heap.size u7 (ar l)) (by kernel_rfl) ?_;refine eC 0 21 (.agg (ax s2).toArray) rfl (λw' hS=>bu 95 (.tmp 6) rfl nb (by simp[Act.eval]) 95 _ (0,0) ds hS.1.tf hds eY Ml) hS0 ?_;refine tk 1 22 u7 rfl (by kernel_rfl) rfl rfl (λw' _=>by simp[execOp,Act.eval,Act.put,go_sem]) hS0 ?_;refine eC 2 23 (.string (strOfNums l)) rfl (λw' hS=>mL 47 9 (.tmp 22) rfl u7 _ (by simp[Act.eval,Act.put]) (jy hS.2)) hS0 ?_;refine bF 3 (by kernel_rfl) rfl rfl 95 (.tmp 4) (.tmp 21) rfl rfl (w.heap.size+1) (ax s2).toArray (by simp[Act.eval,Act.put]) (by simp[Act.eval,Act.put]) 95 aW (by exact jV) Ml (by rw[gz hsd.1];rfl) (j3 _) hS1 ?_;refine eC 4 5 (.string (strOfNums l)) rfl (λw' _=>by simp[execOp,Act.eval,Act.put,go_sem]) hS1 ?_;refine wpAnyH_done (by kernel_rfl) (NoPanic.normal ?_) _;simp only[Act.put,pA,pB,pC];go_wp2;refine bodyPost_ret (results_cell_tmp rfl _ _ (w.heap.size+1) 95 (ax s2).toArray (0,0) ds rfl (setRow_heap w5.drew _ _ _ _ _ (by exact jV)) hds eY Ml) rfl ?_;rw[HF.out];exact⟨rfl,KF⟩
  |true=>?_
  have oU:=lP (ol:=ol) hsd ev;have aiX:=jW hol s2 ev;have sI:=fG hsd.1;simp only[if_true]at step;have HS:=hid (HE.out.trans step);clear HE step
  go_wp2_with fail
  refine hm E1 ?_;rintro x w5 ⟨rfl,h5,K5⟩;obtain⟨hpr,hrr,KW,hfo⟩:=HX.out
  have xJ:Pl w5 ob po ol:=hpr.keep K5 (λi cur T hi hT x=>by subst x;have h9:=hT4;have hb:=KW;exact(by
   have hwr:=HN.out
   rw[du.tf hwr]at hi;simp at hi;obtain⟨_,rfl⟩:=hi;revert hT;unfold YS oT;decide))
  have jV:=K5.at_ hrr (λx=>by omega);have sr:=K5.owns hfo (λi hi x=>by have:=(hfo.lt i hi).1;omega);have KD:=KW.trans K5;have oy:=du.tf h5;have E2:=hid (yd w5 ob po ol s2 ev hsd xJ hol);have HY:=hid (ae h5 (ae xJ (ae jV (ae sr KD))));clear HX E1 hpr hrr KW hfo K5 h5 xJ jV sr KD;generalize hfr:aQ ol s2 ev=fr at*;obtain⟨fs,ft,fe⟩:=fr;clear hfr;simp only at oU aiX HS E2;generalize (ax s2).toArray=SB at*
  go_wp2_with (refine wpList_load_row rfl 95 (.tmp 6) rfl nb rfl 95 SB (0,0) ds oy hds (by cases ds<;>first|rfl|exact absurd eY (by simp[ak])) sI ?_)
  refine hm E2 ?_;rintro x w6 ⟨rfl,K6⟩;obtain⟨h5,xJ,jV,sr,KD⟩:=HY.out;have hnew:=heap_alloc_new w6 (.cells aW 95);have fI:=fG oU.1;have fS:=gz oU.1;have fO:=j3 fs;have abn:=setRow_heap (w6.alloc (.cells aW 95)) w6.heap.size aW (ax fs).toArray 95 (0,0) hnew;have K7:Kp (λ_=>False) w5 ((w6.alloc (.cells aW 95)).setRow w6.heap.size (ax fs).toArray):=(K6.alloc _).setRow (λx=>by have:=K6.size;omega) _;have h7:=du.keep h5 K7 (λx=>x);have ho7:=K7.owns sr (λ_ _ x=>x);have KE:=KD.trans' K7 (λi hi x=>x.elim);have Iy:=hid (show(ax fs).toArray=(ax fs).toArray from rfl);clear h5 xJ jV sr KD HY E2 K6 K7 oy sI;generalize yT:(ax fs).toArray=FA at*;have HA:=hid yT;clear yT Iy
  cases q:fe==0 with
  |true=>
   have HF:=hid (show cI ol n s1 []=cI ol k fs (l++nums ft)by rw[HS.out,q];rfl)
   go_upto_region 8 with(refine wpList_store_row rfl 95 (.tmp 10) (.tmp 29) rfl w6.heap.size FA rfl rfl 95 aW hnew fI (by rw[fS];rfl) fO ?_)
   generalize (w6.alloc (.cells aW 95)).setRow w6.heap.size FA=w7 at*;have hold:=du.tf h7;have acF:=gz (s:=s2) hsd.1;have abo:=setRow_heap w7 nb _ FA _ _ hold;have K8:Kp (λk=>k=nb) w7 (w7.setRow nb FA):=Kp.setRow (S:=λk=>k=nb) (Kp.refl _ _) (g:=nb) (λ_=>rfl) _;have h8:du (w7.setRow nb FA) nb [] fs [] 95:=du.th (by rw[HA.out];exact abo);have ho8:=K8.owns ho7 (λi hi x=>by have:=(ho7.lt i hi).1;omega);have KF:=KE.trans K8;clear h7 ho7 KE K8 abo;generalize (ax s2).toArray=SB2 at*
   go_wp2_with (first|refine wpList_load_row rfl 95 (.tmp 10) rfl w6.heap.size rfl 95 FA (0,0) ds abn hds (by cases ds<;>first|rfl|exact absurd eY (by simp[ak])) fI ?_|refine wpList_store_row rfl 95 (.tmp 6) (.tmp 34) rfl nb FA rfl rfl 95 SB2 hold fI (by rw[fS,acF]) fO ?_|(at_builtin;refine Go.Lib.wpList_append_own_string _ rfl (.tmp 35) (.tmp 36) 47 9 rfl w4.heap.size 5 i0 underlying47 underlying9 hi hz0 hz1 hz2 u7 l.length (ar l) rfl ho8 ft rfl ?c1 ?c2 ?c3 ?_))
   case c1=>unfold maxLen;omega
   case c2=>omega
   case c3=>have:=KF.size;omega
   intro v9 w9 o9 g9 _;have K9:Kp (λk=>k=nb) w4 w9:=KF.grown g9 (λi hi hlt=>by have:=(ho8.lt i hi).1;omega);have h9:du w9 nb [] fs [] 95:=du.keep h8 ((Kp.refl (λi=>u7.ownBlock=some i) _).grown g9 (λi hi _=>hi)) (λx=>by have:=(ho8.lt nb x).1;omega);clear g9 KF h8 ho8 hold abn;go_wp2
   go_roundg k
   case rel=>exact⟨fs,l++nums ft,HF,h9,oU,by rw[Dj]at o9;simpa[ar,wE]using o9,by omega,by rw[List.length_append,wE,show n-k=(n-(k+1))+1 by omega];omega,K9⟩
   case measure=>omega
  |false=>?_
  have HF:=hid (show cI ol n s1 []=cI ol k s2 l by rw[HS.out,q];rfl)
  go_wp2_with (refine wpList_store_row rfl 95 (.tmp 10) (.tmp 29) rfl w6.heap.size FA rfl rfl 95 aW hnew fI (by rw[fS];rfl) fO ?_)
  go_roundg k
  case rel=>exact⟨s2,l,HF,h7,hsd,ho7,by omega,Nat.le_trans hll (Nat.mul_le_mul_left _ (by omega)),KE⟩
  case measure=>omega
end
namespace Ch
theorem Ed(ol:Ol):(mstart ol).1.Ok:=uz (s_ (m:=⟨bM ol.ag,[],[]⟩) (rC ol.ag) []) _
structure As where
 act:ByteArray
 past:ByteArray
 tm:ByteArray
 x:Int
 y:Int
 z:Int
def dX:As:=⟨⟨#[]⟩,⟨#[]⟩,⟨#[]⟩,0,0,0⟩
def aH(ss:List St)(s:Sd):As:=⟨dV ss s,dh ss s,s.tm,s.x,s.y,s.z⟩
def jf(t:ByteArray):As×ByteArray×Int:=
 if(read t).1 !=0 then(dX,⟨#[]⟩,(read t).1)
 else if(mstart (read t).2.2).2.2 !=0 then(dX,⟨#[]⟩,(mstart (read t).2.2).2.2)
 else(aH (read t).2.2.ag (mstart (read t).2.2).1,(mstart (read t).2.2).2.1,0)
end Ch
theorem fY{P:Program}{o:Oper}{a:Act}{w:World}(t:TypeId)(parts:Array (Nat×Operand))(ho:o.op= .build t parts)
 (cells:Array Value) (vals:List (Nat×Value)) (hv:parts.toList.map (λp=>(p.1,a.eval p.2))=vals) (hb:P.built t vals=some cells):(execOp a.eval o).run P w= .ok (.value (.agg cells)) w:=by
 have e:(parts.map λ(i,x)=>(i,a.eval x)).toList=vals:=by rw[Array.toList_map];exact hv
 unfold execOp;simp only[ho,Sem.run_bind,run_build w t _ cells (by rw[e];exact hb),Result.andThen_ok,Sem.run_pure]
def aN(a:As):Array Value:=#[.string a.act,.string a.past,.string a.tm,.int .i64 a.x,.int .i64 a.y,.int .i64 a.z]
theorem aP:(prog.info? 26).map (·.size)=some 6:=by kernel_rfl
theorem fN:∃d,prog.underlying 26=some d/\ak d=true:=⟨_,underlying26,rfl⟩
theorem bZ(a:As):(aN a).all (λx=>x.oneCell')=true:=by
 apply Array.all_eq_true_iff_forall_mem.2;intro x hx;simp only[aN,List.mem_toArray,List.mem_cons,List.not_mem_nil,or_false]at hx
 rcases hx with rfl|rfl|rfl|rfl|rfl|rfl<;>rfl
theorem AB.ai{w w':World}{B:Nat}{o:Ol}{sv tv bv:Value}{lt:List (Tr×Value)}{lb:List (Bl×Value)}(F:AB w B o sv tv bv lt lb)(k:Kp (λ_=>False) w w'):AB w' B o sv tv bv lt lb:=
 ⟨k.owns F.ag (λ_ _ x=>x),F.Iw,k.owns F.bG (λ_ _ x=>x),λx hx=>k.owns (F.iX x hx) (λ_ _ x=>x),F.Mj,k.owns F.dz (λ_ _ x=>x),λx hx=>k.owns (F.rh x hx) (λ_ _ x=>x)⟩
theorem Pl.ofRow{w:World}{ob B:Nat}{ol:Ol}{e f:Int}{sv tv bv:Value}{lt:List (Tr×Value)}{lb:List (Bl×Value)}(h:w.heap[ob]? =some (.cells (sV e f sv tv bv) 87 (0,0)))(F:AB w B ol sv tv bv lt lb):Pl w ob 0 ol:=
 ⟨sv,tv,bv,lt,lb,B,_,_,⟨h,.inl rfl,rfl,rfl,rfl⟩,F⟩
section
variable (w:World)
theorem jX(t:ByteArray):
 Calls prog 20 #[.string t] w λx w'=>x= .returned (.tuple #[.agg (aN (jf t).1),.string (jf t).2.1,.int .i64 (jf t).2.2])/\Kp (λ_=>False) w w':=by
 obtain⟨ds,hds,eY⟩:=fN;have hr1:=heap_alloc_new w (.cells aD 26);have K1:Kp (λ_=>False) w (w.alloc (.cells aD 26)):=(Kp.refl _ _).alloc _;have E0:=hid (sU t (w.alloc (.cells aD 26)));have hol:=mK t
 have HU:=hid (show jf t=if(Ch.read t).1 !=0 then(dX,⟨#[]⟩,(Ch.read t).1)
  else if(Ch.mstart (Ch.read t).2.2).2.2 !=0 then(dX,⟨#[]⟩,(Ch.mstart (Ch.read t).2.2).2.2)
  else(aH (Ch.read t).2.2.ag (Ch.mstart (Ch.read t).2.2).1,(Ch.mstart (Ch.read t).2.2).2.1,0)from rfl)
 go_enter func20,ntmps20
 go_wp2_with fail
 refine hm E0 ?_;rintro x w2 ⟨sv,tv,bv,lt,lb,rfl,F2,B2⟩;have K2:=kZ B2;have hr2:=K2.at_ hr1 (λx=>x);have KA:=K1.trans K2;clear E0 hr1 K1 K2 B2;generalize hrd:Ch.read t=rd at*;obtain⟨re,rf,ol⟩:=rd;clear hrd;simp only at hol F2 HU;have v_:=IL (e:=re) (f:=rf) (fF F2.ag) (fF F2.bG) (fF F2.dz);have hnew:=heap_alloc_new w2 (.cells zy 87);have hrow:=setRow_heap (w2.alloc (.cells zy 87)) w2.heap.size _ (sV re rf sv tv bv) 87 (0,0) hnew;have K3:Kp (λ_=>False) w2 ((w2.alloc (.cells zy 87)).setRow w2.heap.size (sV re rf sv tv bv)):=((Kp.refl _ _).alloc _).setRow (λx=>by omega) _;have hp3:=Pl.ofRow hrow (F2.ai K3);have hr3:=K3.at_ hr2 (λx=>x);have KB:=KA.trans K3;have HX:=hid (ae hp3 (ae hr3 (ae KB hrow)));clear hr2 KA K3 hp3 hr3 KB hrow F2
 go_upto_region 2 with(refine wpList_store_row rfl 87 (.tmp 5) (.tmp 10) rfl w2.heap.size (sV re rf sv tv bv) rfl rfl 87 zy hnew vj rfl v_ ?_)
 generalize (w2.alloc (.cells zy 87)).setRow w2.heap.size (sV re rf sv tv bv)=w3 at*;obtain⟨hp3,hr3,KB,hrow⟩:=HX.out
 have z0:w3.cell? ⟨w2.heap.size,0,none⟩=some (.int .i64 re):=by rw[World.cell?,hrow];rfl
 clear hnew v_ hp3 hr3 KB hrow;generalize w2.heap.size=ob at*
 cases q1:re !=0 with
 |true=>
  have HF:=hid (HU.out.trans (show _=(dX,(⟨#[]⟩:ByteArray),re)by rw[q1];rfl))
  go_upto_region 3 with(fail)
  obtain⟨hp3,hr3,KB,hrow⟩:=HX.out
  have r0:w3.cell? ⟨w.heap.size,0,none⟩=some (.string ⟨#[]⟩):=by rw[World.cell?,hr3];rfl
  have r1:w3.cell? ⟨w.heap.size,1,none⟩=some (.string ⟨#[]⟩):=by rw[World.cell?,hr3];rfl
  have r2:w3.cell? ⟨w.heap.size,2,none⟩=some (.string ⟨#[]⟩):=by rw[World.cell?,hr3];rfl
  have r3:w3.cell? ⟨w.heap.size,3,none⟩=some (.int .i64 0):=by rw[World.cell?,hr3];rfl
  have r4:w3.cell? ⟨w.heap.size,4,none⟩=some (.int .i64 0):=by rw[World.cell?,hr3];rfl
  have r5:w3.cell? ⟨w.heap.size,5,none⟩=some (.int .i64 0):=by rw[World.cell?,hr3];rfl
  have hS0:w3.drew.heap[ob]? =some (.cells (sV re rf sv tv bv) 87 (0,0)):=hrow
  have hne:ob≠w.heap.size:=by intro e;rw[e,hr3]at hrow;simp at hrow
  have hS1:(w3.drew.setRow w.heap.size aD).heap[ob]? =some (.cells (sV re rf sv tv bv) 87 (0,0)):=by rw[setRow_other _ _ _ _ hne];exact hrow
  have KF:Kp (λ_=>False) w (w3.drew.setRow w.heap.size aD):=(KB.drewN 1).setRow (λx=>by omega) _;refine az (λw'=>w'.heap[ob]? =some (.cells (sV re rf sv tv bv) 87 (0,0))) (by kernel_rfl) ?_;refine eC 0 14 (.agg aD) rfl (λw' _=>fY 26 #[] rfl aD [] rfl (by kernel_rfl)) hS0 ?_;refine eC 1 15 (.pointer (some ⟨ob,0,none⟩)) rfl (λw' _=>by simp[execOp,Act.eval,Act.put,go_sem]) hS0 ?_;refine eC 2 16 (.int .i64 re) rfl (λw' hS=>by(have c:w'.cell? ⟨ob,0,none⟩=some (.int .i64 re):=(by rw[World.cell?,hS];rfl);simp[execOp,Act.eval,Act.put,go_sem,c])) hS0 ?_;refine bF 3 (by kernel_rfl) rfl rfl 26 (.tmp 2) (.tmp 14) rfl rfl w.heap.size aD (by simp[Act.eval,Act.put]) (by simp[Act.eval,Act.put]) 26 aD (by exact hr3) aP rfl (bZ dX) hS1 ?_;refine eC 4 3 (.string ⟨#[]⟩) rfl (λw' _=>by rfl) hS1 ?_;refine eC 5 4 (.int .i64 re) rfl (λw' _=>by simp[execOp,Act.eval,Act.put,go_sem]) hS1 ?_;refine wpAnyH_done (by kernel_rfl) (NoPanic.normal ?_) _;simp only[Act.put,pA,pB,pC];go_wp2;refine bodyPost_ret (aq rfl _ _ w.heap.size 26 aD (0,0) ds rfl (setRow_heap w3.drew _ _ _ _ _ (by exact hr3)) hds eY aP) rfl ?_;rw[HF.out];exact⟨rfl,KF⟩
 |false=>?_
 obtain⟨hp3,hr3,KB,hrow⟩:=HX.out;have E1:=hid (AU w3 ob 0 ol hp3 hol);have Gy:=Ed ol;have HV:=hid (HU.out.trans (show _=if(Ch.mstart ol).2.2 !=0 then(dX,(⟨#[]⟩:ByteArray),(Ch.mstart ol).2.2)else(aH ol.ag (Ch.mstart ol).1,(Ch.mstart ol).2.1,0)by rw[q1];rfl));clear hp3 hr3 KB hrow HU;generalize hms:Ch.mstart ol=ms at*;obtain⟨fs,ft,fe⟩:=ms;clear hms;simp only at Gy HV E1;have fI:=fG Gy.1;have fS:=gz Gy.1;have fO:=j3 fs
 go_wp2_with fail
 refine hm E1 ?_;rintro x w4 ⟨rfl,K4⟩;obtain⟨hp3,hr3,KB,hrow⟩:=HX.out;have uU:=hp3.keep K4 (λ_ _ _ _ _ x=>x);have hr4:=K4.at_ hr3 (λx=>x);have KC:=KB.trans K4;have hnew:=heap_alloc_new w4 (.cells aW 95);have oy:=setRow_heap (w4.alloc (.cells aW 95)) w4.heap.size aW (ax fs).toArray 95 (0,0) hnew;have K5:Kp (λ_=>False) w4 ((w4.alloc (.cells aW 95)).setRow w4.heap.size (ax fs).toArray):=((Kp.refl _ _).alloc _).setRow (λx=>by omega) _;have h5:=du.th oy;have xJ:=uU.keep K5 (λ_ _ _ _ _ x=>x);have jV:=K5.at_ hr4 (λx=>x);have KD:=KC.trans K5;have hlt:w.heap.size<w4.heap.size:=lt_of_block hr4;have HY:=hid (ae h5 (ae xJ (ae jV KD)));clear hp3 hr3 KB hrow uU hr4 KC K4 K5 h5 xJ jV KD HX E1 oy;generalize (ax fs).toArray=FA at*
 go_upto_region 5 with(refine wpList_store_row rfl 95 (.tmp 6) (.tmp 19) rfl w4.heap.size FA rfl rfl 95 aW hnew fI (by rw[fS];rfl) fO ?_)
 generalize (w4.alloc (.cells aW 95)).setRow w4.heap.size FA=w5 at*;generalize w4.heap.size=fb at*;clear fI fS fO hnew z0
 cases q2:fe !=0 with
 |true=>
  obtain⟨h5,xJ,jV,KD⟩:=HY.out;have HF:=hid (HV.out.trans (show _=(dX,(⟨#[]⟩:ByteArray),fe)by rw[q2];rfl));have KF:Kp (λ_=>False) w (w5.setRow w.heap.size aD):=KD.setRow (λx=>by omega) _;clear h5 xJ KD HY HV
  go_wp2_with (refine wpList_store_row rfl 26 (.tmp 2) (.tmp 24) rfl w.heap.size aD rfl rfl 26 aD jV aP rfl (bZ dX) ?_)
  refine bodyPost_ret (aq rfl _ _ w.heap.size 26 aD (0,0) ds rfl (setRow_heap _ _ _ _ _ _ jV) hds eY aP) rfl ?_;rw[HF.out];exact⟨rfl,KF⟩
 |false=>?_
 obtain⟨h5,xJ,jV,KD⟩:=HY.out;have E2:=hid (lH ob 0 w5 ol.ag fb 0 [] fs [] 95 xJ.str (by have:=hol.ag;omega) h5 Gy.1 rfl);have HF:=hid (HV.out.trans (show _=(aH ol.ag fs,ft,(0:Int))by rw[q2];rfl));clear h5 xJ KD jV HV
 go_wp2_with fail
 refine hm E2 ?_;rintro x w6 ⟨rfl,K6⟩;obtain⟨h5,xJ,jV,KD⟩:=HY.out;have s9:=K6.at_ jV (λx=>x);have KF:Kp (λ_=>False) w (w6.setRow w.heap.size (aN (aH ol.ag fs))):=(KD.trans K6).setRow (λx=>by omega) _;clear h5 xJ KD jV HY E2
 go_wp2_with (refine wpList_store_row rfl 26 (.tmp 2) (.tmp 26) rfl w.heap.size (aN (aH ol.ag fs)) rfl rfl 26 aD s9 aP rfl (bZ _) ?_)
 refine bodyPost_ret (aq rfl _ _ w.heap.size 26 (aN (aH ol.ag fs)) (0,0) ds rfl (setRow_heap _ _ _ _ _ _ s9) hds eY aP) rfl ?_;rw[HF.out];exact⟨rfl,KF⟩
end
end Go.Proofs.YtnlbchmfcebeeaaGreat
