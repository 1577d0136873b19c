import Derived.Test.YtnlbchmfcebeeaaGreatTX6
set_option maxHeartbeats 12800000
set_option maxRecDepth 100000
namespace Go.Proofs.YtnlbchmfcebeeaaGreat
open Go.Proofs.Tryz Ch
open Go.RowKit
namespace Ch
def oJ(L:List RN)(i:Int)(k:Nat):List Nat:=(List.range k).filter (pW L i)
def im(l:List Nat):List Int:=l.map λ(n:Nat)=>(n:Int)
theorem Tt{L:List RN}{i:Int}{k:Nat}(h:pW L i k=true):oJ L i (k+1)=oJ L i k++[k]:=by
 unfold oJ;rw[List.range_succ,List.filter_append];simp[h]
theorem Cl{L:List RN}{i:Int}{k:Nat}(h:pW L i k=false):oJ L i (k+1)=oJ L i k:=by
 unfold oJ;rw[List.range_succ,List.filter_append];simp[h]
theorem Tu(L:List RN)(i:Int)(k:Nat):(oJ L i k).length<=k:=by
 unfold oJ;have:=List.length_filter_le (pW L i) (List.range k);simpa using this
theorem Fk(l:List Nat)(k:Nat):im (l++[k])=im l++[(k:Int)]:=by simp[im]
theorem W_{l:List NV}{k:Nat}{x:NV}(hx:l[k]? =some x)(i:Int):pW (mk l) i k=(x.n.parent==i&&x.n.kind !=5):=by
 unfold pW;rw[cU (L:=mk l) (n:=x.n) (by unfold mk;rw[List.getElem?_map,hx];rfl)]
end Ch
section
variable (w:World) (B cb:Nat)
theorem iE(l:List NV)(v:Value)(i:Int)(hF:iG w B cb l v)(hl:l.length<=1000):
 Calls prog 234 #[.pointer (some ⟨cb,0,none⟩),.int .i64 i] w λx w'=>∃u,x= .returned u/\w'.ownsRow w.heap.size 3 1 u (cE (Ch.mk l) i).length (aJ (im (cE (Ch.mk l) i)))/\Kp (λ_=>False) w w':=by
 obtain⟨i0,hi,hz0,hz1,hz2⟩:=info_parts lI;obtain⟨ao,cap,rfl⟩:=hF.2.1.len
 go_enter func234,ntmps234
 go_wp2_with fail
 go_loopw [5,6] (λfv j wr=>∃k:Nat,j= .int .i64 k/\k<=l.length/\wr.ownsRow w.heap.size 3 1 fv (oJ (Ch.mk l) i k).length (aJ (im (oJ (Ch.mk l) i k)))/\Kp (λ_=>False) w wr) (λ_ j _=>l.length-(intOf j).toNat)
 case atStart=>exact⟨0,rfl,Nat.zero_le _,World.ownsRow_nil _ _ _ _,Kp.refl _ _⟩
 case round=>
  obtain⟨k,rfl,hk,ho,KW⟩:=hrel;have ey:=hF.ai KW;have zc:=ey.cell;have hkl:=Tu (Ch.mk l) i k
  by_cases hlt:k<l.length
  ·have hlt':(k:Int)<(l.length:Int):=by omega
   obtain⟨x,hx⟩:∃x,l[k]? =some x:=⟨_,List.getElem?_eq_getElem hlt⟩
   obtain⟨g,cap',hv,hBg,hcell,hfr⟩:=ey.2.1.form hx;simp only[Value.slice.injEq]at hv;obtain⟨rfl,-,rfl⟩:=hv;have z2:wr.cell? ⟨g,k*7+2,none⟩=some (.int .i64 x.n.parent):=hcell 2 (by omega);have z1:wr.cell? ⟨g,k*7+1,none⟩=some (.int .i64 x.n.kind):=hcell 1 (by omega);have lf:=W_ hx i;clear ey hcell hfr
   cases q1:x.n.parent==i with
   |false=>
    rw[q1]at lf;have HK:=hid (Cl lf);clear lf;go_wp2
    go_roundw
    case rel=>exact⟨k+1,by go_num,by omega,by rw[HK.out];exact ho,KW⟩
    case measure=>simp[intOf];omega
   |true=>?_
   cases q2:x.n.kind !=5 with
   |false=>
    rw[q1,q2]at lf;have HK:=hid (Cl lf);clear lf;go_wp2
    go_roundw
    case rel=>exact⟨k+1,by go_num,by omega,by rw[HK.out];exact ho,KW⟩
    case measure=>simp[intOf];omega
   |true=>?_
   rw[q1,q2]at lf;have HK:=hid (Tt lf);have hsz:=KW.size;clear lf
   go_wp2_with (at_builtin;refine wpList_append_own (P:=prog) _ rfl (.tmp 37) (.tmp 39) 38 rfl w.heap.size 3 i0 (.int .i64 0) 1 8 underlying38 hi hz0 hz1 hz2 rfl (by decide) u5 (oJ (Ch.mk l) i k).length (aJ (im (oJ (Ch.mk l) i k))) rfl (by exact ho.alloc _) ⟨wr.heap.size,0,none⟩ 1 1 [.int .i64 k] rfl rfl (by exact eO _ _ _) (by intro u hu;simp at hu;subst hu;rfl) (by unfold maxLen;omega) (by omega) (by simp;omega) ?_)
   intro v' w9 o9 g9 _;have K9:Kp (λ_=>False) w w9:=(KW.alloc (.cells #[.int .i64 k] 3)).grown (by exact g9) (λj hj hlt=>by have:=(ho.lt j hj).1;omega);have HO:=hid (ae o9 K9);clear o9 g9 K9 ho KW zc z1 z2;go_wp2
   go_roundw
   case rel=>
    refine⟨k+1,by go_num,by omega,?_,HO.out.2⟩;rw[HK.out,Fk];have:=HO.out.1;simpa[aJ]using this
   case measure=>simp[intOf];omega
  have hge:¬(k:Int)<(l.length:Int):=by omega
  obtain rfl:k=l.length:=by omega
  have HR:=hid (show cE (Ch.mk l) i=oJ (Ch.mk l) i l.length by unfold cE oJ;rw[cP]);clear ey;go_wp2;go_ret;rw[HR.out];exact⟨_,rfl,ho,KW⟩
end
namespace Ch
def nmE(L:List RN):Int:=if 0<=nL L then 6 else 0
def nmP(L:List RN):Int:=if 0<=nL L then nL L else 0
theorem Fl{L:List RN}{b c p:Int}(h:lX c 65 90=false):fR L b ⟨c,p⟩=b:=by
 unfold fR;rw[show bx c=false from h];rfl
theorem Fm{L:List RN}{b c p:Int}(h:lU L c=true):fR L b ⟨c,p⟩=b:=by
 unfold fR;simp only[h];simp
theorem Fo{L:List RN}{b c p:Int}(h1:¬b<0)(h2:¬p<b):fR L b ⟨c,p⟩=b:=by
 unfold fR;simp[h1,h2]
theorem uI{L:List RN}{b c p:Int}(h1:lX c 65 90=true)(h2:lU L c=false)(h3:b<0\/p<b):fR L b ⟨c,p⟩=p:=by
 unfold fR;rw[show bx c=true from h1,h2];rcases h3 with h|h<;>simp[h]
def qG(L:List RN)(k:Nat):Int:=((L.take k).flatMap λn=>n.trans.flatMap tA).foldl (fR L) (-1)
def tM(L:List RN)(n:RN)(b:Int)(k:Nat):Int:=((n.trans.take k).flatMap tA).foldl (fR L) b
theorem On{L:List RN}{k:Nat}{n:RN}(h:L[k]? =some n):qG L (k+1)=tM L n (qG L k) n.trans.length:=by
 unfold qG tM;have hlt:=(List.getElem?_eq_some_iff.1 h).1;have e:L[k]=n:=(List.getElem?_eq_some_iff.1 h).2;rw[List.take_succ_eq_append_getElem hlt,List.flatMap_append,List.foldl_append,e,List.take_length];simp
theorem Oo{L:List RN}{n:RN}{b:Int}{k:Nat}{rt:RT}(h:n.trans[k]? =some rt):tM L n b (k+1)=(tA rt).foldl (fR L) (tM L n b k):=by
 unfold tM;have hlt:=(List.getElem?_eq_some_iff.1 h).1;have e:n.trans[k]=rt:=(List.getElem?_eq_some_iff.1 h).2;rw[List.take_succ_eq_append_getElem hlt,List.flatMap_append,List.foldl_append,e];simp
theorem Xa(L:List RN):nL L=qG L L.length:=by unfold nL qG Jg;rw[List.take_length]
theorem xi{L:List RN}{b:Int}{u:Us}(h: -1<=b/\b<=1000)(hu:0<=u.pos/\u.pos<=1000): -1<=fR L b u/\fR L b u<=1000:=by unfold fR;split<;>omega
theorem Cm(l:List RT)(k:Nat)(x:RT)(h:l[k]? =some x):(gX l)[k*2]? =some (.string x.text)/\(gX l)[k*2+1]? =some (.int .i64 x.pos):=by
 induction l generalizing k with
 |nil=>simp at h
 |cons a l ih=>?_
 have e:gX (a::l)=[.string a.text,.int .i64 a.pos]++gX l:=by simp[gX]
 rw[e]
 cases k with
 |zero=>simp at h;subst h;simp
 |succ k=>?_
 have:=ih k (by simpa using h);rw[List.getElem?_append_right (by simp;omega),List.getElem?_append_right (by simp;omega)];simp only[List.length_cons,List.length_nil];rw[show(k+1)*2-(0+1+1)=k*2 by omega,show(k+1)*2+1-(0+1+1)=k*2+1 by omega];exact this
end Ch
section
variable (w:World) (B cb:Nat)
theorem Oq(l:List NV)(v:Value)(SA:Array Value)(hF:iG w B cb l v)(hl:l.length<=300)(hT:∀x∈l,x.n.trans.length<=300/\afr x.n)(hs:SA.size=256)(hS:∀n:Nat,n<256->SA[n]? =some (.bool (lU (Ch.mk l) n))):
 Calls prog 235 #[.pointer (some ⟨cb,0,none⟩),.agg SA] w λx w'=>x= .returned (.tuple #[.int .i64 (nmE (Ch.mk l)),.int .i64 (nmP (Ch.mk l))])/\Kp (λ_=>False) w w':=by
 have hb1:=heap_alloc_new w (.cells SA 294)
 have hS1:Mo (w.alloc (.cells SA 294)) w.heap.size (lU (Ch.mk l)):=⟨SA,hb1,hs,hS⟩
 have K1:Kp (λ_=>False) w (w.alloc (.cells SA 294)):=(Kp.refl _ _).alloc _;have hF1:=hF.ai K1;obtain⟨ao,cap,rfl⟩:=hF.2.1.len
 go_enter func235,ntmps235
 go_upto_region 3 with(fail)
 generalize w.alloc (.cells SA 294)=w1 at*;clear hF hs hS hb1
 go_loopw [6,7] (λb i wr=>∃k:Nat,i= .int .i64 k/\k<=l.length/\b= .int .i64 (qG (Ch.mk l) k)/\(-1<=qG (Ch.mk l) k/\qG (Ch.mk l) k<=1000)/\Kp (λ_=>False) w1 wr) (λ_ i _=>l.length-(intOf i).toNat)
 case atStart=>exact⟨0,rfl,Nat.zero_le _,rfl,by simp[qG],Kp.refl _ _⟩
 case round=>
  obtain⟨k,rfl,hk,rfl,hbb,KW⟩:=hrel;have ey:=hF1.ai KW;have zc:=ey.cell
  by_cases hlt:k<l.length
  ·have hlt':(k:Int)<(l.length:Int):=by omega
   obtain⟨x,hx⟩:∃x,l[k]? =some x:=⟨_,List.getElem?_eq_getElem hlt⟩
   have hxm:=List.mem_of_getElem? hx
   have hxk:(Ch.mk l)[k]? =some x.n:=by unfold Ch.mk;rw[List.getElem?_map,hx];rfl
   obtain⟨g,cap',hv,hBg,hcell,hfr⟩:=ey.2.1.form hx;simp only[Value.slice.injEq]at hv;obtain⟨rfl,-,rfl⟩:=hv;obtain⟨QH,hTb⟩:=hT x hxm;have HB:=hid (On hxk);generalize hbk:qG (Ch.mk l) k=bk at*;clear hbk;have zt:wr.cell? ⟨g,k*7+6,none⟩=some x.tv:=hcell 6 (by omega);have hown:=ey.2.1.iX x hxm;obtain⟨ta,acy,Tv⟩:=aF hown;have HS:=hid hS1;have HX:=hid (ae hown (ae ey KW))
   have hbx:∀j,-1<=tM (Ch.mk l) x.n bk j/\tM (Ch.mk l) x.n bk j<=1000:=by
    intro j;unfold tM
    have:∀(m:List RT) (b:Int),(∀rt∈m,0<=rt.pos/\rt.pos<=300/\1<=rt.text.size/\rt.text.size<=300)-> -1<=b/\b<=1000-> -1<=(m.flatMap tA).foldl (fR (Ch.mk l)) b/\(m.flatMap tA).foldl (fR (Ch.mk l)) b<=1000:=by
     intro m
     induction m with
     |nil=>intro b _ h;exact h
     |cons a m ih=>?_
     intro b hm hb;have ha:=hm a (by simp);rw[List.flatMap_cons,List.foldl_append];refine ih _ (λrt hr=>hm rt (by simp[hr])) ?_;simp only[tA,List.foldl_cons,List.foldl_nil];exact xi (xi hb ⟨by simp only;omega,by simp only;omega⟩) ⟨by simp only;omega,by simp only;omega⟩
    exact this _ _ (λrt hr=>by have:=hTb rt (List.mem_of_mem_take hr);omega) hbb
   clear hcell hfr ey KW hown hS1
   go_wp2_with fail
   go_loopw [6,8] (λb j wq=>∃m:Nat,j= .int .i64 m/\m<=x.n.trans.length/\b= .int .i64 (tM (Ch.mk l) x.n bk m)/\Kp (λ_=>False) wr wq) (λ_ j _=>x.n.trans.length-(intOf j).toNat)
   case atStart=>exact⟨0,rfl,Nat.zero_le _,by simp[tM],Kp.refl _ _⟩
   case round=>
    obtain⟨m,rfl,hm,rfl,KQ⟩:=hrel;obtain⟨hown,ey,KW⟩:=HX.out;have zc2:=(ey.ai KQ).cell;have zt2:=Kp.bj KQ zt
    by_cases afd:m<x.n.trans.length
    ·have amg:(m:Int)<(x.n.trans.length:Int):=by omega
     obtain⟨rt,hrt⟩:∃rt,x.n.trans[m]? =some rt:=⟨_,List.getElem?_eq_getElem afd⟩
     have hrb:=hTb rt (List.mem_of_getElem? hrt);obtain⟨tg,amh,aaq⟩:=gD hown (by omega);rw[aaq]at Tv zt2 zt;simp only[Value.slice.injEq]at Tv;obtain⟨rfl,-,rfl⟩:=Tv;have hown2:=KQ.owns hown (λ_ _ x=>x);rw[aaq]at hown2;have a0:=(hown2.cellAt (m*2) (by omega)).trans (Cm _ m rt hrt).1;have a1:=(hown2.cellAt (m*2+1) (by omega)).trans (Cm _ m rt hrt).2
     have hsn:=(HS.out.ai (KW.trans KQ))
     have hbm:=hbx m;have HBT:=hid (Oo (L:=Ch.mk l) (b:=bk) hrt);generalize tM (Ch.mk l) x.n bk m=bm at*;clear hown ey hown2;have K5:Kp (λ_=>False) wr ((wr.alloc (.cells #[.string rt.text,.int .i64 rt.pos] 292)).alloc (.cells #[.int .i64 0,.int .i64 ((rt.text.size:Int)-1)] 3)):=((Kp.refl _ _).alloc _).alloc _
     have hb5:=(((Kp.refl (λ_=>False) _).alloc (.cells #[.int .i64 0,.int .i64 ((rt.text.size:Int)-1)] 3)).at_ (heap_alloc_new wr (.cells #[.string rt.text,.int .i64 rt.pos] 292)) (λx=>x))
     have hd5:=heap_alloc_new (wr.alloc (.cells #[.string rt.text,.int .i64 rt.pos] 292)) (.cells #[.int .i64 0,.int .i64 ((rt.text.size:Int)-1)] 3);have hs5:=hsn.ai K5
     have hsz:(wr.alloc (.cells #[.string rt.text,.int .i64 rt.pos] 292)).heap.size=wr.heap.size+1:=by simp
     rw[hsz]at hd5
     go_upto_region 11 with(fail)
     generalize (wr.alloc (.cells #[.string rt.text,.int .i64 rt.pos] 292)).alloc (.cells #[.int .i64 0,.int .i64 ((rt.text.size:Int)-1)] 3)=w5 at*
     have c0:w5.cell? ⟨wr.heap.size,0,none⟩=some (.string rt.text):=by rw[World.cell?,hb5];rfl
     have c1:w5.cell? ⟨wr.heap.size,1,none⟩=some (.int .i64 rt.pos):=by rw[World.cell?,hb5];rfl
     have d0:w5.cell? ⟨wr.heap.size+1,0,none⟩=some (.int .i64 0):=by rw[World.cell?,hd5];rfl
     have d1:w5.cell? ⟨wr.heap.size+1,1,none⟩=some (.int .i64 ((rt.text.size:Int)-1)):=by rw[World.cell?,hd5];rfl
     generalize wr.heap.size=tb at*;have hb1:=xi (L:=Ch.mk l) (b:=bm) (u:=⟨af rt.text 0,rt.pos⟩) hbm ⟨by simp only;omega,by simp only;omega⟩;have hb2:=xi (L:=Ch.mk l) (u:=⟨af rt.text (rt.text.size-1),rt.pos+((rt.text.size:Int)-1)⟩) hb1 ⟨by simp only;omega,by simp only;omega⟩;have HC:=hid (show(tA rt).foldl (fR (Ch.mk l)) bm=fR (Ch.mk l) (fR (Ch.mk l) bm ⟨af rt.text 0,rt.pos⟩) ⟨af rt.text (rt.text.size-1),rt.pos+((rt.text.size:Int)-1)⟩from rfl);have HY:=hid (ae KW (ae KQ K5));have HU1:=hid (show fR (Ch.mk l) bm ⟨af rt.text 0,rt.pos⟩=fR (Ch.mk l) bm ⟨af rt.text 0,rt.pos⟩from rfl);generalize hB1:fR (Ch.mk l) bm ⟨af rt.text 0,rt.pos⟩=b1 at*;have HB1:=hid hB1;have YU:=hid (show fR (Ch.mk l) b1 ⟨af rt.text (rt.text.size-1),rt.pos+((rt.text.size:Int)-1)⟩=fR (Ch.mk l) b1 ⟨af rt.text (rt.text.size-1),rt.pos+((rt.text.size:Int)-1)⟩from rfl);generalize hB2:fR (Ch.mk l) b1 ⟨af rt.text (rt.text.size-1),rt.pos+((rt.text.size:Int)-1)⟩=b2 at*;have HB2:=hid hB2;clear hb5 hd5 hsn KW KQ K5 zc2 zt2 a0 a1 zc zt hsz hB1 hB2 HU1 YU
     go_loop [6,55] (λb i=>∃q:Nat,i= .int .i64 q/\q<=2/\b= .int .i64 (if q=0 then bm else if q=1 then b1 else b2)) (λ_ i=>2-(intOf i).toNat)
     case atStart=>exact⟨0,rfl,by omega,rfl⟩
     case round=>
      obtain⟨q,rfl,hq,rfl⟩:=hrel
      obtain rfl|rfl|rfl:q=0\/q=1\/q=2:=by omega
      ·simp only[if_true]
       have hix:0<rt.text.size:=by omega
       obtain⟨n,hn⟩:∃n:Nat,(rt.text[0]'hix).toNat=n:=⟨_,rfl⟩
       have Fp:n<256:=by rw[<-hn];exact(rt.text[0]'hix).toNat_lt
       have hn':(n:Int)<256:=by omega
       have zs:=hs5.cell n Fp;have hu:Hid (af rt.text (0)=(n:Int)):=hid (by rw[nQ hix,hn]);have E:=hid (oH w5 (n:Int) 65 90)
       cases q1:lX (n:Int) 65 90 with
       |false=>
        rw[q1]at E;have HV:=hid (show b1=bm by rw[<-HB1.out,hu.out];exact Fl q1)
        go_wp2_with fail
        refine bH E ?_;rintro y w6 ⟨rfl,e6⟩;rw[e6];clear e6 w6;go_wp2
        go_round
        case rel=>exact⟨1,rfl,by omega,by rw[HV.out];rfl⟩
        case measure=>simp[intOf]
       |true=>?_
       rw[q1]at E
       cases q2:lU (Ch.mk l) (n:Int)with
       |true=>
        have HV:=hid (show b1=bm by rw[<-HB1.out,hu.out];exact Fm q2)
        go_wp2_with fail
        refine bH E ?_;rintro y w6 ⟨rfl,e6⟩;rw[e6];clear e6 w6;go_wp2
        go_round
        case rel=>exact⟨1,rfl,by omega,by rw[HV.out];rfl⟩
        case measure=>simp[intOf]
       |false=>?_
       by_cases h3:bm<0
       ·have HV:=hid (show b1=rt.pos by rw[<-HB1.out,hu.out];exact uI q1 q2 (.inl h3))
        go_wp2_with fail
        refine bH E ?_;rintro y w6 ⟨rfl,e6⟩;rw[e6];clear e6 w6;go_wp2
        go_round
        case rel=>exact⟨1,rfl,by omega,by rw[HV.out];rfl⟩
        case measure=>simp[intOf]
       by_cases h4:rt.pos<bm
       ·have HV:=hid (show b1=rt.pos by rw[<-HB1.out,hu.out];exact uI q1 q2 (.inr h4))
        go_wp2_with fail
        refine bH E ?_;rintro y w6 ⟨rfl,e6⟩;rw[e6];clear e6 w6;go_wp2
        go_round
        case rel=>exact⟨1,rfl,by omega,by rw[HV.out];rfl⟩
        case measure=>simp[intOf]
       have HV:=hid (show b1=bm by rw[<-HB1.out,hu.out];exact Fo h3 h4)
       go_wp2_with fail
       refine bH E ?_;rintro y w6 ⟨rfl,e6⟩;rw[e6];clear e6 w6;go_wp2
       go_round
       case rel=>exact⟨1,rfl,by omega,by rw[HV.out];rfl⟩
       case measure=>simp[intOf]
      ·simp only[if_true,show((1:Nat)=0)=False by simp,if_false]
       have hix:rt.text.size-1<rt.text.size:=by omega
       obtain⟨n,hn⟩:∃n:Nat,(rt.text[rt.text.size-1]'hix).toNat=n:=⟨_,rfl⟩
       have Fp:n<256:=by rw[<-hn];exact(rt.text[rt.text.size-1]'hix).toNat_lt
       have hn':(n:Int)<256:=by omega
       have zs:=hs5.cell n Fp;have hu:Hid (af rt.text (rt.text.size-1)=(n:Int)):=hid (by rw[nQ hix,hn]);have E:=hid (oH w5 (n:Int) 65 90)
       cases q1:lX (n:Int) 65 90 with
       |false=>
        rw[q1]at E;have HV:=hid (show b2=b1 by rw[<-HB2.out,hu.out];exact Fl q1)
        go_wp2_with fail
        refine bH E ?_;rintro y w6 ⟨rfl,e6⟩;rw[e6];clear e6 w6;go_wp2
        go_round
        case rel=>exact⟨2,rfl,by omega,by rw[HV.out];rfl⟩
        case measure=>simp[intOf]
       |true=>?_
       rw[q1]at E
       cases q2:lU (Ch.mk l) (n:Int)with
       |true=>
        have HV:=hid (show b2=b1 by rw[<-HB2.out,hu.out];exact Fm q2)
        go_wp2_with fail
        refine bH E ?_;rintro y w6 ⟨rfl,e6⟩;rw[e6];clear e6 w6;go_wp2
        go_round
        case rel=>exact⟨2,rfl,by omega,by rw[HV.out];rfl⟩
        case measure=>simp[intOf]
       |false=>?_
       by_cases h3:b1<0
       ·have HV:=hid (show b2=(rt.pos+((rt.text.size:Int)-1))by rw[<-HB2.out,hu.out];exact uI q1 q2 (.inl h3))
        go_wp2_with fail
        refine bH E ?_;rintro y w6 ⟨rfl,e6⟩;rw[e6];clear e6 w6;go_wp2
        go_round
        case rel=>exact⟨2,rfl,by omega,by rw[HV.out];rfl⟩
        case measure=>simp[intOf]
       by_cases h4:(rt.pos+((rt.text.size:Int)-1))<b1
       ·have HV:=hid (show b2=(rt.pos+((rt.text.size:Int)-1))by rw[<-HB2.out,hu.out];exact uI q1 q2 (.inr h4))
        go_wp2_with fail
        refine bH E ?_;rintro y w6 ⟨rfl,e6⟩;rw[e6];clear e6 w6;go_wp2
        go_round
        case rel=>exact⟨2,rfl,by omega,by rw[HV.out];rfl⟩
        case measure=>simp[intOf]
       have HV:=hid (show b2=b1 by rw[<-HB2.out,hu.out];exact Fo h3 h4)
       go_wp2_with fail
       refine bH E ?_;rintro y w6 ⟨rfl,e6⟩;rw[e6];clear e6 w6;go_wp2
       go_round
       case rel=>exact⟨2,rfl,by omega,by rw[HV.out];rfl⟩
       case measure=>simp[intOf]
      simp only[show((2:Nat)=0)=False by simp,show((2:Nat)=1)=False by simp,if_false];go_wp2
      go_roundw
      case rel=>
       obtain⟨KW,KQ,K5⟩:=HY.out;refine⟨m+1,by go_num,by omega,?_,KQ.trans K5⟩;rw[HBT.out,HC.out]
      case measure=>simp[intOf];omega
    have ajK:¬(m:Int)<(x.n.trans.length:Int):=by omega
    obtain rfl:m=x.n.trans.length:=by omega
    have hbe:=hbx x.n.trans.length;clear hown ey;go_wp2
    go_roundw
    case rel=>exact⟨k+1,by go_num,by omega,by rw[HB.out],by rw[HB.out];exact hbe,HX.out.2.2.trans KQ⟩
    case measure=>simp[intOf];omega
  have hge:¬(k:Int)<(l.length:Int):=by omega
  obtain rfl:k=l.length:=by omega
  have hR:nL (Ch.mk l)=qG (Ch.mk l) l.length:=by rw[Xa,cP]
  have K2:=K1.trans KW
  by_cases h0:0<=qG (Ch.mk l) l.length
  ·have e1:=hid (show nmE (Ch.mk l)=6 by unfold nmE;rw[hR,if_pos h0])
   have e2:=hid (show nmP (Ch.mk l)=qG (Ch.mk l) l.length by unfold nmP;rw[hR,if_pos h0]);clear ey hR;go_wp2;go_ret2;rw[e1.out,e2.out];exact⟨rfl,K2⟩
  have e1:=hid (show nmE (Ch.mk l)=0 by unfold nmE;rw[hR,if_neg h0]);have e2:=hid (show nmP (Ch.mk l)=0 by unfold nmP;rw[hR,if_neg h0]);clear ey hR;go_wp2;go_ret2;rw[e1.out,e2.out];exact⟨rfl,K2⟩
end
namespace Ch
def fE(L:List RN):Int:=(oW L).1
def fP(L:List RN):Int:=(oW L).2
theorem J8{n k:Nat}{q:Nat->Bool}(hk:k<n)(h:q k=true)(hb:∀j,j<k->q j=false):(List.range n).find? q=some k:=by
 rw[List.find?_range_eq_some];exact⟨h,by simpa using hk,λj hj=>by simp[hb j hj]⟩
theorem yA{n:Nat}{q:Nat->Bool}(hb:∀j,j<n->q j=false):(List.range n).find? q=none:=by
 rw[List.find?_eq_none];intro j hj;simp[hb j (by simpa using hj)]
theorem J9{L:List RN}(h:16<L.length):fE L=3/\fP L=(cS L 16).pos:=by unfold fE fP oW;rw[if_pos h];exact⟨rfl,rfl⟩
theorem Hh{L:List RN}(h:¬ 16<L.length){k:Nat}(hk:k<L.length)(hd:sw L k=true)(hb:∀j,j<k->sw L j=false):fE L=4/\fP L=(cS L k).pos:=by
 unfold fE fP oW;rw[if_neg h,J8 hk hd hb];exact⟨rfl,rfl⟩
theorem Hi{L:List RN}(h:¬ 16<L.length)(hn:∀j,j<L.length->sw L j=false){k:Nat}(hk:k<L.length)(hd:uV L k=true)(hb:∀j,j<k->uV L j=false):fE L=5/\fP L=(cS L k).pos:=by
 unfold fE fP oW;rw[if_neg h,yA hn];simp only;rw[J8 hk hd hb];exact⟨rfl,rfl⟩
theorem Hj{L:List RN}(h:¬ 16<L.length)(hn:∀j,j<L.length->sw L j=false)(hb:∀j,j<L.length->uV L j=false):fE L=nmE L/\fP L=nmP L:=by
 unfold fE fP oW nmE nmP;rw[if_neg h,yA hn];simp only;rw[yA hb];simp only
 by_cases c:0<=nL L<;>simp[c]
def rV(L:List RN)(k:Nat)(b:Int):Bool:=(L.take k).any λm=>m.name==b
theorem aar{L:List RN}{k:Nat}{n:RN}(h:cS L k=n):uV L k=if n.kind==5||n.kind==4 then(cS L n.parent.toNat).kind==3 else(n.kind==3||n.kind==2)&&(cE L (k:Int)).length==0:=by
 subst h;rfl
theorem Tw(L:List RN)(b:Int):rV L L.length b=lU L b:=by unfold rV lU;rw[List.take_length]
theorem Ot{L:List RN}{n:Nat}(h:L.length=n)(b:Int):rV L n b=lU L b:=by subst h;exact Tw L b
theorem Ou{L:List RN}{k:Nat}{n:RN}(h:L[k]? =some n)(b:Int):rV L (k+1) b=(rV L k b||n.name==b):=by
 have hlt:=(List.getElem?_eq_some_iff.1 h).1;have e:L[k]=n:=(List.getElem?_eq_some_iff.1 h).2;unfold rV;rw[List.take_succ_eq_append_getElem hlt,List.any_append,e];simp
theorem Xb{L:List RN}{k:Nat}{n:RN}(h:L[k]? =some n):sw L k=rV L k n.name:=by unfold sw rV;rw[cU h]
end Ch
theorem aas:(prog.info? 294).map (·.size)=some 256:=by kernel_rfl
def adj:Array Value:=#[.bool false,.bool false,.bool false,.bool false,.bool false,.bool false,.bool false,.bool false,.bool false,.bool false,.bool false,.bool false,.bool false,.bool false,.bool false,.bool false,.bool false,.bool false,.bool false,.bool false,.bool false,.bool false,.bool false,.bool false,.bool false,.bool false,.bool false,.bool false,.bool false,.bool false,.bool false,.bool false,.bool false,.bool false,.bool false,.bool false,.bool false,.bool false,.bool false,.bool false,.bool false,.bool false,.bool false,.bool false,.bool false,.bool false,.bool false,.bool false,.bool false,.bool false,.bool false,.bool false,.bool false,.bool false,.bool false,.bool false,.bool false,.bool false,.bool false,.bool false,.bool false,.bool false,.bool false,.bool false,.bool false,.bool false,.bool false,.bool false,.bool false,.bool false,.bool false,.bool false,.bool false,.bool false,.bool false,.bool false,.bool false,.bool false,.bool false,.bool false,.bool false,.bool false,.bool false,.bool false,.bool false,.bool false,.bool false,.bool false,.bool false,.bool false,.bool false,.bool false,.bool false,.bool false,.bool false,.bool false,.bool false,.bool false,.bool false,.bool false,.bool false,.bool false,.bool false,.bool false,.bool false,.bool false,.bool false,.bool false,.bool false,.bool false,.bool false,.bool false,.bool false,.bool false,.bool false,.bool false,.bool false,.bool false,.bool false,.bool false,.bool false,.bool false,.bool false,.bool false,.bool false,.bool false,.bool false,.bool false,.bool false,.bool false,.bool false,.bool false,.bool false,.bool false,.bool false,.bool false,.bool false,.bool false,.bool false,.bool false,.bool false,.bool false,.bool false,.bool false,.bool false,.bool false,.bool false,.bool false,.bool false,.bool false,.bool false,.bool false,.bool false,.bool false,.bool false,.bool false,.bool false,.bool false,.bool false,.bool false,.bool false,.bool false,.bool false,.bool false,.bool false,.bool false,.bool false,.bool false,.bool false,.bool false,.bool false,.bool false,.bool false,.bool false,.bool false,.bool false,.bool false,.bool false,.bool false,.bool false,.bool false,.bool false,.bool false,.bool false,.bool false,.bool false,.bool false,.bool false,.bool false,.bool false,.bool false,.bool false,.bool false,.bool false,.bool false,.bool false,.bool false,.bool false,.bool false,.bool false,.bool false,.bool false,.bool false,.bool false,.bool false,.bool false,.bool false,.bool false,.bool false,.bool false,.bool false,.bool false,.bool false,.bool false,.bool false,.bool false,.bool false,.bool false,.bool false,.bool false,.bool false,.bool false,.bool false,.bool false,.bool false,.bool false,.bool false,.bool false,.bool false,.bool false,.bool false,.bool false,.bool false,.bool false,.bool false,.bool false,.bool false,.bool false,.bool false,.bool false,.bool false,.bool false,.bool false,.bool false,.bool false,.bool false,.bool false,.bool false,.bool false,.bool false,.bool false,.bool false,.bool false,.bool false,.bool false,.bool false]
theorem QI:adj=Array.replicate 256 (.bool false):=by rfl
theorem af5(k:Nat)(hk:k<256):adj[k]? =some (.bool false):=by
 rw[QI,Array.getElem?_replicate,if_pos hk]
theorem Tx:adj.size=256:=by rw[QI];simp
section
variable (w:World) (B cb:Nat)
theorem Ov(l:List NV)(v:Value)(hF:iG w B cb l v)(hO:abt l):
 Calls prog 195 #[.pointer (some ⟨cb,0,none⟩)] w λx w'=>x= .returned (.tuple #[.int .i64 (fE (Ch.mk l)),.int .i64 (fP (Ch.mk l))])/\Kp (λ_=>False) w w':=by
 have hlen:=hO.len;obtain⟨ao,cap,rfl⟩:=hF.2.1.len;have zc:=hF.cell;have J_:=cP l
 by_cases h16:16<l.length
 ·have xS:(16:Int)<(l.length:Int):=by omega
  obtain⟨x,hx⟩:∃x,l[16]? =some x:=⟨_,List.getElem?_eq_getElem h16⟩
  obtain⟨g,cap',hv,hBg,hcell,hfr⟩:=hF.2.1.form hx;simp only[Value.slice.injEq]at hv;obtain⟨rfl,-,rfl⟩:=hv;have z3:w.cell? ⟨g,16*7+3,none⟩=some (.int .i64 x.n.pos):=hcell 3 (by omega);have hR:=hid (J9 (L:=Ch.mk l) (by omega));have hrn:cS (Ch.mk l) 16=x.n:=cU (by unfold Ch.mk;rw[List.getElem?_map,hx];rfl);rw[hrn]at hR;clear hcell hfr hF hO J_;simp only[Nat.reduceMul,Nat.reduceAdd]at z3
  go_enter func195,ntmps195
  go_wp2
  go_quiet (fail)
  go_wp2;go_ret2;rw[hR.out.1,hR.out.2];exact⟨rfl,(Kp.refl _ _).drewN _⟩
 have xS:¬(16:Int)<(l.length:Int):=by omega
 have hne:¬ 16<(Ch.mk l).length:=by omega
 have HO:=hid hO;have HF:=hid hF;have hcb:cb<w.heap.size:=lt_of_block hF.1;clear hO hF
 go_enter func195,ntmps195
 go_upto_region 5 with(fail)
 refine(λajL:∀w1:World,Kp (λ_=>False) w w1->Mo w1 w.heap.size (rV (Ch.mk l) 0)->Code.wp _ _ _ _ w1=>ajL _ ((Kp.refl _ _).alloc _) ⟨_,heap_alloc_new w _,Tx,λn hn=>af5 n hn⟩) ?_;intro w1 K1 hS1;have hF1:=HF.out.ai K1;clear zc HF;generalize hsb:w.heap.size=sb at*
 go_loopw [5] (λi wr=>∃k:Nat,i= .int .i64 k/\k<=l.length/\Hid (∀j,j<k->sw (Ch.mk l) j=false)/\Mo wr sb (rV (Ch.mk l) k)/\Kp (λi=>i=sb) w1 wr) (λi _=>l.length-(intOf i).toNat)
 case atStart=>exact⟨0,rfl,Nat.zero_le _,hid (λj h=>absurd h (by omega)),hS1,Kp.refl _ _⟩
 case round=>
  obtain⟨k,rfl,hk,HD,hS,KW⟩:=hrel
  have ey:iG wr B cb l (.slice ao l.length cap):=hF1.A4 KW (λi cur T hi _ hT e=>by
   subst e;obtain⟨C,hC,_⟩:=hS1;rw[hC]at hi;simp only[Option.some.injEq,Obj.cells.injEq]at hi
   rcases hT with h|h|h|h<;>rw[h]at hi<;>exact absurd hi.2.1 (by decide))
  have zc:=ey.cell
  by_cases hlt:k<l.length
  ·have hlt':(k:Int)<(l.length:Int):=by omega
   obtain⟨x,hx⟩:∃x,l[k]? =some x:=⟨_,List.getElem?_eq_getElem hlt⟩
   have hxk:(Ch.mk l)[k]? =some x.n:=by unfold Ch.mk;rw[List.getElem?_map,hx];rfl
   obtain⟨g,cap',hv,hBg,hcell,hfr⟩:=ey.2.1.form hx;simp only[Value.slice.injEq]at hv;obtain⟨rfl,-,rfl⟩:=hv;have hnm:=HO.out.nm x (List.mem_of_getElem? hx)
   obtain⟨n,hn⟩:∃n:Nat,x.n.name=n:=⟨x.n.name.toNat,by omega⟩
   have Fp:n<256:=by omega
   have hn':(n:Int)<256:=by omega
   have z0:wr.cell? ⟨g,k*7,none⟩=some (.int .u8 n):=by rw[<-hn];exact hcell 0 (by omega)
   have z3:wr.cell? ⟨g,k*7+3,none⟩=some (.int .i64 x.n.pos):=hcell 3 (by omega);have zs:=hS.cell n Fp;have fs:=hS.free n;have hdup:=Xb hxk;rw[hn]at hdup;have hrn:=cU hxk
   cases q:rV (Ch.mk l) k (n:Int)with
   |true=>
    have hR:=hid (Hh hne (by omega) (by rw[hdup];exact q) HD.out);rw[hrn]at hR;have KZ:=hid (K1.trans' KW (λi hi x=>by omega));rw[q]at zs;clear hcell hfr ey hS KW HD hdup hn;go_wp2
    go_quiet (fail)
    go_wp2;go_ret2;rw[hR.out.1,hR.out.2];exact⟨rfl,KZ.out.drewN _⟩
   |false=>?_
   have HD2:=hid (show∀j,j<k+1->sw (Ch.mk l) j=false from λj hj=>by
    rcases Nat.lt_or_eq_of_le (Nat.le_of_lt_succ hj)with h|h
    ·exact HD.out j h
    subst h;rw[hdup];exact q)
   have hS2:=hid (hS.set Fp (f':=rV (Ch.mk l) (k+1)) (λm _=>by rw[Ou hxk,hn]));have KZ:=hid (KW.setCell (p:=⟨sb,n,none⟩) (λ_=>rfl) (.bool true));rw[q]at zs;clear hcell hfr ey hS KW HD hdup hn;go_wp2
   go_roundw
   case rel=>exact⟨k+1,by go_num,by omega,HD2,hS2.out,KZ.out⟩
   case measure=>simp[intOf];omega
  have hge:¬(k:Int)<(l.length:Int):=by omega
  obtain rfl:k=l.length:=by omega
  have HD':=hid (show∀j,j<(Ch.mk l).length->sw (Ch.mk l) j=false by rw[J_];exact HD.out);clear HD
  go_upto_region 11 with(fail)
  have K2:=K1.trans' KW (λi hi x=>by omega)
  go_loopw [6] (λi wq=>∃k:Nat,i= .int .i64 k/\k<=l.length/\Hid (∀j,j<k->uV (Ch.mk l) j=false)/\Kp (λ_=>False) wr wq) (λi _=>l.length-(intOf i).toNat)
  case atStart=>exact⟨0,rfl,Nat.zero_le _,hid (λj h=>absurd h (by omega)),Kp.refl _ _⟩
  case round=>
   obtain⟨k,rfl,hk,HM,KQ⟩:=hrel;have yB:=ey.ai KQ;have zc2:=yB.cell
   by_cases hlt:k<l.length
   ·have hlt':(k:Int)<(l.length:Int):=by omega
    obtain⟨x,hx⟩:∃x,l[k]? =some x:=⟨_,List.getElem?_eq_getElem hlt⟩
    have hxk:(Ch.mk l)[k]? =some x.n:=by unfold Ch.mk;rw[List.getElem?_map,hx];rfl
    obtain⟨g,cap',hv,hBg,hcell,hfr⟩:=yB.2.1.form hx;simp only[Value.slice.injEq]at hv;obtain⟨rfl,-,rfl⟩:=hv;have hxm:=List.mem_of_getElem? hx;have z0:wr.cell? ⟨g,k*7,none⟩=some (.int .u8 x.n.name):=hcell 0 (by omega);have z1:wr.cell? ⟨g,k*7+1,none⟩=some (.int .i64 x.n.kind):=hcell 1 (by omega);have z2:wr.cell? ⟨g,k*7+2,none⟩=some (.int .i64 x.n.parent):=hcell 2 (by omega);have z3:wr.cell? ⟨g,k*7+3,none⟩=some (.int .i64 x.n.pos):=hcell 3 (by omega);have z4:wr.cell? ⟨g,k*7+4,none⟩=some x.ev:=hcell 4 (by omega);have z5:wr.cell? ⟨g,k*7+5,none⟩=some x.lv:=hcell 5 (by omega);have z6:wr.cell? ⟨g,k*7+6,none⟩=some x.tv:=hcell 6 (by omega);obtain⟨ea,ec,hev⟩:=aF (yB.2.1.rR x hxm);obtain⟨la,lc,hlv⟩:=aF (yB.2.1.rD x hxm);obtain⟨ta,tc,Tv⟩:=aF (yB.2.1.iX x hxm);rw[hev]at z4;rw[hlv]at z5;rw[Tv]at z6;have HQ:=hid (ae yB KQ);clear yB KQ hcell hfr zc;have K3:Kp (λ_=>False) wr (wr.alloc (.cells #[.int .u8 x.n.name,.int .i64 x.n.kind,.int .i64 x.n.parent,.int .i64 x.n.pos,.slice ea x.n.enter.length ec,.slice la x.n.leave.length lc,.slice ta x.n.trans.length tc] 223)):=(Kp.refl _ _).alloc _;have hb3:=heap_alloc_new wr (.cells #[.int .u8 x.n.name,.int .i64 x.n.kind,.int .i64 x.n.parent,.int .i64 x.n.pos,.slice ea x.n.enter.length ec,.slice la x.n.leave.length lc,.slice ta x.n.trans.length tc] 223)
    go_upto_region 14 with(fail)
    generalize wr.alloc (.cells #[.int .u8 x.n.name,.int .i64 x.n.kind,.int .i64 x.n.parent,.int .i64 x.n.pos,.slice ea x.n.enter.length ec,.slice la x.n.leave.length lc,.slice ta x.n.trans.length tc] 223)=w3 at*;have Ow:=HQ.out.1.ai K3;have E:=hid (iE w3 B cb l _ (k:Int) Ow (by omega));clear Ow z0 z1 z2 z3 z4 z5 z6 zc2
    go_wp2_with fail
    refine bH E ?_;rintro y w4 ⟨u,rfl,hu,K4⟩;obtain⟨ua,uc,rfl⟩:=aF hu;have K34:=K3.trans K4;have hb4:=K4.at_ hb3 (λx=>x);generalize wr.heap.size=nb at*;have Kd:=HQ.out.1.ai K34;have zc4:=Kd.cell
    have c1:w4.cell? ⟨nb,1,none⟩=some (.int .i64 x.n.kind):=by rw[World.cell?,hb4];rfl
    have c2:w4.cell? ⟨nb,2,none⟩=some (.int .i64 x.n.parent):=by rw[World.cell?,hb4];rfl
    have c3:w4.cell? ⟨nb,3,none⟩=some (.int .i64 x.n.pos):=by rw[World.cell?,hb4];rfl
    have hrn:=cU hxk;have KZ:=hid (K2.trans (HQ.out.2.trans K34));have KR:=hid (HQ.out.2.trans K34);have hshape:=hid (λh=>Hi hne HD'.out (k:=k) (by omega) h HM.out);rw[hrn]at hshape
    have hnext:=hid (show uV (Ch.mk l) k=false->∀j,j<k+1->uV (Ch.mk l) j=false from λq j hj=>by
     rcases Nat.lt_or_eq_of_le (Nat.le_of_lt_succ hj)with h|h
     ·exact HM.out j h
     subst h;exact q)
    have sB:=aar hrn;have hup:=HO.out.up k x hx;clear E hu K3 K4 hb3 hb4 HQ
    by_cases hk5:x.n.kind=5
    ·have hkk:x.n.kind=5:=hk5
     obtain⟨p,hp,hpl⟩:=hup (by omega)
     obtain⟨y,hy⟩:∃y,l[p]? =some y:=⟨_,List.getElem?_eq_getElem hpl⟩
     obtain⟨g2,cap2,hv2,_,hcell2,_⟩:=Kd.2.1.form hy;simp only[Value.slice.injEq,Option.some.injEq,Addr.mk.injEq,true_and,and_true]at hv2;obtain⟨rfl,rfl⟩:=hv2;have w1p:w4.cell? ⟨g,p*7+1,none⟩=some (.int .i64 y.n.kind):=hcell2 1 (by omega)
     have hpl':(p:Int)<(l.length:Int):=by omega
     have hry:cS (Ch.mk l) p=y.n:=cU (by unfold Ch.mk;rw[List.getElem?_map,hy];rfl);rw[hkk,hp,Int.toNat_natCast,hry]at sB;rw[hkk]at c1;rw[hp]at c2;have Ty:=hid sB;clear sB hcell2 Kd hup hp hkk hk5
     cases q:y.n.kind==3 with
     |true=>
      have hR:=hid (hshape.out (by rw[Ty.out];simpa using q));go_wp2
      go_quiet (fail)
      go_wp2
      go_quiet (fail)
      go_wp2;go_ret2;rw[hR.out.1,hR.out.2];exact⟨rfl,(KZ.out.drewN _).drewN _⟩
     |false=>?_
     have hN:=hid (hnext.out (by rw[Ty.out];simpa using q));go_wp2
     go_quiet (fail)
     go_wp2
     go_roundw
     case rel=>exact⟨k+1,by go_num,by omega,hN,KR.out.drewN _⟩
     case measure=>simp[intOf];omega
    by_cases hk4:x.n.kind=4
    ·have hkk:x.n.kind=4:=hk4
     obtain⟨p,hp,hpl⟩:=hup (by omega)
     obtain⟨y,hy⟩:∃y,l[p]? =some y:=⟨_,List.getElem?_eq_getElem hpl⟩
     obtain⟨g2,cap2,hv2,_,hcell2,_⟩:=Kd.2.1.form hy;simp only[Value.slice.injEq,Option.some.injEq,Addr.mk.injEq,true_and,and_true]at hv2;obtain⟨rfl,rfl⟩:=hv2;have w1p:w4.cell? ⟨g,p*7+1,none⟩=some (.int .i64 y.n.kind):=hcell2 1 (by omega)
     have hpl':(p:Int)<(l.length:Int):=by omega
     have hry:cS (Ch.mk l) p=y.n:=cU (by unfold Ch.mk;rw[List.getElem?_map,hy];rfl);rw[hkk,hp,Int.toNat_natCast,hry]at sB;rw[hkk]at c1;rw[hp]at c2;have Ty:=hid sB;clear sB hcell2 Kd hup hp hkk hk4
     cases q:y.n.kind==3 with
     |true=>
      have hR:=hid (hshape.out (by rw[Ty.out];simpa using q));go_wp2
      go_quiet (fail)
      go_wp2
      go_quiet (fail)
      go_wp2;go_ret2;rw[hR.out.1,hR.out.2];exact⟨rfl,(KZ.out.drewN _).drewN _⟩
     |false=>?_
     have hN:=hid (hnext.out (by rw[Ty.out];simpa using q));go_wp2
     go_quiet (fail)
     go_wp2
     go_roundw
     case rel=>exact⟨k+1,by go_num,by omega,hN,KR.out.drewN _⟩
     case measure=>simp[intOf];omega
    by_cases hk3:x.n.kind=3
    ·rw[hk3]at sB c1
     have Ty:=hid sB;clear sB Kd hup hk3
     by_cases q:(cE (Ch.mk l) (k:Int)).length=0
     ·have q':((cE (Ch.mk l) (k:Int)).length:Int)=0:=by omega
      have hR:=hid (hshape.out (by rw[Ty.out];simp[q]));clear q;go_wp2
      go_quiet (fail)
      go_wp2;go_ret2;rw[hR.out.1,hR.out.2];exact⟨rfl,KZ.out.drewN _⟩
     have q':(((cE (Ch.mk l) (k:Int)).length:Int)==0)=false:=by simp;intro h;simp[h]at q
     have hN:=hid (hnext.out (by rw[Ty.out];simp at q⊢;exact q));clear q;go_wp2
     go_roundw
     case rel=>exact⟨k+1,by go_num,by omega,hN,KR.out⟩
     case measure=>simp[intOf];omega
    by_cases hk2:x.n.kind=2
    ·rw[hk2]at sB c1
     have Ty:=hid sB;clear sB Kd hup hk2
     by_cases q:(cE (Ch.mk l) (k:Int)).length=0
     ·have q':((cE (Ch.mk l) (k:Int)).length:Int)=0:=by omega
      have hR:=hid (hshape.out (by rw[Ty.out];simp[q]));clear q;go_wp2
      go_quiet (fail)
      go_wp2;go_ret2;rw[hR.out.1,hR.out.2];exact⟨rfl,KZ.out.drewN _⟩
     have q':(((cE (Ch.mk l) (k:Int)).length:Int)==0)=false:=by simp;intro h;simp[h]at q
     have hN:=hid (hnext.out (by rw[Ty.out];simp at q⊢;exact q));clear q;go_wp2
     go_roundw
     case rel=>exact⟨k+1,by go_num,by omega,hN,KR.out⟩
     case measure=>simp[intOf];omega
    have b5:(x.n.kind==5)=false:=by simpa using hk5
    have b4:(x.n.kind==4)=false:=by simpa using hk4
    have b3:(x.n.kind==3)=false:=by simpa using hk3
    have b2:(x.n.kind==2)=false:=by simpa using hk2
    rw[b5,b4,b3,b2]at sB;have Ty:=hid sB;have hN:=hid (hnext.out (by rw[Ty.out];rfl));clear sB Kd hup hk5 hk4 hk3 hk2;go_wp2
    go_roundw
    case rel=>exact⟨k+1,by go_num,by omega,hN,KR.out⟩
    case measure=>simp[intOf];omega
   have afx:¬(k:Int)<(l.length:Int):=by omega
   obtain rfl:k=l.length:=by omega
   have hR:=hid (Hj hne HD'.out (by rw[J_];exact HM.out));obtain⟨C,hC,hCs,hCf⟩:=hS.ai KQ;have EN:=hid (Oq wr B cb l _ C yB (by omega) HO.out.tr hCs (λn hn=>by rw[hCf n hn,Ot J_]));have KZ:=hid (K2.trans KQ);clear zc yB KQ hCf
   go_wp2_with (refine wpList_load_row rfl 294 (.tmp 4) rfl sb rfl 294 C (0,0) _ hC underlying294 (by rfl) (by rw[hCs];exact aas) ?_)
   refine bH EN ?_;rintro y w4 ⟨rfl,K4⟩;go_wp2;go_ret2;rw[hR.out.1,hR.out.2];exact⟨rfl,KZ.out.trans K4⟩
end
end Go.Proofs.YtnlbchmfcebeeaaGreat
