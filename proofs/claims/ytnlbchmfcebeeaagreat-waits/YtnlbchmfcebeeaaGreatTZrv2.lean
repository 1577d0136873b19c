import Derived.Test.YtnlbchmfcebeeaaGreatTZp
set_option maxHeartbeats 12800000
set_option maxRecDepth 100000
namespace Go.Proofs.YtnlbchmfcebeeaaGreat
open Go.Proofs.Tryz Ch
open Go.RowKit
namespace Ch
theorem O0{l:List Bool}{i n:Nat}(hi:i<n)(hl:i<l.length)(hb:∀j,bit l j=true->j<i):(List.range n).filter (bit (l.set i true))=(List.range n).filter (bit l)++[i]:=by
 have e:List.range n=List.range i++(i::List.range' (i+1) (n-(i+1))):=by
  rw[List.range_eq_range',List.range_eq_range',show n=i+(n-i)by omega,<-List.range'_append_1,Nat.zero_add,show n-i=(n-(i+1))+1 by omega,List.range'_succ]
  congr 3
  omega
 have h1:∀j,j≠i->bit (l.set i true) j=bit l j:=λj hj=>by
  unfold bit;simp only[List.getD_eq_getElem?_getD];rw[List.getElem?_set_ne (by omega)]
 have h2:bit (l.set i true) i=true:=by
  unfold bit;simp only[List.getD_eq_getElem?_getD];rw[List.getElem?_set_self hl];rfl
 have h3:bit l i=false:=by
  cases q:bit l i with
  |false=>rfl
  |true=>have:=hb i q;omega
 have t1:(List.range' (i+1) (n-(i+1))).filter (bit (l.set i true))=[]:=by
  rw[List.filter_eq_nil_iff];intro j hj q;simp at hj;rw[h1 j (by omega)]at q;have:=hb j q;omega
 have t2:(List.range' (i+1) (n-(i+1))).filter (bit l)=[]:=by
  rw[List.filter_eq_nil_iff];intro j hj q;simp at hj;have:=hb j q;omega
 have t3:(List.range i).filter (bit (l.set i true))=(List.range i).filter (bit l):=by
  apply List.filter_congr;intro j hj;simp at hj;exact h1 j (by omega)
 rw[e,List.filter_append,List.filter_append,List.filter_cons_of_pos h2,List.filter_cons_of_neg (by rw[h3];simp),t1,t2,t3,List.append_nil]
theorem Un{ss:List St}{t:ByteArray}(hs:ss.length<=16):∀(f k:Nat) (last:Int) (l l':List Bool),zD ss t f k last l=some l'->k+f=t.size->l.length=16-> -1<=last->(∀j,bit l j=true->(j:Int)<=last)->
 ((List.range ss.length).filter (bit l')).map (dN ss)=((List.range ss.length).filter (bit l)).map (dN ss)++(dW t).drop k:=by
 intro f
 induction f with
 |zero=>
  intro k last l l' h hk _ _ _;simp only[zD,Option.some.injEq]at h;subst h;rw[List.drop_eq_nil_of_le (by rw[bz];omega),List.append_nil]
 |succ f ih=>?_
 intro k last l l' h hk hl hla hb;simp only[zD]at h
 split at h
 ·cases h
 rename_i c;obtain⟨i,e,hi,hn⟩:=Bo (ss:=ss) (c:=af t k) (by omega);rw[e]at h c;have hp:pH l (i:Int) true=l.set i true:=rfl;rw[hp]at h
 have hb2:∀j,bit l j=true->j<i:=λj q=>by have:=hb j q;omega
 have:=ih (k+1) i _ l' h (by omega) (by simpa using hl) (by omega) (λj q=>by
  by_cases ej:j=i
  ·omega
  have:bit (l.set i true) j=bit l j:=by
   unfold bit;simp only[List.getD_eq_getElem?_getD];rw[List.getElem?_set_ne (by omega)]
  rw[this]at q;have:=hb2 j q
  omega)
 rw[this,O0 hi (by omega) hb2,List.map_append,List.append_assoc]
 congr 1
 have c':k<t.size:=by omega
 rw[List.drop_eq_getElem_cons (i:=k) (by rw[bz];exact c')];have h4:=kE t k c';rw[List.getElem?_eq_getElem (by rw[bz];exact c')]at h4;simp only[Option.some.injEq]at h4;rw[h4];simp[hn]
theorem aaO{L:List RN}{ol:Ol}(mQ:L.map RN.st=ol.ag)(h16:L.length<=16){a:As}(h:(takeA ol.ag a).1=true):a=aH ol.ag (takeA ol.ag a).2:=by
 have hl:ol.ag.length<=16:=by rw[<-mQ];simpa using h16
 obtain⟨on,hT⟩:=FD mQ h16 h
 have hm:min ol.ag.length 16=ol.ag.length:=by omega
 have hP:dh ol.ag (takeA ol.ag a).2=a.past:=by
  unfold dh;rw[hm];have:ig ol.ag (takeA ol.ag a).2 ol.ag.length=jq ol.ag (takeA ol.ag a).2:=rfl;rw[this,<-hT.past,Al]
 have hA:dV ol.ag (takeA ol.ag a).2=a.act:=by
  unfold dV;rw[hm]
  have key:gN ol.ag (takeA ol.ag a).2 ol.ag.length=dW a.act:=by
   show((List.range ol.ag.length).filter (bit (takeA ol.ag a).2.act)).map (dN ol.ag)=dW a.act;unfold takeA take at h⊢
   split at h
   ·rename_i c1
    rw[if_pos c1]
    split at h
    ·rename_i c2
     rw[if_pos c2]
     split at h
     ·rename_i c3
      rw[if_pos c3];show((List.range ol.ag.length).filter (bit (bT ol.ag a.act).1)).map (dN ol.ag)=dW a.act;unfold bT lG at c1⊢
      cases q:zD ol.ag a.act a.act.size 0 (-1) db with
      |none=>rw[q]at c1;simp at c1
      |some l=>?_
      rw[q]at c1;have hn:=Un hl _ _ _ _ _ q (by omega) rfl (by omega) (λj hj=>by rw[iB]at hj;cases hj)
      have h0:(List.range ol.ag.length).filter (bit db)=[]:=by
       rw[List.filter_eq_nil_iff];intro j _ hj;rw[iB]at hj;cases hj
      rw[h0]at hn
      cases qf:allFit ol.ag l ol.ag.length with
      |true=>simp only[qf,if_true];simpa using hn
      |false=>simp only[qf,Bool.false_eq_true,if_false]at c1
     simp at h
    simp at h
   simp at h
  rw[key,Al]
 unfold aH;rw[hA,hP,hT.tm,hT.x,hT.y,hT.z]
theorem CE{ol:Ol}{s:Sd}{ev:Int}(h:(dy ol s ev).1=true):(aQ ol s ev).2.2=0/\(aQ ol s ev).2.1=(dy ol s ev).2.2/\(dy ol s ev).2.1=aH ol.ag (aQ ol s ev).1:=by
 have e:=xr ol s ev;rw[if_pos h]at e;rw[e];refine⟨rfl,rfl,?_⟩;unfold dy at h⊢
 split
 ·rfl
 rename_i c;rw[if_neg c]at h;cases h
theorem XQ{ol:Ol}{s:Sd}{ev:Int}(h:(dy ol s ev).1=false):(aQ ol s ev).2.2=9:=by
 rw[xr,h];rfl
theorem No.fire{ol:Ol}(hO:Ah ol)(hA:pw ol){a:As}{s:Sd}(h:No ol a s){ev:Int}(hf:(dy ol s ev).1=true):No ol (dy ol s ev).2.1 (aQ ol s ev).1:=by
 have e:=xr ol s ev;rw[if_pos hf]at e
 have e1:(aQ ol s ev).1=(rounds ol 29 (cd ol ⟨s,[],[]⟩ (choose ol s ev))).s:=by rw[e,nU]
 refine⟨(CE hf).2.2,?_,lP h.ok ev,?_⟩
 ·rw[e1];exact lj hO 29 (iC hO (m:=⟨s,[],[]⟩) h.inv ev)
 rw[e1];exact(gG (by omega) ol).rounds hA 29 ((gG (by omega) ol).cd hA (m:=⟨s,[],[]⟩) h.tl _)
theorem Uo{ol:Ol}{f:Nat}{s:Sd}{l:List Int}(h:jx s.tm s.tm.size 0=none):cI ol (f+1) s l=some (s,strOfNums l):=by
 simp only[cI];unfold aZ;rw[h];rfl
theorem Uq{ol:Ol}{f k:Nat}{s:Sd}{l:List Int}(h:jx s.tm s.tm.size 0=some k)(hf:(dy ol {s with tm:=jI s.tm k} (af s.tm k)).1=true):
 cI ol (f+1) s l=cI ol f (aQ ol {s with tm:=jI s.tm k} (af s.tm k)).1 (l++nums (dy ol {s with tm:=jI s.tm k} (af s.tm k)).2.2):=by
 obtain⟨h1,h2,_⟩:=CE hf
 have e:aZ s=(af s.tm k,true,{s with tm:=jI s.tm k}):=by unfold aZ;rw[h];rfl
 simp only[cI];rw[e];simp only[if_true];rw[h1,h2];rfl
theorem Ur{ol:Ol}{f k:Nat}{s:Sd}{l:List Int}(h:jx s.tm s.tm.size 0=some k)(hf:(dy ol {s with tm:=jI s.tm k} (af s.tm k)).1=false):
 cI ol (f+1) s l=cI ol f {s with tm:=jI s.tm k} l:=by
 have h1:=XQ hf
 have e:aZ s=(af s.tm k,true,{s with tm:=jI s.tm k}):=by unfold aZ;rw[h];rfl
 simp only[cI];rw[e];simp only[if_true];rw[h1];rfl
theorem O1(t:ByteArray):wV t 0:=⟨t.size,rfl,by omega⟩
theorem wV.stop{t:ByteArray}{k:Nat}(h:wV t k)(hk:¬k+1<t.size):jx t t.size 0=none:=by
 obtain⟨f,h1,_⟩:=h;rw[h1,IT hk]
end Ch
section
variable (w:World) (B cb:Nat) (l:List NV) (v:Value) (ol:Ol)
theorem Lh(a:As)(s:Sd)(r:Sd×ByteArray)(hF:iG w B cb l v)(hR:Rf l ol)(hW:No ol a s)(h49:Dt 49 s)(hr:cI ol 17 (Ch.tick s) []=some r):
 Calls prog 147 #[.pointer (some ⟨cb,0,none⟩),.agg (aN a)] w λy w'=>y= .returned (.tuple #[.agg (aN (aH ol.ag r.1)),.string r.2])/\Kp (λ_=>False) w w':=by
 obtain⟨da,dE,bq⟩:=fN
 have hat:a.tm=s.tm:=by rw[hW.out];rfl
 have h16:=h49.2
 have hev:s.tm.size % 2=0:=by rw[<-bz];exact Ch.TL.even _ (Nat.le_refl _) h49.1
 have hK0:Kp (λ_=>False) w ((w.alloc (.cells (aN a) 26)).alloc (.cells aD 26)):=((Kp.refl _ _).alloc _).alloc _
 have hs0:((w.alloc (.cells (aN a) 26)).alloc (.cells aD 26)).heap[w.heap.size]? =some (.cells (aN a) 26):=by rw[Below.heap_alloc _ _ _ (by simp)];exact heap_alloc_new _ _
 have hb0:((w.alloc (.cells (aN a) 26)).alloc (.cells aD 26)).heap[w.heap.size+1]? =some (.cells aD 26):=by
  have:=heap_alloc_new (w.alloc (.cells (aN a) 26)) (.cells aD 26);simpa using this
 have HH:=hid (ae hF (ae hW (ae h49 hr)));clear hF hW hr
 go_enter func147,ntmps147
 go_upto_region 1 with(fail)
 generalize (w.alloc (.cells (aN a) 26)).alloc (.cells aD 26)=w0 at*;generalize Zt:w.heap.size+1=rb at*;generalize acA:w.heap.size=sb at*;generalize XR:s.tm=tm at*
 go_wp2_with fail
 go_loopw [6,7] (λtv kv wr=>∃(k:Nat) (acc:List Int),tv= .string (strOfNums acc)/\kv= .int .i64 k/\k<=tm.size/\k % 2=0/\acc.length<=k/\Hid (acc++rF ((dW tm).drop k)=rF (dW tm))/\Kp (λ_=>False) w0 wr) (λ_ kv _=>tm.size-(intOf kv).toNat)
 case atStart=>exact⟨0,[],rfl,rfl,Nat.zero_le _,rfl,Nat.le_refl _,hid rfl,Kp.refl _ _⟩
 case round=>
  obtain⟨k,acc,rfl,rfl,hk,hke,hacc,HE,KW⟩:=hrel;have xK:=KW.at_ hs0 (λx=>x)
  have c2:wr.cell? ⟨sb,2,none⟩=some (.string tm):=by rw[World.cell?,xK,<-hat];rfl
  by_cases hlt:k+1<tm.size
  ·have hlt':(k:Int)+1<(tm.size:Int):=by omega
   have hk0:k<tm.size:=by omega
   have hk0':(k:Int)<(tm.size:Int):=by omega
   have htn:((k:Int)+1).toNat=k+1:=by omega
   have hnn:(0:Int)<=(k:Int)+1:=by omega
   have p0:af tm k=((tm[k]'hk0).toNat:Int):=by simp[af,hk0]
   have p1:af tm (k+1)=((tm[k+1]'hlt).toNat:Int):=by simp[af,hlt]
   have hd:=g_ hlt;have hT:=Ch.TL.drop2 (k/2) (by have:=HH.out.2.2.1.1;rw[XR]at this;exact this);rw[show 2*(k/2)=k by omega,hd]at hT;have h1:49<=af tm (k+1)/\af tm (k+1)<=57:=hT.1.2;rw[p1]at h1
   have HG:=hid (show(acc++[((tm[k]'hk0).toNat:Int),((tm[k+1]'hlt).toNat:Int)-1])++rF ((dW tm).drop (k+2))=rF (dW tm)by
    rw[<-HE.out,hd,p0,p1];simp[rF])
   clear hT hd p0 p1 HE;generalize hc0:((tm[k]'hk0).toNat:Int)=c0 at*;generalize hc1:((tm[k+1]'hlt).toNat:Int)=c1 at*;have hwu:IntKind.u8.wrap (c1-1)=c1-1:=AL (by omega);have Zj:IntKind.i64.wrap ((k:Int)+1)=(k:Int)+1:=eU (by omega)
   have hcv:=run_convert_bytes_arg (P:=prog) ((wr.alloc (.cells #[.int .u8 c0,.int .u8 (c1-1)] 5)).drew) 47 5 underlying47 underlying5 wr.heap.size 0 2 2 [c0,c1-1] rfl (by
    intro i hi
    match i,hi with
    |0,_=>simp
    |1,_=>simp) 9 underlying9
   replace hcv:Sem.run prog (convert 47 9 (.slice (some ⟨wr.heap.size,0,none⟩) 2 2)) (wr.drew.alloc (.cells #[.int .u8 c0,.int .u8 (c1-1)] 5))= .ok (.string (strOfNums [c0,c1-1])) (wr.drew.alloc (.cells #[.int .u8 c0,.int .u8 (c1-1)] 5)):=hcv
   have hadd:=λw'=>run_string_add_sum (P:=prog) w' (strOfNums acc) (strOfNums [c0,c1-1]) (by rw[strOfNums_size,strOfNums_size];simp;omega)
   have hS0:wr.drew.cell? ⟨sb,2,none⟩=some (.string tm):=c2;have hS1:(wr.drew.alloc (.cells #[.int .u8 c0,.int .u8 (c1-1)] 5)).cell? ⟨sb,2,none⟩=some (.string tm):=((Kp.refl (λ_=>False) wr.drew).alloc _).bj c2;have HK:=hid (KW.drew.alloc (.cells #[.int .u8 c0,.int .u8 (c1-1)] 5));clear KW xK
   go_upto_region 5 with(fail)
   refine az (λw'=>w'.cell? ⟨sb,2,none⟩=some (.string tm)) (by kernel_rfl) ?_;refine aU 0 22 (.string (strOfNums acc)) hS0 ?_;refine aU 1 23 (.pointer (some ⟨sb,2,none⟩)) hS0 ?_;refine dM 2 24 (.string tm) rfl (λw' hS=>by simp[execOp,Act.eval,go_sem,hS]) hS0 ?_;refine aU 3 25 (.int .i64 (k:Int)) hS0 ?_;refine dM 4 26 (.int .u8 c0) rfl (λw' _=>by simp[execOp,Act.eval,go_sem,hk0',hc0]) hS0 ?_;refine aU 5 27 (.pointer (some ⟨sb,2,none⟩)) hS0 ?_;refine dM 6 28 (.string tm) rfl (λw' hS=>by simp[execOp,Act.eval,go_sem,hS]) hS0 ?_;refine aU 7 29 (.int .i64 (k:Int)) hS0 ?_;refine dM 8 30 (.int .i64 ((k:Int)+1)) rfl (λw' _=>by simp[execOp,Act.eval,go_sem,Zj]) hS0 ?_;refine dM 9 31 (.int .u8 c1) rfl (λw' _=>by simp[execOp,Act.eval,go_sem,hlt',hc1,hnn,htn]) hS0 ?_;refine dM 10 32 (.int .u8 (c1-1)) rfl (λw' _=>by simp[execOp,Act.eval,go_sem,hwu]) hS0 ?_;refine jD 11 ?_;refine BB (some 33) rfl (.slice (some ⟨wr.heap.size,0,none⟩) 2 2) (wr.drew.alloc (.cells #[.int .u8 c0,.int .u8 (c1-1)] 5)) (by simp[execOp,Act.eval,go_sem]) ?_;simp only[Act.put,pA,pB,pC];refine⟨hS1,?_⟩;refine jD 12 ?_;refine BB (some 34) rfl (.string (strOfNums [c0,c1-1])) (wr.drew.alloc (.cells #[.int .u8 c0,.int .u8 (c1-1)] 5)) (by simp[execOp,Act.eval,hcv]) ?_;simp only[Act.put,pA,pB,pC];refine⟨hS1,?_⟩
   refine dM 13 35 (.string (strOfNums acc++strOfNums [c0,c1-1])) rfl (λw' _=>by simp[execOp,Act.eval,go_sem,hadd]) hS1 ?_;refine aU 14 6 (.string (strOfNums acc++strOfNums [c0,c1-1])) hS1 ?_;refine wpAnyH_done (by kernel_rfl) (NoPanic.normal ?_) _;generalize wr.drew.alloc (.cells #[.int .u8 c0,.int .u8 (c1-1)] 5)=wz at*;rw[<-jn];clear hcv hadd hS0 hS1 c2;go_wp2
   go_roundw
   case rel=>exact⟨k+2,_,rfl,by go_num,by omega,by omega,by simp;omega,HG,HK.out⟩
   case measure=>simp[intOf];omega
  have hge:¬(k:Int)+1<(tm.size:Int):=by omega
  have hkk:k=tm.size:=by omega
  have HT:=hid (show strOfNums acc=(Ch.tick s).tm by
   have h1:=HE.out;rw[List.drop_eq_nil_of_le (by rw[bz];omega)]at h1;have h2:=JC HH.out.2.2.1;rw[XR,<-h1]at h2;apply Ak;rw[h2];have hb:=(GQ _ (Nat.le_refl _) (by have:=HH.out.2.2.1.1;rw[XR]at this;exact this:Ch.TL 49 (dW tm))).2.2;rw[<-h1]at hb;simp only[rF,List.append_nil]at hb⊢
   exact iO hb)
  have hW1:No ol {a with tm:=(Ch.tick s).tm} (Ch.tick s):=⟨by rw[HH.out.2.1.out];rfl,HH.out.2.1.inv.same ⟨rfl,rfl⟩,wG HH.out.2.1.ok,GR HH.out.2.2.1⟩
  have f2:wr.frozen? ⟨sb,2,none⟩=false:=by simp[World.frozen?,xK]
  have hb1:=KW.at_ hb0 (λx=>x)
  have hz:(wr.setCell ⟨sb,2,none⟩ (.string (Ch.tick s).tm)).heap[sb]? =some (.cells (aN {a with tm:=(Ch.tick s).tm}) 26 (0,0)):=by rw[ah _ xK];rfl
  have Kz:Kp (λi=>i=sb) w0 (wr.setCell ⟨sb,2,none⟩ (.string (Ch.tick s).tm)):=(KW.mono (λ_ _ x=>x.elim)).setCell (by intro _;rfl) _;have HZ:=hid (ae hW1 (ae HH.out.2.2.2 (ae hz Kz)));have HF:=hid HH.out.1;have hres:=HT.out;clear HE hW1 hz Kz HH hkk HT KW xK;generalize strOfNums acc=T at*;subst hres;clear XR;generalize Ch.tick s=s1 at*
  go_upto_region 7 with(fail)
  clear hat hev h16;generalize wr.setCell ⟨sb,2,none⟩ (.string s1.tm)=w1 at*;clear c2 f2
  go_wp2_with fail
  go_loopg [8,9] 400 (λf ov kv wr=>∃(k nf:Nat) (a':As) (s':Sd) (lo:List Int),ov= .string (strOfNums lo)/\kv= .int .i64 k/\k % 2=0/\k<=18/\nf<=17/\nf*20+(20-k)<=f/\lo.length+117000000*nf<=1989000000/\Hid (No ol a' s'/\cI ol nf s' lo=some r/\wV s'.tm k/\wr.heap[sb]? =some (.cells (aN a') 26 (0,0))/\Kp (λi=>i=sb) w0 wr))
  case atStart=>exact⟨0,17,_,s1,[],rfl,rfl,rfl,by omega,by omega,by omega,by simp,hid ⟨HZ.out.1,HZ.out.2.1,O1 _,HZ.out.2.2.1,HZ.out.2.2.2⟩⟩
  case round=>
   obtain⟨k,nf,a',s',lo,rfl,rfl,hke,apW,hnf,hf,hlo,HI⟩:=hrel
   obtain⟨f,rfl⟩:∃f,gk=f+1:=⟨gk-1,by omega⟩
   obtain⟨hW,hwt,hnd,xK,KW⟩:=HI.out;have h16:=hW.tl.2
   have hat:a'.tm=s'.tm:=by rw[hW.out];rfl
   have c2:wr.cell? ⟨sb,2,none⟩=some (.string s'.tm):=by rw[World.cell?,xK,<-hat];rfl
   have f2:wr.frozen? ⟨sb,2,none⟩=false:=by simp[World.frozen?,xK]
   generalize XR:s'.tm=tm at*
   by_cases hlt:k+1<tm.size
   ·have hlt':(k:Int)+1<(tm.size:Int):=by omega
    have hk0:k<tm.size:=by omega
    have hk0':(k:Int)<(tm.size:Int):=by omega
    have htn:((k:Int)+1).toNat=k+1:=by omega
    have hnn:(0:Int)<=(k:Int)+1:=by omega
    have p0:af tm k=((tm[k]'hk0).toNat:Int):=by simp[af,hk0]
    have p1:af tm (k+1)=((tm[k+1]'hlt).toNat:Int):=by simp[af,hlt]
    cases q:(((tm[k+1]'hlt).toNat:Int)!=48)with
    |true=>
     have HN:=hid (hnd.next hlt (by rw[p1];exact q));have HJ:=hid (ae hW (ae hwt (ae xK KW)));clear hW hwt hnd xK KW HI p0 p1 hat;go_wp2
     go_roundg f
     case measure=>omega
     case rel=>exact⟨k+2,nf,a',s',lo,rfl,by go_num,by omega,by omega,by omega,by omega,hlo,hid ⟨HJ.out.1,HJ.out.2.1,by rw[XR];exact HN.out,HJ.out.2.2.1,HJ.out.2.2.2⟩⟩
    |false=>?_
    have aaP:=hnd.hit hlt (by rw[p1];exact q)
    obtain⟨nf',rfl⟩:∃nf',nf=nf'+1:=by
     cases nf with
     |zero=>simp[cI]at hwt
     |succ n=>exact⟨n,rfl⟩
    rw[<-XR]at aaP;have hW2:=hW.due (k:=k) hke (by rw[XR];exact hlt);have hok:=Uq (ol:=ol) (f:=nf') (l:=lo) aaP;have hno:=Ur (ol:=ol) (f:=nf') (l:=lo) aaP;rw[XR,p0]at hok hno;rw[XR]at hW2;obtain⟨on,hTk⟩:=hW2.tk (L:=Ch.mk l) (by have:=hR.ag;unfold Ch.ag at this;exact this) hR.iP hR.YW;have hfs:=jW hR.ok {s' with tm:=jI tm k} ((tm[k]'hk0).toNat:Int);have hfo:=CE (ol:=ol) (s:={s' with tm:=jI tm k}) (ev:=((tm[k]'hk0).toNat:Int));have hfw:=hW2.fire hR.iP hR.uX (ev:=((tm[k]'hk0).toNat:Int))
    have hz:((wr.drew).setCell ⟨sb,2,none⟩ (.string (jI tm k))).heap[sb]? =some (.cells (aN {a' with tm:=jI tm k}) 26 (0,0)):=by rw[ah _ (show wr.drew.heap[sb]? =_ from xK)];rfl
    have Kz:Kp (λi=>i=sb) w0 ((wr.drew).setCell ⟨sb,2,none⟩ (.string (jI tm k))):=KW.drew.setCell (by intro _;rfl) _;have HJ:=hid (ae hwt (ae hz (ae Kz (ae hTk (ae hok (ae hno (ae hfo (ae hfw hW2))))))));clear hW hwt hnd xK KW HI p0 p1 hat aaP hok hno hW2 hTk hfo hfw hz Kz;generalize hc0:((tm[k]'hk0).toNat:Int)=c0 at*
    have hkl:(k:Int)<=(tm.size:Int):=by omega
    have hkt:((k:Int)).toNat=k:=by omega
    have hk2:(k:Int)+2<=(tm.size:Int):=by omega
    have aku:((k:Int)+2).toNat=k+2:=by omega
    have hkn2:(0:Int)<=(k:Int)+2:=by omega
    have hw2:IntKind.i64.wrap ((k:Int)+2)=(k:Int)+2:=eU (by omega)
    have hadd:∀w',Sem.run prog (Op.stringOp BinOp.add (tm.extract 0 k) (tm.extract (k+2) tm.size)) w'= .ok (.string (jI tm k)) w':=λw'=>run_string_add_sum (P:=prog) w' (tm.extract 0 k) (tm.extract (k+2) tm.size) (by simp;omega)
    have hS0:wr.drew.cell? ⟨sb,2,none⟩=some (.string tm):=c2
    have hS1:((wr.drew).setCell ⟨sb,2,none⟩ (.string (jI tm k))).cell? ⟨sb,2,none⟩=some (.string (jI tm k)):=by rw[World.cell?,HJ.out.2.1];rfl
    go_upto_region 13 with(fail)
    go_region
    have HJ2:=hid (show((wr.setCell ⟨sb,2,none⟩ (.string (jI tm k))).drew).heap[sb]? =some (.cells (aN {a' with tm:=jI tm k}) 26 (0,0))/\Kp (λi=>i=sb) w0 ((wr.setCell ⟨sb,2,none⟩ (.string (jI tm k))).drew)from⟨HJ.out.2.1,HJ.out.2.2.1⟩);clear hS0 hS1 hadd c2 f2 hkl hkt hk2 aku hkn2 hw2 hc0;generalize (wr.setCell ⟨sb,2,none⟩ (.string (jI tm k))).drew=w5 at*;obtain⟨hs5,K5⟩:=HJ2.out;have hWn:=HJ.out.2.2.2.2.2.2.2.2;have Vh:iG w5 B cb l v:=HF.out.ai (hK0.trans' K5 (λi hi e=>by omega));have E:=hid (CD w5 B cb l v ol {a' with tm:=jI tm k} c0 {s' with tm:=jI tm k} on Vh hR (hWn.sm hR.iP) HJ.out.2.2.2.1 hWn.inv hWn.ok);have hb5:=K5.at_ hb0 (by omega);have hwt:=HJ.out.1;have hok:=HJ.out.2.2.2.2.1;have hno:=HJ.out.2.2.2.2.2.1;have hfo:=HJ.out.2.2.2.2.2.2.1;have hfw:=HJ.out.2.2.2.2.2.2.2.1;have aI:(prog.info? 26).map (·.size)=some (aN {a' with tm:=jI tm k}).size:=aP;generalize hfd:dy ol {s' with tm:=jI tm k} c0=fd at*;clear hfd;obtain⟨fe,fs,ft⟩:=fd;simp only at E hok hno hfo hfw;have fO:=bZ fs;have fI:(prog.info? 26).map (·.size)=some (aN fs).size:=aP;have fS:(aN fs).size=6:=rfl;have HL:=hid (ae hwt (ae hok (ae hno (ae hfo (ae hfw hWn)))));clear hwt hok hno hfo hfw hWn HJ HJ2 Vh;generalize hA5:aN {a' with tm:=jI tm k}=A5 at*;generalize yT:aN fs=FA at*;have HA:=hid (ae hA5 yT);clear hA5 yT
    go_wp2_with (refine wpList_load_row rfl 26 (.tmp 3) rfl sb rfl 26 A5 (0,0) da hs5 dE (by cases da<;>first|rfl|exact absurd bq (by simp[ak])) aI ?_)
    refine hm E ?_;rintro y w6 ⟨rfl,K6⟩;have hs6:=K6.at_ hs5 (λx=>x);have KV:Kp (λi=>i=sb) w0 w6:=K5.trans' K6 (λ_ _ x=>x.elim);have hnew:=heap_alloc_new w6 (.cells aD 26);have Kn:Kp (λ_=>False) w6 ((w6.alloc (.cells aD 26)).setRow w6.heap.size FA):=((Kp.refl _ _).alloc _).setRow (λx=>by omega) _;have hrow:=setRow_heap (w6.alloc (.cells aD 26)) w6.heap.size aD FA 26 (0,0) hnew;have hs7:=Kn.at_ hs6 (λx=>x);have KV7:=KV.trans' Kn (λ_ _ x=>x.elim);clear E K5 K6 hs5 hs6 KV Kn
    go_upto_region 15 with(refine wpList_store_row rfl 26 (.tmp 11) (.tmp 72) rfl w6.heap.size FA rfl rfl 26 aD hnew fI fS.symm fO ?_)
    generalize (w6.alloc (.cells aD 26)).setRow w6.heap.size FA=w7 at*;clear hnew;generalize w6.heap.size=fb at*
    cases fe with
    |false=>
     have HN:=hid (HL.out.1.symm.trans (HL.out.2.2.1 rfl));have HM:=hid (ae HL.out.2.2.2.2.2 (ae (show w7.heap[sb]? =some (.cells (aN {a' with tm:=jI tm k}) 26 (0,0))by rw[HA.out.1];exact hs7) KV7));clear HL hs7 KV7 hrow;go_wp2
     go_roundg f
     case measure=>omega
     case rel=>exact⟨0,nf',_,_,lo,rfl,rfl,rfl,by omega,by omega,by omega,by omega,hid ⟨HM.out.1,HN.out.symm,O1 _,HM.out.2.1,HM.out.2.2⟩⟩
    |true=>?_
    have HN:=hid (HL.out.1.symm.trans (HL.out.2.1 rfl));have hfo:=HL.out.2.2.2.1 rfl;have hfw:=HL.out.2.2.2.2.1 rfl
    have hft:ft.size<=117000000:=by rw[<-hfo.2.1];exact hfs
    have hls:(strOfNums lo).size<=1989000000:=by rw[strOfNums_size];omega
    have hK8:Kp (λi=>i=sb) w0 (w7.setRow sb FA):=KV7.setRow (λ_=>rfl) _;have hs8:=setRow_heap w7 sb A5 FA 26 (0,0) hs7;have hnl:(nums ft).length=ft.size:=wE ft;have HO:=hid (show strOfNums lo++ft=strOfNums (lo++nums ft)by rw[jn];congr 1;exact(Al ft).symm);have HM:=hid (ae hfw (ae (show(w7.setRow sb FA).heap[sb]? =some (.cells (aN fs) 26 (0,0))by rw[HA.out.2];exact hs8) hK8))
    have aS5:A5.size=FA.size:=by rw[<-HA.out.1,fS];rfl
    clear HL hfo hfw hK8 hs8
    go_wp2_with (first|refine wpList_load_row rfl 26 (.tmp 11) rfl fb rfl 26 FA (0,0) da hrow dE (by cases da<;>first|rfl|exact absurd bq (by simp[ak])) fI ?_|refine wpList_store_row rfl 26 (.tmp 3) (.tmp 76) rfl sb FA rfl rfl 26 A5 hs7 fI aS5 fO ?_)
    generalize w7.setRow sb FA=w8 at*;rw[HO.out]
    go_roundg f
    case measure=>omega
    case rel=>exact⟨0,nf',_,_,lo++nums ft,rfl,rfl,rfl,by omega,by omega,by omega,by rw[List.length_append,hnl];omega,hid ⟨HM.out.1,HN.out.symm,O1 _,HM.out.2.1,HM.out.2.2⟩⟩
   have hge:¬(k:Int)+1<(tm.size:Int):=by omega
   have hr2:=Uo (ol:=ol) (f:=nf-1) (l:=lo) (by rw[XR];exact hnd.stop hlt:jx s'.tm s'.tm.size 0=none)
   have apY:nf≠0:=λe=>by rw[e]at hwt;simp[cI]at hwt
   rw[show nf-1+1=nf by omega,hwt]at hr2
   obtain rfl:r=(s',strOfNums lo):=by simpa using hr2
   have hb5:=KW.at_ hb0 (by omega);have aO:=bZ a';have aI:(prog.info? 26).map (·.size)=some (aN a').size:=aP;have aS:(aN a').size=6:=rfl;have KF:Kp (λ_=>False) w (wr.setRow rb (aN a')):=(hK0.trans' KW (λi hi e=>by omega)).setRow (λx=>by omega) _;have hout:=hW.out;clear hr2 hwt hnd HI KW hW;generalize kQ:aN a'=AA at*;have Iz:=hid (ae kQ hout);clear kQ hout
   go_wp2_with (first|refine wpList_load_row rfl 26 (.tmp 3) rfl sb rfl 26 AA (0,0) da xK dE (by cases da<;>first|rfl|exact absurd bq (by simp[ak])) aI ?_|refine wpList_store_row rfl 26 (.tmp 4) (.tmp 80) rfl rb AA rfl rfl 26 aD hb5 aI aS.symm aO ?_)
   refine bodyPost_ret (results_cell_tmp rfl _ _ rb 26 AA (0,0) da rfl (setRow_heap _ _ _ _ _ _ hb5) dE bq aI) rfl ?_;refine⟨?_,KF⟩;show _=Ending.returned (.tuple #[.agg (aN (aH ol.ag s')),.string (strOfNums lo)]);rw[<-Iz.out.2,Iz.out.1];rfl
end
section
variable (w:World)
theorem Ut(t:ByteArray)(a:As)(ha:a.Sm):
 Calls prog 101 #[.string t,.agg (aN a)] w λx w'=>x= .returned (.tuple #[.agg (aN (gV 17 t a).1),.string (gV 17 t a).2.1,.int .i64 (gV 17 t a).2.2])/\Kp (λ_=>False) w w':=by
 obtain⟨da,dE,bq⟩:=fN;have K0:Kp (λ_=>False) w ((w.alloc (.cells (aN a) 26)).alloc (.cells aD 26)):=((Kp.refl _ _).alloc _).alloc _
 have hs0:((w.alloc (.cells (aN a) 26)).alloc (.cells aD 26)).heap[w.heap.size]? =some (.cells (aN a) 26):=by rw[Below.heap_alloc _ _ _ (by simp)];exact heap_alloc_new _ _
 have hb0:((w.alloc (.cells (aN a) 26)).alloc (.cells aD 26)).heap[w.heap.size+1]? =some (.cells aD 26):=by
  have:=heap_alloc_new (w.alloc (.cells (aN a) 26)) (.cells aD 26);simpa using this
 have HE:=hid (λh0 L hN=>Hu (t:=t) (L:=L) h0 hN a);have XN:=hid (show(Ch.read t).1≠0->kP t a=(Ch.read t).1 from λh=>by unfold kP;rw[if_pos (by simpa using h)]);have HU1:=hid (show kP t a≠0->gV 17 t a=(dX,(⟨#[]⟩:ByteArray),kP t a)from λh=>by unfold gV;rw[if_pos (by simpa using h)]);have YU:=hid (show kP t a=0->∀r,cI (Ch.read t).2.2 17 (Ch.tick (mj t a)) []=some r->gV 17 t a=(aH (Ch.read t).2.2.ag r.1,r.2,0)from λh r e=>by unfold gV;rw[if_neg (by simp[h]),e]);have aI:(prog.info? 26).map (·.size)=some (aN a).size:=aP
 go_enter func101,ntmps101
 go_upto_region 1 with(fail)
 generalize (w.alloc (.cells (aN a) 26)).alloc (.cells aD 26)=w0 at*;generalize Zt:w.heap.size+1=rb at*;generalize acA:w.heap.size=ob at*;have E0:=hid (nh w0 t)
 go_wp2_with fail
 refine hm E0 ?_;rintro x w2 ⟨p,rfl,hq1,hq2,K2⟩;have hs2:=K2.at_ hs0 (λx=>x);have hrb:=K2.at_ hb0 (λx=>x);have KW:=K0.trans K2;clear E0 hs0 hb0 K0 K2
 cases q1:(Ch.read t).1 !=0 with
 |true=>
  have hne:(Ch.read t).1≠0:=by simpa using q1
  have HF:=hid (show gV 17 t a=(dX,(⟨#[]⟩:ByteArray),(Ch.read t).1)by rw[HU1.out (by rw[XN.out hne];exact hne),XN.out hne]);have KF:Kp (λ_=>False) w (w2.setRow rb aD):=KW.setRow (λx=>by omega) _;clear hq1 hq2 HE XN HU1 YU KW hne;generalize (Ch.read t).1=re at*;generalize (Ch.read t).2.1=rp at*
  go_wp2_with (refine wpList_store_row rfl 26 (.tmp 4) (.tmp 21) rfl rb aD rfl rfl 26 aD hrb aP rfl (bZ dX) ?_)
  refine bodyPost_ret (aq rfl _ _ rb 26 aD (0,0) da rfl (setRow_heap _ _ _ _ _ _ hrb) dE bq aP) rfl ?_;rw[HF.out];exact⟨rfl,KF⟩
 |false=>?_
 have h0:(Ch.read t).1=0:=by simpa using q1
 obtain⟨cb,l,v,rfl,hF,hN,hbd,hT⟩:=hq2 h0;have hR:=Ao h0 hN hT;have hRE:=HE.out h0 _ hN
 have E2:=hid (tT w2 w0.heap.size cb l v a hF (by have:=hbd.1;omega) ha (λi x hx=>by
  have:=hN.wf i x.n (by unfold Ch.mk;rw[List.getElem?_map,hx];rfl)
  exact⟨this.1,this.2.1⟩))
 have HX:=hid (ae hF (ae hR KW));clear hq1 hq2 hN hbd hT HE XN KW hF;generalize nR (Ch.mk l) a.act a.past a.tm a.x a.y a.z=lr at*;have Vm:=hid hRE;clear hRE h0;generalize kQ:aN a=AA at*;have Iz:=hid kQ;clear kQ;generalize hre:(Ch.read t).1=re at*;clear hre;generalize (Ch.read t).2.1=rp at*
 go_wp2_with (refine wpList_load_row rfl 26 (.tmp 3) rfl ob rfl 26 AA (0,0) da hs2 dE (by cases da<;>first|rfl|exact absurd bq (by simp[ak])) aI ?_)
 refine hm E2 ?_;rintro y w3 ⟨rfl,K3⟩;have hs3:=K3.at_ hs2 (λx=>x);have sE:=K3.at_ hrb (λx=>x);have sf:=hid (ae (HX.out.1.ai K3) (ae HX.out.2.1 (HX.out.2.2.trans K3)));clear E2 K3 hs2 hrb HX
 cases lr with
 |false=>
  have HF:=hid (show gV 17 t a=(dX,(⟨#[]⟩:ByteArray),(7:Int))by rw[HU1.out (by rw[Vm.out];simp),Vm.out];rfl);have KF:Kp (λ_=>False) w (w3.setRow rb aD):=sf.out.2.2.setRow (λx=>by omega) _;clear HU1 YU sf Vm
  go_wp2_with (refine wpList_store_row rfl 26 (.tmp 4) (.tmp 28) rfl rb aD rfl rfl 26 aD sE aP rfl (bZ dX) ?_)
  refine bodyPost_ret (aq rfl _ _ rb 26 aD (0,0) da rfl (setRow_heap _ _ _ _ _ _ sE) dE bq aP) rfl ?_;rw[HF.out];exact⟨rfl,KF⟩
 |true=>?_
 have hl0:kP t a=0:=Vm.out;obtain⟨hls,htk⟩:=Bn hl0;have hR:=sf.out.2.1
 have mQ:(Ch.mk l).map RN.st=(Ch.read t).2.2.ag:=by have:=hR.ag;unfold Ch.ag at this;exact this
 have h16:(Ch.mk l).length<=16:=by rw[cP];exact hR.le
 have hout:=aaO mQ h16 htk;have hIn:Ch.Inv (Ch.read t).2.2 (takeA (Ch.read t).2.2.ag a).2:=Kg hR.iP htk;have hOk:(takeA (Ch.read t).2.2.ag a).2.Ok:=wB;have h49:=We hl0;rw[<-hls]at hout hIn hOk
 have hWt:No (Ch.read t).2.2 a (mj t a):=⟨hout,hIn,hOk,⟨Ch.TL.mono (by omega) _ (Nat.le_refl _) h49.1,h49.2⟩⟩
 obtain⟨r,hr⟩:=Option.isSome_iff_exists.1 (yv hl0);have HF:=hid (YU.out hl0 r hr);have E3:=Lh w3 w0.heap.size cb l v (Ch.read t).2.2 a (mj t a) r sf.out.1 hR hWt h49 hr;rw[Iz.out]at E3;have E4:=hid E3;have HK:=hid sf.out.2.2;clear hl0 hls htk hR mQ h16 hout hIn hOk h49 hWt hr E3 sf HU1 YU Vm;generalize aH (Ch.read t).2.2.ag r.1=fs at*;have fO:=bZ fs;have fI:(prog.info? 26).map (·.size)=some (aN fs).size:=aP;have fS:(aN fs).size=6:=rfl;generalize yT:aN fs=FA at*;have Iy:=hid yT;clear yT
 go_wp2_with (refine wpList_load_row rfl 26 (.tmp 3) rfl ob rfl 26 AA (0,0) da hs3 dE (by cases da<;>first|rfl|exact absurd bq (by simp[ak])) aI ?_)
 refine hm E4 ?_;rintro y w4 ⟨rfl,K4⟩;have OU:=K4.at_ sE (λx=>x);have hnew:=heap_alloc_new w4 (.cells aD 26);have Kn:Kp (λ_=>False) w4 ((w4.alloc (.cells aD 26)).setRow w4.heap.size FA):=((Kp.refl _ _).alloc _).setRow (λx=>by omega) _;have hrow:=setRow_heap (w4.alloc (.cells aD 26)) w4.heap.size aD FA 26 (0,0) hnew;have OZ:=Kn.at_ OU (λx=>x);have KD:=(HK.out.trans K4).trans Kn;clear E4 K4 Kn hs3 sE OU HK
 go_upto_region 8 with(refine wpList_store_row rfl 26 (.tmp 11) (.tmp 33) rfl w4.heap.size FA rfl rfl 26 aD hnew fI fS.symm fO ?_)
 generalize (w4.alloc (.cells aD 26)).setRow w4.heap.size FA=w5 at*;clear hnew;generalize w4.heap.size=fb at*;have KF:Kp (λ_=>False) w (w5.setRow rb FA):=KD.setRow (λx=>by omega) _;clear KD
 go_wp2_with (first|refine wpList_load_row rfl 26 (.tmp 11) rfl fb rfl 26 FA (0,0) da hrow dE (by cases da<;>first|rfl|exact absurd bq (by simp[ak])) fI ?_|refine wpList_store_row rfl 26 (.tmp 4) (.tmp 35) rfl rb FA rfl rfl 26 aD OZ fI fS.symm fO ?_)
 refine bodyPost_ret (aq rfl _ _ rb 26 FA (0,0) da rfl (setRow_heap _ _ _ _ _ _ OZ) dE bq fI) rfl ?_;rw[HF.out];exact⟨by rw[<-Iy.out];rfl,KF⟩
end
end Go.Proofs.YtnlbchmfcebeeaaGreat
