import Derived.Test.YtnlbchmfcebeeaaGreatTZj
set_option maxHeartbeats 12800000
set_option maxRecDepth 100000
namespace Go.Proofs.YtnlbchmfcebeeaaGreat
open Go.Proofs.Tryz Ch
open Go.RowKit
section
variable {P:Program} {a:Act} {w:World} {Q:Exit->Act->World->Prop}
theorem tQ(l:Array Bool)(i j:Nat):(l.setIfInBounds j true).setIfInBounds i true=(l.setIfInBounds i true).setIfInBounds j true:=by
 apply Array.ext_getElem?;intro k;simp only[Array.getElem?_setIfInBounds,Array.size_setIfInBounds]
 by_cases e:i=k<;>by_cases e':j=k<;>simp[e,e']<;>omega
theorem yJ(a:Act){x y:Tmp}(u v:Value)(h:x≠y):(a.put (some y) u).put (some x) v=(a.put (some x) v).put (some y) u:=
 (Act.put_comm a (x:=some x) (y:=some y) v u (λ_ hd hd'=>h ((Option.some.inj hd).trans (Option.some.inj hd').symm))).symm
theorem adI{S:World->Prop}{ops:Array Oper}(i j c:Nat){oi oj oc:Oper}{fuel:Nat}{listed:Array Bool}(di dj dc:Tmp)(v u x:Value)(w':World)(hdj:di≠dj)(hdc:di≠dc)
 (hr:Region.ready .any ops listed=[i,j]) (hr1:Region.ready .any ops (listed.setIfInBounds i true)=[j]) (hr2:Region.ready .any ops (listed.setIfInBounds j true)=[i,c]) (hr3:Region.ready .any ops ((listed.setIfInBounds i true).setIfInBounds j true)=[c]) (hr4:Region.ready .any ops ((listed.setIfInBounds j true).setIfInBounds c true)=[i])
 (hi:ops[i]? =some oi) (hj:ops[j]? =some oj) (hc:ops[c]? =some oc) (hgi:oi.guard=none) (hgj:oj.guard=none) (hgc:oc.guard=none) (hdi:oi.dst=some di) (agw:oj.dst=some dj) (adJ:oc.dst=some dc)
 (r1:(execOp a.eval oi).run P w= .ok (.value v) w) (r2:(execOp (a.put (some di) v).eval oj).run P w= .ok (.value u) w') (r3:(execOp a.eval oj).run P w= .ok (.value u) w') (r4:(execOp (a.put (some dj) u).eval oi).run P w'= .ok (.value v) w')
 (r5:(execOp ((a.put (some di) v).put (some dj) u).eval oc).run P w'= .ok (.value x) w') (r6:(execOp (a.put (some dj) u).eval oc).run P w'= .ok (.value x) w') (r7:(execOp ((a.put (some dj) u).put (some dc) x).eval oi).run P w'= .ok (.value v) w')
 (hS:S w) (hS':S w') (h:wpAnyH P .any ops (NoPanic Q) S fuel (((listed.setIfInBounds i true).setIfInBounds j true).setIfInBounds c true) (((a.put (some di) v).put (some dj) u).put (some dc) x) w'):wpAnyH P .any ops (NoPanic Q) S (fuel+1+1+1) listed a w:=by
 refine GX i j hr hi hj hgi hgj ?_ ?_
 ·exact BB (some di) hdi v w r1 ⟨hS,ot j hr1 hj hgj (BB (some dj) agw u w' r2 ⟨hS',ot c hr3 hc hgc (BB (some dc) adJ x w' r5 ⟨hS',h⟩)⟩)⟩
 refine BB (some dj) agw u w' r3 ⟨hS',GX i c hr2 hi hc hgi hgc ?_ ?_⟩
 ·refine BB (some di) hdi v w' r4 ⟨hS',?_⟩
  rw[tQ,yJ a u v hdj];exact ot c hr3 hc hgc (BB (some dc) adJ x w' r5 ⟨hS',h⟩)
 refine BB (some dc) adJ x w' r6 ⟨hS',ot i hr4 hi hgi (BB (some di) hdi v w' r7 ⟨hS',?_⟩)⟩;rw[tQ,tQ listed,yJ _ x v hdc,yJ a u v hdj];exact h
end
section
variable (w:World) (B B2 xb cb g:Nat) (pv v:Value) (l:List NV) (ol:Ol) (m:Ma)
theorem Cz(h:lW w B B2 xb cb g pv v l ol m)(hR:Rf l ol)(_hI:Ch.Inv ol m.s):
 Calls prog 204 #[.pointer (some ⟨xb,0,none⟩)] w λy w'=>y= .returned (.agg (aN (aH ol.ag m.s)))/\Kp (λ_=>False) w w':=by
 have hle:=hR.le;obtain⟨ao,cap,rfl⟩:=h.ch.2.1.len;obtain⟨pa,pc,hpv⟩:=eu.len h.ps;have K1:Kp (λ_=>False) w (w.alloc (.cells aD 26)):=(Kp.refl _ _).alloc _;have hb1:=heap_alloc_new w (.cells aD 26);have h1:=h.ai K1;clear h
 go_enter func204,ntmps204
 go_upto_region 1 with(fail)
 generalize w.alloc (.cells aD 26)=w1 at*;generalize AJ:w.heap.size=ob at*;have c2:w1.cell? ⟨xb,2,none⟩=some pv:=h1.nb.cell 2;have c3:w1.cell? ⟨xb,3,none⟩=some (.string m.s.tm):=h1.nb.cell 3;have c4:w1.cell? ⟨xb,4,none⟩=some (.int .i64 m.s.x):=h1.nb.cell 4;have c5:w1.cell? ⟨xb,5,none⟩=some (.int .i64 m.s.y):=h1.nb.cell 5;have c6:w1.cell? ⟨xb,6,none⟩=some (.int .i64 m.s.z):=h1.nb.cell 6;rw[hpv]at c2
 have hcv:=λ(w':World) (hS:Kp (λ_=>False) w1 w')=>eu.text (show eu w' B2 (.slice pa (jq ol.ag m.s).length pc) (jq ol.ag m.s).length (ar (jq ol.ag m.s))by
  have:=h1.ps;unfold Qr at this;rw[hpv]at this
  exact this.keep hS (λ_ _ x=>x))
 have HX:=hid h1;clear h1;generalize (jq ol.ag m.s).length=pn at*;generalize hpt:strOfNums (jq ol.ag m.s)=pt at*;have HPT:=hid hpt;clear hpt;have hS0:Kp (λ_=>False) w1 w1.drew:=(Kp.refl _ _).drew;have hS1:Kp (λ_=>False) w1 (w1.drew.alloc (.cells aD 26)):=hS0.alloc _;have hS2:Kp (λ_=>False) w1 ((w1.drew.alloc (.cells aD 26)).setRow w1.heap.size #[.string ⟨#[]⟩,.string pt,.string m.s.tm,.int .i64 m.s.x,.int .i64 m.s.y,.int .i64 m.s.z]):=hS1.setRow (λx=>absurd x (by omega)) _;refine az (λw'=>Kp (λ_=>False) w1 w') (by kernel_rfl) ?_;refine aU 0 5 (.pointer (some ⟨xb,0,none⟩)) hS0 ?_;refine aU 1 6 (.pointer (some ⟨xb,0,none⟩)) hS0 ?_;refine aU 2 7 (.pointer (some ⟨xb,2,none⟩)) hS0 ?_;refine dM 3 8 (.slice pa pn pc) rfl (λw' hS=>by have:=hS.bj c2;simp[execOp,Act.eval,go_sem,this]) hS0 ?_;refine dM 4 9 (.string pt) rfl (λw' hS=>mL 47 9 (.tmp 8) rfl (.slice pa pn pc) (.string pt) (by simp[Act.eval]) (hcv w' hS)) hS0 ?_;refine aU 5 10 (.pointer (some ⟨xb,0,none⟩)) hS0 ?_;refine aU 6 11 (.pointer (some ⟨xb,0,none⟩)) hS0 ?_;refine aU 7 12 (.pointer (some ⟨xb,3,none⟩)) hS0 ?_;refine dM 8 13 (.string m.s.tm) rfl (λw' hS=>by have:=hS.bj c3;simp[execOp,Act.eval,go_sem,this]) hS0 ?_;refine aU 9 14 (.pointer (some ⟨xb,0,none⟩)) hS0 ?_;refine aU 10 15 (.pointer (some ⟨xb,0,none⟩)) hS0 ?_;refine aU 11 16 (.pointer (some ⟨xb,4,none⟩)) hS0 ?_;refine aU 12 17 (.pointer (some ⟨xb,4,none⟩)) hS0 ?_;refine dM 13 18 (.int .i64 m.s.x) rfl (λw' hS=>by have:=hS.bj c4;simp[execOp,Act.eval,go_sem,this]) hS0 ?_;refine aU 14 19 (.pointer (some ⟨xb,0,none⟩)) hS0 ?_;refine aU 15 20 (.pointer (some ⟨xb,0,none⟩)) hS0 ?_;refine aU 16 21 (.pointer (some ⟨xb,4,none⟩)) hS0 ?_;refine aU 17 22 (.pointer (some ⟨xb,5,none⟩)) hS0 ?_;refine dM 18 23 (.int .i64 m.s.y) rfl (λw' hS=>by have:=hS.bj c5;simp[execOp,Act.eval,go_sem,this]) hS0 ?_;refine aU 19 24 (.pointer (some ⟨xb,0,none⟩)) hS0 ?_;refine aU 20 25 (.pointer (some ⟨xb,0,none⟩)) hS0 ?_;refine aU 21 26 (.pointer (some ⟨xb,4,none⟩)) hS0 ?_;refine aU 22 27 (.pointer (some ⟨xb,6,none⟩)) hS0 ?_;refine dM 23 28 (.int .i64 m.s.z) rfl (λw' hS=>by have:=hS.bj c6;simp[execOp,Act.eval,go_sem,this]) hS0 ?_
 refine dM 24 29 (.agg #[.string ⟨#[]⟩,.string pt,.string m.s.tm,.int .i64 m.s.x,.int .i64 m.s.y,.int .i64 m.s.z]) rfl (λw' _=>fY 26 _ rfl #[.string ⟨#[]⟩,.string pt,.string m.s.tm,.int .i64 m.s.x,.int .i64 m.s.y,.int .i64 m.s.z] [(1,.string pt),(2,.string m.s.tm),(3,.int .i64 m.s.x),(4,.int .i64 m.s.y),(5,.int .i64 m.s.z)] (by simp[Act.eval]) (by kernel_rfl)) hS0 ?_;refine jD 25 ?_;refine BB (some 3) rfl (.pointer (some ⟨w1.heap.size,0,none⟩)) (w1.drew.alloc (.cells aD 26)) (by simp[execOp,go_sem]) ?_;simp only[Act.put,pA,pB,pC];refine⟨hS1,?_⟩;refine bF 26 (by kernel_rfl) rfl rfl 26 (.tmp 3) (.tmp 29) rfl rfl w1.heap.size #[.string ⟨#[]⟩,.string pt,.string m.s.tm,.int .i64 m.s.x,.int .i64 m.s.y,.int .i64 m.s.z] (by simp[Act.eval]) (by simp[Act.eval]) 26 aD (heap_alloc_new w1.drew _) aP rfl (bZ ⟨⟨#[]⟩,pt,m.s.tm,m.s.x,m.s.y,m.s.z⟩) hS2 ?_;refine wpAnyH_done (by kernel_rfl) (NoPanic.normal ?_) _;have HR0:=hid (ae (setRow_heap (w1.drew.alloc (.cells aD 26)) w1.heap.size aD #[.string ⟨#[]⟩,.string pt,.string m.s.tm,.int .i64 m.s.x,.int .i64 m.s.y,.int .i64 m.s.z] 26 (0,0) (heap_alloc_new w1.drew _)) hS2);clear hcv c2 c3 c4 c5 c6 hS0 hS1 hS2;generalize (w1.drew.alloc (.cells aD 26)).setRow w1.heap.size #[.string ⟨#[]⟩,.string pt,.string m.s.tm,.int .i64 m.s.x,.int .i64 m.s.y,.int .i64 m.s.z]=w2 at*;generalize hsb:w1.heap.size=sb at*
 go_wp2_with fail
 go_loopw [4] (λkv wr=>∃k:Nat,kv= .int .i64 k/\k<=l.length/\Hid (wr.heap[sb]? =some (.cells #[.string (strOfNums (gN ol.ag m.s k)),.string pt,.string m.s.tm,.int .i64 m.s.x,.int .i64 m.s.y,.int .i64 m.s.z] 26))/\Kp (λ_=>False) w1 wr) (λkv _=>l.length-(intOf kv).toNat)
 case atStart=>exact⟨0,rfl,Nat.zero_le _,hid HR0.out.1,HR0.out.2⟩
 case round=>
  obtain⟨k,rfl,hk,HB,KW⟩:=hrel;have hX:=HX.out.ai KW;obtain⟨on,hon,hso⟩:=hX.on;have d0:wr.cell? ⟨xb,0,none⟩=some (.pointer (some ⟨cb,0,none⟩)):=hX.nb.cell 0;have d1:wr.cell? ⟨xb,1,none⟩=some (.slice (some ⟨g,0,none⟩) l.length l.length):=hX.nb.cell 1;have zd:=hX.ch.cell
  by_cases hlt:k<l.length
  ·have hlt':(k:Int)<(l.length:Int):=by omega
   have DE:=hon.cell (k:=k) (by have:=hso.1;omega);have hak:=D4 ol.ag m.s k;rw[cT,<-hso.2.2 k]at hak;have hal:=pN ol.ag m.s k
   cases qo:eJ on k with
   |false=>
    rw[qo]at DE hak;have HA:=hid (show gN ol.ag m.s (k+1)=gN ol.ag m.s k by rw[hak];simp);clear hX hon hso hak;go_wp2
    go_roundw
    case rel=>exact⟨k+1,by go_num,by omega,hid (by rw[HA.out];exact HB.out),KW⟩
    case measure=>simp[intOf];omega
   |true=>?_
   rw[qo]at DE hak
   obtain⟨y,hy⟩:∃y,l[k]? =some y:=⟨_,List.getElem?_eq_getElem hlt⟩
   have hnm:dN ol.ag k=y.n.name:=by rw[<-hR.ag];unfold Ch.ag;rw[uF (by rw[cP];exact hlt),iL hy]
   rw[hnm]at hak;have h1:=HX.out;have c0:w1.cell? ⟨xb,0,none⟩=some (.pointer (some ⟨cb,0,none⟩)):=h1.nb.cell 0;have zc:=h1.ch.cell;obtain⟨g1,Hm,hv,_,hcell,_⟩:=h1.ch.2.1.form hy;simp only[Value.slice.injEq]at hv;obtain⟨rfl,-,rfl⟩:=hv;have v0:w1.cell? ⟨g1,k*7,none⟩=some (.int .u8 y.n.name):=hcell 0 (by omega);have hbr:=HB.out
   have s0:wr.cell? ⟨sb,0,none⟩=some (.string (strOfNums (gN ol.ag m.s k))):=by rw[World.cell?,hbr];rfl
   have hst:∀o (u:ByteArray),(((wr.drew.alloc o).setCell ⟨sb,0,none⟩ (.string u))).heap[sb]? =some (.cells #[.string u,.string pt,.string m.s.tm,.int .i64 m.s.x,.int .i64 m.s.y,.int .i64 m.s.z] 26):=λo u=>by
    have h1:=(((Kp.refl (λ_=>False) wr).drew).alloc o).at_ hbr (λx=>x);rw[ah _ h1];rfl
   have aaI:=λo=>((Kp.refl (λ_=>False) wr).alloc o).bj s0
   have agx:∀o,(wr.alloc o).frozen? ⟨sb,0,none⟩=false:=λo=>by
    have h1:=((Kp.refl (λ_=>False) wr).alloc o).at_ hbr (λx=>x);simp[World.frozen?,h1]
   have HA:=hid (show strOfNums (gN ol.ag m.s (k+1))=strOfNums (gN ol.ag m.s k)++strOfNums [y.n.name]by rw[hak,<-jn];simp)
   have apV:(strOfNums (gN ol.ag m.s k)).size<=16:=by rw[strOfNums_size];omega
   generalize strOfNums (gN ol.ag m.s k)=A at*
   have hcv:=run_convert_bytes_arg (P:=prog) ((wr.alloc (.cells #[.int .u8 y.n.name] 5)).drew) 47 5 underlying47 underlying5 wr.heap.size 0 1 1 [y.n.name] rfl (by
    intro i hi
    match i,hi with
    |0,_=>simp) 9 underlying9
   replace hcv:Sem.run prog (convert 47 9 (.slice (some ⟨wr.heap.size,0,none⟩) 1 1)) (wr.drew.alloc (.cells #[.int .u8 y.n.name] 5))= .ok (.string (strOfNums [y.n.name])) (wr.drew.alloc (.cells #[.int .u8 y.n.name] 5)):=hcv
   have hadd:=λw'=>run_string_add_sum (P:=prog) w' A (strOfNums [y.n.name]) (by rw[strOfNums_size];simp;omega)
   have HST:=hid hst;have hS0:Kp (λ_=>False) w1 wr.drew:=KW.drew;have hS1:Kp (λ_=>False) w1 (wr.drew.alloc (.cells #[.int .u8 y.n.name] 5)):=hS0.alloc _;have hS2:Kp (λ_=>False) w1 ((wr.drew.alloc (.cells #[.int .u8 y.n.name] 5)).setCell ⟨sb,0,none⟩ (.string (A++strOfNums [y.n.name]))):=hS1.setCell (p:=⟨sb,0,none⟩) (λx=>absurd x (by show¬sb<_;omega)) _;clear hX hon hso hak hbr hcell hst KW h1
   go_upto_region 6 with(fail)
   refine az (λw'=>Kp (λ_=>False) w1 w') (by kernel_rfl) ?_;refine aU 0 49 (.pointer (some ⟨sb,0,none⟩)) hS0 ?_;refine aU 2 51 (.pointer (some ⟨xb,0,none⟩)) hS0 ?_;refine aU 3 52 (.pointer (some ⟨xb,0,none⟩)) hS0 ?_;refine aU 4 53 (.pointer (some ⟨xb,0,none⟩)) hS0 ?_;refine dM 5 54 (.pointer (some ⟨cb,0,none⟩)) rfl (λw' hS=>by have:=hS.bj c0;simp[execOp,Act.eval,go_sem,this]) hS0 ?_;refine aU 6 55 (.pointer (some ⟨cb,0,none⟩)) hS0 ?_;refine aU 7 56 (.pointer (some ⟨cb,0,none⟩)) hS0 ?_;refine dM 8 57 (.slice (some ⟨g1,0,none⟩) l.length cap) rfl (λw' hS=>by have:=hS.bj zc;simp[execOp,Act.eval,go_sem,this]) hS0 ?_;refine aU 9 58 (.int .i64 (k:Int)) hS0 ?_;refine dM 10 59 (.pointer (some ⟨g1,k*7,none⟩)) rfl (λw' _=>by simp[execOp,Act.eval,go_sem,hlt']) hS0 ?_;refine aU 11 60 (.pointer (some ⟨g1,k*7,none⟩)) hS0 ?_;refine dM 12 61 (.int .u8 y.n.name) rfl (λw' hS=>by have:=hS.bj v0;simp[execOp,Act.eval,go_sem,this]) hS0 ?_
   refine adI 1 13 14 50 62 63 (.string A) (.slice (some ⟨wr.heap.size,0,none⟩) 1 1) (.string (strOfNums [y.n.name])) (wr.drew.alloc (.cells #[.int .u8 y.n.name] 5)) (by decide) (by decide) (by kernel_rfl) (by kernel_rfl) (by kernel_rfl) (by kernel_rfl) (by kernel_rfl) rfl rfl rfl rfl rfl rfl rfl rfl rfl (by simp[execOp,Act.eval,go_sem,s0]) (by simp[execOp,Act.eval,Act.put,go_sem]) (by simp[execOp,Act.eval,go_sem]) (by simp[execOp,Act.eval,Act.put,go_sem,aaI]) (by simp[execOp,Act.eval,Act.put,hcv]) (by simp[execOp,Act.eval,Act.put,hcv]) (by simp[execOp,Act.eval,Act.put,go_sem,aaI]) hS0 hS1 ?_;simp only[Act.put,pA,pB,pC];refine dM 15 64 (.string (A++strOfNums [y.n.name])) rfl (λw' _=>by simp[execOp,Act.eval,go_sem,hadd]) hS1 ?_;refine aU 16 65 (.pointer (some ⟨sb,0,none⟩)) hS1 ?_;refine jD 17 ?_;unfold Oper.wp;simp[execOp,Act.eval,go_sem,aaI,agx];refine⟨hS2,wpAnyH_done (by kernel_rfl) (NoPanic.normal ?_) _⟩;have HZ:=hid (show(((wr.alloc (.cells #[.int .u8 y.n.name] 5)).setCell ⟨sb,0,none⟩ (.string (A++strOfNums [y.n.name]))).drew).heap[sb]? =_/\Kp (λ_=>False) w1 ((wr.alloc (.cells #[.int .u8 y.n.name] 5)).setCell ⟨sb,0,none⟩ (.string (A++strOfNums [y.n.name]))).drew from ae (HST.out (.cells #[.int .u8 y.n.name] 5) (A++strOfNums [y.n.name])) hS2);generalize ((wr.alloc (.cells #[.int .u8 y.n.name] 5)).setCell ⟨sb,0,none⟩ (.string (A++strOfNums [y.n.name]))).drew=wz at*;clear hS0 hS1 hS2 aaI agx hcv hadd s0 v0 c0 zc d0 d1 zd DE HST;go_wp2
   go_roundw
   case rel=>exact⟨k+1,by go_num,by omega,hid (by rw[HA.out];exact HZ.out.1),HZ.out.2⟩
   case measure=>simp[intOf];omega
  have hge:¬(k:Int)<(l.length:Int):=by omega
  obtain rfl:k=l.length:=by omega
  obtain⟨da,dE,bq⟩:=fN
  have hbr:wr.heap[sb]? =some (.cells (aN (aH ol.ag m.s)) 26 (0,0)):=by
   rw[HB.out,<-HPT.out];show _=some (Obj.cells #[.string (strOfNums (gN ol.ag m.s (min ol.ag.length 16))),.string (strOfNums (ig ol.ag m.s (min ol.ag.length 16))),.string m.s.tm,.int .i64 m.s.x,.int .i64 m.s.y,.int .i64 m.s.z] 26 (0,0));rw[show min ol.ag.length 16=ol.ag.length by have:=hR.len;omega,hR.len]
   have:jq ol.ag m.s=ig ol.ag m.s l.length:=by rw[<-hR.len];rfl
   rw[this]
  have ZH:=KW.at_ hb1 (λx=>x);have Dc:=hid (K1.trans KW);have aO:=bZ (aH ol.ag m.s);have aI:(prog.info? 26).map (·.size)=some (aN (aH ol.ag m.s)).size:=aP;have aS:(aN (aH ol.ag m.s)).size=6:=rfl;have KF:Kp (λ_=>False) w (wr.setRow ob (aN (aH ol.ag m.s))):=Dc.out.setRow (λx=>absurd x (by rw[AJ];omega)) _;clear hX hon hso HB HX HR0;generalize kQ:aN (aH ol.ag m.s)=AA at*;have Iz:=hid kQ;clear kQ
  go_wp2_with (first|refine wpList_load_row rfl 26 (.tmp 3) rfl sb rfl 26 AA (0,0) da hbr dE (by cases da<;>first|rfl|exact absurd bq (by simp[ak])) aI ?_|refine wpList_store_row rfl 26 (.tmp 2) (.tmp 66) rfl ob AA rfl rfl 26 aD ZH aI aS.symm aO ?_)
  refine bodyPost_ret (results_cell_row rfl _ _ ob 26 AA (0,0) da rfl (setRow_heap _ _ _ _ _ _ ZH) dE (by cases da<;>first|rfl|exact absurd bq (by simp[ak])) aI) rfl ?_;exact⟨by rw[Iz.out],KF⟩
end
namespace Ch
theorem abT(ol:Ol):o_ (m0 ol) 0:=⟨rC _,⟨by show TL 48 (dW ByteArray.empty);simp[dW,TL],by show ByteArray.empty.size<=16;decide⟩,⟨Nat.le_refl _,Nat.le_refl _⟩⟩
theorem agy(ol:Ol):QB (m0 ol):=λa h=>by simp[m0]at h
theorem o_.adK{ol:Ol}(hol:ol.Ok)(hA:pw ol){m:Ma}{N:Nat}(h:o_ m N)(l:List Int):o_ (Ch.enter ol m l) (N+1900000):=
 ⟨s_ h.ok l,(gG (by omega) ol).c_ hA _ _ _ _ h.tm,wA hol h.sz l⟩
theorem OR{ss:List St}(h:ss.length<=16):jq ss (bM ss)=List.replicate (jq ss (bM ss)).length 45:=by
 refine List.eq_replicate_iff.2 ⟨rfl,λx hx=>?_⟩;unfold jq at hx;obtain⟨k,hk,rfl⟩:=List.mem_map.1 hx;obtain⟨h1,h2⟩:=List.mem_filter.1 hk
 have h1:k<ss.length:=by simpa using h1
 show(cR ss).getD k 0=45;unfold cR gM;rw[List.getD_eq_getElem?_getD,List.getElem?_map,List.getElem?_range (by omega)];simp[h2];omega
def iJ(ol:Ol):Bool×As×ByteArray:=
 if(b9 ol 30 (enter ol (m0 ol) [])).1 then(true,aH ol.ag (b9 ol 30 (enter ol (m0 ol) [])).2.s,strOfNums (b9 ol 30 (enter ol (m0 ol) [])).2.out)else(false,dX,⟨#[]⟩)
theorem XI(ol:Ol):mstart ol=if(iJ ol).1 then((b9 ol 30 (enter ol (m0 ol) [])).2.s,(iJ ol).2.2,0)else(jH,ByteArray.empty,9):=by
 unfold mstart finish iJ;rw[nU];show(if busy ol (rounds ol 30 (enter ol (m0 ol) []))=true then _ else _)=_
 cases busy ol (rounds ol 30 (enter ol (m0 ol) []))<;>rfl
def lC(t:ByteArray):As×ByteArray×Int:=
 if(read t).1 !=0 then(dX,⟨#[]⟩,(read t).1)
 else if(iJ (read t).2.2).1 then((iJ (read t).2.2).2.1,(iJ (read t).2.2).2.2,0)else(dX,⟨#[]⟩,9)
theorem Uk(t:ByteArray):jf t=lC t:=by
 unfold jf lC
 split
 ·rfl
 rw[XI];unfold iJ
 split<;>rfl
end Ch
theorem fy.akq{w:World}{xb cb g n:Nat}{pv:Value}{m:Ma}(h:fy w xb cb g n pv m)(u:Value):fy (w.setCell ⟨xb,2,none⟩ u) xb cb g n u m:=by unfold fy at*;rw[ah _ h];rfl
def BgI(w wr:World)(xb cb g n:Nat)(pv:Value)(m:Ma)(k:Nat):Prop:=fy wr xb cb g n pv m/\iH wr g (List.replicate n false)/\wr.ownsRow w.heap.size 5 1 pv k (ar (List.replicate k 45))/\Kp (λ_=>False) w wr
section
variable (w:World) (B cb:Nat) (l:List NV) (v:Value) (ol:Ol)
theorem OS(hF:iG w B cb l v)(hR:Rf l ol):
 Calls prog 145 #[.pointer (some ⟨cb,0,none⟩)] w λy w'=>y= .returned (.tuple #[.agg (aN (iJ ol).2.1),.string (iJ ol).2.2,.bool (iJ ol).1])/\Kp (λ_=>False) w w':=by
 obtain⟨i0,hi,hz0,hz1,hz2⟩:=info_parts wW;obtain⟨j0,hj,hy0,hy1,hy2⟩:=info_parts infoByte;obtain⟨da,dE,bq⟩:=fN;have hle:=hR.le;obtain⟨ao,cap,rfl⟩:=hF.2.1.len;have K0:Kp (λ_=>False) w (w.alloc (.cells aD 26)):=(Kp.refl _ _).alloc _;have hb0:=heap_alloc_new w (.cells aD 26);have hF0:=hF.ai K0;have zc:=hF0.cell;have hsz0:w.heap.size<(w.alloc (.cells aD 26)).heap.size:=lt_of_block hb0;have HF:=hid (ae hF0 (ae hb0 K0));clear hF hF0 K0 hb0
 go_enter func145,ntmps145
 go_upto_region 1 with(fail)
 generalize w.alloc (.cells aD 26)=w0 at*
 go_wp2_with (at_make;refine wpList_make_full w0 rfl (.tmp 15) (.tmp 15) 68 rfl w0.heap.size 4 i0 (.bool false) 1 underlying68 hi hz0 hz1 .i64 .i64 l.length l.length l.length rfl rfl rfl rfl ?c1 ?c2 (Nat.le_refl _) ?_)
 case c1=>rw[hz2];omega
 case c2=>unfold maxLen;omega
 intro w4 o4 g4;have K4:Kp (λ_=>False) w0 w4:=(Kp.refl _ _).grown g4 (λi hi _=>by simp at hi);have Dx:=iH.made o4;have HQ:=hid (ae Dx K4);clear zc o4 g4 Dx K4;generalize hg:w0.heap.size=g at*;generalize XJ:(#[.pointer (some ⟨cb,0,none⟩),.slice (some ⟨g,0,none⟩) l.length l.length,.slice none 0 0,.string ⟨#[]⟩,.int .i64 0,.int .i64 0,.int .i64 0,.string ⟨#[]⟩,.string ⟨#[]⟩]:Array Value)=NW
 have hnw:fy (w4.alloc (.cells NW 274)) w4.heap.size cb g l.length (.slice none 0 0) (Ch.m0 ol):=by
  unfold fy;rw[<-XJ];exact heap_alloc_new _ _
 have K5:Kp (λ_=>False) w0 (w4.alloc (.cells NW 274)):=HQ.out.2.alloc _;have Vh:=HF.out.1.ai K5;have agz:=((Kp.refl (λ_=>False) w4).alloc (.cells NW 274)).at_ HQ.out.1 (λx=>x);have E1:=hid (uK (w4.alloc (.cells NW 274)) B cb l _ Vh (by omega));have hxw:w0.heap.size<=w4.heap.size:=HQ.out.2.size
 have hlen:(jq ol.ag (Ch.m0 ol).s).length=(cG (Ch.mk l)).length:=by rw[xp hR];simp
 have H5:=hid (ae agz (ae hnw K5));clear Vh agz hnw K5 HQ
 go_upto_region 2 with(fail)
 clear XJ;generalize w4.alloc (.cells NW 274)=w5 at*;generalize w4.heap.size=xb at*
 go_wp2_with fail
 refine hm E1 ?_;rintro y w6 ⟨u,rfl,hu,K6⟩;obtain⟨ua,uc,rfl⟩:=aF hu
 have hHl:(cG (Ch.mk l)).length<=16:=by
  rw[<-hlen];unfold jq;have:=List.length_filter_le (cX ol.ag) (List.range ol.ag.length);have:=hR.len;simp at*;omega
 have H6:=hid (show BgI w0 w6 xb cb g l.length (.slice none 0 0) (Ch.m0 ol) 0 from⟨H5.out.2.1.keep K6 (λx=>x),K6.at_ H5.out.1 (λx=>x),World.ownsRow_nil _ _ _ _,H5.out.2.2.trans K6⟩);have HL:=hid hlen;clear E1 H5 hu K6 hlen;generalize (cG (Ch.mk l)).length=H at*
 go_wp2_with fail
 go_loopw [7] (λkv wr=>∃(k:Nat) (pv:Value),kv= .int .i64 k/\k<=H/\Hid (BgI w0 wr xb cb g l.length pv (Ch.m0 ol) k)) (λkv _=>H-(intOf kv).toNat)
 case atStart=>exact⟨0,_,rfl,Nat.zero_le _,H6⟩
 case round=>
  obtain⟨k,pv,rfl,hk,HI⟩:=hrel;obtain⟨hn,ho,hp,KW⟩:=HI.out
  by_cases hlt:k<H
  ·have hlt':(k:Int)<(H:Int):=by omega
   have c2:wr.cell? ⟨xb,2,none⟩=some pv:=hn.cell 2;have hsz:=KW.size;clear KW ho
   go_wp2_with (at_builtin;refine jJ (P:=prog) rfl (.tmp 31) (.tmp 32) 47 rfl w0.heap.size 5 j0 (.int .u8 0) 1 1 underlying47 hj hy0 hy1 hy2 rfl (by decide) pv k (ar (List.replicate k 45)) rfl (by exact hp.alloc _) ⟨wr.heap.size,0,none⟩ 1 1 [.int .u8 45] rfl rfl (by exact eO _ _ _) (by intro u hu;simp at hu;subst hu;rfl) (by decide) (by unfold maxLen;omega) (by omega) (by simp;omega) ?_)
   intro g9 c9 w9 o9 Xu _;obtain⟨_,ho,_,KW⟩:=HI.out;have K9:Kp (λi=>pv.ownBlock=some i) wr w9:=((Kp.refl _ _).alloc (.cells #[.int .u8 45] 5)).grown (by exact Xu) (λi hi _=>hi);have Qu:=hn.keep K9 (own_ne hp hn (by decide));have Y3:iH w9 g _:=K9.at_ ho (own_ne hp ho (by decide));have d2:w9.cell? ⟨xb,2,none⟩=some pv:=Qu.cell 2;have f2:=Qu.free 2
   have hgx:g≠xb:=λe=>by
    have h1:=Qu;have h2:=Y3;unfold fy at h1;unfold iH at h2;rw[e,h1]at h2;simp only[Option.some.injEq,Obj.cells.injEq]at h2;exact absurd h2.2.1 (by decide)
   have Kz:Kp (λi=>i=xb) w9 (w9.setCell ⟨xb,2,none⟩ (.slice (some ⟨g9,0,none⟩) (k+1) c9)):=(Kp.refl _ _).setCell (by intro _;rfl) _;have oz:=Kz.owns o9 (λi hi e=>own_ne o9 Qu (by decide) (e▸hi));have HZ:=hid (show BgI w0 (w9.setCell ⟨xb,2,none⟩ (.slice (some ⟨g9,0,none⟩) (k+1) c9)) xb cb g l.length (.slice (some ⟨g9,0,none⟩) (k+1) c9) (Ch.m0 ol) (k+1)from⟨Qu.akq _,Kz.at_ Y3 hgx,by rw[List.replicate_succ',d_,hg];exact oz,(KW.trans' K9 (λi hi e=>by have:=(hp.lt i e).1;omega)).trans' Kz (λi hi e=>by omega)⟩);clear Qu Y3 hgx Kz oz K9 o9 Xu KW ho hp hn c2 HI;go_wp2;generalize w9.setCell ⟨xb,2,none⟩ (.slice (some ⟨g9,0,none⟩) (k+1) c9)=wz at*
   go_roundw
   case rel=>exact⟨k+1,_,by go_num,by omega,HZ⟩
   case measure=>simp[intOf];omega
  have hge:¬(k:Int)<(H:Int):=by omega
  obtain rfl:k=H:=by omega
  have hN:lW wr B w0.heap.size xb cb g pv (.slice ao l.length cap) l ol (Ch.m0 ol):=⟨hn,⟨_,ho,Ql _⟩,by
   unfold Qr;have e:=OR (ss:=ol.ag) (by rw[hR.len];exact hle);replace e:jq ol.ag (Ch.m0 ol).s=List.replicate (jq ol.ag (Ch.m0 ol).s).length 45:=e;rw[e,HL.out]
   simpa using eu.of hp,HF.out.1.ai KW⟩
  have hse:Ch.enter ol (Ch.m0 ol) []=mP ol (cY ol.ag (Ch.bit (Ch.m0 ol).s.act) [] ol.ag.length 0) (Ch.m0 ol):=(yu hR.iP).1;have E2:=hid (ve wr B w0.heap.size xb cb g pv _ l ol (Ch.m0 ol) 0 0 [] (.slice none 0 0) hN hR (abT ol) (by omega) (by simp) (by simp) (World.ownsRow_nil _ _ _ _));have HM:=hid (ae ((abT ol).adK hR.ok hR.uX []) (ae (QB.c_ hR.YW hR.uX _ _ _ _ (agy ol):QB (Ch.enter ol (Ch.m0 ol) [])) (yu hR.iP).2));replace HM:Hid (o_ (Ch.enter ol (Ch.m0 ol) []) (0+1900000)/\QB (Ch.enter ol (Ch.m0 ol) [])/\Ch.Inv ol (Ch.enter ol (Ch.m0 ol) []).s):=HM;have HBG:=hid (show iJ ol=if(b9 ol 30 (Ch.enter ol (Ch.m0 ol) [])).1 then(true,aH ol.ag (b9 ol 30 (Ch.enter ol (Ch.m0 ol) [])).2.s,strOfNums (b9 ol 30 (Ch.enter ol (Ch.m0 ol) [])).2.out)else(false,dX,⟨#[]⟩)from rfl);rw[<-hse]at E2;have HP:=hid (ae hp KW);clear hse hN hn ho hp KW HI H6 HL;generalize Ch.enter ol (Ch.m0 ol) []=ms at*
  go_wp2_with fail
  refine hm E2 ?_;rintro y w7 ⟨rfl,X7,K7⟩;have E3:=hid (Cy B w0.heap.size xb cb g pv _ l ol hR 30 w7 ms _ X7 HM.out.2.2 HM.out.1 HM.out.2.1 (by omega));replace E3:Hid (Calls prog 203 #[.pointer (some ⟨xb,0,none⟩),.int .i64 30] w7 λy w'=>y= .returned (.bool (b9 ol 30 ms).1)/\lW w' B w0.heap.size xb cb g pv (.slice ao l.length cap) l ol (b9 ol 30 ms).2/\Kp (nS xb g pv) w7 w'):=E3;have HI8:=hid (show Ch.Inv ol (b9 ol 30 ms).2.s by rw[nU];exact lj hR.iP 30 HM.out.2.2);have HK7:=hid K7;clear E2 X7 K7 HM
  go_wp2_with fail
  refine hm E3 ?_;rintro y w8 ⟨rfl,X8,K8⟩
  have Vk:∀i,i<w0.heap.size->nS xb g pv i->False:=λi hi e=>by
   rcases e with e|e|e
   ·omega
   ·omega
   have:=(HP.out.1.lt i e).1;omega
  have KA:Kp (λ_=>False) w0 w8:=(HP.out.2.trans' HK7.out Vk).trans' K8 Vk;have hrb:=KA.at_ HF.out.2.1 (λx=>x);have HA:=hid (ae X8 (HF.out.2.2.trans KA));clear E3 X8 K8 HK7 HP Vk KA;generalize b9 ol 30 ms=rr at*;obtain⟨ok,m8⟩:=rr
  cases ok with
  |false=>
   have HB2:=hid (HBG.out.trans (if_neg (by simp)));have KF:Kp (λ_=>False) w (w8.setRow w.heap.size aD):=HA.out.2.setRow (λx=>by omega) _;clear HBG HI8 HF HA
   go_wp2_with (refine wpList_store_row rfl 26 (.tmp 2) (.tmp 42) rfl w.heap.size aD rfl rfl 26 aD hrb aP rfl (bZ dX) ?_)
   refine bodyPost_ret (aq rfl _ _ w.heap.size 26 aD (0,0) da rfl (setRow_heap _ _ _ _ _ _ hrb) dE bq aP) rfl ?_;rw[HB2.out];exact⟨rfl,KF⟩
  |true=>?_
  have HB2:=hid (HBG.out.trans (if_pos rfl));have E4:=hid (Cz w8 B w0.heap.size xb cb g pv _ l ol m8 HA.out.1 hR HI8.out);clear HBG HI8 HF
  go_wp2_with fail
  refine hm E4 ?_;rintro y w9 ⟨rfl,K9⟩;have Ht:=K9.at_ hrb (λx=>x);have X9:=HA.out.1.ai K9;have hnew:=heap_alloc_new w9 (.cells aD 26);have aO:=bZ (aH ol.ag m8.s);have aI:(prog.info? 26).map (·.size)=some (aN (aH ol.ag m8.s)).size:=aP;have aS:(aN (aH ol.ag m8.s)).size=6:=rfl;generalize kQ:aN (aH ol.ag m8.s)=AA at*;have Iz:=hid kQ;have tF:Kp (λ_=>False) w9 ((w9.alloc (.cells aD 26)).setRow w9.heap.size AA):=((Kp.refl _ _).alloc _).setRow (λx=>by omega) _;have hrow:=setRow_heap (w9.alloc (.cells aD 26)) w9.heap.size aD AA 26 (0,0) hnew;have KY:=tF.at_ Ht (λx=>x);have c8:((w9.alloc (.cells aD 26)).setRow w9.heap.size AA).cell? ⟨xb,8,none⟩=some (.string (strOfNums m8.out)):=(X9.ai tF).nb.cell 8
  have hsb:w9.heap.size≠w.heap.size:=by have:=lt_of_block Ht;omega
  have HK:=hid ((HA.out.2.trans K9).trans tF)
  have hxne:xb≠w.heap.size:=λe=>by
   have h1:=X9.nb;unfold fy at h1;rw[e,Ht]at h1;simp only[Option.some.injEq,Obj.cells.injEq]at h1;exact absurd h1.2.1 (by decide)
  clear kQ E4 K9 tF X9 HA hrb Ht
  go_upto_region 12 with(refine wpList_store_row rfl 26 (.tmp 9) (.tmp 44) rfl w9.heap.size AA rfl rfl 26 aD hnew aI aS.symm aO ?_)
  generalize (w9.alloc (.cells aD 26)).setRow w9.heap.size AA=pe at*;clear hnew;generalize w9.heap.size=sb at*
  have hS0:pe.drew.heap[sb]? =some (.cells AA 26 (0,0))/\pe.drew.cell? ⟨xb,8,none⟩=some (.string (strOfNums m8.out)):=⟨hrow,c8⟩
  have hS1:(pe.drew.setRow w.heap.size AA).heap[sb]? =some (.cells AA 26 (0,0))/\(pe.drew.setRow w.heap.size AA).cell? ⟨xb,8,none⟩=some (.string (strOfNums m8.out)):=⟨by rw[setRow_other _ _ _ _ hsb];exact hrow,by rw[World.cell?_of_block (setRow_other pe.drew _ _ _ hxne)];exact c8⟩
  have KF:Kp (λ_=>False) w (pe.drew.setRow w.heap.size AA):=HK.out.drew.setRow (λx=>by omega) _;refine az (λw'=>w'.heap[sb]? =some (.cells AA 26 (0,0))/\w'.cell? ⟨xb,8,none⟩=some (.string (strOfNums m8.out))) (by kernel_rfl) ?_;refine dM 0 45 (.agg AA) rfl (λw' hS=>bu 26 (.tmp 9) rfl sb (by simp[Act.eval,Act.put]) 26 AA (0,0) da hS.1 dE bq aI) hS0 ?_;refine aU 1 46 (.pointer (some ⟨xb,0,none⟩)) hS0 ?_;refine aU 2 47 (.pointer (some ⟨xb,0,none⟩)) hS0 ?_;refine aU 3 48 (.pointer (some ⟨xb,8,none⟩)) hS0 ?_;refine dM 4 49 (.string (strOfNums m8.out)) rfl (λw' hS=>by have:=hS.2;simp[execOp,Act.eval,go_sem,this]) hS0 ?_;refine bF 5 (by kernel_rfl) rfl rfl 26 (.tmp 2) (.tmp 45) rfl rfl w.heap.size AA (by simp[Act.eval]) (by simp[Act.eval]) 26 aD (by exact KY) aI aS.symm aO hS1 ?_;refine aU 6 3 (.string (strOfNums m8.out)) hS1 ?_;refine dM 7 4 (.bool true) rfl (λw' _=>by rfl) hS1 ?_;refine wpAnyH_done (by kernel_rfl) (NoPanic.normal ?_) _;go_wp2;refine bodyPost_ret (aq rfl _ _ w.heap.size 26 AA (0,0) da rfl (setRow_heap pe.drew _ _ _ _ _ (by exact KY)) dE bq aI) rfl ?_;rw[HB2.out];exact⟨by rw[<-Iz.out];rfl,KF⟩
end
theorem Ao{t:ByteArray}{l:List NV}(h0:(Ch.read t).1=0)(hN:NR (Ch.mk l) (Ch.chart t).2)(hT:TB (Ch.mk l)):Rf l (Ch.read t).2.2:=by
 obtain⟨hO,e,_,_⟩:=wR h0;have hA:=Wa hN (Bj t);have hok:=mK t;rw[e]at hO hok⊢
 have at_:∀(k:Nat) (x:NV),l[k]? =some x->(Ch.mk l)[k]? =some x.n:=λk x hx=>by unfold Ch.mk;rw[List.getElem?_map,hx];rfl
 refine⟨hN.ag,λk x hx=>hN.bG k _ (at_ k x hx),λk x hx=>hN.rR k _ (at_ k x hx),λk x hx=>hN.rD k _ (at_ k x hx),hO,hA,hok,λk x hx=>?_,λx hx rt hr=>?_,λk x hx=>?_⟩
 ·have:=(hN.wf k _ (at_ k x hx)).2.2.1
  unfold bx at this;simpa using this
 ·obtain⟨k,hk⟩:=List.getElem?_of_mem hx
  exact(hT x.n (List.mem_of_getElem? (at_ k x hk)) rt hr).1
 have:=hN.wf k _ (at_ k x hx);exact⟨this.2.2.2.2.1,this.2.2.2.2.2.1⟩
section
variable (w:World)
theorem OT(t:ByteArray):
 Calls prog 98 #[.string t] w λx w'=>x= .returned (.tuple #[.agg (aN (lC t).1),.string (lC t).2.1,.int .i64 (lC t).2.2])/\Kp (λ_=>False) w w':=by
 obtain⟨ds,hds,eY⟩:=fN;have hr1:=heap_alloc_new w (.cells aD 26);have K1:Kp (λ_=>False) w (w.alloc (.cells aD 26)):=(Kp.refl _ _).alloc _;have E0:=hid (nh (w.alloc (.cells aD 26)) t)
 have HU:=hid (show lC t=if(Ch.read t).1 !=0 then(dX,⟨#[]⟩,(Ch.read t).1)
  else if(iJ (Ch.read t).2.2).1 then((iJ (Ch.read t).2.2).2.1,(iJ (Ch.read t).2.2).2.2,0)else(dX,⟨#[]⟩,9)from rfl)
 go_enter func98,ntmps98
 go_wp2_with fail
 refine hm E0 ?_;rintro x w2 ⟨p,rfl,hq⟩;have hrb:=hq.2.2.at_ hr1 (λx=>x);have hlt:=lt_of_block hrb
 cases q1:(Ch.read t).1 !=0 with
 |true=>
  have HF:=hid (HU.out.trans (show _=(dX,(⟨#[]⟩:ByteArray),(Ch.read t).1)by rw[q1];rfl));have KF:Kp (λ_=>False) w (w2.setRow w.heap.size aD):=(K1.trans hq.2.2).setRow (λx=>by omega) _;clear hq E0 HU hr1 K1;generalize (Ch.read t).1=re at*;generalize (Ch.read t).2.1=rp at*
  go_wp2_with (refine wpList_store_row rfl 26 (.tmp 2) (.tmp 19) rfl w.heap.size aD rfl rfl 26 aD hrb aP rfl (bZ dX) ?_)
  refine bodyPost_ret (aq rfl _ _ w.heap.size 26 aD (0,0) ds rfl (setRow_heap _ _ _ _ _ _ hrb) hds eY aP) rfl ?_;rw[HF.out];exact⟨rfl,KF⟩
 |false=>?_
 have h0:(Ch.read t).1=0:=by simpa using q1
 obtain⟨cb,l,v,rfl,hF,hN,_,hT⟩:=hq.2.1 h0;have hR:=Ao h0 hN hT;have E1:=hid (OS w2 _ cb l v _ hF hR);have HV:=hid (HU.out.trans (show _=if(iJ (Ch.read t).2.2).1 then((iJ (Ch.read t).2.2).2.1,(iJ (Ch.read t).2.2).2.2,0)else(dX,(⟨#[]⟩:ByteArray),9)by rw[q1];rfl));have HK:=hid (K1.trans hq.2.2);clear hq E0 HU hr1 K1 hF hN hT hR h0;generalize iJ (Ch.read t).2.2=bg at*;generalize (Ch.read t).1=re at*;generalize (Ch.read t).2.1=rp at*;obtain⟨ok,sa,so⟩:=bg
 go_wp2_with fail
 refine hm E1 ?_;rintro x w3 ⟨rfl,K3⟩;have sE:=K3.at_ hrb (λx=>x);have hnew:=heap_alloc_new w3 (.cells aD 26);have aO:=bZ sa;have aI:(prog.info? 26).map (·.size)=some (aN sa).size:=aP;have aS:(aN sa).size=6:=rfl;have K4:Kp (λ_=>False) w3 ((w3.alloc (.cells aD 26)).setRow w3.heap.size (aN sa)):=((Kp.refl _ _).alloc _).setRow (λx=>by omega) _;have hrow:=setRow_heap (w3.alloc (.cells aD 26)) w3.heap.size aD (aN sa) 26 (0,0) hnew;have OU:=K4.at_ sE (λx=>x);have Vl:=hid ((HK.out.trans K3).trans K4);generalize kQ:aN sa=AA at*;have Iz:=hid kQ;clear kQ E1 K3 K4 HK hrb sE
 go_upto_region 5 with(refine wpList_store_row rfl 26 (.tmp 8) (.tmp 24) rfl w3.heap.size AA rfl rfl 26 aD hnew aI aS.symm aO ?_)
 generalize (w3.alloc (.cells aD 26)).setRow w3.heap.size AA=w4 at*;clear hnew;generalize w3.heap.size=sb at*
 cases ok with
 |false=>
  have HF:=hid (HV.out.trans (if_neg (by simp)));have KF:Kp (λ_=>False) w (w4.setRow w.heap.size aD):=Vl.out.setRow (λx=>by omega) _;clear HV Vl
  go_wp2_with (refine wpList_store_row rfl 26 (.tmp 2) (.tmp 29) rfl w.heap.size aD rfl rfl 26 aD OU aP rfl (bZ dX) ?_)
  refine bodyPost_ret (aq rfl _ _ w.heap.size 26 aD (0,0) ds rfl (setRow_heap _ _ _ _ _ _ OU) hds eY aP) rfl ?_;rw[HF.out];exact⟨rfl,KF⟩
 |true=>?_
 have HF:=hid (HV.out.trans (if_pos rfl));have KF:Kp (λ_=>False) w (w4.setRow w.heap.size AA):=Vl.out.setRow (λx=>by omega) _;clear HV Vl
 go_wp2_with (first|refine wpList_load_row rfl 26 (.tmp 8) rfl sb rfl 26 AA (0,0) ds hrow hds (by cases ds<;>first|rfl|exact absurd eY (by simp[ak])) aI ?_|refine wpList_store_row rfl 26 (.tmp 2) (.tmp 30) rfl w.heap.size AA rfl rfl 26 aD OU aI aS.symm aO ?_)
 refine bodyPost_ret (aq rfl _ _ w.heap.size 26 AA (0,0) ds rfl (setRow_heap _ _ _ _ _ _ OU) hds eY aI) rfl ?_;rw[HF.out];exact⟨by rw[<-Iz.out];rfl,KF⟩
end
theorem XK(v:ByteArray)(k p:Int):prog.built 111 [(0,.string v),(1,.int .i64 k),(2,.int .i64 p)]=some #[.string v,.int .i64 k,.int .i64 p]:=by kernel_rfl
def jR(o:qX):Array Value:=(opL o).toArray
theorem qH(o:qX):(jR o).size=14:=rfl
theorem tR:(prog.info? 81).map (·.size)=some 14:=by kernel_rfl
theorem zm:∃d,prog.underlying 81=some d/\ak d=true:=⟨_,underlying81,rfl⟩
section
variable (w:World)
theorem qJ(v:Value)(ops:List qX)(lo hi:Int)(WI:World->Prop)(hs:Mp w v ops)(hl:ops.length<=maxLen)
 (h0:WI (w.alloc (.cells #[.slice none 0 0,.slice none 0 0,.slice none 0 0,.slice none 0 0,.slice none 0 0,.int .i64 0] 77)))
 (hstep:∀(W:World) (o:qX),o∈ops->lo<=o.kind->o.kind<=hi->WI W->KB w.heap.size w W->Calls prog 39 #[.pointer (some ⟨w.heap.size,0,none⟩),.agg (jR o)] W λx W'=>x= .returned (.bool true)/\WI W'/\KB w.heap.size W W')
 (K_:∀W:World,WI W->KB w.heap.size w W->Calls prog 40 #[.pointer (some ⟨w.heap.size,0,none⟩)] W λx W'=>x= .returned (.bool true)/\WI W'/\KB w.heap.size W W')
 (La:∀W:World,WI W->KB w.heap.size w W->Calls prog 41 #[.pointer (some ⟨w.heap.size,0,none⟩)] W λx W'=>x= .returned (.bool true)/\KB w.heap.size W W'):
 Calls prog 19 #[v,.int .i64 lo,.int .i64 hi] w λx w'=>x= .returned (.bool true)/\Kp (λ_=>False) w w':=by
 unfold maxLen at hl;obtain⟨d,hd,eY⟩:=zm;obtain⟨ao,cap,rfl⟩:=hs.len;have K0:KB w.heap.size w (w.alloc (.cells #[.slice none 0 0,.slice none 0 0,.slice none 0 0,.slice none 0 0,.slice none 0 0,.int .i64 0] 77)):=(Kp.refl _ _).alloc _;have HST:=hid hstep;have HEN:=hid K_;have HLK:=hid La;have HSC:=hid hs;clear hstep K_ La hs
 go_enter func19,ntmps19
 go_upto_region 3 with(fail)
 generalize w.alloc (.cells #[.slice none 0 0,.slice none 0 0,.slice none 0 0,.slice none 0 0,.slice none 0 0,.int .i64 0] 77)=w1 at*
 go_loopw [8] (λi wr=>∃k:Nat,i= .int .i64 k/\k<=ops.length/\Hid (WI wr/\KB w.heap.size w wr)) (λi _=>ops.length-(intOf i).toNat)
 case atStart=>exact⟨0,rfl,Nat.zero_le _,hid ⟨h0,K0⟩⟩
 case round=>
  obtain⟨k,rfl,hk,HW⟩:=hrel
  by_cases hlt:k<ops.length
  ·have hlt':(k:Int)<(ops.length:Int):=by omega
   obtain⟨o,ho⟩:∃o,ops[k]? =some o:=⟨_,List.getElem?_eq_getElem hlt⟩
   obtain⟨g,off,cap',hv,hc⟩:=(HSC.out.keep HW.out.2).at_ ho;simp only[Value.slice.injEq,true_and]at hv;obtain⟨rfl,rfl⟩:=hv;have z0:wr.cell? ⟨g,off+k*14,none⟩=some (.int .i64 o.kind):=hc 0 _ rfl
   by_cases hlo:lo<=o.kind
   ·by_cases hhi:o.kind<=hi
    ·have E:=hid (HST.out wr o (List.mem_of_getElem? ho) hlo hhi HW.out.1 HW.out.2)
     go_wp2_with (refine aY rfl 81 (.tmp 38) rfl g (off+k*14) rfl (opL o) d hc hd eY tR ?_)
     refine hm E ?_;rintro y w2 ⟨rfl,h2,K2⟩;have HW2:=hid (show WI w2/\KB w.heap.size w w2 from⟨h2,Kp.trans HW.out.2 K2⟩);clear E h2 K2;go_wp2
     go_roundw
     case rel=>exact⟨k+1,by go_num,by omega,HW2⟩
     case measure=>simp[intOf];omega
    go_wp2
    go_roundw
    case rel=>exact⟨k+1,by go_num,by omega,HW⟩
    case measure=>simp[intOf];omega
   go_wp2
   go_roundw
   case rel=>exact⟨k+1,by go_num,by omega,HW⟩
   case measure=>simp[intOf];omega
  have hge:¬(k:Int)<(ops.length:Int):=by omega
  have E1:=hid (HEN.out wr HW.out.1 HW.out.2)
  go_wp2_with fail
  refine hm E1 ?_;rintro y w2 ⟨rfl,h2,K2⟩;have K3:KB w.heap.size w w2:=Kp.trans HW.out.2 K2;have E2:=hid (HLK.out w2 h2 K3)
  go_wp2_with fail
  refine hm E2 ?_;rintro y w3 ⟨rfl,K4⟩;go_wp2;go_ret;exact⟨rfl,(show KB w.heap.size w w3 from Kp.trans K3 K4).mono (λi hi x=>by omega)⟩
end
open Go.ChangeShapes Go.WideShapes Go.ChangeAt Go.RowKit Go.Deep
theorem qK{w w':World}(k:Kp (λ_=>False) w w'):Below w.heap.size w w':=⟨k.os,k.tape,k.output,k.size,λi hi=>k.block i hi (λx=>x)⟩
theorem np:ownKnob prog.godebug=none:=by kernel_rfl
theorem qL:laidOutB prog=true:=by kernel_rfl
theorem yK:prog.cellsOf 3=1:=by kernel_rfl
theorem yL:prog.cellsOf 9=1:=by kernel_rfl
theorem Lb:prog.cellsOf 26=6:=by kernel_rfl
theorem Lc:prog.cellsOf 79=3:=by kernel_rfl
theorem Ld:prog.cellsOf 81=14:=by kernel_rfl
section
variable {H:Type} {enc:TypeId×Value->H} {w:World} {base:Nat} {spare:Nat->Bool} {held:Bool}
theorem aaK{n:Nat}{cs:List Value}{x:DataW H×List MemPlace}(h:DataW.trod enc prog w base spare held n 26 cs=some x):
 ∃a:As,cs=[.string a.act,.string a.past,.string a.tm,.int .i64 a.x,.int .i64 a.y,.int .i64 a.z]/\a.act.size<=maxLen/\a.past.size<=maxLen/\a.tm.size<=maxLen:=by
 obtain⟨xs,m,_,_,hl,hlen,hf⟩:=DataW.trod_struct underlying26 h;rw[Lb]at hl
 match cs,hl,hf with
 | [c0,c1,c2,c3,c4,c5],_,hf=>
   match xs,hlen,hf with
   | [x0,x1,x2,x3,x4,x5],_,hf=>
     have g0:=hf 0 _ rfl;have g1:=hf 1 _ rfl;have g2:=hf 2 _ rfl;have g3:=hf 3 _ rfl;have g4:=hf 4 _ rfl;have g5:=hf 5 _ rfl;simp[yK,yL]at g0 g1 g2 g3 g4 g5;obtain⟨s0,e0,_,b0⟩:=DataW.trod_string underlying9 g0;obtain⟨s1,e1,_,b1⟩:=DataW.trod_string underlying9 g1;obtain⟨s2,e2,_,b2⟩:=DataW.trod_string underlying9 g2;obtain⟨s3,e3,_⟩:=DataW.trod_int underlying3 g3;obtain⟨s4,e4,_⟩:=DataW.trod_int underlying3 g4;obtain⟨s5,e5,_⟩:=DataW.trod_int underlying3 g5;simp only[List.cons.injEq,and_true]at e0 e1 e2 e3 e4 e5;exact⟨⟨s0,s1,s2,s3,s4,s5⟩,by rw[e0,e1,e2,e3,e4,e5],b0,b1,b2⟩
theorem aaL{n:Nat}{cs:List Value}{x:DataW H×List MemPlace}(h:DataW.trod enc prog w base spare held n 79 cs=some x):
 ∃(k:Int) (s:ByteArray) (a:Int),cs=[.int .i64 k,.string s,.int .i64 a]:=by
 obtain⟨xs,m,_,_,hl,hlen,hf⟩:=DataW.trod_struct underlying79 h;rw[Lc]at hl
 match cs,hl,hf with
 | [c0,c1,c2],_,hf=>
   match xs,hlen,hf with
   | [x0,x1,x2],_,hf=>
     have g0:=hf 0 _ rfl;have g1:=hf 1 _ rfl;have g2:=hf 2 _ rfl;simp[yK,yL]at g0 g1 g2;obtain⟨s0,e0,_⟩:=DataW.trod_int underlying3 g0;obtain⟨s1,e1,_⟩:=DataW.trod_string underlying9 g1;obtain⟨s2,e2,_⟩:=DataW.trod_int underlying3 g2;simp only[List.cons.injEq,and_true]at e0 e1 e2;exact⟨s0,s1,s2,by rw[e0,e1,e2]⟩
theorem aaM{n:Nat}{cs:List Value}{x:DataW H×List MemPlace}(h:DataW.trod enc prog w base spare held n 81 cs=some x):∃o:qX,cs=opL o/\o.Sm:=by
 obtain⟨xs,m,_,_,hl,hlen,hf⟩:=DataW.trod_struct underlying81 h;rw[Ld]at hl
 match cs,hl,hf with
 | [c0,c1,c2,c3,c4,c5,c6,c7,c8,c9,c10,c11,c12,c13],_,hf=>
   match xs,hlen,hf with
   | [x0,x1,x2,x3,x4,x5,x6],_,hf=>
     have g0:=hf 0 _ rfl;have g1:=hf 1 _ rfl;have g2:=hf 2 _ rfl;have g3:=hf 3 _ rfl;have g4:=hf 4 _ rfl;have g5:=hf 5 _ rfl;have g6:=hf 6 _ rfl;simp[yK,yL,Lb,Lc]at g0 g1 g2 g3 g4 g5 g6;obtain⟨s0,e0,_⟩:=DataW.trod_int underlying3 g0;obtain⟨s1,e1,_,b1⟩:=DataW.trod_string underlying9 g1;obtain⟨s2,e2,_,b2⟩:=DataW.trod_string underlying9 g2;obtain⟨a,e3,b3,b4,b5⟩:=aaK g3;obtain⟨s4,e4,_⟩:=DataW.trod_int underlying3 g4;obtain⟨s5,e5,_⟩:=DataW.trod_int underlying3 g5;obtain⟨rk,re,ra,e6⟩:=aaL g6;simp only[List.cons.injEq,and_true]at e0 e1 e2 e3 e4 e5 e6;obtain⟨f0,f1,f2,f3,f4,f5⟩:=e3;obtain⟨h0,h1,h2⟩:=e6;exact⟨⟨s0,s1,s2,a,s4,s5,rk,re,ra⟩,by rw[e0,e1,e2,f0,f1,f2,f3,f4,f5,e4,e5,h0,h1,h2];rfl,⟨b1,b2,b3,b4,b5⟩⟩
end
theorem kb{H:Type}{enc:TypeId×Value->H}{W:World}{base:Nat}{v:Value}{d:DataW H}{p:List MemPlace}(hv:Value.okWide prog W .any base 22 v)
 (h:DataW.Trod enc prog W 0 (λ_=>true) true 22 v d p):∃ops:List qX,Mp W v ops/\ops.length<=maxLen/\∀o∈ops,o.Sm:=by
 obtain⟨fuel,hf⟩:=h;obtain⟨a0,len,cap,rfl⟩:=okWide_slice underlying22 hv
 rcases open_slice underlying22 hf with⟨hcs,_⟩|⟨a,len',cap',m,n,D,Pl,hcs,hb,hl,hm,hmm,_,hel⟩
 ·simp[Value.cells]at hcs
  obtain⟨rfl,rfl,rfl⟩:=hcs;exact⟨[],.inl ⟨⟨_,_,rfl⟩,rfl⟩,Nat.zero_le _,by simp⟩
 simp[Value.cells]at hcs;obtain⟨rfl,rfl,rfl⟩:=hcs;simp only[if_true]at hmm;subst hmm;rw[Ld]at hel
 have hex:∀i,i<len->∃o:qX,o.Sm/\∀j u,(opL o)[j]? =some u->W.cell? (a.add (i*14+j))=some u:=by
  intro i hi;obtain⟨cs',hc,ht⟩:=hel i (by omega);obtain⟨o,rfl,hsm⟩:=aaM ht;obtain⟨_,_,hcell⟩:=World.cells?_some hc;refine⟨o,hsm,λj u hu=>?_⟩
  have hj:j<14:=by have:=(List.getElem?_eq_some_iff.1 hu).1;simpa[opL]using this
  rw[<-Go.Deep.add_add,hcell j hj];exact hu
 have:Inhabited qX:=⟨⟨0,⟨#[]⟩,⟨#[]⟩,⟨⟨#[]⟩,⟨#[]⟩,⟨#[]⟩,0,0,0⟩,0,0,0,⟨#[]⟩,0⟩⟩
 obtain⟨f,hf'⟩:=choose_lt hex
 by_cases hz:len=0
 ·subst hz
  exact⟨[],.inl ⟨⟨_,_,rfl⟩,rfl⟩,Nat.zero_le _,by simp⟩
 obtain⟨b,off,spot⟩:=a
 have hspot:spot=none:=by
  have:=(hf' 0 (by omega)).2 0 _ rfl;simpa[Addr.add]using World.cell?_spot this
 subst hspot;refine⟨(List.range len).map f,.inr ⟨b,off,m,by simp,λi o ho j u hu=>?_⟩,by simp;omega,λo ho=>?_⟩
 rotate_left
 ·obtain⟨i,hi,rfl⟩:=List.mem_map.1 ho
  exact(hf' i (by simpa using hi)).1
 rw[List.getElem?_map,Option.map_eq_some_iff]at ho;obtain⟨i',hi',rfl⟩:=ho
 have hlt:i'<len/\i=i':=by
  have:=(List.getElem?_eq_some_iff.1 hi').1;rw[List.getElem?_range (by simpa using this)]at hi';simp at hi' this;omega
 obtain⟨hlt,rfl⟩:=hlt;have:=(hf' i hlt).2 j u hu;rw[show off+i*14+j=off+(i*14+j)by omega];unfold Addr.add at this
 split at this<;>simp_all
def WlZ(wb:Nat)(W:World):Prop:=W.heap[wb]? =some (.cells #[.slice none 0 0,.slice none 0 0,.slice none 0 0,.slice none 0 0,.slice none 0 0,.int .i64 0] 77 (0,0))
def Y4(a:As):List Value:=[.string a.act,.string a.past,.string a.tm,.int .i64 a.x,.int .i64 a.y,.int .i64 a.z]
theorem ns{w:World}{ob:Nat}{o:qX}(h:w.heap[ob]? =some (.cells (jR o) 81)):∀j v,(Y4 o.s)[j]? =some v->w.cell? ⟨ob,3+j,none⟩=some v:=by
 intro j v hj;rw[World.cell?,h];have hlt:=(List.getElem?_eq_some_iff.1 hj).1;have:j<6:=hlt
 rcases(by omega:j=0\/j=1\/j=2\/j=3\/j=4\/j=5)with rfl|rfl|rfl|rfl|rfl|rfl<;>exact hj
section
variable (w:World)
theorem uL(e:Int):
 Calls prog 93 #[.int .i64 e] w λx w'=>x= .returned (.int .i64 e)/\w'=w:=by
 go_enter func93,ntmps93
 go_wp2;go_ret;exact⟨rfl,rfl⟩
end
section
variable (w:World) (wb:Nat)
theorem jO(h:WlZ wb w):
 Calls prog 40 #[.pointer (some ⟨wb,0,none⟩)] w λx w'=>x= .returned (.bool true)/\w'=w:=by
 have c0:w.cell? ⟨wb,0,none⟩=some (.slice none 0 0):=by rw[World.cell?,h];rfl
 go_enter func40,ntmps40
 go_wp2
 go_loop [3] (λi=>i= .int .i64 0) (λ_=>0)
 case atStart=>rfl
 case round=>
  subst hrel;go_wp2;go_ret;exact⟨rfl,rfl⟩
theorem jr(h:WlZ wb w):
 Calls prog 41 #[.pointer (some ⟨wb,0,none⟩)] w λx w'=>x= .returned (.bool true)/\w'=w:=by
 have c1:w.cell? ⟨wb,1,none⟩=some (.slice none 0 0):=by rw[World.cell?,h];rfl
 have c2:w.cell? ⟨wb,2,none⟩=some (.slice none 0 0):=by rw[World.cell?,h];rfl
 go_enter func41,ntmps41
 go_wp2
 go_loop [3] (λi=>i= .int .i64 0) (λ_=>0)
 case atStart=>rfl
 case round=>
  subst hrel;go_wp2
  go_loop [5] (λi=>i= .int .i64 0) (λ_=>0)
  case atStart=>rfl
  case round=>
   subst hrel;go_wp2;go_ret;exact⟨rfl,rfl⟩
end
end Go.Proofs.YtnlbchmfcebeeaaGreat
