import Derived.Test.YtnlbchmfcebeeaaGreatTZi
set_option maxHeartbeats 12800000
set_option maxRecDepth 100000
namespace Go.Proofs.YtnlbchmfcebeeaaGreat
open Go.Proofs.Tryz Ch
open Go.RowKit
namespace Ch
theorem KU(ss:List St)(c:Int):place ss c<ss.length:=by
 by_cases h:place ss c= -2
 ·rw[h];omega
 obtain⟨g,h1,h2⟩:=Bk h;rw[h1];omega
theorem aaG{ss:List St}(s:Sd){g:Int}(h:g<ss.length):goal ss s g<ss.length:=by
 unfold goal
 split
 ·exact h
 split
 ·unfold cH
  rcases pX ss (aw ss g) ss.length 0 with⟨e,_⟩|⟨j,_,h1,_,e⟩
  ·rw[e];omega
  first|rw[e.1];omega|rw[e];omega
 exact KU _ _
theorem XD(ol:Ol)(s:Sd)(t:Int):gJ ol s t<ol.ag.length:=by
 unfold gJ
 split
 ·split
  ·omega
  exact aaG s (KU _ _)
 omega
theorem Cx{ol:Ol}{s s':Sd}(e:s'.past=s.past)(t:Int):gJ ol s' t=gJ ol s t:=by
 unfold gJ goal aR;rw[e]
theorem Hr(ol:Ol):∀(a b:List Int) (m:Ma),dQ ol (a++b) m=dQ ol b (dQ ol a m):=by
 intro a
 induction a with
 |nil=>intro b m;rfl
 |cons x a ih=>intro b m;exact ih b _
theorem OQ(ol:Ol){l:List Int}{k:Nat}{t:Int}(h:l[k]? =some t)(m:Ma):dQ ol (l.take (k+1)) m=cJ (kD ol t.toNat) (dQ ol (l.take k) m):=by
 rw[List.take_add_one,h,Hr];rfl
end Ch
theorem lW.beside{w w':World}{B B2 xb cb g:Nat}{pv v:Value}{l:List NV}{ol:Ol}{m:Ma}(h:lW w B B2 xb cb g pv v l ol m){base sz:Nat}{u:Value}{n:Nat}{xs:List Value}(hu:w.ownsRow base 3 sz u n xs)(k:Kp (λi=>u.ownBlock=some i) w w'):lW w' B B2 xb cb g pv v l ol m:=by
 obtain⟨on,ho,hs⟩:=h.on
 exact⟨h.nb.keep k (own_ne hu h.nb (by decide)),⟨on,k.at_ ho (own_ne hu ho (by decide)),hs⟩,eu.keep h.ps k (λj hj e=>eu.apart h.ps hu (by decide) j e hj),h.ch.A4 k (λi cur T hi _ hT e=>by
  rcases hT with h'|h'|h'|h'<;>subst h'<;>exact own_ne hu hi (by decide) e)⟩
section
variable (w:World) (B B2 xb cb g:Nat) (pv v:Value) (l:List NV) (ol:Ol) (m:Ma)
theorem vH(N B3:Nat)(list:List Int)(lw:Value)(h:lW w B B2 xb cb g pv v l ol m)(hR:Rf l ol)(hI:Ch.Inv ol m.s)(hM:o_ m N)(hN:N<=880000000)(hll:list.length<=16)(hin:InT ol list)(hsrc:∀t∈list,Ch.Src ol m.s t)(hcl:Ch.Clear ol m.s list)(Qt:w.ownsRow B3 301 2 lw list.length (eS ol list)):
 Calls prog 206 #[.pointer (some ⟨xb,0,none⟩),lw] w λy w'=>y= .returned (.tuple #[])/\lW w' B B2 xb cb g pv v l ol (cd ol m list)/\Kp (nS xb g pv) w w':=by
 obtain⟨i0,hi0,hz0,hz1,hz2⟩:=info_parts lI;obtain⟨d,hd,eY⟩:=Cr;have hle:=hR.le;obtain⟨la,lc,rfl⟩:=aF Qt
 by_cases hl0:list.length=0
 ·obtain rfl:list=[]:=List.length_eq_zero_iff.1 hl0
  rw[Er hR.iP hI];have HX:=hid h;clear h hM Qt hsrc hcl hin hI
  go_enter func206,ntmps206
  go_wp2;refine bodyPost_ret (results_none rfl _ _ _) rfl ?_;exact⟨rfl,HX.out,Kp.refl _ _⟩
 have hl0':((list.length:Int)==0)=false:=by rw[beq_eq_false_iff_ne];omega
 have E0:=hid (Hq w B B2 xb cb g pv v l ol m N B3 list _ h hR hI hM hN hll hin Qt);have agt:=(yr hR.iP hI hsrc hcl).1;have hmid:mid ol m list=dQ ol list (bP ol (bO ol m.s list) ol.ag.length {m with s:=Ch.rem ol.ag m.s (bO ol m.s list)}):=rfl;have hMl:=(hM.rem (ol:=ol) (bO ol m.s list)).leave hR.ok hR.uX (bO ol m.s list) ol.ag.length;obtain⟨_,hp1,hp2⟩:=Bg ol (bO ol m.s list) ol.ag.length {m with s:=Ch.rem ol.ag m.s (bO ol m.s list)} (by show ol.ag.length<=m.s.act.length;rw[hI.la,hR.len];exact hle);have hpo:=(Jv hR.iP hI.past hI.lp (bO ol m.s list)).same hp1
 have hlp:(bP ol (bO ol m.s list) ol.ag.length {m with s:=Ch.rem ol.ag m.s (bO ol m.s list)}).s.past.length=16:=by
  rw[hp1];show(Ch.rem ol.ag m.s _).past.length=16;unfold Ch.rem;rw[wo];exact hI.lp
 rw[agt,hmid];rw[<-OF (λk=>TM _ k list)];generalize bP ol (bO ol m.s list) ol.ag.length {m with s:=Ch.rem ol.ag m.s (bO ol m.s list)}=ml at*;rw[hR.len]at hMl;have hap:=wP ol list ml;have hgm:list.map (gJ ol (dQ ol list ml).s)=list.map (gJ ol ml.s):=List.map_congr_left (λt _=>Cx hap.2 t);rw[hgm];have HIN:=hid hin;have HL:=hid (ae Qt (h.tf Qt (by decide) (by decide) (by decide)));have HP:=hid (ae hpo (ae hlp (ae hMl hI)));clear h hM Qt hsrc hcl hin hI agt hmid hap hgm hp1 hp2 hpo hlp hMl
 go_enter func206,ntmps206
 go_wp2_with fail
 refine hm E0 ?_;rintro z w2 ⟨rfl,X2,K2⟩;have vi:=hid (ae X2 (ae (K2.owns HL.out.1 HL.out.2) K2));clear E0 X2 K2
 go_wp2_with fail
 go_loopw [4,5] (λgv kv wr=>∃k:Nat,kv= .int .i64 k/\k<=list.length/\wr.ownsRow w2.heap.size 3 1 gv k (aJ ((list.take k).map (gJ ol ml.s)))/\Hid (lW wr B B2 xb cb g pv v l ol (dQ ol (list.take k) ml))/\Hid (o_ (dQ ol (list.take k) ml) (N+115200*l.length+480*k))/\Kp (nS xb g pv) w2 wr) (λ_ kv _=>list.length-(intOf kv).toNat)
 case atStart=>exact⟨0,rfl,Nat.zero_le _,World.ownsRow_nil _ _ _ _,hid vi.out.1,hid HP.out.2.2.1,Kp.refl _ _⟩
 case round=>
  obtain⟨k,rfl,hk,hgr,HXk,HMk,KW⟩:=hrel
  by_cases hlt:k<list.length
  ·have hlt':(k:Int)<(list.length:Int):=by omega
   obtain⟨ti,hti⟩:∃ti,list[k]? =some ti:=⟨_,List.getElem?_eq_getElem hlt⟩
   have agf:=HIN.out ti (List.mem_of_getElem? hti)
   obtain⟨t,rfl⟩:∃t:Nat,ti=t:=⟨ti.toNat,by omega⟩
   obtain⟨a,nd,rt,x,hsa,aaA,hmr⟩:=hR.mv (t:=t) (by omega);have hlr:=KW.owns vi.out.2.1 HL.out.2;obtain⟨g2,cap2,hv2,_⟩:=World.ownsRow.form hlr (by omega);simp only[Value.slice.injEq]at hv2;obtain⟨rfl,-,rfl⟩:=hv2;obtain⟨q0,q1⟩:=lB ol list k t hti;rw[Int.toNat_natCast]at q0 q1;rw[hsa]at q0;have z0:=(World.ownsRow.cellAt hlr (k*2) (by omega)).trans q0;have z1:=(World.ownsRow.cellAt hlr (k*2+1) (by omega)).trans q1;have E1:=hid (Fx wr B xb cb g l.length pv _ l v a _ nd rt HXk.out.nb HXk.out.ch hmr.hnd hmr.hrt)
   have hao:kD ol t=x.acts:=by unfold kD;rw[hmr.htr]
   have hsn:=OQ ol hti ml;rw[Int.toNat_natCast,hao]at hsn
   have hgs:(list.take (k+1)).map (gJ ol ml.s)=(list.take k).map (gJ ol ml.s)++[gJ ol ml.s t]:=by rw[List.take_add_one,hti,List.map_append];rfl
   have hac:(∀a∈x.acts,uB a)/\x.acts.length<=240:=⟨hmr.hok.ac,(hR.ok.iX x (List.mem_of_getElem? hmr.htr)).1⟩
   have hap:=wP ol (list.take k) ml;have HS:=hid (ae hsn (ae hgs (ae hac (ae hap (ae hgr KW)))));clear hlr q0 q1 hao hsn hgs hac hap hgr KW
   go_wp2_with fail
   refine hm E1 ?_;rintro y w3 ⟨rfl,K3⟩;have E2:=hid (TP w3 rt x hmr.hok (by have:=hmr.hsz;omega));have sf:=hid (ae (HXk.out.ai K3) (HS.out.2.2.2.2.2.trans' K3 (λ_ _ x=>x.elim)));have HG3:=hid (K3.owns HS.out.2.2.2.2.1 (λ_ _ x=>x));clear E1 K3 z0 z1
   go_wp2_with fail
   refine hm E2 ?_;rintro y w3' ⟨s,rfl,hs,rfl⟩;have E3:=hid (yG w3' xb cb g l.length pv _ x.acts s sf.out.1.nb hs.1 HS.out.2.2.1.1 HMk.out.ok HMk.out.tm ⟨by have:=HMk.out.sz.1;omega,by have:=HMk.out.sz.2;omega⟩ (by have:=HS.out.2.2.1.2;omega) hs.2);clear E2 hs
   go_wp2_with fail
   refine hm E3 ?_;rintro y w4 ⟨rfl,N4,K4⟩;have X4:=sf.out.1.acts K4 N4 (p_ _ _);have vT:Kp (nS xb g pv) w2 w4:=sf.out.2.trans' K4 (λ_ _ e=>.inl e);have hG4:=K4.owns HG3.out (λj hj e=>own_ne HG3.out sf.out.1.nb (by decide) (by rw[hj,e]));have M4:=HMk.out.acts HS.out.2.2.1.1 HS.out.2.2.1.2;rw[<-HS.out.1]at X4 M4;have hlr:=vT.owns vi.out.2.1 HL.out.2;obtain⟨q0,q1⟩:=lB ol list k t hti;rw[Int.toNat_natCast]at q0 q1;rw[hsa]at q0;have z0:=(World.ownsRow.cellAt hlr (k*2) (by omega)).trans q0;have z1:=(World.ownsRow.cellAt hlr (k*2+1) (by omega)).trans q1;have aaH:=wP ol (list.take (k+1)) ml
   have hIk:Ch.Inv ol {(dQ ol (list.take (k+1)) ml).s with act:=m.s.act}:=⟨HP.out.2.2.2.conf,HP.out.1.same aaH.2,HP.out.2.2.2.la,by show(dQ ol (list.take (k+1)) ml).s.past.length=16;rw[aaH.2];exact HP.out.2.1⟩
   have E5:=hid (Ua w4 B B2 xb cb g pv {(dQ ol (list.take (k+1)) ml)with s:={(dQ ol (list.take (k+1)) ml).s with act:=m.s.act}} l v ol t a _ nd rt x X4.nb X4.ps hIk X4.ch hR hmr);have hge:gJ ol {(dQ ol (list.take (k+1)) ml).s with act:=m.s.act} t=gJ ol ml.s t:=Cx aaH.2 t;rw[hge]at E5;have HX4:=hid (ae X4 (ae M4 (ae vT hG4)));clear E3 N4 K4 X4 vT hG4 M4 hlr q0 q1 aaH hIk hge sf HG3 HXk HMk
   go_wp2_with fail
   refine hm E5 ?_;rintro y w5 ⟨rfl,K5⟩;have hG5:=K5.owns HX4.out.2.2.2 (λ_ _ x=>x);have adE:Kp (nS xb g pv) w2 w5:=HX4.out.2.2.1.trans' K5 (λ_ _ x=>x.elim);have X5:=HX4.out.1.ai K5;have hsz5:=adE.size;have HX5:=hid (ae X5 (ae adE HX4.out.2.1));have HGS:=hid HS.out.2.1;clear E5 K5 X5 adE HX4 HS z0 z1
   go_wp2_with (at_builtin;refine wpList_append_own (P:=prog) _ rfl (.tmp 36) (.tmp 38) 38 rfl w2.heap.size 3 i0 (.int .i64 0) 1 8 underlying38 hi0 hz0 hz1 hz2 rfl (by decide) u4 k (aJ ((list.take k).map (gJ ol ml.s))) rfl (by exact World.ownsRow.alloc hG5 _) ⟨w5.heap.size,0,none⟩ 1 1 [.int .i64 (gJ ol ml.s t)] rfl rfl (by exact eO _ _ _) (by intro u hu;simp at hu;subst hu;rfl) (by unfold maxLen;omega) (by omega) (by simp;omega) ?_)
   intro v' w9 o9 g9 _;have K9:Kp (λi=>u4.ownBlock=some i) w5 w9:=((Kp.refl (λi=>u4.ownBlock=some i) w5).alloc (.cells #[.int .i64 (gJ ol ml.s t)] 3)).grown (by exact g9) (λj hj _=>hj);have X9:=HX5.out.1.beside hG5 K9;have KW9:Kp (nS xb g pv) w2 w9:=HX5.out.2.1.trans' K9 (λi hi e=>by have:=(World.ownsRow.lt hG5 i e).1;omega);have HO:=hid (ae o9 (ae X9 (ae KW9 HX5.out.2.2)));clear o9 g9 K9 X9 KW9 hG5 HX5;go_wp2
   go_roundw
   case rel=>
    refine⟨k+1,by go_num,by omega,?_,hid HO.out.2.1,hid (HO.out.2.2.2.le (by omega)),HO.out.2.2.1⟩;rw[HGS.out];have:=HO.out.1;simpa[aJ]using this
   case measure=>simp[intOf];omega
  have hge:¬(k:Int)<(list.length:Int):=by omega
  obtain rfl:k=list.length:=by omega
  have hXk:=HXk.out;have hMk:=HMk.out;rw[List.take_length]at hXk hMk hgr
  have hgo:∀x∈list.map (gJ ol ml.s),x<(l.length:Int):=λx hx=>by
   obtain⟨t,_,rfl⟩:=List.mem_map.1 hx;rw[<-hR.len];exact XD _ _ _
  have E6:=hid (ve wr B B2 xb cb g pv v l ol _ (N+115200*l.length+480*list.length) w2.heap.size (list.map (gJ ol ml.s)) u4 hXk hR hMk (by omega) (by simpa using hll) hgo (by rw[List.length_map];exact hgr));have HK:=hid (vi.out.2.2.trans KW);clear hXk hMk hgr hgo HXk HMk KW
  go_wp2_with fail
  refine hm E6 ?_;rintro y w7 ⟨rfl,X7,K7⟩;have HX7:=hid (ae X7 (HK.out.trans K7));clear E6 X7 K7 HK
  go_wp2_with fail
  go_end0
  exact⟨rfl,HX7.out.1,HX7.out.2⟩
end
namespace Ch
theorem QB.mP{ol:Ol}(hn:ZQ ol)(hA:pw ol):∀(l:List Nat) {m:Ma},QB m->QB (mP ol l m):=by
 intro l
 induction l with
 |nil=>intro m hp;exact hp
 |cons a l ih=>?_
 intro m hp;simp only[Ch.mP];refine ih ?_
 split
 ·exact hp
 exact hp.bY hn hA a
theorem XE{a:Int}{q:List Int}(h0:0<=a)(h1:a<256):af (strOfNums (a::q)) 0=a:=by
 have hs:(strOfNums (a::q)).size=q.length+1:=by rw[strOfNums_size];rfl
 unfold af;rw[dif_pos (by omega)];show((UInt8.ofNat a.toNat).toNat:Int)=a;rw[UInt8.toNat_ofNat'];omega
theorem XF(a:Int)(q:List Int):(strOfNums (a::q)).extract 1 (strOfNums (a::q)).size=strOfNums q:=by
 apply ByteArray.ext;rw[strOfNums_size];simp[strOfNums,ByteArray.data_extract];exact List.take_of_length_le (by simp)
theorem XG(a:Int)(q:List Int):strOfNums (a::q)≠⟨#[]⟩:=λe=>by
 have:=congrArg ByteArray.size e;rw[strOfNums_size]at this;simp[ByteArray.size]at this
theorem XH{ol:Ol}{m:Ma}(h1:(choose ol m.s 46).length=0)(h2:m.q=[]):busy ol m=false:=by unfold busy;rw[h1,h2];rfl
theorem adF{ol:Ol}{m:Ma}{a:Int}{q:List Int}(h2:m.q=a::q):busy ol m=true:=by unfold busy;rw[h2];simp
theorem adG{ol:Ol}{m:Ma}(h1:(choose ol m.s 46).length≠0):busy ol m=true:=by unfold busy;simp;omega
theorem zl{ol:Ol}{m:Ma}(h:busy ol m=false)(n:Nat):b9 ol n m=(true,m):=by
 cases n with
 |zero=>simp only[b9,h];rfl
 |succ n=>simp only[b9,h];rfl
theorem Hs{ol:Ol}{m:Ma}(h:busy ol m=true):b9 ol 0 m=(false,m):=by simp only[b9,h];rfl
theorem Ui{ol:Ol}{m:Ma}{a:Int}{q:List Int}(h1:(choose ol m.s 46).length=0)(h2:m.q=a::q)(n:Nat):b9 ol (n+1) m=b9 ol n (cd ol {m with q:=q} (choose ol m.s a)):=by
 simp only[b9,adF h2,if_true];unfold round;rw[h1,h2];rfl
theorem Uj{ol:Ol}{m:Ma}(h1:(choose ol m.s 46).length≠0)(n:Nat):b9 ol (n+1) m=b9 ol n (cd ol m (choose ol m.s 46)):=by
 simp only[b9,adG h1,if_true];unfold round
 have:((choose ol m.s 46).length==0)=false:=by rw[beq_eq_false_iff_ne];exact h1
 rw[this];rfl
end Ch
section
variable (B B2 xb cb g:Nat) (pv v:Value) (l:List NV) (ol:Ol)
theorem Cy(hR:Rf l ol):∀(n:Nat) (w:World) (m:Ma) (N:Nat),lW w B B2 xb cb g pv v l ol m->Ch.Inv ol m.s->o_ m N->QB m->N+3900000*n<=880000000->
 Calls prog 203 #[.pointer (some ⟨xb,0,none⟩),.int .i64 n] w λy w'=>y= .returned (.bool (b9 ol n m).1)/\lW w' B B2 xb cb g pv v l ol (b9 ol n m).2/\Kp (nS xb g pv) w w':=by
 intro n
 induction n with
 |zero=>
  intro w m N h hI hM hQ hN;obtain⟨on,hon,hso⟩:=h.on;have E0:=hid (oM w B xb cb g pv m l v ol 46 on h.nb hon hso hI h.ch hR);have hc16:=j5 hR.ok m.s 46;have c7:w.cell? ⟨xb,7,none⟩=some (.string (strOfNums m.q)):=h.nb.cell 7;have HX:=hid h
  cases qb:Ch.busy ol m with
  |false=>
   have hc0:(Ch.choose ol m.s 46).length=0:=by unfold Ch.busy at qb;simp at qb;simp[qb.1]
   have hq:m.q=[]:=by unfold Ch.busy at qb;simp at qb;exact qb.2
   have HN:=hid (zl qb 0);rw[hq]at c7;replace c7:w.cell? ⟨xb,7,none⟩=some (.string ⟨#[]⟩):=c7;rw[hc0]at E0;clear h hI hM hQ hon hso hq hc16 hc0 qb
   go_enter func203,ntmps203
   go_wp2_with fail
   refine hm E0 ?_;rintro y w2 ⟨u,rfl,hu,K2⟩;obtain⟨ua,uc,rfl⟩:=aF hu;have d7:=K2.bj c7;have vi:=hid (ae (HX.out.ai K2) K2);clear E0 hu K2 c7 HX;go_wp2;go_ret;rw[HN.out];exact⟨rfl,vi.out.1,vi.out.2.mono (λ_ _ x=>x.elim)⟩
  |true=>?_
  have HN:=hid (Hs qb)
  have hor:(Ch.choose ol m.s 46).length≠0\/strOfNums m.q≠⟨#[]⟩:=by
   cases hq:m.q with
   |nil=>left;unfold Ch.busy at qb;rw[hq]at qb;simp at qb;omega
   |cons a q=>right;exact XG a q
  generalize strOfNums m.q=S at*;generalize (Ch.choose ol m.s 46).length=cl at*;have hE0:=E0.out;generalize eS ol (Ch.choose ol m.s 46)=mc at*;have E1:=hid hE0;clear h hI hM hQ hon hso qb E0 hE0
  have hcl0:(cl:Int)<=16:=by omega
  by_cases c:cl=0
  ·subst c
   have hS:S≠⟨#[]⟩:=by rcases hor with h|h;exact absurd rfl h;exact h
   have hS2:S.toList.isEmpty=false:=by rw[<-decide_eq_emptyBytes];exact decide_eq_false hS
   clear hor hc16
   go_enter func203,ntmps203
   go_wp2_with fail
   refine hm E1 ?_;rintro y w2 ⟨u,rfl,hu,K2⟩;obtain⟨ua,uc,rfl⟩:=aF hu;have d7:=K2.bj c7;have vi:=hid (ae (HX.out.ai K2) K2);clear E1 hu K2 c7 HX;go_wp2;go_ret;rw[HN.out];exact⟨rfl,vi.out.1,vi.out.2.mono (λ_ _ x=>x.elim)⟩
  have c':((cl:Int)==0)=false:=by rw[beq_eq_false_iff_ne];omega
  clear hor
  go_enter func203,ntmps203
  go_wp2_with fail
  refine hm E1 ?_;rintro y w2 ⟨u,rfl,hu,K2⟩;obtain⟨ua,uc,rfl⟩:=aF hu;have d7:=K2.bj c7;have vi:=hid (ae (HX.out.ai K2) K2);clear E1 hu K2 c7 HX;go_wp2;go_ret;rw[HN.out];exact⟨rfl,vi.out.1,vi.out.2.mono (λ_ _ x=>x.elim)⟩
 |succ n ih=>?_
 intro w m N h hI hM hQ hN;obtain⟨on,hon,hso⟩:=h.on;have E0:=hid (oM w B xb cb g pv m l v ol 46 on h.nb hon hso hI h.ch hR);have hc16:=j5 hR.ok m.s 46;have c7:w.cell? ⟨xb,7,none⟩=some (.string (strOfNums m.q)):=h.nb.cell 7
 obtain⟨nn,hnn⟩:∃x:Int,x=((n+1:Nat):Int):=⟨_,rfl⟩
 rw[<-hnn]
 have hn1:nn-1=n:=by omega
 have hn0:(nn==0)=false:=by rw[beq_eq_false_iff_ne];omega
 have hna:1<=nn:=by omega
 have hnb:nn<=1000:=by omega
 clear hnn
 by_cases hc0:(Ch.choose ol m.s 46).length=0
 ·cases hq:m.q with
  |nil=>
   have HN:=hid (zl (XH hc0 hq) (n+1));rw[hq]at c7;replace c7:w.cell? ⟨xb,7,none⟩=some (.string ⟨#[]⟩):=c7;have HX:=hid h;rw[hc0]at E0;clear h hI hM hQ hon hso hq hc16 ih hc0
   go_enter func203,ntmps203
   go_wp2_with fail
   refine hm E0 ?_;rintro y w2 ⟨u,rfl,hu,K2⟩;obtain⟨ua,uc,rfl⟩:=aF hu;have d7:=K2.bj c7;have vi:=hid (ae (HX.out.ai K2) K2);clear E0 hu K2 c7 HX;go_wp2;go_ret;rw[HN.out];exact⟨rfl,vi.out.1,vi.out.2.mono (λ_ _ x=>x.elim)⟩
  |cons a q=>
   have hab:=hQ a (by rw[hq];simp);have abS:=j5 hR.ok m.s a;have HN:=hid (Ui hc0 hq n)
   have hM':o_ {m with q:=q} N:=⟨hM.ok,hM.tm,⟨by have:=hM.sz.1;rw[hq]at this;show q.length<=N;simp at this;omega,hM.sz.2⟩⟩
   have hQ':QB {m with q:=q}:=λx hx=>hQ x (by rw[hq];exact List.mem_cons_of_mem _ hx)
   have hI':Ch.Inv ol ({m with q:=q}:Ma).s:=hI;have hck:=ql hR.iP hI' a;have hin:=(j4 ol m.s a).1;have Ub:=hid (ae (hM'.cd hR.ok hR.uX abS) (ae (hQ'.cd hR.YW hR.uX (Ch.choose ol m.s a)) (iC hR.iP hI' a)));rw[hq]at c7
   have hS1:0<(strOfNums (a::q)).size:=by rw[strOfNums_size];simp
   have yS:(strOfNums (a::q)).size<=880000001:=by
    have:=hM.sz.1;rw[hq]at this;rw[strOfNums_size];omega
   have hS2:(strOfNums (a::q)).toList.isEmpty=false:=by rw[<-decide_eq_emptyBytes];exact decide_eq_false (XG a q)
   have hpk:(((strOfNums (a::q))[0]'hS1).toNat:Int)=a:=by
    have:=XE (q:=q) hab.1 hab.2;unfold af at this;rw[dif_pos hS1]at this;exact this
   have htl:=XF a q;have HX:=hid (ae h (ae hM' hI'));have HCK:=hid (ae hck hin);have Y0:=hid ih;rw[hc0]at E0;generalize strOfNums (a::q)=S at*
   have apP:(0:Int)<(S.size:Int):=by omega
   have amK:(1:Int)<=(S.size:Int):=by omega
   have HTL:=hid htl;have HPK:=hid hpk;have HNN:=hid hN;have HN1:=hid hn1;clear h hI hM hQ hon hso hq hc16 ih hc0 hM' hQ' hI' hck hin htl hpk hN hn1 hab
   go_enter func203,ntmps203
   go_wp2_with fail
   refine hm E0 ?_;rintro y w2 ⟨u,rfl,hu,K2⟩;obtain⟨ua,uc,rfl⟩:=aF hu;have d7:=K2.bj c7;have hX2:=HX.out.1.ai K2;have f7:=hX2.nb.free 7;have K3:Kp (λk=>k=xb) w2 (w2.setCell ⟨xb,7,none⟩ (.string (strOfNums q))):=(Kp.refl _ _).setCell (by intro _;rfl) _;have hX3:lW (w2.setCell ⟨xb,7,none⟩ (.string (strOfNums q))) B B2 xb cb g pv v l ol {m with q:=q}:=hX2.acts K3 (hX2.nb.MR q) (jZ.refl _);have sf:=hid (ae hX3 ((K2.mono (S':=nS xb g pv) (λ_ _ x=>x.elim)).trans' K3 (λ_ _ e=>.inl e)));clear E0 hu K2 c7 hX2 hX3 K3
   go_wp2_with fail
   rw[HTL.out,HPK.out];generalize w2.setCell ⟨xb,7,none⟩ (.string (strOfNums q))=w3 at*;obtain⟨on3,zM,agv⟩:=sf.out.1.on;have E1:=hid (oM w3 B xb cb g pv _ l v ol a on3 sf.out.1.nb zM agv HX.out.2.2 sf.out.1.ch hR);clear zM agv d7 f7;replace E1:Hid (Calls prog 205 #[.pointer (some ⟨xb,0,none⟩),.int .u8 a] w3 λy w'=>∃u,y= .returned u/\w'.ownsRow w3.heap.size 301 2 u (Ch.choose ol m.s a).length (eS ol (Ch.choose ol m.s a))/\Kp (λ_=>False) w3 w'):=E1;generalize Ch.choose ol m.s a=cs at*;refine hm E1 ?_;rintro y w4 ⟨u4,rfl,Vg,K4⟩;obtain⟨ua4,uc4,rfl⟩:=aF Vg;have hX4:=sf.out.1.ai K4;have E2:=hid (vH w4 B B2 xb cb g pv v l ol _ N _ cs _ hX4 hR HX.out.2.2 HX.out.2.1 (by have:=HNN.out;omega) abS HCK.out.2 HCK.out.1.2 HCK.out.1.1 Vg);have Vl:=hid (sf.out.2.trans' K4 (λ_ _ x=>x.elim));clear E1 Vg K4 HX hX4 sf
   go_wp2_with fail
   refine hm E2 ?_;rintro y w5 ⟨rfl,X5,K5⟩;have E3:=hid (Y0.out w5 _ _ X5 Ub.out.2.2 Ub.out.1 Ub.out.2.1 (by have:=HNN.out;omega));have rL:=hid (Vl.out.trans K5);clear E2 X5 K5 Vl Y0;rw[<-HN.out]at E3
   go_wp2_with fail
   rw[HN1.out];refine hm E3 ?_;rintro y w6 ⟨rfl,X6,K6⟩;have HX6:=hid (ae X6 (rL.out.trans K6));clear E3 X6 K6 rL;go_wp2;go_ret;exact⟨rfl,HX6.out.1,HX6.out.2⟩
 have hc0':(((Ch.choose ol m.s 46).length:Int)==0)=false:=by rw[beq_eq_false_iff_ne];omega
 have HN:=hid (Uj hc0 n);have hck:=ql hR.iP hI 46;have hin:=(j4 ol m.s 46).1;have Ub:=hid (ae (hM.cd hR.ok hR.uX hc16) (ae (hQ.cd hR.YW hR.uX (Ch.choose ol m.s 46)) (iC hR.iP hI 46)));have HH:=hid (ae h (ae hI hM));have HCK:=hid (ae hck hin);have Y0:=hid ih;generalize Ch.choose ol m.s 46=cs at*;generalize strOfNums m.q=S at c7;have HNN:=hid hN;have HN1:=hid hn1;clear hN hn1;clear h hI hM hQ hon hso ih hck hin hc0
 go_enter func203,ntmps203
 go_wp2_with fail
 refine hm E0 ?_;rintro y w2 ⟨u,rfl,hu,K2⟩;obtain⟨ua,uc,rfl⟩:=aF hu;have d7:=K2.bj c7;have hX2:=HH.out.1.ai K2;have E1:=hid (vH w2 B B2 xb cb g pv v l ol m N _ cs _ hX2 hR HH.out.2.1 HH.out.2.2 (by have:=HNN.out;omega) hc16 HCK.out.2 HCK.out.1.2 HCK.out.1.1 hu);have Mw:=hid K2;clear E0 hu K2 c7 HH hX2
 go_wp2_with fail
 refine hm E1 ?_;rintro y w3 ⟨rfl,X3,K3⟩;have E2:=hid (Y0.out w3 _ _ X3 Ub.out.2.2 Ub.out.1 Ub.out.2.1 (by have:=HNN.out;omega));have HK3:=hid ((Mw.out.mono (S':=nS xb g pv) (λ_ _ x=>x.elim)).trans K3);clear E1 X3 K3 d7 Mw Y0;rw[<-HN.out]at E2
 go_wp2_with fail
 rw[HN1.out];refine hm E2 ?_;rintro y w4 ⟨rfl,X4,K4⟩;have HX4:=hid (ae X4 (HK3.out.trans K4));clear E2 X4 K4 HK3;go_wp2;go_ret;exact⟨rfl,HX4.out.1,HX4.out.2⟩
end
end Go.Proofs.YtnlbchmfcebeeaaGreat
