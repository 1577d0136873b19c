import Derived.Test.YtnlbchmfcebeeaaGreatTLgv1
import Derived.Laws.BytesArg
import Derived.Test.YtnlbchmfcebeeaaGreatRows
import Derived.ProofKit
import Derived.OpenShut
import Derived.ShutString
import Derived.ChangeOld
import Derived.Below
import Derived.Deep.Slices
import Derived.Test.YtnlbchmfcebeeaaGreatTF3
set_option maxHeartbeats 12800000
set_option maxRecDepth 100000
namespace Go.Proofs.YtnlbchmfcebeeaaGreat
open Go.Proofs.Tryz Ch
open Go.RowKit
theorem JH(a b:List Int):strOfNums (a++b)=strOfNums a++strOfNums b:=by
 apply ByteArray.ext;apply Array.toList_inj.1;rw[ByteArray.data_append,Array.toList_append,strOfNums_data,strOfNums_data,strOfNums_data,List.map_append]
theorem iw{P:Program}(a b:List Int)(h:a.length+b.length<=1000000)(w:World):Sem.run P (Op.stringOp BinOp.add (strOfNums a) (strOfNums b)) w= .ok (.string (strOfNums (a++b))) w:=by
 rw[JH];exact run_string_add_sum w _ _ (by rw[strOfNums_size,strOfNums_size];omega)
namespace Ch
def Ev(c:Int)(n:Nat):Nat:=(if c<0 then(-(c+1)).toNat else c.toNat) % n
theorem Bt(c:Int){n:Nat}(h:1<=n):Ev c n<n:=Nat.mod_lt _ (by omega)
end Ch
section
variable (w:World)
theorem yx(c:Int)(h1: -9223372036854775808<=c)(h2:c<=9223372036854775807)(n:Nat)(hn:1<=n)(Qu:n<=1000):
 Calls prog 24 #[.int .i64 c,.int .i64 n] w λx w'=>x= .returned (.int .i64 (Ev c n))/\w'=w:=by
 unfold Ev
 by_cases hc:c<0
 ·rw[if_pos hc]
  have e:(-(c+1)).tmod (n:Int)=(((-(c+1)).toNat % n:Nat):Int):=by
   rw[Int.tmod_eq_emod_of_nonneg (by omega)]
   have: -(c+1)=(((-(c+1)).toNat:Nat):Int):=by omega
   rw[this];simp
  generalize (-(c+1)).toNat % n=r at*
  have hn0:¬((n:Int)=0):=by omega
  go_enter func24,ntmps24
  go_wp2;go_ret;simp
 rw[if_neg hc]
 have e:c.tmod (n:Int)=((c.toNat % n:Nat):Int):=by
  rw[Int.tmod_eq_emod_of_nonneg (by omega)]
  have:c=((c.toNat:Nat):Int):=by omega
  rw[this];simp
 generalize c.toNat % n=r at*
 have hn0:¬((n:Int)=0):=by omega
 go_enter func24,ntmps24
 go_wp2;go_ret;simp
theorem qq(w:World)(c:Int):Sem.run prog (convert 47 9 (.slice (some ⟨w.heap.size,0,none⟩) 1 1)) (w.alloc (.cells #[.int .u8 c] 5))= .ok (.string (strOfNums [c])) (w.alloc (.cells #[.int .u8 c] 5)):=
 run_convert_bytes_arg (P:=prog) (w.alloc (.cells #[.int .u8 c] 5)) 47 5 underlying47 underlying5 w.heap.size 0 1 1 [c] rfl (by
  intro i hi
  match i,hi with
  |0,_=>simp) 9 underlying9
theorem wrap_u8{c:Int}(h0:0<=c)(h1:c<=255):IntKind.wrap .u8 c=c:=by unfold IntKind.wrap;simp[IntKind.bits,IntKind.signed];omega
theorem lu(i:Nat)(hi:i<=9):
 Calls prog 25 #[.int .i64 i] w λx w'=>x= .returned (.string (strOfNums [48+(i:Int)]))/\Kp (λ_=>False) w w':=by
 have hcv:=qq w (48+(i:Int));have hw8:IntKind.wrap .u8 (48+(i:Int))=48+(i:Int):=wrap_u8 (by omega) (by omega);have K1:Kp (λ_=>False) w (w.alloc (.cells #[.int .u8 (48+(i:Int))] 5)):=(Kp.refl _ _).alloc _
 go_enter func25,ntmps25
 go_wp2;go_ret;exact⟨rfl,K1⟩
theorem oA(i:Nat)(hi:i<=25):
 Calls prog 50 #[.int .i64 i] w λx w'=>x= .returned (.string (strOfNums [65+(i:Int)]))/\Kp (λ_=>False) w w':=by
 have hcv:=qq w (65+(i:Int));have hw8:IntKind.wrap .u8 (65+(i:Int))=65+(i:Int):=wrap_u8 (by omega) (by omega);have K1:Kp (λ_=>False) w (w.alloc (.cells #[.int .u8 (65+(i:Int))] 5)):=(Kp.refl _ _).alloc _
 go_enter func50,ntmps50
 go_wp2;go_ret;exact⟨rfl,K1⟩
end
def ij(l:List (Int×Int)):List Value:=l.flatMap λa=>[.int .i64 a.1,.int .i64 a.2]
theorem GU(l:List (Int×Int))(a:Int×Int):ij (l++[a])=ij l++[.int .i64 a.1,.int .i64 a.2]:=by simp[ij]
theorem Bu(us:List (Int×Int))(k:Nat)(q p:Int)(h:us[k]? =some (q,p)):
 (ij us)[k*2]? =some (.int .i64 q)/\(ij us)[k*2+1]? =some (.int .i64 p):=by
 induction us generalizing k with
 |nil=>simp at h
 |cons a l ih=>?_
 cases k with
 |zero=>simp at h;subst h;simp[ij]
 |succ k=>?_
 have:=ih k (by simpa using h)
 have e:ij (a::l)=[.int .i64 a.1,.int .i64 a.2]++ij l:=by simp[ij]
 rw[e]
 have q:∀j,([Value.int .i64 a.1,.int .i64 a.2]++ij l)[(k+1)*2+j]? =(ij l)[k*2+j]?:=by
  intro j;rw[List.getElem?_append_right (by simp;omega)]
  congr 1
  simp;omega
 exact⟨by simpa using(q 0).trans (by simpa using this.1),(q 1).trans this.2⟩
def qs(w:World)(B:Nat)(v:Value)(n:Nat):Prop:=((∃ao cap,v= .slice ao 0 cap)/\n=0)\/
 ∃g off cap,v= .slice (some ⟨g,off,none⟩) n cap/\g<B/\∀j,j<n->∃x:Int,w.cell? ⟨g,off+j,none⟩=some (.int .i64 x)/\ -9223372036854775808<=x/\x<=9223372036854775807
theorem qs.keep{w w':World}{B:Nat}{v:Value}{n:Nat}(h:qs w B v n)(k:Below B w w'):qs w' B v n:=by
 rcases h with h|⟨g,off,cap,e,hg,hc⟩
 ·exact .inl h
 refine .inr ⟨g,off,cap,e,hg,λj hj=>?_⟩;obtain⟨x,hx,hb⟩:=hc j hj;refine⟨x,?_,hb⟩;rw[World.cell?]at hx⊢;rw[k.block g hg];exact hx
theorem qs.len{w:World}{B:Nat}{v:Value}{n:Nat}(h:qs w B v n):∃ao cap,v= .slice ao n cap:=by
 rcases h with⟨⟨ao,cap,rfl⟩,rfl⟩|⟨g,off,cap,rfl,_⟩
 ·exact⟨_,_,rfl⟩
 exact⟨_,_,rfl⟩
structure Mk(w:World)(B b:Nat)(lv:Value)(n a:Nat)(P:List (Int×Int))(room:Nat)(pv:Value):Prop where
 low:B<=b
 blk:w.heap[b]? =some (.cells #[lv,.int .i64 a,pv,.int .i64 room] 102 (0,0))
 pts:w.ownsRow B 113 2 pv P.length (ij P)
 ints:qs w B lv n
 nle:n<=maxLen
section
variable {w:World} {B b:Nat} {lv:Value} {n a:Nat} {P:List (Int×Int)} {room:Nat} {pv:Value}
theorem Mk.lt(h:Mk w B b lv n a P room pv):b<w.heap.size:=lt_of_block h.blk
theorem Mk.pd(h:Mk w B b lv n a P room pv):B<=w.heap.size:=by have:=h.lt;have:=h.low;omega
theorem Mk.c0(h:Mk w B b lv n a P room pv):w.cell? ⟨b,0,none⟩=some lv:=by rw[World.cell?,h.blk];rfl
theorem Mk.c1(h:Mk w B b lv n a P room pv):w.cell? ⟨b,1,none⟩=some (.int .i64 a):=by rw[World.cell?,h.blk];rfl
theorem Mk.c2(h:Mk w B b lv n a P room pv):w.cell? ⟨b,2,none⟩=some pv:=by rw[World.cell?,h.blk];rfl
theorem Mk.c3(h:Mk w B b lv n a P room pv):w.cell? ⟨b,3,none⟩=some (.int .i64 room):=by rw[World.cell?,h.blk];rfl
theorem Mk.free(h:Mk w B b lv n a P room pv)(i:Nat):w.frozen? ⟨b,i,none⟩=false:=by simp[World.frozen?,h.blk]
theorem Mk.ne(h:Mk w B b lv n a P room pv):pv.ownBlock≠some b:=own_ne h.pts h.blk (by decide)
theorem Mk.keep{S:Nat->Prop}{w':World}(h:Mk w B b lv n a P room pv)(k:Kp S w w')(hb:¬S b)(hp:∀i,pv.ownBlock=some i->¬S i)(hS:∀i,S i->B<=i):Mk w' B b lv n a P room pv:=
 ⟨h.low,k.at_ h.blk hb,k.owns h.pts hp,h.ints.keep (k.below h.pd hS),h.nle⟩
theorem Mk.ai{w':World}(h:Mk w B b lv n a P room pv)(k:Kp (λ_=>False) w w'):Mk w' B b lv n a P room pv:=h.keep k (λx=>x) (λ_ _ x=>x) (λ_ x=>x.elim)
theorem Mk.drewN(h:Mk w B b lv n a P room pv)(m:Nat):Mk (w.drewN m) B b lv n a P room pv:=h.ai ((Kp.refl _ _).drewN m)
theorem aG{w':World}(k:Kp (λ_=>False) w w')(hB:B<=w.heap.size):Below B w w':=k.below hB (λ_ x=>x.elim)
theorem Mk.set1(h:Mk w B b lv n a P room pv)(c:Nat):Mk (w.setCell ⟨b,1,none⟩ (.int .i64 c)) B b lv n c P room pv:=by
 have hne:=h.ne;have K:Kp (λk=>k=b) w (w.setCell ⟨b,1,none⟩ (.int .i64 c)):=(Kp.refl _ _).setCell (by intro _;rfl) _;refine⟨h.low,?_,K.owns h.pts (λi e x=>hne (by rw[<-x];exact e)),h.ints.keep (K.below h.pd (λi x=>by have:=h.low;omega)),h.nle⟩;rw[ah _ h.blk];rfl
theorem Mk.Zb(h:Mk w B b lv n a P room pv)(c:Nat):Mk (w.setCell ⟨b,3,none⟩ (.int .i64 c)) B b lv n a P c pv:=by
 have hne:=h.ne;have K:Kp (λk=>k=b) w (w.setCell ⟨b,3,none⟩ (.int .i64 c)):=(Kp.refl _ _).setCell (by intro _;rfl) _;refine⟨h.low,?_,K.owns h.pts (λi e x=>hne (by rw[<-x];exact e)),h.ints.keep (K.below h.pd (λi x=>by have:=h.low;omega)),h.nle⟩;rw[ah _ h.blk];rfl
theorem Mk.JI(h:Mk w B b lv n a P room pv)(i:Nat)(v:Value):Below B w (w.setCell ⟨b,i,none⟩ v):=
 ((Kp.refl (λk=>k=b) _).setCell (by intro _;rfl) _).below h.pd (λi x=>by have:=h.low;omega)
end
section
variable (w:World) {B b:Nat} {lv:Value} {n a:Nat} {P:List (Int×Int)} {room:Nat} {pv:Value}
theorem dB(h:Mk w B b lv n a P room pv)(m:Nat)(hm1:1<=m)(hm:m<=1000)(ha:a<=1000000):
 Calls prog 74 #[.pointer (some ⟨b,0,none⟩),.int .i64 m] w λx w'=>∃r a':Nat,x= .returned (.int .i64 r)/\r<m/\a'<=a+1/\Mk w' B b lv n a' P room pv/\Below B w w':=by
 have H:=hid h;have c0:=h.c0;have c1:=h.c1;have f1:=h.free 1;have acY:=h.nle
 rcases h.ints with⟨⟨ao,cap,rfl⟩,rfl⟩|⟨g,off,cap,rfl,hg,hc⟩
 ·clear h acY
  go_enter func74,ntmps74
  go_wp2;go_ret;exact⟨0,a,rfl,by omega,by omega,H.out,Below.refl _ _⟩
 by_cases hn:n=0
 ·subst hn
  clear h acY hc
  go_enter func74,ntmps74
  go_wp2;go_ret;exact⟨0,a,rfl,by omega,by omega,H.out,Below.refl _ _⟩
 obtain⟨x,hx,hb1,hb2⟩:=hc (a % n) (Nat.mod_lt _ (by omega))
 have hmod:(a:Int).tmod (n:Int)=((a % n:Nat):Int):=by rw[Int.tmod_eq_emod_of_nonneg (by omega)];simp
 have hlt:a % n<n:=Nat.mod_lt _ (by omega)
 have hlt':((a % n:Nat):Int)<(n:Int):=by omega
 generalize a % n=j at*;have E:=hid (λk:Nat=>yx (w.drewN k) x hb1 hb2 m hm1 hm);have hr:=Bt x hm1;generalize Ev x m=r at*
 have hn0:¬((n:Int)=0):=by omega
 clear h hc hb1 hb2;unfold maxLen at acY
 go_enter func74,ntmps74
 go_upto_region 3 with(fail)
 go_quiet ((go_at_call 24;exact Calls.quiet_of_same (Hid.out E _)))
 go_wp2;go_ret;rename_i k1;refine⟨r,a+1,rfl,hr,Nat.le_refl _,(H.out.drewN _).set1 (a+1),?_⟩;exact(aG ((Kp.refl _ _).drewN _) H.out.pd).trans ((H.out.drewN _).JI 1 _)
end
theorem bw{P:Program}(a b c:List Int)(hc:a++b=c)(h:a.length+b.length<=1000000)(w:World):Sem.run P (Op.stringOp BinOp.add (strOfNums a) (strOfNums b)) w= .ok (.string (strOfNums c)) w:=by
 rw[<-hc];exact iw a b h w
def TxQ(T:List Int->Prop)(len cnt:Nat)(w w':World)(B b:Nat)(lv:Value)(n a:Nat)(P:List (Int×Int))(room:Nat)(pv:Value)(x:Ending):Prop:=
 ∃(L:List Int) (a':Nat),x= .returned (.string (strOfNums L))/\T L/\L.length<=len/\a'<=a+cnt/\Mk w' B b lv n a' P room pv/\Below B w w'
section
variable (w:World) {B b:Nat} {lv:Value} {n a:Nat} {P:List (Int×Int)} {room:Nat} {pv:Value}
theorem Bv(h:Mk w B b lv n a P room pv)(ha:a<=1000000):
 Calls prog 169 #[.pointer (some ⟨b,0,none⟩)] w λx w'=>∃r a':Nat,x= .returned (.string (strOfNums [97+(r:Int)]))/\r<4/\a'<=a+1/\Mk w' B b lv n a' P room pv/\Below B w w':=by
 have E:=hid (dB w h 4 (by omega) (by omega) ha);clear h
 go_enter func169,ntmps169
 go_wp2_with fail
 refine hm E ?_;rintro x w1 ⟨r,a1,rfl,hr,ha1,M1,B1⟩;have hcv:=qq w1 (97+(r:Int));have hw8:IntKind.wrap .u8 (97+(r:Int))=97+(r:Int):=wrap_u8 (by omega) (by omega);have K1:Kp (λ_=>False) w1 (w1.alloc (.cells #[.int .u8 (97+(r:Int))] 5)):=(Kp.refl _ _).alloc _;have H:=hid (ae (M1.ai K1) (B1.trans (aG K1 M1.pd)));clear M1 B1 E K1;go_wp2;go_ret;exact⟨r,a1,rfl,hr,ha1,H.out.1,H.out.2⟩
theorem yy(h:Mk w B b lv n a P room pv)(ha:a<=900000):
 Calls prog 121 #[.pointer (some ⟨b,0,none⟩)] w λx w'=>TxQ ic 6 9 w w' B b lv n a P room pv x:=by
 have E0:=hid (dB w h 3 (by omega) (by omega) (by omega));clear h
 go_enter func121,ntmps121
 go_wp2_with fail
 refine hm E0 ?_;rintro x w1 ⟨k0,a1,rfl,hk0,ha1,M1,B1⟩;have H1:=hid (ae M1 B1);clear E0 M1 B1
 go_wp2_with fail
 go_loopw [3,4] (λs kv wr=>∃(L:List Int) (k a':Nat),s= .string (strOfNums L)/\kv= .int .i64 k/\k<=2/\L.length+3*k<=6/\Hid (ic L/\a'+4*k<=a+9/\Mk wr B b lv n a' P room pv/\Below B w wr)) (λ_ kv _=>(intOf kv).toNat)
 case atStart=>exact⟨[],k0,a1,rfl,rfl,by omega,by simp;omega,hid ⟨.nil,by omega,H1.out.1,H1.out.2⟩⟩
 case round=>
  obtain⟨L,k,a2,rfl,rfl,hk,hl,HG⟩:=hrel;clear H1
  by_cases hk1:0<k
  ·have Wi:(0:Int)<(k:Int):=by omega
   have ha2:=HG.out.2.1;have E1:=hid (Bv wr HG.out.2.2.1 (by omega))
   go_wp2_with fail
   refine hm E1 ?_;rintro x w3 ⟨e,a3,rfl,he,ha3,M3,B3⟩;have E2:=hid (dB w3 M3 3 (by omega) (by omega) (by omega));clear E1 M3
   go_wp2_with fail
   refine hm E2 ?_;rintro x w4 ⟨v,a4,rfl,hv,De,M4,B4⟩;have hcv:=qq w4 (120+(v:Int));have hw8:IntKind.wrap .u8 (120+(v:Int))=120+(v:Int):=wrap_u8 (by omega) (by omega);have K5:Kp (λ_=>False) w4 (w4.alloc (.cells #[.int .u8 (120+(v:Int))] 5)):=(Kp.refl _ _).alloc _;have M5:=M4.ai K5;have B5:=((HG.out.2.2.2.trans B3).trans B4).trans (aG K5 M4.pd);have E3:=hid (dB _ M5 9 (by omega) (by omega) (by omega));clear E2 M4 M5 K5 B3 B4
   go_wp2_with fail
   refine hm E3 ?_;rintro x w6 ⟨d,a6,rfl,hd,ha6,M6,B6⟩;have E4:=hid (dB w6 M6 8 (by omega) (by omega) (by omega));clear E3 M6 hcv hw8
   go_wp2_with fail
   refine hm E4 ?_;rintro x w7 ⟨r,a7,rfl,hr,ha7,M7,B7⟩;have HM:=hid (ae M7 ((B5.trans B6).trans B7));have HA:=hid HG.out.1;clear E4 M7 B7 B6 B5 HG
   have hev:bR (97+(e:Int))=true:=by unfold bR;simp;omega
   have hvr:gw (120+(v:Int))=true:=by unfold gw;simp;omega
   have hdg:eI 48 (48+(d:Int))=true:=by unfold eI;simp;omega
   have HV:=hid (ae hev (ae hvr hdg));clear hev hvr hdg
   have hr8:r=0\/r=1\/r=2\/r=3\/r=4\/r=5\/r=6\/r=7:=by omega
   rcases hr8 with rfl|rfl|rfl|rfl|rfl|rfl|rfl|rfl
   ·have hd1:∀w',Sem.run prog (Op.stringOp BinOp.add (strOfNums L) ⟨#[33]⟩) w'= .ok (.string (strOfNums (L++[33]))) w':=iw L [33] (by simp;omega)
    have hd2:∀w',Sem.run prog (Op.stringOp BinOp.add (strOfNums (L++[33])) (strOfNums [97+(e:Int)])) w'= .ok (.string (strOfNums (L++[33,97+(e:Int)]))) w':=bw (L++[33]) [97+(e:Int)] (L++[33,97+(e:Int)]) (by simp) (by simp;omega);have HH:=hid (show ic (L++[33,97+(e:Int)])by exact HA.out.snoc (.ev (by simp) HV.out.1))
    go_wp2_with fail
    go_roundw
    case rel=>exact⟨L++[33,97+(e:Int)],k-1,a7,rfl,by go_num,by omega,by simp;omega,hid ⟨HH.out,by omega,HM.out.1,HM.out.2⟩⟩
    case measure=>simp[intOf];omega
   ·have hmod:(d:Int).tmod 4=((d % 4:Nat):Int):=by rw[Int.tmod_eq_emod_of_nonneg (by omega)];simp
    have hq:d % 4<4:=Nat.mod_lt _ (by omega);generalize d % 4=q at hmod hq
    have E5:Hid (Calls prog 25 #[.int .i64 (1+(q:Int))] w7 λx w'=>x= .returned (.string (strOfNums [48+(1+(q:Int))]))/\Kp (λ_=>False) w7 w'):=by
     have:=lu w7 (1+q) (by omega);rw[show((1+q:Nat):Int)=1+(q:Int)by omega]at this;exact hid this
    have hd1:∀w',Sem.run prog (Op.stringOp BinOp.add (strOfNums L) ⟨#[64]⟩) w'= .ok (.string (strOfNums (L++[64]))) w':=iw L [64] (by simp;omega);have hd2:∀w',Sem.run prog (Op.stringOp BinOp.add (strOfNums (L++[64])) (strOfNums [97+(e:Int)])) w'= .ok (.string (strOfNums (L++[64,97+(e:Int)]))) w':=bw (L++[64]) [97+(e:Int)] (L++[64,97+(e:Int)]) (by simp) (by simp;omega);have hd3:∀w',Sem.run prog (Op.stringOp BinOp.add (strOfNums (L++[64,97+(e:Int)])) (strOfNums [48+(1+(q:Int))])) w'= .ok (.string (strOfNums (L++[64,97+(e:Int),48+(1+(q:Int))]))) w':=bw (L++[64,97+(e:Int)]) [48+(1+(q:Int))] (L++[64,97+(e:Int),48+(1+(q:Int))]) (by simp) (by simp;omega)
    have xX:eI 49 (48+(1+(q:Int)))=true:=by unfold eI;simp;omega
    have HH:=hid (show ic (L++[64,97+(e:Int),48+(1+(q:Int))])by exact HA.out.snoc (.tm HV.out.1 xX));clear xX
    go_wp2_with fail
    refine hm E5 ?_;rintro x w8 ⟨rfl,K8⟩;have Qv:=hid (ae (HM.out.1.ai K8) (HM.out.2.trans (aG K8 HM.out.1.pd)));clear K8 E5
    go_wp2_with fail
    go_roundw
    case rel=>exact⟨L++[64,97+(e:Int),48+(1+(q:Int))],k-1,a7,rfl,by go_num,by omega,by simp;omega,hid ⟨HH.out,by omega,Qv.out.1,Qv.out.2⟩⟩
    case measure=>simp[intOf];omega
   ·have hd1:∀w',Sem.run prog (Op.stringOp BinOp.add (strOfNums L) ⟨#[126]⟩) w'= .ok (.string (strOfNums (L++[126]))) w':=iw L [126] (by simp;omega)
    have hd2:∀w',Sem.run prog (Op.stringOp BinOp.add (strOfNums (L++[126])) (strOfNums [97+(e:Int)])) w'= .ok (.string (strOfNums (L++[126,97+(e:Int)]))) w':=bw (L++[126]) [97+(e:Int)] (L++[126,97+(e:Int)]) (by simp) (by simp;omega);have HH:=hid (show ic (L++[126,97+(e:Int)])by exact HA.out.snoc (.ev (by simp) HV.out.1))
    go_wp2_with fail
    go_roundw
    case rel=>exact⟨L++[126,97+(e:Int)],k-1,a7,rfl,by go_num,by omega,by simp;omega,hid ⟨HH.out,by omega,HM.out.1,HM.out.2⟩⟩
    case measure=>simp[intOf];omega
   ·have E5:=hid (lu w7 d (by omega))
    have hd1:∀w',Sem.run prog (Op.stringOp BinOp.add (strOfNums L) ⟨#[43]⟩) w'= .ok (.string (strOfNums (L++[43]))) w':=iw L [43] (by simp;omega);have hd2:∀w',Sem.run prog (Op.stringOp BinOp.add (strOfNums (L++[43])) (strOfNums [120+(v:Int)])) w'= .ok (.string (strOfNums (L++[43,120+(v:Int)]))) w':=bw (L++[43]) [120+(v:Int)] (L++[43,120+(v:Int)]) (by simp) (by simp;omega);have hd3:∀w',Sem.run prog (Op.stringOp BinOp.add (strOfNums (L++[43,120+(v:Int)])) (strOfNums [48+(d:Int)])) w'= .ok (.string (strOfNums (L++[43,120+(v:Int),48+(d:Int)]))) w':=bw (L++[43,120+(v:Int)]) [48+(d:Int)] (L++[43,120+(v:Int),48+(d:Int)]) (by simp) (by simp;omega);have HH:=hid (show ic (L++[43,120+(v:Int),48+(d:Int)])by exact HA.out.snoc (.vr (by simp) HV.out.2.1 HV.out.2.2))
    go_wp2_with fail
    refine hm E5 ?_;rintro x w8 ⟨rfl,K8⟩;have Qv:=hid (ae (HM.out.1.ai K8) (HM.out.2.trans (aG K8 HM.out.1.pd)));clear K8 E5
    go_wp2_with fail
    go_roundw
    case rel=>exact⟨L++[43,120+(v:Int),48+(d:Int)],k-1,a7,rfl,by go_num,by omega,by simp;omega,hid ⟨HH.out,by omega,Qv.out.1,Qv.out.2⟩⟩
    case measure=>simp[intOf];omega
   ·have E5:=hid (lu w7 d (by omega))
    have hd1:∀w',Sem.run prog (Op.stringOp BinOp.add (strOfNums L) ⟨#[43]⟩) w'= .ok (.string (strOfNums (L++[43]))) w':=iw L [43] (by simp;omega);have hd2:∀w',Sem.run prog (Op.stringOp BinOp.add (strOfNums (L++[43])) (strOfNums [120+(v:Int)])) w'= .ok (.string (strOfNums (L++[43,120+(v:Int)]))) w':=bw (L++[43]) [120+(v:Int)] (L++[43,120+(v:Int)]) (by simp) (by simp;omega);have hd3:∀w',Sem.run prog (Op.stringOp BinOp.add (strOfNums (L++[43,120+(v:Int)])) (strOfNums [48+(d:Int)])) w'= .ok (.string (strOfNums (L++[43,120+(v:Int),48+(d:Int)]))) w':=bw (L++[43,120+(v:Int)]) [48+(d:Int)] (L++[43,120+(v:Int),48+(d:Int)]) (by simp) (by simp;omega);have HH:=hid (show ic (L++[43,120+(v:Int),48+(d:Int)])by exact HA.out.snoc (.vr (by simp) HV.out.2.1 HV.out.2.2))
    go_wp2_with fail
    refine hm E5 ?_;rintro x w8 ⟨rfl,K8⟩;have Qv:=hid (ae (HM.out.1.ai K8) (HM.out.2.trans (aG K8 HM.out.1.pd)));clear K8 E5
    go_wp2_with fail
    go_roundw
    case rel=>exact⟨L++[43,120+(v:Int),48+(d:Int)],k-1,a7,rfl,by go_num,by omega,by simp;omega,hid ⟨HH.out,by omega,Qv.out.1,Qv.out.2⟩⟩
    case measure=>simp[intOf];omega
   ·have E5:=hid (lu w7 d (by omega))
    have hd1:∀w',Sem.run prog (Op.stringOp BinOp.add (strOfNums L) ⟨#[45]⟩) w'= .ok (.string (strOfNums (L++[45]))) w':=iw L [45] (by simp;omega);have hd2:∀w',Sem.run prog (Op.stringOp BinOp.add (strOfNums (L++[45])) (strOfNums [120+(v:Int)])) w'= .ok (.string (strOfNums (L++[45,120+(v:Int)]))) w':=bw (L++[45]) [120+(v:Int)] (L++[45,120+(v:Int)]) (by simp) (by simp;omega);have hd3:∀w',Sem.run prog (Op.stringOp BinOp.add (strOfNums (L++[45,120+(v:Int)])) (strOfNums [48+(d:Int)])) w'= .ok (.string (strOfNums (L++[45,120+(v:Int),48+(d:Int)]))) w':=bw (L++[45,120+(v:Int)]) [48+(d:Int)] (L++[45,120+(v:Int),48+(d:Int)]) (by simp) (by simp;omega);have HH:=hid (show ic (L++[45,120+(v:Int),48+(d:Int)])by exact HA.out.snoc (.vr (by simp) HV.out.2.1 HV.out.2.2))
    go_wp2_with fail
    refine hm E5 ?_;rintro x w8 ⟨rfl,K8⟩;have Qv:=hid (ae (HM.out.1.ai K8) (HM.out.2.trans (aG K8 HM.out.1.pd)));clear K8 E5
    go_wp2_with fail
    go_roundw
    case rel=>exact⟨L++[45,120+(v:Int),48+(d:Int)],k-1,a7,rfl,by go_num,by omega,by simp;omega,hid ⟨HH.out,by omega,Qv.out.1,Qv.out.2⟩⟩
    case measure=>simp[intOf];omega
   ·have E5:=hid (lu w7 d (by omega))
    have hd1:∀w',Sem.run prog (Op.stringOp BinOp.add (strOfNums L) ⟨#[61]⟩) w'= .ok (.string (strOfNums (L++[61]))) w':=iw L [61] (by simp;omega);have hd2:∀w',Sem.run prog (Op.stringOp BinOp.add (strOfNums (L++[61])) (strOfNums [120+(v:Int)])) w'= .ok (.string (strOfNums (L++[61,120+(v:Int)]))) w':=bw (L++[61]) [120+(v:Int)] (L++[61,120+(v:Int)]) (by simp) (by simp;omega);have hd3:∀w',Sem.run prog (Op.stringOp BinOp.add (strOfNums (L++[61,120+(v:Int)])) (strOfNums [48+(d:Int)])) w'= .ok (.string (strOfNums (L++[61,120+(v:Int),48+(d:Int)]))) w':=bw (L++[61,120+(v:Int)]) [48+(d:Int)] (L++[61,120+(v:Int),48+(d:Int)]) (by simp) (by simp;omega);have HH:=hid (show ic (L++[61,120+(v:Int),48+(d:Int)])by exact HA.out.snoc (.vr (by simp) HV.out.2.1 HV.out.2.2))
    go_wp2_with fail
    refine hm E5 ?_;rintro x w8 ⟨rfl,K8⟩;have Qv:=hid (ae (HM.out.1.ai K8) (HM.out.2.trans (aG K8 HM.out.1.pd)));clear K8 E5
    go_wp2_with fail
    go_roundw
    case rel=>exact⟨L++[61,120+(v:Int),48+(d:Int)],k-1,a7,rfl,by go_num,by omega,by simp;omega,hid ⟨HH.out,by omega,Qv.out.1,Qv.out.2⟩⟩
    case measure=>simp[intOf];omega
   have hd1:∀w',Sem.run prog (Op.stringOp BinOp.add (strOfNums L) ⟨#[35]⟩) w'= .ok (.string (strOfNums (L++[35]))) w':=iw L [35] (by simp;omega);have hd2:∀w',Sem.run prog (Op.stringOp BinOp.add (strOfNums (L++[35])) (strOfNums [97+(e:Int)])) w'= .ok (.string (strOfNums (L++[35,97+(e:Int)]))) w':=bw (L++[35]) [97+(e:Int)] (L++[35,97+(e:Int)]) (by simp) (by simp;omega);have HH:=hid (show ic (L++[35,97+(e:Int)])by exact HA.out.snoc (.ev (by simp) HV.out.1))
   go_wp2_with fail
   go_roundw
   case rel=>exact⟨L++[35,97+(e:Int)],k-1,a7,rfl,by go_num,by omega,by simp;omega,hid ⟨HH.out,by omega,HM.out.1,HM.out.2⟩⟩
   case measure=>simp[intOf];omega
  have Wi:¬(0:Int)<(k:Int):=by omega
  go_wp2;go_ret;exact⟨L,a2,rfl,HG.out.1,by omega,by have:=HG.out.2.1;omega,HG.out.2.2.1,HG.out.2.2.2⟩
theorem GV(h:Mk w B b lv n a P room pv)(hP:1<=P.length)(x8:P.length<=16)(ha:a<=900000):
 Calls prog 170 #[.pointer (some ⟨b,0,none⟩)] w λx w'=>TxQ (λL=>∃c,L=[c]/\Vd P.length c) 1 2 w w' B b lv n a P room pv x:=by
 have E0:=hid (dB w h 9 (by omega) (by omega) (by omega));clear h
 go_enter func170,ntmps170
 go_wp2_with fail
 refine hm E0 ?_;rintro x w1 ⟨r,a1,rfl,hr,ha1,M1,B1⟩;clear E0
 by_cases h0:r=0
 ·subst h0
  have H:=hid (ae M1 B1);clear M1 B1;go_wp2;go_ret;exact⟨[46],a1,rfl,⟨_,rfl,Or.inl rfl⟩,by simp,by omega,H.out.1,H.out.2⟩
 by_cases h1:r=1
 ·subst h1
  have c2:=M1.c2;obtain⟨pao,pcap,hpv⟩:=aF M1.pts;rw[hpv]at c2;have E1:=hid (dB w1 M1 P.length (by omega) (by omega) (by omega));clear M1 hpv
  go_wp2_with fail
  refine hm E1 ?_;rintro x w2 ⟨i,a2,rfl,hi,ha2,M2,B2⟩;have E2:=hid (oA w2 i (by omega));clear E1
  go_wp2_with fail
  refine hm E2 ?_;rintro x w3 ⟨rfl,K3⟩;have H:=hid (ae (M2.ai K3) ((B1.trans B2).trans (aG K3 M2.pd)));clear E2 M2 B1 B2 K3;go_wp2;go_ret;exact⟨[65+(i:Int)],a2,rfl,⟨_,rfl,Or.inr (Or.inr (Or.inr ⟨by omega,by omega⟩))⟩,by simp,by omega,H.out.1,H.out.2⟩
 by_cases h2:r=2
 ·subst h2
  have H:=hid (ae M1 B1);clear M1 B1;go_wp2;go_ret;exact⟨[122],a1,rfl,⟨_,rfl,Or.inr (Or.inl rfl)⟩,by simp,by omega,H.out.1,H.out.2⟩
 have h0':¬(r:Int)=0:=by omega
 have h1':¬(r:Int)=1:=by omega
 have h2':¬(r:Int)=2:=by omega
 have E1:=hid (Bv w1 M1 (by omega));clear M1 h0 h1 h2
 go_wp2_with fail
 refine hm E1 ?_;rintro x w2 ⟨e,a2,rfl,he,ha2,M2,B2⟩;have H:=hid (ae M2 (B1.trans B2));clear E1 M2 B1 B2;go_wp2;go_ret;exact⟨[97+(e:Int)],a2,rfl,⟨_,rfl,Or.inr (Or.inr (Or.inl ⟨by omega,by omega⟩))⟩,by simp,by omega,H.out.1,H.out.2⟩
end
section
variable (w:World) {B b:Nat} {lv:Value} {n a:Nat} {P:List (Int×Int)} {room:Nat} {pv:Value}
theorem zG(h:Mk w B b lv n a P room pv)(hP:1<=P.length)(x8:P.length<=16)(ha:a<=800000):
 Calls prog 122 #[.pointer (some ⟨b,0,none⟩)] w λx w'=>TxQ (GS P.length) 14 17 w w' B b lv n a P room pv x:=by
 have E0:=hid (GV w h hP x8 (by omega));clear h
 go_enter func122,ntmps122
 go_wp2_with fail
 refine hm E0 ?_;rintro x w1 ⟨L1,a1,rfl,⟨c,rfl,hc⟩,_,ha1,M1,B1⟩;have hd1:∀w',Sem.run prog (Op.stringOp BinOp.add ⟨#[58]⟩ (strOfNums [c])) w'= .ok (.string (strOfNums [58,c])) w':=bw [58] [c] [58,c] rfl (by simp);have E1:=hid (dB w1 M1 3 (by omega) (by omega) (by omega));have HC:=hid hc;clear E0 M1 hc
 go_wp2_with fail
 refine hm E1 ?_;rintro x w2 ⟨g,a2,rfl,hg,ha2,M2,B2⟩;have HM:=hid (ae M2 (B1.trans B2));clear E1 hd1 M2 B1 B2
 go_upto_region 3 with(fail)
 go_cut [20]from 15 to 19 (λq wx=>∃q':Bool,q= .bool q'/\wx=w2)
 case first=>
  by_cases g0:g=0
  ·subst g0
   go_wp2_with fail
   go_meet
   exact⟨_,rfl,rfl⟩
  have g0':¬(g:Int)=0:=by omega
  go_wp2_with fail
  go_meet
  exact⟨_,rfl,rfl⟩
 case rest=>
  obtain⟨q,rfl,rfl⟩:=hcut
  go_upto_if 20 with(fail)
  go_cut [3,5,6,7]from 21 to 42 (λs _ _ _ wx=>∃(G:List Int) (a':Nat),s= .string (strOfNums (58::c::G))/\G.length<=4/\a'<=a+6/\Hid (IA G/\Mk wx B b lv n a' P room pv/\Below B w wx))
  case first=>
   cases q with
   |false=>
    go_wp2_with fail
    go_meet
    exact⟨[],a2,rfl,by simp,by omega,hid ⟨.none,HM.out⟩⟩
   |true=>?_
   have E2:=hid (dB wc HM.out.1 3 (by omega) (by omega) (by omega))
   go_wp2_with fail
   refine hm E2 ?_;rintro x w3 ⟨k,a3,rfl,hk,ha3,M3,B3⟩;have E3:=hid (dB w3 M3 3 (by omega) (by omega) (by omega));clear E2 M3
   go_wp2_with fail
   refine hm E3 ?_;rintro x w4 ⟨v,a4,rfl,hv,De,M4,B4⟩;clear E3;have hcv:=qq w4 (120+(v:Int));have hw8:IntKind.wrap .u8 (120+(v:Int))=120+(v:Int):=wrap_u8 (by omega) (by omega);have K5:Kp (λ_=>False) w4 (w4.alloc (.cells #[.int .u8 (120+(v:Int))] 5)).drew:=((Kp.refl _ _).alloc _).drew;have M5:=M4.ai K5;have B5:=((HM.out.2.trans B3).trans B4).trans (aG K5 M4.pd);have E4:=hid (dB _ M5 6 (by omega) (by omega) (by omega));clear M4 B3 B4 K5 M5;have h1:∀w',Sem.run prog (Op.stringOp BinOp.add (strOfNums [58,c]) ⟨#[63]⟩) w'= .ok (.string (strOfNums [58,c,63])) w':=bw [58,c] [63] [58,c,63] rfl (by simp);have h2:∀w',Sem.run prog (Op.stringOp BinOp.add (strOfNums [58,c,63]) (strOfNums [120+(v:Int)])) w'= .ok (.string (strOfNums [58,c,63,120+(v:Int)])) w':=bw [58,c,63] [120+(v:Int)] [58,c,63,120+(v:Int)] rfl (by simp);have h3:∀w',Sem.run prog (Op.stringOp BinOp.add (strOfNums [58,c,63,120+(v:Int)]) (strOfNums [60+(k:Int)])) w'= .ok (.string (strOfNums [58,c,63,120+(v:Int),60+(k:Int)])) w':=bw [58,c,63,120+(v:Int)] [60+(k:Int)] [58,c,63,120+(v:Int),60+(k:Int)] rfl (by simp)
   have h4:∀(d:Nat) w',Sem.run prog (Op.stringOp BinOp.add (strOfNums [58,c,63,120+(v:Int),60+(k:Int)]) (strOfNums [48+(d:Int)])) w'= .ok (.string (strOfNums [58,c,63,120+(v:Int),60+(k:Int),48+(d:Int)])) w':=λd=>bw [58,c,63,120+(v:Int),60+(k:Int)] [48+(d:Int)] [58,c,63,120+(v:Int),60+(k:Int),48+(d:Int)] rfl (by simp)
   have hsl:(⟨#[60,61,62]⟩:ByteArray).extract k (k+1)=strOfNums [60+(k:Int)]:=by
    have:k=0\/k=1\/k=2:=by omega
    rcases this with rfl|rfl|rfl<;>rfl
   have ajf:(⟨#[60,61,62]⟩:ByteArray).size=3:=rfl
   have hk3:(k:Int)+1<=3:=by omega
   have hk5:(k:Int)<=(k:Int)+1:=by omega
   have hwk:IntKind.i64.wrap ((k:Int)+1)=(k:Int)+1:=by rw[IntKind.wrap_i64];omega
   go_upto_region 7 with(fail)
   clear hcv hw8;refine az (λ_=>True) (by kernel_rfl) ?_;refine aU 0 29 (.string (strOfNums [58,c])) trivial ?_;refine dM 1 30 (.string (strOfNums [58,c,63])) rfl (λw' _=>by simp[execOp,Act.eval,go_sem,h1]) trivial ?_;refine aU 2 31 (.string (strOfNums [120+(v:Int)])) trivial ?_;refine dM 3 32 (.string (strOfNums [58,c,63,120+(v:Int)])) rfl (λw' _=>by simp[execOp,Act.eval,go_sem,h2]) trivial ?_;refine aU 4 33 (.string ⟨#[60,61,62]⟩) trivial ?_;refine aU 5 34 (.int .i64 (k:Int)) trivial ?_;refine aU 6 35 (.int .i64 (k:Int)) trivial ?_;refine dM 7 36 (.int .i64 ((k:Int)+1)) rfl (λw' _=>by simp[execOp,Act.eval,go_sem,hwk]) trivial ?_;refine dM 8 37 (.string (strOfNums [60+(k:Int)])) rfl (λw' _=>by simp[execOp,Act.eval,go_sem,hsl,ajf,hk3,hk5]) trivial ?_;refine dM 9 38 (.string (strOfNums [58,c,63,120+(v:Int),60+(k:Int)])) rfl (λw' _=>by simp[execOp,Act.eval,go_sem,h3]) trivial ?_;refine aU 10 39 (.pointer (some ⟨b,0,none⟩)) trivial ?_;refine jD 11 ?_;refine iD (some 40) rfl 74 #[.pointer (some ⟨b,0,none⟩),.int .i64 6] (by simp[execOp,Act.eval,go_sem]) (λy w'=>∃r a':Nat,y= .int .i64 r/\r<6/\a'<=a4+1/\Mk w' B b lv n a' P room pv/\Below B (w4.alloc (.cells #[.int .u8 (120+(v:Int))] 5)).drew w') (E4.out.mono λe w' he=>?_) ?_
   ·obtain⟨r,a',rfl,q1,q2,q3,q4⟩:=he
    exact⟨_,rfl,r,a',rfl,q1,q2,q3,q4⟩
   rintro _ w6 ⟨d,a6,rfl,hd,ha6,M6,B6⟩;refine⟨trivial,?_⟩;simp only[Act.put,pA,pB,pC];refine jD 12 ?_;refine bS (some 41) rfl 25 #[.int .i64 d] (by simp[execOp,Act.eval,go_sem]) _ (λw'=>Kp (λ_=>False) w6 w') (lu w6 d (by omega)) ?_;intro w7 K7;refine⟨trivial,?_⟩;simp only[Act.put,pA,pB,pC];refine dM 13 42 (.string (strOfNums [58,c,63,120+(v:Int),60+(k:Int),48+(d:Int)])) rfl (λw' _=>by simp[execOp,Act.eval,go_sem,h4 d]) trivial ?_;refine aU 14 3 (.string (strOfNums [58,c,63,120+(v:Int),60+(k:Int),48+(d:Int)])) trivial ?_;refine wpAnyH_done (by kernel_rfl) (NoPanic.normal ?_) _;have hgd:IA [63,120+(v:Int),60+(k:Int),48+(d:Int)]:=.some (by unfold gw;simp;omega) (by unfold me;simp;omega) (by unfold eI;simp;omega);have M7:=M6.ai K7;have B7:=(B5.trans B6).trans (aG K7 M6.pd)
   go_wp2_with fail
   go_meet
   exact⟨[63,120+(v:Int),60+(k:Int),48+(d:Int)],a6,rfl,by simp,by omega,hid ⟨hgd,M7,B7⟩⟩
  case rest=>
   obtain⟨G,a5,rfl,hG,ha5,HG⟩:=hcut;have E5:=hid (yy wc HG.out.2.1 (by omega))
   go_wp2_with fail
   refine hm E5 ?_;rintro x w8 ⟨A,a8,rfl,hA,hAl,ha8,M8,B8⟩;have HA:=hid hA;have E6:=hid (dB w8 M8 5 (by omega) (by omega) (by omega));clear E5 M8 hA
   go_wp2_with fail
   refine hm E6 ?_;rintro x w9 ⟨no,a9,rfl,hno,ha9,M9,B9⟩;have c2:=M9.c2;obtain⟨pao,pcap,hpv⟩:=aF M9.pts;rw[hpv]at c2;have E7:=hid (dB w9 M9 P.length (by omega) (by omega) (by omega));have HM9:=hid (ae M9 ((HG.out.2.2.trans B8).trans B9));clear E6 M9 B8 B9 hpv HM;have h1:∀w',Sem.run prog (Op.stringOp BinOp.add (strOfNums (58::c::G)) (strOfNums A)) w'= .ok (.string (strOfNums (58::c::(G++A)))) w':=bw (58::c::G) A (58::c::(G++A)) (by simp) (by simp;omega)
   by_cases no0:no=0
   ·subst no0
    have h2:∀w',Sem.run prog (Op.stringOp BinOp.add (strOfNums (58::c::(G++A))) ⟨#[62,45]⟩) w'= .ok (.string (strOfNums (58::c::(G++(A++[62,45]))))) w':=bw (58::c::(G++A)) [62,45] (58::c::(G++(A++[62,45]))) (by simp) (by simp;omega);clear E7;go_wp2;go_ret;exact⟨58::c::(G++(A++[62,45])),a9,rfl,.tr HC.out HG.out.1 HA.out (Or.inl rfl),by simp;omega,by omega,HM9.out.1,HM9.out.2⟩
   have aoh:¬(no:Int)=0:=by omega
   have h2:∀w',Sem.run prog (Op.stringOp BinOp.add (strOfNums (58::c::(G++A))) ⟨#[62]⟩) w'= .ok (.string (strOfNums (58::c::(G++(A++[62]))))) w':=bw (58::c::(G++A)) [62] (58::c::(G++(A++[62]))) (by simp) (by simp;omega)
   go_wp2_with fail
   refine hm E7 ?_;rintro x pe ⟨i,zV,rfl,hi,aoi,M10,B10⟩;have E8:=hid (oA pe i (by omega));clear E7;have h3:∀w',Sem.run prog (Op.stringOp BinOp.add (strOfNums (58::c::(G++(A++[62])))) (strOfNums [65+(i:Int)])) w'= .ok (.string (strOfNums (58::c::(G++(A++[62,65+(i:Int)]))))) w':=bw (58::c::(G++(A++[62]))) [65+(i:Int)] (58::c::(G++(A++[62,65+(i:Int)]))) (by simp) (by simp;omega)
   go_wp2_with fail
   refine hm E8 ?_;rintro x JJ ⟨rfl,Nx⟩;have afC:=hid (ae (M10.ai Nx) ((HM9.out.2.trans B10).trans (aG Nx M10.pd)));clear E8 M10 B10 Nx;go_wp2;go_ret;exact⟨58::c::(G++(A++[62,65+(i:Int)])),zV,rfl,.tr HC.out HG.out.1 HA.out (Or.inr ⟨by omega,by omega⟩),by simp;omega,by omega,afC.out.1,afC.out.2⟩
def ItQ(w w':World)(B b:Nat)(lv:Value)(n a:Nat)(P:List (Int×Int))(room:Nat)(pv:Value)(x:Ending):Prop:=
 ∃(L:List Int) (a' room':Nat),x= .returned (.string (strOfNums L))/\vB P.length L/\room'+L.length=room/\a'<=a+55/\Mk w' B b lv n a' P room' pv/\Below B w w'
theorem Bw(h:Mk w B b lv n a P room pv)(hP:1<=P.length)(x8:P.length<=16)(ha:a<=700000)(hroom:room<=1000):
 Calls prog 76 #[.pointer (some ⟨b,0,none⟩)] w λx w'=>ItQ w w' B b lv n a P room pv x:=by
 have E0:=hid (dB w h 4 (by omega) (by omega) (by omega));clear h
 go_enter func76,ntmps76
 go_wp2_with fail
 refine hm E0 ?_;rintro x w1 ⟨k0,a1,rfl,hk0,ha1,M1,B1⟩;have H1:=hid (ae M1 B1);clear E0 M1 B1
 go_wp2_with fail
 go_loopw [3,4] (λs kv wr=>∃(L:List Int) (k a' room':Nat),s= .string (strOfNums L)/\kv= .int .i64 k/\k<=3/\room'+L.length=room/\Hid (vB P.length L/\a'+18*k<=a+55/\Mk wr B b lv n a' P room' pv/\Below B w wr)) (λ_ kv _=>(intOf kv).toNat)
 case atStart=>exact⟨[],k0,a1,room,rfl,rfl,by omega,by simp,hid ⟨.nil,by omega,H1.out.1,H1.out.2⟩⟩
 case round=>
  obtain⟨L,k,a2,room',rfl,rfl,hk,hl,HG⟩:=hrel;clear H1
  by_cases hk1:0<k
  ·have Wi:(0:Int)<(k:Int):=by omega
   have ha2:=HG.out.2.1;have E1:=hid (dB wr HG.out.2.2.1 4 (by omega) (by omega) (by omega))
   go_wp2_with fail
   refine hm E1 ?_;rintro x w3 ⟨r,a3,rfl,hr,ha3,M3,B3⟩;clear E1
   have tail:∀(w5:World) (T:List Int) (a5:Nat),T.length<=14->GS P.length T->a5<=a3+17->Mk w5 B b lv n a5 P room' pv->Below B w w5->
    (T.length<=room'->vB P.length (L++T)/\Mk (w5.setCell ⟨b,3,none⟩ (.int .i64 ((room':Int)-(T.length:Int)))) B b lv n a5 P (room'-T.length) pv/\Below B w (w5.setCell ⟨b,3,none⟩ (.int .i64 ((room':Int)-(T.length:Int))))):=by
    intro w5 T a5 h1 h2 h3 h4 h5 h6
    have e:((room'-T.length:Nat):Int)=(room':Int)-(T.length:Int):=by omega
    have:=h4.Zb (room'-T.length);rw[e]at this;exact⟨HG.out.1.snoc h2,this,h5.trans (h4.JI 3 _)⟩
   have HT:=hid tail;have HI:=hid HG.out.1;have HB:=hid (HG.out.2.2.2.trans B3);clear tail HG B3
   by_cases r0:r=0
   ·subst r0
    have E2:=hid (yy w3 M3 (by omega));clear M3
    go_wp2_with fail
    refine hm E2 ?_;rintro x w4 ⟨A,a4,rfl,hA,hAl,De,M4,B4⟩;clear E2;have h1:∀w',Sem.run prog (Op.stringOp BinOp.add ⟨#[94]⟩ (strOfNums A)) w'= .ok (.string (strOfNums (94::A))) w':=bw [94] A (94::A) rfl (by simp;omega);have h2:∀w',Sem.run prog (Op.stringOp BinOp.add (strOfNums (94::A)) ⟨#[59]⟩) w'= .ok (.string (strOfNums (94::(A++[59])))) w':=bw (94::A) [59] (94::(A++[59])) (by simp) (by simp;omega);have HX:Hid ((94::(A++[59])).length<=14/\GS P.length (94::(A++[59]))/\Mk w4 B b lv n a4 P room' pv/\Below B w w4):=hid ⟨by simp;omega,.bl (by simp) hA,M4,HB.out.trans B4⟩;clear hA M4 B4;generalize hT:(94::(A++[59]))=T at h2 HX;clear hT;have hsz:(strOfNums T).size=(T).length:=strOfNums_size _;have c3:=HX.out.2.2.1.c3;have f3:=HX.out.2.2.1.free 3;have Wj:=HX.out.1
    by_cases hle:(T).length<=room'
    ·have Ry:(((T).length:Nat):Int)<=(room':Int):=by omega
     have hadd:∀w',Sem.run prog (Op.stringOp BinOp.add (strOfNums L) (strOfNums T)) w'= .ok (.string (strOfNums (L++T))) w':=iw L _ (by omega);have HF:=hid (HT.out w4 T a4 Wj HX.out.2.1 (by omega) HX.out.2.2.1 HX.out.2.2.2 hle)
     have hla:(L++T).length=L.length+(T).length:=by simp
     have HLA:=hid hla;clear hla
     go_wp2_with fail
     go_roundw
     case rel=>exact⟨L++T,k-1,a4,room'-(T).length,rfl,by go_num,by omega,by have:=HLA.out;omega,hid ⟨HF.out.1,by omega,HF.out.2.1,HF.out.2.2⟩⟩
     case measure=>simp[intOf];omega
    have Ry:¬(((T).length:Nat):Int)<=(room':Int):=by omega
    go_wp2_with fail
    go_roundw
    case rel=>exact⟨L,k-1,a4,room',rfl,by go_num,by omega,hl,hid ⟨HI.out,by omega,HX.out.2.2.1,HX.out.2.2.2⟩⟩
    case measure=>simp[intOf];omega
   by_cases r1:r=1
   ·subst r1
    have E2:=hid (yy w3 M3 (by omega));clear M3
    go_wp2_with fail
    refine hm E2 ?_;rintro x w4 ⟨A,a4,rfl,hA,hAl,De,M4,B4⟩;clear E2;have h1:∀w',Sem.run prog (Op.stringOp BinOp.add ⟨#[36]⟩ (strOfNums A)) w'= .ok (.string (strOfNums (36::A))) w':=bw [36] A (36::A) rfl (by simp;omega);have h2:∀w',Sem.run prog (Op.stringOp BinOp.add (strOfNums (36::A)) ⟨#[59]⟩) w'= .ok (.string (strOfNums (36::(A++[59])))) w':=bw (36::A) [59] (36::(A++[59])) (by simp) (by simp;omega);have HX:Hid ((36::(A++[59])).length<=14/\GS P.length (36::(A++[59]))/\Mk w4 B b lv n a4 P room' pv/\Below B w w4):=hid ⟨by simp;omega,.bl (by simp) hA,M4,HB.out.trans B4⟩;clear hA M4 B4;generalize hT:(36::(A++[59]))=T at h2 HX;clear hT;have hsz:(strOfNums T).size=(T).length:=strOfNums_size _;have c3:=HX.out.2.2.1.c3;have f3:=HX.out.2.2.1.free 3;have Wj:=HX.out.1
    by_cases hle:(T).length<=room'
    ·have Ry:(((T).length:Nat):Int)<=(room':Int):=by omega
     have hadd:∀w',Sem.run prog (Op.stringOp BinOp.add (strOfNums L) (strOfNums T)) w'= .ok (.string (strOfNums (L++T))) w':=iw L _ (by omega);have HF:=hid (HT.out w4 T a4 Wj HX.out.2.1 (by omega) HX.out.2.2.1 HX.out.2.2.2 hle)
     have hla:(L++T).length=L.length+(T).length:=by simp
     have HLA:=hid hla;clear hla
     go_wp2_with fail
     go_roundw
     case rel=>exact⟨L++T,k-1,a4,room'-(T).length,rfl,by go_num,by omega,by have:=HLA.out;omega,hid ⟨HF.out.1,by omega,HF.out.2.1,HF.out.2.2⟩⟩
     case measure=>simp[intOf];omega
    have Ry:¬(((T).length:Nat):Int)<=(room':Int):=by omega
    go_wp2_with fail
    go_roundw
    case rel=>exact⟨L,k-1,a4,room',rfl,by go_num,by omega,hl,hid ⟨HI.out,by omega,HX.out.2.2.1,HX.out.2.2.2⟩⟩
    case measure=>simp[intOf];omega
   have r0':¬(r:Int)=0:=by omega
   have r1':¬(r:Int)=1:=by omega
   have E2:=hid (zG w3 M3 hP x8 (by omega));clear M3 r0 r1
   go_wp2_with fail
   refine hm E2 ?_;rintro x w4 ⟨T,a4,rfl,hA,hAl,De,M4,B4⟩;clear E2;have HX:Hid (T.length<=14/\GS P.length T/\Mk w4 B b lv n a4 P room' pv/\Below B w w4):=hid ⟨hAl,hA,M4,HB.out.trans B4⟩;clear hA M4 B4;have hsz:(strOfNums T).size=(T).length:=strOfNums_size _;have c3:=HX.out.2.2.1.c3;have f3:=HX.out.2.2.1.free 3;have Wj:=HX.out.1
   by_cases hle:(T).length<=room'
   ·have Ry:(((T).length:Nat):Int)<=(room':Int):=by omega
    have hadd:∀w',Sem.run prog (Op.stringOp BinOp.add (strOfNums L) (strOfNums T)) w'= .ok (.string (strOfNums (L++T))) w':=iw L _ (by omega);have HF:=hid (HT.out w4 T a4 Wj HX.out.2.1 (by omega) HX.out.2.2.1 HX.out.2.2.2 hle)
    have hla:(L++T).length=L.length+(T).length:=by simp
    have HLA:=hid hla;clear hla
    go_wp2_with fail
    go_roundw
    case rel=>exact⟨L++T,k-1,a4,room'-(T).length,rfl,by go_num,by omega,by have:=HLA.out;omega,hid ⟨HF.out.1,by omega,HF.out.2.1,HF.out.2.2⟩⟩
    case measure=>simp[intOf];omega
   have Ry:¬(((T).length:Nat):Int)<=(room':Int):=by omega
   go_wp2_with fail
   go_roundw
   case rel=>exact⟨L,k-1,a4,room',rfl,by go_num,by omega,hl,hid ⟨HI.out,by omega,HX.out.2.2.1,HX.out.2.2.2⟩⟩
   case measure=>simp[intOf];omega
  have Wi:¬(0:Int)<(k:Int):=by omega
  go_wp2;go_ret;exact⟨L,a2,room',rfl,HG.out.1,hl,by have:=HG.out.2.1;omega,HG.out.2.2.1,HG.out.2.2.2⟩
end
open Go.ChangeShapes Go.WideShapes Go.ChangeAt Go.RowKit Go.Deep
theorem qu:ownKnob prog.godebug=none:=by kernel_rfl
theorem lx:laidOutB prog=true:=by kernel_rfl
theorem Bx:prog.cellsOf 3=1:=by kernel_rfl
theorem open_ints{H:Type}{enc:TypeId×Value->H}{W:World}{base:Nat}{v:Value}{d:DataW H}{p:List MemPlace}(hv:Value.okWide prog W .any base 38 v)
 (h:DataW.Trod enc prog W 0 (λ_=>true) true 38 v d p):∃n,qs W W.heap.size v n/\n<=maxLen:=by
 obtain⟨fuel,hf⟩:=h;obtain⟨a0,len,cap,rfl⟩:=okWide_slice underlying38 hv
 rcases open_slice underlying38 hf with⟨hcs,_⟩|⟨a,len',cap',m,n,D,Pl,hcs,hb,hl,hm,hmm,_,hel⟩
 ·simp[Value.cells]at hcs
  obtain⟨rfl,rfl,rfl⟩:=hcs;exact⟨0,.inl ⟨⟨_,_,rfl⟩,rfl⟩,Nat.zero_le _⟩
 simp[Value.cells]at hcs;obtain⟨rfl,rfl,rfl⟩:=hcs;simp only[if_true]at hmm;subst hmm;rw[Bx]at hel
 by_cases hz:len=0
 ·subst hz
  exact⟨0,.inl ⟨⟨_,_,rfl⟩,rfl⟩,Nat.zero_le _⟩
 have hex:∀i,i<len->∃x:Int,W.cell? (a.add i)=some (.int .i64 x)/\ -9223372036854775808<=x/\x<=9223372036854775807:=by
  intro i hi;obtain⟨cs',hc,ht⟩:=hel i (by omega);obtain⟨x,rfl,_,hw⟩:=DataW.trod_int underlying3 ht;obtain⟨_,_,hcell⟩:=World.cells?_some hc;have:=hcell 0 (by omega);rw[Go.Deep.add_add]at this;exact⟨x,by simpa using this,bounds_i64 hw⟩
 obtain⟨b,off,spot⟩:=a
 have hspot:spot=none:=by
  obtain⟨x,hx,_⟩:=hex 0 (by omega);simpa[Addr.add]using World.cell?_spot hx
 subst hspot
 have hlt:b<W.heap.size:=by
  obtain⟨x,hx,_⟩:=hex 0 (by omega)
  by_cases q:b<W.heap.size
  ·exact q
  rw[World.cell?]at hx;simp[Addr.add,Array.getElem?_eq_none (Nat.le_of_not_lt q)]at hx
 refine⟨len,.inr ⟨b,off,m,rfl,hlt,λj hj=>?_⟩,by omega⟩;obtain⟨x,hx,hb1⟩:=hex j hj;refine⟨x,?_,hb1⟩;unfold Addr.add at hx
 split at hx<;>simp_all
namespace Ch
def goes(n:Nat)(t:ByteArray)(a:As)(b:Int):As×ByteArray×Int:=if bR b then mz t a (strOfNums [b])else gV n t a
end Ch
theorem fA(a:As):(prog.info? 26).map (·.size)=some (aN a).size:=aP
section
variable (w:World)
theorem gH(a:As):
 Calls prog 21 #[.agg (aN a),.agg (aN a)] w λx w'=>x= .returned (.bool true)/\Kp (λ_=>False) w w':=by
 have K1:Kp (λ_=>False) w ((w.alloc (.cells (aN a) 26)).alloc (.cells (aN a) 26)):=((Kp.refl _ _).alloc _).alloc _;unfold aN at*
 go_enter func21,ntmps21
 go_wp2;go_ret;exact⟨rfl,K1⟩
end
namespace Ch
def SO(a b:ByteArray):Bool:=a.data.toList==b.data.toList
def Wl(a b:As):Bool:=SO a.act b.act&&SO a.past b.past&&SO a.tm b.tm&&(a.x==b.x)&&(a.y==b.y)&&(a.z==b.z)
theorem Aj{a b:ByteArray}(h:SO a b=true):a=b:=by
 unfold SO at h
 have h2:a.data.toList=b.data.toList:=by simpa using h
 obtain⟨x⟩:=a;obtain⟨y⟩:=b;simp only[ByteArray.mk.injEq];exact Array.ext' h2
theorem Wm{a b:As}(h:Wl a b=true):a=b:=by
 unfold Wl at h;simp only[Bool.and_eq_true,beq_iff_eq]at h;obtain⟨⟨⟨⟨⟨h1,h2⟩,h3⟩,h4⟩,h5⟩,h6⟩:=h;obtain⟨a1,a2,a3,a4,a5,a6⟩:=a;obtain⟨b1,b2,b3,b4,b5,b6⟩:=b;simp only at*;rw[Aj h1,Aj h2,Aj h3,h4,h5,h6]
def okR(r:As×ByteArray×Int)(want:As)(out:ByteArray):Bool:=Wl r.1 want&&SO r.2.1 out&&(r.2.2==0)
theorem Ny{r:As×ByteArray×Int}{want:As}{out:ByteArray}(h:okR r want out=true):r=(want,out,0):=by
 unfold okR at h;simp only[Bool.and_eq_true,beq_iff_eq]at h;obtain⟨⟨h1,h2⟩,h3⟩:=h;obtain⟨a,b,c⟩:=r;simp only at*;rw[Wm h1,Aj h2,h3]
theorem afD{t:ByteArray}{ol:Ol}(hr:read t=(0,0,ol)){a:As}(ht:(takeA ol.ag a).1=true):kP t a=0/\mj t a=(takeA ol.ag a).2:=by
 unfold kP mj;rw[hr];simp[ht]
end Ch
def jQ(w:World)(b:Nat)(a:As):Prop:=w.heap[b]? =some (.cells (aN a) 26 (0,0))
theorem jQ.keep{S:Nat->Prop}{w w':World}{b:Nat}{a:As}(h:jQ w b a)(k:Kp S w w')(hs:¬S b):jQ w' b a:=k.at_ h hs
theorem jQ.lt{w:World}{b:Nat}{a:As}(h:jQ w b a):b<w.heap.size:=lt_of_block h
section
variable {w:World} {b:Nat} {a:As}
theorem jQ.c0(h:jQ w b a):w.cell? ⟨b,0,none⟩=some (.string a.act):=by rw[World.cell?,h];rfl
theorem jQ.c1(h:jQ w b a):w.cell? ⟨b,1,none⟩=some (.string a.past):=by rw[World.cell?,h];rfl
theorem jQ.set1(h:jQ w b a)(v:ByteArray):jQ (w.setCell ⟨b,1,none⟩ (.string v)) b {a with past:=v}:=by
 unfold jQ at*;rw[heap_setCell_same _ _ _ _ _ _ h];rfl
end
namespace Ch
structure J3 where
 a:Bool
 b:Bool
 c:Bool
def J3.act(s:J3):ByteArray:=⟨#[82,80,65,if s.a then 67 else 66,68,if s.b then 70 else 69,71,if s.c then 73 else 72]⟩
def rG(s:ByteArray):As:=⟨s,⟨#[]⟩,⟨#[]⟩,0,0,0⟩
end Ch
def Dv(w:World)(b:Nat)(s:J3):Prop:=w.heap[b]? =some (.cells #[.bool s.a,.bool s.b,.bool s.c] 34 (0,0))
section
variable {w:World} {b:Nat} {s:J3}
theorem Dv.c0(h:Dv w b s):w.cell? ⟨b,0,none⟩=some (.bool s.a):=by rw[World.cell?,h];rfl
theorem Dv.c1(h:Dv w b s):w.cell? ⟨b,1,none⟩=some (.bool s.b):=by rw[World.cell?,h];rfl
theorem Dv.c2(h:Dv w b s):w.cell? ⟨b,2,none⟩=some (.bool s.c):=by rw[World.cell?,h];rfl
theorem Dv.set1(h:Dv w b s)(v:Bool):Dv (w.setCell ⟨b,1,none⟩ (.bool v)) b ⟨s.a,v,s.c⟩:=by unfold Dv at*;rw[heap_setCell_same _ _ _ _ _ _ h];rfl
theorem Dv.set2(h:Dv w b s)(v:Bool):Dv (w.setCell ⟨b,2,none⟩ (.bool v)) b ⟨s.a,s.b,v⟩:=by unfold Dv at*;rw[heap_setCell_same _ _ _ _ _ _ h];rfl
end
theorem JK(s:ByteArray):prog.built 26 [(0,.string s)]=some (aN (rG s)):=by kernel_rfl
section
variable (w:World)
theorem Ew(s:ByteArray):
 Calls prog 23 #[.string s] w λx w'=>x= .returned (.agg (aN (rG s)))/\Kp (λ_=>False) w w':=by
 obtain⟨da,dE,bq⟩:=fN;have HB:=hid (JK s);have rO:=bZ (rG s);have rI:=fA (rG s);have rS:(aN (rG s)).size=6:=rfl;have hnew:=heap_alloc_new w (.cells aD 26);have KF:Kp (λ_=>False) w ((w.alloc (.cells aD 26)).setRow w.heap.size (aN (rG s))):=((Kp.refl _ _).alloc _).setRow (λx=>by omega) _;generalize aN (rG s)=PA at*
 go_enter func23,ntmps23
 go_wp2_with (first|(refine bX rfl 26 #[(0,.tmp 3)] rfl PA [(0,.string s)] ?_ HB.out ?_;rfl)|refine wpList_store_row rfl 26 (.tmp 2) (.tmp 4) rfl w.heap.size PA rfl rfl 26 aD hnew rI (by rw[rS];rfl) rO ?_)
 refine bodyPost_ret (results_cell_row rfl _ _ w.heap.size 26 PA (0,0) da rfl (setRow_heap _ _ _ _ _ _ hnew) dE (by cases da<;>first|rfl|exact absurd bq (by simp[ak])) rI) rfl ?_;exact⟨rfl,KF⟩
end
end Go.Proofs.YtnlbchmfcebeeaaGreat
