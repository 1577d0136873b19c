import Derived.Test.YtnlbchmfcebeeaaGreatTSi
set_option maxHeartbeats 12800000
set_option maxRecDepth 100000
namespace Go.Proofs.YtnlbchmfcebeeaaGreat
open Go.Proofs.Tryz Ch
open Go.RowKit
namespace Ch
structure Ln where
 all:List As
 log:ByteArray
 stands:List Bool
 asked:List Rq
 latest:List Int
 steps:List Int
theorem UT{a b:ByteArray}{j:Nat}(h:j<a.size):af (a++b) j=af a j:=by
 unfold af;rw[dif_pos h,dif_pos (by rw[ByteArray.size_append];omega),ByteArray.getElem_append_left h]
theorem PJ{a b:ByteArray}{j:Nat}(h:j<b.size):af (a++b) (a.size+j)=af b j:=by
 unfold af;rw[dif_pos h,dif_pos (by rw[ByteArray.size_append];omega),ByteArray.getElem_append_right (by omega)]
 congr 3
 omega
theorem L3{a:ByteArray}{i:Nat}(h:i<a.size):af (a.extract i (i+1)) 0=af a i:=by
 have hs:(a.extract i (i+1)).size=1:=by rw[ByteArray.size_extract];omega
 unfold af;rw[dif_pos h,dif_pos (by omega),ByteArray.getElem_extract];rfl
theorem xE{a:ByteArray}{i:Nat}(h:i<a.size):(a.extract i (i+1)).size=1:=by rw[ByteArray.size_extract];omega
end Ch
def gr(a:As):List Value:=[.string a.act,.string a.past,.string a.tm,.int .i64 a.x,.int .i64 a.y,.int .i64 a.z]
theorem Q1(a:As):(gr a).toArray=aN a:=rfl
theorem aa8(a:As):(gr a).length=6:=rfl
def uR(l:List As):List Value:=l.flatMap gr
def zv(r:Rq):List Value:=[.int .i64 r.kind,.string r.events,.int .i64 r.at_]
theorem Ip(r:Rq):(zv r).length=3:=rfl
def gq(l:List Rq):List Value:=l.flatMap zv
def mU(l:List Bool):List Value:=l.map Value.bool
structure Lp where
 wb:Nat
 sb:Nat
 qb:Nat
 lb:Nat
 pb:Nat
def Y8(p:Lp)(t:ByteArray)(L:Ln)(av:Value):Array Value:=
 #[.string t,av,.string L.log,.slice (some ⟨p.sb,0,none⟩) L.stands.length L.stands.length,.slice (some ⟨p.qb,0,none⟩) L.asked.length L.asked.length,.slice (some ⟨p.lb,0,none⟩) L.latest.length L.latest.length,.slice (some ⟨p.pb,0,none⟩) L.steps.length L.steps.length]
structure h_(w:World)(p:Lp)(t:ByteArray)(L:Ln)(av:Value):Prop where
 blk:w.heap[p.wb]? =some (.cells (Y8 p t L av) 71 (0,0))
 row:w.ownsRow 0 26 6 av L.all.length (uR L.all)
 Iq:w.heap[p.sb]? =some (.cells (mU L.stands).toArray 4 (0,0))
 ask:w.heap[p.qb]? =some (.cells (gq L.asked).toArray 79 (0,0))
 L6:w.heap[p.lb]? =some (.cells (aJ L.latest).toArray 3 (0,0))
 FO:w.heap[p.pb]? =some (.cells (aJ L.steps).toArray 3 (0,0))
 ne:p.lb≠p.pb
def oe(p:Lp)(av:Value)(k:Nat):Prop:=k=p.wb\/k=p.sb\/k=p.qb\/k=p.lb\/k=p.pb\/av.ownBlock=some k
def xM(w w':World)(p:Lp)(t:ByteArray)(av:Value)(L:Ln):Prop:=
 ∃Aq,h_ w' p t L Aq/\(∀k,Aq.ownBlock=some k->av.ownBlock=some k\/w.heap.size<=k)/\Kp (oe p av) w w'
def lnT(e:TypeId):Prop:=e=71\/e=26\/e=4\/e=79\/e=3
section
variable {w w':World} {p:Lp} {t:ByteArray} {L:Ln} {av:Value}
theorem h_.keep{S:Nat->Prop}(h:h_ w p t L av)(K:Kp S w w')(hs:∀k,oe p av k->¬S k):h_ w' p t L av:=
 ⟨K.at_ h.blk (hs _ (.inl rfl)),K.owns h.row (λk e=>hs k (.inr (.inr (.inr (.inr (.inr e)))))),K.at_ h.Iq (hs _ (.inr (.inl rfl))),K.at_ h.ask (hs _ (.inr (.inr (.inl rfl)))),K.at_ h.L6 (hs _ (.inr (.inr (.inr (.inl rfl))))),K.at_ h.FO (hs _ (.inr (.inr (.inr (.inr (.inl rfl)))))),h.ne⟩
theorem h_.ai(h:h_ w p t L av)(K:Kp (λ_=>False) w w'):h_ w' p t L av:=h.keep K (λ_ _ x=>x)
theorem h_.low(h:h_ w p t L av):∀k,oe p av k->k<w.heap.size:=by
 rintro k (rfl|rfl|rfl|rfl|rfl|e)
 ·exact lt_of_block h.blk
 ·exact lt_of_block h.Iq
 ·exact lt_of_block h.ask
 ·exact lt_of_block h.L6
 ·exact lt_of_block h.FO
 obtain⟨cur,hc⟩:=br h.row e;exact lt_of_block hc
theorem h_.type(h:h_ w p t L av){k:Nat}(hk:oe p av k):∃c e,w.heap[k]? =some (.cells c e (0,0))/\lnT e:=by
 rcases hk with rfl|rfl|rfl|rfl|rfl|e
 ·exact⟨_,_,h.blk,.inl rfl⟩
 ·exact⟨_,_,h.Iq,.inr (.inr (.inl rfl))⟩
 ·exact⟨_,_,h.ask,.inr (.inr (.inr (.inl rfl)))⟩
 ·exact⟨_,_,h.L6,.inr (.inr (.inr (.inr rfl)))⟩
 ·exact⟨_,_,h.FO,.inr (.inr (.inr (.inr rfl)))⟩
 obtain⟨cur,hc⟩:=br h.row e;exact⟨_,_,hc,.inr (.inl rfl)⟩
theorem h_.other(h:h_ w p t L av){b:Nat}{c:Array Value}{e:TypeId}(hb:w.heap[b]? =some (.cells c e (0,0)))(he:¬lnT e):¬oe p av b:=by
 intro hk;obtain⟨c',e',h1,h2⟩:=h.type hk;rw[hb]at h1;simp only[Option.some.injEq,Obj.cells.injEq]at h1;exact he (h1.2.1▸h2)
theorem h_.cell(h:h_ w p t L av)(j:Nat):w.cell? ⟨p.wb,j,none⟩=(Y8 p t L av)[j]?:=by rw[World.cell?,h.blk];rfl
theorem h_.free(h:h_ w p t L av)(j:Nat):w.frozen? ⟨p.wb,j,none⟩=false:=by simp[World.frozen?,h.blk]
theorem h_.rowAt(h:h_ w p t L av)(hl:0<L.all.length):∃g cap,av= .slice (some ⟨g,0,none⟩) L.all.length cap:=by
 rcases h.row.2 with⟨_,e2⟩|⟨g,cap,_,e1,_⟩
 ·omega
 exact⟨g,cap,e1⟩
theorem xM.refl(h:h_ w p t L av):xM w w p t av L:=⟨av,h,λ_ e=>.inl e,Kp.refl _ _⟩
theorem xM.of(h:h_ w' p t L av)(K:Kp (oe p av) w w'):xM w w' p t av L:=⟨av,h,λ_ e=>.inl e,K⟩
theorem xM.trans{w'':World}{L':Ln}{Aq:Value}(K:Kp (oe p av) w w')(hk:∀k,Aq.ownBlock=some k->av.ownBlock=some k\/w.heap.size<=k)(q:xM w' w'' p t Aq L'):xM w w'' p t av L':=by
 obtain⟨kv2,h2,n2,K2⟩:=q;refine⟨kv2,h2,?_,K.trans' K2 ?_⟩
 ·intro k e
  rcases n2 k e with e'|e'
  ·exact hk k e'
  exact .inr (Nat.le_trans K.size e')
 intro i hi s
 rcases s with s|s|s|s|s|s
 ·exact .inl s
 ·exact .inr (.inl s)
 ·exact .inr (.inr (.inl s))
 ·exact .inr (.inr (.inr (.inl s)))
 ·exact .inr (.inr (.inr (.inr (.inl s))))
 rcases hk i s with e|e
 ·exact .inr (.inr (.inr (.inr (.inr e))))
 omega
theorem xM.ai{w'':World}{L':Ln}(q:xM w w' p t av L')(K:Kp (λ_=>False) w' w''):xM w w'' p t av L':=by
 obtain⟨kq,h4,n4,K4⟩:=q;exact⟨kq,h4.ai K,n4,K4.trans' K (λ_ _ x=>x.elim)⟩
end
theorem Ir{w:World}{xb tb:Nat}{pc:Pc}{ol:Ol}{x:Sv}{kv:Value}(h:dT w xb tb 138 pc ol x kv){k:Nat}(hk:oN xb tb kv k):∃c e,w.heap[k]? =some (.cells c e (0,0))/\¬lnT e:=by
 rcases hk with rfl|rfl|e
 ·exact⟨_,_,h.blk,by unfold lnT;decide⟩
 ·exact⟨_,_,h.rX,by unfold lnT;decide⟩
 obtain⟨cur,hc⟩:=br h.row e;exact⟨_,_,hc,by unfold lnT;decide⟩
theorem dT.CV{w w':World}{p:Lp}{t:ByteArray}{L:Ln}{av:Value}{xb tb:Nat}{pc:Pc}{ol:Ol}{x:Sv}{kv:Value}(h:dT w xb tb 138 pc ol x kv)(l:h_ w p t L av)(K:Kp (oe p av) w w'):dT w' xb tb 138 pc ol x kv:=by
 have hS:∀k,oN xb tb kv k->¬oe p av k:=by
  intro k hk;obtain⟨c,e,h1,h2⟩:=Ir h hk;exact l.other h1 h2
 refine h.keep K (hS _ (.inl rfl)) (hS _ (.inr (.inl rfl))) (λk e=>hS k (.inr (.inr e))) ?_;intro i cur e hi he
 exact l.other hi (by
  intro x
  rcases he with rfl|rfl|rfl|rfl<;>revert x<;>unfold lnT<;>decide)
theorem h_.dG{w w':World}{p:Lp}{t:ByteArray}{L:Ln}{av:Value}{xb tb:Nat}{pc:Pc}{ol:Ol}{x:Sv}{kv:Value}(l:h_ w p t L av)(h:dT w xb tb 138 pc ol x kv)(K:Kp (oN xb tb kv) w w'):h_ w' p t L av:=by
 refine l.keep K ?_;intro k hk hs;obtain⟨c,e,h1,h2⟩:=Ir h hs;exact l.other h1 h2 hk
section
variable (w:World)
theorem ui(c:Int)(h1: -9223372036854775808<=c)(h2:c<=9223372036854775807)(n:Nat)(hn:1<=n)(Qu:n<=8000000000000000000):
 Calls prog 24 #[.int .i64 c,.int .i64 n] w λx w'=>∃r:Nat,x= .returned (.int .i64 r)/\r<n/\w'=w:=by
 by_cases hc:c<0
 ·have e:(-(c+1)).tmod (n:Int)=(((-(c+1)).toNat % n:Nat):Int):=by
   rw[Int.tmod_eq_emod_of_nonneg (by omega)]
   have: -(c+1)=(((-(c+1)).toNat:Nat):Int):=by omega
   rw[this];simp
  have hlt:(-(c+1)).toNat % n<n:=Nat.mod_lt _ (by omega);generalize (-(c+1)).toNat % n=r at*
  have hn0:¬((n:Int)=0):=by omega
  go_enter func24,ntmps24
  go_wp2;go_ret;exact⟨r,by simp,hlt,rfl⟩
 have e:c.tmod (n:Int)=((c.toNat % n:Nat):Int):=by
  rw[Int.tmod_eq_emod_of_nonneg (by omega)]
  have:c=((c.toNat:Nat):Int):=by omega
  rw[this];simp
 have hlt:c.toNat % n<n:=Nat.mod_lt _ (by omega);generalize c.toNat % n=r at*
 have hn0:¬((n:Int)=0):=by omega
 go_enter func24,ntmps24
 go_wp2;go_ret;exact⟨r,by simp,hlt,rfl⟩
theorem L8(s:ByteArray)(hs:s.size<=maxLen):
 Calls prog 83 #[.string s] w λx w'=>∃e,x= .returned (.string e)/\gK e=true/\w'=w:=by
 unfold maxLen at hs
 go_enter func83,ntmps83
 go_wp2_with fail
 go_loopw [3,4] (λtv iv wr=>∃(i:Nat) (e:ByteArray),iv= .int .i64 i/\tv= .string e/\i<=s.size/\e.size<=4/\wr=w/\Hid (∀j,j<e.size->bR (af e j)=true)) (λ_ iv _=>s.size-(intOf iv).toNat)
 case atStart=>exact⟨0,⟨#[]⟩,rfl,rfl,Nat.zero_le _,Nat.zero_le _,rfl,hid (λj hj=>by have:j<0:=hj;omega)⟩
 case round=>
  obtain⟨i,e,rfl,rfl,hil,hel,rfl,HB⟩:=hrel
  by_cases hgo:i<s.size/\e.size<4
  ·obtain⟨hlt,he4⟩:=hgo
   have hlt':(i:Int)<(s.size:Int):=by omega
   have aqu:(e.size:Int)<4:=by omega
   have hidx:s[i]? =some (s[i]'hlt):=getElem?_pos s i hlt
   have hpk:af s i=((s[i]'hlt).toNat:Int):=by simp[af,hlt]
   generalize hc:((s[i]'hlt).toNat:Int)=c at*
   by_cases q:97<=c/\c<=122
   ·obtain⟨q1,q2⟩:=q
    have hadd:=λw'=>run_string_add_sum (P:=prog) w' e (s.extract i (i+1)) (by rw[xE hlt];omega)
    have hsz:(e++s.extract i (i+1)).size=e.size+1:=by rw[ByteArray.size_append,xE hlt]
    have HN:=hid (show∀j,j<(e++s.extract i (i+1)).size->bR (af (e++s.extract i (i+1)) j)=true by
     intro j hj;rw[hsz]at hj
     by_cases ej:j<e.size
     ·rw[UT ej];exact HB.out j ej
     obtain rfl:j=e.size+0:=by omega
     rw[PJ (by rw[xE hlt];omega),L3 hlt,hpk]
     simp[bR,q1,q2])
    have HS:=hid hsz;clear HB hsz hpk
    go_wp2_with fail
    go_roundw
    case rel=>exact⟨i+1,_,by go_num,rfl,by omega,by rw[HS.out];omega,by first|rfl|trivial,HN⟩
    case measure=>simp[intOf];omega
   have HB2:=HB;clear HB hpk
   by_cases q1:97<=c
   ·have q2:¬c<=122:=by omega
    go_wp2_with fail
    go_roundw
    case rel=>exact⟨i+1,e,by go_num,rfl,by omega,hel,by first|rfl|trivial,HB2⟩
    case measure=>simp[intOf];omega
   go_wp2_with fail
   go_roundw
   case rel=>exact⟨i+1,e,by go_num,rfl,by omega,hel,by first|rfl|trivial,HB2⟩
   case measure=>simp[intOf];omega
  have hfin:Hid (¬e=⟨#[]⟩->gK e=true):=hid (λhne=>LM (λz=>hne (by apply ByteArray.ext;exact Array.eq_empty_of_size_eq_zero (by show e.size=0;omega))) (by omega) HB.out)
  have hfa:gK ⟨#[97]⟩=true:=by decide
  have Iy:=hid hfa;clear HB hfa
  by_cases qe:e=⟨#[]⟩
  ·subst qe
   have hge:¬(i:Int)<(s.size:Int):=by
    intro x;apply hgo;exact⟨by omega,by decide⟩
   go_wp2;go_ret;exact⟨_,rfl,Iy.out,rfl⟩
  have hne:e.toList.isEmpty=false:=uO qe;have HF:=hid (hfin.out qe);clear hfin qe
  by_cases hlt:i<s.size
  ·have hlt':(i:Int)<(s.size:Int):=by omega
   have he4:¬(e.size:Int)<4:=by
    intro x;apply hgo;exact⟨hlt,by omega⟩
   go_wp2;go_ret;exact⟨_,rfl,HF.out,rfl⟩
  have hlt':¬(i:Int)<(s.size:Int):=by omega
  go_wp2;go_ret;exact⟨_,rfl,HF.out,rfl⟩
theorem FP(a b:As):
 Calls prog 21 #[.agg (aN a),.agg (aN b)] w λx w'=>∃v,x= .returned (.bool v)/\Kp (λ_=>False) w w':=by
 unfold aN
 go_enter func21,ntmps21
 go_wp2
 all_goals (go_ret;exact⟨_,rfl,((Kp.refl _ _).alloc _).alloc _⟩)
end
namespace Ch
theorem rq1{e:ByteArray}(he:gK e=true){a:Int}(ha: -1<=a):mT ⟨1,e,a⟩=true:=by
 unfold mT;rw[if_pos rfl];simp only[he,decide_eq_true ha,Bool.and_self]
theorem rq3{a:Int}(ha: -1<=a):mT ⟨3,⟨#[]⟩,a⟩=true:=by
 unfold mT;rw[if_neg (by simp),if_neg (by simp),if_pos rfl];simp only[decide_eq_true ha,Bool.and_true];rfl
theorem rq4{a:Int}(ha:0<=a):mT ⟨4,⟨#[]⟩,a⟩=true:=by
 unfold mT;rw[if_neg (by simp),if_neg (by simp),if_neg (by simp),if_pos rfl];simp only[decide_eq_true ha,Bool.and_true];rfl
end Ch
def stA(k u n:Int)(s:ByteArray):Array Value:=#[.int .i64 k,.int .i64 u,.int .i64 n,.string s]
theorem CW{P:Program}{o:Oper}{a:Act}{w:World}{K:Act->World->Prop}{Q:Exit->Act->World->Prop}(w':World)(f:∀K:Act->World->Prop,K a w'->o.wp P a w K Q)(h:K a w'):o.wp P a w K Q:=f K h
theorem zw(r:Rq):(dY r).all (λx=>x.oneCell')=true:=by
 apply Array.all_eq_true_iff_forall_mem.2;intro x hx;simp only[dY,List.mem_toArray,List.mem_cons,List.not_mem_nil,or_false]at hx
 rcases hx with rfl|rfl|rfl<;>rfl
section
variable (w:World) {p:Lp} {t:ByteArray} {L:Ln} {av:Value}
theorem L9(h:h_ w p t L av)(k u n:Int)(s:ByteArray)(hk1:1<=k)(hk4:k<=4)(hn1: -9223372036854775808<=n)(hn2:n<=9223372036854775807)(hs:s.size<=maxLen)(hal:L.all.length<=1900000000000)(sD:L.log.size<=7700000000000000000):
 Calls prog 59 #[.pointer (some ⟨p.wb,0,none⟩),.agg (stA k u n s)] w λx w'=>∃r:Rq,x= .returned (.agg (dY r))/\mT r=true/\r.kind=k/\Kp (λ_=>False) w w':=by
 obtain⟨dq,xX,nX⟩:=LS;obtain⟨ao,cap,u2⟩:=aF h.row;have K1:Kp (λ_=>False) w ((w.alloc (.cells (stA k u n s) 58)).alloc (.cells #[.int .i64 0,.string ⟨#[]⟩,.int .i64 0] 79)):=((Kp.refl _ _).alloc _).alloc _
 have hb1:((w.alloc (.cells (stA k u n s) 58)).alloc (.cells #[.int .i64 0,.string ⟨#[]⟩,.int .i64 0] 79)).heap[w.heap.size]? =some (.cells (stA k u n s) 58):=by
  rw[Below.heap_alloc _ _ _ (by simp)];exact heap_alloc_new _ _
 have hz1:((w.alloc (.cells (stA k u n s) 58)).alloc (.cells #[.int .i64 0,.string ⟨#[]⟩,.int .i64 0] 79)).heap[w.heap.size+1]? =some (.cells #[.int .i64 0,.string ⟨#[]⟩,.int .i64 0] 79):=heap_alloc2_new w _ _;have HB:=hid (show prog.built 79 [(0,.int .i64 k)]=some (dY ⟨k,⟨#[]⟩,0⟩)by kernel_rfl);have aqx:=lt_of_block h.blk;have HH:=hid (ae h K1)
 have EP:∀(m:Nat) (hm1:1<=m) (hm2:m<=8000000000000000000) (W:World),Hid (Calls prog 24 #[.int .i64 n,.int .i64 (m:Int)] W λx w'=>∃r:Nat,x= .returned (.int .i64 r)/\r<m/\w'=W):=λm h1 h2 W=>hid (ui W n hn1 hn2 m h1 h2)
 have EL:∀W,Hid (Calls prog 83 #[.string s] W λx w'=>∃e,x= .returned (.string e)/\gK e=true/\w'=W):=λW=>hid (L8 W s hs)
 have hwr:IntKind.wrap .i64 ((L.all.length:Int)+2)=(L.all.length:Int)+2/\IntKind.wrap .i64 ((L.all.length:Int)+3)=(L.all.length:Int)+3/\IntKind.wrap .i64 ((L.log.size:Int)+2)=(L.log.size:Int)+2:=by
  refine⟨?_,?_,?_⟩<;>(unfold IntKind.wrap;simp[IntKind.bits,IntKind.signed];omega)
 have HE:=hid (ae EP (ae EL hwr));clear h K1 EP EL hwr
 go_enter func59,ntmps59
 go_upto_region 1 with(fail)
 generalize (w.alloc (.cells (stA k u n s) 58)).alloc (.cells #[.int .i64 0,.string ⟨#[]⟩,.int .i64 0] 79)=w1 at*
 have c0:w1.cell? ⟨w.heap.size,0,none⟩=some (.int .i64 k):=by rw[World.cell?,hb1];rfl
 have hnb:=heap_alloc_new w1 (.cells #[.int .i64 0,.string ⟨#[]⟩,.int .i64 0] 79);have hx2:=setRow_heap (w1.alloc (.cells #[.int .i64 0,.string ⟨#[]⟩,.int .i64 0] 79)) w1.heap.size #[.int .i64 0,.string ⟨#[]⟩,.int .i64 0] (dY ⟨k,⟨#[]⟩,0⟩) 79 (0,0) hnb;have K2:Kp (λ_=>False) w1 ((w1.alloc (.cells #[.int .i64 0,.string ⟨#[]⟩,.int .i64 0] 79)).setRow w1.heap.size (dY ⟨k,⟨#[]⟩,0⟩)):=((Kp.refl _ _).alloc _).setRow (λx=>by omega) _;have hb2:=K2.at_ hb1 (λx=>x);have hz2:=K2.at_ hz1 (λx=>x);have h2:=HH.out.1.ai (HH.out.2.trans K2);have KA:=HH.out.2.trans K2;have hlt:w.heap.size+1<w1.heap.size:=lt_of_block hz1;have oq:=zw ⟨k,⟨#[]⟩,0⟩;have HX:=hid (ae h2 KA);clear K2 h2 KA hb1 hz1 HH
 go_upto_region 2 with(first|(refine bX rfl 79 #[(0,.tmp 7)] rfl (dY ⟨k,⟨#[]⟩,0⟩) [(0,.int .i64 k)] ?_ HB.out ?_;rfl)|refine wpList_store_row rfl 79 (.tmp 5) (.tmp 8) rfl w1.heap.size (dY ⟨k,⟨#[]⟩,0⟩) rfl rfl 79 #[.int .i64 0,.string ⟨#[]⟩,.int .i64 0] hnb rQ rfl oq ?_)
 generalize (w1.alloc (.cells #[.int .i64 0,.string ⟨#[]⟩,.int .i64 0] 79)).setRow w1.heap.size (dY ⟨k,⟨#[]⟩,0⟩)=w2 at*;generalize w1.heap.size=rb at*;clear c0 hnb
 have s0:w2.cell? ⟨w.heap.size,0,none⟩=some (.int .i64 k):=by rw[World.cell?,hb2];rfl
 have s2:w2.cell? ⟨w.heap.size,2,none⟩=some (.int .i64 n):=by rw[World.cell?,hb2];rfl
 have s3:w2.cell? ⟨w.heap.size,3,none⟩=some (.string s):=by rw[World.cell?,hb2];rfl
 have l1:w2.cell? ⟨p.wb,1,none⟩=some (.slice ao L.all.length cap):=by rw[<-u2];exact HX.out.1.cell 1
 have l2:w2.cell? ⟨p.wb,2,none⟩=some (.string L.log):=HX.out.1.cell 2
 have fr:∀j,w2.frozen? ⟨rb,j,none⟩=false:=λj=>by simp[World.frozen?,hx2]
 have y2:w2.cell? ⟨rb,2,none⟩=some (.int .i64 0):=by rw[World.cell?,hx2];rfl
 have y1:w2.cell? ⟨rb,1,none⟩=some (.string ⟨#[]⟩):=by rw[World.cell?,hx2];rfl
 have fr2:=fr 2;have fr1:=fr 1;clear fr;have HAV:=hid u2;clear u2
 by_cases q1:k=1
 ·subst q1
  have EL:=HE.out.2.1 w2
  go_wp2_with fail
  refine hm EL ?_;rintro y w3 ⟨e,rfl,he,rfl⟩;have HEB:=hid he;clear EL he;have hx3:(w3.setCell ⟨rb,1,none⟩ (.string e)).heap[rb]? =some (.cells (dY ⟨1,e,0⟩) 79 (0,0)):=ah _ hx2;have K3:Kp (λk=>k=rb) w3 (w3.setCell ⟨rb,1,none⟩ (.string e)):=(Kp.refl (λk=>k=rb) w3).setCell (p:=⟨rb,1,none⟩) (λ_=>rfl) _;have hx4:((w3.setCell ⟨rb,1,none⟩ (.string e)).setCell ⟨rb,2,none⟩ (.int .i64 (-1))).heap[rb]? =some (.cells (dY ⟨1,e,-1⟩) 79 (0,0)):=ah _ hx3;have K4:Kp (λk=>k=rb) w3 ((w3.setCell ⟨rb,1,none⟩ (.string e)).setCell ⟨rb,2,none⟩ (.int .i64 (-1))):=K3.setCell (p:=⟨rb,2,none⟩) (λ_=>rfl) _;have hb4:=K4.at_ hb2 (by show¬w.heap.size=rb;omega);have Zw:=K4.at_ hz2 (by show¬w.heap.size+1=rb;omega);have hl4:=K4.at_ HX.out.1.blk (by show¬p.wb=rb;omega);have KA:Kp (λ_=>False) w ((w3.setCell ⟨rb,1,none⟩ (.string e)).setCell ⟨rb,2,none⟩ (.int .i64 (-1))):=HX.out.2.trans' K4 (λi hi x=>by omega)
  have z3:(w3.setCell ⟨rb,1,none⟩ (.string e)).cell? ⟨rb,2,none⟩=some (.int .i64 0):=by rw[World.cell?,hx3];rfl
  have zf:(w3.setCell ⟨rb,1,none⟩ (.string e)).frozen? ⟨rb,2,none⟩=false:=by simp[World.frozen?,hx3]
  have e1:(Y8 p t L av)[1]? =some (.slice ao L.all.length cap):=by rw[HAV.out];rfl
  clear K3 K4 hx3 s0 s2 s3 l2
  go_upto_region 5 with(fail)
  generalize w3.setCell ⟨rb,1,none⟩ (.string e)=w4 at*
  go_upto_region 6 with(fail)
  generalize w4.setCell ⟨rb,2,none⟩ (.int .i64 (-1))=w5 at*;clear z3 zf l1 y1 y2 fr1 fr2 hx2 hz2 hb2
  have s2:w5.cell? ⟨w.heap.size,2,none⟩=some (.int .i64 n):=by rw[World.cell?,hb4];rfl
  have l1:w5.cell? ⟨p.wb,1,none⟩=some (.slice ao L.all.length cap):=by rw[World.cell?,hl4];exact e1
  clear e1
  have nD:¬((3:Int)=0):=by omega
  cases q5:(n.tmod 3==0)with
  |true=>
   have q6:n.tmod 3=0:=by simpa using q5
   go_upto_region 7 with(fail)
   have hwr:=HE.out.2.2.1;have KW:=KA;have Q2:=hx4;have hzW:=Zw
   have hS0:w5.drew.cell? ⟨w.heap.size,2,none⟩=some (.int .i64 n)/\w5.drew.cell? ⟨p.wb,1,none⟩=some (.slice ao L.all.length cap):=⟨s2,l1⟩
   refine az (λw'=>w'.cell? ⟨w.heap.size,2,none⟩=some (.int .i64 n)/\w'.cell? ⟨p.wb,1,none⟩=some (.slice ao L.all.length cap)) (by kernel_rfl) ?_;refine aU 0 22 (.pointer (some ⟨w.heap.size,2,none⟩)) hS0 ?_;refine dM 1 23 (.int .i64 n) rfl (λw' hS=>by simp[execOp,Act.eval,go_sem,hS.1]) hS0 ?_;refine aU 2 24 (.pointer (some ⟨p.wb,0,none⟩)) hS0 ?_;refine aU 3 25 (.pointer (some ⟨p.wb,0,none⟩)) hS0 ?_;refine aU 4 26 (.pointer (some ⟨p.wb,1,none⟩)) hS0 ?_;refine dM 5 27 (.slice ao L.all.length cap) rfl (λw' hS=>by simp[execOp,Act.eval,go_sem,hS.2]) hS0 ?_;refine aU 6 28 (.int .i64 L.all.length) hS0 ?_;refine dM 7 29 (.int .i64 ((L.all.length:Int)+2)) rfl (λw' _=>by simp[execOp,Act.eval,go_sem,hwr]) hS0 ?_;refine jD 8 ?_;refine iD (some 30) rfl 24 #[.int .i64 n,.int .i64 ((L.all.length:Int)+2)] (by simp[execOp,Act.eval,go_sem]) (λy w'=>∃r:Nat,y= .int .i64 r/\r<L.all.length+2/\w'=w5.drew) ?_ ?_
   ·exact(HE.out.1 (L.all.length+2) (by omega) (by omega) w5.drew).out.mono (λe w' hh=>by obtain⟨r,rfl,hr,rfl⟩:=hh;exact⟨_,rfl,r,rfl,hr,rfl⟩)
   rintro _ _ ⟨r,rfl,hr,rfl⟩;refine⟨hS0,?_⟩;simp only[Act.put,pA,pB,pC];refine aU 9 31 (.pointer (some ⟨rb,2,none⟩)) hS0 ?_
   have hcell:w5.drew.cell? ⟨rb,2,none⟩=some (.int .i64 (-1)):=by rw[World.cell?];exact(by rw[show w5.drew.heap[rb]? =_ from Q2];rfl)
   have uj:w5.frozen? ⟨rb,2,none⟩=false:=by simp[World.frozen?,Q2]
   have hfro:w5.drew.frozen? ⟨rb,2,none⟩=false:=uj;clear uj;have KN:Kp (λ_=>False) w (w5.drew.setCell ⟨rb,2,none⟩ (.int .i64 ((r:Int)))):=(KW.drewN 1).setCell (p:=⟨rb,2,none⟩) (λx=>by simp only at x;omega) _;have hx:(w5.drew.setCell ⟨rb,2,none⟩ (.int .i64 ((r:Int)))).heap[rb]? =some (.cells (dY ⟨1,e,(r:Int)⟩) 79 (0,0)):=ah (w:=w5.drew) (i:=2) (Value.int .i64 ((r:Int))) Q2
   have hz:(w5.drew.setCell ⟨rb,2,none⟩ (.int .i64 ((r:Int)))).heap[w.heap.size+1]? =some (.cells #[.int .i64 0,.string ⟨#[]⟩,.int .i64 0] 79 (0,0)):=by
    rw[Below.heap_setCell _ _ _ _ (by show w.heap.size+1≠rb;omega)];exact hzW
   have hS1:(w5.drew.setCell ⟨rb,2,none⟩ (.int .i64 ((r:Int)))).cell? ⟨w.heap.size,2,none⟩=some (.int .i64 n)/\(w5.drew.setCell ⟨rb,2,none⟩ (.int .i64 ((r:Int)))).cell? ⟨p.wb,1,none⟩=some (.slice ao L.all.length cap):=by
    refine⟨?_,?_⟩
    ·rw[World.cell?,Below.heap_setCell _ _ _ _ (by show w.heap.size≠rb;omega)];exact s2
    rw[World.cell?,Below.heap_setCell _ _ _ _ (by show p.wb≠rb;omega)];exact l1
   refine ot 10 (by kernel_rfl) rfl rfl (CW (w5.drew.setCell ⟨rb,2,none⟩ (.int .i64 ((r:Int)))) (λK hK=>by unfold Oper.wp;simp[execOp,Act.eval,go_sem,hcell,hfro];exact hK) ⟨hS1,?_⟩);refine wpAnyH_done (by kernel_rfl) (NoPanic.normal ?_) _;clear hcell hfro hS1 hS0 KW Q2 hzW s2 l1 hx4 Zw hb4 hl4;generalize w5.drew.setCell ⟨rb,2,none⟩ (.int .i64 ((r:Int)))=wN at*;have ir:=setRow_heap wN (w.heap.size+1) #[.int .i64 0,.string ⟨#[]⟩,.int .i64 0] (dY ⟨1,e,(r:Int)⟩) 79 (0,0) hz;have KF:=KN.setRow (g:=w.heap.size+1) (λx=>by omega) (dY ⟨1,e,(r:Int)⟩);have HK:=hid KF;clear KF KN;generalize rJ:dY ⟨1,e,(r:Int)⟩=RA at*;have Da:=hid rJ
   have rI:(prog.info? 79).map (·.size)=some RA.size:=by rw[<-rJ];exact rQ
   have rS:(#[.int .i64 0,.string ⟨#[]⟩,.int .i64 0]:Array Value).size=RA.size:=by rw[<-rJ];rfl
   have rO:RA.all (λx=>x.oneCell')=true:=by rw[<-rJ];exact zw _
   clear rJ
   go_wp2_with (first|refine wpList_load_row rfl 79 (.tmp 5) rfl rb rfl 79 RA (0,0) dq hx xX (by cases dq<;>first|rfl|exact absurd nX (by simp[ak])) rI ?_|refine wpList_store_row rfl 79 (.tmp 4) (.tmp 57) rfl (w.heap.size+1) RA rfl rfl 79 #[.int .i64 0,.string ⟨#[]⟩,.int .i64 0] hz rI rS rO ?_)
   refine bodyPost_ret (results_cell_row rfl _ _ (w.heap.size+1) 79 RA (0,0) dq rfl ir xX (by cases dq<;>first|rfl|exact absurd nX (by simp[ak])) rI) rfl ?_;exact⟨⟨1,e,(r:Int)⟩,by rw[Da.out],rq1 HEB.out (by omega),rfl,HK.out⟩
  |false=>?_
  have q6:¬n.tmod 3=0:=by simpa using q5
  have hx:=hx4;have hz:=Zw;have KN:=KA;clear KA hx4 Zw hl4 hb4 l1 HX HE;generalize w5=wN at*;have ir:=setRow_heap wN (w.heap.size+1) #[.int .i64 0,.string ⟨#[]⟩,.int .i64 0] (dY ⟨1,e,-1⟩) 79 (0,0) hz;have KF:=KN.setRow (g:=w.heap.size+1) (λx=>by omega) (dY ⟨1,e,-1⟩);have HK:=hid KF;clear KF KN;generalize rJ:dY ⟨1,e,-1⟩=RA at*;have Da:=hid rJ
  have rI:(prog.info? 79).map (·.size)=some RA.size:=by rw[<-rJ];exact rQ
  have rS:(#[.int .i64 0,.string ⟨#[]⟩,.int .i64 0]:Array Value).size=RA.size:=by rw[<-rJ];rfl
  have rO:RA.all (λx=>x.oneCell')=true:=by rw[<-rJ];exact zw _
  clear rJ
  go_wp2_with (first|refine wpList_load_row rfl 79 (.tmp 5) rfl rb rfl 79 RA (0,0) dq hx xX (by cases dq<;>first|rfl|exact absurd nX (by simp[ak])) rI ?_|refine wpList_store_row rfl 79 (.tmp 4) (.tmp 57) rfl (w.heap.size+1) RA rfl rfl 79 #[.int .i64 0,.string ⟨#[]⟩,.int .i64 0] hz rI rS rO ?_)
  refine bodyPost_ret (results_cell_row rfl _ _ (w.heap.size+1) 79 RA (0,0) dq rfl ir xX (by cases dq<;>first|rfl|exact absurd nX (by simp[ak])) rI) rfl ?_;exact⟨⟨1,e,-1⟩,by rw[Da.out],rq1 HEB.out (by omega),rfl,HK.out⟩
 by_cases q2:k=2
 ·subst q2
  have hx:=hx2;have hz:=hz2;have KN:=HX.out.2;clear HX HE s2 s3 l1 l2 y1 y2 fr1 fr2 hx2 hz2;generalize w2=wN at*;have ir:=setRow_heap wN (w.heap.size+1) #[.int .i64 0,.string ⟨#[]⟩,.int .i64 0] (dY ⟨2,⟨#[]⟩,0⟩) 79 (0,0) hz;have KF:=KN.setRow (g:=w.heap.size+1) (λx=>by omega) (dY ⟨2,⟨#[]⟩,0⟩);have HK:=hid KF;clear KF KN;generalize rJ:dY ⟨2,⟨#[]⟩,0⟩=RA at*;have Da:=hid rJ
  have rI:(prog.info? 79).map (·.size)=some RA.size:=by rw[<-rJ];exact rQ
  have rS:(#[.int .i64 0,.string ⟨#[]⟩,.int .i64 0]:Array Value).size=RA.size:=by rw[<-rJ];rfl
  have rO:RA.all (λx=>x.oneCell')=true:=by rw[<-rJ];exact zw _
  clear rJ
  go_wp2_with (first|refine wpList_load_row rfl 79 (.tmp 5) rfl rb rfl 79 RA (0,0) dq hx xX (by cases dq<;>first|rfl|exact absurd nX (by simp[ak])) rI ?_|refine wpList_store_row rfl 79 (.tmp 4) (.tmp 57) rfl (w.heap.size+1) RA rfl rfl 79 #[.int .i64 0,.string ⟨#[]⟩,.int .i64 0] hz rI rS rO ?_)
  refine bodyPost_ret (results_cell_row rfl _ _ (w.heap.size+1) 79 RA (0,0) dq rfl ir xX (by cases dq<;>first|rfl|exact absurd nX (by simp[ak])) rI) rfl ?_;exact⟨⟨2,⟨#[]⟩,0⟩,by rw[Da.out],by kernel_rfl,rfl,HK.out⟩
 by_cases q3:k=3
 ·subst q3
  go_upto_region 9 with(fail)
  have hwr:=HE.out.2.2.2.1
  have hwr2:∀r:Nat,r<L.all.length+3->IntKind.wrap .i64 ((r:Int)-1)=(r:Int)-1:=by
   intro r hr;unfold IntKind.wrap;simp[IntKind.bits,IntKind.signed];omega
  have KW:=HX.out.2;have Q2:=hx2;have hzW:=hz2
  have hS0:w2.drew.cell? ⟨w.heap.size,2,none⟩=some (.int .i64 n)/\w2.drew.cell? ⟨p.wb,1,none⟩=some (.slice ao L.all.length cap):=⟨s2,l1⟩
  refine az (λw'=>w'.cell? ⟨w.heap.size,2,none⟩=some (.int .i64 n)/\w'.cell? ⟨p.wb,1,none⟩=some (.slice ao L.all.length cap)) (by kernel_rfl) ?_;refine aU 0 34 (.pointer (some ⟨w.heap.size,2,none⟩)) hS0 ?_;refine dM 1 35 (.int .i64 n) rfl (λw' hS=>by simp[execOp,Act.eval,go_sem,hS.1]) hS0 ?_;refine aU 2 36 (.pointer (some ⟨p.wb,0,none⟩)) hS0 ?_;refine aU 3 37 (.pointer (some ⟨p.wb,0,none⟩)) hS0 ?_;refine aU 4 38 (.pointer (some ⟨p.wb,1,none⟩)) hS0 ?_;refine dM 5 39 (.slice ao L.all.length cap) rfl (λw' hS=>by simp[execOp,Act.eval,go_sem,hS.2]) hS0 ?_;refine aU 6 40 (.int .i64 L.all.length) hS0 ?_;refine dM 7 41 (.int .i64 ((L.all.length:Int)+3)) rfl (λw' _=>by simp[execOp,Act.eval,go_sem,hwr]) hS0 ?_;refine jD 8 ?_;refine iD (some 42) rfl 24 #[.int .i64 n,.int .i64 ((L.all.length:Int)+3)] (by simp[execOp,Act.eval,go_sem]) (λy w'=>∃r:Nat,y= .int .i64 r/\r<L.all.length+3/\w'=w2.drew) ?_ ?_
  ·exact(HE.out.1 (L.all.length+3) (by omega) (by omega) w2.drew).out.mono (λe w' hh=>by obtain⟨r,rfl,hr,rfl⟩:=hh;exact⟨_,rfl,r,rfl,hr,rfl⟩)
  rintro _ _ ⟨r,rfl,hr,rfl⟩;refine⟨hS0,?_⟩;simp only[Act.put,pA,pB,pC];refine dM 9 43 (.int .i64 ((r:Int)-1)) rfl (λw' _=>by simp[execOp,Act.eval,go_sem,hwr2 r hr]) hS0 ?_;refine aU 10 44 (.pointer (some ⟨rb,2,none⟩)) hS0 ?_
  have hcell:w2.drew.cell? ⟨rb,2,none⟩=some (.int .i64 0):=by rw[World.cell?];exact(by rw[show w2.drew.heap[rb]? =_ from Q2];rfl)
  have uj:w2.frozen? ⟨rb,2,none⟩=false:=by simp[World.frozen?,Q2]
  have hfro:w2.drew.frozen? ⟨rb,2,none⟩=false:=uj;clear uj;have KN:Kp (λ_=>False) w (w2.drew.setCell ⟨rb,2,none⟩ (.int .i64 ((r:Int)-1))):=(KW.drewN 1).setCell (p:=⟨rb,2,none⟩) (λx=>by simp only at x;omega) _;have hx:(w2.drew.setCell ⟨rb,2,none⟩ (.int .i64 ((r:Int)-1))).heap[rb]? =some (.cells (dY ⟨3,⟨#[]⟩,(r:Int)-1⟩) 79 (0,0)):=ah (w:=w2.drew) (i:=2) (Value.int .i64 ((r:Int)-1)) Q2
  have hz:(w2.drew.setCell ⟨rb,2,none⟩ (.int .i64 ((r:Int)-1))).heap[w.heap.size+1]? =some (.cells #[.int .i64 0,.string ⟨#[]⟩,.int .i64 0] 79 (0,0)):=by
   rw[Below.heap_setCell _ _ _ _ (by show w.heap.size+1≠rb;omega)];exact hzW
  have hS1:(w2.drew.setCell ⟨rb,2,none⟩ (.int .i64 ((r:Int)-1))).cell? ⟨w.heap.size,2,none⟩=some (.int .i64 n)/\(w2.drew.setCell ⟨rb,2,none⟩ (.int .i64 ((r:Int)-1))).cell? ⟨p.wb,1,none⟩=some (.slice ao L.all.length cap):=by
   refine⟨?_,?_⟩
   ·rw[World.cell?,Below.heap_setCell _ _ _ _ (by show w.heap.size≠rb;omega)];exact s2
   rw[World.cell?,Below.heap_setCell _ _ _ _ (by show p.wb≠rb;omega)];exact l1
  refine ot 11 (by kernel_rfl) rfl rfl (CW (w2.drew.setCell ⟨rb,2,none⟩ (.int .i64 ((r:Int)-1))) (λK hK=>by unfold Oper.wp;simp[execOp,Act.eval,go_sem,hcell,hfro];exact hK) ⟨hS1,?_⟩);refine wpAnyH_done (by kernel_rfl) (NoPanic.normal ?_) _;clear hcell hfro hS1 hS0 KW Q2 hzW s2 l1 l2 s0 s3 y1 y2 fr1 fr2 hx2 hz2 hb2;generalize w2.drew.setCell ⟨rb,2,none⟩ (.int .i64 ((r:Int)-1))=wN at*;have ir:=setRow_heap wN (w.heap.size+1) #[.int .i64 0,.string ⟨#[]⟩,.int .i64 0] (dY ⟨3,⟨#[]⟩,(r:Int)-1⟩) 79 (0,0) hz;have KF:=KN.setRow (g:=w.heap.size+1) (λx=>by omega) (dY ⟨3,⟨#[]⟩,(r:Int)-1⟩);have HK:=hid KF;clear KF KN;generalize rJ:dY ⟨3,⟨#[]⟩,(r:Int)-1⟩=RA at*;have Da:=hid rJ
  have rI:(prog.info? 79).map (·.size)=some RA.size:=by rw[<-rJ];exact rQ
  have rS:(#[.int .i64 0,.string ⟨#[]⟩,.int .i64 0]:Array Value).size=RA.size:=by rw[<-rJ];rfl
  have rO:RA.all (λx=>x.oneCell')=true:=by rw[<-rJ];exact zw _
  clear rJ
  go_wp2_with (first|refine wpList_load_row rfl 79 (.tmp 5) rfl rb rfl 79 RA (0,0) dq hx xX (by cases dq<;>first|rfl|exact absurd nX (by simp[ak])) rI ?_|refine wpList_store_row rfl 79 (.tmp 4) (.tmp 57) rfl (w.heap.size+1) RA rfl rfl 79 #[.int .i64 0,.string ⟨#[]⟩,.int .i64 0] hz rI rS rO ?_)
  refine bodyPost_ret (results_cell_row rfl _ _ (w.heap.size+1) 79 RA (0,0) dq rfl ir xX (by cases dq<;>first|rfl|exact absurd nX (by simp[ak])) rI) rfl ?_;exact⟨⟨3,⟨#[]⟩,(r:Int)-1⟩,by rw[Da.out],rq3 (by omega),rfl,HK.out⟩
 have q4:k=4:=by omega
 subst q4
 go_upto_region 11 with(fail)
 have hwr:=HE.out.2.2.2.2;have KW:=HX.out.2;have Q2:=hx2;have hzW:=hz2
 have hS0:w2.drew.cell? ⟨w.heap.size,2,none⟩=some (.int .i64 n)/\w2.drew.cell? ⟨p.wb,2,none⟩=some (.string L.log):=⟨s2,l2⟩
 refine az (λw'=>w'.cell? ⟨w.heap.size,2,none⟩=some (.int .i64 n)/\w'.cell? ⟨p.wb,2,none⟩=some (.string L.log)) (by kernel_rfl) ?_;refine aU 0 47 (.pointer (some ⟨w.heap.size,2,none⟩)) hS0 ?_;refine dM 1 48 (.int .i64 n) rfl (λw' hS=>by simp[execOp,Act.eval,go_sem,hS.1]) hS0 ?_;refine aU 2 49 (.pointer (some ⟨p.wb,0,none⟩)) hS0 ?_;refine aU 3 50 (.pointer (some ⟨p.wb,0,none⟩)) hS0 ?_;refine aU 4 51 (.pointer (some ⟨p.wb,2,none⟩)) hS0 ?_;refine dM 5 52 (.string L.log) rfl (λw' hS=>by simp[execOp,Act.eval,go_sem,hS.2]) hS0 ?_;refine aU 6 53 (.int .i64 L.log.size) hS0 ?_;refine dM 7 54 (.int .i64 ((L.log.size:Int)+2)) rfl (λw' _=>by simp[execOp,Act.eval,go_sem,hwr]) hS0 ?_;refine jD 8 ?_;refine iD (some 55) rfl 24 #[.int .i64 n,.int .i64 ((L.log.size:Int)+2)] (by simp[execOp,Act.eval,go_sem]) (λy w'=>∃r:Nat,y= .int .i64 r/\r<L.log.size+2/\w'=w2.drew) ?_ ?_
 ·exact(HE.out.1 (L.log.size+2) (by omega) (by omega) w2.drew).out.mono (λe w' hh=>by obtain⟨r,rfl,hr,rfl⟩:=hh;exact⟨_,rfl,r,rfl,hr,rfl⟩)
 rintro _ _ ⟨r,rfl,hr,rfl⟩;refine⟨hS0,?_⟩;simp only[Act.put,pA,pB,pC];refine aU 9 56 (.pointer (some ⟨rb,2,none⟩)) hS0 ?_
 have hcell:w2.drew.cell? ⟨rb,2,none⟩=some (.int .i64 0):=by rw[World.cell?];exact(by rw[show w2.drew.heap[rb]? =_ from Q2];rfl)
 have uj:w2.frozen? ⟨rb,2,none⟩=false:=by simp[World.frozen?,Q2]
 have hfro:w2.drew.frozen? ⟨rb,2,none⟩=false:=uj;clear uj;have KN:Kp (λ_=>False) w (w2.drew.setCell ⟨rb,2,none⟩ (.int .i64 ((r:Int)))):=(KW.drewN 1).setCell (p:=⟨rb,2,none⟩) (λx=>by simp only at x;omega) _;have hx:(w2.drew.setCell ⟨rb,2,none⟩ (.int .i64 ((r:Int)))).heap[rb]? =some (.cells (dY ⟨4,⟨#[]⟩,(r:Int)⟩) 79 (0,0)):=ah (w:=w2.drew) (i:=2) (Value.int .i64 ((r:Int))) Q2
 have hz:(w2.drew.setCell ⟨rb,2,none⟩ (.int .i64 ((r:Int)))).heap[w.heap.size+1]? =some (.cells #[.int .i64 0,.string ⟨#[]⟩,.int .i64 0] 79 (0,0)):=by
  rw[Below.heap_setCell _ _ _ _ (by show w.heap.size+1≠rb;omega)];exact hzW
 have hS1:(w2.drew.setCell ⟨rb,2,none⟩ (.int .i64 ((r:Int)))).cell? ⟨w.heap.size,2,none⟩=some (.int .i64 n)/\(w2.drew.setCell ⟨rb,2,none⟩ (.int .i64 ((r:Int)))).cell? ⟨p.wb,2,none⟩=some (.string L.log):=by
  refine⟨?_,?_⟩
  ·rw[World.cell?,Below.heap_setCell _ _ _ _ (by show w.heap.size≠rb;omega)];exact s2
  rw[World.cell?,Below.heap_setCell _ _ _ _ (by show p.wb≠rb;omega)];exact l2
 refine ot 10 (by kernel_rfl) rfl rfl (CW (w2.drew.setCell ⟨rb,2,none⟩ (.int .i64 ((r:Int)))) (λK hK=>by unfold Oper.wp;simp[execOp,Act.eval,go_sem,hcell,hfro];exact hK) ⟨hS1,?_⟩);refine wpAnyH_done (by kernel_rfl) (NoPanic.normal ?_) _;clear hcell hfro hS1 hS0 KW Q2 hzW s2 l1 l2 s0 s3 y1 y2 fr1 fr2 hx2 hz2 hb2;generalize w2.drew.setCell ⟨rb,2,none⟩ (.int .i64 ((r:Int)))=wN at*;have ir:=setRow_heap wN (w.heap.size+1) #[.int .i64 0,.string ⟨#[]⟩,.int .i64 0] (dY ⟨4,⟨#[]⟩,(r:Int)⟩) 79 (0,0) hz;have KF:=KN.setRow (g:=w.heap.size+1) (λx=>by omega) (dY ⟨4,⟨#[]⟩,(r:Int)⟩);have HK:=hid KF;clear KF KN;generalize rJ:dY ⟨4,⟨#[]⟩,(r:Int)⟩=RA at*;have Da:=hid rJ
 have rI:(prog.info? 79).map (·.size)=some RA.size:=by rw[<-rJ];exact rQ
 have rS:(#[.int .i64 0,.string ⟨#[]⟩,.int .i64 0]:Array Value).size=RA.size:=by rw[<-rJ];rfl
 have rO:RA.all (λx=>x.oneCell')=true:=by rw[<-rJ];exact zw _
 clear rJ
 go_wp2_with (first|refine wpList_load_row rfl 79 (.tmp 5) rfl rb rfl 79 RA (0,0) dq hx xX (by cases dq<;>first|rfl|exact absurd nX (by simp[ak])) rI ?_|refine wpList_store_row rfl 79 (.tmp 4) (.tmp 57) rfl (w.heap.size+1) RA rfl rfl 79 #[.int .i64 0,.string ⟨#[]⟩,.int .i64 0] hz rI rS rO ?_)
 refine bodyPost_ret (results_cell_row rfl _ _ (w.heap.size+1) 79 RA (0,0) dq rfl ir xX (by cases dq<;>first|rfl|exact absurd nX (by simp[ak])) rI) rfl ?_;exact⟨⟨4,⟨#[]⟩,(r:Int)⟩,by rw[Da.out],rq4 (by omega),rfl,HK.out⟩
end
theorem PK:(prog.info? 26).map (λi=>(i.zero,i.size,i.bytes))=some (some (.agg aD),6,72):=by kernel_rfl
theorem Q6(a:As):∀u∈gr a,u.oneCell'=true:=by
 intro u hu;simp only[gr,List.mem_cons,List.not_mem_nil,or_false]at hu
 rcases hu with rfl|rfl|rfl|rfl|rfl|rfl<;>rfl
theorem FQ{P:Program}{o:Oper}{a:Act}{w:World}{K:Act->World->Prop}{Q:Exit->Act->World->Prop}(s x:Operand)(t:TypeId)(hop:o.op=Op.call {callee:=Callee.builtin Builtin.append,args:=#[s,x],argTypes:=#[t,t]})
 (base:Nat) (e:TypeId) (i:TypeInfo) (z:Value) (size bytes:Nat) (h1:P.underlying t=some (.slice e)) (h2:P.info? e=some i) (h3:i.zero=some z) (h4:i.size=size) (h5:i.bytes=bytes) (h6:z.cells.size=size) (h7:0<size)
 (v:Value) (n:Nat) (xs:List Value) (hs:a.eval s=v) (hown:w.ownsRow base e size v n xs)
 (ad:Addr) (m c:Nat) (news:List Value) (hx:a.eval x= .slice (some ad) m c) (hn:news.length=m*size) (hc:∀j u,news[j]? =some u->w.cell? (ad.add j)=some u) (h1c:∀u∈news,u.oneCell'=true)
 (hm1:0<m) (b1:n+m<=maxLen) (b2:(n+m)*bytes<=140737488355328) (hbase:base<=w.heap.size)
 (hK:∀g cap w',w'.ownsRow base e size (.slice (some ⟨g,0,none⟩) (n+m) cap) (n+m) (xs++news)->w.grownBy w' v.ownBlock->(v.ownBlock=some g\/w.heap.size<=g)->K (a.put o.dst (.slice (some ⟨g,0,none⟩) (n+m) cap)) w'):o.wp P a w K Q:=by
 obtain⟨g,cap,w',hrun,r1,r2,r3⟩:=dC (P:=P) w base t o.type e i z size bytes h1 h2 h3 h4 h5 h6 h7 v n xs hown ad m c news hn hc h1c hm1 b1 b2 hbase;unfold Oper.wp;simp[execOp,hop,resolve,invoke,builtin,hs,hx,hrun,Result.andThen];exact hK g cap w' r1 r2 r3
section
variable {w w8:World} {p:Lp} {t:ByteArray} {L:Ln} {av av2:Value}
theorem h_.neW(h:h_ w p t L av):p.sb≠p.wb/\p.qb≠p.wb/\p.lb≠p.wb/\p.pb≠p.wb:=by
 have f:∀{b:Nat} {c:Array Value} {e:TypeId},w.heap[b]? =some (.cells c e (0,0))->e≠71->b≠p.wb:=by
  intro b c e hb he x;rw[x,h.blk]at hb;simp only[Option.some.injEq,Obj.cells.injEq]at hb;exact he hb.2.1.symm
 exact⟨f h.Iq (by decide),f h.ask (by decide),f h.L6 (by decide),f h.FO (by decide)⟩
theorem h_.snoc(h:h_ w p t L av){b:As}(KG:Kp (λk=>av.ownBlock=some k) w w8)(o8:w8.ownsRow 0 26 6 av2 (L.all.length+1) (uR L.all++gr b)):h_ (w8.setCell ⟨p.wb,1,none⟩ av2) p t {L with all:=L.all++[b]} av2:=by
 have zP:=KG.at_ h.blk (own_ne h.row h.blk (by decide));have KS:Kp (λk=>k=p.wb) w8 (w8.setCell ⟨p.wb,1,none⟩ av2):=(Kp.refl (λk=>k=p.wb) w8).setCell (p:=⟨p.wb,1,none⟩) (λ_=>rfl) _;have hne:=own_ne o8 zP (by decide);obtain⟨n1,n2,n3,n4⟩:=h.neW;refine⟨?_,?_,KS.at_ (KG.at_ h.Iq (own_ne h.row h.Iq (by decide))) n1,KS.at_ (KG.at_ h.ask (own_ne h.row h.ask (by decide))) n2,KS.at_ (KG.at_ h.L6 (own_ne h.row h.L6 (by decide))) n3,KS.at_ (KG.at_ h.FO (own_ne h.row h.FO (by decide))) n4,h.ne⟩
 ·rw[ah _ zP];rfl
 have:=KS.owns o8 (λk e x=>hne (by rw[<-x];exact e));rw[List.length_append,List.length_singleton,show uR (L.all++[b])=uR L.all++gr b by simp[uR]];exact this
theorem h_.Yz(h:h_ w p t L av)(g:ByteArray):h_ (w.setCell ⟨p.wb,2,none⟩ (.string g)) p t {L with log:=g} av:=by
 have KS:Kp (λk=>k=p.wb) w (w.setCell ⟨p.wb,2,none⟩ (.string g)):=(Kp.refl (λk=>k=p.wb) w).setCell (p:=⟨p.wb,2,none⟩) (λ_=>rfl) _;have hne:=own_ne h.row h.blk (by decide);obtain⟨n1,n2,n3,n4⟩:=h.neW;refine⟨?_,KS.owns h.row (λk e x=>hne (by rw[<-x];exact e)),KS.at_ h.Iq n1,KS.at_ h.ask n2,KS.at_ h.L6 n3,KS.at_ h.FO n4,h.ne⟩;rw[ah _ h.blk];rfl
theorem h_.at_(h:h_ w p t L av){g cap:Nat}(e:av= .slice (some ⟨g,0,none⟩) L.all.length cap){k:Nat}{a:As}(hk:L.all[k]? =some a):∀j u,(gr a)[j]? =some u->w.cell? ⟨g,k*6+j,none⟩=some u:=by
 intro j u hj;have hr:=h.row;rw[e]at hr;have hlt:=(List.getElem?_eq_some_iff.1 hk).1;have hj6:j<6:=(List.getElem?_eq_some_iff.1 hj).1;have hc:=hr.cellAt (k*6+j) (by omega);rw[hc];exact(jP gr 6 L.all k a j (λa _=>aa8 a) hk hj6).trans hj
end
section
variable (w:World) {p:Lp} {t:ByteArray} {L:Ln} {av:Value}
theorem UU(h:h_ w p t L av){a b:As}{o:ByteArray}(hl:L.all[L.all.length-1]? =some a)(hal:L.all.length<=1900000000000)(sD:L.log.size+o.size<=7700000000000000000)
 (EW:∀W,Hid (Calls prog 48 #[.string t,.agg (aN a)] W λx w'=>x= .returned (.tuple #[.agg (aN b),.string o,.int .i64 0])/\Kp (λ_=>False) W w')):
 Calls prog 87 #[.pointer (some ⟨p.wb,0,none⟩),.agg (bW {dR with ia:=(L.all.length:Int),text:=o})] w λx w'=>x= .returned (.bool true)/\xM w w' p t av {L with all:=L.all++[b],log:=L.log++o}:=by
 obtain⟨da,dE,bq⟩:=fN;obtain⟨i0,hi0,hz0,hz1,hz2⟩:=info_parts PK
 have hpos:0<L.all.length:=by have:=(List.getElem?_eq_some_iff.1 hl).1;omega
 obtain⟨g,cap,u2⟩:=h.rowAt hpos;subst u2;have hlow:=h.low;have K1:Kp (λ_=>False) w (w.alloc (.cells (bW {dR with ia:=(L.all.length:Int),text:=o}) 64)):=(Kp.refl _ _).alloc _;have hn1:=heap_alloc_new w (.cells (bW {dR with ia:=(L.all.length:Int),text:=o}) 64);have h1:=h.ai K1;have HEW:=hid EW;clear h EW;generalize rY:bW {dR with ia:=(L.all.length:Int),text:=o}=RP at*;have my:=hid rY;clear rY
 go_enter func87,ntmps87
 go_upto_region 1 with(fail)
 have hsz1:w.heap.size<(w.alloc (.cells RP 64)).heap.size:=lt_of_block hn1;generalize w.alloc (.cells RP 64)=w1 at*;have x0:w1.cell? ⟨p.wb,0,none⟩=some (.string t):=h1.cell 0;have x1:w1.cell? ⟨p.wb,1,none⟩=some (.slice (some ⟨g,0,none⟩) L.all.length cap):=h1.cell 1
 have xc:∀j u,(gr a)[j]? =some u->w1.cell? ⟨g,((L.all.length:Int)-1).toNat*6+j,none⟩=some u:=by
  rw[show((L.all.length:Int)-1).toNat=L.all.length-1 by omega];exact h1.at_ rfl hl
 go_upto_region 2 with(fail)
 have h0l:(1:Int)<=(L.all.length:Int):=by omega
 have h0m:¬(L.all.length:Int)<=(L.all.length:Int)-1:=by omega
 have sL:(prog.info? 26).map (·.size)=some (gr a).length:=aP
 go_cut [6,7,8]from 15 to 30 (λq e f wx=>∃fb,q= .pointer (some ⟨fb,0,none⟩)/\e= .string o/\f= .int .i64 0/\wx.heap[fb]? =some (.cells (aN b) 26 (0,0))/\Kp (λ_=>False) w1 wx/\w1.heap.size<=fb)
 case first=>
  have hS0:w1.drew.cell? ⟨p.wb,0,none⟩=some (.string t)/\w1.drew.cell? ⟨p.wb,1,none⟩=some (.slice (some ⟨g,0,none⟩) L.all.length cap)/\(∀j u,(gr a)[j]? =some u->w1.drew.cell? ⟨g,((L.all.length:Int)-1).toNat*6+j,none⟩=some u):=⟨x0,x1,xc⟩
  have pq:Kp (λ_=>False) w1 w1.drew:=(Kp.refl _ _).drewN 1;refine az (λw'=>w'.cell? ⟨p.wb,0,none⟩=some (.string t)/\w'.cell? ⟨p.wb,1,none⟩=some (.slice (some ⟨g,0,none⟩) L.all.length cap)/\(∀j u,(gr a)[j]? =some u->w'.cell? ⟨g,((L.all.length:Int)-1).toNat*6+j,none⟩=some u)) (by kernel_rfl) ?_;refine aU 0 16 (.pointer (some ⟨p.wb,0,none⟩)) hS0 ?_;refine aU 1 17 (.pointer (some ⟨p.wb,0,none⟩)) hS0 ?_;refine aU 2 18 (.pointer (some ⟨p.wb,0,none⟩)) hS0 ?_;refine dM 3 19 (.string t) rfl (λw' hS=>by simp[execOp,Act.eval,go_sem,hS.1]) hS0 ?_;refine aU 4 20 (.pointer (some ⟨p.wb,0,none⟩)) hS0 ?_;refine aU 5 21 (.pointer (some ⟨p.wb,0,none⟩)) hS0 ?_;refine aU 6 22 (.pointer (some ⟨p.wb,1,none⟩)) hS0 ?_;refine dM 7 23 (.slice (some ⟨g,0,none⟩) L.all.length cap) rfl (λw' hS=>by simp[execOp,Act.eval,go_sem,hS.2.1]) hS0 ?_;refine aU 8 24 (.int .i64 ((L.all.length:Int)-1)) hS0 ?_;refine dM 9 25 (.pointer (some ⟨g,((L.all.length:Int)-1).toNat*6,none⟩)) rfl (λw' _=>by simp[execOp,Act.eval,go_sem,h0l,h0m]) hS0 ?_;refine dM 10 26 (.agg (aN a)) rfl (λw' hS=>ei 26 (.tmp 25) rfl g (((L.all.length:Int)-1).toNat*6) rfl (gr a) da hS.2.2 dE bq sL) hS0 ?_
  have dG:∀W:World,Kp (λ_=>False) w1 W->W.cell? ⟨p.wb,0,none⟩=some (.string t)/\W.cell? ⟨p.wb,1,none⟩=some (.slice (some ⟨g,0,none⟩) L.all.length cap)/\(∀j u,(gr a)[j]? =some u->W.cell? ⟨g,((L.all.length:Int)-1).toNat*6+j,none⟩=some u):=
   λW K=>⟨K.cell0 x0,K.cell0 x1,λj u hj=>K.cell0 (xc j u hj)⟩
  refine k6 11 16 (by kernel_rfl) rfl rfl rfl rfl ?_ ?_
  ·refine bS (some 27) rfl 48 #[.string t,.agg (aN a)] (by simp[execOp,Act.eval,go_sem]) _ (λw'=>Kp (λ_=>False) w1.drew w') (HEW.out w1.drew).out ?_
   intro w5 K5;have KQ:=pq.trans K5;have od:=heap_alloc_new w5 (.cells aD 26);refine⟨dG _ KQ,?_⟩;refine eC 12 15 (.tuple #[.agg (aN b),.string o,.int .i64 0]) rfl (λw' _=>by simp[execOp,Act.eval,Act.put,go_sem]) (dG _ KQ) ?_;refine eC 13 28 (.agg (aN b)) rfl (λw' _=>by simp[execOp,Act.eval,Act.put,go_sem]) (dG _ KQ) ?_;refine eC 14 29 (.string o) rfl (λw' _=>by simp[execOp,Act.eval,Act.put,go_sem]) (dG _ KQ) ?_;refine eC 15 30 (.int .i64 0) rfl (λw' _=>by simp[execOp,Act.eval,Act.put,go_sem]) (dG _ KQ) ?_;refine jD 16 ?_;refine dZ (some 6) rfl (.pointer (some ⟨w5.heap.size,0,none⟩)) (w5.alloc (.cells aD 26)) (by simp[execOp,go_sem]) ?_;have K6:=KQ.alloc (.cells aD 26);have hsz:=KQ.size;have K7:=K6.setRow (g:=w5.heap.size) (λx=>by omega) (aN b);refine⟨dG _ K6,?_⟩;refine bF 17 (by kernel_rfl) rfl rfl 26 (.tmp 6) (.tmp 28) rfl rfl w5.heap.size (aN b) (by simp[Act.eval,Act.put]) (by simp[Act.eval,Act.put]) 26 aD od aP rfl (bZ _) (dG _ K7) ?_;refine eC 18 7 (.string o) rfl (λw' _=>by simp[execOp,Act.eval,Act.put,go_sem]) (dG _ K7) ?_;refine eC 19 8 (.int .i64 0) rfl (λw' _=>by simp[execOp,Act.eval,Act.put,go_sem]) (dG _ K7) ?_;refine wpAnyH_done (by kernel_rfl) (NoPanic.normal ?_) _;simp only[Act.put,pA,pB,pC]
   go_wp2_with fail
   go_meet
   exact⟨w5.heap.size,rfl,rfl,rfl,setRow_heap _ _ _ _ _ _ od,K7,hsz⟩
  refine dZ (some 6) rfl (.pointer (some ⟨w1.heap.size,0,none⟩)) (w1.drew.alloc (.cells aD 26)) (by simp[execOp,go_sem]) ?_;have kU:=heap_alloc_new w1.drew (.cells aD 26);have K4:=pq.alloc (.cells aD 26);refine⟨dG _ K4,?_⟩;refine jD 11 ?_;simp only[Act.put,pA,pB,pC];refine bS (some 27) rfl 48 #[.string t,.agg (aN a)] (by simp[execOp,Act.eval,go_sem]) _ (λw'=>Kp (λ_=>False) (w1.drew.alloc (.cells aD 26)) w') (HEW.out _).out ?_;intro w5 K5;have KQ:=K4.trans K5;have od:w5.heap[w1.heap.size]? =some (.cells aD 26 (0,0)):=K5.at_ (k:=w1.heap.size) (by exact kU) (λx=>x);have K7:=KQ.setRow (g:=w1.heap.size) (λx=>by omega) (aN b);refine⟨dG _ KQ,?_⟩;refine eC 12 15 (.tuple #[.agg (aN b),.string o,.int .i64 0]) rfl (λw' _=>by simp[execOp,Act.eval,Act.put,go_sem]) (dG _ KQ) ?_;refine eC 13 28 (.agg (aN b)) rfl (λw' _=>by simp[execOp,Act.eval,Act.put,go_sem]) (dG _ KQ) ?_;refine eC 14 29 (.string o) rfl (λw' _=>by simp[execOp,Act.eval,Act.put,go_sem]) (dG _ KQ) ?_;refine eC 15 30 (.int .i64 0) rfl (λw' _=>by simp[execOp,Act.eval,Act.put,go_sem]) (dG _ KQ) ?_;refine bF 17 (by kernel_rfl) rfl rfl 26 (.tmp 6) (.tmp 28) rfl rfl w1.heap.size (aN b) (by simp[Act.eval,Act.put]) (by simp[Act.eval,Act.put]) 26 aD od aP rfl (bZ _) (dG _ K7) ?_;refine eC 18 7 (.string o) rfl (λw' _=>by simp[execOp,Act.eval,Act.put,go_sem]) (dG _ K7) ?_;refine eC 19 8 (.int .i64 0) rfl (λw' _=>by simp[execOp,Act.eval,Act.put,go_sem]) (dG _ K7) ?_;refine wpAnyH_done (by kernel_rfl) (NoPanic.normal ?_) _;simp only[Act.put,pA,pB,pC]
  go_wp2_with fail
  go_meet
  exact⟨w1.heap.size,rfl,rfl,rfl,setRow_heap _ _ _ _ _ _ od,K7,Nat.le_refl _⟩
 case rest=>
  obtain⟨fb,rfl,rfl,rfl,GF,KC,akU⟩:=hcut;have hW:=h1.ai KC;have KA0:=K1.trans KC;have Y6:=KC.at_ hn1 (λx=>x)
  have hfl:∀k,oe p (.slice (some ⟨g,0,none⟩) L.all.length cap) k->k<fb:=λk hk=>by have:=hlow k hk;omega
  clear KC x0 x1 xc h1 HEW;have hnm:(some (⟨g,0,none⟩:Addr))=some ⟨g,0,none⟩:=rfl;generalize hao:(some (⟨g,0,none⟩:Addr))=ao at*
  obtain⟨mm,hmm⟩:∃mm,mm=L.all.length:=⟨_,rfl⟩
  rw[<-hmm]at hW hfl
  go_upto_region 3 with(fail)
  have hS0:wc.drew.heap[fb]? =some (.cells (aN b) 26 (0,0)):=GF;refine az (λw'=>w'.heap[fb]? =some (.cells (aN b) 26 (0,0))) (by kernel_rfl) ?_;refine aU 0 31 (.pointer (some ⟨p.wb,0,none⟩)) hS0 ?_;refine aU 1 32 (.pointer (some ⟨p.wb,0,none⟩)) hS0 ?_;refine aU 2 33 (.pointer (some ⟨p.wb,0,none⟩)) hS0 ?_;refine aU 3 34 (.pointer (some ⟨p.wb,1,none⟩)) hS0 ?_;refine dM 5 36 (.agg (aN b)) rfl (λw' hS=>bu 26 (.tmp 6) rfl fb rfl 26 (aN b) (0,0) da hS dE bq aP) hS0 ?_;have KA:Kp (λ_=>False) wc.drew (wc.drew.alloc (.cells (aN b) 26)):=(Kp.refl _ _).alloc _;have pq:Kp (λ_=>False) wc wc.drew:=(Kp.refl _ _).drewN 1;have hA:=hW.ai (pq.trans KA);have hfA:=KA.at_ hS0 (λx=>x);have x1:wc.drew.cell? ⟨p.wb,1,none⟩=some (.slice ao mm cap):=hW.cell 1;have y1:(wc.alloc (.cells (aN b) 26)).drew.cell? ⟨p.wb,1,none⟩=some (.slice ao mm cap):=hA.cell 1
  refine BC 4 6 35 37 (.slice ao mm cap) (.slice (some ⟨wc.drew.heap.size,0,none⟩) 1 1) (wc.drew.alloc (.cells (aN b) 26)) (by decide) (by kernel_rfl) (by kernel_rfl) (by kernel_rfl) rfl rfl rfl rfl rfl rfl (by simp[execOp,Act.eval,go_sem,x1])
   (ez 67 (.tmp 36) rfl 26 i0 (.agg aD) underlying67 hi0 hz0 (by omega) (by omega) (aN b) rfl (by rw[hz1];rfl))
   (ez 67 (.tmp 36) rfl 26 i0 (.agg aD) underlying67 hi0 hz0 (by omega) (by omega) (aN b) rfl (by rw[hz1];rfl))
   (by simp[execOp,Act.eval,go_sem,y1]) hS0 hfA ?_
  simp only[Act.put,pA,pB,pC];have sK:=heap_alloc_new wc.drew (.cells (aN b) 26)
  have hc6:∀j u,(gr b)[j]? =some u->(wc.drew.alloc (.cells (aN b) 26)).cell? ((⟨wc.drew.heap.size,0,none⟩:Addr).add j)=some u:=by
   intro j u hj;rw[qR,World.cell?,sK];show(aN b)[j]? =some u;rw[<-Q1,List.getElem?_toArray];exact hj
  refine jD 7 ?_;refine FQ (.tmp 35) (.tmp 37) 67 rfl 0 26 i0 (.agg aD) 6 72 underlying67 hi0 hz0 hz1 hz2 rfl (by decide) _ _ _ rfl hA.row ⟨wc.drew.heap.size,0,none⟩ 1 1 (gr b) rfl rfl hc6 (Q6 _) (by decide) ?c3 ?c4 (Nat.zero_le _) ?_
  case c3=>unfold maxLen;omega
  case c4=>omega
  intro gg cc w8 o8 g8 n8;have KG:Kp (λk=>(Value.slice ao mm cap).ownBlock=some k) (wc.drew.alloc (.cells (aN b) 26)) w8:=(Kp.refl _ _).grown g8 (λk hk _=>hk);have hrw:(Value.slice ao mm cap).ownBlock≠some p.wb:=own_ne hA.row hA.blk (by decide);have zP:=KG.at_ hA.blk hrw;have QV:w8.heap[fb]? =some (.cells (aN b) 26 (0,0)):=KG.at_ hfA (λe=>by have:=hfl _ (.inr (.inr (.inr (.inr (.inr e)))));omega);refine⟨QV,?_⟩;refine eC 8 39 (.pointer (some ⟨p.wb,0,none⟩)) rfl (λw' _=>by simp[execOp,Act.eval,go_sem,Act.put]) QV ?_;refine eC 9 40 (.pointer (some ⟨p.wb,1,none⟩)) rfl (λw' _=>by simp[execOp,Act.eval,go_sem,Act.put]) QV ?_
  have hx8:w8.cell? ⟨p.wb,1,none⟩=some (.slice ao mm cap):=by rw[World.cell?,zP];rfl
  have hz8:w8.frozen? ⟨p.wb,1,none⟩=false:=by simp[World.frozen?,zP]
  have KS:Kp (λk=>k=p.wb) w8 (w8.setCell ⟨p.wb,1,none⟩ (.slice (some ⟨gg,0,none⟩) (L.all.length+1) cc)):=(Kp.refl (λk=>k=p.wb) w8).setCell (p:=⟨p.wb,1,none⟩) (λ_=>rfl) _;have hf9:(w8.setCell ⟨p.wb,1,none⟩ (.slice (some ⟨gg,0,none⟩) (L.all.length+1) cc)).heap[fb]? =some (.cells (aN b) 26 (0,0)):=KS.at_ QV (λe=>by have:=hfl _ (.inl rfl);omega);have KR:Kp (oe p (.slice ao mm cap)) wc w8:=((pq.trans KA).mono (λ_ _ x=>x.elim)).trans' KG (λi _ x=>.inr (.inr (.inr (.inr (.inr x)))));have K9:Kp (oe p (.slice ao mm cap)) wc (w8.setCell ⟨p.wb,1,none⟩ (.slice (some ⟨gg,0,none⟩) (L.all.length+1) cc)):=KR.trans' KS (λi _ x=>.inl x);have h9:h_ (w8.setCell ⟨p.wb,1,none⟩ (.slice (some ⟨gg,0,none⟩) (L.all.length+1) cc)) p t {L with all:=L.all++[b]} (.slice (some ⟨gg,0,none⟩) (L.all.length+1) cc):=hA.snoc KG o8
  have n9:∀k,(Value.slice (some ⟨gg,0,none⟩) (L.all.length+1) cc).ownBlock=some k->(Value.slice ao mm cap).ownBlock=some k\/wc.heap.size<=k:=by
   intro k e
   obtain rfl:gg=k:=by simpa[Value.ownBlock]using e
   exact n8.imp id (Nat.le_trans (pq.trans KA).size)
  refine jD 10 ?_;unfold Oper.wp;simp only[execOp,Act.eval,Act.put];simp[go_sem,hx8,hz8];refine⟨hf9,?_⟩;refine wpAnyH_done (by kernel_rfl) (NoPanic.normal ?_) _;clear hS0 KA pq hA hfA x1 y1 sK hc6 o8 g8 n8 KG hrw zP QV hx8 hz8 KS KR;generalize w8.setCell ⟨p.wb,1,none⟩ (.slice (some ⟨gg,0,none⟩) (L.all.length+1) cc)=w9 at*;have Qu:w9.heap[w.heap.size]? =some (.cells RP 64 (0,0)):=K9.at_ Y6 (λx=>by subst hmm;subst hao;have:=hlow _ x;omega);have y2:w9.cell? ⟨p.wb,2,none⟩=some (.string L.log):=h9.cell 2;have f2:=h9.free 2
  have hadd:=λw'=>run_string_add_sum (P:=prog) w' L.log o (by omega)
  have h10:=h9.Yz (L.log++o);have tF:Kp (oe p (.slice ao mm cap)) wc (w9.setCell ⟨p.wb,2,none⟩ (.string (L.log++o))):=K9.setCell (p:=⟨p.wb,2,none⟩) (λ_=>.inl rfl) _
  have hwb:w.heap.size≠p.wb:=by have:=hlow p.wb (.inl rfl);omega
  have CX:(w9.setCell ⟨p.wb,2,none⟩ (.string (L.log++o))).heap[w.heap.size]? =some (.cells RP 64 (0,0)):=by
   rw[Below.heap_setCell _ _ _ _ hwb];exact Qu
  have HQ:=hid (xM.trans (p:=p) (KA0.mono (λ_ _ x=>x.elim)) (λ_ e=>.inl e) ⟨_,h10,n9,tF⟩);clear h9 n9 K9 h10 tF hW hfl Y6 GF KA0;generalize hLO:L.log++o=LO at*;have HLO:=hid hLO;clear hLO
  go_upto_region 5 with(fail)
  generalize w9.setCell ⟨p.wb,2,none⟩ (.string LO)=pe at*
  have r0:pe.cell? ⟨w.heap.size,0,none⟩=some (.int .i64 0):=by rw[World.cell?,CX,<-my.out];rfl
  have r1:pe.cell? ⟨w.heap.size,1,none⟩=some (.int .i64 L.all.length):=by rw[World.cell?,CX,<-my.out];rfl
  have r2:pe.cell? ⟨w.heap.size,2,none⟩=some (.int .i64 0):=by rw[World.cell?,CX,<-my.out];rfl
  have r5:pe.cell? ⟨w.heap.size,10,none⟩=some (.string o):=by rw[World.cell?,CX,<-my.out];rfl
  clear CX Qu y2 f2 hadd;go_wp2;go_ret;rw[hmm]at HQ;exact⟨rfl,by rw[HLO.out];exact HQ.out⟩
end
end Go.Proofs.YtnlbchmfcebeeaaGreat
