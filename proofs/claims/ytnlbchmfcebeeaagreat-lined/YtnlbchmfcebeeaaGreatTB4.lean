import Derived.Test.YtnlbchmfcebeeaaGreatTB2
set_option maxHeartbeats 12800000
set_option maxRecDepth 100000
namespace Go.Proofs.YtnlbchmfcebeeaaGreat
open Go.Proofs.Tryz Ch
open Go.RowKit
namespace Ch
def ur(ss:List St)(t:ByteArray):Nat->Nat->Nat->List Int->Option (List Int×Nat)
 |0,_,n,l=>some (l,n)
 |f+1,k,n,l=>
  if cX ss k then
   if decide (t.size<=n)|| !gy ss (k:Int) (af t n)then none else ur ss t f (k+1) (n+1) (l.set k (af t n))
  else ur ss t f (k+1) n l
def bD(ss:List St)(t:ByteArray):List Int×Bool:=
 match ur ss t (min ss.length 16) 0 0 (cR ss)with
 |some (l,n)=>if(n:Int)!=(t.size:Int)then(xV,false)else(l,true)
 |none=>(xV,false)
theorem Zh(ss:List St)(t:ByteArray):∀(f k n:Nat) (l:List Int) (r:List Int×Nat),ur ss t f k n l=some r->r.1.length=l.length:=by
 intro f
 induction f with
 |zero=>intro k n l r h;simp[ur]at h;rw[<-h]
 |succ f ih=>?_
 intro k n l r h;simp only[ur]at h
 split at h
 ·split at h
  ·cases h
  have:=ih _ _ _ _ h;simpa using this
 exact ih _ _ _ _ h
theorem jM(ss:List St)(t:ByteArray):(bD ss t).1.length=16:=by
 unfold bD
 cases h:ur ss t (min ss.length 16) 0 0 (cR ss)with
 |none=>rfl
 |some r=>?_
 obtain⟨l,n⟩:=r;have:=Zh ss t _ _ _ _ _ h;simp only
 split
 ·rfl
 rw[this];exact eN ss
end Ch
section
variable (ob oo:Nat) (w:World) (ss:List St)
theorem Gl(t:ByteArray)(ht:t.size<=9223372036854775807)(hS:mg w ob oo ss)(hl:ss.length<=1000):
 Calls prog 126 #[.pointer (some ⟨ob,oo,none⟩),.string t] w λx w'=>x= .returned (.tuple #[.agg (bf (bD ss t).1).toArray,.bool (bD ss t).2])/\Kp (λ_=>False) w w':=by
 obtain⟨ds,hds,eY⟩:=Gk;have hS1:mg (w.alloc (.cells fm 93)) ob oo ss:=hS.alloc _;have hr1:(w.alloc (.cells fm 93)).heap[w.heap.size]? =some (.cells fm 93):=heap_alloc_new _ _;have K1:Kp (λ_=>False) w (w.alloc (.cells fm 93)):=(Kp.refl _ _).alloc _
 have AJ:ob<w.heap.size:=by obtain⟨sv,base,hc,_⟩:=hS;exact World.block_lt_of_cell? w _ hc
 have E0:=hid (u_ ob oo (w.alloc (.cells fm 93)) ss hS1);have RC:=pL (eN ss)
 have IS:(prog.info? 93).map (·.size)=some ((bf (cR ss)).toArray).size:=by rw[RC];exact kA
 have Qb:=wj (cR ss);clear hS
 go_enter func126,ntmps126
 go_wp2_with fail
 refine hm E0 ?_;rintro x w2 ⟨rfl,K2⟩;have hS2:mg w2 ob oo ss:=hS1.keep K2 (λx=>x) (λ_ _ _ x=>x);have hr2:=K2.at_ hr1 (λx=>x);have K3:=K1.trans K2;have hsz2:w.heap.size<w2.heap.size:=lt_of_block hr2;clear hS1 hr1 K1 K2 E0;have hn2:=heap_alloc_new w2 (.cells fm 93);generalize hL:(bf (cR ss)).toArray=L at*;have HL:=hid hL;clear hL
 go_wp2_with (refine wpList_store_row rfl 93 (.tmp 6) (.tmp 10) rfl w2.heap.size L rfl rfl 93 fm hn2 IS RC.symm Qb ?_)
 have De:IP ((w2.alloc (.cells fm 93)).setRow w2.heap.size L) w2.heap.size (cR ss):=by
  unfold IP;rw[setRow_heap _ _ _ _ _ _ hn2,HL.out]
 have Kn:Kp (λ_=>False) w2 ((w2.alloc (.cells fm 93)).setRow w2.heap.size L):=((Kp.refl _ _).alloc _).setRow (λx=>by omega) _;have pM:mg ((w2.alloc (.cells fm 93)).setRow w2.heap.size L) ob oo ss:=hS2.keep Kn (λx=>x) (λ_ _ _ x=>x);have hr4:=Kn.at_ hr2 (λx=>x);have K4:=K3.trans Kn;generalize (w2.alloc (.cells fm 93)).setRow w2.heap.size L=w4 at De pM hr4 K4⊢;have ae2:=K3.size;generalize w2.heap.size=pb at De hsz2 ae2⊢;clear hS2 hr2 K3 Kn hn2 RC IS Qb HL
 go_wp2_with fail
 go_loopw [7,8] (λnn i wr=>∃(k n:Nat) (l:List Int),nn= .int .i64 n/\i= .int .i64 k/\k<=16/\k<=ss.length/\n<=k/\Hid (ur ss t (min ss.length 16) 0 0 (cR ss)=ur ss t (min ss.length 16-k) k n l)/\l.length=16/\
  IP wr pb l/\Kp (λk=>k=pb) w4 wr) (λ_ i _=>16-(intOf i).toNat)
 case atStart=>exact⟨0,0,cR ss,rfl,rfl,Nat.zero_le _,Nat.zero_le _,Nat.zero_le _,hid rfl,eN ss,De,Kp.refl _ _⟩
 case round=>
  obtain⟨k,n,l,rfl,rfl,IQ,hkn,hnk,HE,uT,h1,K1⟩:=hrel;have hSr:mg wr ob oo ss:=pM.keep K1 (λx=>by omega) (λi cur hc x=>by subst x;unfold IP at De;rw[De]at hc;simp at hc);have hr:wr.heap[w.heap.size]? =some (.cells fm 93):=K1.at_ hr4 (λx=>by omega);have KX:Kp (λ_=>False) w wr:=K4.trans' K1 (λi hi x=>by omega)
  by_cases hgo:k<ss.length/\k<16
  ·obtain⟨hlt,h16⟩:=hgo
   obtain⟨s,hs⟩:∃s,ss[k]? =some s:=⟨_,List.getElem?_eq_getElem hlt⟩
   obtain⟨g,cap,c2,a0,a1,a2,a3⟩:=hSr.at_ hs
   have hlt':(k:Int)<(ss.length:Int):=by omega
   have xS:(k:Int)<16:=by omega
   have ef:min ss.length 16-k=(min ss.length 16-(k+1))+1:=by omega
   have HH:=hid (ae h1 K1)
   cases q:s.kind !=5 with
   |true=>
    have hh:cX ss k=false:=by simp[cX,hs];simpa using q
    have HF:=hid (show ur ss t (min ss.length 16) 0 0 (cR ss)=ur ss t (min ss.length 16-(k+1)) (k+1) n l by rw[HE.out,ef];simp[ur,hh]);clear h1 K1 KX hr hSr De pM hs hh HE ef;go_wp2
    go_roundw
    case rel=>exact⟨k+1,n,l,rfl,by go_num,by omega,by omega,by omega,HF,uT,HH.out.1,HH.out.2⟩
    case measure=>simp[intOf];omega
   |false=>?_
   have hh:cX ss k=true:=by simp[cX,hs];simpa using q
   by_cases hn:n<t.size
   ·have hn':decide ((t.size:Int)<=(n:Int))=false:=by simp;omega
    have ae3:(n:Int)<(t.size:Int):=by omega
    have hnd:decide (t.size<=n)=false:=by simp;omega
    have hpk:af t n=((t[n]'hn).toNat:Int):=by simp[af,hn]
    have E1:=hid (MM ob oo wr ss k ((t[n]'hn).toNat:Int) hSr hl)
    cases qi:gy ss (k:Int) ((t[n]'hn).toNat:Int)with
    |false=>
     have HF:=hid (show bD ss t=(xV,false)by
      have e:ur ss t (min ss.length 16) 0 0 (cR ss)=none:=by rw[HE.out,ef];simp[ur,hh,hpk,qi]
      simp[bD,e])
     rw[qi]at E1;have KZ:Kp (λ_=>False) w (wr.setRow w.heap.size fm):=KX.setRow (λx=>by omega) _;clear h1 K1 KX hSr De pM hs hh HE ef hpk
     go_wp2_with fail
     refine hm E1 ?_;rintro x w1 ⟨rfl,rfl⟩
     go_wp2_with (refine wpList_store_row rfl 93 (.tmp 4) (.tmp 46) rfl w.heap.size fm rfl rfl 93 fm hr kA rfl Gj ?_)
     refine bodyPost_ret (results_cell_tmp rfl _ _ w.heap.size 93 fm (0,0) ds rfl (setRow_heap _ _ _ _ _ _ hr) hds eY kA) rfl ?_;rw[HF.out];exact⟨rfl,KZ⟩
    |true=>?_
    have HF:=hid (show ur ss t (min ss.length 16) 0 0 (cR ss)=ur ss t (min ss.length 16-(k+1)) (k+1) (n+1) (l.set k ((t[n]'hn).toNat:Int))by rw[HE.out,ef];simp[ur,hh,hpk,qi,hnd]);rw[qi]at E1
    have hix:=λw'=>xW w' pb 0 k h16
    simp only[Nat.zero_add]at hix;have cw:=h1.cell uT h16;have fw:=h1.free k;clear h1 K1 KX hr hSr De pM hs hh HE ef hpk
    go_wp2_with fail
    refine hm E1 ?_;rintro x w1 ⟨rfl,rfl⟩;go_wp2
    go_roundw
    case rel=>exact⟨k+1,n+1,_,by go_num,by go_num,by omega,by omega,by omega,HF,by simpa using uT,HH.out.1.set k _,HH.out.2.setCell (by intro _;rfl) _⟩
    case measure=>simp[intOf];omega
   have hn':(t.size:Int)<=(n:Int):=by omega
   have HF:=hid (show bD ss t=(xV,false)by
    have e:ur ss t (min ss.length 16) 0 0 (cR ss)=none:=by rw[HE.out,ef];simp[ur,hh];intro x;omega
    simp[bD,e])
   have KZ:Kp (λ_=>False) w (wr.setRow w.heap.size fm):=KX.setRow (λx=>by omega) _;clear h1 K1 KX hSr De pM hs hh HE ef
   go_wp2_with (refine wpList_store_row rfl 93 (.tmp 4) (.tmp 46) rfl w.heap.size fm rfl rfl 93 fm hr kA rfl Gj ?_)
   refine bodyPost_ret (results_cell_tmp rfl _ _ w.heap.size 93 fm (0,0) ds rfl (setRow_heap _ _ _ _ _ _ hr) hds eY kA) rfl ?_;rw[HF.out];exact⟨rfl,KZ⟩
  have HG:=hid (show ur ss t (min ss.length 16) 0 0 (cR ss)=some (l,n)by rw[HE.out,show min ss.length 16-k=0 by omega];rfl);obtain⟨ao,cap,c2⟩:=hSr.len
  have hcond:((k:Int)<(ss.length:Int)/\decide ((k:Int)<16)=false)\/decide ((k:Int)<(ss.length:Int))=false:=by
   by_cases x:k<ss.length
   ·left;exact⟨by omega,by simp;omega⟩
   right;simp;omega
  cases qn:((n:Int)!=(t.size:Int))with
  |true=>
   have HF:=hid (show bD ss t=(xV,false)by simp only[bD,HG.out,qn,if_true]);have KZ:Kp (λ_=>False) w (wr.setRow w.heap.size fm):=KX.setRow (λx=>by omega) _;clear h1 K1 KX hSr De pM HE
   rcases hcond with⟨x1,x2⟩|x1
   all_goals
    go_wp2_with (refine wpList_store_row rfl 93 (.tmp 4) (.tmp 58) rfl w.heap.size fm rfl rfl 93 fm hr kA rfl Gj ?_)
    all_goals
     refine bodyPost_ret (results_cell_tmp rfl _ _ w.heap.size 93 fm (0,0) ds rfl (setRow_heap _ _ _ _ _ _ hr) hds eY kA) rfl ?_;rw[HF.out];exact⟨rfl,KZ⟩
  |false=>?_
  have HF:=hid (show bD ss t=(l,true)by simp[bD,HG.out,qn]);have hrow:wr.heap[pb]? =some (.cells (bf l).toArray 93 (0,0)):=h1;have hsz:=pL uT
  have hszI:(prog.info? 93).map (·.size)=some ((bf l).toArray).size:=by rw[hsz];exact kA
  have hone:=wj l;have KZ:Kp (λ_=>False) w (wr.setRow w.heap.size (bf l).toArray):=KX.setRow (λx=>by omega) _;clear h1 K1 KX hSr De pM HE;generalize hL:(bf l).toArray=L at*;have HL:=hid hL;clear hL
  rcases hcond with⟨x1,x2⟩|x1
  all_goals
   go_wp2_with (first|refine wpList_load_row rfl 93 (.tmp 6) rfl pb rfl 93 L (0,0) ds hrow hds (by cases ds<;>simp_all [ak]) hszI ?_|refine wpList_store_row rfl 93 (.tmp 4) (.tmp 59) rfl w.heap.size L rfl rfl 93 fm hr hszI hsz.symm hone ?_)
   all_goals
    refine bodyPost_ret (results_cell_tmp rfl _ _ w.heap.size 93 L (0,0) ds rfl (setRow_heap _ _ _ _ _ _ hr) hds eY hszI) rfl ?_;rw[HF.out,<-HL.out];exact⟨rfl,by rw[HL.out];exact KZ⟩
end
namespace Ch
def send(s:Sd)(ev d:Int):Bool×Sd:=if 16<=s.tm.size then(false,s)else(true,{s with tm:=s.tm++strOfNums [ev,48+d]})
end Ch
section
variable (w:World) (b o:Nat) (pre:List Value) (s:Sd) (post:List Value) (T:TypeId)
theorem Vz(ev d:Int)(h:du w b pre s post T)(hw:s.Wf)(ho:pre.length=o)(hd:0<=d)(hd':d<=9):
 Calls prog 223 #[.pointer (some ⟨b,o,none⟩),.int .u8 ev,.int .i64 d] w λx w'=>x= .returned (.bool (Ch.send s ev d).1)/\du w' b pre (Ch.send s ev d).2 post T/\Kp (λk=>k=b) w w':=by
 subst ho;have ct:=h.tm hw;have hbl:=h.lt;have HH:=hid h
 by_cases hb:16<=s.tm.size
 ·rw[show Ch.send s ev d=(false,s)by simp[Ch.send,hb]]
  have hb':(16:Int)<=(s.tm.size:Int):=by omega
  clear h
  go_enter func223,ntmps223
  go_wp2;go_ret;exact⟨rfl,HH.out,Kp.refl _ _⟩
 rw[show Ch.send s ev d=(true,{s with tm:=s.tm++strOfNums [ev,48+d]})by simp[Ch.send,hb]]
 have hb':¬(16:Int)<=(s.tm.size:Int):=by omega
 have hcv:=run_convert_bytes_arg (P:=prog) ((w.alloc (.cells #[.int .u8 ev,.int .u8 (48+d)] 5)).drew) 47 5 underlying47 underlying5 w.heap.size 0 2 2 [ev,48+d] rfl (by
  intro i hi
  match i,hi with
  |0,_=>simp
  |1,_=>simp) 9 underlying9
 have hadd:=λw'=>run_string_add_sum (P:=prog) w' s.tm (strOfNums [ev,48+d]) (by rw[strOfNums_size];simp;omega)
 have h2:du ((w.alloc (.cells #[.int .u8 ev,.int .u8 (48+d)] 5)).drew) b pre s post T:=h.keep (S:=λ_=>False) ((Kp.refl _ _).alloc _).drew (λx=>x);have ct2:=h2.tm hw
 have ct3:∀o,(w.alloc o).cell? ⟨b,pre.length+32,none⟩=some (.string s.tm):=λo=>(h.keep (S:=λ_=>False) ((Kp.refl _ _).alloc o) (λx=>x)).tm hw
 have ft3:∀o,(w.alloc o).frozen? ⟨b,pre.length+32,none⟩=false:=λo=>(h.keep (S:=λ_=>False) ((Kp.refl _ _).alloc o) (λx=>x)).free _
 clear h h2 hb
 go_enter func223,ntmps223
 go_wp2
 go_region
 all_goals
  go_wp2;go_ret;exact⟨rfl,(HH.out.P_ hw _).keep (S:=λ_=>False) (((Kp.refl _ _).alloc _).drew) (λx=>x),(((Kp.refl _ _).setCell (by intro _;rfl) _).alloc _).drew⟩
end
theorem infoByte:(prog.info? 5).map (λi=>(i.zero,i.size,i.bytes))=some (some (.int .u8 0),1,1):=by kernel_rfl
theorem eU{n:Int}(h: -9223372036854775808<=n/\n<=9223372036854775807):IntKind.i64.wrap n=n:=by rw[IntKind.wrap_i64];omega
theorem AL{n:Int}(h:0<=n/\n<=255):IntKind.u8.wrap n=n:=by rw[IntKind.wrap_u8];omega
def ar(l:List Int):List Value:=l.map (Value.int .u8)
theorem run_text{w:World}{base:Nat}{v:Value}{l:List Int}(h:w.ownsRow base 5 1 v l.length (ar l)):
 (convert 47 9 v).run prog w= .ok (.string (strOfNums l)) w:=by
 rcases h.2 with⟨rfl,h0⟩|⟨g,cap,cur,rfl,hb,hg,r⟩
 ·have:l=[]:=List.eq_nil_of_length_eq_zero h0
  subst this;exact run_convert_bytes_nil w 47 5 underlying47 underlying5 0 0 9 underlying9
 refine run_convert_bytes_arg w 47 5 underlying47 underlying5 g 0 l.length cap l rfl ?_ 9 underlying9;intro i hi;rw[Nat.zero_add,h.cellAt i (by omega)];simp[ar,hi]
namespace Ch
def sW(t:ByteArray)(c:Int):Nat->Nat->List Int->List Int
 |0,_,acc=>acc
 |f+1,k,acc=>if k+1<t.size then(if af t k !=c then sW t c f (k+2) (acc++[af t k,af t (k+1)])else sW t c f (k+2) acc)else acc
def nw(s:Sd)(c:Int):Sd:={s with tm:=strOfNums (sW s.tm c s.tm.size 0 [])}
theorem zU{t:ByteArray}{c:Int}{f k:Nat}{acc:List Int}(h:¬k+1<t.size):sW t c f k acc=acc:=by
 cases f with
 |zero=>rfl
 |succ f=>simp[sW,h]
def sX(t:ByteArray):Nat->Nat->List Int->List Int
 |0,_,acc=>acc
 |f+1,k,acc=>if k+1<t.size then sX t f (k+2) (acc++[af t k,af t (k+1)-1])else acc
def tick(s:Sd):Sd:={s with tm:=strOfNums (sX s.tm s.tm.size 0 [])}
theorem VB{t:ByteArray}{f k:Nat}{acc:List Int}(h:¬k+1<t.size):sX t f k acc=acc:=by
 cases f with
 |zero=>rfl
 |succ f=>simp[sX,h]
end Ch
section
variable (w:World) (b o:Nat) (pre:List Value) (s:Sd) (post:List Value) (T:TypeId)
theorem Gm(c:Int)(h:du w b pre s post T)(hw:s.Wf)(ho:pre.length=o)(hsz:s.tm.size<=1000):
 Calls prog 224 #[.pointer (some ⟨b,o,none⟩),.int .u8 c] w λx w'=>x= .returned (.tuple #[])/\du w' b pre (nw s c) post T/\Kp (λk=>k=b) w w':=by
 subst ho;obtain⟨i0,hi,hz0,hz1,hz2⟩:=info_parts infoByte;have hbl:=h.lt
 go_enter func224,ntmps224
 go_wp2_with fail
 go_loopg [4,5] s.tm.size (λf v i wr=>∃(k:Nat) (acc:List Int),i= .int .i64 k/\k<=s.tm.size+1/\s.tm.size<=f+k/\acc.length<=k/\Hid (sW s.tm c s.tm.size 0 []=sW s.tm c f k acc)/\
  wr.ownsRow w.heap.size 5 1 v acc.length (ar acc)/\Kp (λ_=>False) w wr)
 case atStart=>exact⟨0,[],rfl,Nat.zero_le _,Nat.le_refl _,Nat.le_refl _,hid rfl,World.ownsRow_nil _ _ _ _,Kp.refl _ _⟩
 case round=>
  obtain⟨k,acc,rfl,hk,hf,hacc,HE,ho1,K1⟩:=hrel;have h1:du wr b pre s post T:=h.keep K1 (λx=>x);have ct:=h1.tm hw
  by_cases hgo:k+1<s.tm.size
  ·obtain⟨f,rfl⟩:∃f,gk=f+1:=⟨gk-1,by omega⟩
   have hgo':(k:Int)+1<(s.tm.size:Int):=by omega
   have hk0:(k:Int)<(s.tm.size:Int):=by omega
   have p0:af s.tm k=((s.tm[k]'(by omega)).toNat:Int):=by simp[af,show k<s.tm.size by omega]
   have p1:af s.tm (k+1)=((s.tm[k+1]'hgo).toNat:Int):=by simp[af,hgo]
   cases q:(((s.tm[k]'(by omega)).toNat:Int)!=c)with
   |false=>
    have HF:=hid (HE.out.trans (show _=sW s.tm c f (k+2) acc by simp[sW,hgo,p0];intro x;simp at q;exact absurd q x));have HH:=hid (ae ho1 K1);clear ho1 K1 h1 h HE p0 p1;go_wp2
    go_roundg f
    case measure=>omega
    case rel=>exact⟨k+2,acc,by go_num,by omega,by omega,by omega,HF,HH.out.1,HH.out.2⟩
   |true=>?_
   have HF:=hid (HE.out.trans (show _=sW s.tm c f (k+2) (acc++[((s.tm[k]'(by omega)).toNat:Int),((s.tm[k+1]'hgo).toNat:Int)])by simp[sW,hgo,p0,p1];intro x;simp at q;exact absurd x q));have HH:=hid (ae ho1 K1);have Zj:IntKind.i64.wrap ((k:Int)+1)=(k:Int)+1:=eU (by omega)
   have hwj:(0:Int)<=(k:Int)+1:=by omega
   clear ho1 K1 h1 h HE p0 p1
   go_upto_region 5 with(fail)
   go_region_law (refine gA rfl (.tmp 24) (.tmp 38) 47 rfl w.heap.size 5 i0 (.int .u8 0) 1 1 underlying47 hi hz0 hz1 hz2 rfl (by decide) _ acc.length (ar acc) (by simp[Act.eval];rfl) (by exact HH.out.1.alloc _) ⟨wr.heap.size,0,none⟩ 2 2 [.int .u8 ((s.tm[k]'(by omega)).toNat:Int),.int .u8 ((s.tm[k+1]'hgo).toNat:Int)] (by simp[Act.eval]) rfl (by exact jT _ _ _ _) (by intro u hu;simp at hu;rcases hu with rfl|rfl<;>rfl) (by decide) (by unfold maxLen;omega) (by omega) (by have:=HH.out.2.size;simp;omega) ?_;intro g cap w3 o3 g3;have K3:Kp (λ_=>False) w w3:=Kp.grown (by exact(HH.out.2.alloc _).drew) g3 (λk hk hlt=>by have:=(HH.out.1.lt k hk).1;omega);have H3:=hid (ae o3 K3);clear o3 K3 g3)
   all_goals
    obtain⟨o3,K3⟩:=H3.out;go_wp2
    go_roundg f
    case measure=>omega
    case rel=>exact⟨k+2,_,by go_num,by omega,by omega,by simp;omega,HF,by simpa[ar]using o3,K3⟩
  have hge:¬(k:Int)+1<(s.tm.size:Int):=by omega
  have HF:=hid (HE.out.trans (zU hgo));have hcv:=run_text ho1;have ft:=h1.free (pre.length+32);have HH:=hid (ae h1 K1);clear ho1 K1 h1 h HE;go_wp2
  go_end0
  obtain⟨h1,K1⟩:=HH.out;have h2:=h1.P_ hw (strOfNums acc);rw[<-HF.out]at h2⊢;exact⟨rfl,h2,(K1.mono (λ_ _ x=>x.elim)).setCell (by intro _;rfl) _⟩
theorem VC(h:du w b pre s post T)(hw:s.Wf)(ho:pre.length=o)(hsz:s.tm.size<=1000)(hnz:∀k,k<s.tm.size->1<=af s.tm k):
 Calls prog 123 #[.pointer (some ⟨b,o,none⟩)] w λx w'=>x= .returned (.tuple #[])/\du w' b pre (Ch.tick s) post T/\Kp (λk=>k=b) w w':=by
 subst ho;obtain⟨i0,hi,hz0,hz1,hz2⟩:=info_parts infoByte;have hbl:=h.lt
 go_enter func123,ntmps123
 go_wp2_with fail
 go_loopg [2,3] s.tm.size (λf v i wr=>∃(k:Nat) (acc:List Int),i= .int .i64 k/\k<=s.tm.size+1/\s.tm.size<=f+k/\acc.length<=k/\Hid (sX s.tm s.tm.size 0 []=sX s.tm f k acc)/\
  wr.ownsRow w.heap.size 5 1 v acc.length (ar acc)/\Kp (λ_=>False) w wr)
 case atStart=>exact⟨0,[],rfl,Nat.zero_le _,Nat.le_refl _,Nat.le_refl _,hid rfl,World.ownsRow_nil _ _ _ _,Kp.refl _ _⟩
 case round=>
  obtain⟨k,acc,rfl,hk,hf,hacc,HE,ho1,K1⟩:=hrel;have h1:du wr b pre s post T:=h.keep K1 (λx=>x);have ct:=h1.tm hw
  by_cases hgo:k+1<s.tm.size
  ·obtain⟨f,rfl⟩:∃f,gk=f+1:=⟨gk-1,by omega⟩
   have hgo':(k:Int)+1<(s.tm.size:Int):=by omega
   have hk0:(k:Int)<(s.tm.size:Int):=by omega
   have p0:af s.tm k=((s.tm[k]'(by omega)).toNat:Int):=by simp[af,show k<s.tm.size by omega]
   have p1:af s.tm (k+1)=((s.tm[k+1]'hgo).toNat:Int):=by simp[af,hgo]
   have b1:=hnz (k+1) hgo;rw[p1]at b1;have b2:=P1 s.tm (k+1);rw[p1]at b2;have HF:=hid (HE.out.trans (show _=sX s.tm f (k+2) (acc++[((s.tm[k]'(by omega)).toNat:Int),(((s.tm[k+1]'hgo).toNat:Int)-1)])by simp[sX,hgo,p0,p1]));have HH:=hid (ae ho1 K1);have hwu:IntKind.u8.wrap (((s.tm[k+1]'hgo).toNat:Int)-1)=((s.tm[k+1]'hgo).toNat:Int)-1:=AL (by omega);have Zj:IntKind.i64.wrap ((k:Int)+1)=(k:Int)+1:=eU (by omega)
   have hwj:(0:Int)<=(k:Int)+1:=by omega
   clear ho1 K1 h1 h HE p0 p1
   go_upto_region 4 with(fail)
   go_region_law (refine gA rfl (.tmp 14) (.tmp 29) 47 rfl w.heap.size 5 i0 (.int .u8 0) 1 1 underlying47 hi hz0 hz1 hz2 rfl (by decide) _ acc.length (ar acc) (by simp[Act.eval];rfl) (by exact HH.out.1.alloc _) ⟨wr.heap.size,0,none⟩ 2 2 [.int .u8 ((s.tm[k]'(by omega)).toNat:Int),.int .u8 (((s.tm[k+1]'hgo).toNat:Int)-1)] (by simp[Act.eval]) rfl (by exact jT _ _ _ _) (by intro u hu;simp at hu;rcases hu with rfl|rfl<;>rfl) (by decide) (by unfold maxLen;omega) (by omega) (by have:=HH.out.2.size;simp;omega) ?_;intro g cap w3 o3 g3;have K3:Kp (λ_=>False) w w3:=Kp.grown (by exact(HH.out.2.alloc _).drew) g3 (λk hk hlt=>by have:=(HH.out.1.lt k hk).1;omega);have H3:=hid (ae o3 K3);clear o3 K3 g3)
   all_goals
    obtain⟨o3,K3⟩:=H3.out;go_wp2
    go_roundg f
    case measure=>omega
    case rel=>exact⟨k+2,_,by go_num,by omega,by omega,by simp;omega,HF,by simpa[ar]using o3,K3⟩
  have hge:¬(k:Int)+1<(s.tm.size:Int):=by omega
  have HF:=hid (HE.out.trans (VB hgo));have hcv:=run_text ho1;have ft:=h1.free (pre.length+32);have HH:=hid (ae h1 K1);clear ho1 K1 h1 h HE;go_wp2
  go_end0
  obtain⟨h1,K1⟩:=HH.out;have h2:=h1.P_ hw (strOfNums acc);rw[<-HF.out]at h2⊢;exact⟨rfl,h2,(K1.mono (λ_ _ x=>x.elim)).setCell (by intro _;rfl) _⟩
end
namespace Ch
def jx(t:ByteArray):Nat->Nat->Option Nat
 |0,_=>none
 |f+1,k=>if k+1<t.size then(if af t (k+1)==48 then some k else jx t f (k+2))else none
theorem IT{t:ByteArray}{f k:Nat}(h:¬k+1<t.size):jx t f k=none:=by
 cases f with
 |zero=>rfl
 |succ f=>simp[jx,h]
def aZ(s:Sd):Int×Bool×Sd:=match jx s.tm s.tm.size 0 with
 |some k=>(af s.tm k,true,{s with tm:=s.tm.extract 0 k++s.tm.extract (k+2) s.tm.size})
 |none=>(0,false,s)
def IU(t:ByteArray):Nat->Nat->Bool
 |0,_=>true
 |f+1,k=>if k+1<t.size then(if bR (af t k)&& !decide (af t (k+1)<49)&& !decide (57<af t (k+1))then IU t f (k+2)else false)else true
theorem Zk{t:ByteArray}{f k:Nat}(h:¬k+1<t.size):IU t f k=true:=by
 cases f with
 |zero=>rfl
 |succ f=>simp[IU,h]
def j2(t:ByteArray):Bool:=if((t.size:Int) % 2 !=0)||decide (16<t.size)then false else IU t t.size 0
end Ch
section
variable (w:World) (b o:Nat) (pre:List Value) (s:Sd) (post:List Value) (T:TypeId)
theorem IV(h:du w b pre s post T)(hw:s.Wf)(ho:pre.length=o)(hsz:s.tm.size<=1000):
 Calls prog 124 #[.pointer (some ⟨b,o,none⟩)] w λx w'=>x= .returned (.tuple #[.int .u8 (aZ s).1,.bool (aZ s).2.1])/\du w' b pre (aZ s).2.2 post T/\Kp (λk=>k=b) w w':=by
 subst ho;have ct:=h.tm hw;have ft:=h.free (pre.length+32);have HS:=hid h;clear h
 go_enter func124,ntmps124
 go_wp2_with fail
 go_loopg [4] s.tm.size (λf i wr=>∃k:Nat,i= .int .i64 k/\k<=s.tm.size+1/\s.tm.size<=f+k/\Hid (jx s.tm s.tm.size 0=jx s.tm f k)/\wr=w)
 case atStart=>exact⟨0,rfl,Nat.zero_le _,Nat.le_refl _,hid rfl,rfl⟩
 case round=>
  obtain⟨k,rfl,hk,hf,HE,rfl⟩:=hrel
  by_cases hgo:k+1<s.tm.size
  ·obtain⟨f,rfl⟩:∃f,gk=f+1:=⟨gk-1,by omega⟩
   have hgo':(k:Int)+1<(s.tm.size:Int):=by omega
   have hk0:(k:Int)<(s.tm.size:Int):=by omega
   have p0:af s.tm k=((s.tm[k]'(by omega)).toNat:Int):=by simp[af,show k<s.tm.size by omega]
   have p1:af s.tm (k+1)=((s.tm[k+1]'hgo).toNat:Int):=by simp[af,hgo]
   cases q:(((s.tm[k+1]'hgo).toNat:Int)==48)with
   |false=>
    have HF:=hid (HE.out.trans (show _=jx s.tm f (k+2)by simp only[jx,hgo,p1,q,if_true];simp));clear HE p0 p1;go_wp2
    go_roundg f
    case measure=>omega
    case rel=>exact⟨k+2,by go_num,by omega,by omega,HF,rfl⟩
   |true=>?_
   have HF:=hid (HE.out.trans (show _=some k by simp only[jx,hgo,p1,q,if_true]));have HV:=hid (show aZ s=(((s.tm[k]'(by omega)).toNat:Int),true,{s with tm:=s.tm.extract 0 k++s.tm.extract (k+2) s.tm.size})by unfold aZ;rw[HF.out];simp[p0]);have Zj:IntKind.i64.wrap ((k:Int)+2)=(k:Int)+2:=eU (by omega)
   have hwj:(0:Int)<=(k:Int)+2:=by omega
   have hwk:(k:Int)+2<=(s.tm.size:Int):=by omega
   have hadd:=λw'=>run_string_add_sum (P:=prog) w' (s.tm.extract 0 k) (s.tm.extract (k+2) s.tm.size) (by simp[ByteArray.size_extract];omega)
   clear HE p0 p1 HF
   go_upto_region 6 with(fail)
   go_region
   all_goals
    go_wp2;go_ret2;rw[HV.out];exact⟨rfl,HS.out.P_ hw _,((Kp.refl _ _).drew).setCell (by intro _;rfl) _⟩
  have hge:¬(k:Int)+1<(s.tm.size:Int):=by omega
  have HV:=hid (show aZ s=(0,false,s)by unfold aZ;rw[HE.out,IT hgo]);clear HE;go_wp2;go_ret2;rw[HV.out];exact⟨rfl,HS.out,Kp.refl _ _⟩
theorem Df(t:ByteArray)(ht:t.size<=9223372036854775807):
 Calls prog 127 #[.string t] w λx w'=>x= .returned (.bool (j2 t))/\w'=w:=by
 cases q0:((t.size:Int) % 2 !=0)with
 |true=>
  have HV:=hid (show j2 t=false by simp only[j2,q0,Bool.true_or,if_true])
  go_enter func127,ntmps127
  go_wp2;go_ret;exact⟨by rw[HV.out];rfl,rfl⟩
 |false=>?_
 by_cases hb:16<t.size
 ·have HV:=hid (show j2 t=false by simp[j2,hb])
  have hb':(16:Int)<(t.size:Int):=by omega
  go_enter func127,ntmps127
  go_wp2;go_ret;exact⟨by rw[HV.out];rfl,rfl⟩
 have hb':¬(16:Int)<(t.size:Int):=by omega
 have HA:=hid (show j2 t=IU t t.size 0 by simp only[j2,q0,Bool.false_or];rw[if_neg (by simpa using hb)])
 go_enter func127,ntmps127
 go_wp2_with fail
 go_loopg [3] t.size (λf i wr=>∃k:Nat,i= .int .i64 k/\k<=t.size+1/\t.size<=f+k/\Hid (j2 t=IU t f k)/\wr=w)
 case atStart=>exact⟨0,rfl,Nat.zero_le _,Nat.le_refl _,HA,rfl⟩
 case round=>
  obtain⟨k,rfl,hk,hf,HE,rfl⟩:=hrel
  by_cases hgo:k+1<t.size
  ·obtain⟨f,rfl⟩:∃f,gk=f+1:=⟨gk-1,by omega⟩
   have hgo':(k:Int)+1<(t.size:Int):=by omega
   have hk0:(k:Int)<(t.size:Int):=by omega
   have p0:af t k=((t[k]'(by omega)).toNat:Int):=by simp[af,show k<t.size by omega]
   have p1:af t (k+1)=((t[k+1]'hgo).toNat:Int):=by simp[af,hgo]
   have E1:=hid (iU ((t[k]'(by omega)).toNat:Int) wr)
   cases q:bR ((t[k]'(by omega)).toNat:Int)with
   |false=>
    have HV:=hid (HE.out.trans (show _=false by simp[IU,hgo,p0,q]));rw[q]at E1;clear HE p0 p1
    go_wp2_with fail
    refine hm E1 ?_;rintro x w1 ⟨rfl,rfl⟩;go_wp2;go_ret;exact⟨by rw[HV.out];rfl,rfl⟩
   |true=>?_
   rw[q]at E1
   by_cases q2:((t[k+1]'hgo).toNat:Int)<49
   ·have HV:=hid (HE.out.trans (show _=false by simp[IU,hgo,p0,p1,q];intro x;omega))
    clear HE p0 p1
    go_wp2_with fail
    refine hm E1 ?_;rintro x w1 ⟨rfl,rfl⟩;go_wp2;go_ret;exact⟨by rw[HV.out];rfl,rfl⟩
   have q2':decide (((t[k+1]'hgo).toNat:Int)<49)=false:=by simp;omega
   by_cases q3:57<((t[k+1]'hgo).toNat:Int)
   ·have HV:=hid (HE.out.trans (show _=false by simp[IU,hgo,p0,p1,q];intro x y;omega))
    clear HE p0 p1 q2
    go_wp2_with fail
    refine hm E1 ?_;rintro x w1 ⟨rfl,rfl⟩;go_wp2;go_ret;exact⟨by rw[HV.out];rfl,rfl⟩
   have HF:=hid (HE.out.trans (show _=IU t f (k+2)by simp[IU,hgo,p0,p1,q];intro x;omega))
   have q3':decide (57<((t[k+1]'hgo).toNat:Int))=false:=by simp;omega
   clear HE p0 p1 q2 q3
   go_wp2_with fail
   refine hm E1 ?_;rintro x w1 ⟨rfl,rfl⟩;go_wp2
   go_roundg f
   case measure=>omega
   case rel=>exact⟨k+2,by go_num,by omega,by omega,HF,rfl⟩
  have hge:¬(k:Int)+1<(t.size:Int):=by omega
  have HV:=hid (HE.out.trans (Zk hgo));clear HE;go_wp2;go_ret;exact⟨by rw[HV.out];rfl,rfl⟩
end
theorem bX{P:Program}{ops:Array Oper}{rest:List Oper}{o:Oper}{a:Act}{w:World}{Q:Exit->Act->World->Prop}(hg:o.guard=none)(t:TypeId)(parts:Array (Nat×Operand))(ho:o.op= .build t parts)
 (cells:Array Value) (vals:List (Nat×Value)) (hv:parts.toList.map (λp=>(p.1,a.eval p.2))=vals) (hb:P.built t vals=some cells)
 (h:wpList P ops Q rest (a.put o.dst (.agg cells)) w):wpList P ops Q (o::rest) a w:=
 have e:(parts.map λ(i,x)=>(i,a.eval x)).toList=vals:=by rw[Array.toList_map];exact hv
 wpList_build hg t parts ho (by rw[e,hb];rfl) (by rw[e,hb];exact h)
theorem ru{α:Type}(l:List α)(h:l.length=16):∃a0 a1 a2 a3 a4 a5 a6 a7 a8 a9 zV C6 a12 C7 C8 C_,l=[a0,a1,a2,a3,a4,a5,a6,a7,a8,a9,zV,C6,a12,C7,C8,C_]:=by
 match l,h with
 | [a0,a1,a2,a3,a4,a5,a6,a7,a8,a9,zV,C6,a12,C7,C8,C_],_=>exact⟨_,_,_,_,_,_,_,_,_,_,_,_,_,_,_,_,rfl⟩
def ax(s:Sd):List Value:=s.act.map Value.bool++cf s
theorem bE{s:Sd}(hw:s.Wf):(ax s).length=36:=by simp[ax,cf,bf,hw.1,hw.2]
theorem j3(s:Sd):(ax s).toArray.all (λx=>x.oneCell')=true:=by
 apply Array.all_eq_true_iff_forall_mem.2;intro x hx;simp only[ax,cf,bf,List.mem_toArray,List.mem_append,List.mem_map,List.mem_cons,List.not_mem_nil,or_false]at hx
 rcases hx with⟨a,_,rfl⟩|⟨a,_,rfl⟩|rfl|rfl|rfl|rfl<;>rfl
theorem gz{s:Sd}(hw:s.Wf):(ax s).toArray.size=36:=by simp[bE hw]
theorem fG{s:Sd}(hw:s.Wf):(prog.info? 95).map (·.size)=some ((ax s).toArray).size:=by rw[gz hw];exact bV
theorem RD(a0 a1 a2 a3 a4 a5 a6 a7 a8 a9 zV C6 a12 C7 C8 C_:Bool)(p0 p1 p2 p3 p4 p5 p6 p7 p8 p9 zW zX zY zZ z9 z_:Int)(tm:ByteArray)(x y z:Int):
 prog.built 95 [(0,.agg #[.bool a0,.bool a1,.bool a2,.bool a3,.bool a4,.bool a5,.bool a6,.bool a7,.bool a8,.bool a9,.bool zV,.bool C6,.bool a12,.bool C7,.bool C8,.bool C_]),(1,.agg #[.int .u8 p0,.int .u8 p1,.int .u8 p2,.int .u8 p3,.int .u8 p4,.int .u8 p5,.int .u8 p6,.int .u8 p7,.int .u8 p8,.int .u8 p9,.int .u8 zW,.int .u8 zX,.int .u8 zY,.int .u8 zZ,.int .u8 z9,.int .u8 z_]),(2,.string tm),(3,.int .i64 x),(4,.int .i64 y),(5,.int .i64 z)]=
  some #[.bool a0,.bool a1,.bool a2,.bool a3,.bool a4,.bool a5,.bool a6,.bool a7,.bool a8,.bool a9,.bool zV,.bool C6,.bool a12,.bool C7,.bool C8,.bool C_,.int .u8 p0,.int .u8 p1,.int .u8 p2,.int .u8 p3,.int .u8 p4,.int .u8 p5,.int .u8 p6,.int .u8 p7,.int .u8 p8,.int .u8 p9,.int .u8 zW,.int .u8 zX,.int .u8 zY,.int .u8 zZ,.int .u8 z9,.int .u8 z_,.string tm,.int .i64 x,.int .i64 y,.int .i64 z]:=by kernel_rfl
theorem IW(s:Sd)(hw:s.Wf):
 prog.built 95 [(0,.agg (s.act.map Value.bool).toArray),(1,.agg (bf s.past).toArray),(2,.string s.tm),(3,.int .i64 s.x),(4,.int .i64 s.y),(5,.int .i64 s.z)]=some (ax s).toArray:=by
 obtain⟨act,past,tm,x,y,z⟩:=s;obtain⟨h1,h2⟩:=hw;simp only at h1 h2;obtain⟨a0,a1,a2,a3,a4,a5,a6,a7,a8,a9,zV,C6,a12,C7,C8,C_,rfl⟩:=ru act h1;obtain⟨p0,p1,p2,p3,p4,p5,p6,p7,p8,p9,zW,zX,zY,zZ,z9,z_,rfl⟩:=ru past h2;exact RD a0 a1 a2 a3 a4 a5 a6 a7 a8 a9 zV C6 a12 C7 C8 C_ p0 p1 p2 p3 p4 p5 p6 p7 p8 p9 zW zX zY zZ z9 z_ tm x y z
theorem MP(p0 p1 p2 p3 p4 p5 p6 p7 p8 p9 zW zX zY zZ z9 z_:Int):
 prog.built 95 [(1,.agg #[.int .u8 p0,.int .u8 p1,.int .u8 p2,.int .u8 p3,.int .u8 p4,.int .u8 p5,.int .u8 p6,.int .u8 p7,.int .u8 p8,.int .u8 p9,.int .u8 zW,.int .u8 zX,.int .u8 zY,.int .u8 zZ,.int .u8 z9,.int .u8 z_])]=some #[.bool false,.bool false,.bool false,.bool false,.bool false,.bool false,.bool false,.bool false,.bool false,.bool false,.bool false,.bool false,.bool false,.bool false,.bool false,.bool false,.int .u8 p0,.int .u8 p1,.int .u8 p2,.int .u8 p3,.int .u8 p4,.int .u8 p5,.int .u8 p6,.int .u8 p7,.int .u8 p8,.int .u8 p9,.int .u8 zW,.int .u8 zX,.int .u8 zY,.int .u8 zZ,.int .u8 z9,.int .u8 z_,.string ByteArray.empty,.int .i64 0,.int .i64 0,.int .i64 0]:=by kernel_rfl
namespace Ch
def bM(ss:List St):Sd:=⟨db,cR ss,ByteArray.empty,0,0,0⟩
theorem ny(ss:List St):(bM ss).Wf:=⟨rfl,eN ss⟩
def jH:Sd:=⟨db,xV,ByteArray.empty,0,0,0⟩
theorem kC:jH.Wf:=⟨rfl,rfl⟩
end Ch
theorem IX(ss:List St):prog.built 95 [(1,.agg (bf (cR ss)).toArray)]=some (ax (bM ss)).toArray:=by
 unfold ax cf bM;obtain⟨p0,p1,p2,p3,p4,p5,p6,p7,p8,p9,zW,zX,zY,zZ,z9,z_,e⟩:=ru (cR ss) (eN ss);rw[e];exact MP p0 p1 p2 p3 p4 p5 p6 p7 p8 p9 zW zX zY zZ z9 z_
section
variable (ob oo:Nat) (w:World) (ss:List St)
theorem RE(hS:mg w ob oo ss):
 Calls prog 70 #[.pointer (some ⟨ob,oo,none⟩)] w λx w'=>x= .returned (.agg (ax (bM ss)).toArray)/\Kp (λ_=>False) w w':=by
 obtain⟨ds,hds,eY⟩:=eT;obtain⟨dm,hdm,hdb⟩:=Gk;have hS1:mg (w.alloc (.cells lK 95)) ob oo ss:=hS.alloc _;have hr1:(w.alloc (.cells lK 95)).heap[w.heap.size]? =some (.cells lK 95):=heap_alloc_new _ _;have K1:Kp (λ_=>False) w (w.alloc (.cells lK 95)):=(Kp.refl _ _).alloc _;have E0:=hid (u_ ob oo (w.alloc (.cells lK 95)) ss hS1);have RC:=pL (eN ss)
 have IS:(prog.info? 93).map (·.size)=some ((bf (cR ss)).toArray).size:=by rw[RC];exact kA
 have Qb:=wj (cR ss);have hbuild:=IX ss;have HB:=hid hbuild;clear hbuild;have hsI:=fG (ny ss);have acq:=gz (ny ss);have hs1:=j3 (bM ss);clear hS hS1
 go_enter func70,ntmps70
 go_wp2_with fail
 refine hm E0 ?_;rintro x w2 ⟨rfl,K2⟩;have hr2:=K2.at_ hr1 (λx=>x);have K3:=K1.trans K2;have hsz2:w.heap.size<w2.heap.size:=lt_of_block hr2;have hn2:=heap_alloc_new w2 (.cells fm 93);clear hr1 K1 K2 E0;generalize (bf (cR ss)).toArray=L at*;generalize hM:(ax (bM ss)).toArray=M at*;have HM:=hid hM;clear hM;have hl2:((w2.alloc (.cells fm 93)).setRow w2.heap.size L).heap[w2.heap.size]? =some (.cells L 93 (0,0)):=setRow_heap _ _ _ _ _ _ hn2
 have hr3:((w2.alloc (.cells fm 93)).setRow w2.heap.size L).heap[w.heap.size]? =some (.cells lK 95):=by
  rw[setRow_other _ _ _ _ (by omega),Below.heap_alloc _ _ _ hsz2];exact hr2
 have K4:Kp (λ_=>False) w (((w2.alloc (.cells fm 93)).setRow w2.heap.size L).setRow w.heap.size M):=((K3.alloc _).setRow (λx=>by omega) _).setRow (λx=>by omega) _
 go_wp2_with (first|(refine bX rfl 95 #[(1,.tmp 6)] rfl M [(1,.agg L)] ?_ HB.out ?_;rfl)|refine wpList_store_row rfl 93 (.tmp 3) (.tmp 5) rfl w2.heap.size L rfl rfl 93 fm hn2 IS RC.symm Qb ?_|refine wpList_load_row rfl 93 (.tmp 3) rfl w2.heap.size rfl 93 L (0,0) dm hl2 hdm (by cases dm<;>simp_all [ak]) IS ?_|refine wpList_store_row rfl 95 (.tmp 2) (.tmp 7) rfl w.heap.size M rfl rfl 95 lK hr3 hsI acq.symm hs1 ?_)
 refine bodyPost_ret (results_cell_row rfl _ _ w.heap.size 95 M (0,0) ds rfl (setRow_heap _ _ _ _ _ _ hr3) hds (by cases ds<;>simp_all [ak]) hsI) rfl ?_;rw[HM.out];exact⟨rfl,K4⟩
end
end Go.Proofs.YtnlbchmfcebeeaaGreat
