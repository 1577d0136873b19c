import Derived.Test.YtnlbchmfcebeeaaGreatTLg
set_option maxHeartbeats 12800000
set_option maxRecDepth 100000
namespace Go.Proofs.YtnlbchmfcebeeaaGreat
open Go.Proofs.Tryz Ch
open Go.RowKit
section
variable (ob oo:Nat) (w:World) (ss:List St)
theorem fW(i:Int)(h:mg w ob oo ss)(_hl:ss.length<=1000):
 Calls prog 161 #[.pointer (some ⟨ob,oo,none⟩),.int .i64 i] w λx w'=>x= .returned (.int .i64 (aw ss i))/\w'=w:=by
 unfold aw
 cases hs:lM ss i with
 |none=>
  obtain⟨ao,cap,c2⟩:=h.len
  rcases xR hs with h1|⟨h0,h1⟩
  ·clear hs h
   go_enter func161,ntmps161
   go_wp2;go_ret;exact⟨rfl,rfl⟩
  have hd:decide (i<0)=false:=by simp;omega
  clear hs h
  go_enter func161,ntmps161
  go_wp2;go_ret;exact⟨rfl,rfl⟩
 |some s=>?_
 obtain⟨k,rfl,hk,hlt⟩:=iz hs;obtain⟨g,cap,c2,a0,a1,a2,a3⟩:=h.at_ hk
 have hd:decide ((k:Int)<0)=false:=by simp
 have hlt':(k:Int)<(ss.length:Int):=by omega
 clear hs hk h
 go_enter func161,ntmps161
 go_wp2;go_ret;exact⟨rfl,rfl⟩
end
namespace Ch
def bit(l:List Bool)(k:Nat):Bool:=l.getD k false
def has(l:List Bool)(i:Int):Bool:=match i with| .ofNat k=>bit l k| .negSucc _=>false
def pH(l:List Bool)(i:Int)(v:Bool):List Bool:=match i with| .ofNat k=>l.set k v| .negSucc _=>l
def join(l m:List Bool):List Bool:=(List.range 16).map λk=>bit l k||bit m k
def meets(l m:List Bool):Bool:=(List.range 16).any λk=>bit l k&&bit m k
theorem cT(l:List Bool)(k:Nat):has l (k:Int)=bit l k:=rfl
theorem we{l:List Bool}{k:Nat}(h:l.length<=k):bit l k=false:=by simp[bit,List.getElem?_eq_none h]
theorem P8{l:List Bool}(hl:l.length=16){i:Int}(h:i<0\/16<=i):has l i=false:=by
 cases i with
 |ofNat k=>exact we (by simp at h;omega)
 |negSucc k=>rfl
theorem wg{l:List Bool}(hl:l.length=16){i:Int}(v:Bool)(h:i<0\/16<=i):pH l i v=l:=by
 cases i with
 |ofNat k=>exact List.set_eq_of_length_le (by simp at h;omega)
 |negSucc k=>rfl
theorem kz(l:List Bool)(i:Int)(v:Bool):(pH l i v).length=l.length:=by
 cases i with
 |ofNat k=>simp[pH]
 |negSucc k=>rfl
end Ch
def ju(w:World)(b:Nat)(pre:List Value)(l:List Bool)(post:List Value)(T:TypeId):Prop:=
 w.heap[b]? =some (.cells (pre++l.map Value.bool++post).toArray T (0,0))
section
variable {w:World} {b:Nat} {pre:List Value} {l:List Bool} {post:List Value} {T:TypeId}
theorem ju.cell(h:ju w b pre l post T)(hl:l.length=16){k:Nat}(hk:k<16):w.cell? ⟨b,pre.length+k,none⟩=some (.bool (Ch.bit l k)):=by
 unfold ju at h
 have e:(pre++l.map Value.bool++post)[pre.length+k]? =some (.bool (Ch.bit l k)):=by
  rw[List.append_assoc,List.getElem?_append_right (by omega),Nat.add_sub_cancel_left,List.getElem?_append_left (by simp;omega)];simp[Ch.bit,show k<l.length by omega]
 simp only[World.cell?,h];simpa using e
theorem ju.free(h:ju w b pre l post T)(i:Nat):w.frozen? ⟨b,i,none⟩=false:=by unfold ju at h;simp[World.frozen?,h]
theorem ju.set(h:ju w b pre l post T)(hl:l.length=16){k:Nat}(hk:k<16)(v:Bool):ju (w.setCell ⟨b,pre.length+k,none⟩ (.bool v)) b pre (l.set k v) post T:=by
 unfold ju at*;rw[ah _ h]
 congr 2
 simp only[List.setIfInBounds_toArray];rw[List.append_assoc,List.set_append_right _ _ (by omega),Nat.add_sub_cancel_left,List.set_append_left _ _ (by simp;omega),List.map_set,List.append_assoc]
theorem ju.keep{S:Nat->Prop}{w':World}(h:ju w b pre l post T)(k:Kp S w w')(hs:¬S b):ju w' b pre l post T:=Kp.at_ k h hs
theorem ju.lt(h:ju w b pre l post T):b<w.heap.size:=lt_of_block h
end
section
variable (w:World) (b o:Nat) (pre:List Value) (l:List Bool) (post:List Value) (T:TypeId)
theorem jw(i:Int)(h:ju w b pre l post T)(hl:l.length=16)(ho:pre.length=o):
 Calls prog 73 #[.pointer (some ⟨b,o,none⟩),.int .i64 i] w λx w'=>x= .returned (.bool (Ch.has l i))/\w'=w:=by
 subst ho
 by_cases h0:0<=i
 ·obtain⟨k,rfl⟩:∃k:Nat,i=(k:Int):=⟨i.toNat,by omega⟩
  by_cases h1:k<16
  ·have c:=h.cell hl h1
   have h1':(k:Int)<16:=by omega
   rw[cT];clear h
   go_enter func73,ntmps73
   go_wp2;go_ret;exact⟨rfl,rfl⟩
  have h1':decide ((k:Int)<16)=false:=by simp;omega
  rw[P8 hl (Or.inr (by omega))];clear h
  go_enter func73,ntmps73
  go_wp2;go_ret;exact⟨rfl,rfl⟩
 have hd:decide (0<=i)=false:=by simp;omega
 rw[P8 hl (Or.inl (by omega))];clear h
 go_enter func73,ntmps73
 go_wp2;go_ret;exact⟨rfl,rfl⟩
theorem Gh(i:Int)(h:ju w b pre l post T)(hl:l.length=16)(ho:pre.length=o):
 Calls prog 166 #[.pointer (some ⟨b,o,none⟩),.int .i64 i] w λx w'=>x= .returned (.tuple #[])/\ju w' b pre (pH l i true) post T/\Kp (λk=>k=b) w w':=by
 subst ho
 by_cases h0:0<=i
 ·obtain⟨k,rfl⟩:∃k:Nat,i=(k:Int):=⟨i.toNat,by omega⟩
  by_cases h1:k<16
  ·have c:=h.cell hl h1
   have f:=h.free (pre.length+k)
   have h1':(k:Int)<16:=by omega
   have H:=hid h;clear h
   go_enter func166,ntmps166
   go_wp2
   go_end0
   exact⟨rfl,H.out.set hl h1 true,(Kp.refl _ _).setCell (by intro _;rfl) _⟩
  have h1':decide ((k:Int)<16)=false:=by simp;omega
  rw[wg hl _ (Or.inr (by omega))];have H:=hid h;clear h
  go_enter func166,ntmps166
  go_wp2
  go_end0
  exact⟨rfl,H.out,Kp.refl _ _⟩
 have hd:decide (0<=i)=false:=by simp;omega
 rw[wg hl _ (Or.inl (by omega))];have H:=hid h;clear h
 go_enter func166,ntmps166
 go_wp2
 go_end0
 exact⟨rfl,H.out,Kp.refl _ _⟩
theorem Vs(i:Int)(h:ju w b pre l post T)(hl:l.length=16)(ho:pre.length=o):
 Calls prog 181 #[.pointer (some ⟨b,o,none⟩),.int .i64 i] w λx w'=>x= .returned (.tuple #[])/\ju w' b pre (pH l i false) post T/\Kp (λk=>k=b) w w':=by
 subst ho
 by_cases h0:0<=i
 ·obtain⟨k,rfl⟩:∃k:Nat,i=(k:Int):=⟨i.toNat,by omega⟩
  by_cases h1:k<16
  ·have c:=h.cell hl h1
   have f:=h.free (pre.length+k)
   have h1':(k:Int)<16:=by omega
   have H:=hid h;clear h
   go_enter func181,ntmps181
   go_wp2
   go_end0
   exact⟨rfl,H.out.set hl h1 false,(Kp.refl _ _).setCell (by intro _;rfl) _⟩
  have h1':decide ((k:Int)<16)=false:=by simp;omega
  rw[wg hl _ (Or.inr (by omega))];have H:=hid h;clear h
  go_enter func181,ntmps181
  go_wp2
  go_end0
  exact⟨rfl,H.out,Kp.refl _ _⟩
 have hd:decide (0<=i)=false:=by simp;omega
 rw[wg hl _ (Or.inl (by omega))];have H:=hid h;clear h
 go_enter func181,ntmps181
 go_wp2
 go_end0
 exact⟨rfl,H.out,Kp.refl _ _⟩
theorem Ch.AF(l m:List Bool)(k:Nat):((List.range (k+1)).any λj=>Ch.bit l j&&Ch.bit m j)=(((List.range k).any λj=>Ch.bit l j&&Ch.bit m j)||(Ch.bit l k&&Ch.bit m k)):=by
 rw[List.range_succ,List.any_append];simp
theorem Ch.Rt(l m:List Bool)(k:Nat)(hk:k<16)(h:(Ch.bit l k&&Ch.bit m k)=true):Ch.meets l m=true:=by
 unfold Ch.meets;exact List.any_eq_true.2 ⟨k,by simpa using hk,h⟩
theorem xU(b' o':Nat)(pre':List Value)(l':List Bool)(post':List Value)(T':TypeId)(h:ju w b pre l post T)(hl:l.length=16)(ho:pre.length=o)
 (h':ju w b' pre' l' post' T') (hl':l'.length=16) (ho':pre'.length=o'):
 Calls prog 177 #[.pointer (some ⟨b,o,none⟩),.pointer (some ⟨b',o',none⟩)] w λx w'=>x= .returned (.bool (Ch.meets l l'))/\w'=w:=by
 subst ho ho'
 go_enter func177,ntmps177
 go_wp2_with fail
 go_loop [5] (λi=>∃k:Nat,i= .int .i64 k/\k<=16/\Hid (((List.range k).any λj=>Ch.bit l j&&Ch.bit l' j)=false)) (λi=>16-(intOf i).toNat)
 case atStart=>exact⟨0,rfl,Nat.zero_le _,hid rfl⟩
 case round=>
  obtain⟨k,rfl,hk,HE⟩:=hrel
  by_cases hlt:k<16
  ·have c:=h.cell hl hlt
   have c':=h'.cell hl' hlt
   have hlt':(k:Int)<16:=by omega
   cases q:Ch.bit l k with
   |false=>
    have HF:=hid (show((List.range (k+1)).any λj=>Ch.bit l j&&Ch.bit l' j)=false by rw[AF,HE.out,q];rfl);rw[q]at c;clear h h' HE;go_wp2
    go_round
    case rel=>exact⟨k+1,by go_num,by omega,HF⟩
    case measure=>simp[intOf];omega
   |true=>?_
   rw[q]at c
   cases q':Ch.bit l' k with
   |false=>
    have HF:=hid (show((List.range (k+1)).any λj=>Ch.bit l j&&Ch.bit l' j)=false by rw[AF,HE.out,q,q'];rfl);rw[q']at c';clear h h' HE;go_wp2
    go_round
    case rel=>exact⟨k+1,by go_num,by omega,HF⟩
    case measure=>simp[intOf];omega
   |true=>?_
   have HF:=hid (Rt l l' k hlt (by rw[q,q'];rfl));rw[q']at c';clear h h' HE;go_wp2;go_ret;exact⟨by rw[HF.out];rfl,rfl⟩
  have hd:¬(k:Int)<16:=by omega
  obtain rfl:k=16:=by omega
  have HF:=hid (show Ch.meets l l'=false from HE.out);clear h h' HE;go_wp2;go_ret;exact⟨by rw[HF.out];rfl,rfl⟩
end
namespace Ch
def kO(l m:List Bool)(k:Nat):List Bool:=(List.range 16).map λj=>if j<k then bit l j||bit m j else bit l j
theorem uq(l m:List Bool)(k:Nat):(kO l m k).length=16:=by simp[kO]
theorem MK{l:List Bool}(m:List Bool)(hl:l.length=16):kO l m 0=l:=by
 apply List.ext_getElem?;intro i
 by_cases h:i<16
 ·simp[kO,bit,h,show i<l.length by omega]
 simp[kO,h,show l.length<=i by omega]
theorem Ru(l m:List Bool):kO l m 16=join l m:=by
 unfold kO join;apply List.map_congr_left;intro j hj;simp at hj;simp[hj]
theorem Rv{l m:List Bool}{k:Nat}(hk:k<16):bit (kO l m k) k=bit l k:=by simp[kO,bit,hk]
theorem AG{l m:List Bool}{k:Nat}(hk:k<16):kO l m (k+1)=(kO l m k).set k (bit l k||bit m k):=by
 apply List.ext_getElem?;intro i
 by_cases h:i<16
 ·by_cases e:i=k
  ·subst e;simp[kO,hk]
  rw[List.getElem?_set_ne (by omega)];simp[kO,h,show(i<k+1)=(i<k)by simp;omega]
 rw[List.getElem?_eq_none (by rw[uq];omega),List.getElem?_eq_none (by rw[List.length_set,uq];omega)]
theorem wh(l m:List Bool):(join l m).length=16:=by simp[join]
end Ch
section
variable (w:World) (b o:Nat) (pre:List Value) (l:List Bool) (post:List Value) (T:TypeId)
theorem Vt(b' o':Nat)(pre':List Value)(l':List Bool)(post':List Value)(T':TypeId)(h:ju w b pre l post T)(hl:l.length=16)(ho:pre.length=o)
 (h':ju w b' pre' l' post' T') (hl':l'.length=16) (ho':pre'.length=o') (hb:b'≠b):
 Calls prog 179 #[.pointer (some ⟨b,o,none⟩),.pointer (some ⟨b',o',none⟩)] w λx w'=>x= .returned (.tuple #[])/\ju w' b pre (Ch.join l l') post T/\Kp (λk=>k=b) w w':=by
 subst ho ho'
 go_enter func179,ntmps179
 go_wp2_with fail
 go_loopw [4] (λi wr=>∃k:Nat,i= .int .i64 k/\k<=16/\ju wr b pre (kO l l' k) post T/\Kp (λk=>k=b) w wr) (λi _=>16-(intOf i).toNat)
 case atStart=>exact⟨0,rfl,Nat.zero_le _,by rw[MK _ hl];exact h,Kp.refl _ _⟩
 case round=>
  obtain⟨k,rfl,hk,h1,K1⟩:=hrel
  by_cases hlt:k<16
  ·have c:=h1.cell (uq _ _ _) hlt
   rw[Rv hlt]at c;have f:=h1.free (pre.length+k);have c':=(h'.keep K1 hb).cell hl' hlt
   have hlt':(k:Int)<16:=by omega
   have hs:=λv=>h1.set (uq _ _ _) hlt v
   have HH:=hid (ae hs K1);clear h h' h1 hs K1
   cases q:Ch.bit l k with
   |true=>
    rw[q]at c;have HS:=hid (show kO l l' (k+1)=(kO l l' k).set k true by rw[AG hlt,q];rfl);go_wp2
    go_region
    all_goals
     go_wp2
     go_roundw
     case rel=>exact⟨k+1,by go_num,by omega,by rw[HS.out];exact HH.out.1 true,(HH.out.2.drew).setCell (by intro _;rfl) _⟩
     case measure=>simp[intOf];omega
   |false=>?_
   rw[q]at c;have HS:=hid (show kO l l' (k+1)=(kO l l' k).set k (Ch.bit l' k)by rw[AG hlt,q];rfl);go_wp2
   go_region
   all_goals
    go_wp2
    go_roundw
    case rel=>exact⟨k+1,by go_num,by omega,by rw[HS.out];exact HH.out.1 _,(HH.out.2.drew).setCell (by intro _;rfl) _⟩
    case measure=>simp[intOf];omega
  have hd:¬(k:Int)<16:=by omega
  obtain rfl:k=16:=by omega
  have HH:=hid (ae h1 K1);clear h h' h1 K1;go_wp2
  go_end0
  obtain⟨h1,K1⟩:=HH.out;rw[Ru]at h1;exact⟨rfl,h1,K1⟩
end
namespace Ch
structure Sd where
 act:List Bool
 past:List Int
 tm:ByteArray
 x:Int
 y:Int
 z:Int
def Sd.Wf(s:Sd):Prop:=s.act.length=16/\s.past.length=16
def jU(n:Int):Bool:=decide (-99<=n)&&decide (n<=99)
def var(s:Sd)(c:Int):Int:=if c==120 then s.x else if c==121 then s.y else s.z
def fX(s:Sd)(c n:Int):Sd:=if c==120 then {s with x:=n}else if c==121 then {s with y:=n}else {s with z:=n}
end Ch
def bf(l:List Int):List Value:=l.map (Value.int .u8)
def cf(s:Sd):List Value:=bf s.past++[.string s.tm,.int .i64 s.x,.int .i64 s.y,.int .i64 s.z]
def du(w:World)(b:Nat)(pre:List Value)(s:Sd)(post:List Value)(T:TypeId):Prop:=ju w b pre s.act (cf s++post) T
section
variable {w:World} {b:Nat} {pre:List Value} {s:Sd} {post:List Value} {T:TypeId}
theorem du.at_(h:du w b pre s post T)(hw:s.Wf)(k:Nat):w.cell? ⟨b,pre.length+(16+k),none⟩=(cf s++post)[k]?:=by
 unfold du ju at h;simp only[World.cell?,h];simp only[Option.isSome_none,Bool.false_eq_true,if_false,List.getElem?_toArray];rw[List.getElem?_append_right (by simp[hw.1])]
 congr 1
 simp[hw.1];omega
theorem du.ML(h:du w b pre s post T)(hw:s.Wf)(k:Nat)(v:Value):ju (w.setCell ⟨b,pre.length+(16+k),none⟩ v) b pre s.act ((cf s++post).set k v) T:=by
 unfold du ju at*;rw[ah _ h]
 congr 2
 simp only[List.setIfInBounds_toArray];rw[List.set_append_right _ _ (by simp[hw.1])];rw[show pre.length+(16+k)-(pre++List.map Value.bool s.act).length=k by simp[hw.1];omega]
theorem du.free(h:du w b pre s post T)(i:Nat):w.frozen? ⟨b,i,none⟩=false:=ju.free h i
theorem du.keep{S:Nat->Prop}{w':World}(h:du w b pre s post T)(k:Kp S w w')(hs:¬S b):du w' b pre s post T:=Kp.at_ k h hs
theorem du.lt(h:du w b pre s post T):b<w.heap.size:=lt_of_block h
theorem iu(hw:s.Wf):(bf s.past).length=16:=by simp[bf,hw.2]
theorem du.tm(h:du w b pre s post T)(hw:s.Wf):w.cell? ⟨b,pre.length+32,none⟩=some (.string s.tm):=by
 rw[show pre.length+32=pre.length+(16+16)by omega,h.at_ hw 16,cf,List.append_assoc,List.getElem?_append_right (by simp[iu hw])];simp[iu hw]
theorem du.cx(h:du w b pre s post T)(hw:s.Wf):w.cell? ⟨b,pre.length+33,none⟩=some (.int .i64 s.x):=by
 rw[show pre.length+33=pre.length+(16+17)by omega,h.at_ hw 17,cf,List.append_assoc,List.getElem?_append_right (by simp[iu hw])];simp[iu hw]
theorem du.cy(h:du w b pre s post T)(hw:s.Wf):w.cell? ⟨b,pre.length+34,none⟩=some (.int .i64 s.y):=by
 rw[show pre.length+34=pre.length+(16+18)by omega,h.at_ hw 18,cf,List.append_assoc,List.getElem?_append_right (by simp[iu hw])];simp[iu hw]
theorem du.cz(h:du w b pre s post T)(hw:s.Wf):w.cell? ⟨b,pre.length+35,none⟩=some (.int .i64 s.z):=by
 rw[show pre.length+35=pre.length+(16+19)by omega,h.at_ hw 19,cf,List.append_assoc,List.getElem?_append_right (by simp[iu hw])];simp[iu hw]
theorem du.past(h:du w b pre s post T)(hw:s.Wf){k:Nat}(hk:k<16):w.cell? ⟨b,pre.length+16+k,none⟩=some (.int .u8 (s.past.getD k 0)):=by
 rw[show pre.length+16+k=pre.length+(16+k)by omega,h.at_ hw k,cf,List.append_assoc,List.getElem?_append_left (by simp[iu hw,hk])];simp[bf,show k<s.past.length by rw[hw.2];exact hk]
theorem Gi(hw:s.Wf)(j:Nat)(v:Value):(cf s++post).set (16+j) v=bf s.past++([Value.string s.tm,Value.int .i64 s.x,Value.int .i64 s.y,Value.int .i64 s.z]++post).set j v:=by
 rw[cf,List.append_assoc,List.set_append_right _ _ (by simp[iu hw]),iu hw,Nat.add_sub_cancel_left]
theorem du.P_(h:du w b pre s post T)(hw:s.Wf)(v:ByteArray):du (w.setCell ⟨b,pre.length+32,none⟩ (.string v)) b pre {s with tm:=v} post T:=by
 have:=h.ML hw 16 (.string v);rw[Gi hw 0]at this;rw[show pre.length+32=pre.length+(16+16)by omega];unfold du;simpa[cf]using this
theorem du.Vu(h:du w b pre s post T)(hw:s.Wf)(v:Int):du (w.setCell ⟨b,pre.length+33,none⟩ (.int .i64 v)) b pre {s with x:=v} post T:=by
 have:=h.ML hw 17 (.int .i64 v);rw[Gi hw 1]at this;rw[show pre.length+33=pre.length+(16+17)by omega];unfold du;simpa[cf]using this
theorem du.Vv(h:du w b pre s post T)(hw:s.Wf)(v:Int):du (w.setCell ⟨b,pre.length+34,none⟩ (.int .i64 v)) b pre {s with y:=v} post T:=by
 have:=h.ML hw 18 (.int .i64 v);rw[Gi hw 2]at this;rw[show pre.length+34=pre.length+(16+18)by omega];unfold du;simpa[cf]using this
theorem du.Vw(h:du w b pre s post T)(hw:s.Wf)(v:Int):du (w.setCell ⟨b,pre.length+35,none⟩ (.int .i64 v)) b pre {s with z:=v} post T:=by
 have:=h.ML hw 19 (.int .i64 v);rw[Gi hw 3]at this;rw[show pre.length+35=pre.length+(16+19)by omega];unfold du;simpa[cf]using this
theorem du.Zd(h:du w b pre s post T)(hw:s.Wf){k:Nat}(hk:k<16)(v:Int):du (w.setCell ⟨b,pre.length+16+k,none⟩ (.int .u8 v)) b pre {s with past:=s.past.set k v} post T:=by
 have:=h.ML hw k (.int .u8 v);rw[cf,List.append_assoc,List.set_append_left _ _ (by simp[iu hw,hk])]at this;rw[show pre.length+16+k=pre.length+(16+k)by omega];unfold du;simpa[cf,bf,List.map_set]using this
end
section
variable (w:World) (b o:Nat) (pre:List Value) (s:Sd) (post:List Value) (T:TypeId)
theorem ie(n:Int):
 Calls prog 128 #[.int .i64 n] w λx w'=>x= .returned (.bool (jU n))/\w'=w:=by
 by_cases h1: -99<=n
 ·by_cases h2:n<=99
  ·have H:Hid (jU n=true):=by simp[Hid,jU,h1,h2]
   go_enter func128,ntmps128
   go_wp2;go_ret;exact⟨by rw[H.out];rfl,rfl⟩
  have H:Hid (jU n=false):=by simp[Hid,jU,h2]
  go_enter func128,ntmps128
  go_wp2;go_ret;exact⟨by rw[H.out];rfl,rfl⟩
 have H:Hid (jU n=false):=by simp[Hid,jU,h1]
 go_enter func128,ntmps128
 go_wp2;go_ret;exact⟨by rw[H.out];rfl,rfl⟩
theorem ri(c:Int)(h:du w b pre s post T)(hw:s.Wf)(ho:pre.length=o):
 Calls prog 257 #[.pointer (some ⟨b,o,none⟩),.int .u8 c] w λx w'=>x= .returned (.int .i64 (Ch.var s c))/\w'=w:=by
 subst ho;have c1:=h.cx hw;have c2:=h.cy hw;have c3:=h.cz hw;clear h
 cases q1:c==120 with
 |true=>
  have H:=hid (show Ch.var s c=s.x by simp[Ch.var,q1])
  go_enter func257,ntmps257
  go_wp2;go_ret;exact⟨by rw[H.out];rfl,rfl⟩
 |false=>?_
 cases q2:c==121 with
 |true=>
  have H:=hid (show Ch.var s c=s.y by simp[Ch.var,q1,q2])
  go_enter func257,ntmps257
  go_wp2;go_ret;exact⟨by rw[H.out];rfl,rfl⟩
 |false=>?_
 have H:=hid (show Ch.var s c=s.z by simp[Ch.var,q1,q2])
 go_enter func257,ntmps257
 go_wp2;go_ret;exact⟨by rw[H.out];rfl,rfl⟩
theorem mh(c n:Int)(h:du w b pre s post T)(hw:s.Wf)(ho:pre.length=o):
 Calls prog 258 #[.pointer (some ⟨b,o,none⟩),.int .u8 c,.int .i64 n] w λx w'=>x= .returned (.bool (jU n))/\du w' b pre (if jU n then fX s c n else s) post T/\Kp (λk=>k=b) w w':=by
 subst ho;have c1:=h.cx hw;have c2:=h.cy hw;have c3:=h.cz hw
 have f1:=λi=>h.free i
 have HH:=hid h;clear h
 cases q0:jU n with
 |false=>
  have E:=ie w n;rw[q0]at E
  go_enter func258,ntmps258
  go_wp2_with fail
  refine Calls.mono E ?_;rintro x w1 ⟨rfl,rfl⟩;clear E;go_wp2;go_ret;exact⟨rfl,HH.out,Kp.refl _ _⟩
 |true=>?_
 cases q1:c==120 with
 |true=>
  have H:=hid (show fX s c n={s with x:=n}by simp[fX,q1]);have E:=ie w n;rw[q0]at E
  go_enter func258,ntmps258
  go_wp2_with fail
  refine Calls.mono E ?_;rintro x w1 ⟨rfl,rfl⟩;clear E;go_wp2;go_ret;rw[H.out];exact⟨rfl,HH.out.Vu hw n,(Kp.refl _ _).setCell (by intro _;rfl) _⟩
 |false=>?_
 cases q2:c==121 with
 |true=>
  have H:=hid (show fX s c n={s with y:=n}by simp[fX,q1,q2]);have E:=ie w n;rw[q0]at E
  go_enter func258,ntmps258
  go_wp2_with fail
  refine Calls.mono E ?_;rintro x w1 ⟨rfl,rfl⟩;clear E;go_wp2;go_ret;rw[H.out];exact⟨rfl,HH.out.Vv hw n,(Kp.refl _ _).setCell (by intro _;rfl) _⟩
 |false=>?_
 have H:=hid (show fX s c n={s with z:=n}by simp[fX,q1,q2]);have E:=ie w n;rw[q0]at E
 go_enter func258,ntmps258
 go_wp2_with fail
 refine Calls.mono E ?_;rintro x w1 ⟨rfl,rfl⟩;clear E;go_wp2;go_ret;rw[H.out];exact⟨rfl,HH.out.Vw hw n,(Kp.refl _ _).setCell (by intro _;rfl) _⟩
end
namespace Ch
def uS(ss:List St)(l:List Bool)(parent:Int)(zB:Bool)(j:Nat):Bool:=(has l j==zB)&&aB ss j parent
def pJ(ss:List St)(l:List Bool)(parent:Int)(zB:Bool)(k:Nat):Nat:=(List.range k).countP (uS ss l parent zB)
def e_(ss:List St)(l:List Bool)(parent:Int)(zB:Bool):Nat:=pJ ss l parent zB ss.length
theorem Rw(ss:List St)(l:List Bool)(parent:Int)(zB:Bool)(k:Nat):pJ ss l parent zB (k+1)=pJ ss l parent zB k+if uS ss l parent zB k then 1 else 0:=by
 unfold pJ;rw[List.range_succ,List.countP_append];simp[List.countP_cons]
theorem Ze(ss:List St)(l:List Bool)(parent:Int)(zB:Bool)(k:Nat):pJ ss l parent zB k<=k:=by
 have:=List.countP_le_length (p:=uS ss l parent zB) (l:=List.range k);simpa[pJ]using this
def fits(ss:List St)(l:List Bool)(i:Int):Bool:=
 if has l i then
  if(aw ss i != -1)&& !has l (aw ss i)then false
  else if aA ss i==2 then((e_ ss l i true:Nat):Int)==1
  else if aA ss i==3 then((e_ ss l i false:Nat):Int)==0
  else if aA ss i==5 then false
  else true
 else aw ss i != -1
def gy(ss:List St)(i name:Int):Bool:=if name==45 then true else aB ss (place ss name) (aw ss i)
def i_(ss:List St)(l:List Bool)(parent:Int):Nat->Nat->Int
 |0,_=>-2
 |f+1,k=>if has l k&&aB ss k parent then k else i_ ss l parent f (k+1)
def lN(ss:List St)(l:List Bool)(parent:Int):Int:=i_ ss l parent ss.length 0
def aR(s:Sd)(k:Nat):Int:=s.past.getD k 0
def goal(ss:List St)(s:Sd)(target:Int):Int:=
 if decide (target<0)||decide (16<=target)||aA ss target !=5 then target
 else if aR s target.toNat==45 then cH ss (aw ss target)
 else place ss (aR s target.toNat)
end Ch
section
variable (ob oo:Nat) (w:World) (ss:List St) (b o:Nat) (pre:List Value) (l:List Bool) (post:List Value) (T:TypeId)
theorem ow(parent:Int)(zB:Bool)(hS:mg w ob oo ss)(hl:ss.length<=1000)(h:ju w b pre l post T)(h16:l.length=16)(ho:pre.length=o):
 Calls prog 220 #[.pointer (some ⟨ob,oo,none⟩),.int .i64 parent,.pointer (some ⟨b,o,none⟩),.bool zB] w λx w'=>x= .returned (.int .i64 ((e_ ss l parent zB:Nat):Int))/\w'=w:=by
 obtain⟨ao,cap,c2⟩:=hS.len
 go_enter func220,ntmps220
 go_wp2_with fail
 go_loop [9,10] (λn i=>∃k:Nat,i= .int .i64 k/\k<=ss.length/\n= .int .i64 ((pJ ss l parent zB k:Nat):Int)) (λ_ i=>ss.length-(intOf i).toNat)
 case atStart=>exact⟨0,rfl,Nat.zero_le _,rfl⟩
 case round=>
  obtain⟨k,rfl,hk,rfl⟩:=hrel;have hle:=Ze ss l parent zB k
  by_cases hlt:k<ss.length
  ·have hlt':(k:Int)<(ss.length:Int):=by omega
   have hs:=Rw ss l parent zB k;have E1:=hid (jw w b o pre l post T k h h16 ho);have E2:=hid (iZ ob oo w ss k parent hS hl)
   cases q1:Ch.has l (k:Int)==zB with
   |false=>
    have HS:=hid (show pJ ss l parent zB (k+1)=pJ ss l parent zB k by rw[hs];simp[uS,q1]);clear hs h hS
    go_wp2_with fail
    refine hm E1 ?_;rintro x w1 ⟨rfl,rfl⟩;go_wp2
    go_round
    case rel=>exact⟨k+1,by go_num,by omega,by rw[HS.out]⟩
    case measure=>simp[intOf];omega
   |true=>?_
   cases q2:aB ss k parent with
   |false=>
    have HS:=hid (show pJ ss l parent zB (k+1)=pJ ss l parent zB k by rw[hs];simp[uS,q2]);rw[q2]at E2;clear hs h hS
    go_wp2_with fail
    refine hm E1 ?_;rintro x w1 ⟨rfl,rfl⟩
    go_wp2_with fail
    refine hm E2 ?_;rintro x w1 ⟨rfl,rfl⟩;go_wp2
    go_round
    case rel=>exact⟨k+1,by go_num,by omega,by rw[HS.out]⟩
    case measure=>simp[intOf];omega
   |true=>?_
   have HS:=hid (show pJ ss l parent zB (k+1)=pJ ss l parent zB k+1 by rw[hs];simp[uS,q1,q2]);rw[q2]at E2;clear hs h hS
   go_wp2_with fail
   refine hm E1 ?_;rintro x w1 ⟨rfl,rfl⟩
   go_wp2_with fail
   refine hm E2 ?_;rintro x w1 ⟨rfl,rfl⟩;go_wp2
   go_round
   case rel=>exact⟨k+1,by go_num,by omega,by rw[HS.out];go_num⟩
   case measure=>simp[intOf];omega
  have hge:¬(k:Int)<(ss.length:Int):=by omega
  obtain rfl:k=ss.length:=by omega
  clear h hS
  go_wp2_with fail
  go_ret;exact⟨rfl,rfl⟩
theorem MM(i c:Int)(hS:mg w ob oo ss)(hl:ss.length<=1000):
 Calls prog 172 #[.pointer (some ⟨ob,oo,none⟩),.int .i64 i,.int .u8 c] w λx w'=>x= .returned (.bool (gy ss i c))/\w'=w:=by
 cases q:c==45 with
 |true=>
  rw[show gy ss i c=true by simp[gy,q]]
  go_enter func172,ntmps172
  go_wp2;go_ret;exact⟨rfl,rfl⟩
 |false=>?_
 rw[show gy ss i c=aB ss (Ch.place ss c) (aw ss i)by simp[gy,q]];have E1:=hid (fW ob oo w ss i hS hl);have E2:=hid (kY ob oo w ss c hS hl);have E3:=hid (iZ ob oo w ss (Ch.place ss c) (aw ss i) hS hl)
 go_enter func172,ntmps172
 go_wp2_with fail
 refine hm E1 ?_;rintro x w1 ⟨rfl,rfl⟩
 go_wp2_with fail
 refine hm E2 ?_;rintro x w1 ⟨rfl,rfl⟩
 go_wp2_with fail
 refine hm E3 ?_;rintro x w1 ⟨rfl,rfl⟩;go_wp2;go_ret;exact⟨rfl,rfl⟩
theorem zC(s:Sd)(parent:Int)(hS:mg w ob oo ss)(hl:ss.length<=1000)(h:du w b pre s post T)(hw:s.Wf)(ho:pre.length=o):
 Calls prog 180 #[.pointer (some ⟨b,o,none⟩),.pointer (some ⟨ob,oo,none⟩),.int .i64 parent] w λx w'=>x= .returned (.int .i64 (lN ss s.act parent))/\w'=w:=by
 obtain⟨ao,cap,c2⟩:=hS.len
 go_enter func180,ntmps180
 go_wp2_with fail
 go_loop [7] (λi=>∃k:Nat,i= .int .i64 k/\k<=ss.length/\Hid (lN ss s.act parent=i_ ss s.act parent (ss.length-k) k)) (λi=>ss.length-(intOf i).toNat)
 case atStart=>exact⟨0,rfl,Nat.zero_le _,hid rfl⟩
 case round=>
  obtain⟨k,rfl,hk,HE⟩:=hrel
  by_cases hlt:k<ss.length
  ·have hlt':(k:Int)<(ss.length:Int):=by omega
   have ef:ss.length-k=(ss.length-(k+1))+1:=by omega
   have E1:=hid (jw w b o pre s.act (cf s++post) T k h hw.1 ho);have E2:=hid (iZ ob oo w ss k parent hS hl)
   cases q1:Ch.has s.act (k:Int)with
   |false=>
    have HF:=hid (HE.out.trans (show _=i_ ss s.act parent (ss.length-(k+1)) (k+1)by rw[ef];simp[i_,q1]));rw[q1]at E1;clear ef HE h hS
    go_wp2_with fail
    refine hm E1 ?_;rintro x w1 ⟨rfl,rfl⟩;go_wp2
    go_round
    case rel=>exact⟨k+1,by go_num,by omega,HF⟩
    case measure=>simp[intOf];omega
   |true=>?_
   rw[q1]at E1
   cases q2:aB ss k parent with
   |false=>
    have HF:=hid (HE.out.trans (show _=i_ ss s.act parent (ss.length-(k+1)) (k+1)by rw[ef];simp[i_,q2]));rw[q2]at E2;clear ef HE h hS
    go_wp2_with fail
    refine hm E1 ?_;rintro x w1 ⟨rfl,rfl⟩
    go_wp2_with fail
    refine hm E2 ?_;rintro x w1 ⟨rfl,rfl⟩;go_wp2
    go_round
    case rel=>exact⟨k+1,by go_num,by omega,HF⟩
    case measure=>simp[intOf];omega
   |true=>?_
   have HF:=hid (HE.out.trans (show _=((k:Nat):Int)by rw[ef];simp[i_,q1,q2]));rw[q2]at E2;clear ef HE h hS
   go_wp2_with fail
   refine hm E1 ?_;rintro x w1 ⟨rfl,rfl⟩
   go_wp2_with fail
   refine hm E2 ?_;rintro x w1 ⟨rfl,rfl⟩;go_wp2;go_ret;exact⟨by rw[HF.out];rfl,rfl⟩
  have HF:=hid (HE.out.trans (show _=(-2:Int)by rw[show ss.length-k=0 by omega];rfl))
  have hge:¬(k:Int)<(ss.length:Int):=by omega
  clear HE h hS
  go_wp2_with fail
  go_ret;exact⟨by rw[HF.out];rfl,rfl⟩
end
section
variable (ob oo:Nat) (w:World) (ss:List St) (b o:Nat) (pre:List Value) (l:List Bool) (post:List Value) (T:TypeId)
theorem Vx(i:Int)(hS:mg w ob oo ss)(hl:ss.length<=1000)(h:ju w b pre l post T)(h16:l.length=16)(ho:pre.length=o):
 Calls prog 171 #[.pointer (some ⟨ob,oo,none⟩),.pointer (some ⟨b,o,none⟩),.int .i64 i] w λx w'=>x= .returned (.bool (Ch.fits ss l i))/\w'=w:=by
 have EP:=hid (fW ob oo w ss i hS hl);have EH:=hid (jw w b o pre l post T i h h16 ho);have EA:=hid (jw w b o pre l post T (aw ss i) h h16 ho);have EK:=hid (ky ob oo w ss i hS hl);have EC:=hid (ow ob oo w ss b o pre l post T i true hS hl h h16 ho);have ED:=hid (ow ob oo w ss b o pre l post T i false hS hl h h16 ho)
 cases qh:Ch.has l i with
 |false=>
  rw[show Ch.fits ss l i=(aw ss i != -1)by simp[Ch.fits,qh]];rw[qh]at EH;clear hS h
  go_enter func171,ntmps171
  go_wp2_with fail
  refine hm EP ?_;rintro x w1 ⟨rfl,rfl⟩
  go_wp2_with fail
  refine hm EH ?_;rintro x w1 ⟨rfl,rfl⟩;go_wp2;go_ret;exact⟨rfl,rfl⟩
 |true=>?_
 rw[qh]at EH
 cases qp:aw ss i != -1 with
 |false=>
  cases k2:aA ss i==2 with
  |true=>
   rw[show Ch.fits ss l i=(((e_ ss l i true:Nat):Int)==1)by simp[Ch.fits,qh,qp,k2]];clear hS h
   go_enter func171,ntmps171
   go_wp2_with fail
   refine hm EP ?_;rintro x w1 ⟨rfl,rfl⟩
   go_wp2_with fail
   refine hm EH ?_;rintro x w1 ⟨rfl,rfl⟩
   go_wp2_with fail
   refine hm EK ?_;rintro x w1 ⟨rfl,rfl⟩
   go_wp2_with fail
   refine hm EC ?_;rintro x w1 ⟨rfl,rfl⟩;go_wp2;go_ret;exact⟨rfl,rfl⟩
  |false=>?_
  cases k3:aA ss i==3 with
  |true=>
   rw[show Ch.fits ss l i=(((e_ ss l i false:Nat):Int)==0)by simp[Ch.fits,qh,qp,k2,k3]];clear hS h
   go_enter func171,ntmps171
   go_wp2_with fail
   refine hm EP ?_;rintro x w1 ⟨rfl,rfl⟩
   go_wp2_with fail
   refine hm EH ?_;rintro x w1 ⟨rfl,rfl⟩
   go_wp2_with fail
   refine hm EK ?_;rintro x w1 ⟨rfl,rfl⟩
   go_wp2_with fail
   refine hm ED ?_;rintro x w1 ⟨rfl,rfl⟩;go_wp2;go_ret;exact⟨rfl,rfl⟩
  |false=>?_
  cases k5:aA ss i==5 with
  |true=>
   rw[show Ch.fits ss l i=false by simp[Ch.fits,qh,qp,k2,k3,k5]];clear hS h
   go_enter func171,ntmps171
   go_wp2_with fail
   refine hm EP ?_;rintro x w1 ⟨rfl,rfl⟩
   go_wp2_with fail
   refine hm EH ?_;rintro x w1 ⟨rfl,rfl⟩
   go_wp2_with fail
   refine hm EK ?_;rintro x w1 ⟨rfl,rfl⟩;go_wp2;go_ret;exact⟨rfl,rfl⟩
  |false=>?_
  rw[show Ch.fits ss l i=true by simp[Ch.fits,qh,qp,k2,k3,k5]];clear hS h
  go_enter func171,ntmps171
  go_wp2_with fail
  refine hm EP ?_;rintro x w1 ⟨rfl,rfl⟩
  go_wp2_with fail
  refine hm EH ?_;rintro x w1 ⟨rfl,rfl⟩
  go_wp2_with fail
  refine hm EK ?_;rintro x w1 ⟨rfl,rfl⟩;go_wp2;go_ret;exact⟨rfl,rfl⟩
 |true=>?_
 cases qa:Ch.has l (aw ss i)with
 |false=>
  rw[show Ch.fits ss l i=false by simp[Ch.fits,qh,qp,qa]];rw[qa]at EA;clear hS h
  go_enter func171,ntmps171
  go_wp2_with fail
  refine hm EP ?_;rintro x w1 ⟨rfl,rfl⟩
  go_wp2_with fail
  refine hm EH ?_;rintro x w1 ⟨rfl,rfl⟩
  go_wp2_with fail
  refine hm EA ?_;rintro x w1 ⟨rfl,rfl⟩;go_wp2;go_ret;exact⟨rfl,rfl⟩
 |true=>?_
 rw[qa]at EA
 cases k2:aA ss i==2 with
 |true=>
  rw[show Ch.fits ss l i=(((e_ ss l i true:Nat):Int)==1)by simp[Ch.fits,qh,qp,qa,k2]];clear hS h
  go_enter func171,ntmps171
  go_wp2_with fail
  refine hm EP ?_;rintro x w1 ⟨rfl,rfl⟩
  go_wp2_with fail
  refine hm EH ?_;rintro x w1 ⟨rfl,rfl⟩
  go_wp2_with fail
  refine hm EA ?_;rintro x w1 ⟨rfl,rfl⟩
  go_wp2_with fail
  refine hm EK ?_;rintro x w1 ⟨rfl,rfl⟩
  go_wp2_with fail
  refine hm EC ?_;rintro x w1 ⟨rfl,rfl⟩;go_wp2;go_ret;exact⟨rfl,rfl⟩
 |false=>?_
 cases k3:aA ss i==3 with
 |true=>
  rw[show Ch.fits ss l i=(((e_ ss l i false:Nat):Int)==0)by simp[Ch.fits,qh,qp,qa,k2,k3]];clear hS h
  go_enter func171,ntmps171
  go_wp2_with fail
  refine hm EP ?_;rintro x w1 ⟨rfl,rfl⟩
  go_wp2_with fail
  refine hm EH ?_;rintro x w1 ⟨rfl,rfl⟩
  go_wp2_with fail
  refine hm EA ?_;rintro x w1 ⟨rfl,rfl⟩
  go_wp2_with fail
  refine hm EK ?_;rintro x w1 ⟨rfl,rfl⟩
  go_wp2_with fail
  refine hm ED ?_;rintro x w1 ⟨rfl,rfl⟩;go_wp2;go_ret;exact⟨rfl,rfl⟩
 |false=>?_
 cases k5:aA ss i==5 with
 |true=>
  rw[show Ch.fits ss l i=false by simp[Ch.fits,qh,qp,qa,k2,k3,k5]];clear hS h
  go_enter func171,ntmps171
  go_wp2_with fail
  refine hm EP ?_;rintro x w1 ⟨rfl,rfl⟩
  go_wp2_with fail
  refine hm EH ?_;rintro x w1 ⟨rfl,rfl⟩
  go_wp2_with fail
  refine hm EA ?_;rintro x w1 ⟨rfl,rfl⟩
  go_wp2_with fail
  refine hm EK ?_;rintro x w1 ⟨rfl,rfl⟩;go_wp2;go_ret;exact⟨rfl,rfl⟩
 |false=>?_
 rw[show Ch.fits ss l i=true by simp[Ch.fits,qh,qp,qa,k2,k3,k5]];clear hS h
 go_enter func171,ntmps171
 go_wp2_with fail
 refine hm EP ?_;rintro x w1 ⟨rfl,rfl⟩
 go_wp2_with fail
 refine hm EH ?_;rintro x w1 ⟨rfl,rfl⟩
 go_wp2_with fail
 refine hm EA ?_;rintro x w1 ⟨rfl,rfl⟩
 go_wp2_with fail
 refine hm EK ?_;rintro x w1 ⟨rfl,rfl⟩;go_wp2;go_ret;exact⟨rfl,rfl⟩
theorem Vy(s:Sd)(g:Int)(hS:mg w ob oo ss)(hl:ss.length<=1000)(h:du w b pre s post T)(hw:s.Wf)(ho:pre.length=o):
 Calls prog 160 #[.pointer (some ⟨b,o,none⟩),.pointer (some ⟨ob,oo,none⟩),.int .i64 g] w λx w'=>x= .returned (.int .i64 (Ch.goal ss s g))/\w'=w:=by
 subst ho;have EK:=hid (ky ob oo w ss g hS hl);have EP:=hid (fW ob oo w ss g hS hl);have EF:=hid (nu ob oo w ss (aw ss g) hS hl)
 by_cases h0:g<0
 ·rw[show Ch.goal ss s g=g by simp[Ch.goal,h0]]
  clear hS h
  go_enter func160,ntmps160
  go_wp2;go_ret;exact⟨rfl,rfl⟩
 have h0':decide (g<0)=false:=by simp;omega
 by_cases h1:16<=g
 ·rw[show Ch.goal ss s g=g by simp[Ch.goal,h1]]
  clear hS h
  go_enter func160,ntmps160
  go_wp2;go_ret;exact⟨rfl,rfl⟩
 have h1':decide (16<=g)=false:=by simp;omega
 obtain⟨k,rfl⟩:∃k:Nat,g=(k:Int):=⟨g.toNat,by omega⟩
 have hk:k<16:=by omega
 have hk':(k:Int)<16:=by omega
 have c:w.cell? ⟨b,pre.length+16+k,none⟩=some (.int .u8 (aR s k)):=h.past hw hk;have EL:=hid (kY ob oo w ss (aR s k) hS hl)
 cases qk:aA ss (k:Int)!=5 with
 |true=>
  rw[show Ch.goal ss s (k:Int)=(k:Int)by simp[Ch.goal,qk]];clear hS h
  go_enter func160,ntmps160
  go_wp2_with fail
  refine hm EK ?_;rintro x w1 ⟨rfl,rfl⟩;go_wp2;go_ret;exact⟨rfl,rfl⟩
 |false=>?_
 cases qc:aR s k==45 with
 |true=>
  rw[show Ch.goal ss s (k:Int)=cH ss (aw ss k)by simp[Ch.goal,h0',h1',qk,qc]];clear hS h
  go_enter func160,ntmps160
  go_wp2_with fail
  refine hm EK ?_;rintro x w1 ⟨rfl,rfl⟩
  go_wp2_with fail
  refine hm EP ?_;rintro x w1 ⟨rfl,rfl⟩
  go_wp2_with fail
  refine hm EF ?_;rintro x w1 ⟨rfl,rfl⟩;go_wp2;go_ret;exact⟨rfl,rfl⟩
 |false=>?_
 rw[show Ch.goal ss s (k:Int)=Ch.place ss (aR s k)by simp[Ch.goal,h0',h1',qk,qc]];clear hS h
 go_enter func160,ntmps160
 go_wp2_with fail
 refine hm EK ?_;rintro x w1 ⟨rfl,rfl⟩
 go_wp2_with fail
 refine hm EL ?_;rintro x w1 ⟨rfl,rfl⟩;go_wp2;go_ret;exact⟨rfl,rfl⟩
end
def ak(d:TypeDesc):Bool:=match d with| .struct _| .array _ _=>true|_=>false
section
variable {P:Program}
theorem pK(w:World)(b o:Nat)(ty:TypeId)(cs:List Value)(d:TypeDesc)(hc:∀j v,cs[j]? =some v->w.cell? ⟨b,o+j,none⟩=some v)
 (hu:P.underlying ty=some d) (hd:ak d=true) (hi:(P.info? ty).map (·.size)=some cs.length):
 (loadVar ty ⟨b,o,none⟩).run P w= .ok (.agg cs.toArray) w:=by
 have hl:(loadCells ⟨b,o,none⟩ cs.length).run P w= .ok cs.toArray w:=
  run_loadCells_list (P:=P) w ⟨b,o,none⟩ cs (λj v hv=>by
   have hadd:(⟨b,o,none⟩:Addr).add j=⟨b,o+j,none⟩:=by unfold Addr.add;split<;>simp_all
   rw[hadd];exact hc j v hv)
 cases hq:P.info? ty with
 |none=>simp[hq]at hi
 |some i=>?_
 have hs:i.size=cs.length:=by simpa[hq]using hi
 have hagg:(isAgg ty).run P w= .ok true w:=by
  unfold isAgg;rw[Sem.run_bind,run_underlying hu w]
  cases d<;>simp_all [ak]
 simp[loadVar,Sem.run_bind,hagg,sizeOf,typeInfo,hq,hs,hl]
theorem aY{ops:Array Oper}{rest:List Oper}{op:Oper}{a:Act}{w:World}{Q:Exit->Act->World->Prop}(hgd:op.guard=none)(ty:TypeId)(x:Operand)(hop:op.op= .load ty x)
 (b o:Nat) (hx:a.eval x= .pointer (some ⟨b,o,none⟩)) (cs:List Value) (d:TypeDesc) (hc:∀j v,cs[j]? =some v->w.cell? ⟨b,o+j,none⟩=some v)
 (hu:P.underlying ty=some d) (hd:ak d=true) (hi:(P.info? ty).map (·.size)=some cs.length)
 (h:wpList P ops Q rest (a.put op.dst (.agg cs.toArray)) w):wpList P ops Q (op::rest) a w:=
 wpList_plain hgd λK hK=>by
  unfold Oper.wp execOp;simp only[hop,hx,Instr.loadAt,Instr.sureAddr,Sem.run_bind,Sem.run_pure,Result.andThen_ok,pK w b o ty cs d hc hu hd hi];exact hK _ _ h
theorem results_cell_tmp{fn:Func}{p q:Tmp}{ty:TypeId}(h:fn.results= #[.cell p ty,.tmp q])(tmps:Array Value)(w:World)(g:Nat)(t:TypeId)(cs:Array Value)(fr:Nat×Nat)(d:TypeDesc)
 (hp:tmps.getD p undef= .pointer (some ⟨g,0,none⟩)) (hg:w.heap[g]? =some (.cells cs t fr))
 (hu:P.underlying ty=some d) (hd:ak d=true) (hi:(P.info? ty).map (·.size)=some cs.size):
 (results fn tmps).run P w= .ok (.tuple #[.agg cs,tmps.getD q undef]) w:=by
 have hp':tmps[p]?.getD undef= .pointer (some ⟨g,0,none⟩):=by simpa using hp
 simp[results,h,hp',asAddr,run_loadVar_row w g t ty cs fr d hg hu (by cases d<;>simp_all [ak]) hi]
theorem aq{fn:Func}{p q r:Tmp}{ty:TypeId}(h:fn.results= #[.cell p ty,.tmp q,.tmp r])(tmps:Array Value)(w:World)(g:Nat)(t:TypeId)(cs:Array Value)(fr:Nat×Nat)(d:TypeDesc)
 (hp:tmps.getD p undef= .pointer (some ⟨g,0,none⟩)) (hg:w.heap[g]? =some (.cells cs t fr))
 (hu:P.underlying ty=some d) (hd:ak d=true) (hi:(P.info? ty).map (·.size)=some cs.size):
 (results fn tmps).run P w= .ok (.tuple #[.agg cs,tmps.getD q undef,tmps.getD r undef]) w:=by
 have hp':tmps[p]?.getD undef= .pointer (some ⟨g,0,none⟩):=by simpa using hp
 simp[results,h,hp',asAddr,run_loadVar_row w g t ty cs fr d hg hu (by cases d<;>simp_all [ak]) hi]
end
theorem ox:(prog.info? 91).map (·.size)=some 16:=by kernel_rfl
theorem kA:(prog.info? 93).map (·.size)=some 16:=by kernel_rfl
theorem bV:(prog.info? 95).map (·.size)=some 36:=by kernel_rfl
theorem Qa:(bL:Array Value).all (λx=>x.oneCell')=true:=by kernel_rfl
theorem Gj:(fm:Array Value).all (λx=>x.oneCell')=true:=by kernel_rfl
theorem AH:∃d,prog.underlying 91=some d/\ak d=true:=⟨_,underlying91,rfl⟩
theorem Gk:∃d,prog.underlying 93=some d/\ak d=true:=⟨_,underlying93,rfl⟩
theorem eT:∃d,prog.underlying 95=some d/\ak d=true:=⟨_,underlying95,rfl⟩
namespace Ch
def db:List Bool:=List.replicate 16 false
def zD(ss:List St)(t:ByteArray):Nat->Nat->Int->List Bool->Option (List Bool)
 |0,_,_,l=>some l
 |f+1,k,last,l=>if place ss (af t k)<=last then none else zD ss t f (k+1) (place ss (af t k)) (pH l (place ss (af t k)) true)
def allFit(ss:List St)(l:List Bool)(k:Nat):Bool:=(List.range k).all λj=>fits ss l (j:Int)
def lG(ss:List St)(t:ByteArray):Option (List Bool):=
 match zD ss t t.size 0 (-1) db with
 |none=>none
 |some l=>if allFit ss l ss.length then some l else none
theorem IM(ss:List St)(l:List Bool)(k:Nat):allFit ss l (k+1)=(allFit ss l k&&fits ss l (k:Int)):=by
 unfold allFit;rw[List.range_succ,List.all_append];simp
theorem Rx{ss:List St}{l:List Bool}{k:Nat}(hk:k<ss.length)(h:fits ss l (k:Int)=false):allFit ss l ss.length=false:=by
 unfold allFit;rw[List.all_eq_false];exact⟨k,by simpa using hk,by simp[h]⟩
def bT(ss:List St)(t:ByteArray):List Bool×Bool:=match lG ss t with|some l=>(l,true)|none=>(db,false)
theorem Zf(ss:List St)(t:ByteArray):∀(f k:Nat) (last:Int) (l m:List Bool),zD ss t f k last l=some m->m.length=l.length:=by
 intro f
 induction f with
 |zero=>intro k last l m h;simp[zD]at h;rw[h]
 |succ f ih=>?_
 intro k last l m h;simp only[zD]at h
 split at h
 ·cases h
 have:=ih _ _ _ _ h;rw[this,kz]
theorem kB(ss:List St)(t:ByteArray):(bT ss t).1.length=16:=by
 unfold bT lG
 cases h:zD ss t t.size 0 (-1) db with
 |none=>rfl
 |some l=>?_
 have:=Zf ss t _ _ _ _ _ h
 by_cases q:allFit ss l ss.length=true
 ·simp[q];rw[this];rfl
 simp[q];rfl
end Ch
section
variable (ob oo:Nat) (w:World) (ss:List St)
theorem AI(t:ByteArray)(ht:t.size<=9223372036854775807)(hS:mg w ob oo ss)(hl:ss.length<=1000):
 Calls prog 125 #[.pointer (some ⟨ob,oo,none⟩),.string t] w λx w'=>x= .returned (.tuple #[.agg ((bT ss t).1.map Value.bool).toArray,.bool (bT ss t).2])/\Kp (λ_=>False) w w':=by
 obtain⟨ds,hds,eY⟩:=AH;have hS2:mg ((w.alloc (.cells bL 91)).alloc (.cells bL 91)) ob oo ss:=(hS.alloc _).alloc _
 have hr2:((w.alloc (.cells bL 91)).alloc (.cells bL 91)).heap[w.heap.size]? =some (.cells bL 91):=by
  rw[Below.heap_alloc _ _ _ (by simp)];exact heap_alloc_new _ _
 have ha2:ju ((w.alloc (.cells bL 91)).alloc (.cells bL 91)) (w.heap.size+1) [] db [] 91:=heap_alloc2_new w _ _;have K2:Kp (λ_=>False) w ((w.alloc (.cells bL 91)).alloc (.cells bL 91)):=((Kp.refl _ _).alloc _).alloc _
 have AJ:ob<w.heap.size:=by obtain⟨sv,base,hc,_⟩:=hS;exact World.block_lt_of_cell? w _ hc
 have hsn:∀cur,w.heap[w.heap.size+1]? =some (.cells cur 155 (0,0))->False:=by intro cur h;have:=lt_of_block h;omega
 clear hS
 go_enter func125,ntmps125
 go_wp2_with fail
 generalize ((w.alloc (.cells bL 91)).alloc (.cells bL 91))=w2 at hS2 hr2 ha2 K2⊢
 go_loopw [7,8] (λlast i wr=>∃(k:Nat) (la:Int) (l:List Bool),last= .int .i64 la/\i= .int .i64 k/\k<=t.size/\Hid (zD ss t t.size 0 (-1) db=zD ss t (t.size-k) k la l)/\l.length=16/\
  ju wr (w.heap.size+1) [] l [] 91/\Kp (λk=>k=w.heap.size+1) w2 wr) (λ_ i _=>t.size-(intOf i).toNat)
 case atStart=>exact⟨0,-1,db,rfl,rfl,Nat.zero_le _,hid rfl,rfl,ha2,Kp.refl _ _⟩
 case round=>
  obtain⟨k,la,l,rfl,rfl,hk,HE,h16,h1,K1⟩:=hrel;have hSr:mg wr ob oo ss:=hS2.keep K1 (λx=>by omega) (λi cur hc x=>by subst x;unfold ju at ha2;rw[ha2]at hc;simp at hc);have hr:wr.heap[w.heap.size]? =some (.cells bL 91):=K1.at_ hr2 (λx=>by omega);have KX:Kp (λ_=>False) w wr:=K2.trans' K1 (λi hi x=>by omega);have KZ:Kp (λ_=>False) w (wr.setRow w.heap.size bL):=KX.setRow (λx=>by omega) _
  by_cases hlt:k<t.size
  ·have hlt':(k:Int)<(t.size:Int):=by omega
   have hpk:af t k=((t[k]'hlt).toNat:Int):=by simp[af,hlt]
   have ef:t.size-k=(t.size-(k+1))+1:=by omega
   have E1:=hid (kY ob oo wr ss ((t[k]'hlt).toNat:Int) hSr hl)
   by_cases hle:Ch.place ss ((t[k]'hlt).toNat:Int)<=la
   ·have HF:=hid (show bT ss t=(db,false)by
     have e:zD ss t t.size 0 (-1) db=none:=by rw[HE.out,ef];simp only[zD];rw[hpk,if_pos hle]
     simp[bT,lG,e])
    clear HE ef hpk K1 h1 ha2 hS2
    go_wp2_with fail
    refine hm E1 ?_;rintro x w1 ⟨rfl,rfl⟩
    go_wp2_with (refine wpList_store_row rfl 91 (.tmp 4) (.tmp 25) rfl w.heap.size bL rfl rfl 91 bL hr ox rfl Qa ?_)
    refine bodyPost_ret (results_cell_tmp rfl _ _ w.heap.size 91 bL (0,0) ds rfl (setRow_heap _ _ _ _ _ _ hr) hds eY ox) rfl ?_;rw[HF.out];exact⟨rfl,KZ⟩
   have HF:=hid (show zD ss t t.size 0 (-1) db=zD ss t (t.size-(k+1)) (k+1) (Ch.place ss ((t[k]'hlt).toNat:Int)) (pH l (Ch.place ss ((t[k]'hlt).toNat:Int)) true)by
    rw[HE.out,ef];simp only[zD];rw[hpk,if_neg hle])
   have Ry:¬Ch.place ss ((t[k]'hlt).toNat:Int)<=la:=hle;have E2:=hid (Gh wr (w.heap.size+1) 0 [] l [] 91 (Ch.place ss ((t[k]'hlt).toNat:Int)) h1 h16 rfl);have HK:=hid K1;clear HE ef hpk K1 KX KZ h1 ha2 hS2
   go_wp2_with fail
   refine hm E1 ?_;rintro x w1 ⟨rfl,rfl⟩
   go_wp2_with fail
   refine hm E2 ?_;rintro x w3 ⟨rfl,h3,K3⟩;have K4:=HK.out.trans K3;clear E1 E2 K3 HK
   go_wp2_with fail
   go_roundw
   case rel=>exact⟨k+1,_,_,rfl,by go_num,by omega,HF,by rw[kz];exact h16,h3,K4⟩
   case measure=>simp[intOf];omega
  have hge:¬(k:Int)<(t.size:Int):=by omega
  have HF:=hid (show zD ss t t.size 0 (-1) db=some l by rw[HE.out,show t.size-k=0 by omega];rfl);obtain⟨ao,cap,c2⟩:=hSr.len;have HH:=hid (ae h1 (ae hr KX));clear HE K1 ha2 hS2 KZ
  go_wp2_with fail
  go_loop [10] (λi=>∃j:Nat,i= .int .i64 j/\j<=ss.length/\Hid (Ch.allFit ss l j=true)) (λi=>ss.length-(intOf i).toNat)
  case atStart=>exact⟨0,rfl,Nat.zero_le _,hid rfl⟩
  case round=>
   obtain⟨j,rfl,hj,HA⟩:=hrel
   by_cases hjl:j<ss.length
   ·have AK:(j:Int)<(ss.length:Int):=by omega
    have E1:=hid (Vx ob oo wr ss (w.heap.size+1) 0 [] l [] 91 j hSr hl h1 h16 rfl)
    cases q:Ch.fits ss l (j:Int)with
    |false=>
     have HG:=hid (show bT ss t=(db,false)by simp[bT,lG,HF.out,Rx hjl q]);rw[q]at E1;clear h1 hr KX
     go_wp2_with fail
     refine hm E1 ?_;rintro x w1 ⟨rfl,rfl⟩;obtain⟨h1,hr,KX⟩:=HH.out;have KZ:Kp (λ_=>False) w (w1.setRow w.heap.size bL):=KX.setRow (λx=>by omega) _
     go_wp2_with (refine wpList_store_row rfl 91 (.tmp 4) (.tmp 42) rfl w.heap.size bL rfl rfl 91 bL hr ox rfl Qa ?_)
     refine bodyPost_ret (results_cell_tmp rfl _ _ w.heap.size 91 bL (0,0) ds rfl (setRow_heap _ _ _ _ _ _ hr) hds eY ox) rfl ?_;rw[HG.out];exact⟨rfl,KZ⟩
    |true=>?_
    have HG:=hid (show Ch.allFit ss l (j+1)=true by rw[IM,HA.out,q];rfl);rw[q]at E1;clear h1 hr KX
    go_wp2_with fail
    refine hm E1 ?_;rintro x w1 ⟨rfl,rfl⟩
    go_wp2_with fail
    go_round
    case rel=>exact⟨j+1,by go_num,by omega,HG⟩
    case measure=>simp[intOf];omega
   have hjg:¬(j:Int)<(ss.length:Int):=by omega
   obtain rfl:j=ss.length:=by omega
   have HG:=hid (show bT ss t=(l,true)by simp[bT,lG,HF.out,HA.out])
   have hrow:wr.heap[w.heap.size+1]? =some (.cells (l.map Value.bool).toArray 91 (0,0)):=by have:=h1;unfold ju at this;simpa using this
   have hsz:((l.map Value.bool).toArray).size=16:=by simp[h16]
   have hszI:(prog.info? 91).map (·.size)=some ((l.map Value.bool).toArray).size:=by rw[hsz];exact ox
   have hone:((l.map Value.bool).toArray).all (·.oneCell')=true:=by apply Array.all_eq_true_iff_forall_mem.2;intro x hx;simp only[List.mem_toArray,List.mem_map]at hx;obtain⟨a,_,rfl⟩:=hx;rfl
   have KZ:Kp (λ_=>False) w (wr.setRow w.heap.size (l.map Value.bool).toArray):=KX.setRow (λx=>by omega) _;clear h1 KX;generalize hL:(l.map Value.bool).toArray=L at*;have HL:=hid hL;clear hL
   go_wp2_with (first|refine wpList_load_row rfl 91 (.tmp 6) rfl (w.heap.size+1) rfl 91 L (0,0) ds hrow hds (by cases ds<;>simp_all [ak]) hszI ?_|refine wpList_store_row rfl 91 (.tmp 4) (.tmp 43) rfl w.heap.size L rfl rfl 91 bL hr hszI hsz.symm hone ?_)
   refine bodyPost_ret (results_cell_tmp rfl _ _ w.heap.size 91 L (0,0) ds rfl (setRow_heap _ _ _ _ _ _ hr) hds eY hszI) rfl ?_;rw[HG.out,<-HL.out];exact⟨rfl,by rw[HL.out];exact KZ⟩
end
namespace Ch
def xV:List Int:=List.replicate 16 0
def cX(ss:List St)(j:Nat):Bool:=match ss[j]? with|some s=>s.kind==5|none=>false
def gM(ss:List St)(k:Nat):List Int:=(List.range 16).map λj=>if decide (j<k)&&cX ss j then 45 else 0
def cR(ss:List St):List Int:=gM ss 16
theorem rj(ss:List St)(k:Nat):(gM ss k).length=16:=by simp[gM]
theorem MN{ss:List St}{k:Nat}(hk:k<16)(h:cX ss k=true):gM ss (k+1)=(gM ss k).set k 45:=by
 apply List.ext_getElem?;intro i
 by_cases hi:i<16
 ·by_cases e:i=k
  ·subst e;simp[gM,hi,h]
  rw[List.getElem?_set_ne (by omega)];simp[gM,hi,show(i<k+1)=(i<k)by simp;omega]
 rw[List.getElem?_eq_none (by rw[rj];omega),List.getElem?_eq_none (by rw[List.length_set,rj];omega)]
theorem Rz{ss:List St}{k:Nat}(h:cX ss k=false):gM ss (k+1)=gM ss k:=by
 unfold gM;apply List.map_congr_left;intro j _
 by_cases e:j=k
 ·subst e;simp[h]
 simp[show(j<k+1)=(j<k)by simp;omega]
theorem MO{ss:List St}{k:Nat}(h:ss.length<=k\/16<=k):gM ss k=cR ss:=by
 unfold cR gM;apply List.map_congr_left;intro j hj;simp at hj
 by_cases e:j<k
 ·simp[e,hj]
 have:cX ss j=false:=by
  unfold cX;rw[List.getElem?_eq_none (by omega)]
 simp[this]
theorem eN(ss:List St):(cR ss).length=16:=rj _ _
end Ch
def IP(w:World)(b:Nat)(l:List Int):Prop:=w.heap[b]? =some (.cells (bf l).toArray 93 (0,0))
section
variable {w:World} {b:Nat} {l:List Int}
theorem IP.cell(h:IP w b l)(hl:l.length=16){k:Nat}(hk:k<16):w.cell? ⟨b,k,none⟩=some (.int .u8 (l.getD k 0)):=by
 unfold IP at h;simp[World.cell?,h,bf,show k<l.length by omega]
theorem IP.free(h:IP w b l)(i:Nat):w.frozen? ⟨b,i,none⟩=false:=by unfold IP at h;simp[World.frozen?,h]
theorem IP.set(h:IP w b l)(k:Nat)(v:Int):IP (w.setCell ⟨b,k,none⟩ (.int .u8 v)) b (l.set k v):=by
 unfold IP at*;rw[ah _ h];simp[bf,List.map_set]
end
theorem wj(l:List Int):(bf l).toArray.all (λx=>x.oneCell')=true:=by
 apply Array.all_eq_true_iff_forall_mem.2;intro x hx;simp only[bf,List.mem_toArray,List.mem_map]at hx;obtain⟨a,_,rfl⟩:=hx;rfl
theorem pL{l:List Int}(hl:l.length=16):(bf l).toArray.size=16:=by simp[bf,hl]
theorem acm:prog.underlying 93=some (.array (prog.arrayLen 93) (prog.elem 93)):=by kernel_rfl
theorem acn:prog.arrayLen 93=16:=by kernel_rfl
theorem Zg:prog.elem 93=5:=by kernel_rfl
theorem sizeByte:(prog.info? 5).map (·.size)=some 1:=by kernel_rfl
theorem xW(w:World)(b o k:Nat)(hk:k<16):(Instr.indexAt 93 (.pointer (some ⟨b,o,none⟩)) (.int .i64 (k:Int))).run prog w= .ok (.pointer (some ⟨b,o+k,none⟩)) w:=by
 rw[run_indexAt_array (h:=acm),acn,Zg,if_pos (by omega)]
 have hs:(sizeOf 5).run prog w= .ok 1 w:=by
  have h:=sizeByte
  cases hq:prog.info? 5 with
  |none=>simp[hq]at h
  |some i=>simp[hq]at h;simp[sizeOf,typeInfo,hq,h]
 rw[hs];simp only[Result.andThen_ok,Int.toNat_natCast,Nat.mul_one,Addr.add]
 split
 ·rename_i h;simp[h]
 rfl
section
variable (ob oo:Nat) (w:World) (ss:List St)
theorem u_(hS:mg w ob oo ss):
 Calls prog 115 #[.pointer (some ⟨ob,oo,none⟩)] w λx w'=>x= .returned (.agg (bf (cR ss)).toArray)/\Kp (λ_=>False) w w':=by
 obtain⟨ds,hds,eY⟩:=Gk;have hS2:mg ((w.alloc (.cells fm 93)).alloc (.cells fm 93)) ob oo ss:=(hS.alloc _).alloc _
 have hr2:((w.alloc (.cells fm 93)).alloc (.cells fm 93)).heap[w.heap.size]? =some (.cells fm 93):=by
  rw[Below.heap_alloc _ _ _ (by simp)];exact heap_alloc_new _ _
 have ha2:IP ((w.alloc (.cells fm 93)).alloc (.cells fm 93)) (w.heap.size+1) (gM ss 0):=heap_alloc2_new w _ _;have K2:Kp (λ_=>False) w ((w.alloc (.cells fm 93)).alloc (.cells fm 93)):=((Kp.refl _ _).alloc _).alloc _
 have AJ:ob<w.heap.size:=by obtain⟨sv,base,hc,_⟩:=hS;exact World.block_lt_of_cell? w _ hc
 clear hS
 go_enter func115,ntmps115
 go_wp2_with fail
 generalize ((w.alloc (.cells fm 93)).alloc (.cells fm 93))=w2 at hS2 hr2 ha2 K2⊢
 go_loopw [4] (λi wr=>∃k:Nat,i= .int .i64 k/\k<=16/\k<=ss.length/\IP wr (w.heap.size+1) (gM ss k)/\Kp (λk=>k=w.heap.size+1) w2 wr) (λi _=>16-(intOf i).toNat)
 case atStart=>exact⟨0,rfl,Nat.zero_le _,Nat.zero_le _,ha2,Kp.refl _ _⟩
 case round=>
  obtain⟨k,rfl,IQ,hkn,h1,K1⟩:=hrel;have hSr:mg wr ob oo ss:=hS2.keep K1 (λx=>by omega) (λi cur hc x=>by subst x;unfold IP at ha2;rw[ha2]at hc;simp at hc);have hr:wr.heap[w.heap.size]? =some (.cells fm 93):=K1.at_ hr2 (λx=>by omega);have KX:Kp (λ_=>False) w wr:=K2.trans' K1 (λi hi x=>by omega)
  by_cases hgo:k<ss.length/\k<16
  ·obtain⟨hlt,h16⟩:=hgo
   obtain⟨s,hs⟩:∃s,ss[k]? =some s:=⟨_,List.getElem?_eq_getElem hlt⟩
   obtain⟨g,cap,c2,a0,a1,a2,a3⟩:=hSr.at_ hs
   have hlt':(k:Int)<(ss.length:Int):=by omega
   have xS:(k:Int)<16:=by omega
   have cw:=h1.cell (rj _ _) h16;have fw:=h1.free k
   have hix:=λw'=>xW w' (w.heap.size+1) 0 k h16
   simp only[Nat.zero_add]at hix;have HH:=hid (ae h1 K1)
   cases q:s.kind==5 with
   |true=>
    have HS:=hid (MN h16 (show cX ss k=true by simp[cX,hs,q]));clear h1 K1 KX hr hSr ha2 hS2 hs;go_wp2
    go_roundw
    case rel=>exact⟨k+1,by go_num,by omega,by omega,by rw[HS.out];exact HH.out.1.set k 45,HH.out.2.setCell (by intro _;rfl) _⟩
    case measure=>simp[intOf];omega
   |false=>?_
   have HS:=hid (Rz (show cX ss k=false by simp[cX,hs,q]));clear h1 K1 KX hr hSr ha2 hS2 hs;go_wp2
   go_roundw
   case rel=>exact⟨k+1,by go_num,by omega,by omega,by rw[HS.out];exact HH.out.1,HH.out.2⟩
   case measure=>simp[intOf];omega
  have HE:=hid (MO (ss:=ss) (k:=k) (by omega))
  have hrow:wr.heap[w.heap.size+1]? =some (.cells (bf (cR ss)).toArray 93 (0,0)):=by have:=h1;rw[HE.out]at this;exact this
  have hszI:(prog.info? 93).map (·.size)=some ((bf (cR ss)).toArray).size:=by rw[pL (eN ss)];exact kA
  have hsz:=pL (eN ss);have hone:=wj (cR ss);have KZ:Kp (λ_=>False) w (wr.setRow w.heap.size (bf (cR ss)).toArray):=KX.setRow (λx=>by omega) _;obtain⟨ao,cap,c2⟩:=hSr.len;clear h1 K1 KX hSr ha2 hS2;generalize hL:(bf (cR ss)).toArray=L at*;have HL:=hid hL;clear hL
  by_cases hlt:k<ss.length
  ·have hlt':(k:Int)<(ss.length:Int):=by omega
   have xS:decide ((k:Int)<16)=false:=by simp;omega
   go_wp2_with (first|refine wpList_load_row rfl 93 (.tmp 3) rfl (w.heap.size+1) rfl 93 L (0,0) ds hrow hds (by cases ds<;>simp_all [ak]) hszI ?_|refine wpList_store_row rfl 93 (.tmp 2) (.tmp 29) rfl w.heap.size L rfl rfl 93 fm hr hszI hsz.symm hone ?_)
   refine bodyPost_ret (results_cell_row rfl _ _ w.heap.size 93 L (0,0) ds rfl (setRow_heap _ _ _ _ _ _ hr) hds (by cases ds<;>simp_all [ak]) hszI) rfl ?_;rw[HL.out];exact⟨rfl,KZ⟩
  have hlt':decide ((k:Int)<(ss.length:Int))=false:=by simp;omega
  go_wp2_with (first|refine wpList_load_row rfl 93 (.tmp 3) rfl (w.heap.size+1) rfl 93 L (0,0) ds hrow hds (by cases ds<;>simp_all [ak]) hszI ?_|refine wpList_store_row rfl 93 (.tmp 2) (.tmp 29) rfl w.heap.size L rfl rfl 93 fm hr hszI hsz.symm hone ?_)
  refine bodyPost_ret (results_cell_row rfl _ _ w.heap.size 93 L (0,0) ds rfl (setRow_heap _ _ _ _ _ _ hr) hds (by cases ds<;>simp_all [ak]) hszI) rfl ?_;rw[HL.out];exact⟨rfl,KZ⟩
end
end Go.Proofs.YtnlbchmfcebeeaaGreat
