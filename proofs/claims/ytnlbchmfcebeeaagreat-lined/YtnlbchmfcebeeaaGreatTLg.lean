import Derived.Test.YtnlbchmfcebeeaaGreatTA5
import Derived.Deep.RegionHeld3
set_option maxHeartbeats 12800000
set_option maxRecDepth 100000
namespace Go.Proofs.YtnlbchmfcebeeaaGreat
open Go.Proofs.Tryz Ch
open Go.RowKit
namespace Ch
def lM(ss:List St)(i:Int):Option St:=match i with| .ofNat k=>ss[k]? | .negSucc _=>none
theorem dD(ss:List St)(k:Nat):lM ss (k:Int)=ss[k]?:=rfl
theorem iz{ss:List St}{i:Int}{s:St}(h:lM ss i=some s):∃k:Nat,i=k/\ss[k]? =some s/\k<ss.length:=by
 cases i with
 |ofNat k=>exact⟨k,rfl,h,by have:=(List.getElem?_eq_some_iff.1 (show ss[k]? =some s from h)).1;exact this⟩
 |negSucc k=>simp[lM]at h
theorem xR{ss:List St}{i:Int}(h:lM ss i=none):i<0\/(0<=i/\(ss.length:Int)<=i):=by
 cases i with
 |ofNat k=>right;have:ss[k]? =none:=h;have:=List.getElem?_eq_none_iff.1 this;simp;omega
 |negSucc k=>left;omega
def aA(ss:List St)(i:Int):Int:=match lM ss i with|some s=>s.kind|none=>2
def aw(ss:List St)(i:Int):Int:=match lM ss i with|some s=>s.parent|none=>-1
def aB(ss:List St)(i parent:Int):Bool:=match lM ss i with|some s=>s.parent==parent&&s.kind !=5|none=>false
def jG(c:Int):List St->Nat->Int
 | [],_=>-2
 |s::l,k=>if s.name==c then k else jG c l (k+1)
def place(ss:List St)(c:Int):Int:=jG c ss 0
def cM(ss:List St)(parent:Int):Nat->Nat->Int
 |0,_=>-2
 |f+1,k=>if aB ss k parent then k else cM ss parent f (k+1)
def cH(ss:List St)(parent:Int):Int:=cM ss parent ss.length 0
def kx(ss:List St)(i:Int):Bool:=match lM ss i with
 |some s=>if s.kind==5||s.kind==4 then aA ss s.parent==3 else if s.kind==3||s.kind==2 then cH ss i== -2 else false
 |none=>false
def dI(p:Nat->St->Bool):List St->Nat->Int
 | [],_=>-2
 |s::l,k=>if p k s then s.pos else dI p l (k+1)
def eM(ss:List St):Int:=dI (λk s=>decide (place ss s.name<(k:Int))) ss 0
def g7(ss:List St):Int:=dI (λk _=>kx ss k) ss 0
def cN(ss:List St):List Us->Int
 | []=>-2
 |u::l=>if place ss u.name== -2 then u.pos else cN ss l
end Ch
def mg(w:World)(ob oo:Nat)(ss:List St):Prop:=∃sv base,w.cell? ⟨ob,oo+2,none⟩=some sv/\w.ownsRow base 155 4 sv ss.length (dL ss)
theorem mg.at_{w:World}{ob oo:Nat}{ss:List St}(h:mg w ob oo ss){k:Nat}{s:St}(hs:ss[k]? =some s):
 ∃g cap,w.cell? ⟨ob,oo+2,none⟩=some (.slice (some ⟨g,0,none⟩) ss.length cap)/\w.cell? ⟨g,k*4,none⟩=some (.int .u8 s.name)/\w.cell? ⟨g,k*4+1,none⟩=some (.int .i64 s.pos)/\
  w.cell? ⟨g,k*4+2,none⟩=some (.int .i64 s.kind)/\w.cell? ⟨g,k*4+3,none⟩=some (.int .i64 s.parent):=by
 obtain⟨sv,base,hc,ho⟩:=h;have hk:=(List.getElem?_eq_some_iff.1 hs).1;obtain⟨g,cap,rfl⟩:=gD ho (by omega);obtain⟨a0,a1,a2,a3⟩:=Ax ss k s hs;exact⟨g,cap,hc,(ho.cellAt (k*4) (by omega)).trans a0,(ho.cellAt (k*4+1) (by omega)).trans a1,(ho.cellAt (k*4+2) (by omega)).trans a2,(ho.cellAt (k*4+3) (by omega)).trans a3⟩
theorem mg.len{w:World}{ob oo:Nat}{ss:List St}(h:mg w ob oo ss):∃ao cap,w.cell? ⟨ob,oo+2,none⟩=some (.slice ao ss.length cap):=by
 obtain⟨sv,base,hc,ho⟩:=h
 rcases ho.2 with⟨hv,hn⟩|⟨g,cap,_,hv,_⟩
 ·rw[hn];exact⟨_,_,by rw[hc,hv]⟩
 exact⟨_,_,by rw[hc,hv]⟩
section
variable (ob oo:Nat) (w:World) (ss:List St)
theorem ky(i:Int)(h:mg w ob oo ss)(_hl:ss.length<=1000):
 Calls prog 163 #[.pointer (some ⟨ob,oo,none⟩),.int .i64 i] w λx w'=>x= .returned (.int .i64 (aA ss i))/\w'=w:=by
 unfold aA
 cases hs:lM ss i with
 |none=>
  obtain⟨ao,cap,c2⟩:=h.len
  rcases xR hs with h1|⟨h0,h1⟩
  ·clear hs h
   go_enter func163,ntmps163
   go_wp2;go_ret;exact⟨rfl,rfl⟩
  have hd:decide (i<0)=false:=by simp;omega
  clear hs h
  go_enter func163,ntmps163
  go_wp2;go_ret;exact⟨rfl,rfl⟩
 |some s=>?_
 obtain⟨k,rfl,hk,hlt⟩:=iz hs;obtain⟨g,cap,c2,a0,a1,a2,a3⟩:=h.at_ hk
 have hd:decide ((k:Int)<0)=false:=by simp
 have hlt':(k:Int)<(ss.length:Int):=by omega
 clear hs hk h
 go_enter func163,ntmps163
 go_wp2;go_ret;exact⟨rfl,rfl⟩
theorem iZ(i parent:Int)(h:mg w ob oo ss)(_hl:ss.length<=1000):
 Calls prog 162 #[.pointer (some ⟨ob,oo,none⟩),.int .i64 i,.int .i64 parent] w λx w'=>x= .returned (.bool (aB ss i parent))/\w'=w:=by
 unfold aB
 cases hs:lM ss i with
 |none=>
  obtain⟨ao,cap,c2⟩:=h.len
  rcases xR hs with h1|⟨h0,h1⟩
  ·clear hs h
   go_enter func162,ntmps162
   go_wp2;go_ret;exact⟨rfl,rfl⟩
  have hd:decide (i<0)=false:=by simp;omega
  clear hs h
  go_enter func162,ntmps162
  go_wp2;go_ret;exact⟨rfl,rfl⟩
 |some s=>?_
 obtain⟨k,rfl,hk,hlt⟩:=iz hs;obtain⟨g,cap,c2,a0,a1,a2,a3⟩:=h.at_ hk
 have hd:decide ((k:Int)<0)=false:=by simp
 have hlt':(k:Int)<(ss.length:Int):=by omega
 clear hs hk h
 cases q1:s.parent==parent with
 |false=>
  go_enter func162,ntmps162
  go_wp2;go_ret;exact⟨by simp[q1],rfl⟩
 |true=>?_
 cases q2:s.kind !=5 with
 |false=>
  go_enter func162,ntmps162
  go_wp2;go_ret;exact⟨by simp[q1,q2],rfl⟩
 |true=>?_
 go_enter func162,ntmps162
 go_wp2;go_ret;exact⟨by simp[q1,q2],rfl⟩
theorem kY(c:Int)(h:mg w ob oo ss)(hl:ss.length<=1000):
 Calls prog 158 #[.pointer (some ⟨ob,oo,none⟩),.int .u8 c] w λx w'=>x= .returned (.int .i64 (Ch.place ss c))/\w'=w:=by
 go_enter func158,ntmps158
 go_wp2_with fail
 go_loop [5] (λi=>∃k:Nat,i= .int .i64 k/\k<=ss.length/\Hid (Ch.place ss c=jG c (ss.drop k) k)) (λi=>ss.length-(intOf i).toNat)
 case atStart=>exact⟨0,rfl,Nat.zero_le _,hid rfl⟩
 case round=>
  obtain⟨k,rfl,hk,HE⟩:=hrel
  by_cases hlt:k<ss.length
  ·obtain⟨s,hs⟩:∃s,ss[k]? =some s:=⟨_,List.getElem?_eq_getElem hlt⟩
   obtain⟨g,cap,c2,a0,a1,a2,a3⟩:=h.at_ hs
   have hlt':(k:Int)<(ss.length:Int):=by omega
   have ed:ss.drop k=s::ss.drop (k+1):=by
    rw[List.drop_eq_getElem_cons hlt];congr 1;exact(List.getElem?_eq_some_iff.1 hs).2
   cases q:s.name==c with
   |true=>
    have HF:=hid (HE.out.trans (show _=((k:Nat):Int)by rw[ed];simp[jG,q]));clear ed hs HE;go_wp2;go_ret;exact⟨by rw[HF.out];rfl,rfl⟩
   |false=>?_
   have HF:=hid (HE.out.trans (show _=jG c (ss.drop (k+1)) (k+1)by rw[ed];simp[jG,q]));clear ed hs HE;go_wp2
   go_round
   case rel=>exact⟨k+1,by go_num,by omega,HF⟩
   case measure=>simp[intOf];omega
  obtain⟨ao,cap,c2⟩:=h.len;have HF:=hid (HE.out.trans (show _=(-2:Int)by rw[List.drop_eq_nil_of_le (by omega)];rfl))
  have hge:¬(k:Int)<(ss.length:Int):=by omega
  clear HE;go_wp2;go_ret;exact⟨by rw[HF.out];rfl,rfl⟩
theorem nu(parent:Int)(h:mg w ob oo ss)(hl:ss.length<=1000):
 Calls prog 217 #[.pointer (some ⟨ob,oo,none⟩),.int .i64 parent] w λx w'=>x= .returned (.int .i64 (cH ss parent))/\w'=w:=by
 obtain⟨ao,cap,c2⟩:=h.len
 go_enter func217,ntmps217
 go_wp2_with fail
 go_loop [5] (λi=>∃k:Nat,i= .int .i64 k/\k<=ss.length/\Hid (cH ss parent=cM ss parent (ss.length-k) k)) (λi=>ss.length-(intOf i).toNat)
 case atStart=>exact⟨0,rfl,Nat.zero_le _,hid rfl⟩
 case round=>
  obtain⟨k,rfl,hk,HE⟩:=hrel;have E:=hid (iZ ob oo w ss k parent h hl)
  by_cases hlt:k<ss.length
  ·have hlt':(k:Int)<(ss.length:Int):=by omega
   have ef:ss.length-k=(ss.length-(k+1))+1:=by omega
   cases q:aB ss k parent with
   |true=>
    have HF:=hid (HE.out.trans (show _=((k:Nat):Int)by rw[ef];simp[cM,q]));rw[q]at E;clear ef HE
    go_wp2_with fail
    refine hm E ?_;rintro x w1 ⟨rfl,rfl⟩;go_wp2;go_ret;exact⟨by rw[HF.out];rfl,rfl⟩
   |false=>?_
   have HF:=hid (HE.out.trans (show _=cM ss parent (ss.length-(k+1)) (k+1)by rw[ef];simp[cM,q]));rw[q]at E;clear ef HE
   go_wp2_with fail
   refine hm E ?_;rintro x w1 ⟨rfl,rfl⟩;go_wp2
   go_round
   case rel=>exact⟨k+1,by go_num,by omega,HF⟩
   case measure=>simp[intOf];omega
  have HF:=hid (HE.out.trans (show _=(-2:Int)by rw[show ss.length-k=0 by omega];rfl))
  have hge:¬(k:Int)<(ss.length:Int):=by omega
  clear HE E
  go_wp2_with fail
  go_ret;exact⟨by rw[HF.out];rfl,rfl⟩
theorem Ro(k:Nat)(hlt:k<ss.length)(h:mg w ob oo ss)(hl:ss.length<=1000):
 Calls prog 159 #[.pointer (some ⟨ob,oo,none⟩),.int .i64 k] w λx w'=>x= .returned (.bool (kx ss k))/\w'=w:=by
 obtain⟨s,hs⟩:∃s,ss[k]? =some s:=⟨_,List.getElem?_eq_getElem hlt⟩
 obtain⟨g,cap,c2,a0,a1,a2,a3⟩:=h.at_ hs
 have hlt':(k:Int)<(ss.length:Int):=by omega
 have hsk:lM ss (k:Int)=some s:=hs;have E1:=hid (ky ob oo w ss s.parent h hl);have E2:=hid (nu ob oo w ss (k:Int) h hl)
 cases q5:s.kind==5 with
 |true=>
  rw[show kx ss k=(aA ss s.parent==3)by simp[kx,hsk,q5]];clear hs hsk h
  go_enter func159,ntmps159
  go_wp2_with fail
  refine hm E1 ?_;rintro x w1 ⟨rfl,rfl⟩;go_wp2;go_ret;exact⟨rfl,rfl⟩
 |false=>?_
 cases q4:s.kind==4 with
 |true=>
  rw[show kx ss k=(aA ss s.parent==3)by simp[kx,hsk,q5,q4]];clear hs hsk h
  go_enter func159,ntmps159
  go_wp2_with fail
  refine hm E1 ?_;rintro x w1 ⟨rfl,rfl⟩;go_wp2;go_ret;exact⟨rfl,rfl⟩
 |false=>?_
 cases q3:s.kind==3 with
 |true=>
  rw[show kx ss k=(cH ss k== -2)by simp[kx,hsk,q5,q4,q3]];clear hs hsk h
  go_enter func159,ntmps159
  go_wp2_with fail
  refine hm E2 ?_;rintro x w1 ⟨rfl,rfl⟩;go_wp2;go_ret;exact⟨rfl,rfl⟩
 |false=>?_
 cases q2:s.kind==2 with
 |true=>
  rw[show kx ss k=(cH ss k== -2)by simp[kx,hsk,q5,q4,q3,q2]];clear hs hsk h
  go_enter func159,ntmps159
  go_wp2_with fail
  refine hm E2 ?_;rintro x w1 ⟨rfl,rfl⟩;go_wp2;go_ret;exact⟨rfl,rfl⟩
 |false=>?_
 rw[show kx ss k=false by simp[kx,hsk,q5,q4,q3,q2]];clear hs hsk h E1 E2
 go_enter func159,ntmps159
 go_wp2;go_ret;exact⟨rfl,rfl⟩
theorem Az(h:mg w ob oo ss)(hl:ss.length<=1000):
 Calls prog 112 #[.pointer (some ⟨ob,oo,none⟩)] w λx w'=>x= .returned (.int .i64 (eM ss))/\w'=w:=by
 go_enter func112,ntmps112
 go_wp2_with fail
 go_loop [3] (λi=>∃k:Nat,i= .int .i64 k/\k<=ss.length/\Hid (eM ss=dI (λk s=>decide (Ch.place ss s.name<(k:Int))) (ss.drop k) k)) (λi=>ss.length-(intOf i).toNat)
 case atStart=>exact⟨0,rfl,Nat.zero_le _,hid rfl⟩
 case round=>
  obtain⟨k,rfl,hk,HE⟩:=hrel
  by_cases hlt:k<ss.length
  ·obtain⟨s,hs⟩:∃s,ss[k]? =some s:=⟨_,List.getElem?_eq_getElem hlt⟩
   obtain⟨g,cap,c2,a0,a1,a2,a3⟩:=h.at_ hs
   have hlt':(k:Int)<(ss.length:Int):=by omega
   have ed:ss.drop k=s::ss.drop (k+1):=by
    rw[List.drop_eq_getElem_cons hlt];congr 1;exact(List.getElem?_eq_some_iff.1 hs).2
   have E:=hid (kY ob oo w ss s.name h hl)
   cases q:decide (Ch.place ss s.name<(k:Int))with
   |true=>
    have HF:=hid (HE.out.trans (show _=s.pos by rw[ed];simp[dI];intro x;simp at q;omega));clear ed hs HE
    go_wp2_with fail
    refine hm E ?_;rintro x w1 ⟨rfl,rfl⟩;go_wp2;go_ret;exact⟨by rw[HF.out];rfl,rfl⟩
   |false=>?_
   have HF:=hid (HE.out.trans (show _=dI (λk s=>decide (Ch.place ss s.name<(k:Int))) (ss.drop (k+1)) (k+1)by rw[ed];simp[dI];intro x;simp at q;omega));clear ed hs HE
   go_wp2_with fail
   refine hm E ?_;rintro x w1 ⟨rfl,rfl⟩;go_wp2
   go_round
   case rel=>exact⟨k+1,by go_num,by omega,HF⟩
   case measure=>simp[intOf];omega
  obtain⟨ao,cap,c2⟩:=h.len;have HF:=hid (HE.out.trans (show _=(-2:Int)by rw[List.drop_eq_nil_of_le (by omega)];rfl))
  have hge:¬(k:Int)<(ss.length:Int):=by omega
  clear HE
  go_wp2_with fail
  go_ret;exact⟨by rw[HF.out];rfl,rfl⟩
theorem Ge(h:mg w ob oo ss)(hl:ss.length<=1000):
 Calls prog 113 #[.pointer (some ⟨ob,oo,none⟩)] w λx w'=>x= .returned (.int .i64 (g7 ss))/\w'=w:=by
 go_enter func113,ntmps113
 go_wp2_with fail
 go_loop [3] (λi=>∃k:Nat,i= .int .i64 k/\k<=ss.length/\Hid (g7 ss=dI (λk _=>kx ss k) (ss.drop k) k)) (λi=>ss.length-(intOf i).toNat)
 case atStart=>exact⟨0,rfl,Nat.zero_le _,hid rfl⟩
 case round=>
  obtain⟨k,rfl,hk,HE⟩:=hrel
  by_cases hlt:k<ss.length
  ·obtain⟨s,hs⟩:∃s,ss[k]? =some s:=⟨_,List.getElem?_eq_getElem hlt⟩
   obtain⟨g,cap,c2,a0,a1,a2,a3⟩:=h.at_ hs
   have hlt':(k:Int)<(ss.length:Int):=by omega
   have ed:ss.drop k=s::ss.drop (k+1):=by
    rw[List.drop_eq_getElem_cons hlt];congr 1;exact(List.getElem?_eq_some_iff.1 hs).2
   have E:=hid (Ro ob oo w ss k hlt h hl)
   cases q:kx ss k with
   |true=>
    have HF:=hid (HE.out.trans (show _=s.pos by rw[ed];simp[dI,q]));rw[q]at E;clear ed hs HE
    go_wp2_with fail
    refine hm E ?_;rintro x w1 ⟨rfl,rfl⟩;go_wp2;go_ret;exact⟨by rw[HF.out];rfl,rfl⟩
   |false=>?_
   have HF:=hid (HE.out.trans (show _=dI (λk _=>kx ss k) (ss.drop (k+1)) (k+1)by rw[ed];simp[dI,q]));rw[q]at E;clear ed hs HE
   go_wp2_with fail
   refine hm E ?_;rintro x w1 ⟨rfl,rfl⟩;go_wp2
   go_round
   case rel=>exact⟨k+1,by go_num,by omega,HF⟩
   case measure=>simp[intOf];omega
  obtain⟨ao,cap,c2⟩:=h.len;have HF:=hid (HE.out.trans (show _=(-2:Int)by rw[List.drop_eq_nil_of_le (by omega)];rfl))
  have hge:¬(k:Int)<(ss.length:Int):=by omega
  clear HE
  go_wp2_with fail
  go_ret;exact⟨by rw[HF.out];rfl,rfl⟩
end
theorem MJ(us:List Us)(k:Nat)(u:Us)(h:us[k]? =some u):
 (eF us)[k*2]? =some (.int .u8 u.name)/\(eF us)[k*2+1]? =some (.int .i64 u.pos):=by
 induction us generalizing k with
 |nil=>simp at h
 |cons a l ih=>?_
 cases k with
 |zero=>simp at h;subst h;simp[eF]
 |succ k=>?_
 have:=ih k (by simpa using h)
 have e:eF (a::l)=[.int .u8 a.name,.int .i64 a.pos]++eF l:=by simp[eF]
 rw[e]
 have q:∀j,([Value.int .u8 a.name,.int .i64 a.pos]++eF l)[(k+1)*2+j]? =(eF l)[k*2+j]?:=by
  intro j;rw[List.getElem?_append_right (by simp;omega)]
  congr 1
  simp;omega
 exact⟨by simpa using(q 0).trans (by simpa using this.1),(q 1).trans this.2⟩
namespace Ch
def judge(ss:List St)(us:List Us):Int×Int:=
 if 16<ss.length then(3,match ss[16]? with|some s=>s.pos|none=>0)
 else if eM ss != -2 then(4,eM ss)
 else if g7 ss != -2 then(5,g7 ss)
 else if cN ss us != -2 then(6,cN ss us)
 else(0,0)
end Ch
section
variable (ob oo:Nat) (w:World) (ss:List St)
theorem Gf(uv:Value)(us:List Us)(base:Nat)(ho:w.ownsRow base 242 2 uv us.length (eF us))(hu:us.length<=1000)(h:mg w ob oo ss)(hl:ss.length<=1000):
 Calls prog 114 #[.pointer (some ⟨ob,oo,none⟩),uv] w λx w'=>x= .returned (.int .i64 (cN ss us))/\w'=w:=by
 obtain⟨ao,cap,rfl⟩:=aF ho
 go_enter func114,ntmps114
 go_wp2_with fail
 go_loop [5] (λi=>∃k:Nat,i= .int .i64 k/\k<=us.length/\Hid (cN ss us=cN ss (us.drop k))) (λi=>us.length-(intOf i).toNat)
 case atStart=>exact⟨0,rfl,Nat.zero_le _,hid rfl⟩
 case round=>
  obtain⟨k,rfl,hk,HE⟩:=hrel
  by_cases hlt:k<us.length
  ·obtain⟨u,hs⟩:∃s,us[k]? =some s:=⟨_,List.getElem?_eq_getElem hlt⟩
   obtain⟨g,cap',hg⟩:=gD ho (by omega);simp only[Value.slice.injEq,true_and]at hg;obtain⟨rfl,rfl⟩:=hg;obtain⟨z0,z1⟩:=MJ us k u hs;have a0:=(ho.cellAt (k*2) (by omega)).trans z0;have a1:=(ho.cellAt (k*2+1) (by omega)).trans z1
   have hlt':(k:Int)<(us.length:Int):=by omega
   have ed:us.drop k=u::us.drop (k+1):=by
    rw[List.drop_eq_getElem_cons hlt];congr 1;exact(List.getElem?_eq_some_iff.1 hs).2
   have E:=hid (kY ob oo w ss u.name h hl)
   cases q:Ch.place ss u.name== -2 with
   |true=>
    have HF:=hid (HE.out.trans (show _=u.pos by rw[ed];simp[cN,q]));clear ed hs HE ho z0 z1
    go_wp2_with fail
    refine hm E ?_;rintro x w1 ⟨rfl,rfl⟩;go_wp2;go_ret;exact⟨by rw[HF.out];rfl,rfl⟩
   |false=>?_
   have HF:=hid (HE.out.trans (show _=cN ss (us.drop (k+1))by rw[ed];simp[cN,q]));clear ed hs HE ho z0 z1
   go_wp2_with fail
   refine hm E ?_;rintro x w1 ⟨rfl,rfl⟩;go_wp2
   go_round
   case rel=>exact⟨k+1,by go_num,by omega,HF⟩
   case measure=>simp[intOf];omega
  have HF:=hid (HE.out.trans (show _=(-2:Int)by rw[List.drop_eq_nil_of_le (by omega)];rfl))
  have hge:¬(k:Int)<(us.length:Int):=by omega
  clear HE
  go_wp2_with fail
  go_ret;exact⟨by rw[HF.out];rfl,rfl⟩
theorem mg.keep{ob oo:Nat}{w w':World}{ss:List St}{S:Nat->Prop}(h:mg w ob oo ss)(k:Kp S w w')(h1:¬S ob)(h2:∀i cur,w.heap[i]? =some (.cells cur 155 (0,0))->¬S i):mg w' ob oo ss:=by
 obtain⟨sv,base,hc,ho⟩:=h;refine⟨sv,base,?_,k.owns ho (λi hi=>by obtain⟨cur,hg⟩:=br ho hi;exact h2 i cur hg)⟩;rw[World.cell?_of_block (k.block ob (World.block_lt_of_cell? w _ hc) h1)];exact hc
theorem mg.alloc{ob oo:Nat}{w:World}{ss:List St}(h:mg w ob oo ss)(o:Obj):mg (w.alloc o) ob oo ss:=
 h.keep (S:=λ_=>False) ((Kp.refl _ _).alloc _) (λx=>x) (λ_ _ _ x=>x)
theorem D2(uv:Value)(us:List Us)(base:Nat)(ho:w.ownsRow base 242 2 uv us.length (eF us))(hu:us.length<=1000)(h:mg w ob oo ss)(hl:ss.length<=1000):
 Calls prog 69 #[.pointer (some ⟨ob,oo,none⟩),uv] w λx w'=>x= .returned (.agg #[.int .i64 (judge ss us).1,.int .i64 (judge ss us).2])/\Kp (λ_=>False) w w':=by
 have ha:=h.alloc (.cells #[.int .i64 0,.int .i64 0] 145);have hoa:=ho.alloc (.cells #[.int .i64 0,.int .i64 0] 145);clear h ho
 by_cases h16:16<ss.length
 ·obtain⟨s,hs⟩:∃s,ss[16]? =some s:=⟨_,List.getElem?_eq_getElem h16⟩
  obtain⟨g,cap,c2,a0,a1,a2,a3⟩:=ha.at_ hs;simp only[Nat.reduceMul,Nat.reduceAdd]at a0 a1 a2 a3
  have xS:(16:Int)<(ss.length:Int):=by omega
  rw[show judge ss us=(3,s.pos)by unfold judge;rw[if_pos h16,hs]];clear hs ha hoa
  go_enter func69,ntmps69
  go_wp2_with fail
  exact bodyPost_ret (v:=.agg #[.int .i64 3,.int .i64 s.pos]) (by simp[results,Tryz.results69,go_sem]) rfl ⟨rfl,(Kp.refl _ _).alloc _⟩
 have xS:¬(16:Int)<(ss.length:Int):=by omega
 obtain⟨ao,cap,c2⟩:=ha.len;have E1:=hid (Az ob oo _ ss ha hl);have E2:=hid (Ge ob oo _ ss ha hl);have E3:=hid (Gf ob oo _ ss uv us base hoa hu ha hl);clear ha hoa
 cases q1:eM ss != -2 with
 |true=>
  rw[show judge ss us=(4,eM ss)by unfold judge;rw[if_neg h16,if_pos q1]]
  go_enter func69,ntmps69
  go_wp2_with fail
  refine hm E1 ?_;rintro x w1 ⟨rfl,rfl⟩
  go_wp2_with fail
  exact bodyPost_ret (v:=.agg #[.int .i64 4,.int .i64 (eM ss)]) (by simp[results,Tryz.results69,go_sem]) rfl ⟨rfl,(Kp.refl _ _).alloc _⟩
 |false=>?_
 have q1':¬(eM ss != -2)=true:=by simp[q1]
 cases q2:g7 ss != -2 with
 |true=>
  rw[show judge ss us=(5,g7 ss)by unfold judge;rw[if_neg h16,if_neg q1',if_pos q2]];clear q1'
  go_enter func69,ntmps69
  go_wp2_with fail
  refine hm E1 ?_;rintro x w1 ⟨rfl,rfl⟩
  go_wp2_with fail
  refine hm E2 ?_;rintro x w1 ⟨rfl,rfl⟩
  go_wp2_with fail
  exact bodyPost_ret (v:=.agg #[.int .i64 5,.int .i64 (g7 ss)]) (by simp[results,Tryz.results69,go_sem]) rfl ⟨rfl,(Kp.refl _ _).alloc _⟩
 |false=>?_
 have q2':¬(g7 ss != -2)=true:=by simp[q2]
 cases q3:cN ss us != -2 with
 |true=>
  rw[show judge ss us=(6,cN ss us)by unfold judge;rw[if_neg h16,if_neg q1',if_neg q2',if_pos q3]];clear q1' q2'
  go_enter func69,ntmps69
  go_wp2_with fail
  refine hm E1 ?_;rintro x w1 ⟨rfl,rfl⟩
  go_wp2_with fail
  refine hm E2 ?_;rintro x w1 ⟨rfl,rfl⟩
  go_wp2_with fail
  refine hm E3 ?_;rintro x w1 ⟨rfl,rfl⟩
  go_wp2_with fail
  exact bodyPost_ret (v:=.agg #[.int .i64 6,.int .i64 (cN ss us)]) (by simp[results,Tryz.results69,go_sem]) rfl ⟨rfl,(Kp.refl _ _).alloc _⟩
 |false=>?_
 have q3':¬(cN ss us != -2)=true:=by simp[q3]
 rw[show judge ss us=(0,0)by unfold judge;rw[if_neg h16,if_neg q1',if_neg q2',if_neg q3']];clear q1' q2' q3'
 go_enter func69,ntmps69
 go_wp2_with fail
 refine hm E1 ?_;rintro x w1 ⟨rfl,rfl⟩
 go_wp2_with fail
 refine hm E2 ?_;rintro x w1 ⟨rfl,rfl⟩
 go_wp2_with fail
 refine hm E3 ?_;rintro x w1 ⟨rfl,rfl⟩
 go_wp2_with fail
 exact bodyPost_ret (v:=.agg #[.int .i64 0,.int .i64 0]) (by simp[results,Tryz.results69,go_sem]) rfl ⟨rfl,(Kp.refl _ _).alloc _⟩
end
namespace Ch
def r0:Rs:=⟨0,[],[],[],[]⟩
theorem u9(t:ByteArray):Ok t r0:=⟨⟨Nat.le_refl _,Nat.le_refl _,Nat.le_refl _,Nat.le_refl _⟩,Nat.zero_le _⟩
def chart(t:ByteArray):Bool×Rs:=
 if af t 0==40||af t 0==91 then
  if(aK t (an t (t.size+1)) (-1) r0).1 then((((aK t (an t (t.size+1)) (-1) r0).2.pos:Int)==(t.size:Int)),(aK t (an t (t.size+1)) (-1) r0).2)
  else(false,(aK t (an t (t.size+1)) (-1) r0).2)
 else(false,r0)
structure Ol where
 ag:List St
 bG:List Tr
 dz:List Bl
def read(t:ByteArray):Int×Int×Ol:=
 if 240<t.size then(1,0,⟨[],[],[]⟩)
 else if(chart t).1 then
  if(judge (chart t).2.ag (chart t).2.uses).1==0 then(0,0,⟨(chart t).2.ag,(chart t).2.bG,(chart t).2.dz⟩)
  else((judge (chart t).2.ag (chart t).2.uses).1,(judge (chart t).2.ag (chart t).2.uses).2,⟨[],[],[]⟩)
 else(2,(chart t).2.pos,⟨[],[],[]⟩)
theorem IK(t:ByteArray):Ok t (chart t).2:=by
 unfold chart
 split
 ·rename_i q
  have hlt:0<t.size:=by
   rcases Nat.lt_or_ge 0 t.size with x|x
   ·exact x
   rw[b_ x]at q;simp at q
  have hs:=iy (λa c s hc hs=>jt (t.size+1) a c s hc hs) (-1) (r:=r0) hlt (u9 t)
  split
  ·exact hs.1
  exact hs.1
 exact u9 t
end Ch
structure AB(w:World)(B:Nat)(o:Ol)(sv tv bv:Value)(lt:List (Tr×Value))(lb:List (Bl×Value)):Prop where
 ag:w.ownsRow B 155 4 sv o.ag.length (dL o.ag)
 Iw:lt.map (·.1)=o.bG
 bG:w.ownsRow B 209 7 tv lt.length (qZ lt)
 iX:∀x∈lt,w.ownsRow B 255 3 x.2 x.1.acts.length (fD x.1.acts)
 Mj:lb.map (·.1)=o.dz
 dz:w.ownsRow B 282 3 bv lb.length (q_ lb)
 rh:∀x∈lb,w.ownsRow B 255 3 x.2 x.1.acts.length (fD x.1.acts)
section
variable (B b:Nat) (t:ByteArray) (w:World)
theorem Rr(H:Rd w B b t Ch.r0)(ht:t.size<=240):
 Calls prog 68 #[.pointer (some ⟨b,0,none⟩)] w λx w'=>x= .returned (.bool (Ch.chart t).1)/\Rd w' B b t (Ch.chart t).2/\Below B w w':=by
 obtain⟨sv,tv,bv,uv,lt,lb,h⟩:=H
 cases sT:af t 0==40 with
 |true=>
  have hlt:0<t.size:=cL (c:=40) (by omega) sT
  have n40:(af t 0 !=40)=false:=by simpa using sT
  cases q1:(aK t (an t (t.size+1)) (-1) Ch.r0).1 with
  |false=>
   rw[show Ch.chart t=(false,(aK t (an t (t.size+1)) (-1) Ch.r0).2)by simp[Ch.chart,sT,q1]];have q1:=hid q1;clear sT
   go_enter func68,ntmps68
   go_wp2_with fail
   refine(aV b t 0 _ h.blk.text h.blk.pos).mono ?_;rintro x w1 ⟨rfl,n1,rfl⟩;have K1:Kp (λk=>k=b) w (w.drewN n1):=(Kp.refl _ _).drewN _;have F1:=h.move K1 (λ_ _ x=>x) (h.blk.drewN n1);have B1:Below B w (w.drewN n1):=K1.below h.bp (λk x=>h.low (Or.inl x));generalize w.drewN n1=w1 at K1 F1 B1⊢;clear K1 h
   go_wp2_with fail
   have E:=gC B b t (t.size+1) (uo B b t ht _) w1 Ch.r0 (-1) ⟨_,_,_,_,_,_,F1⟩ (u9 t) hlt (by show t.size<=t.size+1+0;omega) ht;rw[q1.out]at E;refine Calls.mono E ?_;rintro x w2 ⟨rfl,R2,B2⟩;have B3:=B1.trans B2;clear E F1 B1 B2;go_wp2;go_ret;exact⟨rfl,R2,B3⟩
  |true=>?_
  rw[show Ch.chart t=((((aK t (an t (t.size+1)) (-1) Ch.r0).2.pos:Int)==(t.size:Int)),(aK t (an t (t.size+1)) (-1) Ch.r0).2)by simp[Ch.chart,sT,q1]];have q1:=hid q1;clear sT
  go_enter func68,ntmps68
  go_wp2_with fail
  refine(aV b t 0 _ h.blk.text h.blk.pos).mono ?_;rintro x w1 ⟨rfl,n1,rfl⟩;have K1:Kp (λk=>k=b) w (w.drewN n1):=(Kp.refl _ _).drewN _;have F1:=h.move K1 (λ_ _ x=>x) (h.blk.drewN n1);have B1:Below B w (w.drewN n1):=K1.below h.bp (λk x=>h.low (Or.inl x));generalize w.drewN n1=w1 at K1 F1 B1⊢;clear K1 h
  go_wp2_with fail
  have E:=gC B b t (t.size+1) (uo B b t ht _) w1 Ch.r0 (-1) ⟨_,_,_,_,_,_,F1⟩ (u9 t) hlt (by show t.size<=t.size+1+0;omega) ht;rw[q1.out]at E;refine Calls.mono E ?_;rintro x w2 ⟨rfl,R2,B2⟩;have B3:=B1.trans B2;clear E F1 B1 B2;obtain⟨sv2,tv2,bv2,uv2,lt2,lb2,F2⟩:=R2;have c0:=F2.blk.text;have c1:=F2.blk.pos;have HH:=hid (ae F2 B3);clear F2 B3;go_wp2
  go_quiet (fail)
  go_wp2;go_ret;obtain⟨F2,B3⟩:=HH.out;have K4:Kp (λk=>k=b) w2 (w2.drewN nq):=(Kp.refl _ _).drewN _;exact⟨rfl,⟨_,_,_,_,_,_,F2.move K4 (λ_ _ x=>x) (F2.blk.drewN _)⟩,B3.trans (K4.below F2.bp (λk x=>F2.low (Or.inl x)))⟩
 |false=>?_
 have n40:(af t 0 !=40)=true:=by simpa using sT
 cases xH:af t 0==91 with
 |true=>
  have hlt:0<t.size:=cL (c:=91) (by omega) xH
  have n91:(af t 0 !=91)=false:=by simpa using xH
  cases q1:(aK t (an t (t.size+1)) (-1) Ch.r0).1 with
  |false=>
   rw[show Ch.chart t=(false,(aK t (an t (t.size+1)) (-1) Ch.r0).2)by simp[Ch.chart,sT,xH,q1]];have q1:=hid q1;clear sT xH
   go_enter func68,ntmps68
   go_wp2_with fail
   refine(aV b t 0 _ h.blk.text h.blk.pos).mono ?_;rintro x w1 ⟨rfl,n1,rfl⟩;have K1:Kp (λk=>k=b) w (w.drewN n1):=(Kp.refl _ _).drewN _;have F1:=h.move K1 (λ_ _ x=>x) (h.blk.drewN n1);have B1:Below B w (w.drewN n1):=K1.below h.bp (λk x=>h.low (Or.inl x));generalize w.drewN n1=w1 at K1 F1 B1⊢;clear K1 h
   go_wp2_with fail
   have E:=gC B b t (t.size+1) (uo B b t ht _) w1 Ch.r0 (-1) ⟨_,_,_,_,_,_,F1⟩ (u9 t) hlt (by show t.size<=t.size+1+0;omega) ht;rw[q1.out]at E;refine Calls.mono E ?_;rintro x w2 ⟨rfl,R2,B2⟩;have B3:=B1.trans B2;clear E F1 B1 B2;go_wp2;go_ret;exact⟨rfl,R2,B3⟩
  |true=>?_
  rw[show Ch.chart t=((((aK t (an t (t.size+1)) (-1) Ch.r0).2.pos:Int)==(t.size:Int)),(aK t (an t (t.size+1)) (-1) Ch.r0).2)by simp[Ch.chart,sT,xH,q1]];have q1:=hid q1;clear sT xH
  go_enter func68,ntmps68
  go_wp2_with fail
  refine(aV b t 0 _ h.blk.text h.blk.pos).mono ?_;rintro x w1 ⟨rfl,n1,rfl⟩;have K1:Kp (λk=>k=b) w (w.drewN n1):=(Kp.refl _ _).drewN _;have F1:=h.move K1 (λ_ _ x=>x) (h.blk.drewN n1);have B1:Below B w (w.drewN n1):=K1.below h.bp (λk x=>h.low (Or.inl x));generalize w.drewN n1=w1 at K1 F1 B1⊢;clear K1 h
  go_wp2_with fail
  have E:=gC B b t (t.size+1) (uo B b t ht _) w1 Ch.r0 (-1) ⟨_,_,_,_,_,_,F1⟩ (u9 t) hlt (by show t.size<=t.size+1+0;omega) ht;rw[q1.out]at E;refine Calls.mono E ?_;rintro x w2 ⟨rfl,R2,B2⟩;have B3:=B1.trans B2;clear E F1 B1 B2;obtain⟨sv2,tv2,bv2,uv2,lt2,lb2,F2⟩:=R2;have c0:=F2.blk.text;have c1:=F2.blk.pos;have HH:=hid (ae F2 B3);clear F2 B3;go_wp2
  go_quiet (fail)
  go_wp2;go_ret;obtain⟨F2,B3⟩:=HH.out;have K4:Kp (λk=>k=b) w2 (w2.drewN nq):=(Kp.refl _ _).drewN _;exact⟨rfl,⟨_,_,_,_,_,_,F2.move K4 (λ_ _ x=>x) (F2.blk.drewN _)⟩,B3.trans (K4.below F2.bp (λk x=>F2.low (Or.inl x)))⟩
 |false=>?_
 rw[show Ch.chart t=(false,Ch.r0)by simp[Ch.chart,sT,xH]]
 have n91:(af t 0 !=91)=true:=by simpa using xH
 clear sT xH
 go_enter func68,ntmps68
 go_wp2_with fail
 refine(aV b t 0 _ h.blk.text h.blk.pos).mono ?_;rintro x w1 ⟨rfl,n1,rfl⟩;have K1:Kp (λk=>k=b) w (w.drewN n1):=(Kp.refl _ _).drewN _;have F1:=h.move K1 (λ_ _ x=>x) (h.blk.drewN n1);have B1:Below B w (w.drewN n1):=K1.below h.bp (λk x=>h.low (Or.inl x));generalize w.drewN n1=w1 at K1 F1 B1⊢;clear K1 h;go_wp2;go_ret;exact⟨rfl,⟨_,_,_,_,_,_,F1⟩,B1⟩
end
theorem AB.nil(w:World)(B:Nat):AB w B ⟨[],[],[]⟩ (.slice none 0 0) (.slice none 0 0) (.slice none 0 0) [] []:=
 ⟨World.ownsRow_nil _ _ _ _,rfl,World.ownsRow_nil _ _ _ _,by simp,rfl,World.ownsRow_nil _ _ _ _,by simp⟩
def xP(w:World)(b:Nat)(v0 v1 v2 v3 v4:Value):World:=
 ((((w.setCell ⟨b,0,none⟩ v0).setCell ⟨b,1,none⟩ v1).setCell ⟨b,2,none⟩ v2).setCell ⟨b,3,none⟩ v3).setCell ⟨b,4,none⟩ v4
theorem xT{w:World}{b:Nat}{c0 c1 c2 c3 c4:Value}{T:TypeId}(h:w.heap[b]? =some (.cells #[c0,c1,c2,c3,c4] T (0,0)))(v0 v1 v2 v3 v4:Value):
 (xP w b v0 v1 v2 v3 v4).heap[b]? =some (.cells #[v0,v1,v2,v3,v4] T (0,0)):=by
 unfold xP;rw[ah _ (ah _ (ah _ (ah _ (ah _ h))))];rfl
theorem Gg(w:World)(b:Nat)(v0 v1 v2 v3 v4:Value):Kp (λk=>k=b) w (xP w b v0 v1 v2 v3 v4):=
 ((((((Kp.refl _ _).setCell (by intro _;rfl) _).setCell (by intro _;rfl) _).setCell (by intro _;rfl) _).setCell (by intro _;rfl) _).setCell (by intro _;rfl) _)
section
variable (t:ByteArray) (w:World)
theorem sU:
 Calls prog 42 #[.string t] w λx w'=>∃sv tv bv lt lb,x= .returned (.agg #[.int .i64 (Ch.read t).1,.int .i64 (Ch.read t).2.1,sv,tv,bv])/\AB w' w.heap.size (Ch.read t).2.2 sv tv bv lt lb/\Below w.heap.size w w':=by
 by_cases hbig:240<t.size
 ·rw[show Ch.read t=(1,0,⟨[],[],[]⟩)by unfold Ch.read;rw[if_pos hbig]]
  have hb':(240:Int)<(t.size:Int):=by omega
  go_enter func42,ntmps42
  go_wp2_with fail
  exact bodyPost_ret (v:=.agg #[.int .i64 1,.int .i64 0,.slice none 0 0,.slice none 0 0,.slice none 0 0]) (by simp[results,Tryz.results42,go_sem]) rfl ⟨_,_,_,_,_,rfl,AB.nil _ _,(Below.refl _ _).alloc (Nat.le_refl _) _⟩
 have hb':¬(240:Int)<(t.size:Int):=by omega
 have ht:t.size<=240:=by omega
 have hok:=IK t
 have H1:Rd ((w.alloc (.cells #[.int .i64 0,.int .i64 0,.slice none 0 0,.slice none 0 0,.slice none 0 0] 87)).alloc (.cells #[.string t,.int .i64 0,.int .i64 0,.int .i64 0,.slice none 0 0,.slice none 0 0,.slice none 0 0,.slice none 0 0] 143)) (w.heap.size+1) (w.heap.size+1) t Ch.r0:=by
  refine⟨.slice none 0 0,.slice none 0 0,.slice none 0 0,.slice none 0 0,[],[],?_,World.ownsRow_nil _ _ _ _,rfl,World.ownsRow_nil _ _ _ _,by simp,rfl,World.ownsRow_nil _ _ _ _,by simp,World.ownsRow_nil _ _ _ _,Nat.le_refl _⟩;have e:=heap_alloc_new (w.alloc (.cells #[.int .i64 0,.int .i64 0,.slice none 0 0,.slice none 0 0,.slice none 0 0] 87)) (.cells #[.string t,.int .i64 0,.int .i64 0,.int .i64 0,.slice none 0 0,.slice none 0 0,.slice none 0 0,.slice none 0 0] 143);rw[World.size_alloc]at e;exact e
 have hr1:((w.alloc (.cells #[.int .i64 0,.int .i64 0,.slice none 0 0,.slice none 0 0,.slice none 0 0] 87)).alloc (.cells #[.string t,.int .i64 0,.int .i64 0,.int .i64 0,.slice none 0 0,.slice none 0 0,.slice none 0 0,.slice none 0 0] 143)).heap[w.heap.size]? =some (.cells #[.int .i64 0,.int .i64 0,.slice none 0 0,.slice none 0 0,.slice none 0 0] 87):=by
  rw[Below.heap_alloc _ _ _ (by simp)];exact heap_alloc_new _ _
 have B1:Below w.heap.size w ((w.alloc (.cells #[.int .i64 0,.int .i64 0,.slice none 0 0,.slice none 0 0,.slice none 0 0] 87)).alloc (.cells #[.string t,.int .i64 0,.int .i64 0,.int .i64 0,.slice none 0 0,.slice none 0 0,.slice none 0 0,.slice none 0 0] 143)):=((Below.refl _ _).alloc (Nat.le_refl _) _).alloc (by simp) _;have E:=hid (Rr (w.heap.size+1) (w.heap.size+1) t ((w.alloc (.cells #[.int .i64 0,.int .i64 0,.slice none 0 0,.slice none 0 0,.slice none 0 0] 87)).alloc (.cells #[.string t,.int .i64 0,.int .i64 0,.int .i64 0,.slice none 0 0,.slice none 0 0,.slice none 0 0,.slice none 0 0] 143)) H1 ht);clear H1
 cases q1:(Ch.chart t).1 with
 |false=>
  rw[show Ch.read t=(2,((Ch.chart t).2.pos:Int),Ol.mk [] [] [])by unfold Ch.read;rw[if_neg hbig];simp[q1]];rw[q1]at E;have HX:=hid (ae hr1 B1);clear hr1 B1 hbig q1
  go_enter func42,ntmps42
  go_wp2_with fail
  refine hm E ?_;rintro x w2 ⟨rfl,⟨sv,tv,bv,uv,lt,lb,F2⟩,B2⟩;have hr2:w2.heap[w.heap.size]? =some (.cells #[.int .i64 0,.int .i64 0,.slice none 0 0,.slice none 0 0,.slice none 0 0] 87):=(B2.block _ (by omega)).trans HX.out.1;have B3:=HX.out.2.trans (B2.mono (Nat.le_succ _));have c1:=F2.blk.pos
  have r0:w2.cell? ⟨w.heap.size,0,none⟩=some (.int .i64 0):=by simp[World.cell?,hr2]
  have r1:w2.cell? ⟨w.heap.size,1,none⟩=some (.int .i64 0):=by simp[World.cell?,hr2]
  have r2:w2.cell? ⟨w.heap.size,2,none⟩=some (.slice none 0 0):=by simp[World.cell?,hr2]
  have r3:w2.cell? ⟨w.heap.size,3,none⟩=some (.slice none 0 0):=by simp[World.cell?,hr2]
  have r4:w2.cell? ⟨w.heap.size,4,none⟩=some (.slice none 0 0):=by simp[World.cell?,hr2]
  have fr:∀i,w2.frozen? ⟨w.heap.size,i,none⟩=false:=by intro i;simp[World.frozen?,hr2]
  have vi:=hid (ae hr2 (ae F2 B3));clear HX E hr2 F2 B2 B3;go_wp2;obtain⟨hr2,F2,B3⟩:=vi.out;have D3:=xT hr2 (.int .i64 2) (.int .i64 ((Ch.chart t).2.pos:Int)) (.slice none 0 0) (.slice none 0 0) (.slice none 0 0);have KW:=Gg w2 w.heap.size (.int .i64 2) (.int .i64 ((Ch.chart t).2.pos:Int)) (.slice none 0 0) (.slice none 0 0) (.slice none 0 0)
  change bodyPost _ _ _ _ _ (xP w2 w.heap.size (.int .i64 2) (.int .i64 ((Ch.chart t).2.pos:Int)) (.slice none 0 0) (.slice none 0 0) (.slice none 0 0))
  generalize xP w2 w.heap.size (.int .i64 2) (.int .i64 ((Ch.chart t).2.pos:Int)) (.slice none 0 0) (.slice none 0 0) (.slice none 0 0)=wz at D3 KW⊢
  have z0:wz.cell? ⟨w.heap.size,0,none⟩=some (.int .i64 2):=by simp[World.cell?,D3]
  have z1:wz.cell? ⟨w.heap.size,1,none⟩=some (.int .i64 ((Ch.chart t).2.pos:Int)):=by simp[World.cell?,D3]
  have z2:wz.cell? ⟨w.heap.size,2,none⟩=some (.slice none 0 0):=by simp[World.cell?,D3]
  have z3:wz.cell? ⟨w.heap.size,3,none⟩=some (.slice none 0 0):=by simp[World.cell?,D3]
  have z4:wz.cell? ⟨w.heap.size,4,none⟩=some (.slice none 0 0):=by simp[World.cell?,D3]
  have BW:Below w.heap.size w wz:=B3.trans (KW.below (by have:=B3.size;omega) (λk x=>by omega));refine bodyPost_ret (v:=.agg #[.int .i64 2,.int .i64 ((Ch.chart t).2.pos:Int),.slice none 0 0,.slice none 0 0,.slice none 0 0]) (by simp[results,Tryz.results42,go_sem,z0,z1,z2,z3,z4]) rfl ?_;exact⟨_,_,_,_,_,rfl,AB.nil _ _,BW⟩
 |true=>?_
 obtain⟨⟨d1,d2,d3,d4⟩,d5⟩:=hok;have HX:=hid (ae hr1 B1);rw[q1]at E;clear hr1 B1
 cases q2:(judge (Ch.chart t).2.ag (Ch.chart t).2.uses).1==0 with
 |false=>
  rw[show Ch.read t=((judge (Ch.chart t).2.ag (Ch.chart t).2.uses).1,(judge (Ch.chart t).2.ag (Ch.chart t).2.uses).2,Ol.mk [] [] [])by unfold Ch.read;rw[if_neg hbig];simp[q1,q2]];have q2:=hid q2;clear q1 hbig
  go_enter func42,ntmps42
  go_wp2_with fail
  refine hm E ?_;rintro x w2 ⟨rfl,⟨sv,tv,bv,uv,lt,lb,F2⟩,B2⟩;have hr2:w2.heap[w.heap.size]? =some (.cells #[.int .i64 0,.int .i64 0,.slice none 0 0,.slice none 0 0,.slice none 0 0] 87):=(B2.block _ (by omega)).trans HX.out.1;have B3:=HX.out.2.trans (B2.mono (Nat.le_succ _));have c7:=F2.blk.c7;have vi:=hid (ae hr2 (ae F2 B3));clear HX E hr2 F2 B2 B3
  go_wp2_with fail
  obtain⟨hr2,F2,B3⟩:=vi.out;have EJ:=D2 (w.heap.size+1) 2 w2 (Ch.chart t).2.ag uv (Ch.chart t).2.uses _ F2.uses (by omega) ⟨_,_,F2.blk.c4,F2.ag⟩ (by omega);refine Calls.mono EJ ?_;rintro x w3 ⟨rfl,K3⟩;clear EJ vi c7;have hr3:w3.heap[w.heap.size]? =some (.cells #[.int .i64 0,.int .i64 0,.slice none 0 0,.slice none 0 0,.slice none 0 0] 87):=K3.at_ hr2 (λx=>x);have F3:=F2.move K3 (λ_ _ x=>x.elim) (F2.blk.keep K3 (λx=>x));have B4:=B3.trans (K3.below (by have:=B3.size;omega) (λk x=>x.elim));clear hr2 F2 B3 K3;generalize hjj:judge (Ch.chart t).2.ag (Ch.chart t).2.uses=jj at q2⊢;have HJ:=hid hjj;clear hjj;obtain⟨je,ja⟩:=jj
  have hra:∀o,(w3.alloc o).heap[w.heap.size]? =some (.cells #[.int .i64 0,.int .i64 0,.slice none 0 0,.slice none 0 0,.slice none 0 0] 87):=λo=>(Below.heap_alloc _ _ _ (lt_of_block hr3)).trans hr3
  have r0:∀o,(w3.alloc o).cell? ⟨w.heap.size,0,none⟩=some (.int .i64 0):=by intro o;simp[World.cell?,hra]
  have r1:∀o,(w3.alloc o).cell? ⟨w.heap.size,1,none⟩=some (.int .i64 0):=by intro o;simp[World.cell?,hra]
  have r2:∀o,(w3.alloc o).cell? ⟨w.heap.size,2,none⟩=some (.slice none 0 0):=by intro o;simp[World.cell?,hra]
  have r3:∀o,(w3.alloc o).cell? ⟨w.heap.size,3,none⟩=some (.slice none 0 0):=by intro o;simp[World.cell?,hra]
  have r4:∀o,(w3.alloc o).cell? ⟨w.heap.size,4,none⟩=some (.slice none 0 0):=by intro o;simp[World.cell?,hra]
  have fr:∀o i,(w3.alloc o).frozen? ⟨w.heap.size,i,none⟩=false:=by intro o i;simp[World.frozen?,hra]
  have qn:(je !=0)=true:=by have:=q2.out;simpa using this
  have sf:=hid (ae hra (ae F3 B4));clear hr3 hra F3 B4 q2;go_wp2;obtain⟨hra,F3,B4⟩:=sf.out;have hr2:=hra (.cells #[.int .i64 je,.int .i64 ja] 145);have B3:=B4.alloc (by have:=B4.size;omega) (.cells #[.int .i64 je,.int .i64 ja] 145);have D3:=xT hr2 (.int .i64 je) (.int .i64 ja) (.slice none 0 0) (.slice none 0 0) (.slice none 0 0);have KW:=Gg (w3.alloc (.cells #[.int .i64 je,.int .i64 ja] 145)) w.heap.size (.int .i64 je) (.int .i64 ja) (.slice none 0 0) (.slice none 0 0) (.slice none 0 0)
  change bodyPost _ _ _ _ _ (xP (w3.alloc (.cells #[.int .i64 je,.int .i64 ja] 145)) w.heap.size (.int .i64 je) (.int .i64 ja) (.slice none 0 0) (.slice none 0 0) (.slice none 0 0))
  generalize xP (w3.alloc (.cells #[.int .i64 je,.int .i64 ja] 145)) w.heap.size (.int .i64 je) (.int .i64 ja) (.slice none 0 0) (.slice none 0 0) (.slice none 0 0)=wz at D3 KW⊢
  have z0:wz.cell? ⟨w.heap.size,0,none⟩=some (.int .i64 je):=by simp[World.cell?,D3]
  have z1:wz.cell? ⟨w.heap.size,1,none⟩=some (.int .i64 ja):=by simp[World.cell?,D3]
  have z2:wz.cell? ⟨w.heap.size,2,none⟩=some (.slice none 0 0):=by simp[World.cell?,D3]
  have z3:wz.cell? ⟨w.heap.size,3,none⟩=some (.slice none 0 0):=by simp[World.cell?,D3]
  have z4:wz.cell? ⟨w.heap.size,4,none⟩=some (.slice none 0 0):=by simp[World.cell?,D3]
  have BW:Below w.heap.size w wz:=B3.trans (KW.below (by have:=B3.size;omega) (λk x=>by omega));refine bodyPost_ret (v:=.agg #[.int .i64 je,.int .i64 ja,.slice none 0 0,.slice none 0 0,.slice none 0 0]) (by simp[results,Tryz.results42,go_sem,z0,z1,z2,z3,z4]) rfl ?_;rw[HJ.out];exact⟨_,_,_,_,_,rfl,AB.nil _ _,BW⟩
 |true=>?_
 rw[show Ch.read t=(0,0,Ol.mk (Ch.chart t).2.ag (Ch.chart t).2.bG (Ch.chart t).2.dz)by unfold Ch.read;rw[if_neg hbig];simp[q1,q2]];have q2:=hid q2;clear q1 hbig
 go_enter func42,ntmps42
 go_wp2_with fail
 refine hm E ?_;rintro x w2 ⟨rfl,⟨sv,tv,bv,uv,lt,lb,F2⟩,B2⟩;have hr2:w2.heap[w.heap.size]? =some (.cells #[.int .i64 0,.int .i64 0,.slice none 0 0,.slice none 0 0,.slice none 0 0] 87):=(B2.block _ (by omega)).trans HX.out.1;have B3:=HX.out.2.trans (B2.mono (Nat.le_succ _));have c7:=F2.blk.c7;have vi:=hid (ae hr2 (ae F2 B3));clear HX E hr2 F2 B2 B3
 go_wp2_with fail
 obtain⟨hr2,F2,B3⟩:=vi.out;have EJ:=D2 (w.heap.size+1) 2 w2 (Ch.chart t).2.ag uv (Ch.chart t).2.uses _ F2.uses (by omega) ⟨_,_,F2.blk.c4,F2.ag⟩ (by omega);refine Calls.mono EJ ?_;rintro x w3 ⟨rfl,K3⟩;clear EJ vi c7;have hr3:w3.heap[w.heap.size]? =some (.cells #[.int .i64 0,.int .i64 0,.slice none 0 0,.slice none 0 0,.slice none 0 0] 87):=K3.at_ hr2 (λx=>x);have F3:=F2.move K3 (λ_ _ x=>x.elim) (F2.blk.keep K3 (λx=>x));have B4:=B3.trans (K3.below (by have:=B3.size;omega) (λk x=>x.elim));clear hr2 F2 B3 K3;generalize judge (Ch.chart t).2.ag (Ch.chart t).2.uses=jj at q2⊢;obtain⟨je,ja⟩:=jj
 have hra:∀o,(w3.alloc o).heap[w.heap.size]? =some (.cells #[.int .i64 0,.int .i64 0,.slice none 0 0,.slice none 0 0,.slice none 0 0] 87):=λo=>(Below.heap_alloc _ _ _ (lt_of_block hr3)).trans hr3
 have r0:∀o,(w3.alloc o).cell? ⟨w.heap.size,0,none⟩=some (.int .i64 0):=by intro o;simp[World.cell?,hra]
 have r1:∀o,(w3.alloc o).cell? ⟨w.heap.size,1,none⟩=some (.int .i64 0):=by intro o;simp[World.cell?,hra]
 have r2:∀o,(w3.alloc o).cell? ⟨w.heap.size,2,none⟩=some (.slice none 0 0):=by intro o;simp[World.cell?,hra]
 have r3:∀o,(w3.alloc o).cell? ⟨w.heap.size,3,none⟩=some (.slice none 0 0):=by intro o;simp[World.cell?,hra]
 have r4:∀o,(w3.alloc o).cell? ⟨w.heap.size,4,none⟩=some (.slice none 0 0):=by intro o;simp[World.cell?,hra]
 have fr:∀o i,(w3.alloc o).frozen? ⟨w.heap.size,i,none⟩=false:=by intro o i;simp[World.frozen?,hra]
 have qn:(je !=0)=false:=by have:=q2.out;simpa using this
 obtain⟨sa,sb,sc,rfl⟩:=ew F3.ag;obtain⟨ta,tb,tc,rfl⟩:=ew F3.bG;obtain⟨ba,bb,bc,rfl⟩:=ew F3.dz
 have m2:∀o,(w3.alloc o).cell? ⟨w.heap.size+1,2,none⟩=some (.int .i64 0):=λo=>(F3.blk.alloc o).c2
 have m3:∀o,(w3.alloc o).cell? ⟨w.heap.size+1,3,none⟩=some (.int .i64 0):=λo=>(F3.blk.alloc o).c3
 have m4:∀o,(w3.alloc o).cell? ⟨w.heap.size+1,4,none⟩=some (.slice sa sb sc):=λo=>(F3.blk.alloc o).c4
 have m5:∀o,(w3.alloc o).cell? ⟨w.heap.size+1,5,none⟩=some (.slice ta tb tc):=λo=>(F3.blk.alloc o).c5
 have m6:∀o,(w3.alloc o).cell? ⟨w.heap.size+1,6,none⟩=some (.slice ba bb bc):=λo=>(F3.blk.alloc o).c6
 have sf:=hid (ae hra (ae F3 B4));clear hr3 hra F3 B4 q2;go_wp2;obtain⟨hra,F3,B4⟩:=sf.out;have hr2:=hra (.cells #[.int .i64 je,.int .i64 ja] 145);have B3:=B4.alloc (by have:=B4.size;omega) (.cells #[.int .i64 je,.int .i64 ja] 145);have D3:=xT hr2 (.int .i64 0) (.int .i64 0) (.slice sa sb sc) (.slice ta tb tc) (.slice ba bb bc);have KW:=Gg (w3.alloc (.cells #[.int .i64 je,.int .i64 ja] 145)) w.heap.size (.int .i64 0) (.int .i64 0) (.slice sa sb sc) (.slice ta tb tc) (.slice ba bb bc)
 change bodyPost _ _ _ _ _ (xP (w3.alloc (.cells #[.int .i64 je,.int .i64 ja] 145)) w.heap.size (.int .i64 0) (.int .i64 0) (.slice sa sb sc) (.slice ta tb tc) (.slice ba bb bc))
 generalize xP (w3.alloc (.cells #[.int .i64 je,.int .i64 ja] 145)) w.heap.size (.int .i64 0) (.int .i64 0) (.slice sa sb sc) (.slice ta tb tc) (.slice ba bb bc)=wz at D3 KW⊢
 have z0:wz.cell? ⟨w.heap.size,0,none⟩=some (.int .i64 0):=by simp[World.cell?,D3]
 have z1:wz.cell? ⟨w.heap.size,1,none⟩=some (.int .i64 0):=by simp[World.cell?,D3]
 have z2:wz.cell? ⟨w.heap.size,2,none⟩=some (.slice sa sb sc):=by simp[World.cell?,D3]
 have z3:wz.cell? ⟨w.heap.size,3,none⟩=some (.slice ta tb tc):=by simp[World.cell?,D3]
 have z4:wz.cell? ⟨w.heap.size,4,none⟩=some (.slice ba bb bc):=by simp[World.cell?,D3]
 have BW:Below w.heap.size w wz:=B3.trans (KW.below (by have:=B3.size;omega) (λk x=>by omega));refine bodyPost_ret (v:=.agg #[.int .i64 0,.int .i64 0,.slice sa sb sc,.slice ta tb tc,.slice ba bb bc]) (by simp[results,Tryz.results42,go_sem,z0,z1,z2,z3,z4]) rfl ?_;have KZ:Kp (λk=>k=w.heap.size) w3 wz:=((Kp.refl _ _).alloc (.cells #[.int .i64 je,.int .i64 ja] 145)).trans KW
 have hS:∀{base e size v n xs},w3.ownsRow base e size v n xs->w.heap.size+1<=base->∀i,v.ownBlock=some i->¬i=w.heap.size:=by
  intro base e size v n xs ho hb i hi he;have:=(ho.lt i hi).1;omega
 have ok:∀{e size v n xs},w3.ownsRow (w.heap.size+1) e size v n xs->wz.ownsRow w.heap.size e size v n xs:=λho=>cO (KZ.owns ho (hS ho (Nat.le_refl _))) (Nat.le_succ _)
 exact⟨_,_,_,lt,lb,rfl,⟨ok F3.ag,F3.Iw,ok F3.bG,λx hx=>ok (F3.iX x hx),F3.Mj,ok F3.dz,λx hx=>ok (F3.rh x hx)⟩,BW⟩
end
theorem vj:(prog.info? 87).map (·.size)=some 5:=by kernel_rfl
theorem Kp.setRow{S:Nat->Prop}{a w:World}(h:Kp S a w){g:Nat}(hp:g<a.heap.size->S g)(cs:Array Value):Kp S a (w.setRow g cs):=
 h.trans' (S':=λk=>k=g) ⟨rfl,rfl,rfl,by simp,λk _ hn=>setRow_other _ _ _ _ hn⟩ (λi hi e=>by subst e;exact hp hi)
theorem kZ{w w':World}(b:Below w.heap.size w w'):Kp (λ_=>False) w w':=⟨b.os,b.tape,b.output,b.size,λk hk _=>b.block k hk⟩
def sV(e f:Int)(sv tv bv:Value):Array Value:=#[.int .i64 e,.int .i64 f,sv,tv,bv]
theorem IL{e f:Int}{sv tv bv:Value}(h1:sv.oneCell'=true)(h2:tv.oneCell'=true)(h3:bv.oneCell'=true):(sV e f sv tv bv).all (λx=>x.oneCell')=true:=by
 apply Array.all_eq_true_iff_forall_mem.2;intro x hx;simp only[sV,List.mem_toArray,List.mem_cons,List.not_mem_nil,or_false]at hx
 rcases hx with rfl|rfl|rfl|rfl|rfl<;>first|rfl|assumption
theorem fF{w:World}{base:Nat}{e:TypeId}{size:Nat}{v:Value}{n:Nat}{xs:List Value}(h:w.ownsRow base e size v n xs):v.oneCell'=true:=by
 obtain⟨a,m,c,rfl⟩:=ew h;rfl
section
variable (w:World)
theorem AD(t:ByteArray):
 Calls prog 47 #[.string t] w λx w'=>x= .returned (.tuple #[.int .i64 (Ch.read t).1,.int .i64 (Ch.read t).2.1])/\Kp (λ_=>False) w w':=by
 have E0:=hid (sU t w)
 go_enter func47,ntmps47
 go_wp2_with fail
 refine hm E0 ?_;rintro x w2 ⟨sv,tv,bv,lt,lb,rfl,F2,B2⟩;have K2:=kZ B2;have v_:=IL (e:=(Ch.read t).1) (f:=(Ch.read t).2.1) (fF F2.ag) (fF F2.bG) (fF F2.dz);have hnew:=heap_alloc_new w2 (.cells zy 87);have hrow:=setRow_heap (w2.alloc (.cells zy 87)) w2.heap.size _ (sV (Ch.read t).1 (Ch.read t).2.1 sv tv bv) 87 (0,0) hnew;have K3:Kp (λ_=>False) w ((w2.alloc (.cells zy 87)).setRow w2.heap.size (sV (Ch.read t).1 (Ch.read t).2.1 sv tv bv)):=(K2.alloc _).setRow (λx=>by have:=K2.size;omega) _;clear E0 B2 F2 K2
 go_upto_region 2 with(refine wpList_store_row rfl 87 (.tmp 4) (.tmp 6) rfl w2.heap.size (sV (Ch.read t).1 (Ch.read t).2.1 sv tv bv) rfl rfl 87 zy hnew vj rfl v_ ?_)
 generalize (w2.alloc (.cells zy 87)).setRow w2.heap.size (sV (Ch.read t).1 (Ch.read t).2.1 sv tv bv)=w3 at*;generalize w2.heap.size=ob at*
 have z0:w3.cell? ⟨ob,0,none⟩=some (.int .i64 (Ch.read t).1):=by rw[World.cell?,hrow];rfl
 have z1:w3.cell? ⟨ob,1,none⟩=some (.int .i64 (Ch.read t).2.1):=by rw[World.cell?,hrow];rfl
 clear hnew v_ hrow
 go_quiet (fail)
 go_wp2;go_ret2;exact⟨rfl,K3.drewN _⟩
end
namespace Ch
structure Wk where
 mode:Int
 open_:List Int
 close:Int
section
variable {t:ByteArray} {p:Nat} {o:List Int} {c:Int}
theorem AE(h:kf (af t p)=true):p<t.size:=by
 rcases Nat.lt_or_ge p t.size with h'|h'
 ·exact h'
 rw[b_ h']at h;simp[kf,bx]at h
theorem vk(h:jF (af t p)=true):p<t.size:=by
 rcases Nat.lt_or_ge p t.size with h'|h'
 ·exact h'
 rw[b_ h']at h;simp[jF,bx,bR]at h
end
theorem mH(x:Int)(h:isOpen x=true):x=40\/x=91\/x=60\/x=42:=by
 simp[isOpen]at h;omega
end Ch
theorem pA{α:Type}(l:List α)(i:Nat)(a:α):l.toArray.setIfInBounds i a=(l.set i a).toArray:=List.setIfInBounds_toArray ..
theorem pB{α:Type}(x:α)(l:List α)(i:Nat)(a:α):(x::l).set (i+1) a=x::l.set i a:=rfl
theorem pC{α:Type}(x:α)(l:List α)(a:α):(x::l).set 0 a=a::l:=rfl
section
variable {P:Program} {Q:Exit->Act->World->Prop} {S:World->Prop}
theorem az(S:World->Prop){id:Nat}{l:List Oper}{a:Act}{w:World}(hm:P.follows .mixedOrders=true)
 (h:wpAnyH P .any l.toArray (NoPanic Q) S l.length (Array.replicate l.length false) a w.drew):(Code.region id l.toArray true).wp P Q a w:=
 wp_region_noPanic (wp_region_held (S:=S) hm (by simpa using h))
theorem Zc{ops:Array Oper}(i d:Nat){oi:Oper}(v:Value){fuel:Nat}{listed:Array Bool}{a:Act}{w:World}(hi:ops[i]? =some oi)(hs:Region.noSelect ops=true)
 (hf:Region.free .any ops listed i=true) (hr:(Region.ready .any ops listed).contains i=true) (hg:oi.guard=none) (hd:oi.dst=some d) (hv:∀w',S w'->(execOp a.eval oi).run P w'= .ok (.value v) w') (hS:S w)
 (h:wpAnyH P .any ops (NoPanic Q) S fuel (listed.setIfInBounds i true) (a.put (some d) v) w):wpAnyH P .any ops (NoPanic Q) S (fuel+1) listed a w:=
 wpAnyH_take hi hs hf hr (λ_ _ _ h=>h) (.inl ⟨by simp[Region.wanted,hg],hv⟩) hS (by rw[hd];exact h)
theorem tk{ops:Array Oper}(i d:Nat){oi:Oper}(v:Value){fuel:Nat}{listed:Array Bool}{a:Act}{w:World}(hi:ops[i]? =some oi)(hb:(Region.noSelect ops&&Region.free .any ops listed i&&(Region.ready .any ops listed).contains i)=true)
 (hg:oi.guard=none) (hd:oi.dst=some d) (hv:∀w',S w'->(execOp a.eval oi).run P w'= .ok (.value v) w') (hS:S w)
 (h:wpAnyH P .any ops (NoPanic Q) S fuel (listed.setIfInBounds i true) (a.put (some d) v) w):wpAnyH P .any ops (NoPanic Q) S (fuel+1) listed a w:=by
 simp only[Bool.and_eq_true]at hb;exact Zc i d v hi hb.1.1 hb.1.2 hb.2 hg hd hv hS h
theorem ot{ops:Array Oper}(i:Nat){oi:Oper}{fuel:Nat}{listed:Array Bool}{a:Act}{w:World}(hr:Region.ready .any ops listed=[i])(hi:ops[i]? =some oi)(hg:oi.guard=none)
 (h:oi.wp P a w (λa' w'=>S w'/\wpAnyH P .any ops (NoPanic Q) S fuel (listed.setIfInBounds i true) a' w') (NoPanic Q)):wpAnyH P .any ops (NoPanic Q) S (fuel+1) listed a w:=
 wpAnyH_all hr (by simp) (λj hj=>by
  simp at hj;subst hj
  have hw:Region.wanted oi (yielded ops a.tmps)=true:=by simp[Region.wanted,hg]
  simp only[wpOp,hi,hw,if_true]
  exact .inl h)
end
section
variable {P:Program} {o:Oper} {a:Act} {w:World} {K:Act->World->Prop} {Q:Exit->Act->World->Prop}
theorem bS(d:Option Tmp)(hd:o.dst=d)(f:FuncId)(args:Array Value)(hrun:(execOp a.eval o).run P w= .ok (.enter f args) w)(v:Value)(R:World->Prop)
 (hc:Calls P f args w λe w'=>e= .returned v/\R w') (h:∀w',R w'->K (a.put d v) w'):o.wp P a w K Q:=by
 subst hd;unfold Oper.wp;rw[hrun,Oper.upon_enter]
 refine hc.mono λe w' hh=>?_
 obtain⟨rfl,hr⟩:=hh;exact h w' hr
theorem dZ(d:Option Tmp)(hd:o.dst=d)(v:Value)(w':World)(hrun:(execOp a.eval o).run P w= .ok (.value v) w')(h:K (a.put d v) w'):o.wp P a w K Q:=by
 subst hd;unfold Oper.wp;rw[hrun,Oper.upon_value];exact h
theorem k6{S:World->Prop}{ops:Array Oper}(i j:Nat){oi oj:Oper}{fuel:Nat}{listed:Array Bool}(hr:Region.ready .any ops listed=[i,j])(hi:ops[i]? =some oi)(hj:ops[j]? =some oj)(hgi:oi.guard=none)(hgj:oj.guard=none)
 (h1:oi.wp P a w (λa' w'=>S w'/\wpAnyH P .any ops (NoPanic Q) S fuel (listed.setIfInBounds i true) a' w') (NoPanic Q))
 (h2:oj.wp P a w (λa' w'=>S w'/\wpAnyH P .any ops (NoPanic Q) S fuel (listed.setIfInBounds j true) a' w') (NoPanic Q)):wpAnyH P .any ops (NoPanic Q) S (fuel+1) listed a w:=
 wpAnyH_all hr (by simp) (λk hk=>by
  simp only[List.mem_cons,List.not_mem_nil,or_false]at hk
  rcases hk with rfl|rfl
  ·have hw:Region.wanted oi (yielded ops a.tmps)=true:=by simp[Region.wanted,hgi]
   simp only[wpOp,hi,hw,if_true];exact .inl h1
  have hw:Region.wanted oj (yielded ops a.tmps)=true:=by simp[Region.wanted,hgj]
  simp only[wpOp,hj,hw,if_true]
  exact .inl h2)
end
section
variable {P:Program} {Q:Exit->Act->World->Prop} {S:World->Prop}
theorem aU{ops:Array Oper}(i d:Nat){oi:Oper}(v:Value){fuel:Nat}{listed:Array Bool}{a a':Act}{w:World}(hS:S w)
 (h:wpAnyH P .any ops (NoPanic Q) S fuel (listed.setIfInBounds i true) a' w) (hi:ops[i]? =some oi:=by exact rfl) (hb:(Region.noSelect ops&&Region.free .any ops listed i&&(Region.ready .any ops listed).contains i)=true:=by kernel_rfl)
 (hg:oi.guard=none:=by exact rfl) (hd:oi.dst=some d:=by exact rfl) (hv:∀w',S w'->(execOp a.eval oi).run P w'= .ok (.value v) w':=by intro w' _;simp[execOp,Act.eval,go_sem]) (ha:a.put (some d) v=a':=by(conv=>lhs;simp only[Act.put,pA,pB,pC]);all_goals exact rfl):wpAnyH P .any ops (NoPanic Q) S (fuel+1) listed a w:=
 tk i d v hi hb hg hd hv hS (by rw[ha];exact h)
theorem dM{ops:Array Oper}(i d:Nat){oi:Oper}(v:Value){fuel:Nat}{listed:Array Bool}{a a':Act}{w:World}(hi:ops[i]? =some oi)
 (hv:∀w',S w'->(execOp a.eval oi).run P w'= .ok (.value v) w') (hS:S w) (h:wpAnyH P .any ops (NoPanic Q) S fuel (listed.setIfInBounds i true) a' w) (hb:(Region.noSelect ops&&Region.free .any ops listed i&&(Region.ready .any ops listed).contains i)=true:=by kernel_rfl)
 (hg:oi.guard=none:=by exact rfl) (hd:oi.dst=some d:=by exact rfl) (ha:a.put (some d) v=a':=by(conv=>lhs;simp only[Act.put,pA,pB,pC]);all_goals exact rfl):wpAnyH P .any ops (NoPanic Q) S (fuel+1) listed a w:=
 tk i d v hi hb hg hd hv hS (by rw[ha];exact h)
theorem eC{ops:Array Oper}(i d:Nat){oi:Oper}(v:Value){fuel:Nat}{listed:Array Bool}{a:Act}{w:World}(hi:ops[i]? =some oi)
 (hv:∀w',S w'->(execOp a.eval oi).run P w'= .ok (.value v) w') (hS:S w) (h:wpAnyH P .any ops (NoPanic Q) S fuel (listed.setIfInBounds i true) (a.put (some d) v) w) (hb:(Region.noSelect ops&&Region.free .any ops listed i&&(Region.ready .any ops listed).contains i)=true:=by kernel_rfl)
 (hg:oi.guard=none:=by exact rfl) (hd:oi.dst=some d:=by exact rfl):wpAnyH P .any ops (NoPanic Q) S (fuel+1) listed a w:=
 tk i d v hi hb hg hd hv hS h
theorem jD{ops:Array Oper}(i:Nat){oi:Oper}{fuel:Nat}{listed:Array Bool}{a:Act}{w:World}
 (h:oi.wp P a w (λa' w'=>S w'/\wpAnyH P .any ops (NoPanic Q) S fuel (listed.setIfInBounds i true) a' w') (NoPanic Q)) (hr:Region.ready .any ops listed=[i]:=by kernel_rfl) (hi:ops[i]? =some oi:=by exact rfl) (hg:oi.guard=none:=by exact rfl):wpAnyH P .any ops (NoPanic Q) S (fuel+1) listed a w:=
 ot i hr hi hg h
end
end Go.Proofs.YtnlbchmfcebeeaaGreat
