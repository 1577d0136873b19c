import Derived.Test.YtnlbchmfcebeeaaGreatTC0
set_option maxHeartbeats 12800000
set_option maxRecDepth 100000
namespace Go.Proofs.YtnlbchmfcebeeaaGreat
open Go.Proofs.Tryz Ch
open Go.RowKit
namespace Ch
def bC(m:Ma)(a:Ac):Bool×Ma:=
 if a.sign==33 then(true,{m with q:=m.q++[a.letter]})
 else if a.sign==64 then((send m.s a.letter a.digit).1,{m with s:=(send m.s a.letter a.digit).2})
 else if a.sign==126 then(true,{m with s:=nw m.s a.letter})
 else if a.sign==35 then(true,{m with out:=m.out++[a.letter]})
 else(jU (dJ m.s a),{m with s:=k8 m.s a.letter (dJ m.s a)})
theorem Qd(t:ByteArray)(c:Int):∀(f k:Nat) (acc:List Int),acc.length<=k->k<=t.size->(sW t c f k acc).length<=t.size:=by
 intro f
 induction f with
 |zero=>intro k acc h1 h2;simp only[sW];omega
 |succ f ih=>?_
 intro k acc h1 h2;simp only[sW]
 split
 ·split
  ·exact ih _ _ (by simp;omega) (by omega)
  exact ih _ _ (by omega) (by omega)
 omega
theorem IZ{s:Sd}(h:s.Ok)(c:Int):(nw s c).Ok:=by
 obtain⟨h0,h1,h2⟩:=h;refine⟨h0,h1,?_⟩;show(strOfNums (sW s.tm c s.tm.size 0 [])).size<=17;rw[strOfNums_size];have:=Qd s.tm c s.tm.size 0 [] (Nat.le_refl _) (Nat.zero_le _);omega
theorem Zn{s:Sd}(h:s.Ok)(ev d:Int):(send s ev d).2.Ok:=by
 unfold send
 split
 ·exact h
 obtain⟨h0,h1,h2⟩:=h;refine⟨h0,h1,?_⟩;show(s.tm++strOfNums [ev,48+d]).size<=17;rw[ByteArray.size_append,strOfNums_size];simp;omega
theorem wu{m:Ma}(h:m.s.Ok)(a:Ac):(bC m a).2.s.Ok:=by
 unfold bC
 split
 ·exact h
 split
 ·exact Zn h _ _
 split
 ·exact IZ h _
 split
 ·exact h
 exact Zm h _ _
theorem Gp(m:Ma)(a:Ac):(bC m a).2.q.length<=m.q.length+1/\(bC m a).2.out.length<=m.out.length+1:=by
 unfold bC
 split
 ·simp
 split
 ·simp
 split
 ·simp
 split<;>simp
def cJ:List Ac->Ma->Ma
 | [],m=>m
 |a::l,m=>if(bC m a).1 then cJ l (bC m a).2 else {(bC m a).2 with q:=(bC m a).2.q++[122]}
theorem pQ:∀(l:List Ac) {m:Ma},m.s.Ok->(cJ l m).s.Ok:=by
 intro l
 induction l with
 |nil=>intro m h;exact h
 |cons a l ih=>?_
 intro m h;simp only[cJ]
 split
 ·exact ih (wu h a)
 exact wu h a
theorem I0:∀(l:List Ac) (m:Ma),(cJ l m).q.length<=m.q.length+2*l.length/\(cJ l m).out.length<=m.out.length+2*l.length:=by
 intro l
 induction l with
 |nil=>intro m;simp[cJ]
 |cons a l ih=>?_
 intro m;have h:=Gp m a;simp only[cJ]
 split
 ·have:=ih (bC m a).2
  simp;omega
 simp;omega
end Ch
theorem Mm.still{w w':World}{B mb ob po:Nat}{m:Ma}(h:Mm w B mb ob po m)(k:Kp (λ_=>False) w w'):Mm w' B mb ob po m:=by
 obtain⟨qv,ov,hm,oq,oo,ap⟩:=h;exact⟨qv,ov,du.keep hm k (λx=>x),oq.keep k (λ_ _ x=>x),oo.keep k (λ_ _ x=>x),ap⟩
theorem Kp.km{w w':World}{B mb:Nat}(k:Kp (λ_=>False) w w'):Kp (km B mb w) w w':=(Kp.refl _ _).trans' k (λ_ _ x=>x.elim)
section
variable (w:World) (B mb ob po:Nat)
theorem RI(m:Ma)(a:Ac)(h:Mm w B mb ob po m)(hs:m.s.Ok)(ha:a.Ok)(hB:B<=w.heap.size)(hq:m.q.length<=1000000000)(hu:m.out.length<=1000000000):
 Calls prog 182 #[.pointer (some ⟨mb,0,none⟩),.agg #[.int .u8 a.sign,.int .u8 a.letter,.int .i64 a.digit]] w λx w'=>x= .returned (.bool (bC m a).1)/\Mm w' B mb ob po (bC m a).2/\Kp (km B mb w) w w':=by
 have K1:Kp (λ_=>False) w (w.alloc (.cells #[.int .u8 a.sign,.int .u8 a.letter,.int .i64 a.digit] 255)):=(Kp.refl _ _).alloc _;have e1:=heap_alloc_new w (.cells #[.int .u8 a.sign,.int .u8 a.letter,.int .i64 a.digit] 255);have M1:Mm (w.alloc (.cells #[.int .u8 a.sign,.int .u8 a.letter,.int .i64 a.digit] 255)) B mb ob po m:=h.still K1
 have hB1:B<=((w.alloc (.cells #[.int .u8 a.sign,.int .u8 a.letter,.int .i64 a.digit] 255))).heap.size:=by have:=K1.size;omega
 have hw:=hs.1
 have c0:(w.alloc (.cells #[.int .u8 a.sign,.int .u8 a.letter,.int .i64 a.digit] 255)).cell? ⟨w.heap.size,0,none⟩=some (.int .u8 a.sign):=by rw[World.cell?,e1];rfl
 have c1:(w.alloc (.cells #[.int .u8 a.sign,.int .u8 a.letter,.int .i64 a.digit] 255)).cell? ⟨w.heap.size,1,none⟩=some (.int .u8 a.letter):=by rw[World.cell?,e1];rfl
 have c2:(w.alloc (.cells #[.int .u8 a.sign,.int .u8 a.letter,.int .i64 a.digit] 255)).cell? ⟨w.heap.size,2,none⟩=some (.int .i64 a.digit):=by rw[World.cell?,e1];rfl
 have row:(w.alloc (.cells #[.int .u8 a.sign,.int .u8 a.letter,.int .i64 a.digit] 255)).heap[w.heap.size]? =some (.cells #[.int .u8 a.sign,.int .u8 a.letter,.int .i64 a.digit] 255 (0,0)):=e1;have HK:=hid (K1.km (B:=B) (mb:=mb));have HM:=hid M1;clear K1 e1 h M1
 have nv:bC m a=if a.sign==33 then(true,{m with q:=m.q++[a.letter]})else if a.sign==64 then((Ch.send m.s a.letter a.digit).1,{m with s:=(Ch.send m.s a.letter a.digit).2})else if a.sign==126 then(true,{m with s:=nw m.s a.letter})else if a.sign==35 then(true,{m with out:=m.out++[a.letter]})else(jU (dJ m.s a),{m with s:=k8 m.s a.letter (dJ m.s a)}):=rfl
 cases q1:a.sign==33 with
 |true=>
  rw[show bC m a=(true,{m with q:=m.q++[a.letter]})by rw[nv,q1];rfl];have E:=hid (uu (w.alloc (.cells #[.int .u8 a.sign,.int .u8 a.letter,.int .i64 a.digit] 255)) B mb ob po m a.letter HM.out hw hB1 hq);clear nv
  go_enter func182,ntmps182
  go_wp2_with fail
  refine bH E ?_;rintro x w2 ⟨rfl,M2,K2⟩;have H2:=hid (ae M2 (Km.trans HK.out K2));clear E M2 K2;go_wp2;go_ret;exact⟨rfl,H2.out.1,H2.out.2⟩
 |false=>?_
 cases q2:a.sign==64 with
 |true=>
  rw[show bC m a=((Ch.send m.s a.letter a.digit).1,{m with s:=(Ch.send m.s a.letter a.digit).2})by rw[nv,q1,q2];rfl];obtain⟨qv,ov,hm,oq,oo,ap⟩:=HM.out;have E:=hid (Vz ((w.alloc (.cells #[.int .u8 a.sign,.int .u8 a.letter,.int .i64 a.digit] 255))).drew mb 1 [.pointer (some ⟨ob,po,none⟩)] m.s [qv,ov] 149 a.letter a.digit (by exact hm) hw rfl ha.1 ha.2);have HX:=hid (ae hm (ae oq (ae oo ap)));clear nv oq oo ap hm
  go_enter func182,ntmps182
  go_upto_region 6 with(fail)
  go_region_with (go_at_call 223;refine bH E ?_;rintro x w3 ⟨rfl,h3,K3⟩;have H3:=hid (ae h3 K3);clear h3 K3)
  all_goals
   obtain⟨h3,K3⟩:=H3.out;obtain⟨hm,oq,oo,ap⟩:=HX.out;have n1:=oq.ne hm (by decide);have n2:=oo.ne hm (by decide);have KS:Kp (λk=>k=mb) (w.alloc (.cells #[.int .u8 a.sign,.int .u8 a.letter,.int .i64 a.digit] 255)) w3:=(show Kp (λk=>k=mb) (w.alloc (.cells #[.int .u8 a.sign,.int .u8 a.letter,.int .i64 a.digit] 255)) ((w.alloc (.cells #[.int .u8 a.sign,.int .u8 a.letter,.int .i64 a.digit] 255))).drew from(Kp.refl _ _).drew).trans K3
   have MF:Mm w3 B mb ob po {m with s:=(Ch.send m.s a.letter a.digit).2}:=⟨qv,ov,h3,oq.keep KS (λi hi x=>by subst x;exact n1 hi),oo.keep KS (λi hi x=>by subst x;exact n2 hi),ap⟩
   have KF:=HK.out.trans' KS (λi _ x=>.inl x);clear h3 K3 hm oq oo n1 n2 KS H3;go_wp2;go_ret;exact⟨rfl,MF,KF⟩
 |false=>?_
 cases q3:a.sign==126 with
 |true=>
  rw[show bC m a=(true,{m with s:=nw m.s a.letter})by rw[nv,q1,q2,q3];rfl];obtain⟨qv,ov,hm,oq,oo,ap⟩:=HM.out;have E:=hid (Gm ((w.alloc (.cells #[.int .u8 a.sign,.int .u8 a.letter,.int .i64 a.digit] 255))).drew mb 1 [.pointer (some ⟨ob,po,none⟩)] m.s [qv,ov] 149 a.letter (by exact hm) hw rfl (by have:=hs.2.2;omega));have HX:=hid (ae hm (ae oq (ae oo ap)));clear nv oq oo ap hm
  go_enter func182,ntmps182
  go_upto_region 8 with(fail)
  go_region_with (go_at_call 224;refine bH E ?_;rintro x w3 ⟨rfl,h3,K3⟩;have H3:=hid (ae h3 K3);clear h3 K3)
  all_goals
   obtain⟨h3,K3⟩:=H3.out;obtain⟨hm,oq,oo,ap⟩:=HX.out;have n1:=oq.ne hm (by decide);have n2:=oo.ne hm (by decide);have KS:Kp (λk=>k=mb) (w.alloc (.cells #[.int .u8 a.sign,.int .u8 a.letter,.int .i64 a.digit] 255)) w3:=(show Kp (λk=>k=mb) (w.alloc (.cells #[.int .u8 a.sign,.int .u8 a.letter,.int .i64 a.digit] 255)) ((w.alloc (.cells #[.int .u8 a.sign,.int .u8 a.letter,.int .i64 a.digit] 255))).drew from(Kp.refl _ _).drew).trans K3
   have MF:Mm w3 B mb ob po {m with s:=nw m.s a.letter}:=⟨qv,ov,h3,oq.keep KS (λi hi x=>by subst x;exact n1 hi),oo.keep KS (λi hi x=>by subst x;exact n2 hi),ap⟩
   have KF:=HK.out.trans' KS (λi _ x=>.inl x);clear h3 K3 hm oq oo n1 n2 KS H3;go_wp2;go_ret;exact⟨rfl,MF,KF⟩
 |false=>?_
 cases q4:a.sign==35 with
 |true=>
  rw[show bC m a=(true,{m with out:=m.out++[a.letter]})by rw[nv,q1,q2,q3,q4];rfl];obtain⟨qv,ov,hm,oq,oo,ap⟩:=HM.out;have co:=hm.out hw
  have coa:∀o,(((w.alloc (.cells #[.int .u8 a.sign,.int .u8 a.letter,.int .i64 a.digit] 255))).alloc o).cell? ⟨mb,38,none⟩=some ov:=λo=>iq.out (du.keep hm ((Kp.refl (λ_=>False) _).alloc o) (λx=>x)) hw
  have HX:=hid (ae hm (ae oq (ae oo ap)));clear nv oq oo ap hm HM
  go_enter func182,ntmps182
  go_upto_region 10 with(fail)
  generalize (w.alloc (.cells #[.int .u8 a.sign,.int .u8 a.letter,.int .i64 a.digit] 255))=w1 at*
  go_region_law (refine Dh rfl (.tmp 40) (.tmp 43) rfl (v:=ov) (by simp[Act.eval]) (by exact HX.out.2.2.1.alloc _) ⟨w1.heap.size,0,none⟩ 1 1 [.int .u8 a.letter] (by simp[Act.eval]) rfl (by decide) (by exact eO _ _ _) (by intro u hu;simp at hu;subst hu;rfl) (by simp[ar];omega) (by simp;omega) ?_;intro ga oa ca w3 q3' g3 hb3;have KG:Kp (λi=>ov.ownBlock=some i) w1 w3:=Kp.grown (by exact((Kp.refl _ _).alloc _).drew) g3 (λi hi _=>hi);have Ix:iq w3 mb ob po m.s qv ov:=du.keep HX.out.1 KG (HX.out.2.2.1.ne HX.out.1 (by decide));have x1:=Ix.out hw;have x2:=du.free Ix 38;have H3:=hid (ae Ix (ae q3' (ae KG hb3)));clear Ix q3' KG g3 hb3)
  all_goals
   obtain⟨Ix,q3',KG,hb3⟩:=H3.out;obtain⟨hm,oq,oo,ap⟩:=HX.out;clear x1 x2 H3 HX co coa;have oq3:=oq.keep KG (λi hi x=>ap i hi x)
   have hap:Apart qv (.slice (some ⟨ga,oa,none⟩) ((ar m.out).length+1) ca):=by
    intro i hi x;simp[Value.ownBlock]at x;subst x
    rcases hb3 with hb3|hb3
    ·exact ap _ hi hb3
    have:=(oq.lt _ hi).2;try simp at hb3
    omega
   have KA:Kp (km B mb w1) w1 w3:=(Kp.refl _ _).trans' KG (λi hi x=>.inr ⟨(oo.lt i x).1,oo.block x⟩);have n1:=q3'.ne Ix (by decide);have n2:=oq3.ne Ix (by decide);have KS:Kp (λk=>k=mb) w3 (w3.setCell ⟨mb,38,none⟩ (.slice (some ⟨ga,oa,none⟩) ((ar m.out).length+1) ca)):=(Kp.refl _ _).setCell (by intro _;rfl) _
   have MF:Mm (w3.setCell ⟨mb,38,none⟩ (.slice (some ⟨ga,oa,none⟩) ((ar m.out).length+1) ca)) B mb ob po {m with out:=m.out++[a.letter]}:=
    ⟨qv,_,Ix.acv hw _,oq3.keep KS (λi hi x=>by subst x;exact n2 hi),by rw[d_];exact q3'.keep KS (λi hi x=>by subst x;exact n1 hi),hap⟩
   have KF:=Km.trans HK.out (KA.trans' KS (λi _ x=>.inl x));generalize w3.setCell ⟨mb,38,none⟩ (.slice (some ⟨ga,oa,none⟩) ((ar m.out).length+1) ca)=w4 at MF KF⊢;clear Ix q3' KG hb3 hm oq oo ap oq3 hap KA n1 n2 KS;go_wp2;go_ret;exact⟨rfl,MF,KF⟩
 |false=>?_
 rw[show bC m a=(jU (dJ m.s a),{m with s:=k8 m.s a.letter (dJ m.s a)})by rw[nv,q1,q2,q3,q4];rfl];have E:=hid (MT (w.alloc (.cells #[.int .u8 a.sign,.int .u8 a.letter,.int .i64 a.digit] 255)) B mb ob po m a HM.out hs ha);clear nv
 go_enter func182,ntmps182
 go_wp2_with fail
 refine bH E ?_;rintro x w2 ⟨rfl,M2,K2⟩;have H2:=hid (ae M2 (Km.trans HK.out K2));clear E M2 K2;go_wp2;go_ret;exact⟨rfl,H2.out.1,H2.out.2⟩
end
section
variable {w w':World} {B mb ob po:Nat} {m:Ma}
theorem Mm.blk(h:Mm w B mb ob po m):∃c,w.heap[mb]? =some (.cells c 149 (0,0)):=by
 obtain⟨qv,ov,hm,_⟩:=h;exact⟨_,hm⟩
theorem Mm.lt(h:Mm w B mb ob po m):mb<w.heap.size:=by obtain⟨c,hc⟩:=h.blk;exact lt_of_block hc
theorem Mm.at_(h:Mm w B mb ob po m)(k:Kp (km B mb w) w w'){i:Nat}{c:Array Value}{T:TypeId}{f:Nat×Nat}(hi:w.heap[i]? =some (.cells c T f))(h1:T≠149)(h2:T≠5):w'.heap[i]? =some (.cells c T f):=by
 refine k.at_ hi λx=>?_
 rcases x with rfl|⟨_,cur,y⟩
 ·obtain⟨c',hc⟩:=h.blk
  rw[hc]at hi;simp at hi;exact h1 hi.2.1.symm
 rw[y]at hi;simp at hi;exact h2 hi.2.1.symm
theorem Mm.row(h:Mm w B mb ob po m)(k:Kp (km B mb w) w w'){base:Nat}{e:TypeId}{size:Nat}{v:Value}{n:Nat}{xs:List Value}(ho:w.ownsRow base e size v n xs)(h1:e≠149)(h2:e≠5):w'.ownsRow base e size v n xs:=by
 refine k.owns ho λi hi x=>?_
 obtain⟨cur,hc⟩:=br ho hi
 rcases x with rfl|⟨_,cur',y⟩
 ·obtain⟨c',hc'⟩:=h.blk
  rw[hc']at hc;simp at hc;exact h1 hc.2.symm
 rw[y]at hc;simp at hc;exact h2 hc.2.symm
theorem Mm.pl(h:Mm w B mb ob po m)(k:Kp (km B mb w) w w'){pb pp:Nat}{ol:Ol}(p:Pl w pb pp ol):Pl w' pb pp ol:=by
 obtain⟨c,hc⟩:=h.blk;exact p.km k hc
end
theorem MU(l:List Ac)(k:Nat)(a:Ac)(h:l[k]? =some a):(fD l)[k*3]? =some (.int .u8 a.sign)/\(fD l)[k*3+1]? =some (.int .u8 a.letter)/\(fD l)[k*3+2]? =some (.int .i64 a.digit):=by
 have:=Ab (λa:Ac=>[Value.int .u8 a.sign,.int .u8 a.letter,.int .i64 a.digit]) 3 (by intro _;rfl) l k;exact⟨this 0 a h (by omega),this 1 a h (by omega),this 2 a h (by omega)⟩
section
variable (w:World) (B mb ob po:Nat)
theorem VG(m:Ma)(rz:List Ac)(av:Value)(base:Nat)(ho:w.ownsRow base 255 3 av rz.length (fD rz))(h:Mm w B mb ob po m)(hs:m.s.Ok)(ha:∀a∈rz,a.Ok)(hB:B<=w.heap.size)(hl:rz.length<=1000)(hq:m.q.length<=995000000)(hu:m.out.length<=995000000):
 Calls prog 134 #[.pointer (some ⟨mb,0,none⟩),av] w λx w'=>x= .returned (.tuple #[])/\Mm w' B mb ob po (cJ rz m)/\Kp (km B mb w) w w':=by
 obtain⟨ao,cap,rfl⟩:=aF ho
 go_enter func134,ntmps134
 go_wp2_with fail
 go_loopw [4] (λi wr=>∃(k:Nat) (m':Ma),i= .int .i64 k/\k<=rz.length/\Hid (cJ rz m=cJ (rz.drop k) m')/\Mm wr B mb ob po m'/\m'.s.Ok/\m'.q.length<=m.q.length+k/\m'.out.length<=m.out.length+k/\Kp (km B mb w) w wr) (λi _=>rz.length-(intOf i).toNat)
 case atStart=>exact⟨0,m,rfl,Nat.zero_le _,hid rfl,h,hs,Nat.le_refl _,Nat.le_refl _,Kp.refl _ _⟩
 case round=>
  obtain⟨k,m',rfl,hk,HE,hm',hs',hq',hu',KW⟩:=hrel;have hor:wr.ownsRow base 255 3 (.slice ao rz.length cap) rz.length (fD rz):=h.row KW ho (by decide) (by decide)
  have hBr:B<=wr.heap.size:=by have:=KW.size;omega
  by_cases hlt:k<rz.length
  ·have hlt':(k:Int)<(rz.length:Int):=by omega
   obtain⟨a,hs1⟩:∃s,rz[k]? =some s:=⟨_,List.getElem?_eq_getElem hlt⟩
   obtain⟨g,cap',hg⟩:=gD hor (by omega);simp only[Value.slice.injEq,true_and]at hg;obtain⟨rfl,rfl⟩:=hg;obtain⟨z0,z1,z2⟩:=MU rz k a hs1;have a0:=(hor.cellAt (k*3) (by omega)).trans z0;have a1:=(hor.cellAt (k*3+1) (by omega)).trans z1;have a2:=(hor.cellAt (k*3+2) (by omega)).trans z2
   have ed:rz.drop k=a::rz.drop (k+1):=by
    rw[List.drop_eq_getElem_cons hlt];congr 1;exact(List.getElem?_eq_some_iff.1 hs1).2
   have E1:=hid (RI wr B mb ob po m' a hm' hs' (ha a (List.mem_of_getElem? hs1)) hBr (by omega) (by omega));have hqa:=Gp m' a;have Zo:=wu hs' a
   cases q1:(bC m' a).1 with
   |true=>
    rw[q1]at E1;have HF:=hid (HE.out.trans (show _=cJ (rz.drop (k+1)) (bC m' a).2 by rw[ed];simp only[cJ];rw[q1];rfl));clear ed HE hs1 hor z0 z1 z2 hm' ho h
    go_wp2_with fail
    refine bH E1 ?_;rintro x w2 ⟨rfl,M2,K2⟩;have K3:=Km.trans KW K2;clear E1 K2 a0 a1 a2;go_wp2
    go_roundw
    case rel=>exact⟨k+1,_,by go_num,by omega,HF,M2,Zo,by omega,by omega,K3⟩
    case measure=>simp[intOf];omega
   |false=>?_
   rw[q1]at E1;have HF:=hid (HE.out.trans (show _={(bC m' a).2 with q:=(bC m' a).2.q++[122]}by rw[ed];simp only[cJ];rw[q1];rfl));clear ed HE hs1 hor z0 z1 z2 hm' ho h
   go_wp2_with fail
   refine bH E1 ?_;rintro x w2 ⟨rfl,M2,K2⟩;have K3:=Km.trans KW K2;have E2:=hid (uu w2 B mb ob po (bC m' a).2 122 M2 Zo.1 (by have:=K3.size;omega) (by omega));clear E1 K2 a0 a1 a2
   go_wp2_with fail
   refine bH E2 ?_;rintro x w4 ⟨rfl,M4,K4⟩;have K5:=Km.trans K3 K4;clear E2 K4 K3 M2;go_wp2;refine bodyPost_ret (results_none rfl _ _ _) rfl ?_;rw[HF.out];exact⟨rfl,M4,K5⟩
  have hge:¬(k:Int)<(rz.length:Int):=by omega
  have HF:=hid (HE.out.trans (show _=m' by rw[List.drop_eq_nil_of_le (by omega)];rfl));clear HE
  go_wp2_with fail
  go_end0
  rw[HF.out];exact⟨rfl,hm',KW⟩
end
namespace Ch
def df(state sign:Int):List Bl->Ma->Ma
 | [],m=>m
 |b::l,m=>df state sign l (if(b.state==state)&&(b.sign==sign)then cJ b.acts m else m)
def wBl:List Bl->Nat
 | []=>0
 |b::l=>b.acts.length+wBl l
structure Ol.Ok(ol:Ol):Prop where
 up:Up ol.ag
 ag:ol.ag.length<=16
 bG:ol.bG.length<=240
 dz:ol.dz.length<=240
 iX:∀t∈ol.bG,t.acts.length<=240/\∀a∈t.acts,a.Ok
 rh:∀b∈ol.dz,b.acts.length<=240/\∀a∈b.acts,a.Ok
 wB:wBl ol.dz<=120
def Ma.Sz(m:Ma)(n:Nat):Prop:=m.q.length<=n/\m.out.length<=n
theorem uw{m:Ma}{n:Nat}(h:m.Sz n){l:List Ac}(hl:l.length<=240):(cJ l m).Sz (n+480):=by
 have:=I0 l m;unfold Ma.Sz at*;omega
theorem VH(state sign:Int):∀(l:List Bl) {m:Ma} {n:Nat},m.Sz n->(∀b∈l,b.acts.length<=240)->(df state sign l m).Sz (n+480*l.length):=by
 intro l
 induction l with
 |nil=>intro m n h _;simpa[df]using h
 |cons b l ih=>?_
 intro m n h hl;simp only[df]
 have h2:((if(b.state==state)&&(b.sign==sign)then cJ b.acts m else m):Ma).Sz (n+480):=by
  split
  ·exact uw h (hl b (by simp))
  unfold Ma.Sz at*;omega
 have:=ih h2 (λx hx=>hl x (by simp[hx]));unfold Ma.Sz at*;simp only[List.length_cons];omega
theorem s7(state sign:Int):∀(l:List Bl) {m:Ma},m.s.Ok->(df state sign l m).s.Ok:=by
 intro l
 induction l with
 |nil=>intro m h;exact h
 |cons b l ih=>?_
 intro m h;simp only[df];refine ih ?_
 split
 ·exact pQ _ h
 exact h
end Ch
section
variable (w:World) (B mb ob po:Nat)
theorem rA(m:Ma)(ol:Ol)(state sign:Int)(hp:Pl w ob po ol)(hol:ol.Ok)(h:Mm w B mb ob po m)(hs:m.s.Ok)(hB:B<=w.heap.size)(hz:m.Sz 990000000):
 Calls prog 167 #[.pointer (some ⟨mb,0,none⟩),.int .i64 state,.int .u8 sign] w λx w'=>x= .returned (.tuple #[])/\Mm w' B mb ob po (df state sign ol.dz m)/\Kp (km B mb w) w w':=by
 obtain⟨hz1,hz2⟩:=hz;have hbl:=hol.dz
 go_enter func167,ntmps167
 go_wp2_with fail
 go_loopw [6] (λi wr=>∃(k:Nat) (m':Ma),i= .int .i64 k/\k<=ol.dz.length/\Hid (df state sign ol.dz m=df state sign (ol.dz.drop k) m')/\Mm wr B mb ob po m'/\m'.s.Ok/\m'.q.length<=m.q.length+480*k/\m'.out.length<=m.out.length+480*k/\Kp (km B mb w) w wr) (λi _=>ol.dz.length-(intOf i).toNat)
 case atStart=>exact⟨0,m,rfl,Nat.zero_le _,hid rfl,h,hs,Nat.le_refl _,Nat.le_refl _,Kp.refl _ _⟩
 case round=>
  obtain⟨k,m',rfl,hk,HE,hm',hs',hq',hu',KW⟩:=hrel;have hpr:Pl wr ob po ol:=h.pl KW hp
  have hBr:B<=wr.heap.size:=by have:=KW.size;omega
  obtain⟨qv,ov,hmb,_⟩:=id hm';have cp:=hmb.plan;clear hmb
  by_cases hlt:k<ol.dz.length
  ·have hlt':(k:Int)<(ol.dz.length:Int):=by omega
   obtain⟨bk,hs1⟩:∃s,ol.dz[k]? =some s:=⟨_,List.getElem?_eq_getElem hlt⟩
   obtain⟨g,cap,ac,base,c4,cc,hac⟩:=hpr.bl hs1;have a0:=cc 0 (by omega);have a1:=cc 1 (by omega);have a2:=cc 2 (by omega);simp only[List.getElem?_cons_succ,List.getElem?_cons_zero,Nat.add_zero]at a0 a1 a2
   have ed:ol.dz.drop k=bk::ol.dz.drop (k+1):=by
    rw[List.drop_eq_getElem_cons hlt];congr 1;exact(List.getElem?_eq_some_iff.1 hs1).2
   have hba:=hol.rh bk (List.mem_of_getElem? hs1);obtain⟨aco,RJ,eac⟩:=aF hac;subst eac;have KB:Kp (λ_=>False) wr (wr.alloc (.cells #[.int .i64 bk.state,.int .u8 bk.sign,.slice aco bk.acts.length RJ] 282)):=(Kp.refl _ _).alloc _;have KM:=Km.trans KW (KB.km (B:=B) (mb:=mb));have MB:=hm'.still KB
   have skip:((bk.state==state)&&(bk.sign==sign))=false->df state sign ol.dz m=df state sign (ol.dz.drop (k+1)) m':=λq=>by
    rw[HE.out,ed];simp only[df];rw[q];rfl
   cases q1:bk.state==state with
   |false=>
    have HF:=hid (skip (by rw[q1];rfl));clear ed HE hs1 cc skip hac hpr
    go_wp2_with fail
    go_roundw
    case rel=>exact⟨k+1,m',by go_num,by omega,HF,MB,hs',by omega,by omega,KM⟩
    case measure=>simp[intOf];omega
   |true=>?_
   cases q2:bk.sign==sign with
   |false=>
    have HF:=hid (skip (by rw[q2];simp));clear ed HE hs1 cc skip hac hpr
    go_wp2_with fail
    go_roundw
    case rel=>exact⟨k+1,m',by go_num,by omega,HF,MB,hs',by omega,by omega,KM⟩
    case measure=>simp[intOf];omega
   |true=>?_
   have HF:=hid (HE.out.trans (show _=df state sign (ol.dz.drop (k+1)) (cJ bk.acts m')by rw[ed];simp only[df];rw[q1,q2];rfl));have xX:=I0 bk.acts m';have hdo:=pQ bk.acts hs';have ae9:=hac.alloc (.cells #[.int .i64 bk.state,.int .u8 bk.sign,.slice aco bk.acts.length RJ] 282);have E1:=hid (VG (wr.alloc (.cells #[.int .i64 bk.state,.int .u8 bk.sign,.slice aco bk.acts.length RJ] 282)) B mb ob po m' bk.acts _ base ae9 MB hs' hba.2 (by have:=KB.size;omega) (by omega) (by omega) (by omega));have HK:=hid KM;clear ed HE hs1 cc skip hac hpr ae9 KB KM MB
   go_wp2_with fail
   refine bH E1 ?_;rintro x w2 ⟨rfl,M2,K2⟩;have K3:=Km.trans HK.out K2;clear E1 K2 HK a0 a1 a2 c4 cp;go_wp2
   go_roundw
   case rel=>exact⟨k+1,_,by go_num,by omega,HF,M2,hdo,by omega,by omega,K3⟩
   case measure=>simp[intOf];omega
  have hge:¬(k:Int)<(ol.dz.length:Int):=by omega
  have HF:=hid (HE.out.trans (show _=m' by rw[List.drop_eq_nil_of_le (by omega)];rfl));obtain⟨ao,cap,c4⟩:=hpr.ae7;clear HE
  go_wp2_with fail
  go_end0
  rw[HF.out];exact⟨rfl,hm',KW⟩
end
namespace Ch
theorem D6{t:ByteArray}{lo:Int}(hlo:48<=lo){r:Bool×Ac×Nat}(h0:r.2.1.Ok)(h:(jC t lo r).1=true):(jC t lo r).2.1.Ok:=by
 unfold jC at*
 split
 ·rename_i q
  rw[if_pos q]at h;simp only[eI,Bool.and_eq_true,decide_eq_true_eq]at h;unfold Ac.Ok;simp only;omega
 exact h0
theorem Zp{t:ByteArray}{p:Nat}{a:Ac}(h0:a.digit=0)(h:(act t p a).1=true):(act t p a).2.1.Ok:=by
 have hev:(fU t p a).2.1.Ok:=by unfold fU Ac.Ok;simp[h0]
 have hvr:(gx t p a).2.1.Ok:=by unfold gx Ac.Ok;simp[h0]
 unfold act at*
 split
 ·exact hev
 rename_i q1;rw[if_neg q1]at h
 split
 ·rename_i q2
  rw[if_pos q2]at h;exact D6 (by omega) hev h
 rename_i q2;rw[if_neg q2]at h
 split
 ·rename_i q3
  rw[if_pos q3]at h;exact D6 (by omega) hvr h
 unfold Ac.Ok;simp[h0]
theorem RK{t:ByteArray}{cl:Int}:∀(n p:Nat) (l:List Ac),p<=t.size->l.length<=p->(∀a∈l,a.Ok)->(fM t cl n p l).2.1.length<=t.size/\∀a∈(fM t cl n p l).2.1,a.Ok:=by
 intro n
 induction n with
 |zero=>intro p l _ _ _;simp[fM]
 |succ n ih=>?_
 intro p l hp hl ha;simp only[fM]
 split
 ·exact⟨by simp only;omega,ha⟩
 split
 ·rename_i q
  have h1:=zT q;refine ih _ _ (pD hp 0 0) (by simp;omega) ?_;intro a hx
  rcases List.mem_append.1 hx with hx|hx
  ·exact ha a hx
  simp at hx;subst hx;exact Zp rfl q
 simp
theorem I1{t:ByteArray}{cl:Int}{p:Nat}(hp:p<=t.size):(acts t cl p).2.1.length<=t.size/\∀a∈(acts t cl p).2.1,a.Ok:=
 RK _ _ _ hp (Nat.zero_le _) (by simp)
structure Ri(t:ByteArray)(r:Rs):Prop where
 up:Up r.ag
 iX:∀x∈r.bG,x.acts.length<=t.size/\∀a∈x.acts,a.Ok
 rh:∀x∈r.dz,x.acts.length<=t.size/\∀a∈x.acts,a.Ok
theorem Up.push{ss:List St}(h:Up ss){s:St}(h1: -1<=s.parent)(h2:s.parent<ss.length):Up (ss++[s]):=by
 intro k x hx
 rcases Nat.lt_or_ge k ss.length with q|q
 ·rw[List.getElem?_append_left q]at hx;exact h k x hx
 rw[List.getElem?_append_right q]at hx
 have:k-ss.length=0:=by
  rcases Nat.eq_zero_or_pos (k-ss.length)with e|e
  ·exact e
  rw[List.getElem?_eq_none (by simp;omega)]at hx;simp at hx
 rw[this]at hx;simp at hx;subst hx;omega
theorem Up.mark{ss:List St}(h:Up ss)(p:Int):Up (bn p ss):=by
 unfold bn
 split
 ·split
  ·rename_i k _ s hs
   split
   ·intro j x hx
    by_cases e:k=j
    ·subst e
     have hlt:=(List.getElem?_eq_some_iff.1 hs).1;rw[List.getElem?_set_self hlt]at hx;simp at hx;subst hx;exact h k s hs
    rw[List.getElem?_set_ne e]at hx;exact h j x hx
   exact h
  exact h
 exact h
theorem Di{t:ByteArray}{r:Rs}(self:Int)(h:Ri t r):Ri t (transition t self r).2/\(transition t self r).2.ag=r.ag:=by
 unfold transition
 split
 ·rename_i q1
  have l1:r.pos+1<t.size:=by
   rcases Nat.lt_or_ge (r.pos+1) t.size with x|x
   ·exact x
   rw[b_ x]at q1;simp[jF,bR,bx]at q1
  have hg:=sN (t:=t) (p:=r.pos+1+1) ⟨0,0,0⟩ (by omega);generalize guard t (r.pos+1+1) ⟨0,0,0⟩=gg at*;have ha:=I1 (t:=t) (cl:=62) (p:=gg.2.2) hg.2;generalize acts t 62 gg.2.2=aa at*
  split
  ·split
   ·refine⟨⟨h.up,?_,h.rh⟩,rfl⟩
    intro x hx
    rcases List.mem_append.1 hx with hx|hx
    ·exact h.iX x hx
    simp at hx;subst hx;exact ha
   exact⟨⟨h.up,h.iX,h.rh⟩,rfl⟩
  exact⟨⟨h.up,h.iX,h.rh⟩,rfl⟩
 exact⟨⟨h.up,h.iX,h.rh⟩,rfl⟩
theorem VI{t:ByteArray}{r:Rs}(self:Int)(hp:r.pos<t.size)(h:Ri t r):Ri t (block t self r).2/\(block t self r).2.ag=r.ag:=by
 have ha:=I1 (t:=t) (cl:=59) (p:=r.pos+1) (by omega);unfold block
 split
 ·refine⟨⟨h.up,h.iX,?_⟩,rfl⟩
  intro x hx
  rcases List.mem_append.1 hx with hx|hx
  ·exact h.rh x hx
  simp at hx;subst hx;exact ha
 exact⟨⟨h.up,h.iX,h.rh⟩,rfl⟩
theorem Gq{t:ByteArray}{r:Rs}(op parent:Int)(h1: -1<=parent)(h2:parent<r.ag.length)(h:Ri t r):Ri t (aC t op parent r).2/\r.ag.length<=(aC t op parent r).2.ag.length/\
 ((aC t op parent r).1=true->r.ag.length<(aC t op parent r).2.ag.length):=by
 unfold aC
 split
 ·refine⟨⟨?_,h.iX,h.rh⟩,?_,λ_=>?_⟩
  ·exact Up.mark (Up.push h.up h1 h2) parent
  ·simp only[dH];simp
  simp only[dH];simp
 exact⟨h,Nat.le_refl _,by simp⟩
theorem D7{t:ByteArray}{r:Rs}{it:Int->Int->Rs->Bool×Rs}(hit:∀a c s,c≠0->Ok t s->Ri t s->(0:Int)<=a->a<(s.ag.length:Int)->Ri t (it a c s).2/\s.ag.length<=(it a c s).2.ag.length)(parent:Int)(hp:r.pos<t.size)(hk:Ok t r)(h:Ri t r)
 (h1: -1<=parent) (h2:parent<r.ag.length):Ri t (aK t it parent r).2/\r.ag.length<=(aK t it parent r).2.ag.length:=by
 obtain⟨⟨d1,d2,d3,d4⟩,h5⟩:=hk;have hn:=ku (t:=t) (r:={r with pos:=r.pos+1}) (af t r.pos) parent ⟨⟨by simp only;omega,by simp only;omega,by simp only;omega,by simp only;omega⟩,by simp only;omega⟩;have hm:=Gq (t:=t) (r:={r with pos:=r.pos+1}) (af t r.pos) parent h1 h2 ⟨h.up,h.iX,h.rh⟩;unfold aK;generalize aC t (af t r.pos) parent {r with pos:=r.pos+1}=s at*;obtain⟨m1,m2,m3⟩:=hm;simp only at m2 m3
 split
 ·rename_i q
  have m4:=m3 q
  split
  ·have:=hit r.ag.length 41 s.2 (by decide) hn.1 m1 (by omega) (by omega);exact⟨this.1,by omega⟩
  split
  ·have:=hit r.ag.length 93 s.2 (by decide) hn.1 m1 (by omega) (by omega);exact⟨this.1,by omega⟩
  split
  ·exact⟨⟨m1.up,m1.iX,m1.rh⟩,m2⟩
  exact⟨m1,m2⟩
 exact⟨m1,m2⟩
theorem RL{t:ByteArray}:∀(n:Nat) (self cl:Int) (r:Rs),cl≠0->Ok t r->Ri t r->0<=self->self<r.ag.length->Ri t (an t n self cl r).2/\r.ag.length<=(an t n self cl r).2.ag.length:=by
 intro n
 induction n with
 |zero=>intro self cl r _ _ h _ _;exact⟨h,Nat.le_refl _⟩
 |succ n ih=>?_
 intro self cl r hcl hk h h1 h2;simp only[an]
 split
 ·rename_i q
  have ho:=iy (λa c s hc hs=>jt n a c s hc hs) self (iY q) hk;have hs:=D7 (it:=an t n) (λa c s hc hs hr ha hb=>ih a c s hc hs hr ha hb) self (iY q) hk h (by omega) h2;generalize aK t (an t n) self r=s at*
  split
  ·have:=ih self cl s.2 hcl ho.1 hs.1 h1 (by omega);exact⟨this.1,by omega⟩
  exact hs
 split
 ·rename_i q
  have ho:=ix self (cL (by decide) q) hk;have hs:=Di self h;generalize transition t self r=s at*
  split
  ·have:=ih self cl s.2 hcl ho.1 hs.1 h1 (by rw[hs.2];exact h2);rw[hs.2]at this;exact this
  exact⟨hs.1,by rw[hs.2];exact Nat.le_refl _⟩
 split
 ·rename_i q
  have hlt:r.pos<t.size:=by
   rcases Nat.lt_or_ge r.pos t.size with x|x
   ·exact x
   rw[b_ x]at q;simp at q
  have ho:=pG self hlt hk;have hs:=VI self hlt h;generalize block t self r=s at*
  split
  ·have:=ih self cl s.2 hcl ho.1 hs.1 h1 (by rw[hs.2];exact h2);rw[hs.2]at this;exact this
  exact⟨hs.1,by rw[hs.2];exact Nat.le_refl _⟩
 exact⟨⟨h.up,h.iX,h.rh⟩,Nat.le_refl _⟩
theorem VJ(t:ByteArray):Ri t (chart t).2:=by
 have h0:Ri t r0:=⟨by intro k s h;simp[r0]at h,by simp[r0],by simp[r0]⟩
 unfold chart
 split
 ·rename_i q
  have hlt:0<t.size:=by
   rcases Nat.lt_or_ge 0 t.size with x|x
   ·exact x
   rw[b_ x]at q;simp at q
  have hs:=D7 (it:=an t (t.size+1)) (λa c s hc hs hr ha hb=>RL (t.size+1) a c s hc hs hr ha hb) (-1) (r:=r0) hlt (u9 t) h0 (by omega) (by simp[r0])
  split
  ·exact hs.1
  exact hs.1
 exact h0
theorem zT2{t p a}(h:(act t p a).1=true):p+2<=(act t p a).2.2:=by
 unfold act at*;grind[py,kN,jC,fU,gx,bI]
theorem wBa:∀ l b,wBl (l++[b])=wBl l+b.acts.length:=by
 intro l;induction l with
 |nil=>grind[wBl]
 |cons a l D=>grind[wBl]
theorem jWl t cl:∀ n p l,2*(fM t cl n p l).2.1.length+p<=(fM t cl n p l).2.2+2*l.length:=by
 intro n;induction n with
 |zero=>grind[fM]
 |succ n D=>?_
 intro p l;simp only[fM];split
 ·simp only;omega
 split
 ·rename_i q;have I:=zT2 q;have:=D (act t p ⟨af t p,0,0⟩).2.2 (l++[(act t p ⟨af t p,0,0⟩).2.1]);simp only[List.length_append,List.length_cons,List.length_nil]at this;omega
 have:=(acj t p ⟨af t p,0,0⟩).1;simp only[List.length_nil];omega
theorem wTr t D r:(transition t D r).2.dz=r.dz:=by
 unfold transition;split
 ·split
  ·split<;>rfl
  rfl
 rfl
theorem wNm t o p r:(aC t o p r).2.dz=r.dz:=by
 unfold aC;split<;>rfl
theorem wBk{t r}D(h:2*wBl r.dz<=r.pos):2*wBl (Ch.block t D r).2.dz<=(Ch.block t D r).2.pos:=by
 have F:=jWl t 59 (t.size+1) (r.pos+1) [];unfold Ch.block;split
 ·simp only[wBa];unfold acts;simp only[List.length_nil]at F;omega
 simp only;unfold acts;simp only[List.length_nil]at F;omega
theorem wSt{t r it}(Kk:∀a c s,c≠0->Ok t s->2*wBl s.dz<=s.pos->2*wBl (it a c s).2.dz<=(it a c s).2.pos)parent(G:r.pos<t.size)(hk:Ok t r)(h:2*wBl r.dz<=r.pos):2*wBl (aK t it parent r).2.dz<=(aK t it parent r).2.pos:=by
 have⟨⟨d1,d2,d3,d4⟩,h5⟩:=hk;have F:=ku (t:=t) (r:={r with pos:=r.pos+1}) (af t r.pos) parent ⟨⟨by simp only;omega,by simp only;omega,by simp only;omega,by simp only;omega⟩,by simp only;omega⟩;have hm:=wNm t (af t r.pos) parent {r with pos:=r.pos+1};unfold aK;generalize aC t (af t r.pos) parent {r with pos:=r.pos+1}=s at*;have⟨F1,F2⟩:=F;simp only at F2 hm;have E:2*wBl s.2.dz<=s.2.pos:=by rw[hm];omega
 split
 ·split
  ·exact Kk _ _ _ (by decide) F1 E
  split
  ·exact Kk _ _ _ (by decide) F1 E
  split
  ·have:=kV (af t s.2.pos==62) s.2.pos;simp only;omega
  exact E
 exact E
theorem wIt{t}:∀ n (D cl:Int) r,cl≠0->Ok t r->2*wBl r.dz<=r.pos->2*wBl (an t n D cl r).2.dz<=(an t n D cl r).2.pos:=by
 intro n;induction n with
 |zero=>intro D cl r _ _ h;exact h
 |succ n J=>?_
 intro D cl r E hk h;simp only[an];split
 ·rename_i q;have F:=iy (λa c s hc hs=>jt n a c s hc hs) D (iY q) hk;have I:=wSt (it:=an t n) (λa c s hc hs hw=>J a c s hc hs hw) D (iY q) hk h;split
  ·exact J _ _ _ E F.1 I
  exact I
 split
 ·rename_i q;have F:=ix D (cL (by decide) q) hk;have I:2*wBl (transition t D r).2.dz<=(transition t D r).2.pos:=by rw[wTr];omega
  split
  ·exact J _ _ _ E F.1 I
  exact I
 split
 ·rename_i q;have hl:r.pos<t.size:=by grind[b_]
  have F:=pG D hl hk;have I:=wBk (t:=t) D h;split
  ·exact J _ _ _ E F.1 I
  exact I
 have:=kV (af t r.pos==cl) r.pos;simp only;omega
theorem wCh t:2*wBl (chart t).2.dz<=(chart t).2.pos:=by
 unfold chart;split
 ·rename_i q;have D:0<t.size:=by grind[b_]
  have I:=wSt (r:=r0) (it:=an t (t.size+1)) (λa c s hc hs hw=>wIt _ a c s hc hs hw) (-1) D (u9 t) (Nat.le_refl _);split
  ·exact I
  exact I
 exact Nat.le_refl _
theorem xY:(⟨[],[],[]⟩:Ol).Ok:=⟨by intro k s h;simp at h,by simp,by simp,by simp,by simp,by simp,Nat.zero_le _⟩
theorem mK(t:ByteArray):(read t).2.2.Ok:=by
 unfold read
 split
 ·exact xY
 rename_i q
 split
 ·split
  ·rename_i qj
   have hi:=VJ t;obtain⟨⟨d1,d2,d3,d4⟩,h5⟩:=IK t;refine⟨hi.up,?_,?_,?_,λx hx=>⟨by have:=(hi.iX x hx).1;omega,(hi.iX x hx).2⟩,λx hx=>⟨by have:=(hi.rh x hx).1;omega,(hi.rh x hx).2⟩,by have:=wCh t;simp only;omega⟩
   ·simp only
    unfold judge at qj
    split at qj
    ·simp at qj
    omega
   ·simp only;omega
   simp only;omega
  exact xY
 exact xY
def sk(p:Nat->Bool)(k:Nat):Bool:=(List.range k).all p
def vl(p:Nat->Bool)(k:Nat):Bool:=(List.range k).any p
theorem D8(p:Nat->Bool)(k:Nat):sk p (k+1)=(sk p k&&p k):=by unfold sk;rw[List.range_succ,List.all_append];simp
theorem xZ(p:Nat->Bool)(k:Nat):vl p (k+1)=(vl p k||p k):=by unfold vl;rw[List.range_succ,List.any_append];simp
theorem Zq{p:Nat->Bool}{k n:Nat}(hk:k<n)(h:p k=false):sk p n=false:=by unfold sk;rw[List.all_eq_false];exact⟨k,by simpa using hk,by simp[h]⟩
theorem I2{p:Nat->Bool}{k n:Nat}(hk:k<n)(h:p k=true):vl p n=true:=by unfold vl;rw[List.any_eq_true];exact⟨k,by simpa using hk,h⟩
def kept(ss:List St)(bB:List Bool)(parent:Int):Bool:=vl (λi=>has bB (i:Int)&&aB ss i parent) ss.length
def AN(ss:List St)(l:List Bool)(st:Int)(i:Nat):Bool:=(aA ss i==4)&&(aw ss i==st)&&has l (i:Int)
def mi(ss:List St)(l:List Bool)(st:Int):Bool:=vl (AN ss l st) ss.length
def eh(ss:List St)(l:List Bool):Nat->Int->Bool
 |0,_=>false
 |f+1,st=>if aA ss st==2 then mi ss l st else if aA ss st==3 then sk (λi=>!aB ss i st||eh ss l f (i:Int)) ss.length else false
def atEnd(ss:List St)(l:List Bool)(st:Int):Bool:=eh ss l (ss.length+2) st
end Ch
section
variable (w:World) (mb ob po:Nat) (s:Sd) (qv ov:Value) (ol:Ol)
theorem VK(sb so:Nat)(pre:List Value)(l:List Bool)(post:List Value)(T:TypeId)(parent:Int)(hm:iq w mb ob po s qv ov)(hp:Pl w ob po ol)(hl:ol.ag.length<=16)(hL:ju w sb pre l post T)(h16:l.length=16)(hso:pre.length=so):
 Calls prog 164 #[.pointer (some ⟨mb,0,none⟩),.int .i64 parent,.pointer (some ⟨sb,so,none⟩)] w λx w'=>x= .returned (.bool (Ch.kept ol.ag l parent))/\w'=w:=by
 have cp:=hm.plan;have hS:=hp.str;obtain⟨ao,cap,c2⟩:=hS.len
 go_enter func164,ntmps164
 go_wp2_with fail
 go_loop [7] (λi=>∃k:Nat,i= .int .i64 k/\k<=ol.ag.length/\Hid (vl (λi=>Ch.has l (i:Int)&&aB ol.ag i parent) k=false)) (λi=>ol.ag.length-(intOf i).toNat)
 case atStart=>exact⟨0,rfl,Nat.zero_le _,hid rfl⟩
 case round=>
  obtain⟨k,rfl,hk,HA⟩:=hrel
  by_cases hlt:k<ol.ag.length
  ·have hlt':(k:Int)<(ol.ag.length:Int):=by omega
   have E1:=hid (jw w sb so pre l post T k hL h16 hso);have E2:=hid (iZ ob po w ol.ag k parent hS (by omega))
   cases q1:Ch.has l (k:Int)with
   |false=>
    have HF:=hid (show vl (λi=>Ch.has l (i:Int)&&aB ol.ag i parent) (k+1)=false by rw[xZ,HA.out,q1];rfl);rw[q1]at E1;clear HA hm hp hS hL
    go_wp2_with fail
    refine bH E1 ?_;rintro x w1 ⟨rfl,rfl⟩;go_wp2
    go_round
    case rel=>exact⟨k+1,by go_num,by omega,HF⟩
    case measure=>simp[intOf];omega
   |true=>?_
   rw[q1]at E1
   cases q2:aB ol.ag k parent with
   |false=>
    have HF:=hid (show vl (λi=>Ch.has l (i:Int)&&aB ol.ag i parent) (k+1)=false by rw[xZ,HA.out,q1,q2];rfl);rw[q2]at E2;clear HA hm hp hS hL
    go_wp2_with fail
    refine bH E1 ?_;rintro x w1 ⟨rfl,rfl⟩
    go_wp2_with fail
    refine bH E2 ?_;rintro x w1 ⟨rfl,rfl⟩;go_wp2
    go_round
    case rel=>exact⟨k+1,by go_num,by omega,HF⟩
    case measure=>simp[intOf];omega
   |true=>?_
   have HF:=hid (show Ch.kept ol.ag l parent=true from I2 hlt (by rw[q1,q2];rfl));rw[q2]at E2;clear HA hm hp hS hL
   go_wp2_with fail
   refine bH E1 ?_;rintro x w1 ⟨rfl,rfl⟩
   go_wp2_with fail
   refine bH E2 ?_;rintro x w1 ⟨rfl,rfl⟩;go_wp2;go_ret;exact⟨by rw[HF.out];rfl,rfl⟩
  have hge:¬(k:Int)<(ol.ag.length:Int):=by omega
  obtain rfl:k=ol.ag.length:=by omega
  have HF:=hid (show Ch.kept ol.ag l parent=false from HA.out);clear HA hm hp hS hL
  go_wp2_with fail
  go_ret;exact⟨by rw[HF.out];rfl,rfl⟩
theorem MV(st:Int)(hm:iq w mb ob po s qv ov)(hw:s.Wf)(hp:Pl w ob po ol)(hl:ol.ag.length<=16):
 Calls prog 253 #[.pointer (some ⟨mb,0,none⟩),.int .i64 st] w λx w'=>x= .returned (.bool (mi ol.ag s.act st))/\w'=w:=by
 have cp:=hm.plan;have hS:=hp.str
 go_enter func253,ntmps253
 go_wp2_with fail
 go_loop [5] (λi=>∃k:Nat,i= .int .i64 k/\k<=ol.ag.length/\Hid (vl (AN ol.ag s.act st) k=false)) (λi=>ol.ag.length-(intOf i).toNat)
 case atStart=>exact⟨0,rfl,Nat.zero_le _,hid rfl⟩
 case round=>
  obtain⟨k,rfl,hk,HA⟩:=hrel
  by_cases hlt:k<ol.ag.length
  ·have hlt':(k:Int)<(ol.ag.length:Int):=by omega
   obtain⟨t,hs⟩:∃s,ol.ag[k]? =some s:=⟨_,List.getElem?_eq_getElem hlt⟩
   obtain⟨g,cap,c2,a0,a1,a2,a3⟩:=hS.at_ hs
   have hP:AN ol.ag s.act st k=((t.kind==4)&&(t.parent==st)&&Ch.has s.act (k:Int)):=by simp[AN,aA,aw,dD,hs]
   have E1:=hid (jw w mb 1 [.pointer (some ⟨ob,po,none⟩)] s.act (cf s++[qv,ov]) 149 k hm hw.1 rfl)
   have no:AN ol.ag s.act st k=false->vl (AN ol.ag s.act st) (k+1)=false:=λq=>by rw[xZ,HA.out,q];rfl
   cases q1:t.kind==4 with
   |false=>
    have HF:=hid (no (by rw[hP,q1];rfl));clear HA hm hp hS hs hP no
    go_wp2_with fail
    go_round
    case rel=>exact⟨k+1,by go_num,by omega,HF⟩
    case measure=>simp[intOf];omega
   |true=>?_
   cases q2:t.parent==st with
   |false=>
    have HF:=hid (no (by rw[hP,q1,q2];rfl));clear HA hm hp hS hs hP no
    go_wp2_with fail
    go_round
    case rel=>exact⟨k+1,by go_num,by omega,HF⟩
    case measure=>simp[intOf];omega
   |true=>?_
   cases q3:Ch.has s.act (k:Int)with
   |false=>
    have HF:=hid (no (by rw[hP,q1,q2,q3];rfl));rw[q3]at E1;clear HA hm hp hS hs hP no
    go_wp2_with fail
    refine bH E1 ?_;rintro x w1 ⟨rfl,rfl⟩;go_wp2
    go_round
    case rel=>exact⟨k+1,by go_num,by omega,HF⟩
    case measure=>simp[intOf];omega
   |true=>?_
   have HF:=hid (show mi ol.ag s.act st=true from I2 hlt (by rw[hP,q1,q2,q3];rfl));rw[q3]at E1;clear HA hm hp hS hs hP no
   go_wp2_with fail
   refine bH E1 ?_;rintro x w1 ⟨rfl,rfl⟩;go_wp2;go_ret;exact⟨by rw[HF.out];rfl,rfl⟩
  have hge:¬(k:Int)<(ol.ag.length:Int):=by omega
  obtain rfl:k=ol.ag.length:=by omega
  have HF:=hid (show mi ol.ag s.act st=false from HA.out);obtain⟨ao,cap,c2⟩:=hS.len;clear HA hm hp hS
  go_wp2_with fail
  go_ret;exact⟨by rw[HF.out];rfl,rfl⟩
theorem MW(f:Nat)(st:Int)(hm:iq w mb ob po s qv ov)(hp:Pl w ob po ol)(hl:ol.ag.length<=16)
 (IH:∀i:Nat,i<ol.ag.length->aB ol.ag i st=true->Calls prog 219 #[.pointer (some ⟨mb,0,none⟩),.int .i64 i] w λx w'=>x= .returned (.bool (eh ol.ag s.act f i))/\w'=w):
 Calls prog 254 #[.pointer (some ⟨mb,0,none⟩),.int .i64 st] w λx w'=>x= .returned (.bool (sk (λi=>!Ch.aB ol.ag i st||eh ol.ag s.act f (i:Int)) ol.ag.length))/\w'=w:=by
 have cp:=hm.plan;have hS:=hp.str;obtain⟨ao,cap,c2⟩:=hS.len
 go_enter func254,ntmps254
 go_wp2_with fail
 go_loop [5] (λi=>∃k:Nat,i= .int .i64 k/\k<=ol.ag.length/\Hid (sk (λi=>!Ch.aB ol.ag i st||eh ol.ag s.act f (i:Int)) k=true)) (λi=>ol.ag.length-(intOf i).toNat)
 case atStart=>exact⟨0,rfl,Nat.zero_le _,hid rfl⟩
 case round=>
  obtain⟨k,rfl,hk,HA⟩:=hrel
  by_cases hlt:k<ol.ag.length
  ·have hlt':(k:Int)<(ol.ag.length:Int):=by omega
   have E1:=hid (iZ ob po w ol.ag k st hS (by omega))
   cases q1:aB ol.ag k st with
   |false=>
    have HF:=hid (show sk (λi=>!Ch.aB ol.ag i st||eh ol.ag s.act f (i:Int)) (k+1)=true by rw[D8,HA.out,q1];rfl);rw[q1]at E1;clear HA hm hp hS IH
    go_wp2_with fail
    refine bH E1 ?_;rintro x w1 ⟨rfl,rfl⟩;go_wp2
    go_round
    case rel=>exact⟨k+1,by go_num,by omega,HF⟩
    case measure=>simp[intOf];omega
   |true=>?_
   have E2:=hid (IH k hlt q1);rw[q1]at E1
   cases q2:eh ol.ag s.act f (k:Int)with
   |true=>
    have HF:=hid (show sk (λi=>!Ch.aB ol.ag i st||eh ol.ag s.act f (i:Int)) (k+1)=true by rw[D8,HA.out,q1,q2];rfl);rw[q2]at E2;clear HA hm hp hS IH
    go_wp2_with fail
    refine bH E1 ?_;rintro x w1 ⟨rfl,rfl⟩
    go_wp2_with fail
    refine bH E2 ?_;rintro x w1 ⟨rfl,rfl⟩;go_wp2
    go_round
    case rel=>exact⟨k+1,by go_num,by omega,HF⟩
    case measure=>simp[intOf];omega
   |false=>?_
   have HF:=hid (show sk (λi=>!Ch.aB ol.ag i st||eh ol.ag s.act f (i:Int)) ol.ag.length=false from Zq hlt (by rw[q1,q2];rfl));rw[q2]at E2;clear HA hm hp hS IH
   go_wp2_with fail
   refine bH E1 ?_;rintro x w1 ⟨rfl,rfl⟩
   go_wp2_with fail
   refine bH E2 ?_;rintro x w1 ⟨rfl,rfl⟩;go_wp2;go_ret;exact⟨by rw[HF.out];rfl,rfl⟩
  have hge:¬(k:Int)<(ol.ag.length:Int):=by omega
  obtain rfl:k=ol.ag.length:=by omega
  clear hm hp hS IH
  go_wp2_with fail
  go_ret;exact⟨by rw[HA.out];rfl,rfl⟩
theorem MX(hm:iq w mb ob po s qv ov)(hw:s.Wf)(hp:Pl w ob po ol)(hU:Up ol.ag)(hl:ol.ag.length<=16):∀(f:Nat) (st:Int),(ol.ag.length:Int)<st+f->st<=ol.ag.length->
 Calls prog 219 #[.pointer (some ⟨mb,0,none⟩),.int .i64 st] w λx w'=>x= .returned (.bool (eh ol.ag s.act f st))/\w'=w:=by
 intro f
 induction f with
 |zero=>intro st h1 h2;omega
 |succ f ih=>?_
 intro st h1 h2;have cp:=hm.plan;have E1:=hid (ky ob po w ol.ag st hp.str (by omega));have E2:=hid (MV w mb ob po s qv ov ol st hm hw hp hl)
 have E3:=hid (MW w mb ob po s qv ov ol f st hm hp hl (λi hi hc=>ih i (by
  have:st<(i:Int):=by
   obtain⟨t,ht⟩:∃t,ol.ag[i]? =some t:=⟨_,List.getElem?_eq_getElem hi⟩
   have:=hU i t ht;simp[aB,dD,ht]at hc;omega
  omega) (by omega)))
 clear ih
 cases q1:aA ol.ag st==2 with
 |true=>
  rw[show eh ol.ag s.act (f+1) st=mi ol.ag s.act st by simp only[eh];rw[q1];rfl];clear hm hp E3
  go_enter func219,ntmps219
  go_wp2_with fail
  refine bH E1 ?_;rintro x w1 ⟨rfl,rfl⟩
  go_wp2_with fail
  refine bH E2 ?_;rintro x w1 ⟨rfl,rfl⟩;go_wp2;go_ret;exact⟨rfl,rfl⟩
 |false=>?_
 cases q2:aA ol.ag st==3 with
 |true=>
  rw[show eh ol.ag s.act (f+1) st=sk (λi=>!Ch.aB ol.ag i st||eh ol.ag s.act f (i:Int)) ol.ag.length by simp only[eh];rw[q1,q2];rfl];clear hm hp E2
  go_enter func219,ntmps219
  go_wp2_with fail
  refine bH E1 ?_;rintro x w1 ⟨rfl,rfl⟩
  go_wp2_with fail
  refine bH E3 ?_;rintro x w1 ⟨rfl,rfl⟩;go_wp2;go_ret;exact⟨rfl,rfl⟩
 |false=>?_
 rw[show eh ol.ag s.act (f+1) st=false by simp only[eh];rw[q1,q2];rfl];clear hm hp E2 E3
 go_enter func219,ntmps219
 go_wp2_with fail
 refine bH E1 ?_;rintro x w1 ⟨rfl,rfl⟩;go_wp2;go_ret;exact⟨rfl,rfl⟩
theorem D9(st:Int)(hm:iq w mb ob po s qv ov)(hw:s.Wf)(hp:Pl w ob po ol)(hU:Up ol.ag)(hl:ol.ag.length<=16)(h1: -1<=st)(h2:st<=ol.ag.length):
 Calls prog 219 #[.pointer (some ⟨mb,0,none⟩),.int .i64 st] w λx w'=>x= .returned (.bool (Ch.atEnd ol.ag s.act st))/\w'=w:=
 MX w mb ob po s qv ov ol hm hw hp hU hl _ st (by omega) h2
end
namespace Ch
def eR(ss:List St)(m:Ma)(st:Int):Ma:=
 if st== -1 then m
 else if(aA ss (aw ss st)==3)&&atEnd ss m.s.act (aw ss st)then {m with q:=m.q++[dN ss st.toNat]++[dN ss (aw ss st).toNat]}
 else {m with q:=m.q++[dN ss st.toNat]}
def cK(m:Ma)(i:Int)(v:Bool):Ma:={m with s:={m.s with act:=pH m.s.act i v}}
def bY(ol:Ol)(m:Ma)(i:Nat):Ma:=
 if aA ol.ag i==4 then eR ol.ag (df i 94 ol.dz (cK m i true)) (aw ol.ag i)else df i 94 ol.dz (cK m i true)
def bP(ol:Ol)(left:List Bool):Nat->Ma->Ma
 |0,m=>m
 |k+1,m=>bP ol left k (if has left (k:Int)then cK (df k 36 ol.dz m) k false else m)
theorem k_{m:Ma}(h:m.s.Ok)(i:Int)(v:Bool):(cK m i v).s.Ok:=by
 obtain⟨⟨h0,h1⟩,h2⟩:=h;exact⟨⟨by show(pH m.s.act i v).length=16;rw[kz];exact h0,h1⟩,h2⟩
theorem pR(ss:List St)(m:Ma)(st:Int):(eR ss m st).s=m.s/\(eR ss m st).out=m.out/\(eR ss m st).q.length<=m.q.length+2:=by
 unfold eR
 split
 ·simp
 split<;>simp
theorem ux{ol:Ol}(hol:ol.Ok)(state sign:Int){m:Ma}{n:Nat}(h:m.Sz n):(df state sign ol.dz m).Sz (n+115200):=by
 have h1:=VH state sign ol.dz h (λb hb=>(hol.rh b hb).1);have h2:=hol.dz;unfold Ma.Sz at*;omega
theorem Hy1:∀ l m,(cJ l m).out.length<=m.out.length+l.length:=by
 intro l;induction l with
 |nil=>grind[cJ]
 |cons a l D=>?_
 grind[Gp,cJ]
theorem wFa st sg:∀ l m,(df st sg l m).out.length<=m.out.length+wBl l:=by
 intro l;induction l with
 |nil=>grind[df]
 |cons b l D=>grind[df,wBl,Hy1]
theorem wDd{ol:Ol}(h:ol.Ok)left:∀ k m,(bP ol left k m).out.length<=m.out.length+120*k:=by
 intro k;induction k with
 |zero=>grind[bP]
 |succ k D=>?_
 intro m;simp only[bP];have E:=wFa k 36 ol.dz m;have:=h.wB;split
 ·have:=D (cK (df k 36 ol.dz m) k false);have e:(cK (df k 36 ol.dz m) k false).out=(df k 36 ol.dz m).out:=rfl;rw[e]at this;omega
 have:=D m;omega
theorem wDt{ol:Ol}(h:ol.Ok)m i:(bY ol m i).out.length<=m.out.length+120:=by
 have:=h.wB;have E:=wFa i 94 ol.dz (cK m i true);have e:(cK m i true).out=m.out:=rfl;rw[e]at E;unfold bY;grind[pR]
theorem vm{ol:Ol}{m:Ma}(h:m.s.Ok)(i:Nat):(bY ol m i).s.Ok:=by
 unfold bY
 split
 ·rw[(pR _ _ _).1];exact s7 _ _ _ (k_ h _ _)
 exact s7 _ _ _ (k_ h _ _)
theorem vn{ol:Ol}(hol:ol.Ok){m:Ma}{n:Nat}(h:m.Sz n)(i:Nat):(bY ol m i).Sz (n+115202):=by
 have h1:=ux hol i 94 (m:=cK m i true) (n:=n) h;unfold bY
 split
 ·have h2:=pR ol.ag (df i 94 ol.dz (cK m i true)) (aw ol.ag i)
  unfold Ma.Sz at*;rw[h2.2.1];omega
 unfold Ma.Sz at*;omega
theorem Zr{ss:List St}{i:Int}(h:(aA ss i==3)=true):∃(k:Nat) (s:St),i=k/\ss[k]? =some s/\k<ss.length:=by
 unfold aA at h
 cases q:lM ss i with
 |none=>rw[q]at h;simp at h
 |some s=>obtain⟨k,e,hs,hk⟩:=iz q;exact⟨k,s,e,hs,hk⟩
end Ch
theorem Mm.put{w w':World}{B mb ob po:Nat}{s s':Sd}{qv ov:Value}{q out:List Int}(hm:iq w mb ob po s qv ov)(oq:cD w B qv (ar q))(oo:cD w B ov (ar out))(ap:Apart qv ov)
 (k:Kp (λk=>k=mb) w w') (h':iq w' mb ob po s' qv ov):Mm w' B mb ob po ⟨s',q,out⟩/\Kp (km B mb w) w w':=by
 have n1:=oq.ne hm (by decide);have n2:=oo.ne hm (by decide);exact⟨⟨qv,ov,h',oq.keep k (λi hi x=>by subst x;exact n1 hi),oo.keep k (λi hi x=>by subst x;exact n2 hi),ap⟩,(Kp.refl _ _).trans' k (λi _ x=>.inl x)⟩
theorem Mm.plan{w:World}{B mb ob po:Nat}{m:Ma}(h:Mm w B mb ob po m):w.cell? ⟨mb,0,none⟩=some (.pointer (some ⟨ob,po,none⟩)):=by
 obtain⟨qv,ov,hm,_⟩:=h;exact hm.plan
section
variable (w:World) (B mb ob po:Nat) (ol:Ol)
theorem I3(m:Ma)(st:Int)(hp:Pl w ob po ol)(hol:ol.Ok)(h:Mm w B mb ob po m)(hs:m.s.Ok)(hB:B<=w.heap.size)(hz:m.Sz 950000000)(h1: -1<=st)(h2:st<ol.ag.length):
 Calls prog 168 #[.pointer (some ⟨mb,0,none⟩),.int .i64 st] w λx w'=>x= .returned (.tuple #[])/\Mm w' B mb ob po (eR ol.ag m st)/\Kp (km B mb w) w w':=by
 cases q1:st== -1 with
 |true=>
  rw[show eR ol.ag m st=m by unfold eR;rw[q1];rfl]
  go_enter func168,ntmps168
  go_wp2;refine bodyPost_ret (results_none rfl _ _ _) rfl ?_;exact⟨rfl,h,Kp.refl _ _⟩
 |false=>?_
 have q1':st≠ -1:=by simpa using q1
 obtain⟨k,rfl⟩:∃k:Nat,st=k:=⟨st.toNat,by omega⟩
 have hk:k<ol.ag.length:=by omega
 obtain⟨t,ht⟩:∃s,ol.ag[k]? =some s:=⟨_,List.getElem?_eq_getElem hk⟩
 have hkl:(k:Int)<(ol.ag.length:Int):=by omega
 have cp:=h.plan;obtain⟨g,cap,c2,a0,a1,a2,a3⟩:=hp.str.at_ ht;have hz1:=hz.1;have uT:=hol.ag
 have hnm:dN ol.ag (k:Int).toNat=t.name:=by simp[dN,ht]
 have E1:=hid (uu w B mb ob po m t.name h hs.1 hB (by omega));have hlo:=fH hol.up (k:Int);have hlt:=gP hol.up (i:=(k:Int)) (by omega)
 cases q2:aA ol.ag (aw ol.ag k)==3 with
 |false=>
  rw[show eR ol.ag m k={m with q:=m.q++[t.name]}by unfold eR;rw[q1,q2,hnm];rfl];have HH:=hid (ae h hp);clear h hp
  go_enter func168,ntmps168
  go_wp2_with fail
  refine bH E1 ?_;rintro x w1 ⟨rfl,M1,K1⟩;have hp1:=HH.out.1.pl K1 HH.out.2;have cp1:=M1.plan;have E2:=hid (fW ob po w1 ol.ag k hp1.str (by omega));have E3:=hid (ky ob po w1 ol.ag (aw ol.ag k) hp1.str (by omega));clear E1 HH a0 a1 a2 a3 c2 cp hp1
  go_wp2_with fail
  refine bH E2 ?_;rintro x w2 ⟨rfl,rfl⟩
  go_wp2_with fail
  refine bH E3 ?_;rintro x w2 ⟨rfl,rfl⟩;go_wp2
  go_end0
  exact⟨rfl,M1,K1⟩
 |true=>?_
 obtain⟨kp,tp,ep,htp,hkp⟩:=Zr q2
 have anR:(kp:Int)<(ol.ag.length:Int):=by omega
 cases q3:Ch.atEnd ol.ag m.s.act (aw ol.ag k)with
 |false=>
  rw[show eR ol.ag m k={m with q:=m.q++[t.name]}by unfold eR;rw[q1,q2,q3,hnm];rfl];have HH:=hid (ae h hp);clear h hp ep
  go_enter func168,ntmps168
  go_wp2_with fail
  refine bH E1 ?_;rintro x w1 ⟨rfl,M1,K1⟩;have hp1:=HH.out.1.pl K1 HH.out.2;have cp1:=M1.plan;have E2:=hid (fW ob po w1 ol.ag k hp1.str (by omega));have E3:=hid (ky ob po w1 ol.ag (aw ol.ag k) hp1.str (by omega));obtain⟨qv,ov,hm1,_⟩:=id M1;have E4:=hid (D9 w1 mb ob po m.s qv ov ol (aw ol.ag k) hm1 hs.1 hp1 hol.up hol.ag hlo (by omega));rw[q3]at E4;clear E1 HH a0 a1 a2 a3 c2 cp hp1 hm1
  go_wp2_with fail
  refine bH E2 ?_;rintro x w2 ⟨rfl,rfl⟩
  go_wp2_with fail
  refine bH E3 ?_;rintro x w2 ⟨rfl,rfl⟩
  go_wp2_with fail
  refine bH E4 ?_;rintro x w2 ⟨rfl,rfl⟩;go_wp2
  go_end0
  exact⟨rfl,M1,K1⟩
 |true=>?_
 rw[show eR ol.ag m k={m with q:=m.q++[t.name]++[tp.name]}by unfold eR;rw[q1,q2,q3,hnm,ep];simp[dN,htp]];have HH:=hid (ae h hp);have EP:=hid ep;clear h hp ep
 go_enter func168,ntmps168
 go_wp2_with fail
 refine bH E1 ?_;rintro x w1 ⟨rfl,M1,K1⟩;have hp1:=HH.out.1.pl K1 HH.out.2;have cp1:=M1.plan;have E2:=hid (fW ob po w1 ol.ag k hp1.str (by omega));have E3:=hid (ky ob po w1 ol.ag (aw ol.ag k) hp1.str (by omega));obtain⟨qv,ov,hm1,_⟩:=id M1;have E4:=hid (D9 w1 mb ob po m.s qv ov ol (aw ol.ag k) hm1 hs.1 hp1 hol.up hol.ag hlo (by omega));rw[q3]at E4;rw[EP.out]at E2 E3 E4 q2;clear EP;obtain⟨g',cap',c2',b0,b1,b2,b3⟩:=hp1.str.at_ htp;have E5:=hid (uu w1 B mb ob po {m with q:=m.q++[t.name]} tp.name M1 hs.1 (by have:=K1.size;omega) (by simp;omega));clear E1 HH a0 a1 a2 a3 c2 cp hp1 hm1
 go_wp2_with fail
 refine bH E2 ?_;rintro x w2 ⟨rfl,rfl⟩
 go_wp2_with fail
 refine bH E3 ?_;rintro x w2 ⟨rfl,rfl⟩
 go_wp2_with fail
 refine bH E4 ?_;rintro x w2 ⟨rfl,rfl⟩
 go_wp2_with fail
 refine bH E5 ?_;rintro x w5 ⟨rfl,M5,K5⟩;have K6:=Km.trans K1 K5;clear E5 M1 K1 K5 b0 b1 b2 b3 c2' cp1;go_wp2
 go_end0
 exact⟨rfl,M5,K6⟩
theorem AO(m:Ma)(k:Nat)(hp:Pl w ob po ol)(hol:ol.Ok)(h:Mm w B mb ob po m)(hs:m.s.Ok)(hB:B<=w.heap.size)(hz:m.Sz 900000000)(hk:k<ol.ag.length):
 Calls prog 118 #[.pointer (some ⟨mb,0,none⟩),.int .i64 k] w λx w'=>x= .returned (.tuple #[])/\Mm w' B mb ob po (bY ol m k)/\Kp (km B mb w) w w':=by
 obtain⟨t,ht⟩:∃s,ol.ag[k]? =some s:=⟨_,List.getElem?_eq_getElem hk⟩
 have hkl:(k:Int)<(ol.ag.length:Int):=by omega
 have hkd:aA ol.ag k=t.kind:=by simp[aA,dD,ht]
 have Gc:aw ol.ag k=t.parent:=by simp[aw,dD,ht]
 have hup:=hol.up k t ht;obtain⟨qv,ov,hm,oq,oo,ap⟩:=id h;have E1:=hid (Gh w mb 1 [.pointer (some ⟨ob,po,none⟩)] m.s.act (cf m.s++[qv,ov]) 149 k hm hs.1.1 rfl);have HH:=hid (ae h (ae hp (ae hm (ae oq (ae oo ap)))));have hz2:=ux hol k 94 (m:=cK m k true) (n:=900000000) hz;have hok1:=k_ hs (k:Int) true;have hok2:=s7 (k:Int) 94 ol.dz hok1;clear h hp hm oq oo ap
 cases q1:t.kind==4 with
 |false=>
  rw[show bY ol m k=df k 94 ol.dz (cK m k true)by unfold bY;rw[hkd,q1];rfl]
  go_enter func118,ntmps118
  go_wp2_with fail
  refine bH E1 ?_;rintro x w1 ⟨rfl,h1,K1⟩;obtain⟨h,hp,hm,oq,oo,ap⟩:=HH.out;obtain⟨M1,Zs⟩:=Mm.put (s':=(cK m k true).s) hm oq oo ap K1 (by exact h1);have hp1:=h.pl Zs hp;have E2:=hid (rA w1 B mb ob po (cK m k true) ol k 94 hp1 hol M1 hok1 (by have:=Zs.size;omega) ⟨by have:=hz.1;show m.q.length<=_;omega,by have:=hz.2;show m.out.length<=_;omega⟩);have HM:=hid M1;clear h hp hm oq oo ap HH E1 h1 K1 M1
  go_wp2_with fail
  refine bH E2 ?_;rintro x w2 ⟨rfl,M2,K2⟩;have hp2:=HM.out.pl K2 hp1;have cp2:=M2.plan;obtain⟨g,cap,c2,a0,a1,a2,a3⟩:=hp2.str.at_ ht;have KM2:=Km.trans Zs K2;clear E2 HM K2 Zs hp2 hp1;go_wp2
  go_end0
  exact⟨rfl,M2,KM2⟩
 |true=>?_
 rw[show bY ol m k=eR ol.ag (df k 94 ol.dz (cK m k true)) t.parent by unfold bY;rw[hkd,q1,Gc];rfl]
 go_enter func118,ntmps118
 go_wp2_with fail
 refine bH E1 ?_;rintro x w1 ⟨rfl,h1,K1⟩;obtain⟨h,hp,hm,oq,oo,ap⟩:=HH.out;obtain⟨M1,Zs⟩:=Mm.put (s':=(cK m k true).s) hm oq oo ap K1 (by exact h1);have hp1:=h.pl Zs hp;have E2:=hid (rA w1 B mb ob po (cK m k true) ol k 94 hp1 hol M1 hok1 (by have:=Zs.size;omega) ⟨by have:=hz.1;show m.q.length<=_;omega,by have:=hz.2;show m.out.length<=_;omega⟩);have HM:=hid M1;clear h hp hm oq oo ap HH E1 h1 K1 M1
 go_wp2_with fail
 refine bH E2 ?_;rintro x w2 ⟨rfl,M2,K2⟩;have hp2:=HM.out.pl K2 hp1;have cp2:=M2.plan;obtain⟨g,cap,c2,a0,a1,a2,a3⟩:=hp2.str.at_ ht;have KM2:=Km.trans Zs K2;have E3:=hid (I3 w2 B mb ob po ol (df k 94 ol.dz (cK m k true)) t.parent hp2 hol M2 hok2 (by have:=KM2.size;omega) ⟨by have:=hz2.1;omega,by have:=hz2.2;omega⟩ hup.1 (by omega));clear E2 HM K2 Zs hp2 hp1 M2
 go_wp2_with fail
 refine bH E3 ?_;rintro x w3 ⟨rfl,M3,K3⟩;have KM3:=Km.trans KM2 K3;clear E3 K3 KM2 a0 a1 a2 a3 c2 cp2;go_wp2
 go_end0
 exact⟨rfl,M3,KM3⟩
end
section
variable (w:World) (B mb ob po:Nat) (ol:Ol)
theorem RM(m:Ma)(lb:Nat)(l:List Bool)(hL:ju w lb [] l [] 91)(h16:l.length=16)(hp:Pl w ob po ol)(hol:ol.Ok)(h:Mm w B mb ob po m)(hs:m.s.Ok)(hB:B<=w.heap.size)(hz:m.Sz 900000000):
 Calls prog 133 #[.pointer (some ⟨mb,0,none⟩),.pointer (some ⟨lb,0,none⟩)] w λx w'=>x= .returned (.tuple #[])/\Mm w' B mb ob po (bP ol l ol.ag.length m)/\Kp (km B mb w) w w':=by
 have cp:=h.plan;obtain⟨ao,cap,c2⟩:=hp.str.len;have uT:=hol.ag;have hz1:=hz.1;have hz2:=hz.2
 go_enter func133,ntmps133
 go_wp2_with fail
 go_loopw [4] (λi wr=>∃(k:Nat) (m':Ma),i= .int .i64 ((k:Int)-1)/\k<=ol.ag.length/\Hid (bP ol l ol.ag.length m=bP ol l k m')/\Mm wr B mb ob po m'/\m'.s.Ok/\m'.Sz (900000000+115200*(ol.ag.length-k))/\Kp (km B mb w) w wr) (λi _=>(intOf i+1).toNat)
 case atStart=>exact⟨ol.ag.length,m,by go_num,Nat.le_refl _,hid rfl,h,hs,⟨by omega,by omega⟩,Kp.refl _ _⟩
 case round=>
  obtain⟨k,m',rfl,hk,HE,hm',hs',hz',KW⟩:=hrel;have hpr:Pl wr ob po ol:=h.pl KW hp;have IY:ju wr lb [] l [] 91:=h.at_ KW hL (by decide) (by decide)
  have hBr:B<=wr.heap.size:=by have:=KW.size;omega
  cases k with
  |zero=>
   have HF:=hid (HE.out.trans (show _=m' from rfl));clear HE hpr IY cp c2
   go_wp2_with fail
   go_end0
   rw[HF.out];exact⟨rfl,hm',KW⟩
  |succ k=>?_
  have e1:((k+1:Nat):Int)-1=k:=by omega
  rw[e1];have E1:=hid (jw wr lb 0 [] l [] 91 k IY h16 rfl)
  have hge:(0:Int)<=(k:Int):=by omega
  cases q1:Ch.has l (k:Int)with
  |false=>
   rw[q1]at E1;have HF:=hid (HE.out.trans (show _=bP ol l k m' by simp only[bP];rw[q1];rfl));clear HE hpr IY cp c2 e1
   go_wp2_with fail
   refine bH E1 ?_;rintro x w1 ⟨rfl,rfl⟩;go_wp2
   go_roundw
   case rel=>exact⟨k,m',by go_num,by omega,HF,hm',hs',⟨by have:=hz'.1;omega,by have:=hz'.2;omega⟩,KW⟩
   case measure=>simp[intOf]
  |true=>?_
  rw[q1]at E1;have HF:=hid (HE.out.trans (show _=bP ol l k (cK (df k 36 ol.dz m') k false)by simp only[bP];rw[q1];rfl))
  have hzb:m'.Sz 990000000:=⟨by have:=hz'.1;omega,by have:=hz'.2;omega⟩
  have E2:=hid (rA wr B mb ob po m' ol k 36 hpr hol hm' hs' hBr hzb);have hz3:=ux hol (k:Int) 36 hz';have hok:=s7 (k:Int) 36 ol.dz hs';have hok2:=k_ hok (k:Int) false;clear HE hpr IY cp c2 e1 hm'
  go_wp2_with fail
  refine bH E1 ?_;rintro x w1 ⟨rfl,rfl⟩
  go_wp2_with fail
  refine bH E2 ?_;rintro x w2 ⟨rfl,M2,K2⟩;have K3:=Km.trans KW K2;obtain⟨qv,ov,hm2,oq,oo,ap⟩:=id M2;have E3:=hid (Vs w2 mb 1 [.pointer (some ⟨ob,po,none⟩)] (df k 36 ol.dz m').s.act (cf (df k 36 ol.dz m').s++[qv,ov]) 149 k hm2 hok.1.1 rfl);have HH:=hid (ae hm2 (ae oq (ae oo ap)));clear E1 E2 K2 M2 hm2 oq oo ap
  go_wp2_with fail
  refine bH E3 ?_;rintro x w4 ⟨rfl,h4,K4⟩;obtain⟨hm2,oq,oo,ap⟩:=HH.out;obtain⟨M4,KM4⟩:=Mm.put (s':=(cK (df k 36 ol.dz m') k false).s) hm2 oq oo ap K4 (by exact h4);have K5:=Km.trans K3 KM4;clear E3 HH hm2 oq oo ap h4 K4 KM4 K3;go_wp2
  go_roundw
  case rel=>exact⟨k,_,by go_num,by omega,HF,M4,hok2,⟨by have:=hz3.1;show(df k 36 ol.dz m').q.length<=_;omega,by have:=hz3.2;show(df k 36 ol.dz m').out.length<=_;omega⟩,K5⟩
  case measure=>simp[intOf]
end
end Go.Proofs.YtnlbchmfcebeeaaGreat
