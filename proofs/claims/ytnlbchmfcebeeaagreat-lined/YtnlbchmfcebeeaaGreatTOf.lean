import Derived.Test.YtnlbchmfcebeeaaGreatTOd
set_option maxHeartbeats 12800000
set_option maxRecDepth 100000
namespace Go.Proofs.YtnlbchmfcebeeaaGreat
open Go.Proofs.Tryz Ch
open Go.RowKit
namespace Ch
def DY(s:As)(o:ByteArray)(n:Nat):Ln:=⟨[s],o,List.replicate n false,List.replicate n ⟨0,⟨#[]⟩,0⟩,List.replicate n 0,List.replicate n 0⟩
end Ch
theorem yP{α:Type}(f:α->List Value)(a:α)(k n:Nat)(hl:(f a).length=k)(hk:0<k):madeCells (f a).toArray (n*k)=((List.replicate n a).flatMap f).toArray:=by
 have ha:∀b∈List.replicate n a,(f b).length=k:=by
  intro b hb;rw[List.eq_of_mem_replicate hb];exact hl
 have hf:=tV f k (List.replicate n a) ha;rw[List.length_replicate]at hf;apply Array.ext_getElem?;intro i;unfold madeCells
 have e1:((List.replicate n a).flatMap f).toArray[i]? =((List.replicate n a).flatMap f)[i]?:=by simp
 rw[e1]
 by_cases hi:i<n*k
 ·have h1:i/k<n:=(Nat.div_lt_iff_lt_mul hk).2 hi
  have h2:i % k<k:=Nat.mod_lt _ hk
  have h3:i % k<(f a).length:=by omega
  have:=jP f k (List.replicate n a) (i/k) a (i % k) ha (by rw[List.getElem?_replicate,if_pos h1]) h2;rw[Nat.div_add_mod']at this;rw[this,List.getElem?_eq_getElem h3];simp[hi,hl,h2]
 rw[List.getElem?_eq_none (by rw[hf];omega),Array.getElem?_eq_none (by simp;omega)]
theorem Mc{α:Type}(f:α->Value)(l:List α):l.flatMap (λb=>[f b])=l.map f:=by
 induction l with
 |nil=>rfl
 |cons a l ih=>simp[List.flatMap_cons,ih]
theorem aa_(n:Nat):madeCells #[Value.bool false] n=(mU (List.replicate n false)).toArray:=by
 have:=yP (λb=>[Value.bool b]) false 1 n rfl (by decide);rw[Nat.mul_one]at this;rw[show #[Value.bool false]=[Value.bool false].toArray from rfl,this];rw[Mc];rfl
theorem aba(n:Nat):madeCells #[Value.int .i64 0] n=(aJ (List.replicate n 0)).toArray:=by
 have:=yP (λb=>[Value.int .i64 b]) 0 1 n rfl (by decide);rw[Nat.mul_one]at this;rw[show #[Value.int .i64 0]=[Value.int .i64 0].toArray from rfl,this];rw[Mc];rfl
theorem abb(n:Nat):madeCells #[Value.int .i64 0,.string ⟨#[]⟩,.int .i64 0] (n*3)=(gq (List.replicate n ⟨0,⟨#[]⟩,0⟩)).toArray:=yP zv ⟨0,⟨#[]⟩,0⟩ 3 n rfl (by decide)
theorem aeb:(prog.info? 4).map (λi=>(i.zero,i.size,i.bytes))=some (some (.bool false),1,1):=by kernel_rfl
theorem aec:(prog.info? 79).map (λi=>(i.zero,i.size,i.bytes))=some (some (.agg #[.int .i64 0,.string ⟨#[]⟩,.int .i64 0]),3,32):=by kernel_rfl
theorem ahg(W:World){n:Nat}(h:n<=6):(Instr.makeSlice 68 (.int .i64 (n:Int)) (.int .i64 (n:Int))).run prog W= .ok (.slice (some ⟨W.heap.size,0,none⟩) n n) (W.alloc (.cells (mU (List.replicate n false)).toArray 4)):=by
 obtain⟨i0,hi0,hz0,hz1,hz2⟩:=info_parts aeb;have:=run_makeSlice (P:=prog) W 68 4 i0 (.bool false) underlying68 hi0 hz0 .i64 .i64 (n:Int) (n:Int) (by omega) (Int.le_refl _) (by rw[hz1];omega) (by rw[hz2];omega) (by omega);rw[this,hz1];simp only[Int.toNat_natCast,Nat.mul_one];rw[<-aa_ n];rfl
theorem ahh(W:World){n:Nat}(h:n<=6):(Instr.makeSlice 38 (.int .i64 (n:Int)) (.int .i64 (n:Int))).run prog W= .ok (.slice (some ⟨W.heap.size,0,none⟩) n n) (W.alloc (.cells (aJ (List.replicate n 0)).toArray 3)):=by
 obtain⟨i0,hi0,hz0,hz1,hz2⟩:=info_parts lI;have:=run_makeSlice (P:=prog) W 38 3 i0 (.int .i64 0) underlying38 hi0 hz0 .i64 .i64 (n:Int) (n:Int) (by omega) (Int.le_refl _) (by rw[hz1];omega) (by rw[hz2];omega) (by omega);rw[this,hz1];simp only[Int.toNat_natCast,Nat.mul_one];rw[<-aba n];rfl
theorem ahi(W:World){n:Nat}(h:n<=6):(Instr.makeSlice 69 (.int .i64 (n:Int)) (.int .i64 (n:Int))).run prog W= .ok (.slice (some ⟨W.heap.size,0,none⟩) n n) (W.alloc (.cells (gq (List.replicate n ⟨0,⟨#[]⟩,0⟩)).toArray 79)):=by
 obtain⟨i0,hi0,hz0,hz1,hz2⟩:=info_parts aec;have:=run_makeSlice (P:=prog) W 69 79 i0 (.agg #[.int .i64 0,.string ⟨#[]⟩,.int .i64 0]) underlying69 hi0 hz0 .i64 .i64 (n:Int) (n:Int) (by omega) (Int.le_refl _) (by rw[hz1];omega) (by rw[hz2];omega) (by omega);rw[this,hz1];simp only[Int.toNat_natCast];rw[<-abb n];rfl
def YL(w w':World)(t:ByteArray)(n:Nat)(xv wv:Value):Prop:=
 ((Ch.mstart (Ch.read t).2.2).2.2≠0->xv= .pointer none)/\((Ch.mstart (Ch.read t).2.2).2.2=0->∃xb tb pc kv p av,xv= .pointer (some ⟨xb,0,none⟩)/\wv= .pointer (some ⟨p.wb,0,none⟩)/\dT w' xb tb 138 pc (Ch.read t).2.2 (lE (Ch.read t).2.2 n) kv/\h_ w' p t (DY (aH (Ch.read t).2.2.ag (Ch.mstart (Ch.read t).2.2).1) (Ch.mstart (Ch.read t).2.2).2.1 n) av/\(∀k,oN xb tb kv k->w.heap.size<=k)/\∀k,oe p av k->w.heap.size<=k)
section
variable (w:World)
theorem FU(t:ByteArray)(n:Nat)(h1:1<=n)(h6:n<=6)(hrd:(Ch.read t).1=0)(he:(Ch.mstart (Ch.read t).2.2).2.2=0\/(Ch.mstart (Ch.read t).2.2).2.2=9):
 Calls prog 34 #[.string t,.int .i64 (n:Int)] w λr w'=>∃xv wv,r= .returned (.tuple #[xv,wv,.bool true])/\YL w w' t n xv wv/\Kp (λ_=>False) w w':=by
 obtain⟨da,dE,bq⟩:=fN;obtain⟨i0,hi0,hz0,hz1,hz2⟩:=info_parts PK;have ES:=hid (jX w t)
 have EN:∀W,Hid (Calls prog 58 #[.string t,.int .i64 (n:Int)] W λr w'=>∃v,r= .returned (.tuple #[v,.int .i64 (sG t n)])/\UM W w' t n v/\Kp (λ_=>False) W w'):=λW=>hid (Yr W t n)
 have hne:sG t n=(Ch.mstart (Ch.read t).2.2).2.2:=by
  unfold sG;rw[hrd,if_neg (by simp),if_neg (by omega)]
 have hcs:jf t=if(Ch.mstart (Ch.read t).2.2).2.2 !=0 then(dX,⟨#[]⟩,(Ch.mstart (Ch.read t).2.2).2.2)else(aH (Ch.read t).2.2.ag (Ch.mstart (Ch.read t).2.2).1,(Ch.mstart (Ch.read t).2.2).2.1,0):=by
  unfold jf;rw[hrd,if_neg (by simp)]
 have HQ:=hid (show∀W w' v,UM W w' t n v->((Ch.mstart (Ch.read t).2.2).2.2≠0->v= .pointer none)/\((Ch.mstart (Ch.read t).2.2).2.2=0->∃xb tb pc kv,v= .pointer (some ⟨xb,0,none⟩)/\dT w' xb tb 138 pc (Ch.read t).2.2 (lE (Ch.read t).2.2 n) kv/\∀k,oN xb tb kv k->W.heap.size<=k)by
  intro W w' v hq;unfold UM at hq;rw[hne]at hq;refine⟨hq.1,λz=>?_⟩;obtain⟨xb,tb,pc,kv,e1,e2,e3⟩:=hq.2 z
  exact⟨xb,tb,pc,kv,e1,by simpa using e2,e3⟩)
 have HB:=hid (show∀w' xv wv,YL w w' t n xv wv↔(((Ch.mstart (Ch.read t).2.2).2.2≠0->xv= .pointer none)/\((Ch.mstart (Ch.read t).2.2).2.2=0->∃xb tb pc kv p av,xv= .pointer (some ⟨xb,0,none⟩)/\wv= .pointer (some ⟨p.wb,0,none⟩)/\dT w' xb tb 138 pc (Ch.read t).2.2 (lE (Ch.read t).2.2 n) kv/\h_ w' p t (DY (aH (Ch.read t).2.2.ag (Ch.mstart (Ch.read t).2.2).1) (Ch.mstart (Ch.read t).2.2).2.1 n) av/\(∀k,oN xb tb kv k->w.heap.size<=k)/\∀k,oe p av k->w.heap.size<=k))from λ_ _ _=>Iff.rfl);rw[hne]at EN;rw[hcs]at ES;generalize YL w=BQ at*;clear hne hcs hrd;generalize (Ch.read t).2.2=ol at*;generalize lE ol n=X0 at*;generalize Ch.mstart ol=ms at*;obtain⟨s0,o0,e0⟩:=ms;simp only at*
 rcases he with rfl|rfl
 ·generalize aH ol.ag s0=a0 at*
  have HEN:=hid EN;clear EN;simp only[bne_self_eq_false,Bool.false_eq_true,if_false]at ES
  go_enter func34,ntmps34
  go_wp2_with fail
  refine hm ES ?_;rintro y w1 ⟨rfl,K1⟩;have hnb:=heap_alloc_new w1 (.cells aD 26);have hx2:=setRow_heap (w1.alloc (.cells aD 26)) w1.heap.size aD (aN a0) 26 (0,0) hnb;have K2:Kp (λ_=>False) w1 ((w1.alloc (.cells aD 26)).setRow w1.heap.size (aN a0)):=((Kp.refl _ _).alloc _).setRow (λx=>by omega) _;have KA:=K1.trans K2;clear ES K1 K2
  go_upto_region 2 with(refine wpList_store_row rfl 26 (.tmp 7) (.tmp 16) rfl w1.heap.size (aN a0) rfl rfl 26 aD hnb aP rfl (bZ _) ?_)
  generalize (w1.alloc (.cells aD 26)).setRow w1.heap.size (aN a0)=w2 at*;generalize w1.heap.size=ab at*;have EN:=HEN.out w2;clear hnb
  go_wp2_with fail
  refine hm EN ?_;rintro y w3 ⟨v,rfl,hq,K3⟩;obtain⟨xb,tb,pc,kv,rfl,yS,hfS⟩:=(HQ.out _ _ _ hq).2 (by first|rfl|trivial);have hx3:=K3.at_ hx2 (λx=>x);have KB:=KA.trans K3;have HFS:=hid (show∀k,oN xb tb kv k->w.heap.size<=k from λk hk=>Nat.le_trans KA.size (hfS k hk));clear EN hq K3 hx2 KA hfS
  have hmb:∀W:World,(Instr.makeSlice 68 (.int .i64 (n:Int)) (.int .i64 (n:Int))).run prog W= .ok (.slice (some ⟨W.heap.size,0,none⟩) n n) (W.alloc (.cells (mU (List.replicate n false)).toArray 4)):=λW=>ahg W h6
  have hmi:∀W:World,(Instr.makeSlice 38 (.int .i64 (n:Int)) (.int .i64 (n:Int))).run prog W= .ok (.slice (some ⟨W.heap.size,0,none⟩) n n) (W.alloc (.cells (aJ (List.replicate n 0)).toArray 3)):=λW=>ahh W h6
  have hmr:∀W:World,(Instr.makeSlice 69 (.int .i64 (n:Int)) (.int .i64 (n:Int))).run prog W= .ok (.slice (some ⟨W.heap.size,0,none⟩) n n) (W.alloc (.cells (gq (List.replicate n ⟨0,⟨#[]⟩,0⟩)).toArray 79)):=λW=>ahi W h6
  generalize hBO:(mU (List.replicate n false)).toArray=BO at*;generalize hIN:(aJ (List.replicate n 0)).toArray=IN at*;generalize zx:(gq (List.replicate n (⟨0,⟨#[]⟩,0⟩:Rq))).toArray=RQ at*;have HC:=hid (ae hBO (ae hIN zx));clear hBO hIN zx;have HBU:=hid (show prog.built 71 [(0,.string t),(1,.slice (some ⟨w3.heap.size,0,none⟩) 1 1),(2,.string o0)]=some #[.string t,.slice (some ⟨w3.heap.size,0,none⟩) 1 1,.string o0,.slice none 0 0,.slice none 0 0,.slice none 0 0,.slice none 0 0]by kernel_rfl);have K4:Kp (λ_=>False) w3 ((w3.alloc (.cells (aN a0) 26)).alloc (.cells #[.string t,.slice (some ⟨w3.heap.size,0,none⟩) 1 1,.string o0,.slice none 0 0,.slice none 0 0,.slice none 0 0,.slice none 0 0] 71)):=((Kp.refl _ _).alloc _).alloc _
  have hr4:((w3.alloc (.cells (aN a0) 26)).alloc (.cells #[.string t,.slice (some ⟨w3.heap.size,0,none⟩) 1 1,.string o0,.slice none 0 0,.slice none 0 0,.slice none 0 0,.slice none 0 0] 71)).heap[w3.heap.size]? =some (.cells (aN a0) 26):=by
   rw[Below.heap_alloc _ _ _ (by simp)];exact heap_alloc_new _ _
  have hl4:((w3.alloc (.cells (aN a0) 26)).alloc (.cells #[.string t,.slice (some ⟨w3.heap.size,0,none⟩) 1 1,.string o0,.slice none 0 0,.slice none 0 0,.slice none 0 0,.slice none 0 0] 71)).heap[w3.heap.size+1]? =some (.cells #[.string t,.slice (some ⟨w3.heap.size,0,none⟩) 1 1,.string o0,.slice none 0 0,.slice none 0 0,.slice none 0 0,.slice none 0 0] 71):=heap_alloc2_new w3 _ _;have HS:=hid (ae yS (ae KB K4));have Qt:=KB.size;clear yS KB K4
  go_upto_region 7 with(fail)
  go_upto_region 8 with(first|refine wpList_load_row rfl 26 (.tmp 7) rfl ab rfl 26 (aN a0) (0,0) da hx3 dE (by cases da<;>first|rfl|exact absurd bq (by simp[ak])) aP ?_|refine iK rfl 67 (.tmp 44) rfl 26 i0 (.agg aD) underlying67 hi0 hz0 (by omega) (by omega) (aN a0) rfl (by rw[hz1];rfl) ?_|(refine bX rfl 71 #[(0,.tmp 43),(1,.tmp 45),(2,.tmp 46)] rfl #[.string t,.slice (some ⟨w3.heap.size,0,none⟩) 1 1,.string o0,.slice none 0 0,.slice none 0 0,.slice none 0 0,.slice none 0 0] [(0,.string t),(1,.slice (some ⟨w3.heap.size,0,none⟩) 1 1),(2,.string o0)] ?_ HBU.out ?_;rfl))
  generalize (w3.alloc (.cells (aN a0) 26)).alloc (.cells #[.string t,.slice (some ⟨w3.heap.size,0,none⟩) 1 1,.string o0,.slice none 0 0,.slice none 0 0,.slice none 0 0,.slice none 0 0] 71)=w4 at*;generalize w3.heap.size=rb at*;clear hx3
  have ak5:=hid (show∀(b:Nat) (c:Array Value) (e:TypeId),w4.heap[b]? =some (.cells c e (0,0))->e≠71->¬b=rb+1 by
   intro b c e hb he x;rw[x,hl4]at hb;simp only[Option.some.injEq,Obj.cells.injEq]at hb
   exact he hb.2.1.symm)
  have ha3:=Below.heap_alloc w4 (.cells BO 4) (rb+1) (lt_of_block hl4);have hl5:(w4.alloc (.cells BO 4)).heap[rb+1]? =some (.cells #[.string t,.slice (some ⟨rb,0,none⟩) 1 1,.string o0,.slice none 0 0,.slice none 0 0,.slice none 0 0,.slice none 0 0] 71 (0,0)):=ha3.trans hl4
  have y3:(w4.alloc (.cells BO 4)).cell? ⟨rb+1,3,none⟩=some (.slice none 0 0):=by rw[World.cell?,hl5];rfl
  have f3:(w4.alloc (.cells BO 4)).frozen? ⟨rb+1,3,none⟩=false:=by simp[World.frozen?,hl5]
  have hlt3:rb+1<w4.heap.size:=lt_of_block hl4
  have Vn:((w4.alloc (.cells BO 4)).setCell ⟨rb+1,3,none⟩ (.slice (some ⟨w4.heap.size,0,none⟩) n n)).heap[rb+1]? =some (.cells #[.string t,.slice (some ⟨rb,0,none⟩) 1 1,.string o0,.slice (some ⟨w4.heap.size,0,none⟩) n n,.slice none 0 0,.slice none 0 0,.slice none 0 0] 71 (0,0)):=by rw[ah _ hl5];rfl
  have KK3:Kp (λk=>k=rb+1) w4 ((w4.alloc (.cells BO 4)).setCell ⟨rb+1,3,none⟩ (.slice (some ⟨w4.heap.size,0,none⟩) n n)):=((Kp.refl (λk=>k=rb+1) w4).alloc _).setCell (p:=⟨rb+1,3,none⟩) (λ_=>rfl) _
  have nD:((w4.alloc (.cells BO 4)).setCell ⟨rb+1,3,none⟩ (.slice (some ⟨w4.heap.size,0,none⟩) n n)).heap[w4.heap.size]? =some (.cells BO 4 (0,0)):=by
   rw[Below.heap_setCell _ _ _ _ (by show w4.heap.size≠rb+1;omega)];exact heap_alloc_new _ _
  have jV:((w4.alloc (.cells BO 4)).setCell ⟨rb+1,3,none⟩ (.slice (some ⟨w4.heap.size,0,none⟩) n n)).heap[rb]? =some (.cells (aN a0) 26 (0,0)):=KK3.at_ hr4 (by show¬rb=rb+1;omega);have HK3:=hid KK3;have aed:=hid (show¬w4.heap.size=rb+1 by omega);have ak7:=hid (show w.heap.size<=w4.heap.size by omega);clear KK3 hlt3 hl4 hl5 ha3 hr4
  go_upto_region 9 with(fail)
  clear y3 f3;generalize (w4.alloc (.cells BO 4)).setCell ⟨rb+1,3,none⟩ (.slice (some ⟨w4.heap.size,0,none⟩) n n)=w5 at*;generalize w4.heap.size=sb at*;have hl4:=Vn;clear Vn;have ahj:=nD;clear nD;have De:=Below.heap_alloc w5 (.cells RQ 79) (rb+1) (lt_of_block hl4);have hl5:(w5.alloc (.cells RQ 79)).heap[rb+1]? =some (.cells #[.string t,.slice (some ⟨rb,0,none⟩) 1 1,.string o0,.slice (some ⟨sb,0,none⟩) n n,.slice none 0 0,.slice none 0 0,.slice none 0 0] 71 (0,0)):=De.trans hl4
  have y4:(w5.alloc (.cells RQ 79)).cell? ⟨rb+1,4,none⟩=some (.slice none 0 0):=by rw[World.cell?,hl5];rfl
  have f4:(w5.alloc (.cells RQ 79)).frozen? ⟨rb+1,4,none⟩=false:=by simp[World.frozen?,hl5]
  have afg:rb+1<w5.heap.size:=lt_of_block hl4
  have Vn:((w5.alloc (.cells RQ 79)).setCell ⟨rb+1,4,none⟩ (.slice (some ⟨w5.heap.size,0,none⟩) n n)).heap[rb+1]? =some (.cells #[.string t,.slice (some ⟨rb,0,none⟩) 1 1,.string o0,.slice (some ⟨sb,0,none⟩) n n,.slice (some ⟨w5.heap.size,0,none⟩) n n,.slice none 0 0,.slice none 0 0] 71 (0,0)):=by rw[ah _ hl5];rfl
  have KK4:Kp (λk=>k=rb+1) w5 ((w5.alloc (.cells RQ 79)).setCell ⟨rb+1,4,none⟩ (.slice (some ⟨w5.heap.size,0,none⟩) n n)):=((Kp.refl (λk=>k=rb+1) w5).alloc _).setCell (p:=⟨rb+1,4,none⟩) (λ_=>rfl) _
  have kU:((w5.alloc (.cells RQ 79)).setCell ⟨rb+1,4,none⟩ (.slice (some ⟨w5.heap.size,0,none⟩) n n)).heap[w5.heap.size]? =some (.cells RQ 79 (0,0)):=by
   rw[Below.heap_setCell _ _ _ _ (by show w5.heap.size≠rb+1;omega)];exact heap_alloc_new _ _
  have s9:((w5.alloc (.cells RQ 79)).setCell ⟨rb+1,4,none⟩ (.slice (some ⟨w5.heap.size,0,none⟩) n n)).heap[rb]? =some (.cells (aN a0) 26 (0,0)):=KK4.at_ jV (by show¬rb=rb+1;omega);have ahk:((w5.alloc (.cells RQ 79)).setCell ⟨rb+1,4,none⟩ (.slice (some ⟨w5.heap.size,0,none⟩) n n)).heap[sb]? =some (.cells BO 4 (0,0)):=KK4.at_ ahj aed.out;have Vl:=hid KK4;have ahl:=hid (show¬w5.heap.size=rb+1 by omega);have ak8:=hid (show w.heap.size<=w5.heap.size by omega);clear KK4 afg hl4 hl5 De jV ahj
  go_upto_region 10 with(fail)
  clear y4 f4;generalize (w5.alloc (.cells RQ 79)).setCell ⟨rb+1,4,none⟩ (.slice (some ⟨w5.heap.size,0,none⟩) n n)=w6 at*;generalize w5.heap.size=qb at*;have hl4:=Vn;clear Vn;have ahm:=kU;clear kU;have ha5:=Below.heap_alloc w6 (.cells IN 3) (rb+1) (lt_of_block hl4);have hl5:(w6.alloc (.cells IN 3)).heap[rb+1]? =some (.cells #[.string t,.slice (some ⟨rb,0,none⟩) 1 1,.string o0,.slice (some ⟨sb,0,none⟩) n n,.slice (some ⟨qb,0,none⟩) n n,.slice none 0 0,.slice none 0 0] 71 (0,0)):=ha5.trans hl4
  have y5:(w6.alloc (.cells IN 3)).cell? ⟨rb+1,5,none⟩=some (.slice none 0 0):=by rw[World.cell?,hl5];rfl
  have f5:(w6.alloc (.cells IN 3)).frozen? ⟨rb+1,5,none⟩=false:=by simp[World.frozen?,hl5]
  have ak9:rb+1<w6.heap.size:=lt_of_block hl4
  have Vn:((w6.alloc (.cells IN 3)).setCell ⟨rb+1,5,none⟩ (.slice (some ⟨w6.heap.size,0,none⟩) n n)).heap[rb+1]? =some (.cells #[.string t,.slice (some ⟨rb,0,none⟩) 1 1,.string o0,.slice (some ⟨sb,0,none⟩) n n,.slice (some ⟨qb,0,none⟩) n n,.slice (some ⟨w6.heap.size,0,none⟩) n n,.slice none 0 0] 71 (0,0)):=by rw[ah _ hl5];rfl
  have KK5:Kp (λk=>k=rb+1) w6 ((w6.alloc (.cells IN 3)).setCell ⟨rb+1,5,none⟩ (.slice (some ⟨w6.heap.size,0,none⟩) n n)):=((Kp.refl (λk=>k=rb+1) w6).alloc _).setCell (p:=⟨rb+1,5,none⟩) (λ_=>rfl) _
  have od:((w6.alloc (.cells IN 3)).setCell ⟨rb+1,5,none⟩ (.slice (some ⟨w6.heap.size,0,none⟩) n n)).heap[w6.heap.size]? =some (.cells IN 3 (0,0)):=by
   rw[Below.heap_setCell _ _ _ _ (by show w6.heap.size≠rb+1;omega)];exact heap_alloc_new _ _
  have hr7:((w6.alloc (.cells IN 3)).setCell ⟨rb+1,5,none⟩ (.slice (some ⟨w6.heap.size,0,none⟩) n n)).heap[rb]? =some (.cells (aN a0) 26 (0,0)):=KK5.at_ s9 (by show¬rb=rb+1;omega);have aho:((w6.alloc (.cells IN 3)).setCell ⟨rb+1,5,none⟩ (.slice (some ⟨w6.heap.size,0,none⟩) n n)).heap[sb]? =some (.cells BO 4 (0,0)):=KK5.at_ ahk aed.out;have ahp:((w6.alloc (.cells IN 3)).setCell ⟨rb+1,5,none⟩ (.slice (some ⟨w6.heap.size,0,none⟩) n n)).heap[qb]? =some (.cells RQ 79 (0,0)):=KK5.at_ ahm ahl.out;have rL:=hid KK5;have ak_:=hid (show¬w6.heap.size=rb+1 by omega);have ala:=hid (show w.heap.size<=w6.heap.size by omega);clear KK5 ak9 hl4 hl5 ha5 s9 ahk ahm
  go_upto_region 11 with(fail)
  clear y5 f5;generalize (w6.alloc (.cells IN 3)).setCell ⟨rb+1,5,none⟩ (.slice (some ⟨w6.heap.size,0,none⟩) n n)=w7 at*;generalize w6.heap.size=lb at*;have hl4:=Vn;clear Vn;have aee:=od;clear od;have ha6:=Below.heap_alloc w7 (.cells IN 3) (rb+1) (lt_of_block hl4);have hl5:(w7.alloc (.cells IN 3)).heap[rb+1]? =some (.cells #[.string t,.slice (some ⟨rb,0,none⟩) 1 1,.string o0,.slice (some ⟨sb,0,none⟩) n n,.slice (some ⟨qb,0,none⟩) n n,.slice (some ⟨lb,0,none⟩) n n,.slice none 0 0] 71 (0,0)):=ha6.trans hl4
  have y6:(w7.alloc (.cells IN 3)).cell? ⟨rb+1,6,none⟩=some (.slice none 0 0):=by rw[World.cell?,hl5];rfl
  have f6:(w7.alloc (.cells IN 3)).frozen? ⟨rb+1,6,none⟩=false:=by simp[World.frozen?,hl5]
  have alb:rb+1<w7.heap.size:=lt_of_block hl4
  have Vn:((w7.alloc (.cells IN 3)).setCell ⟨rb+1,6,none⟩ (.slice (some ⟨w7.heap.size,0,none⟩) n n)).heap[rb+1]? =some (.cells #[.string t,.slice (some ⟨rb,0,none⟩) 1 1,.string o0,.slice (some ⟨sb,0,none⟩) n n,.slice (some ⟨qb,0,none⟩) n n,.slice (some ⟨lb,0,none⟩) n n,.slice (some ⟨w7.heap.size,0,none⟩) n n] 71 (0,0)):=by rw[ah _ hl5];rfl
  have KK6:Kp (λk=>k=rb+1) w7 ((w7.alloc (.cells IN 3)).setCell ⟨rb+1,6,none⟩ (.slice (some ⟨w7.heap.size,0,none⟩) n n)):=((Kp.refl (λk=>k=rb+1) w7).alloc _).setCell (p:=⟨rb+1,6,none⟩) (λ_=>rfl) _
  have sK:((w7.alloc (.cells IN 3)).setCell ⟨rb+1,6,none⟩ (.slice (some ⟨w7.heap.size,0,none⟩) n n)).heap[w7.heap.size]? =some (.cells IN 3 (0,0)):=by
   rw[Below.heap_setCell _ _ _ _ (by show w7.heap.size≠rb+1;omega)];exact heap_alloc_new _ _
  have hr8:((w7.alloc (.cells IN 3)).setCell ⟨rb+1,6,none⟩ (.slice (some ⟨w7.heap.size,0,none⟩) n n)).heap[rb]? =some (.cells (aN a0) 26 (0,0)):=KK6.at_ hr7 (by show¬rb=rb+1;omega);have ahq:((w7.alloc (.cells IN 3)).setCell ⟨rb+1,6,none⟩ (.slice (some ⟨w7.heap.size,0,none⟩) n n)).heap[sb]? =some (.cells BO 4 (0,0)):=KK6.at_ aho aed.out;have ahr:((w7.alloc (.cells IN 3)).setCell ⟨rb+1,6,none⟩ (.slice (some ⟨w7.heap.size,0,none⟩) n n)).heap[qb]? =some (.cells RQ 79 (0,0)):=KK6.at_ ahp ahl.out;have ahs:((w7.alloc (.cells IN 3)).setCell ⟨rb+1,6,none⟩ (.slice (some ⟨w7.heap.size,0,none⟩) n n)).heap[lb]? =some (.cells IN 3 (0,0)):=KK6.at_ aee ak_.out;have HK6:=hid KK6;have aqC:=hid (show¬w7.heap.size=rb+1 by omega);have alc:=hid (show w.heap.size<=w7.heap.size by omega);have HLP:=hid (show lb≠w7.heap.size by have:=lt_of_block aee;omega);clear KK6 alb hl4 hl5 ha6 hr7 aho ahp aee
  go_upto_region 12 with(fail)
  clear y6 f6;generalize (w7.alloc (.cells IN 3)).setCell ⟨rb+1,6,none⟩ (.slice (some ⟨w7.heap.size,0,none⟩) n n)=w8 at*;generalize w7.heap.size=pb at*;have hl4:=Vn;clear Vn;have aht:=sK;clear sK;have KT:Kp (λk=>k=rb+1) w4 w8:=(HK3.out.trans' Vl.out (λ_ _ x=>x)).trans' (rL.out.trans' HK6.out (λ_ _ x=>x)) (λ_ _ x=>x);have pM:=HS.out.1.ai HS.out.2.2
  have UD:dT w8 xb tb 138 pc ol X0 kv:=by
   have hne:∀{b:Nat} {c:Array Value} {e:TypeId},w4.heap[b]? =some (.cells c e (0,0))->e≠71->¬b=rb+1:=λhb he x=>ak5.out _ _ _ hb he x
   refine pM.keep KT (hne pM.blk (by decide)) (hne pM.rX (by decide)) (λk ek=>?_) (λi cur e hi ho=>hne hi (by intro x;subst x;revert ho;unfold Yg;decide));obtain⟨cur,hcu⟩:=br pM.row ek;exact hne hcu (by decide)
  have KF:Kp (λ_=>False) w w8:=(HS.out.2.1.trans HS.out.2.2).trans' KT (λi hi e=>by omega)
  have hL8:h_ w8 ⟨rb+1,sb,qb,lb,pb⟩ t (DY a0 o0 n) (.slice (some ⟨rb,0,none⟩) 1 1):=by
   refine⟨?_,?_,?_,?_,?_,?_,?_⟩
   ·rw[hl4];simp[Y8,DY]
   ·refine⟨by simp[DY,uR,gr],.inr ⟨rb,1,aN a0,rfl,Nat.zero_le _,hr8,Nat.le_refl _,by decide,rfl,rfl⟩⟩
   ·rw[show mU (DY a0 o0 n).stands=mU (List.replicate n false)from rfl,HC.out.1];exact ahq
   ·rw[show gq (DY a0 o0 n).asked=gq (List.replicate n ⟨0,⟨#[]⟩,0⟩)from rfl,HC.out.2.2];exact ahr
   ·rw[show aJ (DY a0 o0 n).latest=aJ (List.replicate n 0)from rfl,HC.out.2.1];exact ahs
   ·rw[show aJ (DY a0 o0 n).steps=aJ (List.replicate n 0)from rfl,HC.out.2.1];exact aht
   exact HLP.out
  have hfl:∀k,oe ⟨rb+1,sb,qb,lb,pb⟩ (.slice (some ⟨rb,0,none⟩) 1 1) k->w.heap.size<=k:=by
   rintro k (rfl|rfl|rfl|rfl|rfl|e)
   ·show w.heap.size<=rb+1;omega
   ·exact ak7.out
   ·exact ak8.out
   ·exact ala.out
   ·exact alc.out
   obtain rfl:rb=k:=by simpa[Value.ownBlock]using e
   omega
  have HZ:=hid (ae UD (ae hL8 (ae KF hfl)));clear UD hL8 KF hfl KT pM hl4 hr8 ahq ahr ahs aht;go_wp2;go_ret3;refine⟨_,_,rfl,?_,HZ.out.2.2.1⟩;rw[HB.out];exact⟨λe=>absurd rfl e,λ_=>⟨xb,tb,pc,kv,⟨rb+1,sb,qb,lb,pb⟩,_,rfl,rfl,HZ.out.1,HZ.out.2.1,HFS.out,HZ.out.2.2.2⟩⟩
 have HEN:=hid EN;clear EN;simp only[show((9:Int)!=0)=true from rfl,if_true]at ES
 go_enter func34,ntmps34
 go_wp2_with fail
 refine hm ES ?_;rintro y w1 ⟨rfl,K1⟩;have hnb:=heap_alloc_new w1 (.cells aD 26);have K2:Kp (λ_=>False) w1 ((w1.alloc (.cells aD 26)).setRow w1.heap.size (aN dX)):=((Kp.refl _ _).alloc _).setRow (λx=>by omega) _;have KA:=K1.trans K2;clear ES K1 K2
 go_upto_region 2 with(refine wpList_store_row rfl 26 (.tmp 7) (.tmp 16) rfl w1.heap.size (aN dX) rfl rfl 26 aD hnb aP rfl (bZ _) ?_)
 generalize (w1.alloc (.cells aD 26)).setRow w1.heap.size (aN dX)=w2 at*;have EN:=HEN.out w2;clear hnb
 go_wp2_with fail
 refine hm EN ?_;rintro y w3 ⟨v,rfl,hq,K3⟩;have hv:=(HQ.out _ _ _ hq).1 (by decide);subst hv;have HK:=hid (KA.trans K3);clear EN hq K3 KA;go_wp2;go_ret3;refine⟨_,_,rfl,?_,HK.out⟩;rw[HB.out];exact⟨λ_=>rfl,λe=>by simp at e⟩
end
section
variable {w:World} {p:Lp} {t:ByteArray} {L:Ln} {av:Value}
theorem h_.PL(h:h_ w p t L av)(u:Nat)(b:Int):h_ (w.setCell ⟨p.pb,u,none⟩ (.int .i64 b)) p t {L with steps:=L.steps.set u b} av:=by
 have KS:Kp (λk=>k=p.pb) w (w.setCell ⟨p.pb,u,none⟩ (.int .i64 b)):=(Kp.refl (λk=>k=p.pb) w).setCell (p:=⟨p.pb,u,none⟩) (λ_=>rfl) _;have hne:=own_ne h.row h.FO (by decide);obtain⟨_,_,_,n4,_,n6⟩:=h.neK;obtain⟨_,_,_,m4⟩:=h.neW;refine⟨?_,KS.owns h.row (λk e x=>hne (by rw[<-x];exact e)),KS.at_ h.Iq n4,KS.at_ h.ask n6,KS.at_ h.L6 h.ne,?_,h.ne⟩
 ·rw[KS.at_ h.blk m4.symm];simp[Y8]
 rw[ah _ h.FO];simp[aJ,List.map_set]
theorem h_.aef(h:h_ w p t L av)(u:Nat)(b:Int):h_ (w.setCell ⟨p.lb,u,none⟩ (.int .i64 b)) p t {L with latest:=L.latest.set u b} av:=by
 have KS:Kp (λk=>k=p.lb) w (w.setCell ⟨p.lb,u,none⟩ (.int .i64 b)):=(Kp.refl (λk=>k=p.lb) w).setCell (p:=⟨p.lb,u,none⟩) (λ_=>rfl) _;have hne:=own_ne h.row h.L6 (by decide);obtain⟨_,_,n3,_,n5,_⟩:=h.neK;obtain⟨_,_,m3,_⟩:=h.neW;refine⟨?_,KS.owns h.row (λk e x=>hne (by rw[<-x];exact e)),KS.at_ h.Iq n3,KS.at_ h.ask n5,?_,KS.at_ h.FO h.ne.symm,h.ne⟩
 ·rw[KS.at_ h.blk m3.symm];simp[Y8]
 rw[ah _ h.L6];simp[aJ,List.map_set]
end
def TwQ(w w':World)(B:Nat)(p:Lp)(t:ByteArray)(xb tb:Nat)(pc:Pc)(ol:Ol)(L':Ln)(x':Sv):Prop:=
 ∃Aq kq,h_ w' p t L' Aq/\dT w' xb tb 138 pc ol x' kq/\(∀k,oe p Aq k->B<=k)/\(∀k,oN xb tb kq k->B<=k)/\Kp (λk=>B<=k) w w'
section
variable {w w':World} {B:Nat} {p:Lp} {t:ByteArray} {L:Ln} {av:Value} {xb tb:Nat} {pc:Pc} {ol:Ol} {x:Sv} {kv:Value}
theorem gL.fresh{x':Sv}(hB:B<=w.heap.size)(hf:∀k,oN xb tb kv k->B<=k)(q:gL w w' xb tb 138 pc ol kv x'):∃kq,dT w' xb tb 138 pc ol x' kq/\(∀k,oN xb tb kq k->B<=k)/\Kp (oN xb tb kv) w w':=by
 obtain⟨kq,h,n,K⟩:=q;refine⟨kq,h,?_,K⟩;rintro k (e|e|e)
 ·exact hf k (.inl e)
 ·exact hf k (.inr (.inl e))
 rcases n k e with e|e
 ·exact hf k (.inr (.inr e))
 omega
theorem xM.fresh{L':Ln}(hB:B<=w.heap.size)(hf:∀k,oe p av k->B<=k)(q:xM w w' p t av L'):∃Aq,h_ w' p t L' Aq/\(∀k,oe p Aq k->B<=k)/\Kp (oe p av) w w':=by
 obtain⟨Aq,h,n,K⟩:=q;refine⟨Aq,h,?_,K⟩;rintro k (e|e|e|e|e|e)
 ·exact hf k (.inl e)
 ·exact hf k (.inr (.inl e))
 ·exact hf k (.inr (.inr (.inl e)))
 ·exact hf k (.inr (.inr (.inr (.inl e))))
 ·exact hf k (.inr (.inr (.inr (.inr (.inl e)))))
 rcases n k e with e|e
 ·exact hf k (.inr (.inr (.inr (.inr (.inr e)))))
 omega
end
section
variable (w:World) {B:Nat} {p:Lp} {t:ByteArray} {L L':Ln} {av:Value} {xb tb:Nat} {pc:Pc} {ol:Ol} {x:Sv} {kv:Value}
def SmP(p:Lp)(t:ByteArray)(L L':Ln)(av:Value)(u:Nat)(b:Bool)(s:Int)(r:Rp×Bool×Int):Prop:=
 (b=false/\r.2.2=13/\r.2.1=false/\L'=L)\/
 (b=true/\r.2.2=0/\r.2.1=false/\r.1=dR/\L'={L with steps:=L.steps.set u (s+1)})\/
 (b=true/\r.2.2=0/\r.2.1=true/\∃q,L.asked[u]? =some q/\Q8 p t {L with steps:=L.steps.set u (s+1)} L' av u q r.1)
theorem UY(hL:h_ w p t L av)(hx:dT w xb tb 138 pc ol x kv)(hfl:∀k,oe p av k->B<=k)(hfs:∀k,oN xb tb kv k->B<=k)(hbd:x.Bd)(hol:ol.Ok){u:Nat}(hg:∀t,ue x (u:Int)=some t->StP ol x t){b:Bool}{s:Int}
 (hb:L.stands[u]? =some b) (hs:L.steps[u]? =some s) (hs1:0<=s) (hs2:s<=4000000000000) (hc:SmP p t L L' av u b s (cZ ol x (u:Int)).2):
 Calls prog 37 #[.pointer (some ⟨p.wb,0,none⟩),.pointer (some ⟨xb,0,none⟩),.int .i64 (u:Int)] w λy w'=>y= .returned (.bool true)/\TwQ w w' B p t xb tb pc ol L' (cZ ol x (u:Int)).1:=by
 obtain⟨dr,hdr,kK⟩:=vf;have ES:=hid (FM w hx hbd hol (u:Int) hg);have anp:=hx.low;have xF:=hL.low
 have hBw:B<=w.heap.size:=by have:=hfl p.wb (.inl rfl);have:=xF p.wb (.inl rfl);omega
 have HH:=hid (ae hL (ae hx (ae hfl hfs)));have hul:u<L.stands.length:=(List.getElem?_eq_some_iff.1 hb).1;have hsl:u<L.steps.length:=(List.getElem?_eq_some_iff.1 hs).1
 have ad_:(u:Int)<(L.stands.length:Int):=by omega
 have ahd:(u:Int)<(L.steps.length:Int):=by omega
 clear hL hx hfl hfs hg hbd;generalize cZ ol x (u:Int)=SS at*;obtain⟨x',rp,dn,e⟩:=SS;simp only at*
 go_enter func37,ntmps37
 go_wp2_with fail
 refine hm ES ?_;rintro y w1 ⟨rfl,q1⟩;obtain⟨kv1,hx1,ahv,K1⟩:=gL.fresh hBw HH.out.2.2.2 q1;have hL1:=HH.out.1.dG HH.out.2.1 K1;have hnb:=heap_alloc_new w1 (.cells aM 64);have hx2:=setRow_heap (w1.alloc (.cells aM 64)) w1.heap.size aM (bW rp) 64 (0,0) hnb;have K2:Kp (λ_=>False) w1 ((w1.alloc (.cells aM 64)).setRow w1.heap.size (bW rp)):=((Kp.refl _ _).alloc _).setRow (λx=>by omega) _;have hL2:=hL1.ai K2;have hS2:=hx1.ai K2;have KA:Kp (λk=>B<=k) w ((w1.alloc (.cells aM 64)).setRow w1.heap.size (bW rp)):=(K1.mono (S':=λk=>B<=k) (λk _ hk=>HH.out.2.2.2 k hk)).trans' K2 (λ_ _ x=>x.elim);have hw1:=K1.size;clear ES q1 K1 K2 hL1 hx1
 go_upto_region 2 with(refine wpList_store_row rfl 64 (.tmp 7) (.tmp 14) rfl w1.heap.size (bW rp) rfl rfl 64 aM hnb bK rfl (fC _) ?_)
 generalize (w1.alloc (.cells aM 64)).setRow w1.heap.size (bW rp)=w2 at*;generalize w1.heap.size=rb at*;clear hnb;have y3:w2.cell? ⟨p.wb,3,none⟩=some (.slice (some ⟨p.sb,0,none⟩) L.stands.length L.stands.length):=hL2.cell 3;have y6:w2.cell? ⟨p.wb,6,none⟩=some (.slice (some ⟨p.pb,0,none⟩) L.steps.length L.steps.length):=hL2.cell 6;have yb:=hL2.Mb hb;have ys:=hL2.YH hs
 have yf:w2.frozen? ⟨p.pb,u,none⟩=false:=by simp[World.frozen?,hL2.FO]
 have HX:=hid (ae hL2 (ae hS2 (ae ahv KA)));unfold SmP at hc;simp only at hc
 rcases hc with⟨rfl,rfl,rfl,rfl⟩|⟨rfl,rfl,rfl,rfl,rfl⟩|⟨rfl,rfl,rfl,q,hq,hD⟩
 ·clear hL2 hS2 ahv KA
  go_wp2;go_ret;exact⟨rfl,av,kv1,HX.out.1,HX.out.2.1,HH.out.2.2.1,HX.out.2.2.1,HX.out.2.2.2⟩
 ·have hL3:=hL2.PL u (s+1)
  have KP:Kp (oe p av) w2 (w2.setCell ⟨p.pb,u,none⟩ (.int .i64 (s+1))):=(Kp.refl (oe p av) w2).setCell (p:=⟨p.pb,u,none⟩) (λ_=>.inr (.inr (.inr (.inr (.inl rfl))))) _;have yS:=hS2.CV hL2 KP;have KB:Kp (λk=>B<=k) w (w2.setCell ⟨p.pb,u,none⟩ (.int .i64 (s+1))):=KA.trans' KP (λk _ hk=>HH.out.2.2.1 k hk);have hpl:=xF p.pb (.inr (.inr (.inr (.inr (.inl rfl)))))
  have hx3:(w2.setCell ⟨p.pb,u,none⟩ (.int .i64 (s+1))).heap[rb]? =some (.cells (bW dR) 64 (0,0)):=by
   rw[Below.heap_setCell _ _ _ _ (by show rb≠p.pb;omega)];exact hx2
  have HZ:=hid (ae hL3 (ae yS KB));clear hL2 hS2 KA hL3 yS KB KP hpl
  go_upto_region 7 with(fail)
  generalize w2.setCell ⟨p.pb,u,none⟩ (.int .i64 (s+1))=w3 at*
  have r0:w3.cell? ⟨rb,0,none⟩=some (.int .i64 0):=by rw[World.cell?,hx3];rfl
  have r1:w3.cell? ⟨rb,1,none⟩=some (.int .i64 0):=by rw[World.cell?,hx3];rfl
  have r5:w3.cell? ⟨rb,10,none⟩=some (.string ⟨#[]⟩):=by rw[World.cell?,hx3];rfl
  clear hx3 y3 y6 yb ys yf;go_wp2;go_ret;exact⟨rfl,av,kv1,HZ.out.1,HZ.out.2.1,HH.out.2.2.1,HX.out.2.2.1,HZ.out.2.2⟩
 have hL3:=hL2.PL u (s+1);have KP:Kp (oe p av) w2 (w2.setCell ⟨p.pb,u,none⟩ (.int .i64 (s+1))):=(Kp.refl (oe p av) w2).setCell (p:=⟨p.pb,u,none⟩) (λ_=>.inr (.inr (.inr (.inr (.inl rfl))))) _;have yS:=hS2.CV hL2 KP;have KB:Kp (λk=>B<=k) w (w2.setCell ⟨p.pb,u,none⟩ (.int .i64 (s+1))):=KA.trans' KP (λk _ hk=>HH.out.2.2.1 k hk);have hpl:=xF p.pb (.inr (.inr (.inr (.inr (.inl rfl)))))
 have hx3:(w2.setCell ⟨p.pb,u,none⟩ (.int .i64 (s+1))).heap[rb]? =some (.cells (bW rp) 64 (0,0)):=by
  rw[Below.heap_setCell _ _ _ _ (by show rb≠p.pb;omega)];exact hx2
 have HZ:=hid (ae hL3 (ae yS KB));have ED:=hid (YI (w2.setCell ⟨p.pb,u,none⟩ (.int .i64 (s+1))) hL3 hq hb rp hD);clear hL2 hS2 KA hL3 yS KB KP hpl hD hq
 go_upto_region 7 with(fail)
 generalize w2.setCell ⟨p.pb,u,none⟩ (.int .i64 (s+1))=w3 at*;clear y3 y6 yb ys yf
 go_wp2_with (refine wpList_load_row rfl 64 (.tmp 7) rfl rb rfl 64 (bW rp) (0,0) dr hx3 hdr (by cases dr<;>first|rfl|exact absurd kK (by simp[ak])) bK ?_)
 refine hm ED ?_;rintro y w4 ⟨rfl,q4⟩;have hB3:B<=w3.heap.size:=Nat.le_trans hBw HZ.out.2.2.size;obtain⟨av4,hL4,ahw,K4⟩:=xM.fresh hB3 HH.out.2.2.1 q4;have pM:=HZ.out.2.1.CV HZ.out.1 K4;have KF:=HZ.out.2.2.trans' K4 (λk _ hk=>HH.out.2.2.1 k hk);have HY:=hid (ae hL4 (ae pM (ae ahw KF)));clear ED q4 hL4 pM ahw KF K4;go_wp2;go_ret;exact⟨rfl,av4,kv1,HY.out.1,HY.out.2.1,HY.out.2.2.1,HX.out.2.2.1,HY.out.2.2.2⟩
end
namespace Ch
def UZ(L:Ln)(u:Nat)(r:Rq):Ln:={L with stands:=L.stands.set u true,asked:=L.asked.set u r,latest:=L.latest.set u ((L.all.length:Int)-1),steps:=L.steps.set u 0}
end Ch
theorem h_.aeh{w:World}{p:Lp}{t:ByteArray}{L:Ln}{av:Value}(h:h_ w p t L av){u:Nat}{r0:Rq}(hu:L.asked[u]? =some r0)(r:Rq):h_ (w.setRow p.qb (putAt (gq L.asked).toArray (u*3) (zv r))) p t {L with asked:=L.asked.set u r} av:=by
 have KS:Kp (λk=>k=p.qb) w (w.setRow p.qb (putAt (gq L.asked).toArray (u*3) (zv r))):=(Kp.refl (λk=>k=p.qb) w).setRow (λ_=>rfl) _;have hne:=own_ne h.row h.ask (by decide);obtain⟨_,n2,_,_,n5,n6⟩:=h.neK;obtain⟨_,m2,_,_⟩:=h.neW;refine⟨?_,KS.owns h.row (λk e x=>hne (by rw[<-x];exact e)),KS.at_ h.Iq n2,?_,KS.at_ h.L6 n5.symm,KS.at_ h.FO n6.symm,h.ne⟩
 ·rw[KS.at_ h.blk m2.symm];simp[Y8]
 rw[setRow_heap w p.qb _ _ 79 (0,0) h.ask]
 congr 2
 exact FH zv 3 L.asked u r0 r 0 (zv r) (λa _=>Ip a) hu (by simp[zv]) (by simp[zv])
theorem YM:∃d,prog.underlying 58=some d/\ak d=true:=⟨_,underlying58,rfl⟩
theorem CZ:(prog.info? 58).map (·.size)=some 4:=by kernel_rfl
section
variable (w:World) {B:Nat} {p:Lp} {t:ByteArray} {L:Ln} {av:Value} {xb tb:Nat} {pc:Pc} {ol:Ol} {x:Sv} {kv:Value}
theorem YN(hL:h_ w p t L av)(hx:dT w xb tb 138 pc ol x kv)(hfl:∀k,oe p av k->B<=k)(hfs:∀k,oN xb tb kv k->B<=k)(k us n:Int)(s:ByteArray)(hk1:1<=k)(hk4:k<=4)(hn1: -9223372036854775808<=n)(hn2:n<=9223372036854775807)(hs:s.size<=maxLen)(hal:L.all.length<=1900000000000)(sD:L.log.size<=7700000000000000000)
 {u:Nat} {b:Bool} {r0:Rq} {l0 s0:Int} {t0:Tk} (hb:L.stands[u]? =some b) (hr0:L.asked[u]? =some r0) (hl0:L.latest[u]? =some l0) (hs0:L.steps[u]? =some s0) (ht:x.tasks[u]? =some t0) (hbt:b=decide (t0.kind≠0)):
 Calls prog 35 #[.pointer (some ⟨p.wb,0,none⟩),.pointer (some ⟨xb,0,none⟩),.int .i64 (u:Int),.agg (stA k us n s)] w λy w'=>y= .returned (.bool true)/\∃r:Rq,mT r=true/\r.kind=k/\TwQ w w' B p t xb tb pc ol (if b then L else UZ L u r) (if b then x else ay x u (vM r)):=by
 obtain⟨dq,xX,nX⟩:=LS;obtain⟨dS,hdS,Is⟩:=YM;obtain⟨ao,cap,u2⟩:=aF hL.row;have HAV:=hid u2;clear u2;have xF:=hL.low
 have hBw:B<=w.heap.size:=by have:=hfl p.wb (.inl rfl);have:=xF p.wb (.inl rfl);omega
 have K1:Kp (λ_=>False) w (w.alloc (.cells (stA k us n s) 58)):=(Kp.refl _ _).alloc _;have hn1':=heap_alloc_new w (.cells (stA k us n s) 58);have hL1:=hL.ai K1;have hx1:=hx.ai K1;have ER:=hid (L9 (w.alloc (.cells (stA k us n s) 58)) hL1 k us n s hk1 hk4 hn1 hn2 hs hal sD);have sI:(prog.info? 58).map (·.size)=some (stA k us n s).size:=CZ;have hul:u<L.stands.length:=(List.getElem?_eq_some_iff.1 hb).1
 have ad_:(u:Int)<(L.stands.length:Int):=by omega
 have ago:(u:Int)<(L.asked.length:Int):=by have:=(List.getElem?_eq_some_iff.1 hr0).1;omega
 have ale:(u:Int)<(L.latest.length:Int):=by have:=(List.getElem?_eq_some_iff.1 hl0).1;omega
 have ahd:(u:Int)<(L.steps.length:Int):=by have:=(List.getElem?_eq_some_iff.1 hs0).1;omega
 have ahx:∀r:Rq,mT r=true->yN x (u:Int) r=(if b then(x,11)else(ay x u (vM r),0)):=by
  intro r hr
  have yq:ue x (u:Int)=some t0:=by unfold ue;rw[if_pos (by omega)];exact ht
  unfold yN;rw[yq,hbt]
  by_cases q:t0.kind=0
  ·simp[q,hr]
  simp[q]
 have HH:=hid (ae hL1 (ae hx1 (ae K1 (ae hfl (ae hfs ahx)))));clear hL hx hfl hfs hL1 hx1 K1 ahx hbt ht;generalize hST:stA k us n s=ST at*;clear hST
 go_enter func35,ntmps35
 go_upto_region 1 with(fail)
 generalize w.alloc (.cells ST 58)=w1 at*
 go_wp2_with (refine wpList_load_row rfl 58 (.tmp 7) rfl w.heap.size rfl 58 ST (0,0) dS hn1' hdS (by cases dS<;>first|rfl|exact absurd Is (by simp[ak])) sI ?_)
 refine hm ER ?_;rintro y w2 ⟨r,rfl,hrq,hrk,K2⟩;have hnb:=heap_alloc_new w2 (.cells #[.int .i64 0,.string ⟨#[]⟩,.int .i64 0] 79);have hx3:=setRow_heap (w2.alloc (.cells #[.int .i64 0,.string ⟨#[]⟩,.int .i64 0] 79)) w2.heap.size #[.int .i64 0,.string ⟨#[]⟩,.int .i64 0] (dY r) 79 (0,0) hnb;have K3:Kp (λ_=>False) w2 ((w2.alloc (.cells #[.int .i64 0,.string ⟨#[]⟩,.int .i64 0] 79)).setRow w2.heap.size (dY r)):=((Kp.refl _ _).alloc _).setRow (λx=>by omega) _;have K03:=(HH.out.2.2.1.trans K2).trans K3;have hL3:=HH.out.1.ai (K2.trans K3);have yS:=HH.out.2.1.ai (K2.trans K3);have hw2:=(HH.out.2.2.1.trans K2).size;have rI:=Im r;have rO:=zw r;clear ER K2 K3 hn1'
 go_upto_region 2 with(refine wpList_store_row rfl 79 (.tmp 9) (.tmp 13) rfl w2.heap.size (dY r) rfl rfl 79 #[.int .i64 0,.string ⟨#[]⟩,.int .i64 0] hnb rI rfl rO ?_)
 generalize (w2.alloc (.cells #[.int .i64 0,.string ⟨#[]⟩,.int .i64 0] 79)).setRow w2.heap.size (dY r)=w3 at*;generalize w2.heap.size=rb at*;have EA:=hid (Yp w3 yS (u:Int) r);rw[HH.out.2.2.2.2.2 r hrq]at EA;clear hnb;have HX:=hid (ae hL3 (ae yS K03));clear hL3 yS K03;have HR:=hid (ae hrq hrk);clear hrq hrk
 go_wp2_with (refine wpList_load_row rfl 79 (.tmp 9) rfl rb rfl 79 (dY r) (0,0) dq hx3 xX (by cases dq<;>first|rfl|exact absurd nX (by simp[ak])) rI ?_)
 refine hm EA ?_;rintro y w4 ⟨rfl,q4⟩;have hB3:B<=w3.heap.size:=Nat.le_trans hBw HX.out.2.2.size;obtain⟨kv4,pM,abd,K4⟩:=gL.fresh hB3 HH.out.2.2.2.2.1 q4;have hL4:=HX.out.1.dG HX.out.2.1 K4;have KA:Kp (λk=>B<=k) w w4:=(HX.out.2.2.mono (S':=λk=>B<=k) (λ_ _ x=>x.elim)).trans' K4 (λk _ hk=>HH.out.2.2.2.2.1 k hk)
 have hx4:w4.heap[rb]? =some (.cells (dY r) 79 (0,0)):=K4.at_ hx3 (λhk=>by
  obtain⟨c,e,g1,g2⟩:=Ir HX.out.2.1 hk;rw[hx3]at g1;simp only[Option.some.injEq,Obj.cells.injEq]at g1;apply g2;rw[<-g1.2.1]
  unfold lnT;decide)
 clear EA q4 K4 hx3;have y3:w4.cell? ⟨p.wb,3,none⟩=some (.slice (some ⟨p.sb,0,none⟩) L.stands.length L.stands.length):=hL4.cell 3;have yb:=hL4.Mb hb
 have yf:w4.frozen? ⟨p.sb,u,none⟩=false:=by simp[World.frozen?,hL4.Iq]
 cases b with
 |true=>
  have HZ:=hid (ae hL4 (ae pM (ae abd KA)));clear hL4 pM abd KA;go_wp2;go_ret;exact⟨rfl,r,HR.out.1,HR.out.2,av,kv4,HZ.out.1,HZ.out.2.1,HH.out.2.2.2.1,HZ.out.2.2.1,HZ.out.2.2.2⟩
 |false=>?_
 have hL5:=hL4.YG u true;have KP5:Kp (oe p av) w4 (w4.setCell ⟨p.sb,u,none⟩ (.bool true)):=(Kp.refl (oe p av) w4).setCell (p:=⟨p.sb,u,none⟩) (λ_=>.inr (.inl rfl)) _;have hS5:=pM.CV hL4 KP5;have KB:Kp (λk=>B<=k) w (w4.setCell ⟨p.sb,u,none⟩ (.bool true)):=KA.trans' KP5 (λk _ hk=>HH.out.2.2.2.1 k hk)
 have hrs:rb≠p.sb/\rb≠p.qb/\rb≠p.lb/\rb≠p.pb:=by
  have a1:=xF p.sb (.inr (.inl rfl));have a2:=xF p.qb (.inr (.inr (.inl rfl)));have a3:=xF p.lb (.inr (.inr (.inr (.inl rfl))));have a4:=xF p.pb (.inr (.inr (.inr (.inr (.inl rfl)))));omega
 have hx5:(w4.setCell ⟨p.sb,u,none⟩ (.bool true)).heap[rb]? =some (.cells (dY r) 79 (0,0)):=by
  rw[Below.heap_setCell _ _ _ _ hrs.1];exact hx4
 clear hL4 KP5 pM KA hx4
 go_upto_region 6 with(fail)
 generalize w4.setCell ⟨p.sb,u,none⟩ (.bool true)=w5 at*;clear y3 yb yf;have y4:w5.cell? ⟨p.wb,4,none⟩=some (.slice (some ⟨p.qb,0,none⟩) L.asked.length L.asked.length):=hL5.cell 4;have KD:Kp (λ_=>False) w5 w5.drew:=(Kp.refl _ _).drewN 1;have abe:=hL5.ai KD;have ahy:=hS5.ai KD;have KBd:Kp (λk=>B<=k) w w5.drew:=KB.drewN 1;have hL6:=abe.aeh hr0 r;have KP6:Kp (oe p av) w5.drew (w5.drew.setRow p.qb (putAt (gq L.asked).toArray (u*3) (zv r))):=(Kp.refl (oe p av) w5.drew).setRow (λ_=>.inr (.inr (.inl rfl))) _;have yz:=ahy.CV abe KP6;have KC:Kp (λk=>B<=k) w (w5.drew.setRow p.qb (putAt (gq L.asked).toArray (u*3) (zv r))):=KBd.trans' KP6 (λk _ hk=>HH.out.2.2.2.1 k hk);have ach:=abe.ask
 have hS0:w5.drew.cell? ⟨p.wb,4,none⟩=some (.slice (some ⟨p.qb,0,none⟩) L.asked.length L.asked.length)/\w5.drew.heap[rb]? =some (.cells (dY r) 79 (0,0)):=⟨y4,hx5⟩
 have sQ:(prog.info? 79).map (·.size)=some (zv r).length:=rQ
 have QH:u*3+(zv r).length<=(gq L.asked).toArray.size:=by
  rw[List.size_toArray,show(gq L.asked).length=L.asked.length*3 from tV zv 3 L.asked (λa _=>Ip a)];have:=(List.getElem?_eq_some_iff.1 hr0).1;simp[zv];omega
 have oR:∀v∈zv r,v.oneCell'=true:=by
  intro v hv;simp only[zv,List.mem_cons,List.not_mem_nil,or_false]at hv
  rcases hv with rfl|rfl|rfl<;>rfl
 have ahz:(w5.drew.setRow p.qb (putAt (gq L.asked).toArray (u*3) (zv r))).cell? ⟨p.wb,4,none⟩=some (.slice (some ⟨p.qb,0,none⟩) L.asked.length L.asked.length)/\(w5.drew.setRow p.qb (putAt (gq L.asked).toArray (u*3) (zv r))).heap[rb]? =some (.cells (dY r) 79 (0,0)):=by
  refine⟨?_,by rw[setRow_other _ _ _ _ hrs.2.1];exact hx5⟩;rw[hL6.cell 4];simp[Y8]
 clear hL5 hS5 KB KD ahy KBd KP6 abe;refine az (λw'=>w'.cell? ⟨p.wb,4,none⟩=some (.slice (some ⟨p.qb,0,none⟩) L.asked.length L.asked.length)/\w'.heap[rb]? =some (.cells (dY r) 79 (0,0))) (by kernel_rfl) ?_;refine aU 0 33 (.pointer (some ⟨p.wb,0,none⟩)) hS0 ?_;refine aU 1 34 (.pointer (some ⟨p.wb,0,none⟩)) hS0 ?_;refine aU 2 35 (.pointer (some ⟨p.wb,4,none⟩)) hS0 ?_;refine dM 3 36 (.slice (some ⟨p.qb,0,none⟩) L.asked.length L.asked.length) rfl (λw' hS=>by simp[execOp,Act.eval,go_sem,hS.1]) hS0 ?_;refine aU 4 37 (.int .i64 u) hS0 ?_;refine dM 5 38 (.agg (dY r)) rfl (λw' hS=>bu 79 (.tmp 9) rfl rb rfl 79 (dY r) (0,0) dq hS.2 xX nX rI) hS0 ?_;refine dM 6 39 (.pointer (some ⟨p.qb,u*3,none⟩)) rfl (λw' _=>by simp[execOp,Act.eval,go_sem,ago]) hS0 ?_;refine ot 7 (by kernel_rfl) rfl rfl (CW (w5.drew.setRow p.qb (putAt (gq L.asked).toArray (u*3) (zv r))) (λK hK=>ph 79 (.tmp 39) (.tmp 38) rfl p.qb (u*3) (zv r) rfl rfl 79 (gq L.asked).toArray ach sQ QH oR hK) ⟨ahz,?_⟩);refine wpAnyH_done (by kernel_rfl) (NoPanic.normal ?_) _;clear ahz hS0 ach QH oR y4 hx5;generalize w5.drew.setRow p.qb (putAt (gq L.asked).toArray (u*3) (zv r))=w6 at*;have z5:w6.cell? ⟨p.wb,5,none⟩=some (.slice (some ⟨p.lb,0,none⟩) L.latest.length L.latest.length):=hL6.cell 5
 have z1:w6.cell? ⟨p.wb,1,none⟩=some (.slice ao L.all.length cap):=by rw[<-HAV.out];exact hL6.cell 1
 have KD:Kp (λ_=>False) w6 w6.drew:=(Kp.refl _ _).drewN 1;have abf:=hL6.ai KD;have ahA:=yz.ai KD;have KCd:Kp (λk=>B<=k) w w6.drew:=KC.drewN 1;have hL7:=abf.aef u ((L.all.length:Int)-1);have KP7:Kp (oe p av) w6.drew (w6.drew.setCell ⟨p.lb,u,none⟩ (.int .i64 ((L.all.length:Int)-1))):=(Kp.refl (oe p av) w6.drew).setCell (p:=⟨p.lb,u,none⟩) (λ_=>.inr (.inr (.inr (.inl rfl)))) _;have qE:=ahA.CV abf KP7;have KE:Kp (λk=>B<=k) w (w6.drew.setCell ⟨p.lb,u,none⟩ (.int .i64 ((L.all.length:Int)-1))):=KCd.trans' KP7 (λk _ hk=>HH.out.2.2.2.1 k hk)
 have hcell:w6.drew.cell? ⟨p.lb,u,none⟩=some (.int .i64 l0):=by rw[hY abf.L6,aJ,List.getElem?_map,hl0];rfl
 have uj:w6.frozen? ⟨p.lb,u,none⟩=false:=by simp[World.frozen?,hL6.L6]
 have hfro:w6.drew.frozen? ⟨p.lb,u,none⟩=false:=uj
 have hwr:IntKind.i64.wrap ((L.all.length:Int)-1)=(L.all.length:Int)-1:=by rw[IntKind.wrap_i64];omega
 have hS0:w6.drew.cell? ⟨p.wb,5,none⟩=some (.slice (some ⟨p.lb,0,none⟩) L.latest.length L.latest.length)/\w6.drew.cell? ⟨p.wb,1,none⟩=some (.slice ao L.all.length cap):=⟨z5,z1⟩
 have hS1:(w6.drew.setCell ⟨p.lb,u,none⟩ (.int .i64 ((L.all.length:Int)-1))).cell? ⟨p.wb,5,none⟩=some (.slice (some ⟨p.lb,0,none⟩) L.latest.length L.latest.length)/\(w6.drew.setCell ⟨p.lb,u,none⟩ (.int .i64 ((L.all.length:Int)-1))).cell? ⟨p.wb,1,none⟩=some (.slice ao L.all.length cap):=by
  refine⟨by rw[hL7.cell 5];simp[Y8],by rw[<-HAV.out];exact hL7.cell 1⟩
 clear hL6 yz KC KD ahA KCd KP7 abf z5 z1 uj
 go_upto_region 7 with(fail)
 refine az (λw'=>w'.cell? ⟨p.wb,5,none⟩=some (.slice (some ⟨p.lb,0,none⟩) L.latest.length L.latest.length)/\w'.cell? ⟨p.wb,1,none⟩=some (.slice ao L.all.length cap)) (by kernel_rfl) ?_;refine aU 0 40 (.pointer (some ⟨p.wb,0,none⟩)) hS0 ?_;refine aU 1 41 (.pointer (some ⟨p.wb,0,none⟩)) hS0 ?_;refine aU 2 42 (.pointer (some ⟨p.wb,5,none⟩)) hS0 ?_;refine dM 3 43 (.slice (some ⟨p.lb,0,none⟩) L.latest.length L.latest.length) rfl (λw' hS=>by simp[execOp,Act.eval,go_sem,hS.1]) hS0 ?_;refine aU 4 44 (.int .i64 u) hS0 ?_;refine aU 5 45 (.pointer (some ⟨p.wb,0,none⟩)) hS0 ?_;refine aU 6 46 (.pointer (some ⟨p.wb,0,none⟩)) hS0 ?_;refine aU 7 47 (.pointer (some ⟨p.wb,1,none⟩)) hS0 ?_;refine dM 8 48 (.slice ao L.all.length cap) rfl (λw' hS=>by simp[execOp,Act.eval,go_sem,hS.2]) hS0 ?_;refine aU 9 49 (.int .i64 L.all.length) hS0 ?_;refine dM 10 50 (.int .i64 ((L.all.length:Int)-1)) rfl (λw' _=>by simp[execOp,Act.eval,go_sem,hwr]) hS0 ?_;refine dM 11 51 (.pointer (some ⟨p.lb,u,none⟩)) rfl (λw' _=>by simp[execOp,Act.eval,go_sem,ale]) hS0 ?_;refine ot 12 (by kernel_rfl) rfl rfl (CW (w6.drew.setCell ⟨p.lb,u,none⟩ (.int .i64 ((L.all.length:Int)-1))) (λK hK=>by unfold Oper.wp;simp[execOp,Act.eval,go_sem,hcell,hfro];exact hK) ⟨hS1,?_⟩)
 refine wpAnyH_done (by kernel_rfl) (NoPanic.normal ?_) _;clear hS1 hS0 hcell hfro;generalize w6.drew.setCell ⟨p.lb,u,none⟩ (.int .i64 ((L.all.length:Int)-1))=w7 at*;have z6:w7.cell? ⟨p.wb,6,none⟩=some (.slice (some ⟨p.pb,0,none⟩) L.steps.length L.steps.length):=hL7.cell 6;have zs:=hL7.YH hs0
 have zf:w7.frozen? ⟨p.pb,u,none⟩=false:=by simp[World.frozen?,hL7.FO]
 have hL8:=hL7.PL u 0;have KP8:Kp (oe p av) w7 (w7.setCell ⟨p.pb,u,none⟩ (.int .i64 0)):=(Kp.refl (oe p av) w7).setCell (p:=⟨p.pb,u,none⟩) (λ_=>.inr (.inr (.inr (.inr (.inl rfl))))) _;have UD:=qE.CV hL7 KP8;have KF:Kp (λk=>B<=k) w (w7.setCell ⟨p.pb,u,none⟩ (.int .i64 0)):=KE.trans' KP8 (λk _ hk=>HH.out.2.2.2.1 k hk);have HZ:=hid (ae hL8 (ae UD (ae abd KF)));clear hL8 UD KF KP8 hL7 qE KE abd;go_wp2;go_ret;exact⟨rfl,r,HR.out.1,HR.out.2,av,kv4,HZ.out.1,HZ.out.2.1,HH.out.2.2.2.1,HZ.out.2.2.1,HZ.out.2.2.2⟩
end
end Go.Proofs.YtnlbchmfcebeeaaGreat
