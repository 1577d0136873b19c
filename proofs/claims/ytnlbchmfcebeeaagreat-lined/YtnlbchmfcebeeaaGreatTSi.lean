import Derived.Test.YtnlbchmfcebeeaaGreatTSh
set_option maxHeartbeats 12800000
set_option maxRecDepth 100000
namespace Go.Proofs.YtnlbchmfcebeeaaGreat
open Go.Proofs.Tryz Ch
open Go.RowKit
namespace Ch
def sG(t:ByteArray)(n:Int):Int:=
 if(read t).1 !=0 then(read t).1 else if n<1\/6<n then 10 else(mstart (read t).2.2).2.2
def sv0(n:Nat):Sv:=⟨0,[],0,⟨#[]⟩,List.replicate n fB,0,0⟩
theorem ad5{n:Nat}(h:n<=6):(sv0 n).Bd:=⟨by simp[sv0],by simp[sv0],by simp[sv0],by simp[sv0],Nat.zero_le _,Nat.zero_le _,by simp[sv0],by simp[sv0],by simpa[sv0]using h⟩
theorem uf{ol:Ol}(hol:ol.Ok):(mstart ol).2.1.size<=10000000000:=by
 have h1:=wA hol (m:=⟨bM ol.ag,[],[]⟩) (n:=0) ⟨by simp,by simp⟩ [];have h2:=Eb hol 30 h1;unfold mstart finish
 split
 ·exact Nat.zero_le _
 show(strOfNums _).size<=_;rw[strOfNums_size];have:=h2.2;omega
end Ch
structure SvV(w:World)(tb:Nat)(pc:Pc)(ol:Ol)(x:Sv)(kv:Value):Prop where
 row:w.ownsRow 0 261 38 kv x.kept.length (gh x.kept)
 rX:w.heap[tb]? =some (.cells (cB x.tasks).toArray 173 (0,0))
 wf:∀v∈x.kept,v.now.Wf
 tw:∀t∈x.tasks,t.now.Wf
 pl:∃B lt lb,AB w B ol pc.c pc.d pc.e lt lb
theorem dT.val{w:World}{xb tb:Nat}{T:TypeId}{pc:Pc}{ol:Ol}{x:Sv}{kv:Value}(h:dT w xb tb T pc ol x kv):SvV w tb pc ol x kv:=⟨h.row,h.rX,h.wf,h.tw,h.pl⟩
theorem SvV.ai{w w':World}{tb:Nat}{pc:Pc}{ol:Ol}{x:Sv}{kv:Value}(h:SvV w tb pc ol x kv)(K:Kp (λ_=>False) w w'):SvV w' tb pc ol x kv:=by
 obtain⟨B,lt,lb,F⟩:=h.pl;exact⟨K.owns h.row (λ_ _ x=>x),K.at_ h.rX (λx=>x),h.wf,h.tw,B,lt,lb,F.ai K⟩
theorem SvV.blk{w:World}{xb tb:Nat}{T:TypeId}{pc:Pc}{ol:Ol}{x:Sv}{kv:Value}(h:SvV w tb pc ol x kv)(hb:w.heap[xb]? =some (.cells (sM pc x kv tb) T (0,0)))(hT:T=136\/T=138):dT w xb tb T pc ol x kv:=
 ⟨hb,h.row,h.rX,h.wf,h.tw,hT,h.pl⟩
def Yq(w w':World)(t:ByteArray)(n:Int)(A:Array Value):Prop:=
 (sG t n≠0->A=eB)/\(sG t n=0->∃tb pc kv,A=sM pc (lE (Ch.read t).2.2 n.toNat) kv tb/\SvV w' tb pc (Ch.read t).2.2 (lE (Ch.read t).2.2 n.toNat) kv/\w.heap.size<=tb/\(∀k,kv.ownBlock=some k->w.heap.size<=k)/\A.all (λx=>x.oneCell')=true)
def UM(w w':World)(t:ByteArray)(n:Int)(v:Value):Prop:=
 (sG t n≠0->v= .pointer none)/\(sG t n=0->∃xb tb pc kv,v= .pointer (some ⟨xb,0,none⟩)/\dT w' xb tb 138 pc (Ch.read t).2.2 (lE (Ch.read t).2.2 n.toNat) kv/\∀k,oN xb tb kv k->w.heap.size<=k)
theorem mx:(prog.info? 136).map (·.size)=some 12:=by kernel_rfl
theorem ab3:∃d,prog.underlying 136=some d/\ak d=true:=⟨_,underlying136,rfl⟩
theorem CP:(eB:Array Value).all (λx=>x.oneCell')=true:=by kernel_rfl
theorem ab4{pc:Pc}{x:Sv}{kv:Value}{tb:Nat}(h1:pc.a.oneCell'=true)(h2:pc.b.oneCell'=true)(h3:pc.c.oneCell'=true)(h4:pc.d.oneCell'=true)(h5:pc.e.oneCell'=true)(h6:kv.oneCell'=true):(sM pc x kv tb).all (λx=>x.oneCell')=true:=by
 apply Array.all_eq_true_iff_forall_mem.2;intro y hy;simp only[sM,List.mem_toArray,List.mem_cons,List.not_mem_nil,or_false]at hy
 rcases hy with rfl|rfl|rfl|rfl|rfl|rfl|rfl|rfl|rfl|rfl|rfl|rfl<;>first|assumption|rfl
theorem aa5(n:Nat):madeCells xw (n*45)=(cB (List.replicate n fB)).toArray:=by
 have hz:(js fB).toArray=xw:=LG;rw[<-hz];have hl:(js fB).length=45:=eH (t:=fB) mR
 have ha:∀a∈List.replicate n fB,(js a).length=45:=by
  intro a ha;rw[List.eq_of_mem_replicate ha];exact hl
 have hf:=tV js 45 (List.replicate n fB) ha;rw[List.length_replicate]at hf;apply Array.ext_getElem?;intro i;unfold madeCells cB
 have e1:((List.replicate n fB).flatMap js).toArray[i]? =((List.replicate n fB).flatMap js)[i]?:=by simp
 rw[e1]
 by_cases hi:i<n*45
 ·have h1:i/45<n:=by omega
  have h2:i % 45<45:=by omega
  have h3:i % 45<(js fB).length:=by omega
  have:=jP js 45 (List.replicate n fB) (i/45) fB (i % 45) ha (by rw[List.getElem?_replicate,if_pos h1]) h2;rw[show i/45*45+i % 45=i by omega]at this;rw[this,List.getElem?_eq_getElem h3];simp[hi,hl,h2]
 rw[List.getElem?_eq_none (by rw[hf];omega),Array.getElem?_eq_none (by simp;omega)]
section
variable (w:World)
theorem UN(t:ByteArray)(n:Int):
 Calls prog 82 #[.string t,.int .i64 n] w λr w'=>∃A,r= .returned (.tuple #[.agg A,.int .i64 (sG t n)])/\Yq w w' t n A/\Kp (λ_=>False) w w':=by
 obtain⟨dv,hdv,zS⟩:=ab3;obtain⟨ds,hds,eY⟩:=eT;obtain⟨dO,hdO,acG⟩:=abm;have hr1:=heap_alloc_new w (.cells eB 136);have K1:Kp (λ_=>False) w (w.alloc (.cells eB 136)):=(Kp.refl _ _).alloc _;have E0:=hid (sU t (w.alloc (.cells eB 136)));have hol:=mK t;have HN:=hid (show∀w' A,Yq w w' t n A=((sG t n≠0->A=eB)/\(sG t n=0->∃tb pc kv,A=sM pc (lE (Ch.read t).2.2 n.toNat) kv tb/\SvV w' tb pc (Ch.read t).2.2 (lE (Ch.read t).2.2 n.toNat) kv/\w.heap.size<=tb/\(∀k,kv.ownBlock=some k->w.heap.size<=k)/\A.all (λx=>x.oneCell')=true))from λ_ _=>rfl);have HU:=hid (show sG t n=if(Ch.read t).1 !=0 then(Ch.read t).1 else if n<1\/6<n then 10 else(Ch.mstart (Ch.read t).2.2).2.2 from rfl);generalize Yq w=NV at*;generalize sG t n=NE at*;have hws:w.heap.size<=(w.alloc (.cells eB 136)).heap.size:=K1.size
 go_enter func82,ntmps82
 go_wp2_with fail
 refine hm E0 ?_;rintro y w2 ⟨sv,tv,bv,lt,lb,rfl,F2,B2⟩;have K2:=kZ B2;have hr2:=K2.at_ hr1 (λx=>x);have KA:=K1.trans K2;clear E0 hr1 K1 K2 B2 hws;generalize hrd:Ch.read t=rd at*;obtain⟨re,rf,ol⟩:=rd;clear hrd;simp only at hol F2 HU HN;have o1:=fF F2.ag;have o2:=fF F2.bG;have o3:=fF F2.dz;have v_:=IL (e:=re) (f:=rf) o1 o2 o3;have hnew:=heap_alloc_new w2 (.cells zy 87);have hrow:=setRow_heap (w2.alloc (.cells zy 87)) w2.heap.size _ (sV re rf sv tv bv) 87 (0,0) hnew;have K3:Kp (λ_=>False) w2 ((w2.alloc (.cells zy 87)).setRow w2.heap.size (sV re rf sv tv bv)):=((Kp.refl _ _).alloc _).setRow (λx=>by omega) _;have F3:=F2.ai K3;have hr3:=K3.at_ hr2 (λx=>x);have KB:=KA.trans K3;have hlt:w.heap.size<w2.heap.size:=lt_of_block hr2;have HX:=hid (ae F3 (ae KB hrow));clear hr2 KA K3 KB F3 F2
 go_upto_region 2 with(refine wpList_store_row rfl 87 (.tmp 6) (.tmp 12) rfl w2.heap.size (sV re rf sv tv bv) rfl rfl 87 zy hnew vj rfl v_ ?_)
 generalize (w2.alloc (.cells zy 87)).setRow w2.heap.size (sV re rf sv tv bv)=w3 at*
 have z0:w3.cell? ⟨w2.heap.size,0,none⟩=some (.int .i64 re):=by rw[World.cell?,hrow];rfl
 clear hnew v_;generalize w2.heap.size=ob at*
 cases q1:re !=0 with
 |true=>
  have HF:=hid (HU.out.trans (show _=re by rw[q1];rfl))
  go_upto_region 3 with(fail)
  have hS0:w3.drew.heap[ob]? =some (.cells (sV re rf sv tv bv) 87 (0,0)):=hrow
  have hS1:(w3.drew.setRow w.heap.size eB).heap[ob]? =some (.cells (sV re rf sv tv bv) 87 (0,0)):=by rw[setRow_other _ _ _ _ (by omega)];exact hrow
  have KF:Kp (λ_=>False) w (w3.drew.setRow w.heap.size eB):=(HX.out.2.1.drewN 1).setRow (λx=>by omega) _;refine az (λw'=>w'.heap[ob]? =some (.cells (sV re rf sv tv bv) 87 (0,0))) (by kernel_rfl) ?_;refine eC 0 16 (.agg eB) rfl (λw' _=>fY 136 #[] rfl eB [] rfl (by kernel_rfl)) hS0 ?_;refine eC 1 17 (.pointer (some ⟨ob,0,none⟩)) rfl (λw' _=>by simp[execOp,Act.eval,Act.put,go_sem]) hS0 ?_;refine eC 2 18 (.int .i64 re) rfl (λw' hS=>by(have c:w'.cell? ⟨ob,0,none⟩=some (.int .i64 re):=(by rw[World.cell?,hS];rfl);simp[execOp,Act.eval,Act.put,go_sem,c])) hS0 ?_;refine bF 3 (by kernel_rfl) rfl rfl 136 (.tmp 4) (.tmp 16) rfl rfl w.heap.size eB (by simp[Act.eval,Act.put]) (by simp[Act.eval,Act.put]) 136 eB (by exact hr3) mx rfl CP hS1 ?_;refine eC 4 5 (.int .i64 re) rfl (λw' _=>by simp[execOp,Act.eval,Act.put,go_sem]) hS1 ?_;refine wpAnyH_done (by kernel_rfl) (NoPanic.normal ?_) _;simp only[Act.put,pA,pB,pC];go_wp2;refine bodyPost_ret (results_cell_tmp rfl _ _ w.heap.size 136 eB (0,0) dv rfl (setRow_heap w3.drew _ _ _ _ _ (by exact hr3)) hdv zS mx) rfl ?_;refine⟨eB,by rw[HF.out];rfl,?_,KF⟩;rw[HN.out,HF.out];exact⟨λ_=>rfl,λe=>by rw[e]at q1;simp at q1⟩
 |false=>?_
 have hre:re=0:=by simpa using q1
 have HV:=hid (HU.out.trans (show _=if n<1\/6<n then 10 else(Ch.mstart ol).2.2 by rw[q1];rfl));clear HU
 by_cases q2:n<1\/6<n
 ·have HF:=hid (HV.out.trans (if_pos q2))
  have KF:Kp (λ_=>False) w (w3.setRow w.heap.size eB):=HX.out.2.1.setRow (λx=>by omega) _;have ir:=setRow_heap w3 w.heap.size eB eB 136 (0,0) hr3;have HK:=hid KF
  have hfin:∀A:Array Value,A=eB->NV (w3.setRow w.heap.size eB) t n A:=by
   intro A hA;rw[HN.out,HF.out];exact⟨λ_=>hA,λe=>by simp at e⟩
  have HFi:=hid hfin;clear hfin KF HV
  by_cases q3:n<1
  ·go_wp2_with (refine wpList_store_row rfl 136 (.tmp 4) (.tmp 25) rfl w.heap.size eB rfl rfl 136 eB hr3 mx rfl CP ?_)
   refine bodyPost_ret (results_cell_tmp rfl _ _ w.heap.size 136 eB (0,0) dv rfl ir hdv zS mx) rfl ?_;exact⟨eB,by rw[HF.out];rfl,HFi.out _ rfl,HK.out⟩
  have q4:6<n:=by omega
  go_wp2_with (refine wpList_store_row rfl 136 (.tmp 4) (.tmp 25) rfl w.heap.size eB rfl rfl 136 eB hr3 mx rfl CP ?_)
  refine bodyPost_ret (results_cell_tmp rfl _ _ w.heap.size 136 eB (0,0) dv rfl ir hdv zS mx) rfl ?_;exact⟨eB,by rw[HF.out];rfl,HFi.out _ rfl,HK.out⟩
 have HF:=hid (HV.out.trans (if_neg q2));clear HV
 have q3:¬n<1:=by omega
 have q4:¬ 6<n:=by omega
 obtain⟨k,rfl⟩:∃k:Nat,n=(k:Int):=⟨n.toNat,by omega⟩
 have hk6:k<=6:=by omega
 have ag5:((k:Int)).toNat=k:=by omega
 have Gy:=Ed ol;have ag6:(Ch.mstart ol).2.1.size<=10000000000:=uf hol;have HM:=hid (show lE ol k=j1 (sv0 k) (Ch.mstart ol).1 (Ch.mstart ol).2.1 from rfl);simp only[ag5]at HN;have hp3:=Pl.ofRow hrow HX.out.1;have E1:=hid (AU w3 ob 0 ol hp3 hol);generalize Ch.mstart ol=ms at*;obtain⟨fs,ft,fe⟩:=ms;simp only at Gy HF E1 HM ag6;have fI:=fG Gy.1;have fS:=gz Gy.1;have fO:=j3 fs;clear hp3 q2
 go_wp2_with fail
 refine hm E1 ?_;rintro y w4 ⟨rfl,K4⟩;have hr4:=K4.at_ hr3 (λx=>x);have hrow4:=K4.at_ hrow (λx=>x);have F4:=HX.out.1.ai K4;have KC:=HX.out.2.1.trans K4;have hnew:=heap_alloc_new w4 (.cells aW 95);have oy:=setRow_heap (w4.alloc (.cells aW 95)) w4.heap.size aW (ax fs).toArray 95 (0,0) hnew;have K5:Kp (λ_=>False) w4 ((w4.alloc (.cells aW 95)).setRow w4.heap.size (ax fs).toArray):=((Kp.refl _ _).alloc _).setRow (λx=>by omega) _;have jV:=K5.at_ hr4 (λx=>x);have sr:=K5.at_ hrow4 (λx=>x);have HY:=hid (ae (F4.ai K5) (KC.trans K5));clear F4 KC K4 K5 HX E1 hrow hrow4 hr4 z0 hr3;generalize yT:(ax fs).toArray=FA at*;have Iy:=hid yT;clear yT
 go_upto_region 7 with(refine wpList_store_row rfl 95 (.tmp 7) (.tmp 28) rfl w4.heap.size FA rfl rfl 95 aW hnew fI (by rw[fS];rfl) fO ?_)
 generalize (w4.alloc (.cells aW 95)).setRow w4.heap.size FA=w5 at*;generalize w4.heap.size=fb at*;clear hnew
 cases q5:fe !=0 with
 |true=>
  have hfe:fe≠0:=by simpa using q5
  have KF:=HY.out.2.setRow (g:=w.heap.size) (λx=>by omega) eB;have ir:=setRow_heap w5 w.heap.size eB eB 136 (0,0) jV;have HK:=hid KF;clear KF
  go_wp2_with (refine wpList_store_row rfl 136 (.tmp 4) (.tmp 33) rfl w.heap.size eB rfl rfl 136 eB jV mx rfl CP ?_)
  refine bodyPost_ret (results_cell_tmp rfl _ _ w.heap.size 136 eB (0,0) dv rfl ir hdv zS mx) rfl ?_;refine⟨eB,by rw[HF.out];rfl,?_,HK.out⟩;rw[HN.out,HF.out];exact⟨λ_=>rfl,λe=>absurd e hfe⟩
 |false=>?_
 have hfe:fe=0:=by simpa using q5
 subst hfe;subst hre;obtain⟨i0,hi0,hz0,hz1,hz2⟩:=info_parts ad0;obtain⟨sa,sl,sc,rfl⟩:=ew HY.out.1.ag;obtain⟨ta,tl,tc,rfl⟩:=ew HY.out.1.bG;obtain⟨ba,bl,bc,rfl⟩:=ew HY.out.1.dz
 have hmk:∀W:World,(Instr.makeSlice 134 (.int .i64 (k:Int)) (.int .i64 (k:Int))).run prog W= .ok (.slice (some ⟨W.heap.size,0,none⟩) k k) (W.alloc (.cells (cB (List.replicate k fB)).toArray 173)):=by
  intro W;have:=run_makeSlice (P:=prog) W 134 173 i0 (.agg xw) underlying134 hi0 hz0 .i64 .i64 (k:Int) (k:Int) (by omega) (Int.le_refl _) (by rw[hz1];omega) (by rw[hz2];omega) (by omega);rw[this,hz1];simp only[ag5];rw[<-aa5 k];rfl
 have ag7:∀tb,sM ⟨.int .i64 0,.int .i64 rf,.slice sa sl sc,.slice ta tl tc,.slice ba bl bc⟩ (sv0 k) (.slice none 0 0) tb= #[.int .i64 0,.int .i64 rf,.slice sa sl sc,.slice ta tl tc,.slice ba bl bc,.int .i64 0,.slice none 0 0,.int .i64 0,.string ⟨#[]⟩,.slice (some ⟨tb,0,none⟩) k k,.int .i64 0,.int .i64 0]:=by
  intro tb;simp[sM,sv0]
 have HB:∀tb:Nat,prog.built 136 [(0,.agg (sV 0 rf (.slice sa sl sc) (.slice ta tl tc) (.slice ba bl bc))),(3,.slice (some ⟨tb,0,none⟩) k k)]=some (sM ⟨.int .i64 0,.int .i64 rf,.slice sa sl sc,.slice ta tl tc,.slice ba bl bc⟩ (sv0 k) (.slice none 0 0) tb):=by
  intro tb;rw[ag7];kernel_rfl
 have aS:∀tb,(sM ⟨.int .i64 0,.int .i64 rf,.slice sa sl sc,.slice ta tl tc,.slice ba bl bc⟩ (sv0 k) (.slice none 0 0) tb).size=12:=λtb=>rfl
 have aO:∀tb,(sM ⟨.int .i64 0,.int .i64 rf,.slice sa sl sc,.slice ta tl tc,.slice ba bl bc⟩ (sv0 k) (.slice none 0 0) tb).all (λx=>x.oneCell')=true:=λtb=>ab4 rfl rfl rfl rfl rfl rfl
 have oI:(prog.info? 87).map (·.size)=some (sV 0 rf (.slice sa sl sc) (.slice ta tl tc) (.slice ba bl bc)).size:=vj;have am8:=lt_of_block jV;generalize hPC:(⟨.int .i64 0,.int .i64 rf,.slice sa sl sc,.slice ta tl tc,.slice ba bl bc⟩:Pc)=pc at*;generalize hOA:sV 0 rf (.slice sa sl sc) (.slice ta tl tc) (.slice ba bl bc)=OA at*;have HH:=hid (ae hmk (ae HB (ae aS aO)));clear hmk HB ag7 aS aO hi0 hz0 hz1 hz2 hOA q5 o1 o2 o3;generalize hMC:(cB (List.replicate k fB)).toArray=MC at*;generalize hSV:sM pc (sv0 k) (.slice none 0 0)=SV at*;have HSV:=hid (ae hSV (ae hMC hPC));clear hSV hMC hPC
 go_upto_region 9 with(fail)
 go_cut [10]from 35 to 38 (λp wx=>∃xb tb,p= .pointer (some ⟨xb,0,none⟩)/\wx.heap[xb]? =some (.cells (SV tb) 136 (0,0))/\wx.heap[tb]? =some (.cells MC 173 (0,0))/\Kp (λ_=>False) w5 wx/\w5.heap.size<=tb/\w5.heap.size<=xb)
 case first=>
  obtain⟨hmk,HB,aS,aO⟩:=HH.out;have hS0:w5.drew.heap[ob]? =some (.cells OA 87 (0,0)):=sr;have pq:Kp (λ_=>False) w5 w5.drew:=(Kp.refl _ _).drewN 1;refine az (λw'=>w'.heap[ob]? =some (.cells OA 87 (0,0))) (by kernel_rfl) ?_;refine dM 0 35 (.agg OA) rfl (λw' hS=>bu 87 (.tmp 6) rfl ob rfl 87 OA (0,0) dO hS hdO acG oI) hS0 ?_;refine aU 1 36 (.int .i64 k) hS0 ?_;refine k6 2 4 (by kernel_rfl) rfl rfl rfl rfl ?_ ?_
  ·refine dZ (some 37) rfl (.slice (some ⟨w5.heap.size,0,none⟩) k k) (w5.drew.alloc (.cells MC 173)) (by simp[execOp,Act.eval,go_sem,hmk]) ?_
   have hn1:=heap_alloc_new w5.drew (.cells MC 173);have K1:=pq.alloc (.cells MC 173);have hS1:=K1.at_ sr (λx=>x);have hn2:=heap_alloc_new (w5.drew.alloc (.cells MC 173)) (.cells eB 136);have K2:=K1.alloc (.cells eB 136);have hS2:=K2.at_ sr (λx=>x)
   have es:(w5.drew.alloc (.cells MC 173)).heap.size=w5.heap.size+1:=by simp
   have K3:=K2.setRow (g:=w5.heap.size+1) (λx=>by omega) (SV w5.heap.size);have yS:=K3.at_ sr (λx=>x);rw[es]at hn2;refine⟨hS1,?_⟩;refine eC 3 38 (.agg (SV w5.heap.size)) rfl (λw' _=>fY 136 #[(0,.tmp 35),(3,.tmp 37)] rfl (SV w5.heap.size) [(0,.agg OA),(3,.slice (some ⟨w5.heap.size,0,none⟩) k k)] (by simp[Act.eval,Act.put]) (HB _)) hS1 ?_;refine jD 4 ?_;refine dZ (some 10) rfl (.pointer (some ⟨w5.heap.size+1,0,none⟩)) ((w5.drew.alloc (.cells MC 173)).alloc (.cells eB 136)) (by simp[execOp,go_sem]) ?_;refine⟨hS2,?_⟩;refine bF 5 (by kernel_rfl) rfl rfl 136 (.tmp 10) (.tmp 38) rfl rfl (w5.heap.size+1) (SV w5.heap.size) (by simp[Act.eval,Act.put]) (by simp[Act.eval,Act.put]) 136 eB hn2 (by rw[aS];exact mx) (by rw[aS];rfl) (aO _) yS ?_;refine wpAnyH_done (by kernel_rfl) (NoPanic.normal ?_) _;simp only[Act.put,pA,pB,pC]
   go_wp2_with fail
   go_meet
   refine⟨w5.heap.size+1,w5.heap.size,rfl,setRow_heap _ _ _ _ _ _ hn2,?_,K3,Nat.le_refl _,by omega⟩;rw[setRow_other _ _ _ _ (by omega),Below.heap_alloc _ _ _ (by simp)];exact hn1
  refine dZ (some 10) rfl (.pointer (some ⟨w5.heap.size,0,none⟩)) (w5.drew.alloc (.cells eB 136)) (by simp[execOp,go_sem]) ?_;have hn1:=heap_alloc_new w5.drew (.cells eB 136);have K1:=pq.alloc (.cells eB 136);have hS1:=K1.at_ sr (λx=>x);have hn2:=heap_alloc_new (w5.drew.alloc (.cells eB 136)) (.cells MC 173);have K2:=K1.alloc (.cells MC 173);have hS2:=K2.at_ sr (λx=>x)
  have es:(w5.drew.alloc (.cells eB 136)).heap.size=w5.heap.size+1:=by simp
  have K3:=K2.setRow (g:=w5.heap.size) (λx=>by omega) (SV (w5.heap.size+1));have yS:=K3.at_ sr (λx=>x)
  have nD:((w5.drew.alloc (.cells eB 136)).alloc (.cells MC 173)).heap[w5.heap.size]? =some (.cells eB 136 (0,0)):=by
   rw[Below.heap_alloc _ _ _ (by simp)];exact hn1
  rw[es]at hn2;refine⟨hS1,?_⟩;refine jD 2 ?_;refine dZ (some 37) rfl (.slice (some ⟨w5.heap.size+1,0,none⟩) k k) ((w5.drew.alloc (.cells eB 136)).alloc (.cells MC 173)) (by simp[execOp,Act.eval,Act.put,go_sem,hmk]) ?_;refine⟨hS2,?_⟩;refine eC 3 38 (.agg (SV (w5.heap.size+1))) rfl (λw' _=>fY 136 #[(0,.tmp 35),(3,.tmp 37)] rfl (SV (w5.heap.size+1)) [(0,.agg OA),(3,.slice (some ⟨w5.heap.size+1,0,none⟩) k k)] (by simp[Act.eval,Act.put]) (HB _)) hS2 ?_;refine bF 5 (by kernel_rfl) rfl rfl 136 (.tmp 10) (.tmp 38) rfl rfl w5.heap.size (SV (w5.heap.size+1)) (by simp[Act.eval,Act.put]) (by simp[Act.eval,Act.put]) 136 eB nD (by rw[aS];exact mx) (by rw[aS];rfl) (aO _) yS ?_;refine wpAnyH_done (by kernel_rfl) (NoPanic.normal ?_) _;simp only[Act.put,pA,pB,pC]
  go_wp2_with fail
  go_meet
  refine⟨w5.heap.size,w5.heap.size+1,rfl,setRow_heap _ _ _ _ _ _ nD,?_,K3,by omega,Nat.le_refl _⟩;rw[setRow_other _ _ _ _ (by omega)];exact hn2
 case rest=>
  obtain⟨xb,tb,rfl,hxb,htb,KC,htl,hxl⟩:=hcut;have F6:=HY.out.1.ai KC;have KD:=HY.out.2.trans KC;have s9:=KC.at_ jV (λx=>x);have hf6:=KC.at_ oy (λx=>x);have hfx:fb<w5.heap.size:=lt_of_block oy;rw[<-HSV.out.1]at hxb;rw[<-HSV.out.2.1]at htb
  obtain⟨B6,F6⟩:∃B,AB wc B ol (.slice sa sl sc) (.slice ta tl tc) (.slice ba bl bc) lt lb:=⟨_,F6⟩
  have hS:dT wc xb tb 136 pc ol (sv0 k) (.slice none 0 0):=by
   refine⟨hxb,World.ownsRow_nil _ _ _ _,htb,by simp[sv0],?_,.inl rfl,B6,lt,lb,?_⟩
   ·intro t ht
    have ht':t∈List.replicate k fB:=ht;rw[List.eq_of_mem_replicate ht'];exact mR
   rw[<-HSV.out.2.2];exact F6
  have EP:=hid (tZ wc hS (ad5 hk6) fs Gy.1 ft ag6);rw[Iy.out,<-HM.out]at EP;generalize lE ol k=XX at*;clear F6 KC hS hxb htb HH jV sr oy
  go_wp2_with (refine wpList_load_row rfl 95 (.tmp 7) rfl fb rfl 95 FA (0,0) ds hf6 hds (by cases ds<;>first|rfl|exact absurd eY (by simp[ak])) fI ?_)
  refine hm EP ?_;rintro y w7 ⟨rfl,IF,h7,n7,K7⟩
  have hr7:w7.heap[w.heap.size]? =some (.cells eB 136 (0,0)):=K7.at_ s9 (by
   rintro(e|e|e)
   ·omega
   ·omega
   simp[Value.ownBlock]at e)
  have XA:=h7.blk
  have n7':∀k,IF.ownBlock=some k->w.heap.size<=k:=by
   intro k e
   rcases n7 k e with e|e
   ·simp[Value.ownBlock]at e
   have:=KD.size;omega
  have hone:(sM pc XX IF tb).all (λx=>x.oneCell')=true:=by
   refine ab4 ?_ ?_ ?_ ?_ ?_ (fF h7.row)<;>rw[<-HSV.out.2.2]<;>rfl
  have ne7:∀{b:Nat} {c:Array Value} {e:TypeId},w7.heap[b]? =some (.cells c e (0,0))->e≠136->b≠w.heap.size:=by
   intro b c e hb hne hx;rw[hx,hr7]at hb;simp only[Option.some.injEq,Obj.cells.injEq]at hb;exact hne hb.2.1.symm
  have h8:dT (w7.setRow w.heap.size (sM pc XX IF tb)) xb tb 136 pc ol XX IF:=by
   refine h7.keep (S:=λk=>k=w.heap.size) ((Kp.refl (λk=>k=w.heap.size) w7).setRow (λ_=>rfl) _) (by omega) (ne7 h7.rX (by decide)) ?_ ?_
   ·intro k ek
    obtain⟨cur,hc⟩:=br h7.row ek;exact ne7 hc (by decide)
   intro i cur e hi he;exact ne7 hi (by intro x;subst x;revert he;unfold Yg;decide)
  have KF:Kp (λ_=>False) w (w7.setRow w.heap.size (sM pc XX IF tb)):=by
   refine(KD.trans' K7 ?_).setRow (λx=>by omega) _;rintro i hi (e|e|e)
   ·have:=KD.size;omega
   ·have:=KD.size;omega
   simp[Value.ownBlock]at e
  have ir:=setRow_heap w7 w.heap.size eB (sM pc XX IF tb) 136 (0,0) hr7;have HZ:=hid (ae h8 (ae KF (ae n7' hone)));have vI:(prog.info? 136).map (·.size)=some (sM pc XX IF tb).size:=mx;have vS:(sM pc XX IF tb).size=12:=rfl;generalize kQ:sM pc XX IF tb=AA at*;have Iz:=hid kQ;clear kQ EP h7 n7 K7 h8 KF n7' ne7 hf6 s9 KD
  go_wp2_with (first|refine wpList_load_row rfl 136 (.tmp 10) rfl xb rfl 136 AA (0,0) dv XA hdv (by cases dv<;>first|rfl|exact absurd zS (by simp[ak])) vI ?_|refine wpList_store_row rfl 136 (.tmp 4) (.tmp 42) rfl w.heap.size AA rfl rfl 136 eB hr7 vI (by rw[vS];rfl) hone ?_)
  refine bodyPost_ret (results_cell_tmp rfl _ _ w.heap.size 136 AA (0,0) dv rfl ir hdv zS vI) rfl ?_;refine⟨AA,by rw[HF.out];rfl,?_,HZ.out.2.1⟩;rw[HN.out];exact⟨λe=>absurd HF.out e,λ_=>⟨tb,pc,IF,Iz.out.symm,HZ.out.1.val,by omega,HZ.out.2.2.1,HZ.out.2.2.2⟩⟩
theorem Yr(t:ByteArray)(n:Int):
 Calls prog 58 #[.string t,.int .i64 n] w λr w'=>∃v,r= .returned (.tuple #[v,.int .i64 (sG t n)])/\UM w w' t n v/\Kp (λ_=>False) w w':=by
 obtain⟨dv,hdv,zS⟩:=ab3;have E:=hid (UN w t n);have HN:=hid (show∀w' A,Yq w w' t n A=((sG t n≠0->A=eB)/\(sG t n=0->∃tb pc kv,A=sM pc (lE (Ch.read t).2.2 n.toNat) kv tb/\SvV w' tb pc (Ch.read t).2.2 (lE (Ch.read t).2.2 n.toNat) kv/\w.heap.size<=tb/\(∀k,kv.ownBlock=some k->w.heap.size<=k)/\A.all (λx=>x.oneCell')=true))from λ_ _=>rfl);have HQ:=hid (show∀w' v,UM w w' t n v=((sG t n≠0->v= .pointer none)/\(sG t n=0->∃xb tb pc kv,v= .pointer (some ⟨xb,0,none⟩)/\dT w' xb tb 138 pc (Ch.read t).2.2 (lE (Ch.read t).2.2 n.toNat) kv/\∀k,oN xb tb kv k->w.heap.size<=k))from λ_ _=>rfl);generalize Yq w=NV at*;generalize UM w=NQ at*;generalize sG t n=NE at*;generalize lE (Ch.read t).2.2 n.toNat=XX at*;generalize (Ch.read t).2.2=ol at*
 go_enter func58,ntmps58
 go_wp2_with fail
 refine hm E ?_;rintro y w1 ⟨A,rfl,hv,K1⟩;rw[HN.out]at hv
 have hone:A.all (λx=>x.oneCell')=true:=by
  by_cases q:NE=0
  ·obtain⟨_,_,_,_,_,_,_,h⟩:=hv.2 q;exact h
  rw[hv.1 q];exact CP
 have hsz:A.size=12:=by
  by_cases q:NE=0
  ·obtain⟨_,_,_,h,_⟩:=hv.2 q;rw[h];rfl
  rw[hv.1 q];rfl
 have vI:(prog.info? 136).map (·.size)=some A.size:=by rw[hsz];exact mx
 have hnr:=heap_alloc_new w1 (.cells eB 136);have hb2:=setRow_heap (w1.alloc (.cells eB 136)) w1.heap.size eB A 136 (0,0) hnr;have K2:Kp (λ_=>False) w1 ((w1.alloc (.cells eB 136)).setRow w1.heap.size A):=((Kp.refl _ _).alloc _).setRow (λx=>by omega) _;have HH:=hid (ae hv (ae (K1.trans K2) K2));have hw1:=K1.size;have hw2:=K2.size;clear E hv K1 K2
 go_upto_region 2 with(refine wpList_store_row rfl 136 (.tmp 6) (.tmp 12) rfl w1.heap.size A rfl rfl 136 eB hnr vI (by rw[hsz];rfl) hone ?_)
 generalize (w1.alloc (.cells eB 136)).setRow w1.heap.size A=w2 at*;generalize w1.heap.size=sb at*;clear hnr
 cases q:NE !=0 with
 |true=>
  have hne:NE≠0:=by simpa using q
  go_wp2;go_ret2;refine⟨.pointer none,rfl,?_,HH.out.2.1⟩;rw[HQ.out];exact⟨λ_=>rfl,λe=>absurd e hne⟩
 |false=>?_
 have hne:NE=0:=by simpa using q
 subst hne;obtain⟨tb,pc,kv,eA,hV,htl,hkl,hone⟩:=HH.out.1.2 rfl;have hV2:=hV.ai HH.out.2.2;have HB:=hid (show prog.built 138 [(0,.agg A)]=some A by rw[eA];kernel_rfl);have K3:=HH.out.2.1.alloc (.cells A 138);have hb3:=heap_alloc_new w2 (.cells A 138);rw[eA]at hb3;have h3:=(hV2.ai ((Kp.refl _ _).alloc (.cells (sM pc XX kv tb) 138))).blk hb3 (.inr rfl);rw[<-eA]at h3;have hws:=HH.out.2.1.size;have HZ:=hid (ae h3 (ae K3 (ae htl hkl)));clear h3 K3 hV hV2 hb3 eA htl hkl hone
 go_wp2_with (first|refine wpList_load_row rfl 136 (.tmp 6) rfl sb rfl 136 A (0,0) dv hb2 hdv (by cases dv<;>first|rfl|exact absurd zS (by simp[ak])) vI ?_|(refine bX rfl 138 #[(0,.tmp 17)] rfl A [(0,.agg A)] ?_ HB.out ?_;rfl))
 go_ret2;refine⟨_,rfl,?_,HZ.out.2.1⟩;rw[HQ.out];refine⟨λe=>absurd rfl e,λ_=>⟨w2.heap.size,tb,pc,kv,rfl,HZ.out.1,?_⟩⟩;rintro k (e|e|e)
 ·omega
 ·rw[e];exact HZ.out.2.2.1
 exact HZ.out.2.2.2 k e
end
end Go.Proofs.YtnlbchmfcebeeaaGreat
