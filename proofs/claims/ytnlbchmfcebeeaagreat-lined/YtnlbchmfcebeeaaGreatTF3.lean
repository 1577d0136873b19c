import Derived.Test.YtnlbchmfcebeeaaGreatTF2
set_option maxHeartbeats 12800000
set_option maxRecDepth 100000
namespace Go.Proofs.YtnlbchmfcebeeaaGreat
open Go.Proofs.Tryz Ch
open Go.RowKit
namespace Ch
def takeA(ss:List St)(a:As):Bool×Sd:=take ss a.act a.past a.tm a.x a.y a.z
def kP(t:ByteArray)(a:As):Int:=if(read t).1 !=0 then(read t).1 else if(takeA (read t).2.2.ag a).1 then 0 else 7
def mj(t:ByteArray)(a:As):Sd:=if(read t).1 !=0 then jH else if(takeA (read t).2.2.ag a).1 then(takeA (read t).2.2.ag a).2 else jH
theorem ZB(t:ByteArray)(h:(read t).1=0):(read t).2.1=0:=by
 unfold read at*
 split at h
 ·simp at h
 rename_i q0;rw[if_neg q0]at*
 split at h
 ·rename_i q1
  rw[if_pos q1]at*
  split at h
  ·rename_i q2;rw[if_pos q2]
  rename_i q2;simp only at h;rw[h]at q2;simp at q2
 simp at h
structure As.Sm(a:As):Prop where
 act:a.act.size<=9223372036854775807
 past:a.past.size<=9223372036854775807
 tm:a.tm.size<=9223372036854775807
end Ch
section
variable (w:World)
theorem yg(t:ByteArray)(a:As)(ha:a.Sm):
 Calls prog 55 #[.string t,.agg (aN a)] w λx w'=>∃sv tv bv lt lb,x= .returned (.agg (xI (kP t a) sv tv bv (mj t a)))/\
  (sv.oneCell'=true/\tv.oneCell'=true/\bv.oneCell'=true)/\(kP t a=0->AB w' w.heap.size (Ch.read t).2.2 sv tv bv lt lb)/\Kp (λ_=>False) w w':=by
 obtain⟨dg,hdg,hga⟩:=afc;obtain⟨da,dE,bq⟩:=fN;obtain⟨dO,hdO,acG⟩:=abm;obtain⟨ds,hds,eY⟩:=eT
 have hb1:((w.alloc (.cells (aN a) 26)).alloc (.cells kM 119)).heap[w.heap.size]? =some (.cells (aN a) 26):=by
  rw[Below.heap_alloc _ _ _ (by simp)];exact heap_alloc_new _ _
 have hr1:((w.alloc (.cells (aN a) 26)).alloc (.cells kM 119)).heap[w.heap.size+1]? =some (.cells kM 119):=heap_alloc2_new w _ _;have K1:Kp (λ_=>False) w ((w.alloc (.cells (aN a) 26)).alloc (.cells kM 119)):=((Kp.refl _ _).alloc _).alloc _;have E0:=hid (sU t ((w.alloc (.cells (aN a) 26)).alloc (.cells kM 119)));have hol:=mK t;have hrf:=ZB t;have HU:=hid (show kP t a=if(Ch.read t).1 !=0 then(Ch.read t).1 else if(takeA (Ch.read t).2.2.ag a).1 then 0 else 7 from rfl);have HV:=hid (show mj t a=if(Ch.read t).1 !=0 then jH else if(takeA (Ch.read t).2.2.ag a).1 then(takeA (Ch.read t).2.2.ag a).2 else jH from rfl);have HW:=hid (show aN a=aN a from rfl);generalize kQ:aN a=AA at hb1 hr1 K1 E0 HW⊢
 have aI:(prog.info? 26).map (·.size)=some AA.size:=by rw[<-kQ];exact aP
 have Iz:=hid kQ;clear kQ HW
 go_enter func55,ntmps55
 go_wp2_with fail
 refine hm E0 ?_;rintro x w2 ⟨sv,tv,bv,lt,lb,rfl,F2,B2⟩;have K2:=kZ B2;have hb2:=K2.at_ hb1 (λx=>x);have hr2:=K2.at_ hr1 (λx=>x);have KA:=K1.trans K2;have hws:w.heap.size<=((w.alloc (.cells AA 26)).alloc (.cells kM 119)).heap.size:=K1.size
 have F2':AB w2 w.heap.size (Ch.read t).2.2 sv tv bv lt lb:=
  ⟨cO F2.ag hws,F2.Iw,cO F2.bG hws,λx hx=>cO (F2.iX x hx) hws,F2.Mj,cO F2.dz hws,λx hx=>cO (F2.rh x hx) hws⟩
 clear E0 hb1 hr1 K1 K2 B2 F2 hws;generalize hrd:Ch.read t=rd at*;obtain⟨re,rf,ol⟩:=rd;have HRD:=hid hrd;clear hrd;simp only at hol F2' HU HV hrf;have o1:=fF F2'.ag;have o2:=fF F2'.bG;have o3:=fF F2'.dz;have v_:=IL (e:=re) (f:=rf) o1 o2 o3;have hnew:=heap_alloc_new w2 (.cells zy 87);have hrow:=setRow_heap (w2.alloc (.cells zy 87)) w2.heap.size _ (sV re rf sv tv bv) 87 (0,0) hnew;have K3:Kp (λ_=>False) w2 ((w2.alloc (.cells zy 87)).setRow w2.heap.size (sV re rf sv tv bv)):=((Kp.refl _ _).alloc _).setRow (λx=>by omega) _;have F3:=F2'.ai K3;have hb3:=K3.at_ hb2 (λx=>x);have hr3:=K3.at_ hr2 (λx=>x);have KB:=KA.trans K3;have hlt:w.heap.size+1<w2.heap.size:=lt_of_block hr2;have HX:=hid (ae F3 (ae hb3 (ae hr3 (ae KB hrow))));clear hb2 hr2 KA K3 F3 hb3 hr3 KB hrow F2'
 go_upto_region 2 with(refine wpList_store_row rfl 87 (.tmp 5) (.tmp 9) rfl w2.heap.size (sV re rf sv tv bv) rfl rfl 87 zy hnew vj rfl v_ ?_)
 generalize (w2.alloc (.cells zy 87)).setRow w2.heap.size (sV re rf sv tv bv)=w3 at*;obtain⟨F3,hb3,hr3,KB,hrow⟩:=HX.out
 have z0:w3.cell? ⟨w2.heap.size,0,none⟩=some (.int .i64 re):=by rw[World.cell?,hrow];rfl
 clear hnew v_ F3 hb3 KB hrow;generalize w2.heap.size=ob at*
 cases q1:re !=0 with
 |true=>
  have HE:=hid (HU.out.trans (show _=re by rw[q1];rfl));have HS:=hid (HV.out.trans (show _=jH by rw[q1];rfl));have HB:=hid (wD re);have hgI:=pV re (.slice none 0 0) (.slice none 0 0) (.slice none 0 0) kC;have hgS:=nJ re (.slice none 0 0) (.slice none 0 0) (.slice none 0 0) kC;have hgO:=uy re (sv:=.slice none 0 0) (tv:=.slice none 0 0) (bv:=.slice none 0 0) rfl rfl rfl jH
  have hre:re≠0:=by simpa using q1
  generalize Qf:xI re (.slice none 0 0) (.slice none 0 0) (.slice none 0 0) jH=GA at*;have HG:=hid Qf;clear Qf
  go_wp2_with (first|(refine bX rfl 119 #[(0,.tmp 14)] rfl GA [(0,.int .i64 re)] ?_ HB.out ?_;rfl)|refine wpList_store_row rfl 119 (.tmp 4) (.tmp 15) rfl (w.heap.size+1) GA rfl rfl 119 kM hr3 hgI (by rw[hgS];rfl) hgO ?_)
  obtain⟨F3,hb3,hr3,KB,hrow⟩:=HX.out;refine bodyPost_ret (results_cell_row rfl _ _ (w.heap.size+1) 119 GA (0,0) dg rfl (setRow_heap _ _ _ _ _ _ hr3) hdg (by cases dg<;>first|rfl|exact absurd hga (by simp[ak])) hgI) rfl ?_;rw[HE.out,HS.out,<-HG.out];exact⟨_,_,_,lt,lb,rfl,⟨rfl,rfl,rfl⟩,λe=>absurd e hre,KB.setRow (λx=>by omega) _⟩
 |false=>?_
 have hre:re=0:=by simpa using q1
 have YU:=hid (HU.out.trans (show _=if(takeA ol.ag a).1 then(0:Int)else 7 by rw[q1];rfl));have HV2:=hid (HV.out.trans (show _=if(takeA ol.ag a).1 then(takeA ol.ag a).2 else jH by rw[q1];rfl));obtain⟨F3,hb3,ai0,KB,hrow⟩:=HX.out;have hp3:=Pl.ofRow hrow F3;have E1:=hid (RX ob 0 w3 ol.ag a.act a.past a.tm a.x a.y a.z ha.act ha.past ha.tm hp3.str (by have:=hol.ag;omega));have afj:=wB (ss:=ol.ag) (a:=a.act) (p:=a.past) (t:=a.tm) (x:=a.x) (y:=a.y) (z:=a.z)
 have E1':Hid (Calls prog 79 #[.pointer (some ⟨ob,0,none⟩),.agg AA] w3
  λr w'=>r= .returned (.tuple #[.agg (ax (takeA ol.ag a).2).toArray,.bool (takeA ol.ag a).1])/\Kp (λ_=>False) w3 w'):=by rw[<-Iz.out];exact E1
 have Ee:(takeA ol.ag a).2.Ok:=afj;clear F3 KB hrow E1 afj hp3 HU HV;generalize takeA ol.ag a=tk at*;obtain⟨tb,ts⟩:=tk;simp only at Ee YU HV2 E1';have tI:=fG Ee.1;have tS:=gz Ee.1;have tO:=j3 ts
 go_wp2_with (refine wpList_load_row rfl 26 (.tmp 3) rfl w.heap.size rfl 26 AA (0,0) da hb3 dE (by cases da<;>first|rfl|exact absurd bq (by simp[ak])) aI ?_)
 refine Calls.mono (Hid.out E1') ?_;rintro x w4 ⟨rfl,K4⟩;obtain⟨F3,hb3,hr3,KB,hrow⟩:=HX.out;have F4:=F3.ai K4;have hr4:=K4.at_ hr3 (λx=>x);have hrow4:=K4.at_ hrow (λx=>x);have KC:=KB.trans K4;have hnew:=heap_alloc_new w4 (.cells aW 95);have oy:=setRow_heap (w4.alloc (.cells aW 95)) w4.heap.size aW (ax ts).toArray 95 (0,0) hnew;have K5:Kp (λ_=>False) w4 ((w4.alloc (.cells aW 95)).setRow w4.heap.size (ax ts).toArray):=((Kp.refl _ _).alloc _).setRow (λx=>by omega) _;have F5:=F4.ai K5;have jV:=K5.at_ hr4 (λx=>x);have sr:=K5.at_ hrow4 (λx=>x);have KD:=KC.trans K5;have HY:=hid (ae F5 (ae jV KD));have HT:=hid (show(ax ts).toArray=(ax ts).toArray from rfl);clear F3 hb3 hr3 ai0 KB hrow F4 hr4 hrow4 KC K4 K5 HX E1' F5 KD z0;generalize hTA:(ax ts).toArray=TA at*;have HTA:=hid hTA;clear hTA HT
 go_upto_region 5 with(refine wpList_store_row rfl 95 (.tmp 6) (.tmp 19) rfl w4.heap.size TA rfl rfl 95 aW hnew tI (by rw[tS];rfl) tO ?_)
 generalize (w4.alloc (.cells aW 95)).setRow w4.heap.size TA=w5 at*;generalize w4.heap.size=tb5 at*
 cases tb with
 |false=>
  have HE:=hid (YU.out.trans (show _=(7:Int)from rfl));have HS:=hid (HV2.out.trans (show _=jH from rfl));have HB:=hid (wD 7);have hgI:=pV 7 (.slice none 0 0) (.slice none 0 0) (.slice none 0 0) kC;have hgS:=nJ 7 (.slice none 0 0) (.slice none 0 0) (.slice none 0 0) kC;have hgO:=uy 7 (sv:=.slice none 0 0) (tv:=.slice none 0 0) (bv:=.slice none 0 0) rfl rfl rfl jH;generalize Qf:xI 7 (.slice none 0 0) (.slice none 0 0) (.slice none 0 0) jH=GA at*;have HG:=hid Qf;clear Qf
  go_wp2_with (first|(refine bX rfl 119 #[(0,.const (.int .i64 7))] rfl GA [(0,.int .i64 7)] ?_ HB.out ?_;rfl)|refine wpList_store_row rfl 119 (.tmp 4) (.tmp 23) rfl (w.heap.size+1) GA rfl rfl 119 kM jV hgI (by rw[hgS];rfl) hgO ?_)
  obtain⟨F5,jV,KD⟩:=HY.out;refine bodyPost_ret (results_cell_row rfl _ _ (w.heap.size+1) 119 GA (0,0) dg rfl (setRow_heap _ _ _ _ _ _ jV) hdg (by cases dg<;>first|rfl|exact absurd hga (by simp[ak])) hgI) rfl ?_;rw[HE.out,HS.out,<-HG.out];exact⟨_,_,_,lt,lb,rfl,⟨rfl,rfl,rfl⟩,λe=>absurd e (by decide),KD.setRow (λx=>by omega) _⟩
 |true=>?_
 have HE:=hid (YU.out.trans (show _=(0:Int)from rfl));have HS:=hid (HV2.out.trans (show _=ts from rfl));obtain⟨F5,afl,KD⟩:=HY.out;obtain⟨sa,sl,sc,rfl⟩:=ew F5.ag;obtain⟨ta,tl,tc,rfl⟩:=ew F5.bG;obtain⟨ba,bl,bc,rfl⟩:=ew F5.dz;have ai2:=hrf hre;subst hre ai2;have HB:Hid (prog.built 119 [(1,.agg (sV 0 0 (.slice sa sl sc) (.slice ta tl tc) (.slice ba bl bc))),(2,.agg TA)]=some (xI 0 (.slice sa sl sc) (.slice ta tl tc) (.slice ba bl bc) ts)):=hid (by rw[<-HTA.out];exact Jb sa ta ba sl sc tl tc bl bc ts Ee.1);have hgI:=pV 0 (.slice sa sl sc) (.slice ta tl tc) (.slice ba bl bc) Ee.1;have hgS:=nJ 0 (.slice sa sl sc) (.slice ta tl tc) (.slice ba bl bc) Ee.1;have hgO:=uy 0 (sv:=.slice sa sl sc) (tv:=.slice ta tl tc) (bv:=.slice ba bl bc) rfl rfl rfl ts;have oI:(prog.info? 87).map (·.size)=some (sV 0 0 (.slice sa sl sc) (.slice ta tl tc) (.slice ba bl bc)).size:=vj;clear F5 KD afl;generalize Qf:xI 0 (.slice sa sl sc) (.slice ta tl tc) (.slice ba bl bc) ts=GA at*;have HG:=hid Qf;clear Qf;generalize sV 0 0 (.slice sa sl sc) (.slice ta tl tc) (.slice ba bl bc)=OA at*
 go_wp2_with (first|refine wpList_load_row rfl 87 (.tmp 5) rfl ob rfl 87 OA (0,0) dO sr hdO (by cases dO<;>first|rfl|exact absurd acG (by simp[ak])) oI ?_|refine wpList_load_row rfl 95 (.tmp 6) rfl tb5 rfl 95 TA (0,0) ds oy hds (by cases ds<;>first|rfl|exact absurd eY (by simp[ak])) tI ?_|(refine bX rfl 119 #[(1,.tmp 24),(2,.tmp 25)] rfl GA [(1,.agg OA),(2,.agg TA)] ?_ HB.out ?_;rfl)|refine wpList_store_row rfl 119 (.tmp 4) (.tmp 26) rfl (w.heap.size+1) GA rfl rfl 119 kM jV hgI (by rw[hgS];rfl) hgO ?_)
 obtain⟨F5,afl,KD⟩:=HY.out;refine bodyPost_ret (results_cell_row rfl _ _ (w.heap.size+1) 119 GA (0,0) dg rfl (setRow_heap _ _ _ _ _ _ jV) hdg (by cases dg<;>first|rfl|exact absurd hga (by simp[ak])) hgI) rfl ?_;have KR:Kp (λk=>k=w.heap.size+1) w5 (w5.setRow (w.heap.size+1) GA):=Kp.setRow (S:=λk=>k=w.heap.size+1) (Kp.refl _ _) (g:=w.heap.size+1) (λ_=>rfl) _
 have hN:∀{base e size v n xs},w5.ownsRow base e size v n xs->e≠119->∀i,v.ownBlock=some i->¬i=w.heap.size+1:=by
  intro base e size v n xs ho he i hi hx;obtain⟨cur,hc⟩:=br ho hi;rw[hx,jV]at hc;simp at hc;exact he hc.2.symm
 rw[HE.out,HS.out,<-HG.out];refine⟨_,_,_,rfl,⟨rfl,rfl,rfl⟩,⟨lt,lb,λ_=>?_⟩,KD.setRow (λx=>by omega) _⟩;rw[HG.out,HRD.out];exact⟨KR.owns F5.ag (hN F5.ag (by decide)),F5.Iw,KR.owns F5.bG (hN F5.bG (by decide)),λx hx=>KR.owns (F5.iX x hx) (hN (F5.iX x hx) (by decide)),F5.Mj,KR.owns F5.dz (hN F5.dz (by decide)),λx hx=>KR.owns (F5.rh x hx) (hN (F5.rh x hx) (by decide))⟩
end
namespace Ch
theorem Jd{ol:Ol}:∀{n:Nat} {s:Sd} {l:List Int} {r:Sd×ByteArray},s.Ok->cI ol n s l=some r->r.1.Ok:=by
 intro n
 induction n with
 |zero=>intro s l r _ h;simp[cI]at h
 |succ n ih=>?_
 intro s l r hs h;simp only[cI]at h
 split at h
 ·split at h
  ·exact ih (lP (nK hs) _) h
  exact ih (nK hs) h
 simp at h;subst h;exact nK hs
def gV(n:Nat)(t:ByteArray)(a:As):As×ByteArray×Int:=
 if kP t a !=0 then(dX,⟨#[]⟩,kP t a)else match cI (read t).2.2 n (tick (mj t a)) []with
  |some r=>(aH (read t).2.2.ag r.1,r.2,0)
  |none=>(dX,⟨#[]⟩,0)
theorem ZC{t:ByteArray}:∀(f k:Nat),IU t f k=true->t.size<=k+2*f->(t.size-k) % 2=0->∀j,k<=j->j<t.size->1<=af t j:=by
 intro f
 induction f with
 |zero=>intro k _ h1 _ j h2 h3;omega
 |succ f ih=>?_
 intro k h h1 hm j h2 h3;simp only[IU]at h
 split at h
 ·rename_i q
  split at h
  ·rename_i q2
   simp only[Bool.and_eq_true,Bool.not_eq_true',decide_eq_false_iff_not,bR,decide_eq_true_eq]at q2
   rcases Nat.lt_or_ge j (k+2)with e|e
   ·rcases Nat.eq_or_lt_of_le h2 with e2|e2
    ·subst e2;omega
    obtain rfl:j=k+1:=by omega
    omega
   exact ih (k+2) h (by omega) (by omega) j e h3
  simp at h
 omega
theorem Se{t:ByteArray}(h:j2 t=true):∀j,j<t.size->1<=af t j:=by
 unfold j2 at h
 split at h
 ·simp at h
 rename_i q;simp only[Bool.or_eq_true,bne_iff_ne,decide_eq_true_eq,not_or,Decidable.not_not]at q;intro j hj;exact ZC t.size 0 h (by omega) (by omega) j (Nat.zero_le _) hj
theorem Qg{ss:List St}{a p t:ByteArray}{x y z:Int}(h:(take ss a p t x y z).1=true):j2 (take ss a p t x y z).2.tm=true:=by
 unfold take at*
 split
 ·rename_i q1
  rw[if_pos q1]at h
  split
  ·rename_i q2
   rw[if_pos q2]at h
   split
   ·rename_i q3
    simp only[Bool.and_eq_true]at q3;exact q3.1.1.1
   rename_i q3;rw[if_neg q3]at h;simp at h
  rename_i q2;rw[if_neg q2]at h;simp at h
 rename_i q1;rw[if_neg q1]at h;simp at h
theorem ZD{t:ByteArray}{a:As}(h:kP t a=0):(read t).1=0/\(takeA (read t).2.2.ag a).1=true/\mj t a=(takeA (read t).2.2.ag a).2:=by
 unfold kP at h;unfold mj
 split at h
 ·rename_i q;simp at q;exact absurd h q
 rename_i q
 split at h
 ·rename_i q2;exact⟨by simpa using q,q2,by rw[if_neg q,if_pos q2]⟩
 simp at h
theorem VR(t:ByteArray)(a:As):(mj t a).Ok:=by
 unfold mj
 split
 ·exact Gx
 split
 ·exact wB
 exact Gx
end Ch
theorem Gz{w:World}{cb:Nat}{e:Int}{sv tv bv:Value}{s:Sd}{T:TypeId}(h:w.heap[cb]? =some (.cells (xI e sv tv bv s) T (0,0))):∀j v,(ax s)[j]? =some v->w.cell? ⟨cb,6+j,none⟩=some v:=by
 intro j v hj;rw[World.cell?,h];show((([Value.int .i64 e,.int .i64 0,.int .i64 0,sv,tv,bv]++ax s).toArray)[6+j]?)=some v;rw[List.getElem?_toArray,List.getElem?_append_right (by simp)];simpa using hj
theorem Pl.afm{w:World}{cb B:Nat}{ol:Ol}{e:Int}{sv tv bv:Value}{s:Sd}{lt:List (Tr×Value)}{lb:List (Bl×Value)}(h:w.heap[cb]? =some (.cells (xI e sv tv bv s) 119 (0,0)))(F:AB w B ol sv tv bv lt lb):Pl w cb 1 ol:=
 ⟨sv,tv,bv,lt,lb,B,_,_,⟨h,.inr (.inl rfl),rfl,rfl,rfl⟩,F⟩
section
variable (w:World)
theorem uA(n:Nat)(hn:n<=1000)(t:ByteArray)(a:As)(ha:a.Sm)(hw:kP t a=0->(cI (Ch.read t).2.2 n (Ch.tick (mj t a)) []).isSome=true):
 Calls prog 48 #[.string t,.agg (aN a)] w λx w'=>x= .returned (.tuple #[.agg (aN (gV n t a).1),.string (gV n t a).2.1,.int .i64 (gV n t a).2.2])/\Kp (λ_=>False) w w':=by
 obtain⟨da,dE,bq⟩:=fN;obtain⟨ds,hds,eY⟩:=eT
 have hb1:((w.alloc (.cells (aN a) 26)).alloc (.cells aD 26)).heap[w.heap.size]? =some (.cells (aN a) 26):=by
  rw[Below.heap_alloc _ _ _ (by simp)];exact heap_alloc_new _ _
 have hr1:((w.alloc (.cells (aN a) 26)).alloc (.cells aD 26)).heap[w.heap.size+1]? =some (.cells aD 26):=heap_alloc2_new w _ _;have K1:Kp (λ_=>False) w ((w.alloc (.cells (aN a) 26)).alloc (.cells aD 26)):=((Kp.refl _ _).alloc _).alloc _;have E0:=hid (yg ((w.alloc (.cells (aN a) 26)).alloc (.cells aD 26)) t a ha);have hol:=mK t;have AV:=VR t a
 have hpos:kP t a=0->∀k,k<(mj t a).tm.size->1<=af (mj t a).tm k:=by
  intro h;obtain⟨_,h2,h3⟩:=ZD h;rw[h3];exact Se (Qg h2)
 have HU:=hid (show gV n t a=if kP t a !=0 then(dX,⟨#[]⟩,kP t a)else match cI (Ch.read t).2.2 n (Ch.tick (mj t a)) []with
  |some r=>(aH (Ch.read t).2.2.ag r.1,r.2,0)
  |none=>(dX,⟨#[]⟩,0)from rfl)
 generalize kQ:aN a=AA at hb1 hr1 K1 E0⊢
 have aI:(prog.info? 26).map (·.size)=some AA.size:=by rw[<-kQ];exact aP
 clear kQ;generalize kP t a=le at*;generalize mj t a=ls at*;generalize (Ch.read t).2.2=ol at*
 go_enter func48,ntmps48
 go_upto_region 1 with(fail)
 generalize (w.alloc (.cells AA 26)).alloc (.cells aD 26)=w1 at*
 go_wp2_with (refine wpList_load_row rfl 26 (.tmp 3) rfl w.heap.size rfl 26 AA (0,0) da hb1 dE (by cases da<;>first|rfl|exact absurd bq (by simp[ak])) aI ?_)
 refine bH E0 ?_;rintro x w2 ⟨sv,tv,bv,lt,lb,rfl,⟨o1,o2,o3⟩,F2,K2⟩;have hr2:=K2.at_ hr1 (λx=>x);have KA:=K1.trans K2;have gI:=pV le sv tv bv AV.1;have gS:=nJ le sv tv bv AV.1;have gO:=uy le o1 o2 o3 ls;have hnew:=heap_alloc_new w2 (.cells kM 119);have hrow:=setRow_heap (w2.alloc (.cells kM 119)) w2.heap.size _ (xI le sv tv bv ls) 119 (0,0) hnew;have K3:Kp (λ_=>False) w2 ((w2.alloc (.cells kM 119)).setRow w2.heap.size (xI le sv tv bv ls)):=((Kp.refl _ _).alloc _).setRow (λx=>by omega) _;have hr3:=K3.at_ hr2 (λx=>x);have KB:=KA.trans K3
 have F3:le=0->AB ((w2.alloc (.cells kM 119)).setRow w2.heap.size (xI le sv tv bv ls)) w1.heap.size ol sv tv bv lt lb:=λh=>(F2 h).ai K3
 have hlt:w.heap.size+1<w2.heap.size:=lt_of_block hr2
 have z0:((w2.alloc (.cells kM 119)).setRow w2.heap.size (xI le sv tv bv ls)).cell? ⟨w2.heap.size,0,none⟩=some (.int .i64 le):=by rw[World.cell?,hrow];rfl
 have hst:=Gz hrow;have HX:=hid (ae F3 (ae hr3 (ae KB hrow)));clear E0 hb1 hr1 K1 K2 hr2 KA F2 F3 hr3 KB hrow K3 aI;generalize Qf:xI le sv tv bv ls=GA at*;have HGA:=hid Qf;clear Qf
 go_upto_region 2 with(refine wpList_store_row rfl 119 (.tmp 7) (.tmp 12) rfl w2.heap.size GA rfl rfl 119 kM hnew gI (by rw[gS];rfl) gO ?_)
 generalize (w2.alloc (.cells kM 119)).setRow w2.heap.size GA=w3 at*;generalize w2.heap.size=cb at*;clear hnew gI gS gO
 cases q1:le !=0 with
 |true=>
  have HF:=hid (HU.out.trans (show _=(dX,(⟨#[]⟩:ByteArray),le)by rw[q1];rfl))
  go_upto_region 3 with(fail)
  obtain⟨F3,hr3,KB,hrow⟩:=HX.out;have hS0:w3.drew.cell? ⟨cb,0,none⟩=some (.int .i64 le):=z0
  have hne:cb≠w.heap.size+1:=by omega
  have hS1:(w3.drew.setRow (w.heap.size+1) aD).cell? ⟨cb,0,none⟩=some (.int .i64 le):=by
   have e:(w3.drew.setRow (w.heap.size+1) aD).heap[cb]? =w3.drew.heap[cb]?:=setRow_other _ _ _ _ hne;unfold World.cell? at*;simp only at*;rw[e];exact hS0
  have KF:Kp (λ_=>False) w (w3.drew.setRow (w.heap.size+1) aD):=(KB.drewN 1).setRow (λx=>by omega) _;refine az (λw'=>w'.cell? ⟨cb,0,none⟩=some (.int .i64 le)) (by kernel_rfl) ?_;refine eC 0 16 (.agg aD) rfl (λw' _=>fY 26 #[] rfl aD [] rfl (by kernel_rfl)) hS0 ?_;refine eC 1 17 (.pointer (some ⟨cb,0,none⟩)) rfl (λw' _=>by simp[execOp,Act.eval,Act.put,go_sem]) hS0 ?_;refine eC 2 18 (.int .i64 le) rfl (λw' hS=>by simp[execOp,Act.eval,Act.put,go_sem,hS]) hS0 ?_;refine bF 3 (by kernel_rfl) rfl rfl 26 (.tmp 4) (.tmp 16) rfl rfl (w.heap.size+1) aD (by simp[Act.eval,Act.put]) (by simp[Act.eval,Act.put]) 26 aD (by exact hr3) aP rfl (bZ dX) hS1 ?_;refine eC 4 5 (.string ⟨#[]⟩) rfl (λw' _=>by rfl) hS1 ?_;refine eC 5 6 (.int .i64 le) rfl (λw' _=>by simp[execOp,Act.eval,Act.put,go_sem]) hS1 ?_;refine wpAnyH_done (by kernel_rfl) (NoPanic.normal ?_) _;simp only[Act.put,pA,pB,pC];go_wp2;refine bodyPost_ret (aq rfl _ _ (w.heap.size+1) 26 aD (0,0) da rfl (setRow_heap w3.drew _ _ _ _ _ (by exact hr3)) dE bq aP) rfl ?_;rw[HF.out];exact⟨rfl,KF⟩
 |false=>?_
 have hle:le=0:=by simpa using q1
 subst hle;obtain⟨r,hr⟩:=Option.isSome_iff_exists.1 (hw rfl);have HF:=hid (HU.out.trans (show _=(aH ol.ag r.1,r.2,(0:Int))by rw[hr];rfl));obtain⟨F3,hr3,KB,hrow⟩:=HX.out;have hp3:Pl w3 cb 1 ol:=Pl.afm (by rw[HGA.out];exact hrow) (F3 rfl);have E1:=hid (Ec w3 cb 1 ol ls n r hr hn (hpos rfl) AV hp3 hol);have ZE:=Jd (wG AV) hr
 have Ml:(prog.info? 95).map (·.size)=some (ax ls).length:=by rw[bE AV.1];exact bV
 have HZ:=hid hp3;clear F3 hr3 KB hrow hp3 HU hw hr hpos;obtain⟨rs,rt⟩:=r;simp only at ZE HF E1;have fI:=fG ZE.1;have fS:=gz ZE.1;have fO:=j3 rs
 go_wp2_with (refine aY rfl 95 (.tmp 21) rfl cb 6 rfl (ax ls) ds hst hds eY Ml ?_)
 refine bH E1 ?_;rintro x w4 ⟨rfl,K4⟩;obtain⟨F3,hr3,KB,hrow⟩:=HX.out;have uU:=HZ.out.keep K4 (λ_ _ _ _ _ x=>x);have hr4:=K4.at_ hr3 (λx=>x);have KC:=KB.trans K4;have hnew:=heap_alloc_new w4 (.cells aW 95);have oy:=setRow_heap (w4.alloc (.cells aW 95)) w4.heap.size aW (ax rs).toArray 95 (0,0) hnew;have K5:Kp (λ_=>False) w4 ((w4.alloc (.cells aW 95)).setRow w4.heap.size (ax rs).toArray):=((Kp.refl _ _).alloc _).setRow (λx=>by omega) _;have h5:=du.th oy;have xJ:=uU.keep K5 (λ_ _ _ _ _ x=>x);have jV:=K5.at_ hr4 (λx=>x);have KD:=KC.trans K5;have E2:=hid (lH cb 1 ((w4.alloc (.cells aW 95)).setRow w4.heap.size (ax rs).toArray) ol.ag w4.heap.size 0 [] rs [] 95 xJ.str (by have:=hol.ag;omega) h5 ZE.1 rfl);have HY:=hid (ae jV KD);clear F3 hr3 KB hrow uU hr4 KC K4 K5 h5 xJ jV KD HX E1 oy HZ hst z0;generalize (ax rs).toArray=FA at*
 go_upto_region 5 with(refine wpList_store_row rfl 95 (.tmp 8) (.tmp 24) rfl w4.heap.size FA rfl rfl 95 aW hnew fI (by rw[fS];rfl) fO ?_)
 generalize (w4.alloc (.cells aW 95)).setRow w4.heap.size FA=w5 at*;generalize w4.heap.size=fb at*;clear fI fS fO hnew
 go_wp2_with fail
 refine bH E2 ?_;rintro x w6 ⟨rfl,K6⟩;obtain⟨jV,KD⟩:=HY.out;have s9:=K6.at_ jV (λx=>x);have KF:Kp (λ_=>False) w (w6.setRow (w.heap.size+1) (aN (aH ol.ag rs))):=(KD.trans K6).setRow (λx=>by omega) _;clear KD jV HY E2
 go_wp2_with (refine wpList_store_row rfl 26 (.tmp 4) (.tmp 27) rfl (w.heap.size+1) (aN (aH ol.ag rs)) rfl rfl 26 aD s9 aP rfl (bZ _) ?_)
 refine bodyPost_ret (aq rfl _ _ (w.heap.size+1) 26 (aN (aH ol.ag rs)) (0,0) da rfl (setRow_heap _ _ _ _ _ _ s9) dE bq aP) rfl ?_;rw[HF.out];exact⟨rfl,KF⟩
end
namespace Ch
def mz(t:ByteArray)(a:As)(ev:ByteArray):As×ByteArray×Int:=
 if kP t a !=0 then(dX,⟨#[]⟩,kP t a)else if decide (ev.size=1)&&bR (af ev 0)then
  (if(aQ (read t).2.2 (mj t a) (af ev 0)).2.2 !=0 then(dX,⟨#[]⟩,(aQ (read t).2.2 (mj t a) (af ev 0)).2.2)
   else(aH (read t).2.2.ag (aQ (read t).2.2 (mj t a) (af ev 0)).1,(aQ (read t).2.2 (mj t a) (af ev 0)).2.1,0))else(dX,⟨#[]⟩,8)
end Ch
section
variable (w:World)
theorem mV(t:ByteArray)(a:As)(ev:ByteArray)(ha:a.Sm):
 Calls prog 31 #[.string t,.agg (aN a),.string ev] w λx w'=>x= .returned (.tuple #[.agg (aN (mz t a ev).1),.string (mz t a ev).2.1,.int .i64 (mz t a ev).2.2])/\Kp (λ_=>False) w w':=by
 obtain⟨da,dE,bq⟩:=fN;obtain⟨ds,hds,eY⟩:=eT
 have hb1:((w.alloc (.cells (aN a) 26)).alloc (.cells aD 26)).heap[w.heap.size]? =some (.cells (aN a) 26):=by
  rw[Below.heap_alloc _ _ _ (by simp)];exact heap_alloc_new _ _
 have hr1:((w.alloc (.cells (aN a) 26)).alloc (.cells aD 26)).heap[w.heap.size+1]? =some (.cells aD 26):=heap_alloc2_new w _ _;have K1:Kp (λ_=>False) w ((w.alloc (.cells (aN a) 26)).alloc (.cells aD 26)):=((Kp.refl _ _).alloc _).alloc _;have E0:=hid (yg ((w.alloc (.cells (aN a) 26)).alloc (.cells aD 26)) t a ha);have hol:=mK t;have AV:=VR t a
 have HU:=hid (show mz t a ev=if kP t a !=0 then(dX,⟨#[]⟩,kP t a)else if decide (ev.size=1)&&bR (af ev 0)then
  (if(aQ (Ch.read t).2.2 (mj t a) (af ev 0)).2.2 !=0 then(dX,⟨#[]⟩,(aQ (Ch.read t).2.2 (mj t a) (af ev 0)).2.2)
   else(aH (Ch.read t).2.2.ag (aQ (Ch.read t).2.2 (mj t a) (af ev 0)).1,(aQ (Ch.read t).2.2 (mj t a) (af ev 0)).2.1,0))else(dX,⟨#[]⟩,8)from rfl)
 generalize kQ:aN a=AA at hb1 hr1 K1 E0⊢
 have aI:(prog.info? 26).map (·.size)=some AA.size:=by rw[<-kQ];exact aP
 clear kQ;generalize kP t a=le at*;generalize mj t a=ls at*;generalize (Ch.read t).2.2=ol at*
 go_enter func31,ntmps31
 go_upto_region 1 with(fail)
 generalize (w.alloc (.cells AA 26)).alloc (.cells aD 26)=w1 at*
 go_wp2_with (refine wpList_load_row rfl 26 (.tmp 4) rfl w.heap.size rfl 26 AA (0,0) da hb1 dE (by cases da<;>first|rfl|exact absurd bq (by simp[ak])) aI ?_)
 refine hm E0 ?_;rintro x w2 ⟨sv,tv,bv,lt,lb,rfl,⟨o1,o2,o3⟩,F2,K2⟩;have hr2:=K2.at_ hr1 (λx=>x);have KA:=K1.trans K2;have gI:=pV le sv tv bv AV.1;have gS:=nJ le sv tv bv AV.1;have gO:=uy le o1 o2 o3 ls;have hnew:=heap_alloc_new w2 (.cells kM 119);have hrow:=setRow_heap (w2.alloc (.cells kM 119)) w2.heap.size _ (xI le sv tv bv ls) 119 (0,0) hnew;have K3:Kp (λ_=>False) w2 ((w2.alloc (.cells kM 119)).setRow w2.heap.size (xI le sv tv bv ls)):=((Kp.refl _ _).alloc _).setRow (λx=>by omega) _;have hr3:=K3.at_ hr2 (λx=>x);have KB:=KA.trans K3
 have F3:le=0->AB ((w2.alloc (.cells kM 119)).setRow w2.heap.size (xI le sv tv bv ls)) w1.heap.size ol sv tv bv lt lb:=λh=>(F2 h).ai K3
 have hlt:w.heap.size+1<w2.heap.size:=lt_of_block hr2
 have z0:((w2.alloc (.cells kM 119)).setRow w2.heap.size (xI le sv tv bv ls)).cell? ⟨w2.heap.size,0,none⟩=some (.int .i64 le):=by rw[World.cell?,hrow];rfl
 have hst:=Gz hrow;have HX:=hid (ae F3 (ae hr3 (ae KB hrow)));clear E0 hb1 hr1 K1 K2 hr2 KA F2 F3 hr3 KB hrow K3 aI;generalize Qf:xI le sv tv bv ls=GA at*;have HGA:=hid Qf;clear Qf
 go_upto_region 2 with(refine wpList_store_row rfl 119 (.tmp 9) (.tmp 15) rfl w2.heap.size GA rfl rfl 119 kM hnew gI (by rw[gS];rfl) gO ?_)
 generalize (w2.alloc (.cells kM 119)).setRow w2.heap.size GA=w3 at*;generalize w2.heap.size=cb at*;clear hnew gI gS gO
 cases q1:le !=0 with
 |true=>
  have HF:=hid (HU.out.trans (show _=(dX,(⟨#[]⟩:ByteArray),le)by rw[q1];rfl))
  go_upto_region 3 with(fail)
  obtain⟨F3,hr3,KB,hrow⟩:=HX.out;have hS0:w3.drew.cell? ⟨cb,0,none⟩=some (.int .i64 le):=z0
  have hne:cb≠w.heap.size+1:=by omega
  have hS1:(w3.drew.setRow (w.heap.size+1) aD).cell? ⟨cb,0,none⟩=some (.int .i64 le):=by
   have e:(w3.drew.setRow (w.heap.size+1) aD).heap[cb]? =w3.drew.heap[cb]?:=setRow_other _ _ _ _ hne;unfold World.cell? at*;simp only at*;rw[e];exact hS0
  have KF:Kp (λ_=>False) w (w3.drew.setRow (w.heap.size+1) aD):=(KB.drewN 1).setRow (λx=>by omega) _;refine az (λw'=>w'.cell? ⟨cb,0,none⟩=some (.int .i64 le)) (by kernel_rfl) ?_;refine eC 0 19 (.agg aD) rfl (λw' _=>fY 26 #[] rfl aD [] rfl (by kernel_rfl)) hS0 ?_;refine eC 1 20 (.pointer (some ⟨cb,0,none⟩)) rfl (λw' _=>by simp[execOp,Act.eval,Act.put,go_sem]) hS0 ?_;refine eC 2 21 (.int .i64 le) rfl (λw' hS=>by simp[execOp,Act.eval,Act.put,go_sem,hS]) hS0 ?_;refine bF 3 (by kernel_rfl) rfl rfl 26 (.tmp 6) (.tmp 19) rfl rfl (w.heap.size+1) aD (by simp[Act.eval,Act.put]) (by simp[Act.eval,Act.put]) 26 aD (by exact hr3) aP rfl (bZ dX) hS1 ?_;refine eC 4 7 (.string ⟨#[]⟩) rfl (λw' _=>by rfl) hS1 ?_;refine eC 5 8 (.int .i64 le) rfl (λw' _=>by simp[execOp,Act.eval,Act.put,go_sem]) hS1 ?_;refine wpAnyH_done (by kernel_rfl) (NoPanic.normal ?_) _;simp only[Act.put,pA,pB,pC];go_wp2;refine bodyPost_ret (aq rfl _ _ (w.heap.size+1) 26 aD (0,0) da rfl (setRow_heap w3.drew _ _ _ _ _ (by exact hr3)) dE bq aP) rfl ?_;rw[HF.out];exact⟨rfl,KF⟩
 |false=>?_
 have hle:le=0:=by simpa using q1
 subst hle
 have HV:=hid (HU.out.trans (show _=if decide (ev.size=1)&&bR (af ev 0)then
  (if(aQ ol ls (af ev 0)).2.2 !=0 then(dX,(⟨#[]⟩:ByteArray),(aQ ol ls (af ev 0)).2.2)
   else(aH ol.ag (aQ ol ls (af ev 0)).1,(aQ ol ls (af ev 0)).2.1,0))else(dX,⟨#[]⟩,8)from rfl))
 by_cases hs:ev.size=1
 ·have hs':(ev.size:Int)=1:=by omega
  have hpk:af ev 0=((ev[0]'(by omega)).toNat:Int):=by simp[af,hs]
  rw[hpk]at HV;have EV:=hid (iU ((ev[0]'(by omega)).toNat:Int) w3)
  cases q2:bR ((ev[0]'(by omega)).toNat:Int)with
  |false=>
   rw[q2]at EV;have HF:=hid (HV.out.trans (show _=(dX,(⟨#[]⟩:ByteArray),(8:Int))by rw[q2];simp))
   go_wp2_with fail
   refine hm EV ?_;rintro x w4 ⟨rfl,rfl⟩;obtain⟨F3,hr3,KB,hrow⟩:=HX.out;have KF:Kp (λ_=>False) w (w4.setRow (w.heap.size+1) aD):=KB.setRow (λx=>by omega) _;clear F3 KB hrow
   go_wp2_with (refine wpList_store_row rfl 26 (.tmp 6) (.tmp 31) rfl (w.heap.size+1) aD rfl rfl 26 aD hr3 aP rfl (bZ dX) ?_)
   refine bodyPost_ret (aq rfl _ _ (w.heap.size+1) 26 aD (0,0) da rfl (setRow_heap _ _ _ _ _ _ hr3) dE bq aP) rfl ?_;rw[HF.out];exact⟨rfl,KF⟩
  |true=>?_
  rw[q2]at EV
  have an6:ev[0]? =some (ev[0]'(by omega)):=by rw[getElem?_pos]
  generalize hc:((ev[0]'(by omega)).toNat:Int)=c at*
  have HW:=hid (HV.out.trans (show _=if(aQ ol ls c).2.2 !=0 then(dX,(⟨#[]⟩:ByteArray),(aQ ol ls c).2.2)
   else(aH ol.ag (aQ ol ls c).1,(aQ ol ls c).2.1,0)by rw[q2];simp[hs]))
  go_wp2_with fail
  refine hm EV ?_;rintro x w4 ⟨rfl,rfl⟩;obtain⟨F3,hr3,KB,hrow⟩:=HX.out;have hp3:Pl w4 cb 1 ol:=Pl.afm (by rw[HGA.out];exact hrow) (F3 (by first|rfl|trivial));have oU:=lP (ol:=ol) AV c
  have Ml:(prog.info? 95).map (·.size)=some (ax ls).length:=by rw[bE AV.1];exact bV
  have E1:∀W,Pl W cb 1 ol->Hid (Calls prog 57 #[.pointer (some ⟨cb,1,none⟩),.agg (ax ls).toArray,.int .u8 c] W λx w'=>x= .returned (.tuple #[.agg (ax (aQ ol ls c).1).toArray,.string (aQ ol ls c).2.1,.int .i64 (aQ ol ls c).2.2])/\Kp (λ_=>False) W w'):=λW h=>hid (yd W cb 1 ol ls c AV h hol)
  have HZ:=hid (ae hp3 hrow)
  have afn:∀w':World,w'.heap[cb]? =some (.cells GA 119 (0,0))->∀j v,(ax ls)[j]? =some v->w'.cell? ⟨cb,6+j,none⟩=some v:=λw' h=>Gz (by rw[HGA.out];exact h)
  clear F3 hr3 KB hp3 HU EV HV hst z0;generalize hmf:aQ ol ls c=mf at*;obtain⟨fs,ft,fe⟩:=mf;clear hmf;simp only at oU HW E1;have fI:=fG oU.1;have fS:=gz oU.1;have fO:=j3 fs;generalize yT:(ax fs).toArray=FA at*;have Iy:=hid yT;clear yT
  go_upto_region 6 with(fail)
  go_cut [10,11,12]from 32 to 41 (λp e f wx=>∃fb,p= .pointer (some ⟨fb,0,none⟩)/\e= .string ft/\f= .int .i64 fe/\du wx fb [] fs [] 95/\Kp (λ_=>False) w4 wx)
  case first=>
   have hS0:w4.drew.heap[cb]? =some (.cells GA 119 (0,0)):=hrow;have pq:Kp (λ_=>False) w4 w4.drew:=(Kp.refl _ _).drewN 1
   have an7:(af ev 0)=c:=by rw[hpk]
   refine az (λw'=>w'.heap[cb]? =some (.cells GA 119 (0,0))) (by kernel_rfl) ?_;refine eC 0 33 (.pointer (some ⟨cb,1,none⟩)) rfl (λw' _=>by simp[execOp,Act.eval,go_sem]) hS0 ?_;refine eC 1 34 (.pointer (some ⟨cb,6,none⟩)) rfl (λw' _=>by simp[execOp,Act.eval,Act.put,go_sem]) hS0 ?_;refine eC 2 35 (.agg (ax ls).toArray) rfl (λw' hS=>ei 95 (.tmp 34) rfl cb 6 (by simp[Act.eval,Act.put]) (ax ls) ds (afn w' hS) hds eY Ml) hS0 ?_;refine eC 3 36 (.string ev) rfl (λw' _=>by simp[execOp,Act.eval,Act.put,go_sem]) hS0 ?_;refine dM 4 37 (.int .u8 c) rfl (λw' _=>by simp[execOp,Act.eval,Act.put,go_sem,hs,hc]) hS0 ?_;refine k6 5 10 (by kernel_rfl) rfl rfl rfl rfl ?_ ?_
   ·refine bS (some 38) rfl 57 #[.pointer (some ⟨cb,1,none⟩),.agg (ax ls).toArray,.int .u8 c] (by simp[execOp,Act.eval,go_sem]) _ (λw'=>Kp (λ_=>False) w4.drew w') (E1 w4.drew (HZ.out.1.keep pq (λ_ _ _ _ _ x=>x))).out ?_
    intro w5 K5;have mW:=K5.at_ hS0 (λx=>x);have hnew:=heap_alloc_new w5 (.cells aW 95);have HS6:(w5.alloc (.cells aW 95)).heap[cb]? =some (.cells GA 119 (0,0)):=(Below.heap_alloc _ _ _ (lt_of_block mW)).trans mW
    have hne:cb≠w5.heap.size:=by have:=lt_of_block mW;omega
    have Dk:((w5.alloc (.cells aW 95)).setRow w5.heap.size FA).heap[cb]? =some (.cells GA 119 (0,0)):=by rw[setRow_other _ _ _ _ hne];exact HS6
    refine⟨mW,?_⟩;refine eC 6 32 (.tuple #[.agg FA,.string ft,.int .i64 fe]) rfl (λw' _=>by simp[execOp,Act.eval,Act.put,go_sem]) mW ?_;refine eC 7 39 (.agg FA) rfl (λw' _=>by simp[execOp,Act.eval,Act.put,go_sem]) mW ?_;refine eC 8 40 (.string ft) rfl (λw' _=>by simp[execOp,Act.eval,Act.put,go_sem]) mW ?_;refine eC 9 41 (.int .i64 fe) rfl (λw' _=>by simp[execOp,Act.eval,Act.put,go_sem]) mW ?_;refine jD 10 ?_;refine dZ (some 10) rfl (.pointer (some ⟨w5.heap.size,0,none⟩)) (w5.alloc (.cells aW 95)) (by simp[execOp,go_sem]) ?_;refine⟨HS6,?_⟩;refine bF 11 (by kernel_rfl) rfl rfl 95 (.tmp 10) (.tmp 39) rfl rfl w5.heap.size FA (by simp[Act.eval,Act.put]) (by simp[Act.eval,Act.put]) 95 aW hnew fI (by rw[fS];rfl) fO Dk ?_;refine eC 12 11 (.string ft) rfl (λw' _=>by simp[execOp,Act.eval,Act.put,go_sem]) Dk ?_;refine eC 13 12 (.int .i64 fe) rfl (λw' _=>by simp[execOp,Act.eval,Act.put,go_sem]) Dk ?_;refine wpAnyH_done (by kernel_rfl) (NoPanic.normal ?_) _;simp only[Act.put,pA,pB,pC]
    go_wp2_with fail
    go_meet
    exact⟨w5.heap.size,rfl,rfl,rfl,du.th (by rw[Iy.out];exact setRow_heap _ _ _ _ _ _ hnew),((pq.trans K5).alloc _).setRow (λx=>by have:=(pq.trans K5).size;omega) _⟩
   refine dZ (some 10) rfl (.pointer (some ⟨w4.heap.size,0,none⟩)) (w4.drew.alloc (.cells aW 95)) (by simp[execOp,go_sem]) ?_;have hnew:=heap_alloc_new w4.drew (.cells aW 95);have Qh:=pq.alloc (.cells aW 95);have Va:(w4.drew.alloc (.cells aW 95)).heap[cb]? =some (.cells GA 119 (0,0)):=(Below.heap_alloc _ _ _ (lt_of_block hS0)).trans hS0;refine⟨Va,?_⟩;refine jD 5 ?_;simp only[Act.put,pA,pB,pC];refine bS (some 38) rfl 57 #[.pointer (some ⟨cb,1,none⟩),.agg (ax ls).toArray,.int .u8 c] (by simp[execOp,Act.eval,go_sem]) _ (λw'=>Kp (λ_=>False) (w4.drew.alloc (.cells aW 95)) w') (E1 _ (HZ.out.1.keep Qh (λ_ _ _ _ _ x=>x))).out ?_;intro w5 K5;have mW:=K5.at_ Va (λx=>x);have kR:w5.heap[w4.heap.size]? =some (.cells aW 95 (0,0)):=K5.at_ (k:=w4.heap.size) (by exact hnew) (λx=>x)
   have hne:cb≠w4.heap.size:=by have:=lt_of_block hS0;have e:w4.drew.heap.size=w4.heap.size:=rfl;omega
   have Dk:(w5.setRow w4.heap.size FA).heap[cb]? =some (.cells GA 119 (0,0)):=by rw[setRow_other _ _ _ _ hne];exact mW
   refine⟨mW,?_⟩;refine eC 6 32 (.tuple #[.agg FA,.string ft,.int .i64 fe]) rfl (λw' _=>by simp[execOp,Act.eval,Act.put,go_sem]) mW ?_;refine eC 7 39 (.agg FA) rfl (λw' _=>by simp[execOp,Act.eval,Act.put,go_sem]) mW ?_;refine eC 8 40 (.string ft) rfl (λw' _=>by simp[execOp,Act.eval,Act.put,go_sem]) mW ?_;refine eC 9 41 (.int .i64 fe) rfl (λw' _=>by simp[execOp,Act.eval,Act.put,go_sem]) mW ?_;refine bF 11 (by kernel_rfl) rfl rfl 95 (.tmp 10) (.tmp 39) rfl rfl w4.heap.size FA (by simp[Act.eval,Act.put]) (by simp[Act.eval,Act.put]) 95 aW kR fI (by rw[fS];rfl) fO Dk ?_;refine eC 12 11 (.string ft) rfl (λw' _=>by simp[execOp,Act.eval,Act.put,go_sem]) Dk ?_;refine eC 13 12 (.int .i64 fe) rfl (λw' _=>by simp[execOp,Act.eval,Act.put,go_sem]) Dk ?_;refine wpAnyH_done (by kernel_rfl) (NoPanic.normal ?_) _;simp only[Act.put,pA,pB,pC]
   go_wp2_with fail
   go_meet
   exact⟨w4.heap.size,rfl,rfl,rfl,du.th (by rw[Iy.out];exact setRow_heap _ _ _ _ _ _ kR),(Qh.trans K5).setRow (λx=>by omega) _⟩
  case rest=>
   obtain⟨fb,rfl,rfl,rfl,h5,K5⟩:=hcut;obtain⟨F3,hr3,KB,_⟩:=HX.out;have xJ:=HZ.out.1.keep K5 (λ_ _ _ _ _ x=>x);have jV:=K5.at_ hr3 (λx=>x);have KD:=KB.trans K5;have HY:=hid (ae jV KD);have E2:=hid (lH cb 1 wc ol.ag fb 0 [] fs [] 95 xJ.str (by have:=hol.ag;omega) h5 oU.1 rfl);clear F3 hr3 KB HX E1 HZ afn h5 xJ K5 hrow
   cases q3:fe !=0 with
   |true=>
    have HF:=hid (HW.out.trans (show _=(dX,(⟨#[]⟩:ByteArray),fe)by rw[q3];rfl));have KF:Kp (λ_=>False) w (wc.setRow (w.heap.size+1) aD):=KD.setRow (λx=>by omega) _;clear KD HW
    go_wp2_with (refine wpList_store_row rfl 26 (.tmp 6) (.tmp 44) rfl (w.heap.size+1) aD rfl rfl 26 aD jV aP rfl (bZ dX) ?_)
    refine bodyPost_ret (aq rfl _ _ (w.heap.size+1) 26 aD (0,0) da rfl (setRow_heap _ _ _ _ _ _ jV) dE bq aP) rfl ?_;rw[HF.out];exact⟨rfl,KF⟩
   |false=>?_
   have HF:=hid (HW.out.trans (show _=(aH ol.ag fs,ft,(0:Int))by rw[q3];rfl));clear KD HW jV
   go_wp2_with fail
   refine hm E2 ?_;rintro x w6 ⟨rfl,K6⟩;obtain⟨jV,KD⟩:=HY.out;have s9:=K6.at_ jV (λx=>x);have KF:Kp (λ_=>False) w (w6.setRow (w.heap.size+1) (aN (aH ol.ag fs))):=(KD.trans K6).setRow (λx=>by omega) _;clear KD jV HY E2
   go_wp2_with (refine wpList_store_row rfl 26 (.tmp 6) (.tmp 47) rfl (w.heap.size+1) (aN (aH ol.ag fs)) rfl rfl 26 aD s9 aP rfl (bZ _) ?_)
   refine bodyPost_ret (aq rfl _ _ (w.heap.size+1) 26 (aN (aH ol.ag fs)) (0,0) da rfl (setRow_heap _ _ _ _ _ _ s9) dE bq aP) rfl ?_;rw[HF.out];exact⟨rfl,KF⟩
 have hs':¬(ev.size:Int)=1:=by omega
 have HF:=hid (HV.out.trans (show _=(dX,(⟨#[]⟩:ByteArray),(8:Int))by simp[hs]));obtain⟨F3,hr3,KB,hrow⟩:=HX.out;have KF:Kp (λ_=>False) w (w3.setRow (w.heap.size+1) aD):=KB.setRow (λx=>by omega) _;clear F3 KB hrow
 go_wp2_with (refine wpList_store_row rfl 26 (.tmp 6) (.tmp 31) rfl (w.heap.size+1) aD rfl rfl 26 aD hr3 aP rfl (bZ dX) ?_)
 refine bodyPost_ret (aq rfl _ _ (w.heap.size+1) 26 aD (0,0) da rfl (setRow_heap _ _ _ _ _ _ hr3) dE bq aP) rfl ?_;rw[HF.out];exact⟨rfl,KF⟩
end
end Go.Proofs.YtnlbchmfcebeeaaGreat
