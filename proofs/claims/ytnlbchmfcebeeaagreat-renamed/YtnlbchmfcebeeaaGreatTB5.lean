import Derived.Test.YtnlbchmfcebeeaaGreatTB4
set_option maxHeartbeats 12800000
set_option maxRecDepth 100000
namespace Go.Proofs.YtnlbchmfcebeeaaGreat
open Go.RowKit
namespace Ch
def take (ss : List St) (a p t : ByteArray) (x y z : Int) : Bool × Sd :=
 if (takeActV ss a).2 then
  if (takePastV ss p).2 then
   if areTm t && inB x && inB y && inB z then (true,⟨(takeActV ss a).1,(takePastV ss p).1,t,x,y,z⟩) else (false,noSd)
  else (false,noSd)
 else (false,noSd)
theorem take_wf (ss : List St) (a p t : ByteArray) (x y z : Int) : (take ss a p t x y z).2.Wf:=by
 unfold take
 split
 ·split
  ·split
   ·exact ⟨takeActV_len ss a,takePastV_len ss p⟩
   exact noSd_wf
  exact noSd_wf
 exact noSd_wf
end Ch
theorem zsdOne : (zS36 : Array Value).all (fun x=>x.oneCell') = true:=by kernel_rfl
section
variable (ob oo : Nat) (w : World) (ss : List Ch.St)
theorem take_any2 (a p t : ByteArray) (x y z : Int) (ha : a.size ≤ 9223372036854775807) (hp : p.size ≤ 9223372036854775807) (ht : t.size ≤ 9223372036854775807) (hS : StR w ob oo ss) (hl : ss.length ≤ 1000) :
 Calls Tryz.prog 79 #[.pointer (some ⟨ob,oo,none⟩),.agg #[.string a,.string p,.string t,.int .i64 x,.int .i64 y,.int .i64 z]] w
  fun r w'=>r = .returned (.tuple #[.agg (sdAll (Ch.take ss a p t x y z).2).toArray,.bool (Ch.take ss a p t x y z).1]) ∧ Kp (fun _=>False) w w':=by
 obtain ⟨ds,hds,hda⟩:=Tryz.undStand;obtain ⟨de,hde,hea⟩:=Tryz.undSet;obtain ⟨dm,hdm,hma⟩:=Tryz.undMem;have hS2 : StR ((w.alloc (.cells #[.string a,.string p,.string t,.int .i64 x,.int .i64 y,.int .i64 z] 26)).alloc (.cells yS36 95)) ob oo ss:=(hS.alloc _).alloc _
 have hb2 : ((w.alloc (.cells #[.string a,.string p,.string t,.int .i64 x,.int .i64 y,.int .i64 z] 26)).alloc (.cells yS36 95)).heap[w.heap.size]? = some (.cells #[.string a,.string p,.string t,.int .i64 x,.int .i64 y,.int .i64 z] 26):=by rw [Below.heap_alloc _ _ _ (by simp)];exact heap_alloc_new _ _
 have hr2 : ((w.alloc (.cells #[.string a,.string p,.string t,.int .i64 x,.int .i64 y,.int .i64 z] 26)).alloc (.cells yS36 95)).heap[w.heap.size + 1]? = some (.cells yS36 95):=heap_alloc2_new w _ _;have K2 : Kp (fun _=>False) w ((w.alloc (.cells #[.string a,.string p,.string t,.int .i64 x,.int .i64 y,.int .i64 z] 26)).alloc (.cells yS36 95)):=((Kp.refl _ _).alloc _).alloc _
 have hA16 : ((Ch.takeActV ss a).1.map Value.bool).toArray.size = 16:=by simp [Ch.takeActV_len]
 have hAI : (Tryz.prog.info? 91).map (·.size) = some ((Ch.takeActV ss a).1.map Value.bool).toArray.size:=by rw [hA16];exact Tryz.sizeSet
 have hA1 : ((Ch.takeActV ss a).1.map Value.bool).toArray.all (fun x=>x.oneCell') = true:=by
  apply Array.all_eq_true_iff_forall_mem.2;intro v hv;simp only [List.mem_toArray,List.mem_map] at hv;obtain ⟨c,_,rfl⟩:=hv;rfl
 have hP16:=pastSize (Ch.takePastV_len ss p)
 have hPI : (Tryz.prog.info? 93).map (·.size) = some (pastCells (Ch.takePastV ss p).1).toArray.size:=by rw [hP16];exact Tryz.sizeMem
 have hP1:=pastOne (Ch.takePastV ss p).1;clear hS
 go_enter Tryz.func79,Tryz.ntmps79
 go_upto_region 1 with (fail)
 generalize (w.alloc (.cells #[.string a,.string p,.string t,.int .i64 x,.int .i64 y,.int .i64 z] 26)).alloc (.cells yS36 95) = w2 at *;generalize hrbe : w.heap.size + 1 = rb at *;generalize hsbe : w.heap.size = sb at *
 have cells : ∀ W : World,W.heap[sb]? = some (.cells #[.string a,.string p,.string t,.int .i64 x,.int .i64 y,.int .i64 z] 26) → W.cell? ⟨sb,0,none⟩ = some (.string a) ∧ W.cell? ⟨sb,1,none⟩ = some (.string p) ∧ W.cell? ⟨sb,2,none⟩ = some (.string t) ∧ W.cell? ⟨sb,3,none⟩ = some (.int .i64 x) ∧ W.cell? ⟨sb,4,none⟩ = some (.int .i64 y) ∧ W.cell? ⟨sb,5,none⟩ = some (.int .i64 z):=fun W h=>by simp [World.cell?,h]
 have HC:=hid cells;clear cells;have c0 : w2.cell? ⟨sb,0,none⟩ = some (.string a):=(HC.out w2 hb2).1;have E1:=hid (takeActive_any ob oo w2 ss a ha hS2 hl)
 go_wp2_with fail
 refine hm E1 ?_;rintro xx w3 ⟨rfl,K3⟩;generalize hLA : ((Ch.takeActV ss a).1.map Value.bool).toArray = LA at *;have HLA:=hid hLA;clear hLA;have hn3:=heap_alloc_new w3 (.cells zB16 91);have Kn : Kp (fun _=>False) w3 ((w3.alloc (.cells zB16 91)).setRow w3.heap.size LA):=((Kp.refl _ _).alloc _).setRow (fun x=>by omega) _;have K4:=K3.trans Kn;have hA4:=setRow_heap (w3.alloc (.cells zB16 91)) w3.heap.size zB16 LA 91 (0,0) hn3;have hb4:=K4.at_ hb2 (fun x=>x);have hr4:=K4.at_ hr2 (fun x=>x);have hS4:=hS2.keep K4 (fun x=>x) (fun _ _ _ x=>x);have K5:=K2.trans K4;clear E1 c0 hb2 hr2 hS2 K2 K3 Kn K4
 go_upto_region 2 with (refine wpList_store_row rfl 91 (.tmp 6) (.tmp 14) rfl w3.heap.size LA rfl rfl 91 zB16 hn3 hAI hA16.symm hA1 ?_)
 generalize (w3.alloc (.cells zB16 91)).setRow w3.heap.size LA = w4 at *;clear hn3;generalize w3.heap.size = ab at *
 cases q1 : (Ch.takeActV ss a).2 with
 | false =>
   have HV:=hid (show Ch.take ss a p t x y z = (false,Ch.noSd) by simp [Ch.take,q1]);have KZ:=K5.setRow (g:=rb) (fun x=>by omega) zS36
   go_wp2_with (refine wpList_store_row rfl 95 (.tmp 4) (.tmp 18) rfl rb zS36 rfl rfl 95 yS36 hr4 Tryz.sizeStand rfl zsdOne ?_)
   refine bodyPost_ret (results_cell_tmp rfl _ _ rb 95 zS36 (0,0) ds rfl (setRow_heap _ _ _ _ _ _ hr4) hds hda Tryz.sizeStand) rfl ?_;rw [HV.out];exact ⟨rfl,KZ⟩
 | true=>?_
 have c1 : w4.cell? ⟨sb,1,none⟩ = some (.string p):=(HC.out w4 hb4).2.1;have E2:=hid (takePast_any ob oo w4 ss p hp hS4 hl)
 go_wp2_with fail
 refine hm E2 ?_;rintro xx w5 ⟨rfl,K6⟩;generalize hLP : (pastCells (Ch.takePastV ss p).1).toArray = LP at *;have HLP:=hid hLP;clear hLP;have hn5:=heap_alloc_new w5 (.cells zU16 93);have Kn : Kp (fun _=>False) w5 ((w5.alloc (.cells zU16 93)).setRow w5.heap.size LP):=((Kp.refl _ _).alloc _).setRow (fun x=>by omega) _;have K7:=K6.trans Kn;have hP6:=setRow_heap (w5.alloc (.cells zU16 93)) w5.heap.size zU16 LP 93 (0,0) hn5;have hb6:=K7.at_ hb4 (fun x=>x);have hr6:=K7.at_ hr4 (fun x=>x);have hA6:=K7.at_ hA4 (fun x=>x);have K8:=K5.trans K7;clear E2 c1 hb4 hr4 hA4 hS4 K5 K6 Kn K7
 go_upto_region 5 with (refine wpList_store_row rfl 93 (.tmp 8) (.tmp 24) rfl w5.heap.size LP rfl rfl 93 zU16 hn5 hPI hP16.symm hP1 ?_)
 generalize (w5.alloc (.cells zU16 93)).setRow w5.heap.size LP = w6 at *;clear hn5;generalize w5.heap.size = pb at *
 cases q2 : (Ch.takePastV ss p).2 with
 | false =>
   have HV:=hid (show Ch.take ss a p t x y z = (false,Ch.noSd) by simp [Ch.take,q1,q2]);have KZ:=K8.setRow (g:=rb) (fun x=>by omega) zS36
   go_wp2_with (refine wpList_store_row rfl 95 (.tmp 4) (.tmp 28) rfl rb zS36 rfl rfl 95 yS36 hr6 Tryz.sizeStand rfl zsdOne ?_)
   refine bodyPost_ret (results_cell_tmp rfl _ _ rb 95 zS36 (0,0) ds rfl (setRow_heap _ _ _ _ _ _ hr6) hds hda Tryz.sizeStand) rfl ?_;rw [HV.out];exact ⟨rfl,KZ⟩
 | true=>?_
 obtain ⟨_,_,c2,c3,c4,c5⟩:=HC.out w6 hb6;have ET:=hid (areTimers_any w6 t ht);have EX:=hid (inBounds_any w6 x);have EY:=hid (inBounds_any w6 y);have EZ:=hid (inBounds_any w6 z)
 go_wp2_with fail
 refine hm ET ?_;rintro xx w7 ⟨rfl,e7⟩;rw [e7];clear e7 w7
 cases qt : Ch.areTm t with
 | false =>
   have HV:=hid (show Ch.take ss a p t x y z = (false,Ch.noSd) by simp [Ch.take,q1,q2,qt]);have KZ:=K8.setRow (g:=rb) (fun x=>by omega) zS36
   go_wp2_with (refine wpList_store_row rfl 95 (.tmp 4) (.tmp 52) rfl rb zS36 rfl rfl 95 yS36 hr6 Tryz.sizeStand rfl zsdOne ?_)
   refine bodyPost_ret (results_cell_tmp rfl _ _ rb 95 zS36 (0,0) ds rfl (setRow_heap _ _ _ _ _ _ hr6) hds hda Tryz.sizeStand) rfl ?_;rw [HV.out];exact ⟨rfl,KZ⟩
 | true=>?_
 go_wp2_with fail
 refine hm EX ?_;rintro xx w7 ⟨rfl,e7⟩;rw [e7];clear e7 w7
 cases qx : Ch.inB x with
 | false =>
   have HV:=hid (show Ch.take ss a p t x y z = (false,Ch.noSd) by simp [Ch.take,q1,q2,qt,qx]);have KZ:=K8.setRow (g:=rb) (fun x=>by omega) zS36
   go_wp2_with (refine wpList_store_row rfl 95 (.tmp 4) (.tmp 52) rfl rb zS36 rfl rfl 95 yS36 hr6 Tryz.sizeStand rfl zsdOne ?_)
   refine bodyPost_ret (results_cell_tmp rfl _ _ rb 95 zS36 (0,0) ds rfl (setRow_heap _ _ _ _ _ _ hr6) hds hda Tryz.sizeStand) rfl ?_;rw [HV.out];exact ⟨rfl,KZ⟩
 | true=>?_
 go_wp2_with fail
 refine hm EY ?_;rintro xx w7 ⟨rfl,e7⟩;rw [e7];clear e7 w7
 cases qy : Ch.inB y with
 | false =>
   have HV:=hid (show Ch.take ss a p t x y z = (false,Ch.noSd) by simp [Ch.take,q1,q2,qt,qx,qy]);have KZ:=K8.setRow (g:=rb) (fun x=>by omega) zS36
   go_wp2_with (refine wpList_store_row rfl 95 (.tmp 4) (.tmp 52) rfl rb zS36 rfl rfl 95 yS36 hr6 Tryz.sizeStand rfl zsdOne ?_)
   refine bodyPost_ret (results_cell_tmp rfl _ _ rb 95 zS36 (0,0) ds rfl (setRow_heap _ _ _ _ _ _ hr6) hds hda Tryz.sizeStand) rfl ?_;rw [HV.out];exact ⟨rfl,KZ⟩
 | true=>?_
 go_wp2_with fail
 refine hm EZ ?_;rintro xx w7 ⟨rfl,e7⟩;rw [e7];clear e7 w7
 cases qz : Ch.inB z with
 | false =>
   have HV:=hid (show Ch.take ss a p t x y z = (false,Ch.noSd) by simp [Ch.take,q1,q2,qt,qx,qy,qz]);have KZ:=K8.setRow (g:=rb) (fun x=>by omega) zS36
   go_wp2_with (refine wpList_store_row rfl 95 (.tmp 4) (.tmp 52) rfl rb zS36 rfl rfl 95 yS36 hr6 Tryz.sizeStand rfl zsdOne ?_)
   refine bodyPost_ret (results_cell_tmp rfl _ _ rb 95 zS36 (0,0) ds rfl (setRow_heap _ _ _ _ _ _ hr6) hds hda Tryz.sizeStand) rfl ?_;rw [HV.out];exact ⟨rfl,KZ⟩
 | true=>?_
 have HV:=hid (show Ch.take ss a p t x y z = (true,⟨(Ch.takeActV ss a).1,(Ch.takePastV ss p).1,t,x,y,z⟩) by simp [Ch.take,q1,q2,qt,qx,qy,qz])
 have hwf : (Ch.Sd.mk (Ch.takeActV ss a).1 (Ch.takePastV ss p).1 t x y z).Wf:=⟨Ch.takeActV_len ss a,Ch.takePastV_len ss p⟩
 have HB0 : Tryz.prog.built 95 [(0,.agg ((Ch.takeActV ss a).1.map Value.bool).toArray),(1,.agg (pastCells (Ch.takePastV ss p).1).toArray),(2,.string t),(3,.int .i64 x),(4,.int .i64 y),(5,.int .i64 z)] = some (sdAll (Ch.Sd.mk (Ch.takeActV ss a).1 (Ch.takePastV ss p).1 t x y z)).toArray:=built_stand _ hwf;rw [HLA.out,HLP.out] at HB0;have hsI:=sdInfo hwf;have hs36:=sdSize hwf;have hs1:=sdOne (Ch.Sd.mk (Ch.takeActV ss a).1 (Ch.takePastV ss p).1 t x y z);generalize hM : (sdAll (Ch.Sd.mk (Ch.takeActV ss a).1 (Ch.takePastV ss p).1 t x y z)).toArray = M at *;have HM:=hid hM;have HB:=hid HB0;clear hM hwf HB0 ET EX EY EZ;have KZ:=K8.setRow (g:=rb) (fun x=>by omega) M
 go_wp2_with (first | refine wpList_load_row rfl 91 (.tmp 6) rfl ab rfl 91 LA (0,0) de hA6 hde (by cases de <;> simp_all [isAggD]) hAI ?_ | refine wpList_load_row rfl 93 (.tmp 8) rfl pb rfl 93 LP (0,0) dm hP6 hdm (by cases dm <;> simp_all [isAggD]) hPI ?_ | (refine wpList_build_eq rfl 95 #[(0,.tmp 53),(1,.tmp 54),(2,.tmp 56),(3,.tmp 58),(4,.tmp 60),(5,.tmp 62)] rfl M [(0,.agg LA),(1,.agg LP),(2,.string t),(3,.int .i64 x),(4,.int .i64 y),(5,.int .i64 z)] ?_ HB.out ?_;rfl) | refine wpList_store_row rfl 95 (.tmp 4) (.tmp 63) rfl rb M rfl rfl 95 yS36 hr6 hsI hs36.symm hs1 ?_)
 refine bodyPost_ret (results_cell_tmp rfl _ _ rb 95 M (0,0) ds rfl (setRow_heap _ _ _ _ _ _ hr6) hds hda hsI) rfl ?_;rw [HV.out];exact ⟨by rw [← HM.out];rfl,KZ⟩
end
end Go.Proofs.YtnlbchmfcebeeaaGreat
