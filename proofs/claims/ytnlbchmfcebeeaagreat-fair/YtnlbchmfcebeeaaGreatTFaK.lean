import Derived.Test.YtnlbchmfcebeeaaGreatTJc
set_option maxHeartbeats 12800000
set_option maxRecDepth 100000
namespace Go.Proofs.YtnlbchmfcebeeaaGreat
open Go.Proofs.Tryz Ch
open Go.RowKit
section
variable {w0 w w' : World} {B c : Nat} {p : Lp} {t : ByteArray} {xb tb : Nat} {pc : Pc} {ol : Ol} {n i : Nat} {L : Ln} {x : Sv} {all : List Sd} {log : ByteArray} {av kv : Value}
theorem du.idle (T : du w0 w B c p t xb tb pc ol n i L x all log av kv) (hR : sf t ol) (hol : ol.Ok) (hi : i <= 2000000) (hc : c <= 10000000000) {u : Nat} {k : Tk} (hk : x.tasks[u]? = some k) (hk0 : k.kind = 0) :
 Calls prog 38 #[.pointer (some ⟨xb,0,none⟩),.int .i64 (u : Int)] w fun y w'=>y = .returned (.tuple #[.agg (aZ b8),.bool false,.int .i64 13]) /\ ∃ fV,du w0 w' B c p t xb tb pc ol n i L x all log av fV:=by
 have hmk:=T.md;have lR:=T.lg;have htk:=T.tk;have hbd:=T.si.bd (by omega) (by omega) (by omega)
 have hBw : B <= w.heap.size:=by have:=T.fl p.wb (.inl rfl);have:=T.ln.low p.wb (.inl rfl);omega
 have E:=pq w T.sv hbd hol (u : Int) (fun k' hk'=>by
  rw [lP hk] at hk';simp at hk';subst hk'
  exact T.si.tY hR hol hk)
 rw [kt hk hk0] at E;refine E.mono ?_;rintro y w' ⟨rfl,q⟩;obtain ⟨fV,h1,h2,h3⟩:=dF.fresh hBw T.fs q;exact ⟨rfl,fV,T.ln.bP T.sv h3,h1,T.fl,h2,T.si,T.lr,T.md,T.lg,T.tk,T.st,T.tn,T.kp.trans' h3 (fun k _ hk=>T.fs k hk)⟩
end
section
variable (w : World)
theorem yW {lv : Value} {n : Nat} (hI : kY w w.heap.size lv n) (hn : n <= maxLen) (cl : Int) (hcl : In64 cl) {sv : Value} {sn : Nat} (hS : yU w w.heap.size sv sn) (hsn : sn <= maxLen) :
 Calls prog 17 #[lv,.int .i64 cl,sv] w fun x w'=>x = .returned (.bool true) /\ Below w.heap.size w w':=by
 have E0:=hid (m8 w hI hn);have HS:=hid hS;clear hI hn hS
 go_enter func17,ntmps17
 go_wp2_with fail
 refine hm E0 ?_;rintro y w1 ⟨LL,P,pv,rfl,_,B1,hP,hW,hL⟩;obtain ⟨ol,hR,OF⟩:=py hP hW hL;have HR:=hid hR;generalize strOfNums LL = T at HR;clear E0 hP hW hL hR OF;have EP : Hid (Calls prog 24 #[.int .i64 cl,.int .i64 6] w1 fun x w'=>∃ r : Nat,x = .returned (.int .i64 r) /\ r < 6 /\ w' = w1):=hid (iY w1 cl hcl.1 hcl.2 6 (by omega) (by omega))
 go_wp2_with fail
 refine hm EP ?_;rintro y w2 ⟨r,rfl,hr,rfl⟩;clear EP;have E1:=hid (sT w2)
 go_wp2_with fail
 refine hm E1 ?_;rintro y w3 ⟨rfl,K3⟩;have B3:=B1.trans (bu K3 B1.size);clear E1 K3 B1;have EB:=pw w3 T (r + 1) (by omega) (by omega) (by rw [HR.out.rd]) (by rw [HR.out.rd];exact gR ol);rw [show ((r + 1 : Nat) : Int) = 1 + (r : Int) by omega] at EB;replace EB:=hid EB
 go_wp2_with fail
 refine hm EB ?_;rintro y w4 ⟨xv,wv,rfl,hq,K4⟩;have B4:=B3.trans (bu K4 B3.size);unfold DV at hq;rw [HR.out.rd] at hq;simp only at hq
 rcases gR ol with e | e
 ·obtain ⟨xb,tb,pc,kv,p,av,rfl,rfl,J7,hLn,hfs,hfl⟩:=hq.2 e
  have hol : ol.Ok:=by have:=jl T;rw [HR.out.rd] at this;exact this
  have hcz:=jt hol;have T0:=du.start HR.out e (by omega) hLn J7 hfl hfs;obtain ⟨ao,cap,rfl⟩:=HS.out.len;have OG : w.heap.size <= w3.heap.size:=B3.size;have j3 : yU w4 w.heap.size (.slice ao sn cap) sn:=HS.out.keep (Nat.le_refl _) (Nat.le_refl _) ((gG B4).mono (fun _ _ x=>x.elim));have hs4 : w3.heap.size <= w4.heap.size:=K4.size;generalize OH : w3.heap.size = B at *;generalize (Ch.mstart ol).2.1.size = c at *;have BN:=hid j3;have HB:=hid B4;have AZ:=hid (ae hol hcz);obtain ⟨dS,Cd,od⟩:=Cc;generalize hL0 : s9 (bC ol.ag (Ch.mstart ol).1) (Ch.mstart ol).2.1 (r + 1) = L0 at T0;generalize hx0 : gx ol (r + 1) = x0 at T0;have HT0:=hid T0;clear T0 hfl hfs hLn J7 hq EB K4 HS j3 B3 B4 hL0 hx0 hol hcz OH
  have OI : (sn : Int) <= 9223372036854775807:=by unfold maxLen at hsn;omega
  go_upto_region 8 with (fail)
  go_loopw [13,14] (fun ok iv wr=>∃ i : Nat,ok = .bool true /\ iv = .int .i64 i /\ i <= sn /\ Hid (∃ L x all log av kv,du w4 wr B c p T xb tb pc ol (r + 1) 0 L x all log av kv)) (fun _ iv _=>sn - (intOf iv).toNat)
  case atStart=>exact ⟨0,rfl,rfl,Nat.zero_le _,hid ⟨_,_,_,_,_,_,HT0.out⟩⟩
  case round =>
   obtain ⟨i,rfl,rfl,hi,HT⟩:=hrel;clear HT0
   by_cases hlt : i < sn
   ·have hlt' : (i : Int) < (sn : Int):=by omega
    obtain ⟨L,x,all,log,OJ,Jp,TT⟩:=HT.out;have hSr : yU wr w.heap.size (.slice ao sn cap) sn:=BN.out.keep (Nat.le_refl _) (by omega) (TT.kp.mono (fun k _ hk=>by show w.heap.size <= k;have : B <= k:=hk;omega));obtain ⟨g,off,cap',hv,k,us,m,s,hc,hu64,Hl,Hm⟩:=hSr.at_ hlt;simp only [Value.slice.injEq,true_and] at hv;obtain ⟨rfl,rfl⟩:=hv;have hnew:=heap_alloc_new wr (.cells #[.int .i64 0,.int .i64 0,.int .i64 0,.string ⟨#[]⟩] 58);have h5:=setRow_heap (wr.alloc (.cells #[.int .i64 0,.int .i64 0,.int .i64 0,.string ⟨#[]⟩] 58)) wr.heap.size #[.int .i64 0,.int .i64 0,.int .i64 0,.string ⟨#[]⟩] (stA k us m s) 58 (0,0) hnew;have K5 : Kp (fun _=>False) wr ((wr.alloc (.cells #[.int .i64 0,.int .i64 0,.int .i64 0,.string ⟨#[]⟩] 58)).setRow wr.heap.size (stA k us m s)):=((Kp.refl _ _).alloc _).setRow (fun x=>by omega) _;have T5:=hid (TT.au K5);have sI : (prog.info? 58).map (·.size) = some (stA k us m s).size:=m7;have sO:=Hk k us m s;clear HT TT K5 hSr
    go_upto_region 11 with (first | refine a_ rfl 58 (.tmp 60) rfl g (off + i * 4) rfl (J6 k us m s) dS hc Cd od m7 ?_ | refine wpList_store_row rfl 58 (.tmp 15) (.tmp 61) rfl wr.heap.size (stA k us m s) rfl rfl 58 #[.int .i64 0,.int .i64 0,.int .i64 0,.string ⟨#[]⟩] hnew sI rfl sO ?_)
    generalize (wr.alloc (.cells #[.int .i64 0,.int .i64 0,.int .i64 0,.string ⟨#[]⟩] 58)).setRow wr.heap.size (stA k us m s) = w5 at *;generalize wr.heap.size = b0 at *
    have z0 : w5.cell? ⟨b0,0,none⟩ = some (.int .i64 k):=by simp [World.cell?,h5,stA]
    have z1 : w5.cell? ⟨b0,1,none⟩ = some (.int .i64 us):=by simp [World.cell?,h5,stA]
    generalize m9 : stA k us m s = SA at *;have xK:=hid m9;clear m9 hnew hc
    by_cases hka : 1 <= k
    ·by_cases hkb : k <= 4
     ·have EP:=iY w5.drew us hu64.1 hu64.2 (r + 1) (by omega) (by omega)
      rw [show ((r + 1 : Nat) : Int) = 1 + (r : Int) by omega] at EP
      replace EP:=hid (EP.mono (fun e w' hh=>by
       obtain ⟨u,h1,h2,h3⟩:=hh
       exact (⟨_,h1,u,rfl,h2,h3⟩ : ∃ v,e = .returned v /\ ∃ u : Nat,v = .int .i64 u /\ u < r + 1 /\ w' = w5.drew)))
      have EA : Hid (∀ u : Nat,u < r + 1 -> Calls prog 35 #[.pointer (some ⟨p.wb,0,none⟩),.pointer (some ⟨xb,0,none⟩),.int .i64 (u : Int),.agg SA] w5.drew fun e w'=>∃ v,e = .returned v /\ v = .bool true /\ Hid (∃ L x all log av kv,du w4 w' B c p T xb tb pc ol (r + 1) 0 L x all log av kv)):=hid (fun u hu=>by
       have:=(T5.out.au (w':=w5.drew) ((Kp.refl (fun _=>False) w5).drew)).asks (by omega) AZ.out.2 hu k us m s hka hkb Hl Hm;rw [xK.out] at this;refine this.mono ?_;rintro y w' ⟨rfl,L7,x7,Mo,tV,T7⟩
       exact ⟨_,rfl,rfl,hid ⟨_,_,_,_,_,_,T7⟩⟩)
      have h5 : w5.drew.heap[b0]? = some (.cells SA 58 (0,0)):=h5;have z1 : w5.drew.cell? ⟨b0,1,none⟩ = some (.int .i64 us):=z1;clear T5
      go_upto_region 12 with (fail)
      go_cut [13] from 70 to 77 (fun v wx=>v = .bool true /\ Hid (∃ L x all log av kv,du w4 wx B c p T xb tb pc ol (r + 1) 0 L x all log av kv))
      case first =>
       refine aB (fun _=>True) (by kernel_rfl) ?_;refine tj 0 70 (.pointer (some ⟨p.wb,0,none⟩)) trivial ?_;refine tj 1 71 (.pointer (some ⟨xb,0,none⟩)) trivial ?_;refine tj 2 72 (.pointer (some ⟨b0,1,none⟩)) trivial ?_;refine tj 4 74 (.int .i64 (1 + (r : Int))) trivial ?_;refine iJ 3 6 (by kernel_rfl) rfl rfl rfl rfl ?_ ?_
       ·refine cP (some 73) rfl (.int .i64 us) w5.drew (by simp [execOp,Act.eval,go_sem,z1]) ⟨trivial,?_⟩
        simp only [Act.put,pA,pB,pC];refine iJ 5 6 (by kernel_rfl) rfl rfl rfl rfl ?_ ?_
        ·refine cA (some 75) rfl 24 #[.int .i64 us,.int .i64 (1 + (r : Int))] (by simp [execOp,Act.eval,go_sem]) (fun v w'=>∃ u : Nat,v = .int .i64 u /\ u < r + 1 /\ w' = w5.drew) EP.out ?_
         rintro _ _ ⟨u,rfl,hu,rfl⟩;refine ⟨trivial,?_⟩;simp only [Act.put,pA,pB,pC];refine dO 6 ?_;refine cP (some 76) rfl (.agg SA) w5.drew (aU 58 (.tmp 15) rfl b0 rfl 58 SA (0,0) dS h5 Cd (by cases dS <;> first | rfl | exact absurd od (by simp [ar])) sI) ⟨trivial,?_⟩;simp only [Act.put,pA,pB,pC];refine dO 7 ?_;refine cA (some 77) rfl 35 #[.pointer (some ⟨p.wb,0,none⟩),.pointer (some ⟨xb,0,none⟩),.int .i64 (u : Int),.agg SA] (by simp [execOp,Act.eval,go_sem]) (fun v w'=>v = .bool true /\ Hid (∃ L x all log av kv,du w4 w' B c p T xb tb pc ol (r + 1) 0 L x all log av kv)) (EA.out u hu) ?_;rintro _ w7 ⟨rfl,j2⟩;refine ⟨trivial,?_⟩;simp only [Act.put,pA,pB,pC];refine tj 8 13 (.bool true) trivial ?_;refine wpAnyH_done (by kernel_rfl) (NoPanic.normal ?_) _
         go_wp2_with fail
         go_meet
         exact ⟨rfl,j2⟩
        refine cP (some 76) rfl (.agg SA) w5.drew (aU 58 (.tmp 15) rfl b0 rfl 58 SA (0,0) dS h5 Cd (by cases dS <;> first | rfl | exact absurd od (by simp [ar])) sI) ⟨trivial,?_⟩;simp only [Act.put,pA,pB,pC];refine dO 5 ?_;refine cA (some 75) rfl 24 #[.int .i64 us,.int .i64 (1 + (r : Int))] (by simp [execOp,Act.eval,go_sem]) (fun v w'=>∃ u : Nat,v = .int .i64 u /\ u < r + 1 /\ w' = w5.drew) EP.out ?_;rintro _ _ ⟨u,rfl,hu,rfl⟩;refine ⟨trivial,?_⟩;simp only [Act.put,pA,pB,pC];refine dO 7 ?_;refine cA (some 77) rfl 35 #[.pointer (some ⟨p.wb,0,none⟩),.pointer (some ⟨xb,0,none⟩),.int .i64 (u : Int),.agg SA] (by simp [execOp,Act.eval,go_sem]) (fun v w'=>v = .bool true /\ Hid (∃ L x all log av kv,du w4 w' B c p T xb tb pc ol (r + 1) 0 L x all log av kv)) (EA.out u hu) ?_;rintro _ w7 ⟨rfl,j2⟩;refine ⟨trivial,?_⟩;simp only [Act.put,pA,pB,pC];refine tj 8 13 (.bool true) trivial ?_;refine wpAnyH_done (by kernel_rfl) (NoPanic.normal ?_) _
        go_wp2_with fail
        go_meet
        exact ⟨rfl,j2⟩
       refine cP (some 76) rfl (.agg SA) w5.drew (aU 58 (.tmp 15) rfl b0 rfl 58 SA (0,0) dS h5 Cd (by cases dS <;> first | rfl | exact absurd od (by simp [ar])) sI) ⟨trivial,?_⟩;simp only [Act.put,pA,pB,pC];refine dO 3 ?_;refine cP (some 73) rfl (.int .i64 us) w5.drew (by simp [execOp,Act.eval,go_sem,z1]) ⟨trivial,?_⟩;simp only [Act.put,pA,pB,pC];refine dO 5 ?_;refine cA (some 75) rfl 24 #[.int .i64 us,.int .i64 (1 + (r : Int))] (by simp [execOp,Act.eval,go_sem]) (fun v w'=>∃ u : Nat,v = .int .i64 u /\ u < r + 1 /\ w' = w5.drew) EP.out ?_;rintro _ _ ⟨u,rfl,hu,rfl⟩;refine ⟨trivial,?_⟩;simp only [Act.put,pA,pB,pC];refine dO 7 ?_;refine cA (some 77) rfl 35 #[.pointer (some ⟨p.wb,0,none⟩),.pointer (some ⟨xb,0,none⟩),.int .i64 (u : Int),.agg SA] (by simp [execOp,Act.eval,go_sem]) (fun v w'=>v = .bool true /\ Hid (∃ L x all log av kv,du w4 w' B c p T xb tb pc ol (r + 1) 0 L x all log av kv)) (EA.out u hu) ?_;rintro _ w7 ⟨rfl,j2⟩;refine ⟨trivial,?_⟩;simp only [Act.put,pA,pB,pC];refine tj 8 13 (.bool true) trivial ?_;refine wpAnyH_done (by kernel_rfl) (NoPanic.normal ?_) _
       go_wp2_with fail
       go_meet
       exact ⟨rfl,j2⟩
      case rest =>
       obtain ⟨rfl,j2⟩:=hcut;clear EA EP;go_wp2
       go_roundw
       case rel=>exact ⟨i + 1,rfl,by go_num,by omega,j2⟩
       case measure=>simp [intOf];omega
     have j2:=hid T5.out;clear T5;go_wp2
     go_roundw
     case rel=>exact ⟨i + 1,rfl,by go_num,by omega,hid ⟨_,_,_,_,_,_,j2.out⟩⟩
     case measure=>simp [intOf];omega
    have j2:=hid T5.out;clear T5;go_wp2
    go_roundw
    case rel=>exact ⟨i + 1,rfl,by go_num,by omega,hid ⟨_,_,_,_,_,_,j2.out⟩⟩
    case measure=>simp [intOf];omega
   have hge : ¬ (i : Int) < (sn : Int):=by omega
   obtain ⟨L,x,all,log,OJ,Jp,TT⟩:=HT.out;have F0:=ix.start TT.si TT.tn;have LS:=hid (ae TT F0);clear HT TT F0
   go_upto_region 16 with (fail)
   go_loopw [13,16] (fun ok mv wr=>∃ m : Nat,ok = .bool true /\ mv = .int .i64 m /\ m <= 4 * (r + 1) + 3 /\ Hid (∃ j L x all log av kv,j <= 6 * m /\ du w4 wr B c p T xb tb pc ol (r + 1) j L x all log av kv /\ ix x (r + 1) m 0)) (fun _ mv _=>4 * (r + 1) + 3 - (intOf mv).toNat)
   case atStart=>exact ⟨0,rfl,rfl,Nat.zero_le _,hid ⟨0,_,_,_,_,_,_,by omega,LS.out.1,LS.out.2⟩⟩
   case round =>
    obtain ⟨m,rfl,rfl,hmm,HT⟩:=hrel;clear LS
    by_cases hmt : m < 4 * (r + 1) + 3
    ·have hmt' : (m : Int) < 4 * (1 + (r : Int)) + 3:=by omega
     go_upto_region 19 with (fail)
     go_loopw [13,17] (fun ok uv wr=>∃ u : Nat,ok = .bool true /\ uv = .int .i64 u /\ u <= r + 1 /\ Hid (∃ j L x all log av kv,j <= 6 * m + u /\ du w4 wr B c p T xb tb pc ol (r + 1) j L x all log av kv /\ ix x (r + 1) m u)) (fun _ uv _=>r + 1 - (intOf uv).toNat)
     case atStart=>exact ⟨0,rfl,rfl,Nat.zero_le _,HT⟩
     case round =>
      obtain ⟨u,rfl,rfl,hu,HU⟩:=hrel;clear HT
      by_cases hut : u < r + 1
      ·have LU : (u : Int) < 1 + (r : Int):=by omega
       obtain ⟨j,L2,x2,all2,log2,Ed,I8,hj,T2,F2⟩:=HU.out;obtain ⟨L7,OK,OL,J8⟩:=T2.small HR.out AZ.out.1 (by omega) AZ.out.2 hut;have F3:=F2.step T2.si HR.out (by rw [T2.tn];exact hut);have EA:=hid J8;have RM:=hid F3;clear J8 HU T2 F2 F3
       go_wp2_with fail
       refine hm EA ?_;rintro y w7 ⟨rfl,Mo,tV,T7⟩;have j2:=hid T7;clear EA T7;go_wp2
       go_roundw
       case rel=>exact ⟨u + 1,rfl,by go_num,by omega,hid ⟨j + 1,_,_,_,_,_,_,by omega,j2.out,RM.out⟩⟩
       case measure=>simp [intOf];omega
      have LW : ¬ (u : Int) < 1 + (r : Int):=by omega
      have hue : u = r + 1:=by omega
      obtain ⟨j,L2,x2,all2,log2,Ed,I8,hj,T2,F2⟩:=HU.out;rw [hue] at F2;have j2:=hid (ae T2 (F2.round T2.si T2.tn));clear HU T2 F2 hue;go_wp2
      go_roundw
      case rel=>exact ⟨m + 1,rfl,by go_num,by omega,hid ⟨j,_,_,_,_,_,_,by omega,j2.out.1,j2.out.2⟩⟩
      case measure=>simp [intOf];omega
    have RO : ¬ (m : Int) < 4 * (1 + (r : Int)) + 3:=by omega
    obtain ⟨j,L2,x2,all2,log2,Ed,I8,hj,T2,F2⟩:=HT.out
    have hidle : ∀ (u : Nat) (k : Tk),x2.tasks[u]? = some k -> k.kind = 0:=fun u k hk=>F2.done T2.si (by omega) (by omega) hk
    have hj2 : j <= 2000000:=by omega
    have HT2:=hid (ae T2 hidle);clear HT T2 F2 hidle
    go_upto_region 25 with (fail)
    go_loopw [18] (fun uv wr=>∃ u : Nat,uv = .int .i64 u /\ u <= r + 1 /\ Hid (∃ kv,du w4 wr B c p T xb tb pc ol (r + 1) j L2 x2 all2 log2 Ed kv)) (fun uv _=>r + 1 - (intOf uv).toNat)
    case atStart=>exact ⟨0,rfl,Nat.zero_le _,hid ⟨_,HT2.out.1⟩⟩
    case round =>
     obtain ⟨u,rfl,hu,HU⟩:=hrel;obtain ⟨VF,T3⟩:=HU.out
     by_cases hut : u < r + 1
     ·have LU : (u : Int) < 1 + (r : Int):=by omega
      obtain ⟨k,hk⟩ : ∃ k,x2.tasks[u]? = some k:=⟨_,List.getElem?_eq_getElem (by rw [T3.tn];exact hut)⟩
      have hk0:=HT2.out.2 u k hk;have ES:=hid (T3.idle HR.out AZ.out.1 hj2 AZ.out.2 hk hk0);obtain ⟨_,_,hb,_⟩:=T3.lr.tk u k hk;rw [show decide (k.kind ≠ 0) = false by simp [hk0]] at hb
      have Jl : (u : Int) < (L2.stands.length : Int):=by have:=(List.getElem?_eq_some_iff.1 hb).1;omega
      clear HU T3 hk hk0
      go_wp2_with fail
      refine hm ES ?_;rintro y w7 ⟨rfl,tV,T7⟩;have hnb:=heap_alloc_new w7 (.cells aA 64);have K8 : Kp (fun _=>False) w7 ((w7.alloc (.cells aA 64)).setRow w7.heap.size (aZ b8)):=((Kp.refl _ _).alloc _).setRow (fun x=>by omega) _;have T8:=T7.au K8;clear ES T7 K8
      go_upto_region 28 with (refine wpList_store_row rfl 64 (.tmp 19) (.tmp 107) rfl w7.heap.size (aZ b8) rfl rfl 64 aA hnb aV rfl (cT _) ?_)
      generalize (w7.alloc (.cells aA 64)).setRow w7.heap.size (aZ b8) = w8 at *;have y3 : w8.cell? ⟨p.wb,3,none⟩ = some (.slice (some ⟨p.sb,0,none⟩) L2.stands.length L2.stands.length):=T8.ln.cell 3;have yb:=T8.ln.u4 hb;have RU:=hid T8;clear T8 hnb hb;go_wp2
      go_roundw
      case rel=>exact ⟨u + 1,by go_num,by omega,hid ⟨_,RU.out⟩⟩
      case measure=>simp [intOf];omega
     have LW : ¬ (u : Int) < 1 + (r : Int):=by omega
     have HZ:=hid (HB.out.trans (T3.kp.below (by omega) (fun k hk=>by show w.heap.size <= k;have : B <= k:=hk;omega)));clear HU T3;go_wp2;go_ret;exact ⟨rfl,HZ.out⟩
 have hxv:=hq.1 (by rw [e];decide);subst hxv;have HB:=hid B4;clear B4 hq EB K4;go_wp2;go_ret;exact ⟨rfl,HB.out⟩
end
open Go.ChangeShapes Go.WideShapes Go.ChangeAt Go.RowKit
theorem yX : joinedFacts prog 17 Tryz.f17 Rows.fairSpec Rows.fairRow = true:=by
 unfold joinedFacts
 repeat' (with_reducible refine Bool.and_eq_true_iff.2 ⟨?_,?_⟩)
 all_goals (as_aux_lemma=>kernel_rfl)
end Go.Proofs.YtnlbchmfcebeeaaGreat
