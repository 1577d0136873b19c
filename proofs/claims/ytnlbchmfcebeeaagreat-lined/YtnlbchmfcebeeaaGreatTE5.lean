import Derived.Test.YtnlbchmfcebeeaaGreatTB5
import Derived.Deep.CutRange
set_option maxHeartbeats 12800000
set_option maxRecDepth 100000
namespace Go.Proofs.YtnlbchmfcebeeaaGreat
open Go.Proofs.Tryz Ch
open Go.RowKit
namespace Ch
def fa(ss:List St)(act:List Bool)(d:Int):Nat->Nat->List Bool->List Bool
 |0,_,l=>l
 |f+1,k,l=>fa ss act d f (k+1) (if has act (k:Int)&&au ss d (k:Int)then pH l (k:Int) true else l)
def leaves(ol:Ol)(s:Sd)(t:Nat):List Bool:=match ol.bG[t]? with
 |some x=>if x.target==45 then db else fa ol.ag s.act (dom ol.ag x.state x.target) ol.ag.length 0 db
 |none=>db
theorem I4(ss:List St)(act:List Bool)(d:Int):∀(f k:Nat) (l:List Bool),(fa ss act d f k l).length=l.length:=by
 intro f
 induction f with
 |zero=>intro k l;rfl
 |succ f ih=>intro k l;simp only[fa];rw[ih];split<;>simp[kz]
theorem nE(ol:Ol)(s:Sd)(t:Nat):(leaves ol s t).length=16:=by
 unfold leaves
 split
 ·split
  ·rfl
  rw[I4];rfl
 rfl
def eQ(ol:Ol)(s:Sd)(t:Nat):List Int->List Int->Option (List Int)
 | [],kept=>some (kept++[(t:Int)])
 |x::l,kept=>if meets (leaves ol s t) (leaves ol s x.toNat)then(if within ol t x.toNat then eQ ol s t l kept else none)else eQ ol s t l (kept++[x])
def jN(ol:Ol)(s:Sd)(list:List Int)(t:Nat):List Int:=match eQ ol s t list []with|some l=>l|none=>list
def dP(ol:Ol)(s:Sd):List Int->List Int->List Int
 | [],acc=>acc
 |x::l,acc=>dP ol s l (jN ol s acc x.toNat)
def choose(ol:Ol)(s:Sd)(trg:Int):List Int:=dP ol s (find ol s trg) []
theorem RY{ol:Ol}{s:Sd}{t:Nat}(ht:t<ol.bG.length):∀(l kept r:List Int),InT ol l->InT ol kept->eQ ol s t l kept=some r->InT ol r/\r.length<=kept.length+l.length+1:=by
 intro l
 induction l with
 |nil=>
  intro kept r _ hk h;simp only[eQ,Option.some.injEq]at h;subst h;refine⟨?_,by simp⟩;intro n hn
  rcases List.mem_append.1 hn with hn|hn
  ·exact hk n hn
  simp at hn;subst hn;omega
 |cons x l ih=>?_
 intro kept r hl hk h;have hx:=hl x (by simp)
 have hl':InT ol l:=λn hn=>hl n (by simp[hn])
 simp only[eQ]at h
 split at h
 ·split at h
  ·obtain⟨h1,h2⟩:=ih kept r hl' hk h
   exact⟨h1,by simp;omega⟩
  simp at h
 obtain⟨h1,h2⟩:=ih (kept++[x]) r hl' (λn hn=>by
  rcases List.mem_append.1 hn with hn|hn
  ·exact hk n hn
  simp at hn;subst hn;exact hx) h
 refine⟨h1,?_⟩;simp at h2⊢;omega
theorem AP{ol:Ol}{s:Sd}{t:Nat}(ht:t<ol.bG.length){l:List Int}(hl:InT ol l):InT ol (jN ol s l t)/\(jN ol s l t).length<=l.length+1:=by
 unfold jN
 split
 ·rename_i r h
  have:=RY ht l [] r hl (by intro n hn;simp at hn) h;exact⟨this.1,by have:=this.2;simp at this;omega⟩
 exact⟨hl,by omega⟩
theorem Nb{ol:Ol}{s:Sd}:∀(l acc:List Int),InT ol l->InT ol acc->InT ol (dP ol s l acc)/\(dP ol s l acc).length<=acc.length+l.length:=by
 intro l
 induction l with
 |nil=>intro acc _ h;exact⟨h,by simp[dP]⟩
 |cons x l ih=>?_
 intro acc hl h;have hx:=hl x (by simp);simp only[dP];have ha:=AP (s:=s) (t:=x.toNat) (by omega) h;obtain⟨h1,h2⟩:=ih (jN ol s acc x.toNat) (λn hn=>hl n (by simp[hn])) ha.1;exact⟨h1,by have:=ha.2;simp;omega⟩
theorem I5{ol:Ol}{s:Sd}{trg:Int}{fl:List Int}{k:Nat}(h:InT ol fl):InT ol (dw ol s trg fl k)/\(dw ol s trg fl k).length<=fl.length+1:=by
 unfold dw
 split
 ·rename_i q
  simp only[Bool.and_eq_true,bne_iff_ne]at q;refine⟨?_,by simp⟩;intro n hn
  rcases List.mem_append.1 hn with hn|hn
  ·exact h n hn
  simp at hn;subst hn
  rcases s8 ol s trg ((k:Int)+2).toNat k with e|⟨j,e,hj⟩
  ·exact absurd e q.1.2
  unfold cr;rw[e];omega
 exact⟨h,by omega⟩
theorem I6{ol:Ol}{s:Sd}{trg:Int}:∀(f k:Nat) (fl:List Int),InT ol fl->InT ol (findF ol s trg f k fl)/\(findF ol s trg f k fl).length<=fl.length+f:=by
 intro f
 induction f with
 |zero=>intro k fl h;exact⟨h,by simp[findF]⟩
 |succ f ih=>?_
 intro k fl h;simp only[findF];have h0:=I5 (s:=s) (trg:=trg) (k:=k) h;obtain⟨h1,h2⟩:=ih (k+1) _ h0.1;exact⟨h1,by have:=h0.2;omega⟩
theorem Ad(ol:Ol)(s:Sd)(trg:Int):InT ol (find ol s trg)/\(find ol s trg).length<=ol.ag.length:=by
 have:=I6 (ol:=ol) (s:=s) (trg:=trg) ol.ag.length 0 [] (by intro n hn;simp at hn);exact⟨this.1,by have h2:=this.2;simp only[List.length_nil,Nat.zero_add]at h2;exact h2⟩
theorem j4(ol:Ol)(s:Sd)(trg:Int):InT ol (choose ol s trg)/\(choose ol s trg).length<=ol.ag.length:=by
 have h:=Ad ol s trg;have:=Nb (s:=s) (find ol s trg) [] h.1 (by intro n hn;simp at hn);exact⟨this.1,by have h2:=this.2;have:=h.2;simp only[List.length_nil,Nat.zero_add]at h2;unfold choose;omega⟩
def nF(ol:Ol)(s:Sd):List Int->List Bool->List Bool
 | [],l=>l
 |x::r,l=>nF ol s r (join l (leaves ol s x.toNat))
def bO(ol:Ol)(s:Sd)(list:List Int):List Bool:=nF ol s list db
theorem RZ(ol:Ol)(s:Sd):∀(r:List Int) (l:List Bool),l.length=16->(nF ol s r l).length=16:=by
 intro r
 induction r with
 |nil=>intro l h;exact h
 |cons x r ih=>intro l h;simp only[nF];exact ih _ (wh _ _)
theorem yR(ol:Ol)(s:Sd)(list:List Int):(bO ol s list).length=16:=RZ _ _ _ _ rfl
def kD(ol:Ol)(t:Nat):List Ac:=match ol.bG[t]? with|some x=>x.acts|none=>[]
def dQ(ol:Ol):List Int->Ma->Ma
 | [],m=>m
 |x::l,m=>dQ ol l (cJ (kD ol x.toNat) m)
def c_(ol:Ol)(bB:List Bool)(goals:List Int):Nat->Nat->Ma->Ma
 |0,_,m=>m
 |f+1,k,m=>c_ ol bB goals f (k+1) (if gU ol.ag m.s.act bB goals (k:Int)then bY ol m k else m)
def enter(ol:Ol)(m:Ma)(list:List Int):Ma:=c_ ol m.s.act (bU ol m.s list) ol.ag.length 0 m
def cd(ol:Ol)(m:Ma)(list:List Int):Ma:=
 enter ol (dQ ol list (bP ol (bO ol m.s list) ol.ag.length {m with s:=rem ol.ag m.s (bO ol m.s list)})) list
def busy(ol:Ol)(m:Ma):Bool:=decide (0<(choose ol m.s 46).length)||decide (0<m.q.length)
def round(ol:Ol)(m:Ma):Ma:=
 if(choose ol m.s 46).length==0 then match m.q with
  | []=>cd ol m (choose ol m.s 46)
  |a::q=>cd ol {m with q:=q} (choose ol m.s a)
 else cd ol m (choose ol m.s 46)
def rounds(ol:Ol):Nat->Ma->Ma
 |0,m=>m
 |n+1,m=>if busy ol m then rounds ol n (round ol m)else m
def finish(ol:Ol)(n:Nat)(m:Ma):Sd×ByteArray×Int:=
 if busy ol (rounds ol n m)then(jH,ByteArray.empty,9)else((rounds ol n m).s,strOfNums (rounds ol n m).out,0)
def mstart(ol:Ol):Sd×ByteArray×Int:=finish ol 30 (enter ol ⟨bM ol.ag,[],[]⟩ [])
def aQ(ol:Ol)(s:Sd)(ev:Int):Sd×ByteArray×Int:=finish ol 29 (cd ol ⟨s,[],[]⟩ (choose ol s ev))
theorem Nc(ol:Ol)(s:Sd):∀(l:List Int),(bU ol s l).length<=l.length:=by
 intro l
 induction l with
 |nil=>simp[bU]
 |cons x l ih=>?_
 simp only[bU]
 split
 ·split
  ·simp;omega
  simp;omega
 simp;omega
theorem Ma.Sz.le{m:Ma}{a b:Nat}(h:m.Sz a)(hab:a<=b):m.Sz b:=⟨Nat.le_trans h.1 hab,Nat.le_trans h.2 hab⟩
theorem x_(ol:Ol)(left:List Bool):∀(k:Nat) {m:Ma},m.s.Ok->(bP ol left k m).s.Ok:=by
 intro k
 induction k with
 |zero=>intro m h;exact h
 |succ k ih=>?_
 intro m h;simp only[bP];refine ih ?_
 split
 ·exact k_ (s7 _ _ _ h) _ _
 exact h
theorem ya{ol:Ol}(hol:ol.Ok)(left:List Bool):∀(k:Nat) {m:Ma} {n:Nat},m.Sz n->(bP ol left k m).Sz (n+115200*k):=by
 intro k
 induction k with
 |zero=>intro m n h;simpa[bP]using h
 |succ k ih=>?_
 intro m n h;simp only[bP]
 have h1:(if has left (k:Int)then cK (df k 36 ol.dz m) k false else m:Ma).Sz (n+115200):=by
  split
  ·exact ux hol _ _ h
  exact h.le (by omega)
 exact(ih h1).le (by omega)
theorem VM(ol:Ol):∀(l:List Int) {m:Ma},m.s.Ok->(dQ ol l m).s.Ok:=by
 intro l
 induction l with
 |nil=>intro m h;exact h
 |cons x l ih=>intro m h;simp only[dQ];exact ih (pQ _ h)
theorem Nd{ol:Ol}(hol:ol.Ok)(t:Nat):(kD ol t).length<=240:=by
 unfold kD
 split
 ·rename_i x hx;exact(hol.iX x (List.mem_of_getElem? hx)).1
 simp
theorem VN{ol:Ol}(hol:ol.Ok):∀(l:List Int) {m:Ma} {n:Nat},m.Sz n->(dQ ol l m).Sz (n+480*l.length):=by
 intro l
 induction l with
 |nil=>intro m n h;simpa[dQ]using h
 |cons x l ih=>?_
 intro m n h;simp only[dQ];exact(ih (uw h (Nd hol _))).le (by simp;omega)
theorem R0(ol:Ol)(bB:List Bool)(goals:List Int):∀(f k:Nat) {m:Ma},m.s.Ok->(c_ ol bB goals f k m).s.Ok:=by
 intro f
 induction f with
 |zero=>intro k m h;exact h
 |succ f ih=>?_
 intro k m h;simp only[c_];refine ih _ ?_
 split
 ·exact vm h _
 exact h
theorem R_{ol:Ol}(hol:ol.Ok)(bB:List Bool)(goals:List Int):∀(f k:Nat) {m:Ma} {n:Nat},m.Sz n->(c_ ol bB goals f k m).Sz (n+115202*f):=by
 intro f
 induction f with
 |zero=>intro k m n h;simpa[c_]using h
 |succ f ih=>?_
 intro k m n h;simp only[c_]
 have h1:(if gU ol.ag m.s.act bB goals (k:Int)then bY ol m k else m:Ma).Sz (n+115202):=by
  split
  ·exact vn hol h _
  exact h.le (by omega)
 exact(ih (k+1) h1).le (by omega)
theorem s_{ol:Ol}{m:Ma}(h:m.s.Ok)(list:List Int):(enter ol m list).s.Ok:=R0 _ _ _ _ _ h
theorem wA{ol:Ol}(hol:ol.Ok){m:Ma}{n:Nat}(h:m.Sz n)(list:List Int):(enter ol m list).Sz (n+1900000):=by
 have:=R_ hol m.s.act (bU ol m.s list) ol.ag.length 0 h;have h16:=hol.ag;exact this.le (by omega)
theorem Gv{ss:List St}{s:Sd}(left:List Bool)(h:s.Ok):(rem ss s left).Ok:=⟨acu left h.1,h.2⟩
theorem nG{ol:Ol}{m:Ma}(h:m.s.Ok)(list:List Int):(cd ol m list).s.Ok:=
 s_ (VM _ _ (x_ _ _ _ (Gv _ h))) _
theorem pT{ol:Ol}(hol:ol.Ok){m:Ma}{n:Nat}(h:m.Sz n){list:List Int}(hl:list.length<=16):(cd ol m list).Sz (n+3900000):=by
 have h16:=hol.ag;have h1:({m with s:=rem ol.ag m.s (bO ol m.s list)}:Ma).Sz n:=h;have h2:=ya hol (bO ol m.s list) ol.ag.length h1;have h3:=VN hol list h2;exact(wA hol h3 list).le (by omega)
theorem I7{ol:Ol}{m:Ma}(h:m.s.Ok):(round ol m).s.Ok:=by
 unfold round
 split
 ·split
  ·exact nG h _
  rename_i q _;exact nG (m:={m with q:=q}) h _
 exact nG h _
theorem j5{ol:Ol}(hol:ol.Ok)(s:Sd)(trg:Int):(choose ol s trg).length<=16:=by
 have:=(j4 ol s trg).2;have:=hol.ag;omega
theorem wFm{ol}(h:ol.Ok)D goals:∀ f k m,(c_ ol D goals f k m).out.length<=m.out.length+120*f:=by
 intro f;induction f with
 |zero=>grind[c_]
 |succ f G=>?_
 intro k m;simp only[c_];have:=wDt h m k;split
 ·have:=G (k+1) (bY ol m k);omega
 have:=G (k+1) m;omega
theorem wGq{ol}(D:ol.Ok):∀ l m,(dQ ol l m).out.length<=m.out.length+240*l.length:=by
 intro l;induction l with
 |nil=>grind[dQ]
 |cons x l E=>?_
 intro m;simp only[dQ];have:=E (cJ (kD ol x.toNat) m);have:=Hy1 (kD ol x.toNat) m;have:=Nd D x.toNat;simp only[List.length_cons];omega
theorem wEh{ol}(D:ol.Ok)m{list}(J:list.length<=16):(cd ol m list).out.length<=m.out.length+7680:=by
 have F:=D.ag;have G:=wDd D (bO ol m.s list) ol.ag.length {m with s:=rem ol.ag m.s (bO ol m.s list)};simp only at G;unfold cd enter;refine Nat.le_trans (wFm D _ _ _ _ _) ?_;have I:=wGq D list (bP ol (bO ol m.s list) ol.ag.length {m with s:=rem ol.ag m.s (bO ol m.s list)});omega
theorem wRo{ol}(D:ol.Ok)m:(round ol m).out.length<=m.out.length+7680:=by
 unfold round;split
 ·split
  ·exact wEh D m (j5 D _ _)
  exact wEh D {m with q:=_} (j5 D _ _)
 exact wEh D m (j5 D _ _)
theorem I8{ol:Ol}(hol:ol.Ok){m:Ma}{n:Nat}(h:m.Sz n):(round ol m).Sz (n+3900000):=by
 unfold round
 split
 ·split
  ·exact pT hol h (j5 hol _ _)
  rename_i a q e;refine pT hol (m:={m with q:=q}) ?_ (j5 hol _ _);refine⟨?_,h.2⟩;have:=h.1;rw[e]at this;simp at this⊢;omega
 exact pT hol h (j5 hol _ _)
theorem rC(ss:List St):(bM ss).Ok:=⟨ny ss,by simp[bM],by simp[bM]⟩
theorem wB{ss:List St}{a p t:ByteArray}{x y z:Int}:(take ss a p t x y z).2.Ok:=by
 have h0:jH.Ok:=⟨kC,by simp[jH],by simp[jH]⟩
 unfold take
 split
 ·split
  ·split
   ·rename_i q
    simp only[Bool.and_eq_true,jU,decide_eq_true_eq]at q;obtain⟨⟨⟨q1,q2⟩,q3⟩,q4⟩:=q;refine⟨⟨kB ss a,jM ss p⟩,⟨q2,q3,q4⟩,?_⟩;show t.size<=17;unfold j2 at q1
    split at q1
    ·simp at q1
    rename_i q5;simp only[Bool.or_eq_true,decide_eq_true_eq,not_or]at q5;omega
   exact h0
  exact h0
 exact h0
end Ch
def iF(l:List Bool):Array Value:=(l.map Value.bool).toArray
section
variable {w:World} {b:Nat} {l:List Bool}
theorem ju.row(h:ju w b [] l [] 91):w.heap[b]? =some (.cells (iF l) 91 (0,0)):=by unfold ju at h;simpa[iF]using h
theorem ju.ofRow(h:w.heap[b]? =some (.cells (iF l) 91 (0,0))):ju w b [] l [] 91:=by unfold ju;simpa[iF]using h
theorem j6(h:l.length=16):(iF l).size=16:=by simp[iF,h]
theorem ld(h:l.length=16):(prog.info? 91).map (·.size)=some (iF l).size:=by rw[j6 h];exact ox
theorem nH(l:List Bool):(iF l).all (·.oneCell')=true:=by
 apply Array.all_eq_true_iff_forall_mem.2;intro x hx;simp only[iF,List.mem_toArray,List.mem_map]at hx;obtain⟨a,_,rfl⟩:=hx;rfl
end
theorem Kp.cell0{w w':World}(k:Kp (λ_=>False) w w'){p:Addr}{v:Value}(h:w.cell? p=some v):w'.cell? p=some v:=by
 have hlt:=World.block_lt_of_cell? w _ h;have e:=k.block p.block hlt (λx=>x);unfold World.cell? at*;rw[e];exact h
section
variable (w:World) (mb ob po:Nat) (s:Sd) (qv ov:Value) (ol:Ol)
theorem vp(t:Nat)(ht:t<ol.bG.length)(hm:iq w mb ob po s qv ov)(hw:s.Wf)(hp:Pl w ob po ol)(hol:ol.Ok):
 Calls prog 176 #[.pointer (some ⟨mb,0,none⟩),.int .i64 t] w λx w'=>x= .returned (.agg (iF (Ch.leaves ol s t)))/\Kp (λ_=>False) w w':=by
 obtain⟨ds,hds,eY⟩:=AH;have uT:=hol.ag
 have ht':(t:Int)<(ol.bG.length:Int):=by omega
 obtain⟨a,ha⟩:∃s,ol.bG[t]? =some s:=⟨_,List.getElem?_eq_getElem ht⟩
 have K2:Kp (λ_=>False) w ((w.alloc (.cells bL 91)).alloc (.cells bL 91)):=((Kp.refl _ _).alloc _).alloc _
 have hr2:((w.alloc (.cells bL 91)).alloc (.cells bL 91)).heap[w.heap.size]? =some (.cells bL 91):=by
  rw[Below.heap_alloc _ _ _ (by simp)];exact heap_alloc_new _ _
 have hv2:((w.alloc (.cells bL 91)).alloc (.cells bL 91)).heap[w.heap.size+1]? =some (.cells bL 91):=heap_alloc2_new w _ _
 have hsz2:((w.alloc (.cells bL 91)).alloc (.cells bL 91)).heap.size=w.heap.size+2:=by simp
 have hmb:=hm.lt;have cp:((w.alloc (.cells bL 91)).alloc (.cells bL 91)).cell? ⟨mb,0,none⟩=some (.pointer (some ⟨ob,po,none⟩)):=iq.plan (du.keep hm K2 (λx=>x));have hm2:iq ((w.alloc (.cells bL 91)).alloc (.cells bL 91)) mb ob po s qv ov:=du.keep hm K2 (λx=>x);have hp2:Pl ((w.alloc (.cells bL 91)).alloc (.cells bL 91)) ob po ol:=hp.keep K2 (λ_ _ _ _ _ x=>x);obtain⟨g,cap,ac,base,c3,cc,hac⟩:=hp2.tr ha;have c0:=cc 0 (by omega);have c1:=cc 1 (by omega);have c2:=cc 2 (by omega);have c4:=cc 4 (by omega);have c5:=cc 5 (by omega);have c6:=cc 6 (by omega);have c33:=cc 3 (by omega);simp only[List.getElem?_cons_succ,List.getElem?_cons_zero,Nat.add_zero]at c0 c1 c2 c33 c4 c5 c6;clear cc hac hp hm
 cases q1:a.target==45 with
 |true=>
  rw[show Ch.leaves ol s t=db by simp[Ch.leaves,ha,q1]];clear hm2 hp2
  go_enter func176,ntmps176
  go_wp2_with fail
  generalize ((w.alloc (.cells bL 91)).alloc (.cells bL 91))=w2 at*;refine bodyPost_ret (results_cell_row rfl _ _ w.heap.size 91 bL (0,0) ds rfl hr2 hds (by cases ds<;>first|rfl|exact absurd eY (by simp[ak])) ox) rfl ?_;exact⟨rfl,K2⟩
 |false=>?_
 rw[show Ch.leaves ol s t=fa ol.ag s.act (dom ol.ag a.state a.target) ol.ag.length 0 db by simp[Ch.leaves,ha,q1]];have E1:=hid (MQ ob po ((w.alloc (.cells bL 91)).alloc (.cells bL 91)).drew ol.ag a.state a.kr a.guard.var a.guard.sign a.guard.digit a.target ac hol.up (by exact hp2.str) (by omega))
 go_enter func176,ntmps176
 go_upto_region 4 with(fail)
 generalize hw2:((w.alloc (.cells bL 91)).alloc (.cells bL 91))=w2 at*;clear hw2
 go_cut [6]from 21 to 35 (λd wx=>d= .int .i64 (dom ol.ag a.state a.target)/\Kp (λ_=>False) w2 wx)
 case first=>
  go_region_held3 (λw'=>w'.cell? ⟨mb,0,none⟩=some (.pointer (some ⟨ob,po,none⟩))/\w'.cell? ⟨ob,po+3,none⟩=some (.slice (some ⟨g,0,none⟩) ol.bG.length cap)/\w'.cell? ⟨g,t*7,none⟩=some (.int .i64 a.state)/\w'.cell? ⟨g,t*7+1,none⟩=some (.int .u8 a.kr)/\w'.cell? ⟨g,t*7+2,none⟩=some (.int .u8 a.guard.var)/\w'.cell? ⟨g,t*7+3,none⟩=some (.int .u8 a.guard.sign)/\w'.cell? ⟨g,t*7+4,none⟩=some (.int .i64 a.guard.digit)/\w'.cell? ⟨g,t*7+5,none⟩=some ac/\w'.cell? ⟨g,t*7+6,none⟩=some (.int .u8 a.target)) (first|exact⟨cp,c3,c0,c1,c2,c33,c4,c5,c6⟩|exact HS.out) ((go_at_call 222;refine bH E1 ?_;rintro x w3 ⟨rfl,K3⟩;have H:=hid K3;have HS:=hid (ae (K3.cell0 cp) (ae (K3.cell0 c3) (ae (K3.cell0 c0) (ae (K3.cell0 c1) (ae (K3.cell0 c2) (ae (K3.cell0 c33) (ae (K3.cell0 c4) (ae (K3.cell0 c5) (K3.cell0 c6)))))))));clear E1 K3))
  all_goals (go_wp2_with fail;go_meet;exact⟨rfl,((Kp.refl (λ_=>False) w2).drewN 1).trans H.out⟩)
 case rest=>
  obtain⟨rfl,KC⟩:=hcut;have hmc:iq wc mb ob po s qv ov:=du.keep hm2 KC (λx=>x);have hpc:Pl wc ob po ol:=hp2.keep KC (λ_ _ _ _ _ x=>x);have hrc:=KC.at_ hr2 (λx=>x);have hvc:ju wc (w.heap.size+1) [] db [] 91:=ju.ofRow (KC.at_ hv2 (λx=>x));have KW:=K2.trans KC
  have hnr:∀cur T,wc.heap[w.heap.size+1]? =some (.cells cur T (0,0))->T=91:=by
   intro cur T h;rw[ju.row hvc]at h;simp at h;exact h.2.symm
  clear E1 hm2 hp2 hr2 hv2 K2 KC cp c0 c1 c2 c3 c4 c5 c6 c33 q1 ha;generalize hdm:dom ol.ag a.state a.target=dm at*;have HD:=hid hdm;clear hdm
  go_wp2_with fail
  go_loopw [7] (λi wr=>∃(k:Nat) (l:List Bool),i= .int .i64 k/\k<=ol.ag.length/\l.length=16/\Hid (fa ol.ag s.act dm ol.ag.length 0 db=fa ol.ag s.act dm (ol.ag.length-k) k l)/\ju wr (w.heap.size+1) [] l [] 91/\Kp (λk=>k=w.heap.size+1) wc wr) (λi _=>ol.ag.length-(intOf i).toNat)
  case atStart=>exact⟨0,db,rfl,Nat.zero_le _,rfl,hid rfl,hvc,Kp.refl _ _⟩
  case round=>
   obtain⟨k,l,rfl,hk,h16,HE,h1,K1⟩:=hrel;have hmr:iq wr mb ob po s qv ov:=du.keep hmc K1 (λx=>by omega);have hpr:Pl wr ob po ol:=hpc.keep K1 (λi cur T hi hT x=>by subst x;have:=hnr _ _ hi;subst this;revert hT;unfold YS oT;decide);have hrr:=K1.at_ hrc (λx=>by omega);have KX:Kp (λ_=>False) w wr:=KW.trans' K1 (λi hi x=>by omega);have cp:=hmr.plan;obtain⟨ao,cap,c2⟩:=hpr.str.len
   by_cases hlt:k<ol.ag.length
   ·have hlt':(k:Int)<(ol.ag.length:Int):=by omega
    have ef:ol.ag.length-k=(ol.ag.length-(k+1))+1:=by omega
    have E1:=hid (jw wr mb 1 [.pointer (some ⟨ob,po,none⟩)] s.act (cf s++[qv,ov]) 149 k hmr hw.1 rfl);have E2:=hid (lO ob po wr ol.ag dm k hol.up hpr.str (by omega));have E3:=hid (Gh wr (w.heap.size+1) 0 [] l [] 91 k h1 h16 rfl);have HK:=hid (ae K1 h1)
    cases q1:Ch.has s.act (k:Int)with
    |false=>
     rw[q1]at E1;have HF:=hid (HE.out.trans (show _=fa ol.ag s.act dm (ol.ag.length-(k+1)) (k+1) l by rw[ef];simp only[fa];rw[q1];rfl));clear HE ef K1 KX h1 hmr hpr hrr
     go_wp2_with fail
     refine bH E1 ?_;rintro x w1 ⟨rfl,rfl⟩
     go_wp2_with fail
     go_roundw
     case rel=>exact⟨k+1,l,by go_num,by omega,h16,HF,HK.out.2,HK.out.1⟩
     case measure=>simp[intOf];omega
    |true=>?_
    rw[q1]at E1
    cases q2:au ol.ag dm (k:Int)with
    |false=>
     rw[q2]at E2;have HF:=hid (HE.out.trans (show _=fa ol.ag s.act dm (ol.ag.length-(k+1)) (k+1) l by rw[ef];simp only[fa];rw[q1,q2];rfl));clear HE ef K1 KX h1 hmr hpr hrr
     go_wp2_with fail
     refine bH E1 ?_;rintro x w1 ⟨rfl,rfl⟩
     go_wp2_with fail
     refine bH E2 ?_;rintro x w1 ⟨rfl,rfl⟩
     go_wp2_with fail
     go_roundw
     case rel=>exact⟨k+1,l,by go_num,by omega,h16,HF,HK.out.2,HK.out.1⟩
     case measure=>simp[intOf];omega
    |true=>?_
    rw[q2]at E2;have HF:=hid (HE.out.trans (show _=fa ol.ag s.act dm (ol.ag.length-(k+1)) (k+1) (pH l (k:Int) true)by rw[ef];simp only[fa];rw[q1,q2];rfl));clear HE ef K1 KX h1 hmr hpr hrr
    go_wp2_with fail
    refine bH E1 ?_;rintro x w1 ⟨rfl,rfl⟩
    go_wp2_with fail
    refine bH E2 ?_;rintro x w1 ⟨rfl,rfl⟩
    go_wp2_with fail
    refine bH E3 ?_;rintro x w3 ⟨rfl,h3,K3⟩;have K4:=HK.out.1.trans K3;clear E1 E2 E3 HK K3
    go_wp2_with fail
    go_roundw
    case rel=>exact⟨k+1,_,by go_num,by omega,by rw[kz];exact h16,HF,h3,K4⟩
    case measure=>simp[intOf];omega
   have hge:¬(k:Int)<(ol.ag.length:Int):=by omega
   have HF:=hid (HE.out.trans (show _=l by rw[show ol.ag.length-k=0 by omega];rfl));have hrow:=h1.row;have hszI:=ld h16;have hsz:=j6 h16;have hone:=nH l;have KZ:Kp (λ_=>False) w (wr.setRow w.heap.size (iF l)):=KX.setRow (λx=>by omega) _;clear HE h1 K1 KX hmr hpr;generalize hL:iF l=L at*;have HL:=hid hL;clear hL
   go_wp2_with (first|refine wpList_load_row rfl 91 (.tmp 5) rfl (w.heap.size+1) rfl 91 L (0,0) ds hrow hds (by cases ds<;>first|rfl|exact absurd eY (by simp[ak])) hszI ?_|refine wpList_store_row rfl 91 (.tmp 4) (.tmp 65) rfl w.heap.size L rfl rfl 91 bL hrr hszI hsz.symm hone ?_)
   refine bodyPost_ret (results_cell_row rfl _ _ w.heap.size 91 L (0,0) ds rfl (setRow_heap _ _ _ _ _ _ hrr) hds (by cases ds<;>first|rfl|exact absurd eY (by simp[ak])) hszI) rfl ?_;rw[HD.out,HF.out,HL.out];exact⟨rfl,KZ⟩
end
section
variable (w:World) (mb ob po:Nat) (s:Sd) (qv ov:Value) (ol:Ol)
theorem Sa(v:Value)(list:List Int)(t:Nat)(h:sq w v list)(hin:InT ol list)(hl:list.length<=1000)(ht:t<ol.bG.length)(hm:iq w mb ob po s qv ov)(hw:s.Wf)(hp:Pl w ob po ol)(hol:ol.Ok):
 Calls prog 130 #[.pointer (some ⟨mb,0,none⟩),v,.int .i64 t] w λx w'=>∃v',x= .returned v'/\sq w' v' (jN ol s list t)/\Kp (λ_=>False) w w':=by
 obtain⟨i0,hi,hz0,hz1,hz2⟩:=info_parts lI;obtain⟨ao,cap,rfl⟩:=h.len;have E0:=hid (vp w mb ob po s qv ov ol t ht hm hw hp hol);have h16:=nE ol s t
 go_enter func130,ntmps130
 go_wp2_with fail
 refine bH E0 ?_;rintro x w1 ⟨rfl,K1⟩;have hnew:=heap_alloc_new w1 (.cells bL 91);have hS2:=ju.ofRow (setRow_heap (w1.alloc (.cells bL 91)) w1.heap.size bL (iF (Ch.leaves ol s t)) 91 (0,0) hnew);have K2:Kp (λ_=>False) w ((w1.alloc (.cells bL 91)).setRow w1.heap.size (iF (Ch.leaves ol s t))):=(K1.alloc _).setRow (λx=>by have:=K1.size;omega) _;have hm2:iq ((w1.alloc (.cells bL 91)).setRow w1.heap.size (iF (Ch.leaves ol s t))) mb ob po s qv ov:=du.keep hm K2 (λx=>x);have hp2:Pl ((w1.alloc (.cells bL 91)).setRow w1.heap.size (iF (Ch.leaves ol s t))) ob po ol:=hp.keep K2 (λ_ _ _ _ _ x=>x);have h2:sq ((w1.alloc (.cells bL 91)).setRow w1.heap.size (iF (Ch.leaves ol s t))) (.slice ao list.length cap) list:=h.keep K2 (λ_ _ _ x=>x);clear hm hp h K1 E0;have hsI:=ld h16;have wC:=j6 h16;have hs1:=nH (Ch.leaves ol s t);generalize hlv:iF (Ch.leaves ol s t)=LV at*
 go_wp2_with (refine wpList_store_row rfl 91 (.tmp 7) (.tmp 13) rfl w1.heap.size LV rfl rfl 91 bL hnew hsI wC.symm hs1 ?_)
 generalize (w1.alloc (.cells bL 91)).setRow w1.heap.size LV=w2 at*;generalize w1.heap.size=L1 at*;clear hnew hsI wC hs1 hlv;have hL1:=hS2.lt
 go_loopw [8,9] (λkv i wr=>∃(k:Nat) (fl:List Int),i= .int .i64 k/\k<=list.length/\wr.ownsRow w2.heap.size 3 1 kv fl.length (aJ fl)/\fl.length<=k/\Hid (eQ ol s t list []=eQ ol s t (list.drop k) fl)/\Kp (λ_=>False) w2 wr) (λ_ i _=>list.length-(intOf i).toNat)
 case atStart=>exact⟨0,[],rfl,Nat.zero_le _,World.ownsRow_nil _ _ _ _,Nat.le_refl _,hid rfl,Kp.refl _ _⟩
 case round=>
  obtain⟨k,fl,rfl,hk,hfo,hfl,HE,KW⟩:=hrel;have hmr:iq wr mb ob po s qv ov:=du.keep hm2 KW (λx=>x);have hpr:Pl wr ob po ol:=hp2.keep KW (λ_ _ _ _ _ x=>x);have hr:sq wr (.slice ao list.length cap) list:=h2.keep KW (λ_ _ _ x=>x);have hSr:=hS2.keep KW (λx=>x)
  by_cases hlt:k<list.length
  ·have hlt':(k:Int)<(list.length:Int):=by omega
   obtain⟨a,ha⟩:∃s,list[k]? =some s:=⟨_,List.getElem?_eq_getElem hlt⟩
   obtain⟨g,cap',hg,a0⟩:=hr.at_ ha;simp only[Value.slice.injEq,true_and]at hg;obtain⟨rfl,rfl⟩:=hg
   have ed:list.drop k=a::list.drop (k+1):=by
    rw[List.drop_eq_getElem_cons hlt];congr 1;exact(List.getElem?_eq_some_iff.1 ha).2
   obtain⟨ha1,ha2⟩:=hin a (List.mem_of_getElem? ha)
   obtain⟨j,rfl⟩:∃j:Nat,a=j:=⟨a.toNat,by omega⟩
   have hj:j<ol.bG.length:=by omega
   have E1:=hid (vp wr mb ob po s qv ov ol j hj hmr hw hpr hol);have o16:=nE ol s j
   have step:eQ ol s t (list.drop k) fl=if Ch.meets (Ch.leaves ol s t) (Ch.leaves ol s j)then(if Ch.within ol t j then eQ ol s t (list.drop (k+1)) fl else none)else eQ ol s t (list.drop (k+1)) (fl++[(j:Int)]):=by
    rw[ed];simp only[eQ,Int.toNat_natCast]
   have HX:=hid (ae hmr (ae hpr (ae hfo (ae hr (ae hSr (ae KW step))))));have HA:=hid ha;clear hmr hpr hfo hr hSr KW step ed ha
   go_wp2_with fail
   refine bH E1 ?_;rintro x w3 ⟨rfl,K3⟩;obtain⟨hmr,hpr,hfo,hr,hSr,KW,step⟩:=HX.out;have hnew:=heap_alloc_new w3 (.cells bL 91);have hO4:=ju.ofRow (setRow_heap (w3.alloc (.cells bL 91)) w3.heap.size bL (iF (Ch.leaves ol s j)) 91 (0,0) hnew);have K4:Kp (λ_=>False) wr ((w3.alloc (.cells bL 91)).setRow w3.heap.size (iF (Ch.leaves ol s j))):=(K3.alloc _).setRow (λx=>by have:=K3.size;omega) _;have hsI:=ld o16;have wC:=j6 o16;have hs1:=nH (Ch.leaves ol s j);have HX:=hid (ae hmr (ae hpr (ae hfo (ae hr (ae hSr (ae KW step))))));clear hmr hpr hfo hr hSr KW step K3 E1;generalize hlv:iF (Ch.leaves ol s j)=LV at*
   go_wp2_with (refine wpList_store_row rfl 91 (.tmp 10) (.tmp 25) rfl w3.heap.size LV rfl rfl 91 bL hnew hsI wC.symm hs1 ?_)
   generalize (w3.alloc (.cells bL 91)).setRow w3.heap.size LV=w4 at*;generalize w3.heap.size=L4 at*;clear hnew hsI wC hs1 hlv;obtain⟨hmr,hpr,hfo,hr,hSr,KW,step⟩:=HX.out;have Zu:iq w4 mb ob po s qv ov:=du.keep hmr K4 (λx=>x);have uU:Pl w4 ob po ol:=hpr.keep K4 (λ_ _ _ _ _ x=>x);have hr4:sq w4 (.slice (some ⟨g,0,none⟩) list.length cap) list:=hr.keep K4 (λ_ _ _ x=>x);have pM:=hSr.keep K4 (λx=>x);have VO:=K4.owns hfo (λ_ _ x=>x);have vT:=KW.trans K4;obtain⟨g',cap',hg',a4⟩:=hr4.at_ HA.out;simp only[Value.slice.injEq,Option.some.injEq,Addr.mk.injEq,true_and,and_true]at hg';obtain⟨rfl,rfl⟩:=hg';have E2:=hid (xU w4 L1 0 [] (Ch.leaves ol s t) [] 91 L4 0 [] (Ch.leaves ol s j) [] 91 pM h16 rfl hO4 o16 rfl);have E3:=hid (Na w4 mb ob po s qv ov ol t j ht hj Zu uU hol);have HK:=hid (ae VO (ae hr4 (ae vT step)));clear Zu uU hr4 pM VO vT hmr hpr hfo hr hSr KW step HX K4 hO4 a0
   cases q1:Ch.meets (Ch.leaves ol s t) (Ch.leaves ol s j)with
   |true=>
    rw[q1]at E2
    cases q2:Ch.within ol t j with
    |true=>
     rw[q2]at E3;have HF:=hid (HE.out.trans (show _=eQ ol s t (list.drop (k+1)) fl by rw[HK.out.2.2.2,q1,q2];rfl))
     go_wp2_with fail
     refine bH E2 ?_;rintro x w5 ⟨rfl,rfl⟩
     go_wp2_with fail
     refine bH E3 ?_;rintro x w6 ⟨rfl,K6⟩;obtain⟨VO,hr4,vT,step⟩:=HK.out;have hf6:=K6.owns VO (λ_ _ x=>x);have Zv:=vT.trans K6;clear VO hr4 vT step HK K6 E2 E3 a4;go_wp2
     go_roundw
     case rel=>exact⟨k+1,fl,by go_num,by omega,hf6,by omega,HF,Zv⟩
     case measure=>simp[intOf];omega
    |false=>?_
    rw[q2]at E3
    have HF:=hid (show jN ol s list t=list by
     have e:=HE.out.trans (show _=none by rw[HK.out.2.2.2,q1,q2];rfl)
     unfold jN;rw[e])
    go_wp2_with fail
    refine bH E2 ?_;rintro x w5 ⟨rfl,rfl⟩
    go_wp2_with fail
    refine bH E3 ?_;rintro x w6 ⟨rfl,K6⟩;obtain⟨VO,hr4,vT,step⟩:=HK.out;have s9:=hr4.keep K6 (λ_ _ _ x=>x);have Zv:=K2.trans (vT.trans K6);clear VO hr4 vT step HK K6 E2 E3 a4;go_wp2;go_ret;rw[HF.out];exact⟨_,rfl,s9,Zv⟩
   |false=>?_
   rw[q1]at E2;have HF:=hid (HE.out.trans (show _=eQ ol s t (list.drop (k+1)) (fl++[(j:Int)])by rw[HK.out.2.2.2,q1];rfl))
   go_wp2_with fail
   refine bH E2 ?_;rintro x w5 ⟨rfl,rfl⟩;obtain⟨VO,hr4,vT,step⟩:=HK.out;clear hr4 step HK E2 E3
   go_wp2_with (at_builtin;refine wpList_append_own _ rfl (.tmp 28) (.tmp 33) 38 rfl w2.heap.size 3 i0 (.int .i64 0) 1 8 underlying38 hi hz0 hz1 hz2 rfl (by decide) _ _ _ rfl (VO.alloc _) ⟨w5.heap.size,0,none⟩ 1 1 [.int .i64 j] rfl rfl ?c1 ?c2 ?c3 ?c4 ?c5 ?_)
   case c1=>exact eO _ _ _
   case c2=>intro u hu;simp at hu;subst hu;rfl
   case c3=>unfold maxLen;omega
   case c4=>omega
   case c5=>have:=vT.size;simp;omega
   intro v6 w6 o6 g6 _;have K6:Kp (λ_=>False) w2 w6:=Kp.grown (vT.alloc _) g6 (λi hi hlt=>by have:=(VO.lt i hi).1;omega);clear g6 vT VO a4;go_wp2
   go_roundw
   case rel=>exact⟨k+1,_,by go_num,by omega,by simpa[aJ]using o6,by simp;omega,HF,K6⟩
   case measure=>simp[intOf];omega
  have hge:¬(k:Int)<(list.length:Int):=by omega
  have HF:=hid (show jN ol s list t=fl++[(t:Int)]by
   have e:=HE.out.trans (show _=some (fl++[(t:Int)])by rw[List.drop_eq_nil_of_le (by omega)];rfl)
   unfold jN;rw[e])
  clear HE hr hpr hmr hSr
  go_wp2_with (at_builtin;refine wpList_append_own _ rfl (.tmp 44) (.tmp 46) 38 rfl w2.heap.size 3 i0 (.int .i64 0) 1 8 underlying38 hi hz0 hz1 hz2 rfl (by decide) _ _ _ rfl (hfo.alloc _) ⟨wr.heap.size,0,none⟩ 1 1 [.int .i64 t] rfl rfl ?c1 ?c2 ?c3 ?c4 ?c5 ?_)
  case c2=>first|rfl|(intro u hu;simp at hu;subst hu;rfl)
  case c3=>first|(unfold maxLen;omega)|omega|(simp[maxLen];omega)
  case c4=>omega
  case c5=>have:=KW.size;simp;omega
  intro v6 w6 o6 g6 _;have K6:Kp (λ_=>False) w2 w6:=Kp.grown (KW.alloc _) g6 (λi hi hlt=>by have:=(hfo.lt i hi).1;omega);have K7:=K2.trans K6;clear g6 KW hfo K6;go_wp2;go_ret;rw[HF.out];exact⟨_,rfl,⟨_,by simpa[aJ]using o6⟩,K7⟩
end
section
variable (w:World) (mb ob po:Nat) (s:Sd) (qv ov:Value) (ol:Ol)
theorem nI(trg:Int)(hm:iq w mb ob po s qv ov)(hw:s.Wf)(hp:Pl w ob po ol)(hol:ol.Ok):
 Calls prog 80 #[.pointer (some ⟨mb,0,none⟩),.int .u8 trg] w λx w'=>∃v',x= .returned v'/\sq w' v' (Ch.choose ol s trg)/\Kp (λ_=>False) w w':=by
 have h16:=hol.ag;have E0:=hid (VL w mb ob po s qv ov ol trg hm hw hp hol);obtain⟨hin,hlen⟩:=Ad ol s trg;have HU:=hid (show Ch.choose ol s trg=dP ol s (Ch.find ol s trg) []from rfl)
 go_enter func80,ntmps80
 go_wp2_with fail
 refine bH E0 ?_;rintro x w1 ⟨fv,rfl,ho1,K1⟩
 have h1:sq w1 fv (Ch.find ol s trg):=⟨_,ho1⟩
 have hm1:iq w1 mb ob po s qv ov:=du.keep hm K1 (λx=>x);have hp1:Pl w1 ob po ol:=hp.keep K1 (λ_ _ _ _ _ x=>x);clear ho1 hm hp E0;generalize Ch.find ol s trg=list at*;obtain⟨ao,cap,rfl⟩:=h1.len
 go_wp2_with fail
 go_loopw [6,7] (λkv i wr=>∃(k:Nat) (fl:List Int),i= .int .i64 k/\k<=list.length/\sq wr kv fl/\fl.length<=k/\InT ol fl/\Hid (dP ol s list []=dP ol s (list.drop k) fl)/\Kp (λ_=>False) w1 wr) (λ_ i _=>list.length-(intOf i).toNat)
 case atStart=>exact⟨0,[],rfl,Nat.zero_le _,⟨0,World.ownsRow_nil _ _ _ _⟩,Nat.le_refl _,by intro n hn;simp at hn,hid rfl,Kp.refl _ _⟩
 case round=>
  obtain⟨k,fl,rfl,hk,hfo,hfl,hfi,HE,KW⟩:=hrel;have hmr:iq wr mb ob po s qv ov:=du.keep hm1 KW (λx=>x);have hpr:Pl wr ob po ol:=hp1.keep KW (λ_ _ _ _ _ x=>x);have hr:sq wr (.slice ao list.length cap) list:=h1.keep KW (λ_ _ _ x=>x)
  by_cases hlt:k<list.length
  ·have hlt':(k:Int)<(list.length:Int):=by omega
   obtain⟨a,ha⟩:∃s,list[k]? =some s:=⟨_,List.getElem?_eq_getElem hlt⟩
   obtain⟨g,cap',hg,a0⟩:=hr.at_ ha;simp only[Value.slice.injEq,true_and]at hg;obtain⟨rfl,rfl⟩:=hg
   have ed:list.drop k=a::list.drop (k+1):=by
    rw[List.drop_eq_getElem_cons hlt];congr 1;exact(List.getElem?_eq_some_iff.1 ha).2
   obtain⟨ha1,ha2⟩:=hin a (List.mem_of_getElem? ha)
   obtain⟨j,rfl⟩:∃j:Nat,a=j:=⟨a.toNat,by omega⟩
   have hj:j<ol.bG.length:=by omega
   have E1:=hid (Sa wr mb ob po s qv ov ol _ fl j hfo hfi (by omega) hj hmr hw hpr hol);have HF:=hid (HE.out.trans (show _=dP ol s (list.drop (k+1)) (jN ol s fl j)by rw[ed];simp only[dP,Int.toNat_natCast]));have hai:=AP (s:=s) hj hfi;clear hmr hpr hr ed ha hfo HE
   go_wp2_with fail
   refine bH E1 ?_;rintro x w3 ⟨v3,rfl,h3,K3⟩;have K4:=KW.trans K3;clear E1 K3 KW a0;go_wp2
   go_roundw
   case rel=>exact⟨k+1,_,by go_num,by omega,h3,by omega,hai.1,HF,K4⟩
   case measure=>simp[intOf];omega
  have hge:¬(k:Int)<(list.length:Int):=by omega
  have HF:=hid (HE.out.trans (show _=fl by rw[List.drop_eq_nil_of_le (by omega)];rfl));have K2:=K1.trans KW;clear HE hr hpr hmr
  go_wp2_with fail
  go_ret;rw[HU.out,HF.out];exact⟨_,rfl,hfo,K2⟩
end
section
variable (w:World) (mb ob po:Nat) (s:Sd) (qv ov:Value) (ol:Ol)
theorem I9(v:Value)(list:List Int)(h:sq w v list)(hin:InT ol list)(hl:list.length<=1000)(hm:iq w mb ob po s qv ov)(hw:s.Wf)(hp:Pl w ob po ol)(hol:ol.Ok):
 Calls prog 131 #[.pointer (some ⟨mb,0,none⟩),v] w λx w'=>x= .returned (.agg (iF (bO ol s list)))/\Kp (λ_=>False) w w':=by
 obtain⟨ds,hds,eY⟩:=AH;obtain⟨ao,cap,rfl⟩:=h.len;rw[show bO ol s list=nF ol s list db from rfl];have K2:Kp (λ_=>False) w ((w.alloc (.cells bL 91)).alloc (.cells bL 91)):=((Kp.refl _ _).alloc _).alloc _
 have hr2:((w.alloc (.cells bL 91)).alloc (.cells bL 91)).heap[w.heap.size]? =some (.cells bL 91):=by
  rw[Below.heap_alloc _ _ _ (by simp)];exact heap_alloc_new _ _
 have hv2:((w.alloc (.cells bL 91)).alloc (.cells bL 91)).heap[w.heap.size+1]? =some (.cells bL 91):=heap_alloc2_new w _ _
 have hsz2:((w.alloc (.cells bL 91)).alloc (.cells bL 91)).heap.size=w.heap.size+2:=by simp
 have hmb:=hm.lt;have hm2:iq ((w.alloc (.cells bL 91)).alloc (.cells bL 91)) mb ob po s qv ov:=du.keep hm K2 (λx=>x);have hp2:Pl ((w.alloc (.cells bL 91)).alloc (.cells bL 91)) ob po ol:=hp.keep K2 (λ_ _ _ _ _ x=>x);have h2:sq ((w.alloc (.cells bL 91)).alloc (.cells bL 91)) (.slice ao list.length cap) list:=h.keep K2 (λ_ _ _ x=>x);clear hp hm h
 go_enter func131,ntmps131
 go_wp2_with fail
 generalize ((w.alloc (.cells bL 91)).alloc (.cells bL 91))=w2 at*;have hS2:ju w2 (w.heap.size+1) [] db [] 91:=ju.ofRow hv2
 have hnr:∀cur T,w2.heap[w.heap.size+1]? =some (.cells cur T (0,0))->T=91:=by
  intro cur T h;rw[hv2]at h;simp at h;exact h.2.symm
 go_loopw [6] (λi wr=>∃(k:Nat) (l:List Bool),i= .int .i64 k/\k<=list.length/\l.length=16/\Hid (nF ol s list db=nF ol s (list.drop k) l)/\ju wr (w.heap.size+1) [] l [] 91/\Kp (λk=>k=w.heap.size+1) w2 wr) (λi _=>list.length-(intOf i).toNat)
 case atStart=>exact⟨0,db,rfl,Nat.zero_le _,rfl,hid rfl,hS2,Kp.refl _ _⟩
 case round=>
  obtain⟨k,l,rfl,hk,h16,HE,h1,K1⟩:=hrel;have hmr:iq wr mb ob po s qv ov:=du.keep hm2 K1 (λx=>by omega);have hpr:Pl wr ob po ol:=hp2.keep K1 (λi cur T hi hT x=>by subst x;have:=hnr _ _ hi;subst this;revert hT;unfold YS oT;decide);have hr:sq wr (.slice ao list.length cap) list:=h2.keep K1 (λi cur hi x=>by subst x;have:=hnr _ _ hi;revert this;decide);have hrr:=K1.at_ hr2 (λx=>by omega);have KX:Kp (λ_=>False) w wr:=K2.trans' K1 (λi hi x=>by omega)
  by_cases hlt:k<list.length
  ·have hlt':(k:Int)<(list.length:Int):=by omega
   obtain⟨a,ha⟩:∃s,list[k]? =some s:=⟨_,List.getElem?_eq_getElem hlt⟩
   obtain⟨g,cap',hg,a0⟩:=hr.at_ ha;simp only[Value.slice.injEq,true_and]at hg;obtain⟨rfl,rfl⟩:=hg
   have ed:list.drop k=a::list.drop (k+1):=by
    rw[List.drop_eq_getElem_cons hlt];congr 1;exact(List.getElem?_eq_some_iff.1 ha).2
   obtain⟨ha1,ha2⟩:=hin a (List.mem_of_getElem? ha)
   obtain⟨j,rfl⟩:∃j:Nat,a=j:=⟨a.toNat,by omega⟩
   have hj:j<ol.bG.length:=by omega
   have E1:=hid (vp wr mb ob po s qv ov ol j hj hmr hw hpr hol);have o16:=nE ol s j;have HF:=hid (HE.out.trans (show _=nF ol s (list.drop (k+1)) (Ch.join l (Ch.leaves ol s j))by rw[ed];simp only[nF,Int.toNat_natCast]));have HX:=hid (ae h1 K1);clear hmr hpr hr ed ha HE h1 K1 KX hrr
   go_wp2_with fail
   refine bH E1 ?_;rintro x w3 ⟨rfl,K3⟩;obtain⟨h1,K1⟩:=HX.out
   have hs3:w.heap.size+2<=w3.heap.size:=by have:=K3.size;have:=K1.size;omega
   have hnew:=heap_alloc_new w3 (.cells bL 91);have hO4:=ju.ofRow (setRow_heap (w3.alloc (.cells bL 91)) w3.heap.size bL (iF (Ch.leaves ol s j)) 91 (0,0) hnew);have K4:Kp (λ_=>False) wr ((w3.alloc (.cells bL 91)).setRow w3.heap.size (iF (Ch.leaves ol s j))):=(K3.alloc _).setRow (λx=>by have:=K3.size;omega) _;have hsI:=ld o16;have wC:=j6 o16;have hs1:=nH (Ch.leaves ol s j);clear K3 E1 h1 K1;generalize hlv:iF (Ch.leaves ol s j)=LV at*
   go_wp2_with (refine wpList_store_row rfl 91 (.tmp 7) (.tmp 19) rfl w3.heap.size LV rfl rfl 91 bL hnew hsI wC.symm hs1 ?_)
   generalize (w3.alloc (.cells bL 91)).setRow w3.heap.size LV=w4 at*;generalize w3.heap.size=L4 at*;clear hnew hsI wC hs1 hlv;obtain⟨h1,K1⟩:=HX.out;have h4:=h1.keep K4 (λx=>x);have vT:Kp (λk=>k=w.heap.size+1) w2 w4:=K1.trans' K4 (λi hi x=>x.elim);have E2:=hid (Vt w4 (w.heap.size+1) 0 [] l [] 91 L4 0 [] (Ch.leaves ol s j) [] 91 h4 h16 rfl hO4 o16 rfl (by omega));clear h1 K1 K4 h4 HX hO4 a0
   go_wp2_with fail
   refine bH E2 ?_;rintro x w5 ⟨rfl,h5,K5⟩;have K6:=vT.trans K5;clear E2 K5 vT;go_wp2
   go_roundw
   case rel=>exact⟨k+1,_,by go_num,by omega,wh _ _,HF,h5,K6⟩
   case measure=>simp[intOf];omega
  have hge:¬(k:Int)<(list.length:Int):=by omega
  have HF:=hid (HE.out.trans (show _=l by rw[List.drop_eq_nil_of_le (by omega)];rfl));have hrow:=h1.row;have hszI:=ld h16;have hsz:=j6 h16;have hone:=nH l;have KZ:Kp (λ_=>False) w (wr.setRow w.heap.size (iF l)):=KX.setRow (λx=>by omega) _;clear HE h1 K1 KX hmr hpr hr;generalize hL:iF l=L at*;have HL:=hid hL;clear hL
  go_wp2_with (first|refine wpList_load_row rfl 91 (.tmp 5) rfl (w.heap.size+1) rfl 91 L (0,0) ds hrow hds (by cases ds<;>first|rfl|exact absurd eY (by simp[ak])) hszI ?_|refine wpList_store_row rfl 91 (.tmp 4) (.tmp 21) rfl w.heap.size L rfl rfl 91 bL hrr hszI hsz.symm hone ?_)
  refine bodyPost_ret (results_cell_row rfl _ _ w.heap.size 91 L (0,0) ds rfl (setRow_heap _ _ _ _ _ _ hrr) hds (by cases ds<;>first|rfl|exact absurd eY (by simp[ak])) hszI) rfl ?_;rw[HF.out,HL.out];exact⟨rfl,KZ⟩
end
theorem sq.km{w w':World}{B mb ob po:Nat}{m:Ma}(h:Mm w B mb ob po m)(k:Kp (km B mb w) w w'){v:Value}{l:List Int}(r:sq w v l):sq w' v l:=by
 obtain⟨base,ho⟩:=r;exact⟨base,h.row k ho (by decide) (by decide)⟩
section
variable (w:World) (B mb ob po:Nat) (ol:Ol)
theorem D_(m:Ma)(v:Value)(list:List Int)(h:sq w v list)(hin:InT ol list)(hl:list.length<=1000)(hp:Pl w ob po ol)(hol:ol.Ok)(hm:Mm w B mb ob po m)(hs:m.s.Ok)(hB:B<=w.heap.size)(hz:m.Sz 800000000):
 Calls prog 71 #[.pointer (some ⟨mb,0,none⟩),v] w λx w'=>x= .returned (.tuple #[])/\Mm w' B mb ob po (Ch.enter ol m list)/\Kp (km B mb w) w w':=by
 obtain⟨ds,hds,eY⟩:=AH;have uT:=hol.ag;have h16:m.s.act.length=16:=hs.1.1;have hnew:=heap_alloc_new w (.cells bL 91);have hS2:=ju.ofRow (setRow_heap (w.alloc (.cells bL 91)) w.heap.size bL (iF m.s.act) 91 (0,0) hnew);have K2:Kp (λ_=>False) w ((w.alloc (.cells bL 91)).setRow w.heap.size (iF m.s.act)):=((Kp.refl _ _).alloc _).setRow (λx=>by omega) _;have hM2:=hm.still K2;have hp2:Pl ((w.alloc (.cells bL 91)).setRow w.heap.size (iF m.s.act)) ob po ol:=hp.keep K2 (λ_ _ _ _ _ x=>x);have h2:=h.keep K2 (λ_ _ _ x=>x);obtain⟨qv,ov,hmb,_⟩:=id hm
 have hcs:∀j u,(m.s.act.map Value.bool)[j]? =some u->w.cell? ⟨mb,1+j,none⟩=some u:=by
  intro j u hj
  have aiS:j<16:=by have:=(List.getElem?_eq_some_iff.1 hj).1;simp at this;omega
  have:=ju.cell (pre:=[.pointer (some ⟨ob,po,none⟩)]) hmb h16 aiS;rw[List.getElem?_map]at hj
  cases e:m.s.act[j]? with
  |none=>rw[e]at hj;simp at hj
  |some b=>rw[e]at hj;simp at hj;subst hj;simpa[Ch.bit,e]using this
 have hsI:=ld h16;have wC:=j6 h16;have hs1:=nH m.s.act
 have Ml:(prog.info? 91).map (·.size)=some (m.s.act.map Value.bool).length:=by rw[hsI];simp[iF]
 have HU:=hid (show Ch.enter ol m list=c_ ol m.s.act (bU ol m.s list) ol.ag.length 0 m from rfl);have hgl:=Nc ol m.s list;clear hm hp h hmb
 go_enter func71,ntmps71
 go_wp2_with (first|refine aY rfl 91 (.tmp 10) rfl mb 1 rfl (m.s.act.map Value.bool) ds hcs hds eY Ml ?_|refine wpList_store_row rfl 91 (.tmp 4) (.tmp 11) rfl w.heap.size (iF m.s.act) rfl rfl 91 bL hnew hsI wC.symm hs1 ?_)
 generalize (w.alloc (.cells bL 91)).setRow w.heap.size (iF m.s.act)=w2 at*;have hsb:=hS2.lt;clear hcs Ml hsI wC hs1 hnew;obtain⟨qv,ov,hmb,_⟩:=id hM2;have E0:=hid (RW w2 mb ob po m.s qv ov ol v list h2 hin hl hmb hs.1 hp2 hol);clear hmb
 go_wp2_with fail
 refine bH E0 ?_;rintro x w3 ⟨gv,rfl,og,K3⟩
 have hG3:sq w3 gv (bU ol m.s list):=⟨_,og⟩
 have hM3:=hM2.still K3;have hp3:Pl w3 ob po ol:=hp2.keep K3 (λ_ _ _ _ _ x=>x);have yS:=hS2.keep K3 (λx=>x);have KW:=K2.trans K3
 have hB3:B<=w3.heap.size:=by have:=KW.size;omega
 clear og hM2 hp2 hS2 K2 K3 E0 h2 hsb;generalize bU ol m.s list=goals at*;generalize w.heap.size=sb at*;generalize hst:m.s.act=bB at*;clear hst
 go_wp2_with fail
 go_loopw [6] (λi wr=>∃(k:Nat) (m':Ma),i= .int .i64 k/\k<=ol.ag.length/\Hid (c_ ol bB goals ol.ag.length 0 m=c_ ol bB goals (ol.ag.length-k) k m')/\Mm wr B mb ob po m'/\m'.s.Ok/\m'.Sz (800000000+115202*k)/\Kp (km B mb w3) w3 wr) (λi _=>ol.ag.length-(intOf i).toNat)
 case atStart=>exact⟨0,m,rfl,Nat.zero_le _,hid rfl,hM3,hs,hz,Kp.refl _ _⟩
 case round=>
  obtain⟨k,m',rfl,hk,HE,hm',hs',hz',K1⟩:=hrel;have hpr:Pl wr ob po ol:=hM3.pl K1 hp3;have Mn:=sq.km hM3 K1 hG3;have hSr:ju wr sb [] bB [] 91:=hM3.at_ K1 yS (by decide) (by decide)
  have hBr:B<=wr.heap.size:=by have:=K1.size;omega
  have cp:=hm'.plan;obtain⟨ao,cap,c2⟩:=hpr.str.len
  by_cases hlt:k<ol.ag.length
  ·have hlt':(k:Int)<(ol.ag.length:Int):=by omega
   have ef:ol.ag.length-k=(ol.ag.length-(k+1))+1:=by omega
   obtain⟨qv',ov',hmb,_⟩:=id hm';have E1:=hid (RV wr mb ob po m'.s qv' ov' ol k sb bB gv goals hSr h16 Mn (by omega) hmb hs'.1 hpr hol);have HX:=hid (ae hm' (ae hpr K1))
   cases q1:gU ol.ag m'.s.act bB goals (k:Int)with
   |false=>
    rw[q1]at E1;have HF:=hid (HE.out.trans (show _=c_ ol bB goals (ol.ag.length-(k+1)) (k+1) m' by rw[ef];simp only[c_];rw[q1];rfl));clear HE ef hm' hpr K1 hmb Mn hSr
    go_wp2_with fail
    refine bH E1 ?_;rintro x w4 ⟨rfl,K4⟩;obtain⟨hm',hpr,K1⟩:=HX.out;have M4:=hm'.still K4;have K5:=Km.trans K1 (Kp.km K4);clear hm' hpr K1 K4 HX E1 cp c2;go_wp2
    go_roundw
    case rel=>exact⟨k+1,m',by go_num,by omega,HF,M4,hs',hz'.le (by omega),K5⟩
    case measure=>simp[intOf];omega
   |true=>?_
   rw[q1]at E1;have HF:=hid (HE.out.trans (show _=c_ ol bB goals (ol.ag.length-(k+1)) (k+1) (bY ol m' k)by rw[ef];simp only[c_];rw[q1];rfl));have hok2:=vm (ol:=ol) hs' k;have hz2:=vn hol hz' k;clear HE ef hm' hpr K1 hmb Mn hSr
   go_wp2_with fail
   refine bH E1 ?_;rintro x w4 ⟨rfl,K4⟩;obtain⟨hm',hpr,K1⟩:=HX.out;have M4:=hm'.still K4;have uU:Pl w4 ob po ol:=hpr.keep K4 (λ_ _ _ _ _ x=>x);have K5:=Km.trans K1 (Kp.km K4);have E2:=hid (AO w4 B mb ob po ol m' k uU hol M4 hs' (by have:=K4.size;omega) (hz'.le (by omega)) hlt);clear hm' hpr K1 K4 HX E1 cp c2 M4 uU
   go_wp2_with fail
   refine bH E2 ?_;rintro x w5 ⟨rfl,M5,K6⟩;have K7:=Km.trans K5 K6;clear E2 K5 K6;go_wp2
   go_roundw
   case rel=>exact⟨k+1,_,by go_num,by omega,HF,M5,hok2,hz2.le (by omega),K7⟩
   case measure=>simp[intOf];omega
  have hge:¬(k:Int)<(ol.ag.length:Int):=by omega
  have HF:=hid (HE.out.trans (show _=m' by rw[show ol.ag.length-k=0 by omega];rfl));have K2:=Km.trans (Kp.km KW) K1;clear HE hpr Mn hSr
  go_wp2_with fail
  go_end0
  rw[HU.out,HF.out];exact⟨rfl,hm',K2⟩
end
theorem Km.acC{B mb:Nat}{w w':World}(k:Kp (km B mb w.drew) w.drew w'):Kp (km B mb w) w w':=⟨k.os,k.tape,k.output,k.size,k.block⟩
theorem yc{w w':World}{b o:Nat}{c:Array Value}{T:TypeId}{f:Nat×Nat}(h:w.heap[b]? =some (.cells c T f))(h':w'.heap[b]? =some (.cells c T f)){v:Value}(hc:w.cell? ⟨b,o,none⟩=some v):w'.cell? ⟨b,o,none⟩=some v:=by
 unfold World.cell? at*;simp only at*;rw[h'];rw[h]at hc;exact hc
theorem Pl.trB{w:World}{ob po:Nat}{ol:Ol}(h:Pl w ob po ol){k:Nat}{t:Tr}(ht:ol.bG[k]? =some t):
 ∃g cap ac B,w.cell? ⟨ob,po+3,none⟩=some (.slice (some ⟨g,0,none⟩) ol.bG.length cap)/\w.cell? ⟨g,k*7+5,none⟩=some ac/\w.ownsRow B 255 3 ac t.acts.length (fD t.acts)/\
  (∃c T,w.heap[ob]? =some (.cells c T (0,0))/\T≠149/\T≠5)/\∃c,w.heap[g]? =some (.cells c 209 (0,0)):=by
 obtain⟨sv,tv,bv,lt,lb,B,c,T,⟨hb,hT,c2,c3,c4⟩,F⟩:=h;rw[<-F.Iw,List.getElem?_map]at ht
 cases hx:lt[k]? with
 |none=>rw[hx]at ht;simp at ht
 |some x=>?_
 rw[hx]at ht;simp at ht;subst ht;have hk:=(List.getElem?_eq_some_iff.1 hx).1;obtain⟨g,cap,rfl⟩:=gD F.bG (by omega);refine⟨g,cap,x.2,B,by rw[<-F.Iw,List.length_map];simp[World.cell?,hb,c3],?_,F.iX x (List.mem_of_getElem? hx),⟨c,T,hb,?_,?_⟩,br F.bG rfl⟩
 ·rw[F.bG.cellAt (k*7+5) (by omega)]
  exact Ab _ 7 (by intro _;rfl) lt k 5 x hx (by omega)
 ·intro e;subst e;revert hT;unfold oT;decide
 intro e;subst e;revert hT;unfold oT;decide
theorem sq.blk{w:World}{g n cap:Nat}{l:List Int}(h:sq w (.slice (some ⟨g,0,none⟩) n cap) l):∃c,w.heap[g]? =some (.cells c 3 (0,0)):=by
 obtain⟨base,ho⟩:=h;exact br ho rfl
section
variable (w:World) (B mb ob po:Nat) (ol:Ol)
theorem pU(m:Ma)(v:Value)(list:List Int)(h:sq w v list)(hin:InT ol list)(hl:list.length<=16)(hp:Pl w ob po ol)(hol:ol.Ok)(hm:Mm w B mb ob po m)(hs:m.s.Ok)(hB:B<=w.heap.size)(hz:m.Sz 700000000):
 Calls prog 81 #[.pointer (some ⟨mb,0,none⟩),v] w λx w'=>x= .returned (.tuple #[])/\Mm w' B mb ob po (cd ol m list)/\Kp (km B mb w) w w':=by
 have uT:=hol.ag;have l16:=yR ol m.s list;have HU:=hid (show cd ol m list=Ch.enter ol (dQ ol list (bP ol (bO ol m.s list) ol.ag.length {m with s:=Ch.rem ol.ag m.s (bO ol m.s list)})) list from rfl);obtain⟨qv,ov,hmb,_⟩:=id hm;have E0:=hid (I9 w mb ob po m.s qv ov ol v list h hin (by omega) hmb hs.1 hp hol);clear hmb
 go_enter func81,ntmps81
 go_wp2_with fail
 refine bH E0 ?_;rintro x w1 ⟨rfl,K1⟩;generalize bO ol m.s list=left at*;have hnew:=heap_alloc_new w1 (.cells bL 91);have hS2:=ju.ofRow (setRow_heap (w1.alloc (.cells bL 91)) w1.heap.size bL (iF left) 91 (0,0) hnew);have K2:Kp (λ_=>False) w ((w1.alloc (.cells bL 91)).setRow w1.heap.size (iF left)):=(K1.alloc _).setRow (λx=>by have:=K1.size;omega) _;have hM2:=hm.still K2;have hp2:Pl ((w1.alloc (.cells bL 91)).setRow w1.heap.size (iF left)) ob po ol:=hp.keep K2 (λ_ _ _ _ _ x=>x);have h2:=h.keep K2 (λ_ _ _ x=>x)
 have hlm:mb<w1.heap.size:=by have:=hm.lt;have:=K1.size;omega
 have hsI:=ld l16;have wC:=j6 l16;have hs1:=nH left;clear K1 E0 hm hp h;generalize hlv:iF left=LV at*;clear hlv
 go_wp2_with (refine wpList_store_row rfl 91 (.tmp 4) (.tmp 8) rfl w1.heap.size LV rfl rfl 91 bL hnew hsI wC.symm hs1 ?_)
 clear hnew hsI wC hs1;generalize (w1.alloc (.cells bL 91)).setRow w1.heap.size LV=w2 at*;generalize w1.heap.size=lb at*
 go_upto_region 1 with(fail)
 dsimp only[Act.put];obtain⟨qv,ov,hmb,oq,oo,ap⟩:=id hM2;have cp:=hmb.plan
 have aiT:ob≠mb:=by
  obtain⟨sv,tv,bv,lt,lb',B',c,T,⟨hb,hT,_⟩,_⟩:=hp2;intro e;have aiU:w2.heap[mb]? =some (.cells _ 149 (0,0)):=hmb;rw[e,aiU]at hb;simp at hb;obtain⟨_,rfl⟩:=hb
  revert hT;unfold oT;decide
 have E1:=hid (Gn ob po w2.drew ol.ag mb 1 [.pointer (some ⟨ob,po,none⟩)] m.s [qv,ov] 149 lb 0 [] left [] 91 (by exact hp2.str) (by omega) (by exact hmb) hs.1 rfl (by exact hS2) l16 rfl (by omega) aiT (by decide));have HX:=hid (ae hmb (ae oq (ae oo ap)));have HY:=hid (ae hM2 (ae hp2 (ae hS2 (ae h2 K2))));clear hmb oq oo ap hM2 hp2 hS2 h2 K2
 go_cut [4]from 9 to 16 (λb wx=>b= .pointer (some ⟨lb,0,none⟩)/\Mm wx B mb ob po {m with s:=Ch.rem ol.ag m.s left}/\Kp (km B mb w2) w2 wx)
 case first=>
  go_region_with (go_at_call 132;refine bH E1 ?_;rintro x w3 ⟨rfl,h3,K3⟩;have H:=hid (ae h3 K3);clear E1 h3 K3)
  all_goals (go_wp2_with fail;go_meet;obtain⟨hmb,oq,oo,ap⟩:=HX.out;obtain⟨h3,K3⟩:=H.out;exact⟨rfl,Mm.put (w:=w2) hmb oq oo ap (((Kp.refl (λk=>k=mb) w2).drewN 1).trans K3) (by exact h3)⟩)
 case rest=>
 obtain⟨rfl,M3,K3⟩:=hcut;obtain⟨hM2,hp2,hS2,h2,K2⟩:=HY.out;have hp3:=hM2.pl K3 hp2;have yS:ju wc lb [] left [] 91:=hM2.at_ K3 hS2 (by decide) (by decide);have h3:=sq.km hM2 K3 h2;have KC:=Km.trans (Kp.km (B:=B) (mb:=mb) K2) K3;have hs3:({m with s:=Ch.rem ol.ag m.s left}:Ma).s.Ok:=Gv _ hs;have hz3:({m with s:=Ch.rem ol.ag m.s left}:Ma).Sz 700000000:=hz;clear HX HY E1 hM2 hp2 hS2 h2 K2 K3 cp;generalize ({m with s:=Ch.rem ol.ag m.s left}:Ma)=m1 at*
 have hB3:B<=wc.heap.size:=by have:=KC.size;omega
 have E2:=hid (RM wc B mb ob po ol m1 lb left yS l16 hp3 hol M3 hs3 hB3 (hz3.le (by omega)));have HY:=hid (ae M3 (ae hp3 (ae h3 KC)));have hs4:=x_ ol left ol.ag.length hs3;have Zw:=ya hol left ol.ag.length hz3;clear M3 hp3 h3 KC yS
 go_wp2_with fail
 refine bH E2 ?_;rintro x w4 ⟨rfl,M4,K4⟩;obtain⟨M3,hp3,h3,KC⟩:=HY.out;have uU:=M3.pl K4 hp3;have h4:=sq.km M3 K4 h3;have KD:=Km.trans KC K4
 have hB4:B<=w4.heap.size:=by have:=K4.size;omega
 clear M3 hp3 h3 KC K4 HY E2;generalize bP ol left ol.ag.length m1=m2 at*;have aiV:m2.Sz 710000000:=Zw.le (by omega);clear Zw hz3 hs3;obtain⟨ao,cap,rfl⟩:=h4.len
 go_wp2_with fail
 go_loopw [5] (λi wr=>∃(k:Nat) (m':Ma),i= .int .i64 k/\k<=list.length/\Hid (dQ ol list m2=dQ ol (list.drop k) m')/\Mm wr B mb ob po m'/\m'.s.Ok/\m'.Sz (710000000+480*k)/\Kp (km B mb w4) w4 wr) (λi _=>list.length-(intOf i).toNat)
 case atStart=>exact⟨0,m2,rfl,Nat.zero_le _,hid rfl,M4,hs4,aiV,Kp.refl _ _⟩
 case round=>
  obtain⟨k,m',rfl,hk,HE,hm',hs',hz',K1⟩:=hrel;have hpr:Pl wr ob po ol:=M4.pl K1 uU;have hr:=sq.km M4 K1 h4
  have hBr:B<=wr.heap.size:=by have:=K1.size;omega
  by_cases hlt:k<list.length
  ·have hlt':(k:Int)<(list.length:Int):=by omega
   obtain⟨a,ha⟩:∃s,list[k]? =some s:=⟨_,List.getElem?_eq_getElem hlt⟩
   obtain⟨g,cap',hg,a0⟩:=hr.at_ ha;simp only[Value.slice.injEq,true_and]at hg;obtain⟨rfl,rfl⟩:=hg
   have ed:list.drop k=a::list.drop (k+1):=by
    rw[List.drop_eq_getElem_cons hlt];congr 1;exact(List.getElem?_eq_some_iff.1 ha).2
   obtain⟨ha1,ha2⟩:=hin a (List.mem_of_getElem? ha)
   obtain⟨j,rfl⟩:∃j:Nat,a=j:=⟨a.toNat,by omega⟩
   have hj:j<ol.bG.length:=by omega
   have hj':(j:Int)<(ol.bG.length:Int):=by omega
   obtain⟨t,ht⟩:∃s,ol.bG[j]? =some s:=⟨_,List.getElem?_eq_getElem hj⟩
   obtain⟨tg,acy,ac,base,c3,b5,hac,⟨cob,Tob,AJ,hT1,hT2⟩,ctg,htg⟩:=hpr.trB ht;obtain⟨cg,hgb⟩:=hr.blk;have cp:=hm'.plan;have htr:=hol.iX t (List.mem_of_getElem? ht);have HF:=hid (HE.out.trans (show _=dQ ol (list.drop (k+1)) (cJ t.acts m')by rw[ed];simp only[dQ,Int.toNat_natCast,kD,ht]));have E1:=hid (VG wr.drew B mb ob po m' t.acts ac base (by exact hac) (by exact hm') hs' htr.2 hBr (by have:=htr.1;omega) (by have:=hz'.1;omega) (by have:=hz'.2;omega));have hok:=pQ t.acts hs';have hz2:=uw hz' htr.1;have HK:=hid (ae K1 (ae hm' (ae AJ (ae htg hgb))));clear HE hpr hr hac ht ha ed hm' K1 AJ htg hgb
   go_upto_region 6 with(fail)
   go_region_held3 (λw'=>w'.cell? ⟨mb,0,none⟩=some (.pointer (some ⟨ob,po,none⟩))/\w'.cell? ⟨ob,po+3,none⟩=some (.slice (some ⟨tg,0,none⟩) ol.bG.length acy)/\w'.cell? ⟨g,k,none⟩=some (.int .i64 j)/\w'.cell? ⟨tg,j*7+5,none⟩=some ac) (first|exact⟨cp,c3,a0,b5⟩|exact HS.out) ((go_at_call 134;refine bH E1 ?_;rintro x w5 ⟨rfl,h5,K5⟩;have H:=hid (ae h5 K5);obtain⟨K1,hm',AJ,htg,hgb⟩:=HK.out;have HS:=hid (ae h5.plan (ae (yc AJ (Mm.at_ (w:=wr.drew) (by exact hm') K5 (by exact AJ) hT1 hT2) c3) (ae (yc hgb (Mm.at_ (w:=wr.drew) (by exact hm') K5 (by exact hgb) (by decide) (by decide)) a0) (yc htg (Mm.at_ (w:=wr.drew) (by exact hm') K5 (by exact htg) (by decide) (by decide)) b5))));clear E1 h5 K5 K1 hm' AJ htg hgb))
   all_goals (
    obtain⟨M5,K6⟩:=H.out;have K5:=Km.trans HK.out.1 (Km.acC K6);clear H HS HK K6 c3 b5 cp a0;go_wp2
    go_roundw
    case rel=>exact⟨k+1,_,by go_num,by omega,HF,M5,hok,hz2.le (by omega),K5⟩
    case measure=>simp[intOf];omega)
  have hge:¬(k:Int)<(list.length:Int):=by omega
  have HF:=hid (HE.out.trans (show _=m' by rw[List.drop_eq_nil_of_le (by omega)];rfl));have K2:=Km.trans KD K1;have E2:=hid (D_ wr B mb ob po ol m' _ list hr hin (by omega) hpr hol hm' hs' hBr (hz'.le (by omega)));clear HE hpr hr K1 hm'
  go_wp2_with fail
  refine bH E2 ?_;rintro x w5 ⟨rfl,M5,K5⟩;have K6:=Km.trans K2 K5;clear E2 K2 K5;go_wp2
  go_end0
  rw[HU.out,HF.out];exact⟨rfl,M5,K6⟩
end
end Go.Proofs.YtnlbchmfcebeeaaGreat
