import Derived.Test.YtnlbchmfcebeeaaGreatTB4
import Derived.Deep.RegionWith
set_option maxHeartbeats 12800000
set_option maxRecDepth 100000
namespace Go.Proofs.YtnlbchmfcebeeaaGreat
open Go.Proofs.Tryz Ch
open Go.RowKit
def cD(w:World)(base:Nat)(v:Value)(xs:List Value):Prop:=
 (v= .slice none 0 0/\xs=[])\/
 ∃g off cap cur,v= .slice (some ⟨g,off,none⟩) xs.length cap/\base<=g/\w.heap[g]? =some (.cells cur 5 (0,0))/\xs.length<=cap/\off+cap<=cur.size/\∀j u,xs[j]? =some u->cur[off+j]? =some u
theorem Dg(g:Nat)(T:TypeId)(f:Nat×Nat):∀(vs:List Value) (o:Nat) (w:World) (cur:Array Value),w.heap[g]? =some (.cells cur T f)->o+vs.length<=cur.size->
 ∃cur',(w.setCells g o vs).heap[g]? =some (.cells cur' T f)/\cur'.size=cur.size/\(∀j,j<o->cur'[j]? =cur[j]?)/\∀j u,vs[j]? =some u->cur'[o+j]? =some u:=by
 intro vs
 induction vs with
 |nil=>intro o w cur h _;exact⟨cur,h,rfl,λ_ _=>rfl,by simp⟩
 |cons v vs ih=>?_
 intro o w cur h hs;simp only[List.length_cons]at hs;obtain⟨cur',h1,h2,h3,h4⟩:=ih (o+1) (w.setCell ⟨g,o,none⟩ v) (cur.setIfInBounds o v) (ah v h) (by simp;omega);refine⟨cur',h1,by simpa using h2,λj hj=>?_,λj u hu=>?_⟩
 ·rw[h3 j (by omega)];simp[show o≠j by omega]
 cases j with
 |zero=>
  simp at hu;subst hu;rw[Nat.add_zero,h3 o (by omega)];simp[Array.getElem?_setIfInBounds];omega
 |succ j=>?_
 have:=h4 j u (by simpa using hu)
 rwa[show o+(j+1)=o+1+j by omega]
theorem AM(g:Nat):∀(vs:List Value) (o:Nat) (w:World),w.grownBy (w.setCells g o vs) (some g):=by
 intro vs
 induction vs with
 |nil=>intro o w;exact⟨rfl,rfl,rfl,Nat.le_refl _,λ_ _ _=>rfl⟩
 |cons v vs ih=>?_
 intro o w;have h:=ih (o+1) (w.setCell ⟨g,o,none⟩ v);refine⟨h.os,h.tape,h.output,by have:=h.size;rw[World.size_setCell]at this;exact this,λk hk hn=>?_⟩;rw[World.setCells,h.block k (by simpa using hk) hn];exact Below.heap_setCell _ _ _ _ (λe=>hn (by simp[e]))
theorem cD.lt{w:World}{base:Nat}{v:Value}{xs:List Value}(h:cD w base v xs):∀k,v.ownBlock=some k->base<=k/\k<w.heap.size:=by
 intro k hk
 rcases h with⟨rfl,_⟩|⟨g,off,cap,cur,rfl,hb,hg,_⟩
 ·simp[Value.ownBlock]at hk
 simp[Value.ownBlock]at hk;subst hk;exact⟨hb,lt_of_block hg⟩
theorem cD.block{w:World}{base:Nat}{v:Value}{xs:List Value}(h:cD w base v xs){k:Nat}(hk:v.ownBlock=some k):∃cur,w.heap[k]? =some (.cells cur 5 (0,0)):=by
 rcases h with⟨rfl,_⟩|⟨g,off,cap,cur,rfl,hb,hg,_⟩
 ·simp[Value.ownBlock]at hk
 simp[Value.ownBlock]at hk;subst hk;exact⟨cur,hg⟩
theorem cD.ne{w:World}{base:Nat}{v:Value}{xs:List Value}(h:cD w base v xs){b:Nat}{c:Array Value}{T:TypeId}{f:Nat×Nat}(hb:w.heap[b]? =some (.cells c T f))(hT:T≠5):v.ownBlock≠some b:=by
 intro hk;obtain⟨cur,hg⟩:=h.block hk;rw[hg]at hb;simp at hb;exact hT hb.2.1.symm
theorem cD.keep{S:Nat->Prop}{w w':World}{base:Nat}{v:Value}{xs:List Value}(h:cD w base v xs)(k:Kp S w w')(hs:∀i,v.ownBlock=some i->¬S i):cD w' base v xs:=by
 rcases h with h|⟨g,off,cap,cur,rfl,hb,hg,r⟩
 ·exact .inl h
 exact .inr ⟨g,off,cap,cur,rfl,hb,k.at_ hg (hs g rfl),r⟩
theorem cD.alloc{w:World}{base:Nat}{v:Value}{xs:List Value}(h:cD w base v xs)(o:Obj):cD (w.alloc o) base v xs:=
 h.keep (S:=λ_=>False) ((Kp.refl _ _).alloc _) (λ_ _ x=>x)
theorem cD.ofRow{w:World}{base base':Nat}{v:Value}{n:Nat}{xs:List Value}(h:w.ownsRow base' 5 1 v n xs)(hb:base<=base'):cD w base v xs:=by
 rcases h.2 with⟨rfl,rfl⟩|⟨g,cap,cur,rfl,hg,hh,hc,_,hcs,ht⟩
 ·exact .inl ⟨rfl,List.eq_nil_of_length_eq_zero (by simpa using h.1)⟩
 have hl:xs.length=n:=by simpa using h.1
 refine .inr ⟨g,0,cap,cur,by rw[hl],by omega,hh,by omega,by omega,λj u hu=>?_⟩;rw[Nat.zero_add];rw[<-ht,List.getElem?_take]at hu
 split at hu
 ·simpa using hu
 cases hu
theorem cD.len{w:World}{base:Nat}{v:Value}{xs:List Value}(h:cD w base v xs):∃ao cap,v= .slice ao xs.length cap:=by
 rcases h with⟨rfl,rfl⟩|⟨g,off,cap,cur,rfl,_⟩
 ·exact⟨_,_,rfl⟩
 exact⟨_,_,rfl⟩
theorem wm(w:World)(ty:TypeId){base:Nat}{v:Value}{xs:List Value}(h:cD w base v xs)(ad:Addr)(m c:Nat)(news:List Value)(hl:news.length=m)(hm:0<m)
 (hnews:∀j u,news[j]? =some u->w.cell? (ad.add j)=some u) (h1:∀u∈news,u.oneCell'=true) (hb:xs.length+m<=140737488355328) (hbase:base<=w.heap.size):
 ∃g off cap w',(Builtin.append_ #[47,47] ty #[v,.slice (some ad) m c]).run prog w= .ok (.slice (some ⟨g,off,none⟩) (xs.length+m) cap) w'/\
  cD w' base (.slice (some ⟨g,off,none⟩) (xs.length+m) cap) (xs++news)/\w.grownBy w' v.ownBlock/\(v.ownBlock=some g\/w.heap.size<=g):=by
 obtain⟨i0,hi,hz0,hz1,hz2⟩:=info_parts infoByte
 have h63:xs.length+m<=maxLen:=by unfold maxLen;omega
 rcases h with⟨rfl,rfl⟩|⟨g,off,cap,cur,rfl,hbg,hg,hnc,hsz,hx⟩
 ·obtain⟨v',w',hr,ho,hgr,_⟩:=run_append_own (P:=prog) w w.heap.size 47 ty 5 i0 (.int .u8 0) 1 1 underlying47 hi hz0 hz1 hz2 rfl (by decide) (.slice none 0 0) 0 [] (World.ownsRow_nil _ _ _ _) ad m c news (by simpa using hl) hnews h1 (by simpa using h63) (by simpa using hb) (Nat.le_refl _)
  obtain⟨g,cap,rfl⟩:=gD ho (by omega);refine⟨g,0,cap,w',by simpa using hr,?_,by simpa[Value.ownBlock]using hgr,.inr (ho.lt g rfl).1⟩;have:=cD.ofRow (base:=base) ho hbase;simpa using this
 by_cases hroom:xs.length+m<=cap
 ·have hr:=run_append_room_cells (P:=prog) w 47 ty 5 i0 underlying47 hi g off xs.length cap ad m c news (by rw[hz1];omega) hnews h1 hroom
   (λj hj=>by rw[hz1,cell_of_row w g _ cur _ _ hg];simp;omega) (λj hj=>by simp[World.frozen?,hg])
  rw[hz1,Nat.mul_one]at hr;obtain⟨cur',c1,c2,c3,c4⟩:=Dg g 5 (0,0) news (off+xs.length) w cur hg (by omega);refine⟨g,off,cap,_,hr,.inr ⟨g,off,cap,cur',by simp[hl],hbg,c1,by simp[hl];omega,by omega,λj u hu=>?_⟩,AM g _ _ _,.inl rfl⟩
  by_cases hj:j<xs.length
  ·rw[List.getElem?_append_left hj]at hu
   rw[c3 _ (by omega)];exact hx j u hu
  rw[List.getElem?_append_right (by omega)]at hu;have:=c4 _ u hu
  rwa[show off+xs.length+(j-xs.length)=off+j by omega]at this
 obtain⟨v',w',hr,ho,hgr⟩:=run_append_arg_grows (P:=prog) w 47 ty 5 i0 (.int .u8 0) 1 1 underlying47 hi hz0 hz1 hz2 rfl (by decide) ⟨g,off,none⟩ xs.length cap xs (by simp)
  (λj u hu=>by
   have hadd:(⟨g,off,none⟩:Addr).add j=⟨g,off+j,none⟩:=by unfold Addr.add;split<;>simp_all
   rw[hadd,cell_of_row w g _ cur _ _ hg];exact hx j u hu) ad m c news (by simpa using hl) hnews (by omega) h63 (by omega)
 obtain⟨g',cap',rfl⟩:=gD ho (by omega);exact⟨g',0,cap',w',hr,cD.ofRow ho hbase,⟨hgr.os,hgr.tape,hgr.output,hgr.size,λk hk _=>hgr.block k hk (by simp)⟩,.inr (ho.lt g' rfl).1⟩
theorem fu{ops:Array Oper}{rest:List Oper}{o:Oper}{a:Act}{w:World}{Q:Exit->Act->World->Prop}(hgd:o.guard=none)(s x:Operand)
 (hop:o.op= .call {callee:=.builtin .append,args:=#[s,x],argTypes:=#[47,47]})
 {base:Nat} {v:Value} {xs:List Value} (hs:a.eval s=v) (h:cD w base v xs) (ad:Addr) (m c:Nat) (news:List Value) (hx:a.eval x= .slice (some ad) m c) (hl:news.length=m) (hm:0<m)
 (hnews:∀j u,news[j]? =some u->w.cell? (ad.add j)=some u) (h1:∀u∈news,u.oneCell'=true) (hb:xs.length+m<=140737488355328) (hbase:base<=w.heap.size)
 (hK:∀g off cap w',cD w' base (.slice (some ⟨g,off,none⟩) (xs.length+m) cap) (xs++news)->w.grownBy w' v.ownBlock->(v.ownBlock=some g\/w.heap.size<=g)->
  wpList prog ops Q rest (a.put o.dst (.slice (some ⟨g,off,none⟩) (xs.length+m) cap)) w'):wpList prog ops Q (o::rest) a w:=
 wpList_plain hgd λK hK'=>by
  obtain⟨g,off,cap,w',hr,r1,r2,r3⟩:=wm w o.type h ad m c news hl hm hnews h1 hb hbase;unfold Oper.wp execOp;simp only[hop,resolve,invoke,builtin,Sem.run_bind,Sem.run_pure,Result.andThen_ok,List.map_toArray,List.map_cons,List.map_nil,hs,hx,hr];exact hK' _ _ (hK g off cap w' r1 r2 r3)
theorem Dh{ops:Array Oper}{o:Oper}{a:Act}{w:World}{K:Act->World->Prop}{Q:Exit->Act->World->Prop}{E:Prop}(hgd:o.guard=none)(s x:Operand)
 (hop:o.op= .call {callee:=.builtin .append,args:=#[s,x],argTypes:=#[47,47]})
 {base:Nat} {v:Value} {xs:List Value} (hs:a.eval s=v) (h:cD w base v xs) (ad:Addr) (m c:Nat) (news:List Value) (hx:a.eval x= .slice (some ad) m c) (hl:news.length=m) (hm:0<m)
 (hnews:∀j u,news[j]? =some u->w.cell? (ad.add j)=some u) (h1:∀u∈news,u.oneCell'=true) (hb:xs.length+m<=140737488355328) (hbase:base<=w.heap.size)
 (hK:∀g off cap w',cD w' base (.slice (some ⟨g,off,none⟩) (xs.length+m) cap) (xs++news)->w.grownBy w' v.ownBlock->(v.ownBlock=some g\/w.heap.size<=g)->
  K (a.put o.dst (.slice (some ⟨g,off,none⟩) (xs.length+m) cap)) w'):if Region.wanted o (yielded ops a.tmps)=true then Oper.wp prog o a w K Q else E:=by
 have hw:Region.wanted o (yielded ops a.tmps)=true:=by simp[Region.wanted,hgd]
 rw[if_pos hw];obtain⟨g,off,cap,w',hr,r1,r2,r3⟩:=wm w o.type h ad m c news hl hm hnews h1 hb hbase;unfold Oper.wp;simp[execOp,hop,resolve,invoke,builtin,hs,hx,hr,Result.andThen];exact hK g off cap w' r1 r2 r3
theorem jy{w:World}{base:Nat}{v:Value}{l:List Int}(h:cD w base v (ar l)):
 (convert 47 9 v).run prog w= .ok (.string (strOfNums l)) w:=by
 rcases h with⟨rfl,h0⟩|⟨g,off,cap,cur,rfl,hb,hg,hn,hs,hx⟩
 ·have:l=[]:=by cases l with|nil=>rfl|cons a l=>simp[ar]at h0
  subst this;exact run_convert_bytes_nil w 47 5 underlying47 underlying5 0 0 9 underlying9
 have hl:(ar l).length=l.length:=by simp[ar]
 rw[hl];refine run_convert_bytes_arg w 47 5 underlying47 underlying5 g off l.length cap l rfl ?_ 9 underlying9;intro i hi;rw[cell_of_row w g _ cur _ _ hg];exact hx i _ (by simp[ar,hi])
theorem eO(w:World)(x:Value)(T:TypeId):∀j u,[x][j]? =some u->(w.alloc (.cells #[x] T)).cell? ((⟨w.heap.size,0,none⟩:Addr).add j)=some u:=by
 intro j u hj
 match j,hj with
 |0,hj=>simp at hj;subst hj;simp[Addr.add]
theorem d_(l:List Int)(a:Int):ar (l++[a])=ar l++[.int .u8 a]:=by simp[ar]
namespace Ch
def dN(ss:List St)(k:Nat):Int:=match ss[k]? with|some s=>s.name|none=>0
def gN(ss:List St)(s:Sd)(k:Nat):List Int:=((List.range k).filter λ(j:Nat)=>has s.act (j:Int)).map (dN ss)
def ig(ss:List St)(s:Sd)(k:Nat):List Int:=((List.range k).filter (cX ss)).map (aR s)
theorem D4(ss:List St)(s:Sd)(k:Nat):gN ss s (k+1)=gN ss s k++if has s.act (k:Int)then[dN ss k]else[]:=by
 unfold gN;rw[List.range_succ,List.filter_append,List.map_append];cases h:has s.act (k:Int)<;>simp_all
theorem RG(ss:List St)(s:Sd)(k:Nat):ig ss s (k+1)=ig ss s k++if cX ss k then[aR s k]else[]:=by
 unfold ig;rw[List.range_succ,List.filter_append,List.map_append];cases h:cX ss k<;>simp_all
theorem pN(ss:List St)(s:Sd)(k:Nat):(gN ss s k).length<=k:=by
 have:=List.length_filter_le (λ(j:Nat)=>has s.act (j:Int)) (List.range k);simpa[gN]using this
theorem sY(ss:List St)(s:Sd)(k:Nat):(ig ss s k).length<=k:=by
 have:=List.length_filter_le (cX ss) (List.range k);simpa[ig]using this
def dV(ss:List St)(s:Sd):ByteArray:=strOfNums (gN ss s (min ss.length 16))
def dh(ss:List St)(s:Sd):ByteArray:=strOfNums (ig ss s (min ss.length 16))
end Ch
def Apart(v u:Value):Prop:=∀k,v.ownBlock=some k->u.ownBlock≠some k
def Av(w:World)(b:Nat)(v0 v1 v2 v3 v4 v5:Value):World:=
 (((((w.setCell ⟨b,0,none⟩ v0).setCell ⟨b,1,none⟩ v1).setCell ⟨b,2,none⟩ v2).setCell ⟨b,3,none⟩ v3).setCell ⟨b,4,none⟩ v4).setCell ⟨b,5,none⟩ v5
theorem D5{w:World}{b:Nat}{c0 c1 c2 c3 c4 c5:Value}{T:TypeId}(h:w.heap[b]? =some (.cells #[c0,c1,c2,c3,c4,c5] T (0,0)))(v0 v1 v2 v3 v4 v5:Value):
 (Av w b v0 v1 v2 v3 v4 v5).heap[b]? =some (.cells #[v0,v1,v2,v3,v4,v5] T (0,0)):=by
 unfold Av;rw[ah _ (ah _ (ah _ (ah _ (ah _ (ah _ h)))))];rfl
theorem Qc(w:World)(b:Nat)(v0 v1 v2 v3 v4 v5:Value):Kp (λk=>k=b) w (Av w b v0 v1 v2 v3 v4 v5):=
 (((((((Kp.refl _ _).setCell (by intro _;rfl) _).setCell (by intro _;rfl) _).setCell (by intro _;rfl) _).setCell (by intro _;rfl) _).setCell (by intro _;rfl) _).setCell (by intro _;rfl) _)
section
variable (ob oo:Nat) (w:World) (ss:List St) (b o:Nat) (pre:List Value) (s:Sd) (post:List Value) (T:TypeId)
theorem lH(hS:mg w ob oo ss)(hl:ss.length<=1000)(h:du w b pre s post T)(hw:s.Wf)(ho:pre.length=o):
 Calls prog 44 #[.pointer (some ⟨b,o,none⟩),.pointer (some ⟨ob,oo,none⟩)] w λx w'=>
  x= .returned (.agg #[.string (dV ss s),.string (dh ss s),.string s.tm,.int .i64 s.x,.int .i64 s.y,.int .i64 s.z])/\Kp (λ_=>False) w w':=by
 subst ho;have hS1:mg (w.alloc (.cells #[.string ⟨#[]⟩,.string ⟨#[]⟩,.string ⟨#[]⟩,.int .i64 0,.int .i64 0,.int .i64 0] 26)) ob oo ss:=hS.alloc _;have hr1:(w.alloc (.cells #[.string ⟨#[]⟩,.string ⟨#[]⟩,.string ⟨#[]⟩,.int .i64 0,.int .i64 0,.int .i64 0] 26)).heap[w.heap.size]? =some (.cells #[.string ⟨#[]⟩,.string ⟨#[]⟩,.string ⟨#[]⟩,.int .i64 0,.int .i64 0,.int .i64 0] 26):=heap_alloc_new _ _;have K1:Kp (λ_=>False) w (w.alloc (.cells #[.string ⟨#[]⟩,.string ⟨#[]⟩,.string ⟨#[]⟩,.int .i64 0,.int .i64 0,.int .i64 0] 26)):=(Kp.refl _ _).alloc _;have h1:du (w.alloc (.cells #[.string ⟨#[]⟩,.string ⟨#[]⟩,.string ⟨#[]⟩,.int .i64 0,.int .i64 0,.int .i64 0] 26)) b pre s post T:=h.keep K1 (λx=>x);clear hS h
 go_enter func44,ntmps44
 go_wp2_with fail
 generalize w.alloc (.cells #[.string ⟨#[]⟩,.string ⟨#[]⟩,.string ⟨#[]⟩,.int .i64 0,.int .i64 0,.int .i64 0] 26)=w1 at hS1 hr1 K1 h1⊢;have hsz1:w.heap.size<w1.heap.size:=lt_of_block hr1
 go_loopw [5,6,7] (λav pv i wr=>∃k:Nat,i= .int .i64 k/\k<=16/\k<=ss.length/\cD wr w1.heap.size av (ar (gN ss s k))/\cD wr w1.heap.size pv (ar (ig ss s k))/\Apart av pv/\Kp (λ_=>False) w1 wr) (λ_ _ i _=>16-(intOf i).toNat)
 case atStart=>exact⟨0,rfl,Nat.zero_le _,Nat.zero_le _,.inl ⟨rfl,by simp[gN,ar]⟩,.inl ⟨rfl,by simp[ig,ar]⟩,by intro k hk;simp[Value.ownBlock]at hk,Kp.refl _ _⟩
 case round=>
  obtain⟨k,rfl,IQ,hkn,qa,qp,hap,KW⟩:=hrel;have hSr:mg wr ob oo ss:=hS1.keep KW (λx=>x) (λ_ _ _ x=>x);have hr:wr.heap[w.heap.size]? =some (.cells #[.string ⟨#[]⟩,.string ⟨#[]⟩,.string ⟨#[]⟩,.int .i64 0,.int .i64 0,.int .i64 0] 26):=KW.at_ hr1 (λx=>x);have hd:du wr b pre s post T:=h1.keep KW (λx=>x);have la:=pN ss s k;have lp:=sY ss s k
  by_cases hgo:k<ss.length/\k<16
  ·obtain⟨hlt,h16⟩:=hgo
   obtain⟨st,hs⟩:∃s,ss[k]? =some s:=⟨_,List.getElem?_eq_getElem hlt⟩
   have hlt':(k:Int)<(ss.length:Int):=by omega
   have xS:(k:Int)<16:=by omega
   have sa:=D4 ss s k;have sp:=RG ss s k
   have hnm:dN ss k=st.name:=by simp[dN,hs]
   have hhi:cX ss k=(st.kind==5):=by simp[cX,hs]
   obtain⟨g,cap,c2,a0,a1,a2,a3⟩:=hSr.at_ hs;have E1:=hid (jw wr b pre.length pre s.act (cf s++post) T k hd hw.1 rfl)
   cases qh:Ch.has s.act (k:Int)with
   |true=>
    rw[qh]at E1;have HA:=hid (show gN ss s (k+1)=gN ss s k++[st.name]by rw[sa,qh];simp[hnm])
    cases qk:st.kind==5 with
    |true=>
     have HP:=hid (show ig ss s (k+1)=ig ss s k++[aR s k]by rw[sp,hhi,qk];simp);clear sa sp hnm hhi
     go_wp2_with fail
     refine hm E1 ?_;rintro xx w2 ⟨rfl,e2⟩;rw[e2];clear e2 E1
     go_wp2_with (at_builtin;refine fu rfl (.tmp 26) (.tmp 35) rfl rfl (qa.alloc _) ⟨wr.heap.size,0,none⟩ 1 1 [.int .u8 st.name] rfl rfl (by decide) (by exact eO _ _ _) (by intro u hu;simp at hu;subst hu;rfl) (by simp[ar];omega) (by have:=KW.size;simp;omega) ?_)
     intro ga oa ca w3 qa3 g3 hb3;have KG:Kp (λi=>u5.ownBlock=some i) wr w3:=((Kp.refl _ _).alloc _).grown g3 (λi hi _=>hi);have KW3:Kp (λ_=>False) w1 w3:=KW.trans' KG (λi hi x=>by have:=(qa.lt i x).1;omega);have qp3:=qp.keep KG (λi hi x=>hap i x hi)
     have Zl:Apart (.slice (some ⟨ga,oa,none⟩) ((ar (gN ss s k)).length+1) ca) u6:=by
      intro i hi x;simp[Value.ownBlock]at hi;subst hi
      rcases hb3 with hb3|hb3
      ·exact hap _ hb3 x
      have:=(qp.lt _ x).2;try simp at hb3
      omega
     have VD:mg w3 ob oo ss:=hS1.keep KW3 (λx=>x) (λ_ _ _ x=>x);have hd3:du w3 b pre s post T:=h1.keep KW3 (λx=>x);rw[<-d_]at qa3;obtain⟨g',cap',c2',a0',a1',a2',a3'⟩:=VD.at_ hs;clear KG g3 hb3 qa qp hap KW hSr hd c2 a0 a1 a2 a3 hr;have aiM:w3.cell? ⟨b,pre.length+16+k,none⟩=some (.int .u8 (aR s k)):=hd3.past hw h16;clear hd3 VD
     go_wp2_with (at_builtin;refine fu rfl (.tmp 46) (.tmp 53) rfl rfl (qp3.alloc _) ⟨w3.heap.size,0,none⟩ 1 1 [.int .u8 (aR s k)] rfl rfl (by decide) (by exact eO _ _ _) (by intro u hu;simp at hu;subst hu;rfl) (by simp[ar];omega) (by have:=KW3.size;simp;omega) ?_)
     intro gp op cp w4 qp4 g4 hb4;have KG:Kp (λi=>u6.ownBlock=some i) w3 w4:=((Kp.refl _ _).alloc _).grown g4 (λi hi _=>hi);have vT:Kp (λ_=>False) w1 w4:=KW3.trans' KG (λi hi x=>by have:=(qp3.lt i x).1;omega);have qa4:=qa3.keep KG (λi hi x=>Zl i hi x)
     have acr:Apart (.slice (some ⟨ga,oa,none⟩) ((ar (gN ss s k)).length+1) ca) (.slice (some ⟨gp,op,none⟩) ((ar (ig ss s k)).length+1) cp):=by
      intro i hi x;simp[Value.ownBlock]at x;subst x
      rcases hb4 with hb4|hb4
      ·exact Zl _ hi hb4
      have:=(qa3.lt _ hi).2;try simp at hb4
      omega
     rw[<-d_]at qp4;clear KG g4 hb4;go_wp2
     go_roundw
     case rel=>exact⟨k+1,by go_num,by omega,by omega,by rw[HA.out];simpa[ar]using qa4,by rw[HP.out];simpa[ar]using qp4,acr,vT⟩
     case measure=>simp[intOf];omega
    |false=>?_
    have HP:=hid (show ig ss s (k+1)=ig ss s k by rw[sp,hhi,qk];simp);clear sa sp hnm hhi
    go_wp2_with fail
    refine hm E1 ?_;rintro xx w2 ⟨rfl,e2⟩;rw[e2];clear e2 E1
    go_wp2_with (at_builtin;refine fu rfl (.tmp 26) (.tmp 35) rfl rfl (qa.alloc _) ⟨wr.heap.size,0,none⟩ 1 1 [.int .u8 st.name] rfl rfl (by decide) (by exact eO _ _ _) (by intro u hu;simp at hu;subst hu;rfl) (by simp[ar];omega) (by have:=KW.size;simp;omega) ?_)
    intro ga oa ca w3 qa3 g3 hb3;have KG:Kp (λi=>u5.ownBlock=some i) wr w3:=((Kp.refl _ _).alloc _).grown g3 (λi hi _=>hi);have KW3:Kp (λ_=>False) w1 w3:=KW.trans' KG (λi hi x=>by have:=(qa.lt i x).1;omega);have qp3:=qp.keep KG (λi hi x=>hap i x hi)
    have Zl:Apart (.slice (some ⟨ga,oa,none⟩) ((ar (gN ss s k)).length+1) ca) u6:=by
     intro i hi x;simp[Value.ownBlock]at hi;subst hi
     rcases hb3 with hb3|hb3
     ·exact hap _ hb3 x
     have:=(qp.lt _ x).2;try simp at hb3
     omega
    have VD:mg w3 ob oo ss:=hS1.keep KW3 (λx=>x) (λ_ _ _ x=>x);have hd3:du w3 b pre s post T:=h1.keep KW3 (λx=>x);rw[<-d_]at qa3;obtain⟨g',cap',c2',a0',a1',a2',a3'⟩:=VD.at_ hs;clear KG g3 hb3 qa qp hap KW hSr hd c2 a0 a1 a2 a3 hr;clear hd3 VD;go_wp2
    go_roundw
    case rel=>exact⟨k+1,by go_num,by omega,by omega,by rw[HA.out];simpa[ar]using qa3,by rw[HP.out];exact qp3,Zl,KW3⟩
    case measure=>simp[intOf];omega
   |false=>?_
   rw[qh]at E1;have HA:=hid (show gN ss s (k+1)=gN ss s k by rw[sa,qh];simp)
   cases qk:st.kind==5 with
   |true=>
    have HP:=hid (show ig ss s (k+1)=ig ss s k++[aR s k]by rw[sp,hhi,qk];simp);clear sa sp hnm hhi
    go_wp2_with fail
    refine hm E1 ?_;rintro xx w2 ⟨rfl,e2⟩;rw[e2];clear e2 E1;have aiM:wr.cell? ⟨b,pre.length+16+k,none⟩=some (.int .u8 (aR s k)):=hd.past hw h16;clear hd hSr
    go_wp2_with (at_builtin;refine fu rfl (.tmp 46) (.tmp 53) rfl rfl (qp.alloc _) ⟨wr.heap.size,0,none⟩ 1 1 [.int .u8 (aR s k)] rfl rfl (by decide) (by exact eO _ _ _) (by intro u hu;simp at hu;subst hu;rfl) (by simp[ar];omega) (by have:=KW.size;simp;omega) ?_)
    intro gp op cp w4 qp4 g4 hb4;have KG:Kp (λi=>u6.ownBlock=some i) wr w4:=((Kp.refl _ _).alloc _).grown g4 (λi hi _=>hi);have vT:Kp (λ_=>False) w1 w4:=KW.trans' KG (λi hi x=>by have:=(qp.lt i x).1;omega);have qa4:=qa.keep KG (λi hi x=>hap i hi x)
    have acr:Apart u5 (.slice (some ⟨gp,op,none⟩) ((ar (ig ss s k)).length+1) cp):=by
     intro i hi x;simp[Value.ownBlock]at x;subst x
     rcases hb4 with hb4|hb4
     ·exact hap _ hi hb4
     have:=(qa.lt _ hi).2;try simp at hb4
     omega
    rw[<-d_]at qp4;clear KG g4 hb4;go_wp2
    go_roundw
    case rel=>exact⟨k+1,by go_num,by omega,by omega,by rw[HA.out];exact qa4,by rw[HP.out];simpa[ar]using qp4,acr,vT⟩
    case measure=>simp[intOf];omega
   |false=>?_
   have HP:=hid (show ig ss s (k+1)=ig ss s k by rw[sp,hhi,qk];simp);clear sa sp hnm hhi
   go_wp2_with fail
   refine hm E1 ?_;rintro xx w2 ⟨rfl,e2⟩;rw[e2];clear e2 E1;clear hd hSr;go_wp2
   go_roundw
   case rel=>exact⟨k+1,by go_num,by omega,by omega,by rw[HA.out];exact qa,by rw[HP.out];exact qp,hap,KW⟩
   case measure=>simp[intOf];omega
  have hmin:k=min ss.length 16:=by omega
  have anK:=jy qa;have ae5:=jy qp;have anL:(convert 47 9 u5).run prog wr.drew= .ok (.string (strOfNums (gN ss s k))) wr.drew:=jy (w:=wr.drew) (base:=w1.heap.size) (by exact qa);have anM:(convert 47 9 u6).run prog wr.drew= .ok (.string (strOfNums (ig ss s k))) wr.drew:=jy (w:=wr.drew) (base:=w1.heap.size) (by exact qp);have t1:=hd.tm hw;have t2:=hd.cx hw;have t3:=hd.cy hw;have t4:=hd.cz hw;obtain⟨ao,cap,c2⟩:=hSr.len
  have r0:wr.cell? ⟨w.heap.size,0,none⟩=some (.string ⟨#[]⟩):=by simp[World.cell?,hr]
  have r1:wr.cell? ⟨w.heap.size,1,none⟩=some (.string ⟨#[]⟩):=by simp[World.cell?,hr]
  have r2:wr.cell? ⟨w.heap.size,2,none⟩=some (.string ⟨#[]⟩):=by simp[World.cell?,hr]
  have r3:wr.cell? ⟨w.heap.size,3,none⟩=some (.int .i64 0):=by simp[World.cell?,hr]
  have r4:wr.cell? ⟨w.heap.size,4,none⟩=some (.int .i64 0):=by simp[World.cell?,hr]
  have r5:wr.cell? ⟨w.heap.size,5,none⟩=some (.int .i64 0):=by simp[World.cell?,hr]
  have fr:∀i,wr.frozen? ⟨w.heap.size,i,none⟩=false:=by intro i;simp[World.frozen?,hr]
  have HX:=hid (ae hr (ae (K1.trans KW) hmin));clear qa qp hap KW hSr hd hr hmin
  by_cases hlt:k<ss.length
  ·have x1:(k:Int)<(ss.length:Int):=by omega
   have x2:decide ((k:Int)<16)=false:=by simp;omega
   clear hgo
   go_upto_region 9 with(fail)
   go_region
   go_wp2;obtain⟨hr,KW,hmin⟩:=HX.out
   have eA:dV ss s=strOfNums (gN ss s k):=by rw[hmin];rfl
   have eP:dh ss s=strOfNums (ig ss s k):=by rw[hmin];rfl
   rw[eA,eP];have HH:=D5 hr (.string (strOfNums (gN ss s k))) (.string (strOfNums (ig ss s k))) (.string s.tm) (.int .i64 s.x) (.int .i64 s.y) (.int .i64 s.z);have KX:=Qc wr w.heap.size (.string (strOfNums (gN ss s k))) (.string (strOfNums (ig ss s k))) (.string s.tm) (.int .i64 s.x) (.int .i64 s.y) (.int .i64 s.z)
   change bodyPost _ _ _ _ _ (Av wr w.heap.size (.string (strOfNums (gN ss s k))) (.string (strOfNums (ig ss s k))) (.string s.tm) (.int .i64 s.x) (.int .i64 s.y) (.int .i64 s.z)).drew
   generalize Av wr w.heap.size (.string (strOfNums (gN ss s k))) (.string (strOfNums (ig ss s k))) (.string s.tm) (.int .i64 s.x) (.int .i64 s.y) (.int .i64 s.z)=w9 at HH KX⊢
   have z0:w9.drew.cell? ⟨w.heap.size,0,none⟩=some (.string (strOfNums (gN ss s k))):=show w9.cell? _=_ by simp[World.cell?,HH]
   have z1:w9.drew.cell? ⟨w.heap.size,1,none⟩=some (.string (strOfNums (ig ss s k))):=show w9.cell? _=_ by simp[World.cell?,HH]
   have z2:w9.drew.cell? ⟨w.heap.size,2,none⟩=some (.string s.tm):=show w9.cell? _=_ by simp[World.cell?,HH]
   have z3:w9.drew.cell? ⟨w.heap.size,3,none⟩=some (.int .i64 s.x):=show w9.cell? _=_ by simp[World.cell?,HH]
   have z4:w9.drew.cell? ⟨w.heap.size,4,none⟩=some (.int .i64 s.y):=show w9.cell? _=_ by simp[World.cell?,HH]
   have z5:w9.drew.cell? ⟨w.heap.size,5,none⟩=some (.int .i64 s.z):=show w9.cell? _=_ by simp[World.cell?,HH]
   refine bodyPost_ret (v:=.agg #[.string (strOfNums (gN ss s k)),.string (strOfNums (ig ss s k)),.string s.tm,.int .i64 s.x,.int .i64 s.y,.int .i64 s.z]) (by simp[results,Tryz.results44,go_sem,z0,z1,z2,z3,z4,z5]) rfl ?_;exact⟨rfl,(KW.trans' KX (λi hi x=>by omega)).drew⟩
  have x1:decide ((k:Int)<(ss.length:Int))=false:=by simp;omega
  clear hgo
  go_upto_region 9 with(fail)
  go_region
  go_wp2;obtain⟨hr,KW,hmin⟩:=HX.out
  have eA:dV ss s=strOfNums (gN ss s k):=by rw[hmin];rfl
  have eP:dh ss s=strOfNums (ig ss s k):=by rw[hmin];rfl
  rw[eA,eP];have HH:=D5 hr (.string (strOfNums (gN ss s k))) (.string (strOfNums (ig ss s k))) (.string s.tm) (.int .i64 s.x) (.int .i64 s.y) (.int .i64 s.z);have KX:=Qc wr w.heap.size (.string (strOfNums (gN ss s k))) (.string (strOfNums (ig ss s k))) (.string s.tm) (.int .i64 s.x) (.int .i64 s.y) (.int .i64 s.z)
  change bodyPost _ _ _ _ _ (Av wr w.heap.size (.string (strOfNums (gN ss s k))) (.string (strOfNums (ig ss s k))) (.string s.tm) (.int .i64 s.x) (.int .i64 s.y) (.int .i64 s.z)).drew
  generalize Av wr w.heap.size (.string (strOfNums (gN ss s k))) (.string (strOfNums (ig ss s k))) (.string s.tm) (.int .i64 s.x) (.int .i64 s.y) (.int .i64 s.z)=w9 at HH KX⊢
  have z0:w9.drew.cell? ⟨w.heap.size,0,none⟩=some (.string (strOfNums (gN ss s k))):=show w9.cell? _=_ by simp[World.cell?,HH]
  have z1:w9.drew.cell? ⟨w.heap.size,1,none⟩=some (.string (strOfNums (ig ss s k))):=show w9.cell? _=_ by simp[World.cell?,HH]
  have z2:w9.drew.cell? ⟨w.heap.size,2,none⟩=some (.string s.tm):=show w9.cell? _=_ by simp[World.cell?,HH]
  have z3:w9.drew.cell? ⟨w.heap.size,3,none⟩=some (.int .i64 s.x):=show w9.cell? _=_ by simp[World.cell?,HH]
  have z4:w9.drew.cell? ⟨w.heap.size,4,none⟩=some (.int .i64 s.y):=show w9.cell? _=_ by simp[World.cell?,HH]
  have z5:w9.drew.cell? ⟨w.heap.size,5,none⟩=some (.int .i64 s.z):=show w9.cell? _=_ by simp[World.cell?,HH]
  refine bodyPost_ret (v:=.agg #[.string (strOfNums (gN ss s k)),.string (strOfNums (ig ss s k)),.string s.tm,.int .i64 s.x,.int .i64 s.y,.int .i64 s.z]) (by simp[results,Tryz.results44,go_sem,z0,z1,z2,z3,z4,z5]) rfl ?_;exact⟨rfl,(KW.trans' KX (λi hi x=>by omega)).drew⟩
end
namespace Ch
def ry(ss:List St)(act left:List Bool)(k:Nat):Bool:=cX ss k&&has left (aw ss k)&&(lN ss act (aw ss k)!= -2)
def mJ(ss:List St)(act left:List Bool):Nat->Nat->List Int->List Int
 |0,_,p=>p
 |f+1,k,p=>mJ ss act left f (k+1) (if ry ss act left k then p.set k (dN ss (lN ss act (aw ss k)).toNat)else p)
def rem(ss:List St)(s:Sd)(left:List Bool):Sd:={s with past:=mJ ss s.act left (min ss.length 16) 0 s.past}
theorem wo(ss:List St)(act left:List Bool):∀(f k:Nat) (p:List Int),(mJ ss act left f k p).length=p.length:=by
 intro f
 induction f with
 |zero=>intro k p;rfl
 |succ f ih=>intro k p;simp only[mJ];rw[ih];split<;>simp
theorem acu{ss:List St}{s:Sd}(left:List Bool)(h:s.Wf):(rem ss s left).Wf:=⟨h.1,by simp[rem,wo,h.2]⟩
theorem RH(ss:List St)(l:List Bool)(parent:Int):∀(f k:Nat),i_ ss l parent f k≠ -2->∃j:Nat,i_ ss l parent f k=j/\j<k+f:=by
 intro f
 induction f with
 |zero=>intro k h;exact absurd rfl h
 |succ f ih=>?_
 intro k h;simp only[i_]at h⊢
 split
 ·exact⟨k,rfl,by omega⟩
 rename_i q;rw[if_neg q]at h;obtain⟨j,e,hj⟩:=ih (k+1) h;exact⟨j,e,by omega⟩
theorem VE{ss:List St}{l:List Bool}{parent:Int}(h:(lN ss l parent != -2)=true):∃j:Nat,lN ss l parent=j/\j<ss.length:=by
 obtain⟨j,e,hj⟩:=RH ss l parent ss.length 0 (by simpa[lN]using h);exact⟨j,e,by omega⟩
end Ch
section
variable (ob oo:Nat) (w:World) (ss:List St) (b o:Nat) (pre:List Value) (s:Sd) (post:List Value) (T:TypeId) (lb lo:Nat) (pre':List Value) (l:List Bool) (post':List Value) (T':TypeId)
theorem Gn(hS:mg w ob oo ss)(hl:ss.length<=1000)(h:du w b pre s post T)(hw:s.Wf)(ho:pre.length=o)(hL:ju w lb pre' l post' T')(h16:l.length=16)(hlo:pre'.length=lo)(hne:lb≠b)(AJ:ob≠b)(hT:T≠155):
 Calls prog 132 #[.pointer (some ⟨b,o,none⟩),.pointer (some ⟨ob,oo,none⟩),.pointer (some ⟨lb,lo,none⟩)] w λx w'=>x= .returned (.tuple #[])/\du w' b pre (Ch.rem ss s l) post T/\Kp (λk=>k=b) w w':=by
 subst ho
 have hnb:∀i cur,w.heap[i]? =some (.cells cur 155 (0,0))->i≠b:=by
  intro i cur hi e;subst e;unfold du ju at h;rw[h]at hi;simp at hi;exact hT hi.2
 go_enter func132,ntmps132
 go_wp2_with fail
 go_loopw [6] (λi wr=>∃(k:Nat) (p:List Int),i= .int .i64 k/\k<=16/\k<=ss.length/\p.length=16/\Hid (mJ ss s.act l (min ss.length 16) 0 s.past=mJ ss s.act l (min ss.length 16-k) k p)/\du wr b pre {s with past:=p} post T/\Kp (λk=>k=b) w wr) (λi _=>16-(intOf i).toNat)
 case atStart=>exact⟨0,s.past,rfl,Nat.zero_le _,Nat.zero_le _,hw.2,hid rfl,h,Kp.refl _ _⟩
 case round=>
  obtain⟨k,p,rfl,IQ,hkn,hp,HE,hd,KW⟩:=hrel
  have hwp:Sd.Wf {s with past:=p}:=⟨hw.1,hp⟩
  have hSr:mg wr ob oo ss:=hS.keep KW AJ hnb;have IY:ju wr lb pre' l post' T':=hL.keep KW hne
  by_cases hgo:k<ss.length/\k<16
  ·obtain⟨hlt,xS⟩:=hgo
   obtain⟨st,hs⟩:∃s,ss[k]? =some s:=⟨_,List.getElem?_eq_getElem hlt⟩
   have hlt':(k:Int)<(ss.length:Int):=by omega
   have alB:(k:Int)<16:=by omega
   have ef:min ss.length 16-k=(min ss.length 16-(k+1))+1:=by omega
   have Gc:aw ss k=st.parent:=by simp[aw,dD,hs]
   have hhi:cX ss k=(st.kind==5):=by simp[cX,hs]
   have hP:ry ss s.act l k=((st.kind==5)&&Ch.has l st.parent&&(lN ss s.act st.parent != -2)):=by simp[ry,Gc,hhi]
   obtain⟨g,cap,c2,a0,a1,a2,a3⟩:=hSr.at_ hs;have E1:=hid (jw wr lb lo pre' l post' T' st.parent IY h16 hlo);have E2:=hid (zC ob oo wr ss b pre.length pre post T {s with past:=p} st.parent hSr hl hd hwp rfl)
   have step:ry ss s.act l k=false->mJ ss s.act l (min ss.length 16) 0 s.past=mJ ss s.act l (min ss.length 16-(k+1)) (k+1) p:=λq=>by
    rw[HE.out,ef];simp only[mJ];rw[q];rfl
   cases q1:st.kind==5 with
   |false=>
    have HF:=hid (step (by rw[hP,q1];rfl))
    have q1':(st.kind !=5)=true:=by simp[bne,q1]
    clear step hP Gc hhi ef HE hs hS hSr h hL IY E1 E2
    go_wp2_with fail
    go_roundw
    case rel=>exact⟨k+1,p,by go_num,by omega,by omega,hp,HF,hd,KW⟩
    case measure=>simp[intOf];omega
   |true=>?_
   have q1':(st.kind !=5)=false:=by simp[bne,q1]
   cases q2:Ch.has l st.parent with
   |false=>
    rw[q2]at E1;have HF:=hid (step (by rw[hP,q1,q2];rfl));clear step hP Gc hhi ef HE hs hS hSr h hL IY E2
    go_wp2_with fail
    refine hm E1 ?_;rintro x w1 ⟨rfl,rfl⟩
    go_wp2_with fail
    go_roundw
    case rel=>exact⟨k+1,p,by go_num,by omega,by omega,hp,HF,hd,KW⟩
    case measure=>simp[intOf];omega
   |true=>?_
   rw[q2]at E1
   cases q3:lN ss s.act st.parent != -2 with
   |false=>
    have HF:=hid (step (by rw[hP,q1,q2,q3];rfl));clear step hP Gc hhi ef HE hs hS hSr h hL IY
    go_wp2_with fail
    refine hm E1 ?_;rintro x w1 ⟨rfl,rfl⟩
    go_wp2_with fail
    refine hm E2 ?_;rintro x w1 ⟨rfl,rfl⟩
    go_wp2_with fail
    go_roundw
    case rel=>exact⟨k+1,p,by go_num,by omega,by omega,hp,HF,hd,KW⟩
    case measure=>simp[intOf];omega
   |true=>?_
   obtain⟨j,ej,hj⟩:=VE q3
   obtain⟨sj,hsj⟩:∃s,ss[j]? =some s:=⟨_,List.getElem?_eq_getElem hj⟩
   have hjl:(j:Int)<(ss.length:Int):=by omega
   have HF:=hid (show mJ ss s.act l (min ss.length 16) 0 s.past=mJ ss s.act l (min ss.length 16-(k+1)) (k+1) (p.set k sj.name)by
    rw[HE.out,ef];simp only[mJ];rw[if_pos (by rw[hP,q1,q2,q3];rfl),Gc,ej];simp[dN,hsj])
   have hset:=hd.Zd hwp xS sj.name;obtain⟨g',cap',c2',b0,b1,b2,b3⟩:=hSr.at_ hsj;have fr:=hd.free (pre.length+16+k);have cp:=hd.past hwp xS;rw[c2]at c2';simp only[Option.some.injEq,Value.slice.injEq,true_and]at c2';have eg:=c2'.1;simp only[Addr.mk.injEq,and_true]at eg;subst eg;have HS:=hid hset
   have q3':((j:Int)!= -2)=true:=by rw[ej]at q3;exact q3
   simp only[ej]at E2;have hix:=xW wr b (pre.length+16) k xS;clear step hP Gc hhi ef HE hs hS hSr h hL IY hset hsj hd q3
   go_wp2_with fail
   refine hm E1 ?_;rintro x w1 ⟨rfl,rfl⟩
   go_wp2_with fail
   refine hm E2 ?_;rintro x w1 ⟨rfl,rfl⟩
   go_wp2_with fail
   go_region
   go_wp2
   go_roundw
   case rel=>exact⟨k+1,p.set k sj.name,by go_num,by omega,by omega,by simpa using hp,HF,HS.out,(show Kp (λk=>k=b) w (w1.setCell ⟨b,pre.length+16+k,none⟩ (.int .u8 sj.name))from KW.setCell (by intro _;rfl) _).drew⟩
   case measure=>simp[intOf];omega
  have HF:=hid (HE.out.trans (show _=p by rw[show min ss.length 16-k=0 by omega];rfl));obtain⟨ao,cap,c2⟩:=hSr.len;clear HE hS h hL IY hSr
  by_cases hlt:k<ss.length
  ·have x1:(k:Int)<(ss.length:Int):=by omega
   have x2:decide ((k:Int)<16)=false:=by simp;omega
   clear hgo
   go_wp2_with fail
   go_end0
   exact⟨rfl,by unfold Ch.rem;rw[HF.out];exact hd,KW⟩
  have x1:decide ((k:Int)<(ss.length:Int))=false:=by simp;omega
  clear hgo
  go_wp2_with fail
  go_end0
  exact⟨rfl,by unfold Ch.rem;rw[HF.out];exact hd,KW⟩
end
theorem bH{P:Program}{f:FuncId}{args:Array Value}{w:World}{Q R:Ending->World->Prop}(h:Hid (Calls P f args w Q))(k:∀e w',Q e w'->R e w'):Calls P f args w R:=Calls.mono h k
namespace Ch
def Up(ss:List St):Prop:=∀(k:Nat) (s:St),ss[k]? =some s-> -1<=s.parent/\s.parent<(k:Int)
theorem fH{ss:List St}(h:Up ss)(i:Int): -1<=aw ss i:=by
 unfold aw
 cases q:lM ss i with
 |none=>exact Int.le_refl _
 |some s=>obtain⟨k,rfl,hs,_⟩:=iz q;exact(h k s hs).1
theorem gP{ss:List St}(h:Up ss){i:Int}(hi: -1<i):aw ss i<i:=by
 unfold aw
 cases q:lM ss i with
 |none=>exact hi
 |some s=>obtain⟨k,rfl,hs,_⟩:=iz q;exact(h k s hs).2
def sZ(ss:List St)(high:Int):Nat->Int->Bool
 |0,_=>false
 |f+1,i=>if decide (-1<i)then(if aw ss i==high then true else sZ ss high f (aw ss i))else false
def au(ss:List St)(high low:Int):Bool:=sZ ss high (low+1).toNat low
theorem pP(ss:List St)(high:Int)(f:Nat){i:Int}(h:¬-1<i):sZ ss high f i=false:=by
 cases f with
 |zero=>rfl
 |succ f=>simp[sZ,h]
def s6(ss:List St)(d target:Int):Bool:=aA ss d==2&&au ss d target
def n_(ss:List St)(target:Int):Nat->Int->Int
 |0,d=>d
 |f+1,d=>if(d != -1)&& !s6 ss d target then n_ ss target f (aw ss d)else d
def dom(ss:List St)(state target:Int):Int:=n_ ss (place ss target) (aw ss state+1).toNat (aw ss state)
theorem nA(ss:List St)(target:Int)(f:Nat){d:Int}(h:((d != -1)&& !s6 ss d target)=false):n_ ss target f d=d:=by
 cases f with
 |zero=>rfl
 |succ f=>simp only[n_];rw[h];rfl
end Ch
section
variable (ob oo:Nat) (w:World) (ss:List St)
theorem lO(high low:Int)(hU:Up ss)(hS:mg w ob oo ss)(hl:ss.length<=1000):
 Calls prog 218 #[.pointer (some ⟨ob,oo,none⟩),.int .i64 high,.int .i64 low] w λx w'=>x= .returned (.bool (au ss high low))/\w'=w:=by
 go_enter func218,ntmps218
 go_wp2_with fail
 go_loop [7] (λv=>∃(i:Int) (f:Nat),v= .int .i64 i/\i+1<=(f:Int)/\Hid (au ss high low=sZ ss high f i)) (λv=>(intOf v+1).toNat)
 case atStart=>exact⟨low,(low+1).toNat,rfl,by omega,hid rfl⟩
 case round=>
  obtain⟨i,f,rfl,hf,HE⟩:=hrel
  by_cases hlt: -1<i
  ·obtain⟨f,rfl⟩:∃g,f=g+1:=⟨f-1,by omega⟩
   have E1:=hid (fW ob oo w ss i hS hl);have p1:=gP hU hlt
   cases q:aw ss i==high with
   |true=>
    have HF:=hid (HE.out.trans (show _=true by simp[sZ,hlt,q]));clear HE hS
    go_wp2_with fail
    refine hm E1 ?_;rintro x w1 ⟨rfl,rfl⟩;go_wp2;go_ret;exact⟨by rw[HF.out];rfl,rfl⟩
   |false=>?_
   have HF:=hid (HE.out.trans (show _=sZ ss high f (aw ss i)by simp[sZ,hlt,q]));clear HE hS
   go_wp2_with fail
   refine hm E1 ?_;rintro x w1 ⟨rfl,rfl⟩;go_wp2
   go_round
   case rel=>exact⟨_,f,rfl,by omega,HF⟩
   case measure=>simp[intOf];omega
  have HF:=hid (HE.out.trans (pP ss high f hlt));clear HE hS
  go_wp2_with fail
  go_ret;exact⟨by rw[HF.out];rfl,rfl⟩
theorem VF(d target:Int)(hU:Up ss)(hS:mg w ob oo ss)(hl:ss.length<=1000):
 Calls prog 256 #[.pointer (some ⟨ob,oo,none⟩),.int .i64 d,.int .i64 target] w λx w'=>x= .returned (.bool (s6 ss d target))/\w'=w:=by
 have E1:=hid (ky ob oo w ss d hS hl);have E2:=hid (lO ob oo w ss d target hU hS hl)
 cases q:aA ss d==2 with
 |true=>
  rw[show s6 ss d target=au ss d target by simp[s6,q]]
  go_enter func256,ntmps256
  go_wp2_with fail
  refine hm E1 ?_;rintro x w1 ⟨rfl,rfl⟩
  have q':(aA ss d !=2)=false:=by simp[bne,q]
  go_wp2_with fail
  refine hm E2 ?_;rintro x w1 ⟨rfl,rfl⟩;go_wp2;go_ret;exact⟨rfl,rfl⟩
 |false=>?_
 rw[show s6 ss d target=false by simp[s6,q]]
 have q':(aA ss d !=2)=true:=by simp[bne,q]
 go_enter func256,ntmps256
 go_wp2_with fail
 refine hm E1 ?_;rintro x w1 ⟨rfl,rfl⟩;go_wp2;go_ret;exact⟨rfl,rfl⟩
theorem MQ(state tg gv gs gd ta:Int)(ac:Value)(hU:Up ss)(hS:mg w ob oo ss)(hl:ss.length<=1000):
 Calls prog 222 #[.pointer (some ⟨ob,oo,none⟩),.agg #[.int .i64 state,.int .u8 tg,.int .u8 gv,.int .u8 gs,.int .i64 gd,ac,.int .u8 ta]] w λx w'=>x= .returned (.int .i64 (dom ss state ta))/\Kp (λ_=>False) w w':=by
 have hS1:=hS.alloc (.cells #[.int .i64 state,.int .u8 tg,.int .u8 gv,.int .u8 gs,.int .i64 gd,ac,.int .u8 ta] 209);have K1:Kp (λ_=>False) w (w.alloc (.cells #[.int .i64 state,.int .u8 tg,.int .u8 gv,.int .u8 gs,.int .i64 gd,ac,.int .u8 ta] 209)):=(Kp.refl _ _).alloc _
 have z0:(w.alloc (.cells #[.int .i64 state,.int .u8 tg,.int .u8 gv,.int .u8 gs,.int .i64 gd,ac,.int .u8 ta] 209)).cell? ⟨w.heap.size,0,none⟩=some (.int .i64 state):=by rw[World.cell?,heap_alloc_new];rfl
 clear hS
 go_enter func222,ntmps222
 go_wp2_with fail
 generalize (w.alloc (.cells #[.int .i64 state,.int .u8 tg,.int .u8 gv,.int .u8 gs,.int .i64 gd,ac,.int .u8 ta] 209))=w1 at hS1 K1 z0⊢;have E1:=hid (kY ob oo w1 ss ta hS1 hl);have E2:=hid (fW ob oo w1 ss state hS1 hl);refine hm E1 ?_;rintro x w2 ⟨rfl,rfl⟩
 go_wp2_with fail
 refine hm E2 ?_;rintro x w2 ⟨rfl,rfl⟩
 go_wp2_with fail
 go_loop [6] (λv=>∃(d:Int) (f:Nat),v= .int .i64 d/\ -1<=d/\d+1<=(f:Int)/\Hid (dom ss state ta=n_ ss (Ch.place ss ta) f d)) (λv=>(intOf v+1).toNat)
 case atStart=>exact⟨_,(aw ss state+1).toNat,rfl,fH hU _,by omega,hid rfl⟩
 case round=>
  obtain⟨d,f,rfl,hd,hf,HE⟩:=hrel
  cases q1:d != -1 with
  |false=>
   have HF:=hid (HE.out.trans (nA ss _ f (by rw[q1];rfl)));clear HE
   go_wp2_with fail
   go_ret;exact⟨by rw[HF.out];rfl,K1⟩
  |true=>?_
  have hlt: -1<d:=by have:d≠ -1:=by simpa using q1
                     omega
  obtain⟨f,rfl⟩:∃g,f=g+1:=⟨f-1,by omega⟩
  have E3:=hid (VF ob oo w2 ss d (Ch.place ss ta) hU hS1 hl);have E4:=hid (fW ob oo w2 ss d hS1 hl);have p1:=gP hU hlt;have p2:=fH hU d
  cases q2:s6 ss d (Ch.place ss ta)with
  |true=>
   rw[q2]at E3;have HF:=hid (HE.out.trans (nA ss _ (f+1) (by rw[q2];simp)));clear HE hS1
   go_wp2_with fail
   refine hm E3 ?_;rintro x w1 ⟨rfl,rfl⟩;go_wp2;go_ret;exact⟨by rw[HF.out];rfl,K1⟩
  |false=>?_
  rw[q2]at E3;have HF:=hid (HE.out.trans (show _=n_ ss (Ch.place ss ta) f (aw ss d)by simp only[n_];rw[q1,q2];rfl));clear HE hS1
  go_wp2_with fail
  refine hm E3 ?_;rintro x w1 ⟨rfl,rfl⟩
  go_wp2_with fail
  refine hm E4 ?_;rintro x w1 ⟨rfl,rfl⟩;go_wp2
  go_round
  case rel=>exact⟨_,f,rfl,p2,by omega,HF⟩
  case measure=>simp[intOf];omega
end
theorem Ab{α:Type}(f:α->List Value)(n:Nat)(hn:∀a,(f a).length=n):∀(l:List α) (k j:Nat) (a:α),l[k]? =some a->j<n->(l.flatMap f)[k*n+j]? =(f a)[j]?:=by
 intro l
 induction l with
 |nil=>intro k j a h;simp at h
 |cons b l ih=>?_
 intro k j a h hj;rw[List.flatMap_cons]
 cases k with
 |zero=>simp at h;subst h;rw[List.getElem?_append_left (by rw[hn];omega)];congr 1;omega
 |succ k=>?_
 rw[List.getElem?_append_right (by rw[hn,Nat.succ_mul];omega),hn,<-ih k j a (by simpa using h) hj]
 congr 1
 rw[Nat.succ_mul];omega
def oT(T:TypeId):Prop:=T=87\/T=119\/T=138
def Pl(w:World)(ob po:Nat)(ol:Ol):Prop:=∃sv tv bv lt lb B c T,(w.heap[ob]? =some (.cells c T (0,0))/\oT T/\c[po+2]? =some sv/\c[po+3]? =some tv/\c[po+4]? =some bv)/\AB w B ol sv tv bv lt lb
def YS(T:TypeId):Prop:=oT T\/T=155\/T=209\/T=282\/T=255
theorem Pl.keep{w w':World}{ob po:Nat}{ol:Ol}{S:Nat->Prop}(h:Pl w ob po ol)(k:Kp S w w')(hs:∀i cur T,w.heap[i]? =some (.cells cur T (0,0))->YS T->¬S i):Pl w' ob po ol:=by
 obtain⟨sv,tv,bv,lt,lb,B,c,T,⟨hb,hT,c2,c3,c4⟩,F⟩:=h
 have hS:∀{base e size v n xs},w.ownsRow base e size v n xs->YS e->∀i,v.ownBlock=some i->¬S i:=by
  intro base e size v n xs ho he i hi;obtain⟨cur,hc⟩:=br ho hi;exact hs i cur e hc he
 exact⟨sv,tv,bv,lt,lb,B,c,T,⟨k.at_ hb (hs _ _ _ hb (.inl hT)),hT,c2,c3,c4⟩,k.owns F.ag (hS F.ag (.inr (.inl rfl))),F.Iw,k.owns F.bG (hS F.bG (.inr (.inr (.inl rfl)))),λx hx=>k.owns (F.iX x hx) (hS (F.iX x hx) (.inr (.inr (.inr (.inr rfl))))),
  F.Mj,k.owns F.dz (hS F.dz (.inr (.inr (.inr (.inl rfl))))),λx hx=>k.owns (F.rh x hx) (hS (F.rh x hx) (.inr (.inr (.inr (.inr rfl)))))⟩
theorem Pl.alloc{w:World}{ob po:Nat}{ol:Ol}(h:Pl w ob po ol)(o:Obj):Pl (w.alloc o) ob po ol:=
 h.keep (S:=λ_=>False) ((Kp.refl _ _).alloc _) (λ_ _ _ _ _ x=>x)
theorem Pl.str{w:World}{ob po:Nat}{ol:Ol}(h:Pl w ob po ol):mg w ob po ol.ag:=by
 obtain⟨sv,tv,bv,lt,lb,B,c,T,⟨hb,hT,c2,c3,c4⟩,F⟩:=h;exact⟨sv,B,by simp[World.cell?,hb,c2],F.ag⟩
theorem Pl.ae6{w:World}{ob po:Nat}{ol:Ol}(h:Pl w ob po ol):∃ao cap,w.cell? ⟨ob,po+3,none⟩=some (.slice ao ol.bG.length cap):=by
 obtain⟨sv,tv,bv,lt,lb,B,c,T,⟨hb,hT,c2,c3,c4⟩,F⟩:=h;obtain⟨ao,cap,e⟩:=aF F.bG;exact⟨ao,cap,by rw[<-F.Iw,List.length_map,<-e];simp[World.cell?,hb,c3]⟩
theorem Pl.ae7{w:World}{ob po:Nat}{ol:Ol}(h:Pl w ob po ol):∃ao cap,w.cell? ⟨ob,po+4,none⟩=some (.slice ao ol.dz.length cap):=by
 obtain⟨sv,tv,bv,lt,lb,B,c,T,⟨hb,hT,c2,c3,c4⟩,F⟩:=h;obtain⟨ao,cap,e⟩:=aF F.dz;exact⟨ao,cap,by rw[<-F.Mj,List.length_map,<-e];simp[World.cell?,hb,c4]⟩
theorem Pl.tr{w:World}{ob po:Nat}{ol:Ol}(h:Pl w ob po ol){k:Nat}{t:Tr}(ht:ol.bG[k]? =some t):
 ∃g cap ac B,w.cell? ⟨ob,po+3,none⟩=some (.slice (some ⟨g,0,none⟩) ol.bG.length cap)/\(∀j,j<7->w.cell? ⟨g,k*7+j,none⟩=[Value.int .i64 t.state,.int .u8 t.kr,.int .u8 t.guard.var,.int .u8 t.guard.sign,.int .i64 t.guard.digit,ac,.int .u8 t.target][j]?)/\
  w.ownsRow B 255 3 ac t.acts.length (fD t.acts):=by
 obtain⟨sv,tv,bv,lt,lb,B,c,T,⟨hb,hT,c2,c3,c4⟩,F⟩:=h;rw[<-F.Iw,List.getElem?_map]at ht
 cases hx:lt[k]? with
 |none=>rw[hx]at ht;simp at ht
 |some x=>?_
 rw[hx]at ht;simp at ht;subst ht;have hk:=(List.getElem?_eq_some_iff.1 hx).1;obtain⟨g,cap,rfl⟩:=gD F.bG (by omega);refine⟨g,cap,x.2,B,by rw[<-F.Iw,List.length_map];simp[World.cell?,hb,c3],λj hj=>?_,F.iX x (List.mem_of_getElem? hx)⟩;rw[F.bG.cellAt (k*7+j) (by omega)];exact Ab _ 7 (by intro _;rfl) lt k j x hx hj
theorem Pl.bl{w:World}{ob po:Nat}{ol:Ol}(h:Pl w ob po ol){k:Nat}{t:Bl}(ht:ol.dz[k]? =some t):
 ∃g cap ac B,w.cell? ⟨ob,po+4,none⟩=some (.slice (some ⟨g,0,none⟩) ol.dz.length cap)/\(∀j,j<3->w.cell? ⟨g,k*3+j,none⟩=[Value.int .i64 t.state,.int .u8 t.sign,ac][j]?)/\
  w.ownsRow B 255 3 ac t.acts.length (fD t.acts):=by
 obtain⟨sv,tv,bv,lt,lb,B,c,T,⟨hb,hT,c2,c3,c4⟩,F⟩:=h;rw[<-F.Mj,List.getElem?_map]at ht
 cases hx:lb[k]? with
 |none=>rw[hx]at ht;simp at ht
 |some x=>?_
 rw[hx]at ht;simp at ht;subst ht;have hk:=(List.getElem?_eq_some_iff.1 hx).1;obtain⟨g,cap,rfl⟩:=gD F.dz (by omega);refine⟨g,cap,x.2,B,by rw[<-F.Mj,List.length_map];simp[World.cell?,hb,c4],λj hj=>?_,F.rh x (List.mem_of_getElem? hx)⟩;rw[F.dz.cellAt (k*3+j) (by omega)];exact Ab _ 3 (by intro _;rfl) lb k j x hx hj
structure Ch.Ma where
 s:Sd
 q:List Int
 out:List Int
def iq(w:World)(mb ob po:Nat)(s:Sd)(qv ov:Value):Prop:=du w mb [.pointer (some ⟨ob,po,none⟩)] s [qv,ov] 149
section
variable {w:World} {mb ob po:Nat} {s:Sd} {qv ov:Value}
theorem iq.plan(h:iq w mb ob po s qv ov):w.cell? ⟨mb,0,none⟩=some (.pointer (some ⟨ob,po,none⟩)):=by
 unfold iq du ju at h;simp[World.cell?,h]
theorem iq.queue(h:iq w mb ob po s qv ov)(hw:s.Wf):w.cell? ⟨mb,37,none⟩=some qv:=by
 have:=du.at_ h hw 20;simpa[cf,bf,hw.2,List.getElem?_append]using this
theorem iq.out(h:iq w mb ob po s qv ov)(hw:s.Wf):w.cell? ⟨mb,38,none⟩=some ov:=by
 have:=du.at_ h hw 21;simpa[cf,bf,hw.2,List.getElem?_append]using this
theorem iq.MR(h:iq w mb ob po s qv ov)(hw:s.Wf)(v:Value):iq (w.setCell ⟨mb,37,none⟩ v) mb ob po s v ov:=by
 have:=du.ML h hw 20 v;unfold iq du
 have e:(cf s++[qv,ov]).set 20 v=cf s++[v,ov]:=by
  have hl:(cf s).length=20:=by simp[cf,bf,hw.2]
  rw[List.set_append_right _ _ (by omega),hl];rfl
 rw[e]at this;simpa using this
theorem iq.acv(h:iq w mb ob po s qv ov)(hw:s.Wf)(v:Value):iq (w.setCell ⟨mb,38,none⟩ v) mb ob po s qv v:=by
 have:=du.ML h hw 21 v;unfold iq du
 have e:(cf s++[qv,ov]).set 21 v=cf s++[qv,v]:=by
  have hl:(cf s).length=20:=by simp[cf,bf,hw.2]
  rw[List.set_append_right _ _ (by omega),hl];rfl
 rw[e]at this;simpa using this
end
def km(B mb:Nat)(w:World)(k:Nat):Prop:=k=mb\/(B<=k/\∃cur,w.heap[k]? =some (.cells cur 5 (0,0)))
theorem Km.trans{B mb:Nat}{a b c:World}(h:Kp (km B mb a) a b)(k:Kp (km B mb b) b c):Kp (km B mb a) a c:=
 h.trans' k λi hi x=>by
  by_cases q:km B mb a i
  ·exact q
  rcases x with x|⟨x,cur,y⟩
  ·exact .inl x
  rw[h.block i hi q]at y;exact .inr ⟨x,cur,y⟩
theorem Pl.km{w w':World}{B mb ob po:Nat}{ol:Ol}{c:Array Value}(h:Pl w ob po ol)(k:Kp (km B mb w) w w')(hm:w.heap[mb]? =some (.cells c 149 (0,0))):Pl w' ob po ol:=
 h.keep k λi cur T hi hT x=>by
  rcases x with rfl|⟨_,cur',y⟩
  ·rw[hm]at hi;simp at hi;obtain⟨_,rfl⟩:=hi;revert hT;unfold YS oT;decide
  rw[y]at hi;simp at hi;obtain⟨_,rfl⟩:=hi;revert hT;unfold YS oT;decide
def Mm(w:World)(B mb ob po:Nat)(m:Ma):Prop:=∃qv ov,iq w mb ob po m.s qv ov/\cD w B qv (ar m.q)/\cD w B ov (ar m.out)/\Apart qv ov
namespace Ch
def Sd.Ok(s:Sd):Prop:=s.Wf/\((-99<=s.x/\s.x<=99)/\(-99<=s.y/\s.y<=99)/\(-99<=s.z/\s.z<=99))/\s.tm.size<=17
def Ac.Ok(a:Ac):Prop:=0<=a.digit/\a.digit<=9
theorem acw{s:Sd}(h:s.Ok)(c:Int): -99<=var s c/\var s c<=99:=by
 obtain⟨_,⟨h1,h2,h3⟩,_⟩:=h;unfold var
 split
 ·exact h1
 split
 ·exact h2
 exact h3
def dJ(s:Sd)(a:Ac):Int:=if a.sign==43 then var s a.letter+a.digit else if a.sign==45 then var s a.letter-a.digit else a.digit
def k8(s:Sd)(c n:Int):Sd:=if jU n then fX s c n else s
theorem Zm{s:Sd}(h:s.Ok)(c n:Int):(k8 s c n).Ok:=by
 unfold k8
 split
 ·rename_i q
  simp[jU]at q;obtain⟨h0,⟨h1,h2,h3⟩,h4⟩:=h;unfold fX
  split
  ·exact⟨h0,⟨q,h2,h3⟩,h4⟩
  split
  ·exact⟨h0,⟨h1,q,h3⟩,h4⟩
  exact⟨h0,⟨h1,h2,q⟩,h4⟩
 exact h
end Ch
section
variable (w:World) (B mb ob po:Nat)
theorem uu(m:Ma)(c:Int)(h:Mm w B mb ob po m)(hw:m.s.Wf)(hB:B<=w.heap.size)(hq:m.q.length<=1000000000):
 Calls prog 183 #[.pointer (some ⟨mb,0,none⟩),.int .u8 c] w λx w'=>x= .returned (.tuple #[])/\Mm w' B mb ob po {m with q:=m.q++[c]}/\Kp (km B mb w) w w':=by
 obtain⟨qv,ov,hm,oq,oo,ap⟩:=h;have cq:=hm.queue hw;have HM:=hid hm;clear hm
 go_enter func183,ntmps183
 go_wp2_with (at_builtin;refine fu rfl (.tmp 8) (.tmp 10) rfl rfl (oq.alloc _) ⟨w.heap.size,0,none⟩ 1 1 [.int .u8 c] rfl rfl (by decide) (by exact eO _ _ _) (by intro u hu;simp at hu;subst hu;rfl) (by simp[ar];omega) (by simp;omega) ?_)
 intro ga oa ca w3 q3 g3 hb3;have KG:Kp (λi=>qv.ownBlock=some i) w w3:=((Kp.refl _ _).alloc _).grown g3 (λi hi _=>hi);have Ix:iq w3 mb ob po m.s qv ov:=du.keep HM.out KG (oq.ne HM.out (by decide));have oo3:=oo.keep KG (λi hi x=>ap i x hi)
 have hap:Apart (.slice (some ⟨ga,oa,none⟩) ((ar m.q).length+1) ca) ov:=by
  intro i hi x;simp[Value.ownBlock]at hi;subst hi
  rcases hb3 with hb3|hb3
  ·exact ap _ hb3 x
  have:=(oo.lt _ x).2;try simp at hb3
  omega
 have KA:Kp (km B mb w) w w3:=(Kp.refl _ _).trans' KG (λi hi x=>.inr ⟨(oq.lt i x).1,oq.block x⟩);have cq3:=Ix.queue hw;have fr3:=du.free Ix 37;have HH:=hid (ae Ix (ae q3 (ae oo3 (ae hap KA))));clear HM KG Ix oo3 hap KA oq oo ap q3 g3 hb3 cq;go_wp2
 go_end0
 obtain⟨Ix,q3,oo3,hap,KA⟩:=HH.out;have n1:=q3.ne Ix (by decide);have n2:=oo3.ne Ix (by decide);have KS:Kp (λk=>k=mb) w3 (w3.setCell ⟨mb,37,none⟩ (.slice (some ⟨ga,oa,none⟩) ((ar m.q).length+1) ca)):=(Kp.refl _ _).setCell (by intro _;rfl) _;refine⟨rfl,⟨_,ov,Ix.MR hw _,?_,oo3.keep KS (λi hi x=>by subst x;exact n2 hi),hap⟩,KA.trans' KS (λi _ x=>.inl x)⟩;rw[d_];exact q3.keep KS (λi hi x=>by subst x;exact n1 hi)
theorem MT(m:Ma)(a:Ac)(h:Mm w B mb ob po m)(hs:m.s.Ok)(ha:a.Ok):
 Calls prog 225 #[.pointer (some ⟨mb,0,none⟩),.agg #[.int .u8 a.sign,.int .u8 a.letter,.int .i64 a.digit]] w λx w'=>x= .returned (.bool (jU (dJ m.s a)))/\Mm w' B mb ob po {m with s:=k8 m.s a.letter (dJ m.s a)}/\Kp (km B mb w) w w':=by
 obtain⟨qv,ov,hm,oq,oo,ap⟩:=h;have K1:Kp (λ_=>False) w (w.alloc (.cells #[.int .u8 a.sign,.int .u8 a.letter,.int .i64 a.digit] 255)):=(Kp.refl _ _).alloc _;have e1:=heap_alloc_new w (.cells #[.int .u8 a.sign,.int .u8 a.letter,.int .i64 a.digit] 255);have hm1:iq (w.alloc (.cells #[.int .u8 a.sign,.int .u8 a.letter,.int .i64 a.digit] 255)) mb ob po m.s qv ov:=du.keep hm K1 (λx=>x)
 have hne:w.heap.size≠mb:=λe=>by have:=du.lt hm;omega
 have HQ:=hid (ae (oq.alloc (.cells #[.int .u8 a.sign,.int .u8 a.letter,.int .i64 a.digit] 255)) (ae (oo.alloc (.cells #[.int .u8 a.sign,.int .u8 a.letter,.int .i64 a.digit] 255)) ap));obtain⟨hd0,hd9⟩:=ha;have hv:=acw hs a.letter;have hw:=hs.1
 have Fin:∀(w':World),du w' mb [.pointer (some ⟨ob,po,none⟩)] (if jU (dJ m.s a)then fX m.s a.letter (dJ m.s a)else m.s) [qv,ov] 149->Kp (λk=>k=mb) (w.alloc (.cells #[.int .u8 a.sign,.int .u8 a.letter,.int .i64 a.digit] 255)) w'->
  Mm w' B mb ob po {m with s:=k8 m.s a.letter (dJ m.s a)}/\Kp (km B mb w) w w':=by
  intro w' hS' hK;obtain⟨q1,q2,q3⟩:=HQ.out;have n1:=q1.ne hm1 (by decide);have n2:=q2.ne hm1 (by decide);exact⟨⟨qv,ov,hS',q1.keep hK (λi hi x=>by subst x;exact n1 hi),q2.keep hK (λi hi x=>by subst x;exact n2 hi),q3⟩,((Kp.refl (km B mb w) w).trans' K1 (λ_ _ x=>x.elim)).trans' hK (λi _ x=>.inl x)⟩
 have HFin:=hid Fin;clear Fin HQ oq oo ap hm
 have c0:(w.alloc (.cells #[.int .u8 a.sign,.int .u8 a.letter,.int .i64 a.digit] 255)).cell? ⟨w.heap.size,0,none⟩=some (.int .u8 a.sign):=by rw[World.cell?,e1];rfl
 have c1:(w.alloc (.cells #[.int .u8 a.sign,.int .u8 a.letter,.int .i64 a.digit] 255)).cell? ⟨w.heap.size,1,none⟩=some (.int .u8 a.letter):=by rw[World.cell?,e1];rfl
 have c2:(w.alloc (.cells #[.int .u8 a.sign,.int .u8 a.letter,.int .i64 a.digit] 255)).cell? ⟨w.heap.size,2,none⟩=some (.int .i64 a.digit):=by rw[World.cell?,e1];rfl
 clear e1 K1
 have nv:dJ m.s a=if a.sign==43 then Ch.var m.s a.letter+a.digit else if a.sign==45 then Ch.var m.s a.letter-a.digit else a.digit:=rfl
 cases q1:a.sign==43 with
 |true=>
  have hn:dJ m.s a=Ch.var m.s a.letter+a.digit:=by rw[nv,q1];rfl
  have Zj:IntKind.i64.wrap (Ch.var m.s a.letter+a.digit)=Ch.var m.s a.letter+a.digit:=eU ⟨by omega,by omega⟩;rw[hn]at HFin⊢;clear nv hn
  go_enter func225,ntmps225
  go_upto_region 4 with(fail)
  generalize (w.alloc (.cells #[.int .u8 a.sign,.int .u8 a.letter,.int .i64 a.digit] 255))=w1 at hm1 HFin c0 c1 c2⊢;have E1:=hid (ri w1.drew mb 1 [.pointer (some ⟨ob,po,none⟩)] m.s [qv,ov] 149 a.letter (by exact hm1) hw rfl)
  go_region_with (go_at_call 257;refine bH E1 ?_;rintro x w2 ⟨rfl,rfl⟩)
  all_goals
   have KD:Kp (λk=>k=mb) w1 w1.drew.drew:=(Kp.refl _ _).drew.drew;have E2:=hid (mh w1.drew.drew mb 1 [.pointer (some ⟨ob,po,none⟩)] m.s [qv,ov] 149 a.letter (Ch.var m.s a.letter+a.digit) (by exact hm1) hw rfl)
   go_upto_region 7 with(fail)
   go_region_with (go_at_call 258;refine bH E2 ?_;rintro x w3 ⟨rfl,h3,K3⟩;have H3:=hid (ae h3 K3);clear h3 K3)
   all_goals
    obtain⟨h3,K3⟩:=H3.out;go_wp2;go_ret;exact⟨rfl,HFin.out _ h3 (KD.trans K3)⟩
 |false=>?_
 cases q2:a.sign==45 with
 |true=>
  have hn:dJ m.s a=Ch.var m.s a.letter-a.digit:=by rw[nv,q1,q2];rfl
  have Zj:IntKind.i64.wrap (Ch.var m.s a.letter-a.digit)=Ch.var m.s a.letter-a.digit:=eU ⟨by omega,by omega⟩;rw[hn]at HFin⊢;clear nv hn
  go_enter func225,ntmps225
  go_upto_region 6 with(fail)
  generalize (w.alloc (.cells #[.int .u8 a.sign,.int .u8 a.letter,.int .i64 a.digit] 255))=w1 at hm1 HFin c0 c1 c2⊢;have E1:=hid (ri w1.drew mb 1 [.pointer (some ⟨ob,po,none⟩)] m.s [qv,ov] 149 a.letter (by exact hm1) hw rfl)
  go_region_with (go_at_call 257;refine bH E1 ?_;rintro x w2 ⟨rfl,rfl⟩)
  all_goals
   have KD:Kp (λk=>k=mb) w1 w1.drew.drew:=(Kp.refl _ _).drew.drew;have E2:=hid (mh w1.drew.drew mb 1 [.pointer (some ⟨ob,po,none⟩)] m.s [qv,ov] 149 a.letter (Ch.var m.s a.letter-a.digit) (by exact hm1) hw rfl)
   go_upto_region 7 with(fail)
   go_region_with (go_at_call 258;refine bH E2 ?_;rintro x w3 ⟨rfl,h3,K3⟩;have H3:=hid (ae h3 K3);clear h3 K3)
   all_goals
    obtain⟨h3,K3⟩:=H3.out;go_wp2;go_ret;exact⟨rfl,HFin.out _ h3 (KD.trans K3)⟩
 |false=>?_
 have hn:dJ m.s a=a.digit:=by rw[nv,q1,q2];rfl
 rw[hn]at HFin⊢;clear nv hn
 go_enter func225,ntmps225
 go_upto_region 7 with(fail)
 generalize (w.alloc (.cells #[.int .u8 a.sign,.int .u8 a.letter,.int .i64 a.digit] 255))=w1 at hm1 HFin c0 c1 c2⊢;have KD:Kp (λk=>k=mb) w1 w1.drew:=(Kp.refl _ _).drew;have E2:=hid (mh w1.drew mb 1 [.pointer (some ⟨ob,po,none⟩)] m.s [qv,ov] 149 a.letter (a.digit) (by exact hm1) hw rfl)
 go_region_with (go_at_call 258;refine bH E2 ?_;rintro x w3 ⟨rfl,h3,K3⟩;have H3:=hid (ae h3 K3);clear h3 K3)
 all_goals
  obtain⟨h3,K3⟩:=H3.out;go_wp2;go_ret;exact⟨rfl,HFin.out _ h3 (KD.trans K3)⟩
end
end Go.Proofs.YtnlbchmfcebeeaaGreat
