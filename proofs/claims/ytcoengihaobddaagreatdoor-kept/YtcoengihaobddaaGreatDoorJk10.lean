/- Part 10 of 34 of a proof: Keep12, Keep14, Keep15, Keep18, Keep13, Keep19 -/
import Derived.Test.YtcoengihaobddaaGreatDoorJk09
set_option maxHeartbeats 8000000
set_option linter.unusedVariables false
set_option linter.unusedSimpArgs false
set_option maxRecDepth 8000
namespace Go.Proofs.YtcoengihaobddaaGreatDoor
namespace keep
open Go.ChangeShapes Go.WideShapes Go.ChangeAt Go.RowKit disk ref book
open law (qe zc qv yj ym zR jI cB Chg Yt)
open keys (ze zd zr zn zu)
theorem wpList_append_own{P:Program}{ops:Array Oper}{rest:List Oper}{o:Oper}{a:Act}{w:World}{Q:Exit→Act→World→Prop}(hgd:o.guard=none)(s x:Operand)(t:TypeId)
 (ho:o.op=.call {callee:=.builtin .append,args:=#[s,x],argTypes:=#[t,t] })
 (e:TypeId) (i:TypeInfo) (z:Value) (size bytes:Nat) (ht:P.underlying t=some (.slice e)) (hi:P.info? e=some i) (hz:i.zero=some z)
 (hsize:i.size=size) (hby:i.bytes=bytes) (hzs:z.cells.size=size) (hsz:0<size) (v:Value) (n:Nat) (xs:List Value) (hs:a.eval s=v) (hown:w.ownsRow 0 e size v n xs)
 (ad:Addr) (m c:Nat) (news:List Value) (hx:a.eval x=.slice (some ad) m c) (hl:news.length=m*size) (hnews:∀j u,news[j]? =some u→w.cell? (ad.add j)=some u) (h1:∀u∈news,u.oneCell'=true)
 (h63:n+m≤maxLen) (hbytes:(n+m)*bytes≤140737488355328)
 (h:∀a' c' w',w'.ownsRow 0 e size (.slice a' (n+m) c') (n+m) (xs++news)→w.grownBy w' v.ownBlock→((Value.slice a' (n+m) c').ownBlock=v.ownBlock∨(Value.slice a' (n+m) c').ownBlock=some w.heap.size)→wpList P ops Q rest (a.put o.dst (.slice a' (n+m) c')) w'):wpList P ops Q (o::rest) a w:=by
 refine wpList_plain hgd fun K hK=>?_
 obtain⟨v',w',hr,h2,h3,_,h5⟩:=run_append_own_at (P:=P) w 0 t o.type e i z size bytes ht hi hz hsize hby hzs hsz v n xs hown ad m c news hl hnews h1 h63 hbytes (Nat.zero_le _)
 obtain⟨a',c',rfl⟩:∃a' c',v'=.slice a' (n+m) c':=by
  rcases h2.2 with⟨e1,e2⟩|⟨g',cap',cur',e1,_⟩
  ·exact⟨none,0,by rw [e1,e2]⟩
  ·exact⟨_,cap',e1⟩
 unfold Oper.wp execOp
 simp only [ho,resolve,invoke,builtin,Sem.run_bind,Sem.run_pure,Result.andThen_ok,List.map_toArray,List.map_cons,List.map_nil,hs,hx,hr]
 exact hK _ _ (h a' c' w' h2 h3 h5)
def cut{α:Type}(l:List α)(i:Nat):List α:=l.take i++l.drop (i+1)
theorem gk{α:Type}(l:List α)(i:Nat)(h:i<l.length):(cut l i).length+1=l.length:=by unfold cut;simp;omega
theorem uJ:∀(vs:List qa) (i:Nat) (h:i<vs.length),xx vs→jt vs vs[i].key vs[i].num=cut vs i
 |u::vs,0,_,ha=>by
  unfold xx at ha
  rw [List.pairwise_cons] at ha
  unfold jt cut
  simp only [List.getElem_cons_zero,List.take_zero,List.nil_append,Nat.zero_add,List.drop_succ_cons,List.drop_zero]
  rw [List.filter_cons,if_neg (by simp)]
  refine List.filter_eq_self.2 (fun v hv=>?_)
  have:=ha.1 v hv
  have hne:¬(v.key=u.key∧v.num=u.num):=fun hc=>this ⟨hc.1.symm,hc.2.symm⟩
  rw [Bool.not_eq_true',Bool.eq_false_iff];simp only [ne_eq,Bool.and_eq_true,decide_eq_true_eq];exact hne
 |u::vs,i+1,h,ha=>by
  unfold xx at ha
  rw [List.pairwise_cons] at ha
  have hi:i<vs.length:=by simpa using h
  have ih:=uJ vs i hi ha.2
  have hne:¬(u.key=vs[i].key∧u.num=vs[i].num):=ha.1 _ (List.getElem_mem hi)
  unfold jt cut at ih ⊢
  simp only [List.getElem_cons_succ,List.take_succ_cons,List.drop_succ_cons,List.cons_append]
  rw [List.filter_cons,if_pos (by rw [Bool.not_eq_true',Bool.eq_false_iff];simp only [ne_eq,Bool.and_eq_true,decide_eq_true_eq];exact hne),ih]
theorem bu{α:Type}(l:List α)(i j:Nat)(h:j<(cut l i).length)(hi:i<l.length):∃k,∃hk:k<l.length,(cut l i)[j]=l[k]∧k=if j<i then j else j+1:=by
 have hl:=gk l i hi
 unfold cut at h ⊢
 by_cases hj:j<i
 ·refine⟨j,by omega,?_,by rw [if_pos hj]⟩
  rw [List.getElem_append_left (by simp;omega),List.getElem_take]
 ·have h2:j+1<l.length:=by simp at h;omega
  refine⟨j+1,h2,?_,by rw [if_neg hj]⟩
  rw [List.getElem_append_right (by simp;omega),List.getElem_drop]
  congr 1
  simp;omega
theorem Told.cut{w:World}{P:Nat→Prop}{cs:List (List Value)}{vs:List qa}(h:Told w P cs vs)(i:Nat)(hi:i<vs.length):Told w P (cut cs i) (cut vs i):=by
 have hl:=h.len
 have h1:=gk cs i (by omega)
 have h2:=gk vs i hi
 refine⟨by omega,fun j hj hj'=>?_⟩
 obtain⟨k,hk,e1,e2⟩:=bu cs i j hj (by omega)
 obtain⟨k',hk',e1',e2'⟩:=bu vs i j hj' hi
 obtain rfl:k=k':=by rw [e2,e2']
 rw [e1,e1']
 exact h.each k hk hk'
theorem qY{cs:List (List Value)}(h:∀c∈cs,c.length=3):cs.flatten.length=cs.length*3:=by
 induction cs with
 |nil=>rfl
 |cons c cs ih=>
  rw [List.flatten_cons,List.length_append,ih (fun d hd=>h d (List.mem_cons_of_mem _ hd)),h c (List.mem_cons_self ..),List.length_cons]
  omega
section
variable {M:zc} {w w2 w':World} {X T:Nat→Prop} {bp bd bs:Nat} {S S2:Nat→Prop} {D D2:Dk} {V V':qe} {a:Option Addr} {cap:Nat} {cs:List (List Value)} {G:Nat→Prop}
end
end keep
namespace keep
open Go.ChangeShapes Go.WideShapes Go.ChangeAt Go.RowKit disk ref book
open law (qe zc qv xm zR jI cB Yt OutIs)
open keys (ze zd zr zn zu)
def dn(w:World)(Q:Nat→Prop)(a:Option Addr)(ks:List Bool):Prop:=∀j,j<ks.length→∃kb ko,a=some ⟨kb,ko,none⟩∧Q kb∧kb<w.heap.size∧w.cell? ⟨kb,ko+j,none⟩=some (.bool (ks.getD j false))
theorem dn.kept{w w':World}{Q T:Nat→Prop}{a:Option Addr}{ks:List Bool}(h:dn w Q a ks)(k:Kept T w w')(hn:∀i,Q i→¬T i):dn w' Q a ks:=fun j hj=>by
 obtain⟨kb,ko,h1,h2,h3,h4⟩:=h j hj
 exact⟨kb,ko,h1,h2,Nat.lt_of_lt_of_le h3 k.size,(k.cell (a:=⟨kb,ko+j,none⟩) h3 (hn kb h2)).trans h4⟩
def VY(d s l:Value)(last:Int):Obj:=.cells #[d,s,l,.int .i64 last,.int .i64 (-1),.int .i64 0,.bool true] 33 (0,0)
section
variable {M:zc} {w0 w w':World} {bp bd bs:Nat} {O:Obj} {S S':Nat→Prop} {D D':Dk} {V V':qe} {most:Int}
end
theorem dp{vs:List qa}(h:xx vs){v:qa}(hv:v∈vs):qX vs v.key v.num=some v:=by
 cases hf:qX vs v.key v.num with
 |none=>exact absurd ⟨rfl,rfl⟩ (jd hf v hv)
 |some u=>
  obtain⟨h1,h2,h3⟩:=jc hf
  obtain⟨i,hi,rfl⟩:=List.getElem_of_mem h3
  obtain⟨j,hj,rfl⟩:=List.getElem_of_mem hv
  unfold xx at h
  rw [List.pairwise_iff_getElem] at h
  rcases Nat.lt_trichotomy i j with hij|hij|hij
  ·exact absurd ⟨h1,h2⟩ (h i j hi hj hij)
  ·subst hij;rfl
  ·exact absurd ⟨h1.symm,h2.symm⟩ (h j i hj hi hij)
section
variable {M:zc} {w0 w w':World} {bp bd bs:Nat} {O:Obj} {S S':Nat→Prop} {D D':Dk} {V V':qe} {most:Int}
structure KT (w:World) (S:Nat→Prop) (bs:Nat) (a:Option Addr) (cap:Nat) (cs:List (List Value)) (G:Nat→Prop) (vs:List qa):Prop where
 row:Vp w S bs 85 3 (.slice a vs.length cap) vs.length cs.flatten
 told:Told w G cs vs
 far:∀k,G k→¬S k∧k≠bs∧k<w.heap.size
variable {a:Option Addr} {cap:Nat} {cs:List (List Value)} {G:Nat→Prop} {vs:List qa}
theorem KT.cells(h:KT w S bs a cap cs G vs)(h0:0<vs.length):∃g,a=some ⟨g,0,none⟩∧∀i (hi:i<vs.length),w.cell? ⟨g,i*3,none⟩=some (.string vs[i].key)∧w.cell? ⟨g,i*3+1,none⟩=some (.int .i64 vs[i].num)∧∃a' cap',w.cell? ⟨g,i*3+2,none⟩=some (.slice a' vs[i].body.length cap')∧zv w G a' vs[i].body:=by
 obtain⟨g,rfl⟩:∃g,a=some ⟨g,0,none⟩:=by
  rcases h.row.row.2 with⟨h0',h1⟩|⟨g,cap',cur,hv,_⟩
  ·simp at h0';omega
  ·cases hv;exact⟨g,rfl⟩
 refine⟨g,rfl,fun i hi=>?_⟩
 have hl:=h.told.len
 have hr:=h.row.row
 rw [←hl] at hr
 have hx:=qI hr h.told.three i (by rw [hl];exact hi)
 obtain⟨a',cap',e,hb⟩:=(h.told.each i (by rw [hl];exact hi) hi).at_
 rw [e] at hx
 exact⟨hx 0 _ rfl,hx 1 _ rfl,a',cap',hx 2 _ rfl,hb⟩
end
end keep
namespace keep
open disk ref
open law (qe)
theorem Y9{α:Type}(l:List α)(i:Nat)(h:i<l.length):l=l.take i++l[i]::l.drop (i+1):=by
 rw [←List.drop_eq_getElem_cons h,List.take_append_drop]
theorem xq(vs us:List qa):weight (vs++us)=weight vs+weight us:=by unfold weight;rw [List.map_append,List.sum_append]
theorem jK(v:qa)(vs:List qa):weight (v::vs)=qr v.body.length+weight vs:=by unfold weight;rw [List.map_cons,List.sum_cons]
theorem xe(vs:List qa)(i:Nat)(h:i<vs.length):weight (cut vs i)+qr vs[i].body.length=weight vs:=by
 have e:weight vs=weight (vs.take i++vs[i]::vs.drop (i+1)):=congrArg weight (Y9 vs i h)
 rw [e,xq,jK]
 unfold cut
 rw [xq]
 omega
theorem bv{α:Type}(l:List α)(i:Nat):(cut l i).Sublist l:=by
 unfold cut
 have h:((l.take i)++l.drop (i+1)).Sublist (l.take i++l.drop i):=(List.Sublist.refl _).append (by
  rw [←List.drop_drop]
  exact List.drop_sublist _ _)
 rwa [List.take_append_drop] at h
theorem Ks{α:Type}(l:List α)(i j:Nat)(hj:j<l.length)(hne:j≠i):l[j]∈cut l i:=by
 unfold cut
 by_cases h:j<i
 ·exact List.mem_append_left _ (List.mem_take_iff_getElem.2 ⟨j,by omega,rfl⟩)
 ·exact List.mem_append_right _ (List.mem_drop_iff_getElem.2 ⟨j-(i+1),by omega,by congr 1;omega⟩)
theorem Xa{vs:List qa}(h:xx vs){i j:Nat}(hi:i<vs.length)(hj:j<vs.length)(e:vs[i].key=vs[j].key∧vs[i].num=vs[j].num):i=j:=by
 unfold xx at h
 rw [List.pairwise_iff_getElem] at h
 rcases Nat.lt_trichotomy i j with hij|hij|hij
 ·exact absurd e (h i j hi hj hij)
 ·exact hij
 ·exact absurd ⟨e.1.symm,e.2.symm⟩ (h j i hj hi hij)
structure yk (V:qe) (vs:List qa) (last:Int) (lost:Nat):Prop where
 sub:∀v∈vs,v∈V.vs
 apart:xx vs
 plain:∀v∈vs,v.mark=false
 last:last≤V.n0
 wt:weight V.vs≤weight vs+lost
def vr(V:qe)(vs:List qa)(i:Nat)(last:Int)(lost:Nat):Prop:=yk V vs last lost∨∃h:i<vs.length,yk V (cut vs i) last lost∧qX V.vs vs[i].key vs[i].num=none
section
variable {V U:qe} {vs:List qa} {last:Int} {lost:Nat}
theorem yk.none(n:Int)(h:0≤n):yk ⟨[],n⟩ [] 0 0:=⟨fun _ h=>(nomatch h),List.Pairwise.nil,fun _ h=>(nomatch h),h,Nat.zero_le _⟩
theorem yk.put(h:yk V vs last lost)(g:law.Good V)(key:ByteArray)(B:List UInt8):yk (V.add key false B) (vs++[⟨key,V.n0+1,false,B⟩]) (V.n0+1) lost:=by
 refine⟨fun v hv=>?_,?_,fun v hv=>?_,Int.le_refl _,?_⟩
 ·rcases List.mem_append.1 hv with h1|h1
  ·exact List.mem_append_left _ (h.sub v h1)
  ·exact List.mem_append_right _ h1
 ·refine List.pairwise_append.2 ⟨h.apart,List.pairwise_singleton _ _,fun a ha b hb e=>?_⟩
  rw [List.mem_singleton.1 hb] at e
  have:=(g.num a (h.sub a ha)).2
  have e2:a.num=V.n0+1:=e.2
  omega
 ·rcases List.mem_append.1 hv with h1|h1
  ·exact h.plain v h1
  ·rw [List.mem_singleton.1 h1]
 ·rw [gH,xq,jK]
  have:=h.wt
  show _+qr B.length≤weight vs+(qr B.length+0)+lost
  omega
theorem yk.lose(h:yk V vs last lost)(key:ByteArray)(B:List UInt8)(hU:U=V∨U=V.add key false B):yk U vs last (lost+qr B.length):=by
 rcases hU with rfl|rfl
 ·exact⟨h.sub,h.apart,h.plain,h.last,by have:=h.wt;omega⟩
 ·refine⟨fun v hv=>List.mem_append_left _ (h.sub v hv),h.apart,h.plain,by have:=h.last;show last≤V.n0+1;omega,?_⟩
  rw [gH]
  have:=h.wt
  omega
theorem yk.erase(h:yk V vs last lost)(g:law.Good V)(i:Nat)(hi:i<vs.length):yk (V.sub vs[i].key vs[i].num) (cut vs i) last lost:=by
 have hm:=h.sub _ (List.getElem_mem hi)
 obtain⟨j,hj,e⟩:=List.getElem_of_mem hm
 have ew:jt V.vs vs[i].key vs[i].num=cut V.vs j:=by rw [←e];exact uJ V.vs j hj g.apart
 refine⟨fun v hv=>?_,h.apart.sub (bv _ _),fun v hv=>h.plain v ((bv vs i).mem hv),h.last,?_⟩
 ·show v∈jt V.vs vs[i].key vs[i].num
  refine List.mem_filter.2 ⟨h.sub v ((bv vs i).mem hv),?_⟩
  obtain⟨k,hk,rfl⟩:=List.getElem_of_mem hv
  obtain⟨k',hk',e1,e2⟩:=bu vs i k hk hi
  rw [e1]
  have hne:¬(vs[k'].key=vs[i].key∧vs[k'].num=vs[i].num):=fun hc=>by
   have:=Xa h.apart hk' hi hc
   split at e2<;>omega
  simp only [Bool.not_eq_true',Bool.and_eq_false_iff,decide_eq_false_iff_not]
  exact Classical.not_and_iff_not_or_not.1 hne
 ·show weight (jt V.vs vs[i].key vs[i].num)≤_
  have h1:=xe V.vs j hj
  have h2:=xe vs i hi
  have h3:=h.wt
  rw [ew]
  rw [e] at h1
  omega
theorem yk.gone(h:yk V vs last lost)(g:law.Good V)(i:Nat)(hi:i<vs.length)(hU:U=V∨U=V.sub vs[i].key vs[i].num):vr U vs i last lost:=by
 rcases hU with rfl|rfl
 ·exact .inl h
 ·refine .inr ⟨hi,h.erase g i hi,?_⟩
  cases hf:qX (V.sub vs[i].key vs[i].num).vs vs[i].key vs[i].num with
  |none=>rfl
  |some u=>
   obtain⟨h1,h2,h3⟩:=jc hf
   have h4:=(List.mem_filter.1 h3).2
   simp [h1,h2] at h4
end
end keep
namespace keep
open Go.ChangeShapes Go.WideShapes Go.ChangeAt Go.RowKit disk ref book
open law (qe zc qv yj ym zR jI cB Chg Yt)
open keys (ze zd zr zn zu)
theorem xV{o p:Option Nat}{B C k:Nat}(h:o=p∨o=some B)(hB:C≤B)(hp:∀j,p=some j→C≤j)(hk:o=some k):C≤k:=by
 rcases h with h|h
 ·exact hp k (h.symm.trans hk)
 ·have:=Option.some.inj (h.symm.trans hk);omega
section
variable {M:zc} {w w':World} {X T:Nat→Prop} {bp bd bs:Nat} {S:Nat→Prop} {D:Dk} {V:qe} {a:Option Addr} {cap:Nat} {cs:List (List Value)} {G:Nat→Prop}
end
end keep
namespace keep
open Go.ChangeShapes Go.WideShapes Go.ChangeAt Go.RowKit disk ref book
open law (qe zc qv yj ym zR jI cB Chg)
open keys (ze zd zr zn zu)
def qL(d s l:Value)(last gone lost:Int):Obj:=.cells #[d,s,l,.int .i64 last,.int .i64 gone,.int .i64 lost,.bool true] 33 (0,0)
theorem qk{w:World}{bp:Nat}{d s l:Value}{last gone lost:Int}(h:w.heap[bp]? =some (qL d s l last gone lost)):w.cell? ⟨bp,0,none⟩=some d∧w.cell? ⟨bp,1,none⟩=some s∧w.cell? ⟨bp,2,none⟩=some l∧w.cell? ⟨bp,3,none⟩=some (.int .i64 last)∧w.cell? ⟨bp,4,none⟩=some (.int .i64 gone)∧w.cell? ⟨bp,5,none⟩=some (.int .i64 lost)∧w.cell? ⟨bp,6,none⟩=some (.bool true)∧∀i,w.frozen? ⟨bp,i,none⟩=false:=by
 unfold qL at h
 refine⟨?_,?_,?_,?_,?_,?_,?_,fun i=>frozen_of_row w bp i _ _ h⟩<;>rw [cell_of_row w bp _ _ _ _ h]<;>rfl
structure zG (w:World) (X:Nat→Prop) (bp bd bs:Nat) (S:Nat→Prop) (vs:List qa) (last gone:Int) (lost:Nat) (a:Option Addr) (cap:Nat) (cs:List (List Value)) (G:Nat→Prop):Prop where
 head:w.heap[bp]? =some (qL (.pointer (some ⟨bd,0,none⟩)) (.pointer (some ⟨bs,0,none⟩)) (.slice a vs.length cap) last gone (lost:Nat))
 row:w.ownsRow 0 85 3 (.slice a vs.length cap) vs.length cs.flatten
 told:Told w G cs vs
 xlt:∀k,X k→k<w.heap.size
 xS:∀k,S k→X k
 xb:X bs
 xp:X bp
 xr:∀k,(Value.slice a vs.length cap).ownBlock=some k→X k
 xG:∀k,G k→X k
 pS:¬S bp
 pb:bp≠bs
 rS:∀k,(Value.slice a vs.length cap).ownBlock=some k→¬S k∧k≠bs∧k≠bp
 gS:∀k,G k→¬S k∧k≠bs∧k≠bp∧(Value.slice a vs.length cap).ownBlock≠some k
section
variable {M:zc} {w w':World} {X T:Nat→Prop} {bp bd bs:Nat} {S:Nat→Prop} {D:Dk} {V:qe} {vs:List qa} {last gone:Int} {lost:Nat} {a:Option Addr} {cap:Nat} {cs:List (List Value)} {G:Nat→Prop}
theorem xd.gen(h:xd M w X bp bd bs S D V a cap cs G):zG w X bp bd bs S V.vs V.n0 (-1) 0 a cap cs G:=⟨h.head,h.row,h.told,h.xlt,h.xS,h.xb,h.xp,h.xr,h.xG,h.pS,h.pb,h.rS,h.gS⟩
theorem zG.lt(h:zG w X bp bd bs S vs last gone lost a cap cs G):bp<w.heap.size:=h.xlt bp h.xp
theorem zG.kept(h:zG w X bp bd bs S vs last gone lost a cap cs G)(k:Kept T w w')(hn:∀i,X i→¬T i):zG w' X bp bd bs S vs last gone lost a cap cs G:=
 ⟨(k.block bp h.lt (hn bp h.xp)).trans h.head,k.owns h.row (fun i hi=>hn i (h.xr i hi)),h.told.kept k (fun i hi=>hn i (h.xG i hi)),
   fun i hi=>Nat.lt_of_lt_of_le (h.xlt i hi) k.size,h.xS,h.xb,h.xp,h.xr,h.xG,h.pS,h.pb,h.rS,h.gS⟩
theorem zG.aft(h:zG w X bp bd bs S vs last gone lost a cap cs G){w1 w2:World}{S2:Nat→Prop}{last2 gone2:Int}{lost2:Nat}(k1:Kept (fun k=>S k∨k=bs) w w1)(hS2:∀k,S2 k→(S k∨w.heap.size≤k)∧k<w1.heap.size)(k2:Kept (fun k=>k=bp) w1 w2)
 (hh:w2.heap[bp]? =some (qL (.pointer (some ⟨bd,0,none⟩)) (.pointer (some ⟨bs,0,none⟩)) (.slice a vs.length cap) last2 gone2 (lost2:Nat))):zG w2 (fun k=>X k∨(w.heap.size≤k∧k<w2.heap.size)) bp bd bs S2 vs last2 gone2 lost2 a cap cs G:=by
 have s1:=k1.size
 have s2:=k2.size
 have hold:∀k,X k→¬S k→¬S2 k:=fun k hX hn hc=>by
  rcases (hS2 k hc).1 with h1|h1
  ·exact hn h1
  ·have:=h.xlt k hX;omega
 refine⟨hh,k2.owns (k1.owns h.row (fun i hi hc=>?_)) (fun i hi hc=>(h.rS i hi).2.2 hc),(h.told.kept k1 (fun i hi hc=>?_)).kept k2 (fun i hi hc=>(h.gS i hi).2.2.1 hc),fun k hk=>?_,fun k hk=>?_,.inl h.xb,.inl h.xp,fun k hk=>.inl (h.xr k hk),fun k hk=>.inl (h.xG k hk),hold bp h.xp h.pS,h.pb,fun k hk=>?_,fun k hk=>?_⟩
 ·exact hc.elim (h.rS i hi).1 (h.rS i hi).2.1
 ·exact hc.elim (h.gS i hi).1 (h.gS i hi).2.1
 ·rcases hk with hk|hk
  ·have:=h.xlt k hk;omega
  ·exact hk.2
 ·rcases hS2 k hk with⟨h1|h1,h2⟩
  ·exact .inl (h.xS k h1)
  ·exact .inr ⟨h1,by omega⟩
 ·exact⟨hold k (h.xr k hk) (h.rS k hk).1,(h.rS k hk).2⟩
 ·exact⟨hold k (h.xG k hk) (h.gS k hk).1,(h.gS k hk).2⟩
theorem zG.rowAt(h:zG w X bp bd bs S vs last gone lost a cap cs G)(hn:0<vs.length):∃g,a=some ⟨g,0,none⟩:=by
 rcases h.row.2 with⟨h0,h1⟩|⟨g,cap',cur,hv,_⟩
 ·simp at h0;omega
 ·cases hv;exact⟨g,rfl⟩
theorem zG.cells{g:Nat}(h:zG w X bp bd bs S vs last gone lost (some ⟨g,0,none⟩) cap cs G)(i:Nat)(hi:i<vs.length):
 w.cell? ⟨g,i*3,none⟩=some (.string vs[i].key)∧w.cell? ⟨g,i*3+1,none⟩=some (.int .i64 vs[i].num)∧∃a' cap',w.cell? ⟨g,i*3+2,none⟩=some (.slice a' vs[i].body.length cap')∧zv w G a' vs[i].body:=by
 have hl:=h.told.len
 have hr:=h.row
 rw [←hl] at hr
 have hx:=qI hr h.told.three i (by rw [hl];exact hi)
 obtain⟨a',cap',e,hb⟩:=(h.told.each i (by rw [hl];exact hi) hi).at_
 rw [e] at hx
 exact⟨hx 0 _ rfl,hx 1 _ rfl,a',cap',hx 2 _ rfl,hb⟩
theorem uK(h:zG w X bp bd bs S vs last gone lost a cap cs G)(hB:∀v∈vs,v.body.length≤300)(hfew:vs.length≤6000)(hlo:lost≤1000000000):Calls Tryz.prog 32 #[.pointer (some ⟨bp,0,none⟩)] w fun e w'=>e=.returned (.int .i64 ((lost+weight vs:Nat):Int))∧w'=w:=by
 obtain⟨_,_,hc2,_,_,hc5,_,_⟩:=qk h.head
 have HB:Hid (∀v∈vs,v.body.length≤300):=hB
 have HH:Hid (zG w X bp bd bs S vs last gone lost a cap cs G):=h
 clear h hB
 go_enter Tryz.func32,Tryz.ntmps32
 go_wp2
 go_loop [3,4] (fun t i=>∃k:Nat,k≤vs.length∧i=.int .i64 k∧t=.int .i64 ((lost+weight (vs.take k):Nat):Int)) (fun _ i=>vs.length-(intOf i).toNat)
 case atStart=>exact⟨0,Nat.zero_le _,rfl,by simp [weight]⟩
 case round=>
  obtain⟨k,hk,rfl,rfl⟩:=hrel
  have hwl:=v6 (vs:=vs.take k) (fun v hv=>by have:=HB.out v (List.mem_of_mem_take hv);omega)
  have htl:(vs.take k).length≤vs.length:=by rw [List.length_take];omega
  generalize hW:weight (vs.take k)=W at*
  have HW:Hid _:=hW
  clear hW
  have hW2:W≤100000:=by omega
  clear hwl htl
  by_cases hlt:k<vs.length
  ·have HS:Hid _:=jH vs k hlt
   obtain⟨g,rfl⟩:=HH.out.rowAt (by omega)
   obtain⟨_,_,a',cap',h3,_⟩:=HH.out.cells k hlt
   have hb1:=HB.out vs[k] (List.getElem_mem hlt)
   have hkI:(k:Int)<(vs.length:Int):=by omega
   go_wp2
   go_round
   case rel=>exact⟨k+1,by omega,by go_num,by rw [HS.out,HW.out];unfold qr;go_num⟩
   case measure=>simp [intOf];omega
  ·have he:weight vs=W:=by
    have e:vs.take k=vs:=List.take_of_length_le (by omega)
    rw [←HW.out,e]
   go_wp2
   go_ret
   exact⟨ze rfl,rfl⟩
end
end keep
end Go.Proofs.YtcoengihaobddaaGreatDoor
