/- Part 10 of 31 of a proof: Ref5, Book5, Ref6, Ref7, Ord1, Book7 -/
import Derived.Test.YtcoengihaobddaaGreatDoorJl07
set_option maxHeartbeats 8000000
set_option linter.unusedVariables false
set_option linter.unusedSimpArgs false
set_option maxRecDepth 8000
namespace Go.Proofs.YtcoengihaobddaaGreatDoor
namespace ref
theorem xz.inj{vs:List zO}(h:xz vs){i j:Nat}(hi:i<vs.length)(hj:j<vs.length)(e:vs[i].key=vs[j].key∧vs[i].num=vs[j].num):i=j:=by
 rcases Nat.lt_trichotomy i j with h1|h1|h1
 ·exact absurd e (List.pairwise_iff_getElem.1 h i j hi hj h1)
 ·exact h1
 ·exact absurd ⟨e.1.symm,e.2.symm⟩ (List.pairwise_iff_getElem.1 h j i hj hi h1)
structure Xb (vs:List zO) (f:zO→Bool) (L:List zO) (tk:Nat→Bool) (j:Nat):Prop where
 sorted:L.Pairwise fun a b=>a.ahead b=true
 perm:L.Perm (vs.filter f)
 apart:xz vs
 le:j≤L.length
 is:∀i (hi:i<vs.length),tk i=true↔vs[i]∈L.take j
def jL(vs:List zO)(f:zO→Bool)(tk:Nat→Bool)(i:Nat)(b:Int):Prop:=
 (b= -1∧∀c (hc:c<vs.length),c<i→tk c=false→f vs[c]=false)∨
  ∃m,∃hm:m<vs.length,b=(m:Int)∧m<i∧tk m=false∧f vs[m]=true∧∀c (hc:c<vs.length),c<i→tk c=false→f vs[c]=true→c=m∨vs[m].ahead vs[c]=true
theorem jL.start(vs:List zO)(f:zO→Bool)(tk:Nat→Bool):jL vs f tk 0 (-1):=.inl ⟨rfl,fun c _ h=>by omega⟩
section
variable {vs:List zO} {f:zO→Bool} {L:List zO} {tk:Nat→Bool} {i j:Nat} {b:Int}
theorem jL.skip(h:jL vs f tk i b)(hi:i<vs.length)(hs:tk i=true∨f vs[i]=false):jL vs f tk (i+1) b:=by
 have no:tk i=false→f vs[i]=true→False:=fun h1 h2=>by rcases hs with hs|hs<;>simp_all
 rcases h with⟨h1,h2⟩|⟨m,hm,h1,h2,h3,h4,h5⟩
 ·refine .inl ⟨h1,fun c hc hci ht=>?_⟩
  rcases Nat.lt_or_ge c i with h6|h6
  ·exact h2 c hc h6 ht
  ·obtain rfl:c=i:=by omega
   cases hf:f vs[c] with
   |false=>rfl
   |true=>exact(no ht hf).elim
 ·refine .inr ⟨m,hm,h1,by omega,h3,h4,fun c hc hci ht hf=>?_⟩
  rcases Nat.lt_or_ge c i with h6|h6
  ·exact h5 c hc h6 ht hf
  ·obtain rfl:c=i:=by omega
   exact(no ht hf).elim
theorem jL.first(h:jL vs f tk i (-1))(hi:i<vs.length)(ht:tk i=false)(hf:f vs[i]=true):jL vs f tk (i+1) (i:Int):=by
 rcases h with⟨_,h2⟩|⟨m,hm,h1,_⟩
 ·refine .inr ⟨i,hi,rfl,by omega,ht,hf,fun c hc hci htc hfc=>?_⟩
  rcases Nat.lt_or_ge c i with h6|h6
  ·rw [h2 c hc h6 htc] at hfc;cases hfc
  ·exact .inl (by omega)
 ·omega
theorem jL.other{m:Nat}(ha:xz vs)(h:jL vs f tk i (m:Int))(hi:i<vs.length)(hm:m<vs.length)(ht:tk i=false)(hf:f vs[i]=true):jL vs f tk (i+1) (if vs[i].ahead vs[m]=true then (i:Int) else (m:Int)):=by
 rcases h with⟨h1,_⟩|⟨m',hm',h1,h2,h3,h4,h5⟩
 ·omega
 ·obtain rfl:m'=m:=by omega
  by_cases hah:vs[i].ahead vs[m']=true
  ·rw [if_pos hah]
   refine .inr ⟨i,hi,rfl,by omega,ht,hf,fun c hc hci htc hfc=>?_⟩
   rcases Nat.lt_or_ge c i with h6|h6
   ·rcases h5 c hc h6 htc hfc with rfl|h7
    ·exact .inr hah
    ·exact .inr (zO.ahead_trans hah h7)
   ·exact .inl (by omega)
  ·rw [if_neg hah]
   refine .inr ⟨m',hm,rfl,by omega,h3,h4,fun c hc hci htc hfc=>?_⟩
   rcases Nat.lt_or_ge c i with h6|h6
   ·exact h5 c hc h6 htc hfc
   ·obtain rfl:c=i:=by omega
    refine .inr (zO.ahead_total (fun e=>?_) hah)
    have:=ha.inj hi hm' e
    omega
theorem Xb.mem(h:Xb vs f L tk j){v:zO}:v∈L↔v∈vs∧f v=true:=by rw [h.perm.mem_iff,List.mem_filter]
theorem Xb.left(h:Xb vs f L tk j)(hj:j<L.length):∃c,∃hc:c<vs.length,vs[c]=L[j]∧tk c=false∧f vs[c]=true:=by
 have hm:=(h.mem).1 (List.getElem_mem hj)
 obtain⟨c,hc,e⟩:=List.getElem_of_mem hm.1
 refine⟨c,hc,e,?_,by rw [e];exact hm.2⟩
 cases ht:tk c with
 |false=>rfl
 |true=>
  have h1:=(h.is c hc).1 ht
  rw [e] at h1
  obtain⟨q,hq,e2⟩:=List.mem_take_iff_getElem.1 h1
  have h3:=List.pairwise_iff_getElem.1 h.sorted q j (by omega) hj (by omega)
  rw [e2] at h3
  exact absurd h3 (zO.ahead_irrefl _)
theorem Xb.end_(h:Xb vs f L tk j)(hb:jL vs f tk vs.length (-1)):L.length=j:=by
 have hle:=h.le
 rcases Nat.lt_or_ge j L.length with hj|hj
 ·obtain⟨c,hc,_,h2,h3⟩:=h.left hj
  rcases hb with⟨_,h4⟩|⟨m,_,h4,_⟩
  ·rw [h4 c hc hc h2] at h3;cases h3
  ·omega
 ·omega
theorem Xb.next{m:Nat}(h:Xb vs f L tk j)(hm:m<vs.length)(hb:jL vs f tk vs.length (m:Int)):∃hj:j<L.length,L[j]=vs[m]∧Xb vs f L (fun c=>decide (c=m)||tk c) (j+1):=by
 rcases hb with⟨h1,_⟩|⟨m',hm',h1,h2,h3,h4,h5⟩
 ·omega
 ·obtain rfl:m'=m:=by omega
  have hin:vs[m']∈L:=h.mem.2 ⟨List.getElem_mem hm,h4⟩
  obtain⟨q,hq,eq⟩:=List.getElem_of_mem hin
  have hqj:j≤q:=by
   rcases Nat.lt_or_ge q j with h6|h6
   ·have:vs[m']∈L.take j:=by rw [←eq];exact List.mem_take_iff_getElem.2 ⟨q,by omega,rfl⟩
    rw [(h.is m' hm).2 this] at h3;cases h3
   ·exact h6
  have hj:j<L.length:=by omega
  have he:L[j]=vs[m']:=by
   obtain⟨c,hc,e1,e2,e3⟩:=h.left hj
   rcases h5 c hc hc e2 e3 with rfl|h6
   ·exact e1.symm
   ·rcases Nat.lt_or_ge j q with h7|h7
    ·have h8:=List.pairwise_iff_getElem.1 h.sorted j q hj hq h7
     rw [eq,←e1] at h8
     exact absurd h6 (zO.ahead_asymm h8)
    ·obtain rfl:j=q:=by omega
     exact eq
  refine⟨hj,he,h.sorted,h.perm,h.apart,by omega,fun c hc=>?_⟩
  rw [List.take_succ_eq_append_getElem hj,List.mem_append,List.mem_singleton,he]
  simp only [Bool.or_eq_true,decide_eq_true_eq]
  constructor
  ·rintro(rfl|hc2)
   ·exact .inr rfl
   ·exact .inl ((h.is c hc).1 hc2)
  ·rintro(hc2|hc2)
   ·exact .inr ((h.is c hc).2 hc2)
   ·exact .inl (h.apart.inj hc hm (by rw [hc2];exact⟨rfl,rfl⟩))
end
end ref
namespace law
open Go.ChangeShapes Go.WideShapes Go.ChangeAt Go.RowKit disk ref book
open keys (zj zd zy zq)
theorem dy{w:World}{a:Option Addr}{c:Nat}{L:List zO}(h:w.ownsRow 0 94 4 (.slice a L.length c) L.length (yM L))(h0:0<L.length):∃g,a=some ⟨g,0,none⟩∧g<w.heap.size∧∀k (hk:k<L.length),w.cell? ⟨g,k*4,none⟩=some (.string L[k].key)∧w.cell? ⟨g,k*4+1,none⟩=some (.int .i64 L[k].num)∧w.cell? ⟨g,k*4+2,none⟩=some (.bool L[k].mark)∧w.cell? ⟨g,k*4+3,none⟩=some (.int .i64 (L[k].body.length:Int)):=by
 have h':=h
 rcases h.2 with⟨_,h1⟩|⟨g,cap,cur,hv,_,hg,_⟩
 ·omega
 ·simp only [Value.slice.injEq] at hv
  obtain⟨rfl,_,rfl⟩:=hv
  refine⟨g,rfl,(lT hg),fun k hk=>?_⟩
  have hr:w.rangeAt g (k*4) ((L.map Jh)[k]'(by simpa using hk)):=by
   refine yi (l:=L.map Jh) (c:=4) (by rw [List.length_map];exact h') (fun b hb=>?_) k (by simpa using hk)
   obtain⟨v,_,rfl⟩:=List.mem_map.1 hb
   rfl
  rw [List.getElem_map] at hr
  exact⟨hr 0 _ rfl,hr 1 _ rfl,hr 2 _ rfl,hr 3 _ rfl⟩
theorem dd(w:World)(a1 a2:Option Addr)(c1 c2:Nat)(L:List zO)(m:Bool)(hl:L.length≤1000)(h1:w.ownsRow 0 94 4 (.slice a1 L.length c1) L.length (yM L))(h2:w.ownsRow 0 94 4 (.slice a2 L.length c2) L.length (yM L)):
 Calls Tryz.prog 109 #[.agg #[.slice a1 L.length c1,.bool m],.agg #[.slice a2 L.length c2,.bool m]] w fun e w'=>e=.returned (.bool true)∧za (fun _=>False) w w':=by
 have H1:Hid (w.ownsRow 0 94 4 (.slice a1 L.length c1) L.length (yM L)):=h1
 have H2:Hid (w.ownsRow 0 94 4 (.slice a2 L.length c2) L.length (yM L)):=h2
 clear h1 h2
 have HK0:Hid (za (fun _=>False) w ((w.alloc (.cells #[.slice a1 L.length c1,.bool m] 90)).alloc (.cells #[.slice a2 L.length c2,.bool m] 90))):=(za.alloc _ _ _).trans (za.alloc _ _ _) iL
 have HB1:Hid (((w.alloc (.cells #[.slice a1 L.length c1,.bool m] 90)).alloc (.cells #[.slice a2 L.length c2,.bool m] 90)).heap[w.heap.size]? =some (.cells #[.slice a1 L.length c1,.bool m] 90 (0,0))):=((za.alloc (fun _=>False) _ _).block w.heap.size (by simp) id).trans (heap_alloc_new w _)
 have HB2:Hid (((w.alloc (.cells #[.slice a1 L.length c1,.bool m] 90)).alloc (.cells #[.slice a2 L.length c2,.bool m] 90)).heap[w.heap.size+1]? =some (.cells #[.slice a2 L.length c2,.bool m] 90 (0,0))):=by
  have:=heap_alloc_new (w.alloc (.cells #[.slice a1 L.length c1,.bool m] 90)) (.cells #[.slice a2 L.length c2,.bool m] 90)
  rw [World.size_alloc] at this
  exact this
 have hs0:((w.alloc (.cells #[.slice a1 L.length c1,.bool m] 90)).alloc (.cells #[.slice a2 L.length c2,.bool m] 90)).heap.size=w.heap.size+2:=by simp
 have hmm:(m !=m)=false:=by cases m<;>rfl
 go_enter Tryz.func109,Tryz.ntmps109
 go_wp2_with fail
 generalize ((w.alloc (.cells #[.slice a1 L.length c1,.bool m] 90)).alloc (.cells #[.slice a2 L.length c2,.bool m] 90))=W at*
 go_loopw [5] (fun t wr=>∃i:Nat,i≤L.length∧t=.int .i64 i∧za (fun _=>False) W wr) (fun t _=>L.length-(intOf t).toNat)
 case atStart=>exact⟨0,Nat.zero_le _,rfl,za.refl _ _⟩
 case round=>
  obtain⟨i,hi,rfl,hk⟩:=hrel
  have HK:Hid (za (fun _=>False) W wr):=hk
  have hz:=hk.size
  have HC1:Hid (wr.heap[w.heap.size]? =_):=(hk.block _ (by omega) id).trans HB1.out
  have HC2:Hid (wr.heap[w.heap.size+1]? =_):=(hk.block _ (by omega) id).trans HB2.out
  clear hk
  have e1:wr.cell? ⟨w.heap.size,0,none⟩=some (.slice a1 L.length c1):=cR HC1.out rfl
  have e2:wr.cell? ⟨w.heap.size+1,0,none⟩=some (.slice a2 L.length c2):=cR HC2.out rfl
  by_cases hlt:i<L.length
  ·obtain⟨g1,rfl,hg1,hv1⟩:=dy H1.out (by omega)
   obtain⟨g2,rfl,hg2,hv2⟩:=dy H2.out (by omega)
   obtain⟨p0,p1,p2,p3⟩:=hv1 i hlt
   obtain⟨q0,q1,q2,q3⟩:=hv2 i hlt
   have HKw:Hid (za (fun _=>False) w wr):=HK0.out.trans HK.out iL
   have r0:wr.cell? ⟨g1,i*4,none⟩=_:=(HKw.out.cell (a:=⟨g1,i*4,none⟩) hg1 id).trans p0
   have r1:wr.cell? ⟨g1,i*4+1,none⟩=_:=(HKw.out.cell (a:=⟨g1,i*4+1,none⟩) hg1 id).trans p1
   have r2:wr.cell? ⟨g1,i*4+2,none⟩=_:=(HKw.out.cell (a:=⟨g1,i*4+2,none⟩) hg1 id).trans p2
   have r3:wr.cell? ⟨g1,i*4+3,none⟩=_:=(HKw.out.cell (a:=⟨g1,i*4+3,none⟩) hg1 id).trans p3
   have s0:wr.cell? ⟨g2,i*4,none⟩=_:=(HKw.out.cell (a:=⟨g2,i*4,none⟩) hg2 id).trans q0
   have s1:wr.cell? ⟨g2,i*4+1,none⟩=_:=(HKw.out.cell (a:=⟨g2,i*4+1,none⟩) hg2 id).trans q1
   have s2:wr.cell? ⟨g2,i*4+2,none⟩=_:=(HKw.out.cell (a:=⟨g2,i*4+2,none⟩) hg2 id).trans q2
   have s3:wr.cell? ⟨g2,i*4+3,none⟩=_:=(HKw.out.cell (a:=⟨g2,i*4+3,none⟩) hg2 id).trans q3
   have hsz1:g1<wr.heap.size:=by have:=HKw.out.size;omega
   have hsz2:g2<wr.heap.size:=by have:=HKw.out.size;omega
   clear hv1 hv2 p0 p1 p2 p3 q0 q1 q2 q3
   generalize L[i]=v at*
   have hm2:(v.mark !=v.mark)=false:=by cases v.mark<;>rfl
   have hiI:(i:Int)<(L.length:Int):=by omega
   have hlw:w.heap.size<wr.heap.size∧w.heap.size+1<wr.heap.size:=by omega
   go_wp2
   go_roundw
   case rel=>exact⟨i+1,by omega,by go_num,(HK.out.trans (za.alloc (fun _=>False) _ _) iL).trans (za.alloc (fun _=>False) _ _) iL⟩
   case measure=>simp [intOf];omega
  ·have e:i=L.length:=by omega
   subst e
   go_wp2
   go_ret
   exact⟨rfl,HK0.out.trans HK.out iL⟩
end law
namespace law
open Go.ChangeShapes Go.WideShapes Go.ChangeAt Go.RowKit disk ref book
open keys (zj zd zy zq zt)
def ci(n:Nat)(tk:Nat→Bool):List Value:=(List.range n).map fun i=>Value.bool (tk i)
theorem Jr{n:Nat}{tk:Nat→Bool}{i:Nat}(h:i<n):(ci n tk)[i]? =some (.bool (tk i)):=by simp [ci,h]
theorem KP{n:Nat}{tk:Nat→Bool}{m:Nat}:(ci n tk).toArray.setIfInBounds m (.bool true)=(ci n (fun c=>decide (c=m)||tk c)).toArray:=by
 apply Array.ext
 ·simp [ci]
 ·intro i h1 h2
  simp only [List.setIfInBounds_toArray,List.getElem_toArray,List.getElem_set]
  have hi:i<n:=by simpa [ci] using h2
  by_cases e:m=i
  ·subst e;simp [ci]
  ·rw [if_neg e]
   simp [ci,Ne.symm e]
def Yp(wr:World)(b:Nat):Nat:=match wr.cell? ⟨b,0,none⟩ with
 |some (.slice _ n _)=>n
 |_=>0
structure Qv (w:World) (F G:Nat→Prop) (ib:Nat) (vs:List zO) (last:Int) (a:Option Addr) (cap:Nat) (cs:List (List Value)) (f:zO→Bool) (L:List zO) (m j:Nat) (tk:Nat→Bool) (wr:World):Prop where
 sel:Xb vs f L tk j
 jm:j≤m
 ref:qJ wr F G ib vs last a cap cs
 pg:∃va vc,wr.heap[w.heap.size+1]? =some (.cells #[.slice va j vc,.bool false] 90 (0,0))∧wr.ownsRow 0 94 4 (.slice va j vc) j (yM (L.take j))∧∀k,(Value.slice va j vc).ownBlock=some k→w.heap.size+3≤k
 tk:wr.heap[w.heap.size+2]? =some (.cells (ci vs.length tk).toArray 4 (0,0))
 res:wr.heap[w.heap.size]? =some (.cells #[.slice none 0 0,.bool false] 90 (0,0))
 kept:za (fun k=>w.heap.size≤k) w wr
 size:w.heap.size+3≤wr.heap.size
theorem Qv.kept0{w:World}{F G:Nat→Prop}{ib:Nat}{vs:List zO}{last:Int}{a:Option Addr}{cap:Nat}{cs:List (List Value)}{f:zO→Bool}{L:List zO}{m j:Nat}{tk:Nat→Bool}{wr wr':World}(h:Qv w F G ib vs last a cap cs f L m j tk wr)(k:za (fun _=>False) wr wr'):Qv w F G ib vs last a cap cs f L m j tk wr':=by
 obtain⟨va,vc,h1,h2,h3⟩:=h.pg
 have hz:=h.size
 exact⟨h.sel,h.jm,h.ref.kept k nF nF,⟨va,vc,(k.block _ (by omega) id).trans h1,k.owns h2 nF,h3⟩,(k.block _ (by omega) id).trans h.tk,(k.block _ (by omega) id).trans h.res,h.kept.trans k fE,Nat.le_trans hz k.size⟩
theorem Qv.more{w:World}{F G:Nat→Prop}{ib:Nat}{vs:List zO}{last:Int}{a:Option Addr}{cap:Nat}{cs:List (List Value)}{f:zO→Bool}{L:List zO}{m j:Nat}{tk:Nat→Bool}{wr A wA:World}{va:Option Addr}{vc ga ca mb:Nat}{v:zO}(h:Qv w F G ib vs last a cap cs f L m j tk wr)(hF:∀k,F k→k<w.heap.size)(hG:∀k,G k→k<w.heap.size)(hjm:j<m)(hmb:mb<vs.length)(hjL:j<L.length)(e:L[j]=v)(hs:Xb vs f L (fun c=>decide (c=mb)||tk c) (j+1))
 (hp:wr.heap[w.heap.size+1]? =some (.cells #[.slice va j vc,.bool false] 90 (0,0))) (hge:∀k,(Value.slice va j vc).ownBlock=some k→w.heap.size+3≤k) (hk:za (fun k=>k=w.heap.size+2) wr A) (htk:A.heap[w.heap.size+2]? =some (.cells (ci vs.length (fun c=>decide (c=mb)||tk c)).toArray 4 (0,0))) (hkG:za (fun k=>(Value.slice va j vc).ownBlock=some k) A wA) (ho:wA.ownsRow 0 94 4 (.slice (some ⟨ga,0,none⟩) (j+1) ca) (j+1) (yM (L.take j)++Jh v)) (hor:(Value.slice va j vc).ownBlock=some ga∨ga=wr.heap.size+1+1):
 Qv w F G ib vs last a cap cs f L m (j+1) (fun c=>decide (c=mb)||tk c) (wA.setCell ⟨w.heap.size+1,0,none⟩ (.slice (some ⟨ga,0,none⟩) (j+1) ca)):=by
 have hz:=h.size
 have hzA:=hk.size
 have hzB:=hkG.size
 have hp1:wA.heap[w.heap.size+1]? =_:=(hkG.block _ (by omega) (fun hc=>by have:=hge _ hc;omega)).trans ((hk.block _ (by omega) (by omega)).trans hp)
 have hh:=heap_setCell_same wA (w.heap.size+1) 0 _ _ (.slice (some ⟨ga,0,none⟩) (j+1) ca) hp1
 have kS:=za.setCell (S:=fun k=>k=w.heap.size+1) wA ⟨w.heap.size+1,0,none⟩ (.slice (some ⟨ga,0,none⟩) (j+1) ca) rfl
 have hga:w.heap.size+3≤ga:=by
  rcases hor with h1|h1
  ·exact hge ga h1
  ·omega
 generalize (wA.setCell ⟨w.heap.size+1,0,none⟩ (.slice (some ⟨ga,0,none⟩) (j+1) ca))=Y at*
 have kAll:za (fun k=>w.heap.size≤k) wr Y:=((hk.mono (fun k hk=>by omega)).trans hkG (fun k hk=>.inl (by have:=hge k hk;omega))).trans kS (fun k hk=>.inl (by omega))
 refine⟨hs,hjm,h.ref.kept kAll (fun k hk hc=>by have:=hF k hk;omega) (fun k hk hc=>by have:=hG k hk;omega),⟨some ⟨ga,0,none⟩,ca,hh,?_,fun k hk=>?_⟩,?_,?_,h.kept.trans kAll (fun k hk=>.inl hk),by have:=kS.size;omega⟩
 ·have e2:yM (L.take (j+1))=yM (L.take j)++Jh v:=by
   rw [List.take_succ_eq_append_getElem hjL,e];simp [yM]
  rw [e2]
  exact kS.owns ho (fun k hk e0=>by simp [Value.ownBlock] at hk;omega)
 ·simp [Value.ownBlock] at hk;omega
 ·exact(kS.block _ (by omega) (by omega)).trans ((hkG.block _ (by omega) (fun hc=>by have:=hge _ hc;omega)).trans htk)
 ·exact(kS.block _ (by omega) (by omega)).trans ((hkG.block _ (by omega) (fun hc=>by have:=hge _ hc;omega)).trans ((hk.block _ (by omega) (by omega)).trans h.res))
theorem Qv.len{w:World}{F G:Nat→Prop}{ib:Nat}{vs:List zO}{last:Int}{a:Option Addr}{cap:Nat}{cs:List (List Value)}{f:zO→Bool}{L:List zO}{m j:Nat}{tk:Nat→Bool}{wr:World}(h:Qv w F G ib vs last a cap cs f L m j tk wr):Yp wr (w.heap.size+1)=j:=by
 obtain⟨va,vc,h1,_⟩:=h.pg
 unfold Yp
 rw [cell_of_row wr _ 0 _ _ _ h1];rfl
theorem Tryz.infoBool:(Tryz.prog.info? 4).map (fun i=>(i.zero,i.size,i.bytes))=some (some (.bool false),1,1):=by kernel_rfl
theorem Tryz.infoVer:(Tryz.prog.info? 94).map (fun i=>(i.zero,i.size,i.bytes))=some (some (.agg #[.string ⟨#[]⟩,.int .i64 0,.bool false,.int .i64 0]),4,40):=by kernel_rfl
theorem jr{P:Program}{fn:Func}{p u:Tmp}{ty:TypeId}(h:fn.results=#[.cell p ty,.tmp u])(tmps:Array Value)(w:World)(g:Nat)(t:TypeId)(cs:Array Value)(fr:Nat×Nat)(d:TypeDesc)
 (hp:tmps.getD p undef=.pointer (some ⟨g,0,none⟩)) (hg:w.heap[g]? =some (.cells cs t fr))
 (hu:P.underlying ty=some d) (hd:(match d with|.struct _|.array _ _=>true|_=>false)=true) (hi:(P.info? ty).map (·.size)=some cs.size):
 (results fn tmps).run P w=.ok (.tuple #[.agg cs,tmps.getD u undef]) w:=by
 have hp':tmps[p]?.getD undef=.pointer (some ⟨g,0,none⟩):=by simpa using hp
 simp [results,h,hp',asAddr,run_loadVar_row w g t ty cs fr d hg hu hd hi]
theorem VA(n k:Nat)(h:k=n):madeCells (Value.bool false).cells k=(ci n (fun _=>false)).toArray:=by
 subst h
 apply Array.ext
 ·simp [madeCells,ci]
 ·intro i h1 h2
  simp [madeCells,ci,Value.cells,Nat.mod_one]
theorem VR(w:World)(o1 o2 o3:Obj):(((w.alloc o1).alloc o2).alloc o3).heap[w.heap.size]? =some o1∧(((w.alloc o1).alloc o2).alloc o3).heap[w.heap.size+1]? =some o2∧(((w.alloc o1).alloc o2).alloc o3).heap[w.heap.size+2]? =some o3∧za (fun _=>False) w (((w.alloc o1).alloc o2).alloc o3)∧(((w.alloc o1).alloc o2).alloc o3).heap.size=w.heap.size+3:=by
 have k3:=za.alloc (fun _=>False) ((w.alloc o1).alloc o2) o3
 have k2:=za.alloc (fun _=>False) (w.alloc o1) o2
 have s1:(w.alloc o1).heap.size=w.heap.size+1:=by simp
 have s2:((w.alloc o1).alloc o2).heap.size=w.heap.size+2:=by simp
 have e2:=heap_alloc_new (w.alloc o1) o2
 have e3:=heap_alloc_new ((w.alloc o1).alloc o2) o3
 rw [s1] at e2
 rw [s2] at e3
 exact⟨(k3.block _ (by omega) id).trans ((k2.block w.heap.size (by simp) id).trans (heap_alloc_new w _)),(k3.block _ (by omega) id).trans e2,e3,((za.alloc _ _ _).trans k2 iL).trans k3 iL,by simp⟩
def V1(w:World)(L:List zO)(m:Nat)(e:Ending)(w':World):Prop:=∃x more,e=.returned (.tuple #[.agg #[x,.bool more],.int .i64 0])∧gZ w w' L m x more∧za (fun _=>False) w w'
theorem Js(w A:World)(L:List zO)(m j:Nat)(more:Bool)(va:Option Addr)(vc:Nat)(a:Act)(hT:L.take m=L.take j)(hjl:j≤L.length)(hm:more=decide (m<L.length))(hA:A.heap[w.heap.size]? =some (.cells #[.slice none 0 0,.bool false] 90 (0,0)))(ho:A.ownsRow 0 94 4 (.slice va j vc) j (yM (L.take j)))(hge:∀k,(Value.slice va j vc).ownBlock=some k→w.heap.size+3≤k)(hk:za (fun k=>w.heap.size≤k) w A)(hd:a.defers=[])(h10:a.tmps.getD 10 undef=.pointer (some ⟨w.heap.size,0,none⟩))(h11:a.tmps.getD 11 undef=.int .i64 0):
 bodyPost Tryz.prog Tryz.f108 (V1 w L m) .ret a ((A.setCell ⟨w.heap.size,0,none⟩ (.slice va j vc)).setCell ⟨w.heap.size,1,none⟩ (.bool more)):=by
 have hh1:=heap_setCell_same A w.heap.size 0 _ _ (.slice va j vc) hA
 have hh2:=heap_setCell_same _ w.heap.size 1 _ _ (.bool more) hh1
 have kS:za (fun j=>j=w.heap.size) A ((A.setCell ⟨w.heap.size,0,none⟩ (.slice va j vc)).setCell ⟨w.heap.size,1,none⟩ (.bool more)):=(za.setCell (S:=fun j=>j=w.heap.size) A ⟨w.heap.size,0,none⟩ _ rfl).trans (za.setCell (S:=fun j=>j=w.heap.size) _ ⟨w.heap.size,1,none⟩ _ rfl) iL
 generalize ((A.setCell ⟨w.heap.size,0,none⟩ (.slice va j vc)).setCell ⟨w.heap.size,1,none⟩ (.bool more))=Y at*
 have hl:(L.take m).length=j:=by rw [hT,List.length_take];omega
 refine bodyPost_ret (v:=.tuple #[.agg #[.slice va j vc,.bool more],.int .i64 0]) ((jr Tryz.results108 _ _ w.heap.size 90 _ (0,0) _ h10 hh2 Tryz.underlying90 rfl (by kernel_rfl)).trans (by rw [h11];rfl)) hd ⟨_,_,rfl,⟨hm,va,vc,by rw [hl],?_,?_⟩,?_⟩
 ·rw [hl,hT]
  exact kS.owns ho (fun k hk e0=>by have:=hge k hk;omega)
 ·rw [hl]
  exact fun k hk=>by have:=hge k hk;omega
 ·exact((za.refl (fun _=>False) w).trans hk (fun k hk=>.inr hk)).trans kS (fun k hk=>.inr (by omega))
theorem Jt(w:World)(F G:Nat→Prop)(ib:Nat)(vs:List zO)(last:Int)(h:zQ w F G ib vs last)(hF:∀k,F k→k<w.heap.size)(hG:∀k,G k→k<w.heap.size)(hap:xz vs)(hfew:vs.length≤6000)(hks:∀v∈vs,v.key.size≤9223372036854775807)(p k:ByteArray)(n:Int)(m:Nat)(hp:p.size≤maxLen)(hk:k.size≤maxLen)(h0:qs p k n m=0)(hm50:m≤1000)(L:List zO)(hL:xA vs p k n L):
 Calls Tryz.prog 108 #[.pointer (some ⟨ib,0,none⟩),.string p,.string k,.int .i64 n,.int .i64 (m:Int)] w (V1 w L m):=by
 obtain⟨a,cap,cs,hin⟩:=h
 have HR:Hid (qJ w F G ib vs last a cap cs):=hin
 have HF:Hid (∀k,F k→k<w.heap.size):=hF
 have HG:Hid (∀k,G k→k<w.heap.size):=hG
 have HKS:Hid (∀v∈vs,v.key.size≤9223372036854775807):=hks
 have HLE:Hid (qs p k n m=0):=h0
 have hib:=hin.lt
 have hp':p.size≤9223372036854775807:=by unfold maxLen at hp;omega
 have hk':k.size≤9223372036854775807:=by unfold maxLen at hk;omega
 obtain⟨f,hf⟩:∃f:zO→Bool,f=fun v=>yr v p k n:=⟨_,rfl⟩
 have HSEL:Hid (Xb vs f L (fun _=>false) 0):=⟨hL.sorted,by rw [hf];exact hL.perm,hap,Nat.zero_le _,fun i hi=>by simp⟩
 have HFN:Hid (∀v,yr v p k n=f v):=fun v=>by rw [hf]
 clear hin hF hG hap hks hL h0 hf
 obtain⟨j0,hi0,hz0,hz1,hz2⟩:=yN Tryz.infoVer
 have HJ0:Hid (Tryz.prog.info? 94=some j0∧j0.zero=some (.agg #[.string ⟨#[]⟩,.int .i64 0,.bool false,.int .i64 0])∧j0.size=4∧j0.bytes=40):=⟨hi0,hz0,hz1,hz2⟩
 clear hi0 hz0 hz1 hz2
 obtain⟨b0,hi0,hz0,hz1,hz2⟩:=yN Tryz.infoBool
 have hmk:∀W:World,(Instr.makeSlice 39 (.int .i64 (vs.length:Int)) (.int .i64 (vs.length:Int))).run Tryz.prog W=.ok (.slice (some ⟨W.heap.size,0,none⟩) vs.length vs.length) (W.alloc (.cells (ci vs.length (fun _=>false)).toArray 4)):=fun W=>by
  have:=run_make (P:=Tryz.prog) W 39 4 b0 _ Tryz.underlying39 hi0 hz0 .i64 .i64 (vs.length:Int) (vs.length:Int) (by omega) (by omega) (by rw [hz2];omega) (by omega)
  rw [this,VA vs.length _ (by rw [hz1];omega)]
  rfl
 clear hi0 hz0 hz1 hz2
 go_enter Tryz.func108,Tryz.ntmps108
 have c0:=HR.out.c0
 go_wp2_with (go_at_call 155;refine(kZ _ p k hp hk n m).mono ?_;rintro e w1 ⟨rfl,hw1⟩;rw [hw1,HLE.out];clear hw1 w1)
 obtain⟨n1,n2,n3,k3,s3⟩:=VR w (.cells #[.slice none 0 0,.bool false] 90) (.cells #[.slice none 0 0,.bool false] 90) (.cells (ci vs.length (fun _=>false)).toArray 4)
 have HI0:Hid (Qv w F G ib vs last a cap cs f L m 0 (fun _=>false) (((w.alloc (.cells #[.slice none 0 0,.bool false] 90)).alloc (.cells #[.slice none 0 0,.bool false] 90)).alloc (.cells (ci vs.length (fun _=>false)).toArray 4))):=⟨HSEL.out,Nat.zero_le _,HR.out.kept k3 nF nF,⟨none,0,n2,World.ownsRow_nil _ 0 94 4,fun k hk=>by cases hk⟩,n3,n1,k3.mono fE,by omega⟩
 clear n1 n2 n3 k3 s3
 generalize (((w.alloc (.cells #[.slice none 0 0,.bool false] 90)).alloc (.cells #[.slice none 0 0,.bool false] 90)).alloc (.cells (ci vs.length (fun _=>false)).toArray 4))=W at*
 go_loopw [15] (fun _ wr=>∃j tk,Qv w F G ib vs last a cap cs f L m j tk wr) (fun _ wr=>L.length-Yp wr (w.heap.size+1))
 case atStart=>exact⟨0,_,HI0.out⟩
 case round=>
  obtain⟨j,tk,hri⟩:=hrel
  have HI:Hid (Qv w F G ib vs last a cap cs f L m j tk wr):=hri
  clear hri
  go_wp2_with fail
  have HLN:Hid (Yp wr (w.heap.size+1)=j):=HI.out.len
  go_loopw [15,16] (fun b i wq=>∃(c:Nat) (bi:Int),c≤vs.length∧i=.int .i64 c∧b=.int .i64 bi∧jL vs f tk c bi∧Qv w F G ib vs last a cap cs f L m j tk wq) (fun _ i _=>vs.length-(intOf i).toNat)
  case atStart=>exact⟨0, -1,Nat.zero_le _,rfl,rfl,jL.start _ _ _,HI.out⟩
  case round=>
   obtain⟨c,bi,hc,rfl,rfl,hbest,hiq⟩:=hrel
   have HB:Hid (jL vs f tk c bi):=hbest
   have HIQ:Hid (Qv w F G ib vs last a cap cs f L m j tk wr):=hiq
   clear hbest hiq
   have q0:=HIQ.out.ref.c0
   by_cases hlt:c<vs.length
   ·obtain⟨g,rfl⟩:=HIQ.out.ref.rowAt (by omega)
    obtain⟨v0,v1,v2,a',cap',v3,_⟩:=HIQ.out.ref.cells c hlt
    have hkv:=HKS.out _ (List.getElem_mem hlt)
    have hcI:(c:Int)<(vs.length:Int):=by omega
    obtain⟨v,hv⟩:∃v,v=vs[c]:=⟨_,rfl⟩
    rw [←hv] at v0 v1 v2 v3 hkv
    have HV:Hid (v=vs[c]):=hv
    clear hv
    go_wp2_with fail
    refine(Ql _ v _ rfl hkv p k hp' hk' n).mono ?_
    rintro e w1 ⟨rfl,hk1⟩
    rw [HFN.out v]
    have HI1:Hid (Qv w F G ib vs last (some ⟨g,0,none⟩) cap cs f L m j tk w1):=HIQ.out.kept0 hk1
    clear hk1 v0 v1 v2 v3 q0
    have ut:w1.cell? ⟨w.heap.size+2,c,none⟩=some (.bool (tk c)):=by rw [cell_of_row w1 _ c _ _ _ HI1.out.tk];simpa using Jr hlt
    cases htk:tk c with
    |true=>
     rw [htk] at ut
     have HTK:Hid (tk c=true):=htk
     clear htk
     go_wp2
     go_roundw
     case rel=>exact⟨c+1,bi,by omega,by go_num,rfl,HB.out.skip hlt (.inl HTK.out),HI1.out⟩
     case measure=>simp [intOf];omega
    |false=>
     rw [htk] at ut
     have HTK:Hid (tk c=false):=htk
     clear htk
     cases hfv:f v with
     |false=>
      have HFV:Hid (f v=false):=hfv
      clear hfv
      go_wp2
      go_roundw
      case rel=>exact⟨c+1,bi,by omega,by go_num,rfl,HB.out.skip hlt (.inr (by rw [←HV.out];exact HFV.out)),HI1.out⟩
      case measure=>simp [intOf];omega
     |true=>
      have HFV:Hid (f vs[c]=true):=(by rw [←HV.out];exact hfv)
      clear hfv
      by_cases hneg:bi<0
      ·have HB1:Hid (jL vs f tk (c+1) c):=by
        have hb:=HB.out
        rcases HB.out with⟨rfl,_⟩|⟨_,_,rfl,_⟩
        ·exact hb.first hlt HTK.out HFV.out
        ·omega
       have hng:decide (bi<0)=true:=decide_eq_true hneg
       go_wp2
       go_roundw
       case rel=>exact⟨c+1,c,by omega,by go_num,rfl,HB1.out,HI1.out⟩
       case measure=>simp [intOf];omega
      ·obtain⟨mb,hmb,rfl⟩:∃mb:Nat,mb<vs.length∧bi=mb:=by
        rcases HB.out with⟨rfl,_⟩|⟨mb,hmb,rfl,_⟩
        ·omega
        ·exact⟨mb,hmb,rfl⟩
       have HB1:Hid _:=jL.other HSEL.out.apart HB.out hlt hmb HTK.out HFV.out
       obtain⟨p0,p1,p2,a1,cp1,p3,_⟩:=HI1.out.ref.cells c hlt
       obtain⟨q0,q1,q2,a2,cp2,q3,_⟩:=HI1.out.ref.cells mb hmb
       have hku:=HKS.out _ (List.getElem_mem hmb)
       have u0:=HI1.out.ref.c0
       have hmI:(mb:Int)<(vs.length:Int):=by omega
       have hng:decide ((mb:Int)<0)=false:=decide_eq_false hneg
       have hsz:=HI1.out.ref.lt
       have hgz:g<w1.heap.size:=(HI1.out.ref.row.lt g rfl).2
       rw [←HV.out] at p0 p1 p2 p3
       have HAH:Hid (jL vs f tk (c+1) (if v.ahead vs[mb]=true then (c:Int) else (mb:Int))):=by
        have:=HB1.out
        rw [←HV.out] at this
        exact this
       clear HB1
       generalize vs[mb]=u at*
       go_wp2_with fail
       go_region_held3 (fun w'=>w'.cell? ⟨ib,0,none⟩=some (.slice (some ⟨g,0,none⟩) vs.length cap)∧w'.cell? ⟨g,c*4,none⟩=some (.string v.key)∧w'.cell? ⟨g,c*4+1,none⟩=some (.int .i64 v.num)∧w'.cell? ⟨g,c*4+2,none⟩=some (.bool v.mark)∧w'.cell? ⟨g,c*4+3,none⟩=some (.slice a1 v.body.length cp1)∧w'.cell? ⟨g,mb*4,none⟩=some (.string u.key)∧w'.cell? ⟨g,mb*4+1,none⟩=some (.int .i64 u.num)∧w'.cell? ⟨g,mb*4+2,none⟩=some (.bool u.mark)∧w'.cell? ⟨g,mb*4+3,none⟩=some (.slice a2 u.body.length cp2)) (go_keep) ((go_at_call 157;refine(Y2 _ v u _ _ rfl rfl hkv hku).mono ?_;rintro e w2 ⟨rfl,hk2⟩;have hkd:za (fun _=>False) w1 w2:=(za.drew (fun _=>False) w1).trans hk2 iL;have HI2:Hid (Qv w F G ib vs last (some ⟨g,0,none⟩) cap cs f L m j tk w2):=HI1.out.kept0 hkd;have z0:=(hkd.cell (a:=⟨ib,0,none⟩) hsz id).trans u0;have z1:=(hkd.cell (a:=⟨g,c*4,none⟩) hgz id).trans p0;have z2:=(hkd.cell (a:=⟨g,c*4+1,none⟩) hgz id).trans p1;have z3:=(hkd.cell (a:=⟨g,c*4+2,none⟩) hgz id).trans p2;have z4:=(hkd.cell (a:=⟨g,c*4+3,none⟩) hgz id).trans p3;have z5:=(hkd.cell (a:=⟨g,mb*4,none⟩) hgz id).trans q0;have z6:=(hkd.cell (a:=⟨g,mb*4+1,none⟩) hgz id).trans q1;have z7:=(hkd.cell (a:=⟨g,mb*4+2,none⟩) hgz id).trans q2;have z8:=(hkd.cell (a:=⟨g,mb*4+3,none⟩) hgz id).trans q3;clear hk2 hkd))
       cases hah:v.ahead u with
       |true=>
        go_wp2
        go_roundw
        case rel=>exact⟨c+1,c,by omega,by go_num,rfl,by have:=HAH.out;rw [hah] at this;exact this,HI2.out⟩
        case measure=>simp [intOf];omega
       |false=>
        go_wp2
        go_roundw
        case rel=>exact⟨c+1,mb,by omega,by go_num,rfl,by have:=HAH.out;rw [hah] at this;exact this,HI2.out⟩
        case measure=>simp [intOf];omega
   ·have hcE:c=vs.length:=by omega
    subst hcE
    obtain⟨va,vc,pg0,pg1,pg2⟩:=HIQ.out.pg
    have HP0:Hid (wr.heap[w.heap.size+1]? =some (.cells #[.slice va j vc,.bool false] 90 (0,0))):=pg0
    have HP1:Hid (wr.ownsRow 0 94 4 (.slice va j vc) j (yM (L.take j))):=pg1
    have HP2:Hid (∀k,(Value.slice va j vc).ownBlock=some k→w.heap.size+3≤k):=pg2
    clear pg0 pg1 pg2
    have x0:wr.cell? ⟨w.heap.size+1,0,none⟩=some (.slice va j vc):=cR HP0.out rfl
    have x1:wr.cell? ⟨w.heap.size+1,1,none⟩=some (.bool false):=cR HP0.out rfl
    have y0:wr.cell? ⟨w.heap.size,0,none⟩=some (.slice none 0 0):=cR HIQ.out.res rfl
    have y1:wr.cell? ⟨w.heap.size,1,none⟩=some (.bool false):=cR HIQ.out.res rfl
    have f0:=frozen_of_row wr (w.heap.size) 0 _ _ HIQ.out.res
    have f1:=frozen_of_row wr (w.heap.size) 1 _ _ HIQ.out.res
    have g0:=frozen_of_row wr (w.heap.size+1) 0 _ _ HP0.out
    have g1:=frozen_of_row wr (w.heap.size+1) 1 _ _ HP0.out
    have hsz:=HIQ.out.size
    by_cases hneg:bi<0
    ·have hng:decide (bi<0)=true:=decide_eq_true hneg
     have HE:Hid (L.length=j):=by
      have hb:=HB.out
      rcases HB.out with⟨rfl,_⟩|⟨_,_,rfl,_⟩
      ·exact HIQ.out.sel.end_ hb
      ·omega
     go_wp2
     exact Js w wr L m j false va vc _ (by rw [List.take_of_length_le (by have:=HIQ.out.jm;have:=HE.out;omega),List.take_of_length_le (by have:=HE.out;omega)]) HIQ.out.sel.le (by have:=HIQ.out.jm;have:=HE.out;exact(decide_eq_false (by omega)).symm) HIQ.out.res HP1.out HP2.out HIQ.out.kept rfl rfl rfl
    ·obtain⟨mb,hmb,rfl⟩:∃mb:Nat,mb<vs.length∧bi=mb:=by
      rcases HB.out with⟨rfl,_⟩|⟨mb,hmb,rfl,_⟩
      ·omega
      ·exact⟨mb,hmb,rfl⟩
     have hng:decide ((mb:Int)<0)=false:=decide_eq_false hneg
     obtain⟨hjL,hjv,hsel⟩:=HIQ.out.sel.next hmb HB.out
     have HSN:Hid (Xb vs f L (fun c=>decide (c=mb)||tk c) (j+1)):=hsel
     have HJV:Hid (L[j]=vs[mb]):=hjv
     clear hsel hjv
     have hjm:=HIQ.out.jm
     by_cases hjE:j=m
     ·subst hjE
      have hjj:((j:Int)==(j:Int))=true:=by simp
      go_wp2
      have hh:=heap_setCell_same wr (w.heap.size+1) 1 _ _ (.bool true) HP0.out
      have kS:=za.setCell (S:=fun k=>k=w.heap.size+1) wr ⟨w.heap.size+1,1,none⟩ (.bool true) rfl
      exact Js w _ L j j true va vc _ rfl (by omega) (decide_eq_true hjL).symm ((kS.block _ (by omega) (by omega)).trans HIQ.out.res) (kS.owns HP1.out (fun k hk e0=>by have:=HP2.out k hk;omega)) HP2.out (HIQ.out.kept.trans kS (fun k hk=>.inl (by omega))) rfl rfl rfl
     ·have hjj:((j:Int)==(m:Int))=false:=beq_false_of_ne (by omega)
      obtain⟨g,rfl⟩:=HIQ.out.ref.rowAt (by omega)
      obtain⟨v0,v1,v2,a',cap',v3,_⟩:=HIQ.out.ref.cells mb hmb
      have hmI:(mb:Int)<(vs.length:Int):=by omega
      obtain⟨v,hv⟩:∃v,v=vs[mb]:=⟨_,rfl⟩
      rw [←hv] at v0 v1 v2 v3
      have HV:Hid (v=vs[mb]):=hv
      clear hv
      have ut:wr.cell? ⟨w.heap.size+2,mb,none⟩=some (.bool (tk mb)):=by rw [cell_of_row wr _ mb _ _ _ HIQ.out.tk];simpa using Jr hmb
      have uf:=frozen_of_row wr (w.heap.size+2) mb _ _ HIQ.out.tk
      have hgw:g<w.heap.size:=HF.out g (HIQ.out.ref.foot2 g rfl)
      have hne1:¬ib=w.heap.size+2:=by omega
      have hne2:¬g=w.heap.size+2:=by omega
      have hgz:g<wr.heap.size:=by omega
      have hiz:ib<wr.heap.size:=by omega
      have hw1:w.heap.size+1<wr.heap.size:=by omega
      have hw2:¬w.heap.size+1=wr.heap.size:=by omega
      obtain⟨A,hA⟩:∃A,A=wr.setCell ⟨w.heap.size+1+1,mb,none⟩ (.bool true):=⟨_,rfl⟩
      have kA:za (fun k=>k=w.heap.size+2) wr A:=by rw [hA];exact za.setCell wr ⟨w.heap.size+1+1,mb,none⟩ (.bool true) rfl
      have htA:A.heap[w.heap.size+2]? =some (.cells (ci vs.length (fun c=>decide (c=mb)||tk c)).toArray 4 (0,0)):=by
       rw [hA,←KP];exact heap_setCell_same wr (w.heap.size+2) mb _ _ (.bool true) HIQ.out.tk
      have sA:A.heap.size=wr.heap.size:=by rw [hA];simp
      have x0':(wr.setCell ⟨w.heap.size+1+1,mb,none⟩ (.bool true)).cell? ⟨w.heap.size+1,0,none⟩=some (.slice va j vc):=by
       rw [←hA,kA.cell (a:=⟨w.heap.size+1,0,none⟩) hw1 (by show ¬w.heap.size+1=w.heap.size+2;omega)];exact x0
      have HKA:Hid (za (fun k=>k=w.heap.size+2) wr ((A.alloc (.cells #[.string v.key,.int .i64 v.num,.bool v.mark,.slice a' v.body.length cap'] 123)).alloc (.cells #[.string v.key,.int .i64 v.num,.bool v.mark,.int .i64 (v.body.length:Int)] 94))):=(kA.trans (za.alloc (fun k=>k=w.heap.size+2) _ _) iL).trans (za.alloc (fun k=>k=w.heap.size+2) _ _) iL
      have HTA:Hid (((A.alloc (.cells #[.string v.key,.int .i64 v.num,.bool v.mark,.slice a' v.body.length cap'] 123)).alloc (.cells #[.string v.key,.int .i64 v.num,.bool v.mark,.int .i64 (v.body.length:Int)] 94)).heap[w.heap.size+2]? =_):=(((za.alloc (fun _=>False) _ _).trans (za.alloc (fun _=>False) _ _) iL).block _ (by rw [sA];omega) id).trans htA
      have HBA:Hid (((A.alloc (.cells #[.string v.key,.int .i64 v.num,.bool v.mark,.slice a' v.body.length cap'] 123)).alloc (.cells #[.string v.key,.int .i64 v.num,.bool v.mark,.int .i64 (v.body.length:Int)] 94)).heap[wr.heap.size+1]? =some (.cells (Jh v).toArray 94 (0,0))):=by
       have:=heap_alloc_new (A.alloc (.cells #[.string v.key,.int .i64 v.num,.bool v.mark,.slice a' v.body.length cap'] 123)) (.cells #[.string v.key,.int .i64 v.num,.bool v.mark,.int .i64 (v.body.length:Int)] 94)
       rw [World.size_alloc,sA] at this
       exact this
      rw [hA] at HKA HTA HBA
      clear hA kA htA sA
      have HVO:=HKA.out.owns HP1.out (fun k hk e0=>by have:=HP2.out k hk;omega)
      have HVH:Hid _:=HVO
      clear HVO
      go_wp2_with (refine wpList_append_lies _ rfl (.tmp 104) (.tmp 115) 44 rfl 0 94 j0 _ 4 40 Tryz.underlying44 HJ0.out.1 HJ0.out.2.1 HJ0.out.2.2.1 HJ0.out.2.2.2 rfl (by omega) (.slice va j vc) j (yM (L.take j)) (by rfl) (by exact HVH.out) ⟨wr.heap.size+1,0,none⟩ 1 1 (Jh v) (by rfl) (by rfl) (by exact World.news_of_block HBA.out) (by simp [Jh,Value.oneCell']) (by omega) (by unfold maxLen;omega) (by omega) (Nat.zero_le _) (wr.heap.size+1+1) (by simp) ?_;intro ga ca wA hown hgrow hor hglt;have HKG:Hid (za (fun k=>(Value.slice va j vc).ownBlock=some k) _ wA):=za.grown hgrow (fun k hk=>hk);have HOW:Hid _:=hown;have HOR:Hid _:=hor;have HN:Hid _:=HIQ.out.more HF.out HG.out (by omega) hmb hjL (HJV.out.trans HV.out.symm) HSN.out HP0.out HP2.out HKA.out HTA.out HKG.out hown hor;have HAX:Hid (wA.heap[w.heap.size+1]? =some (.cells #[.slice va j vc,.bool false] 90 (0,0))):=(HKG.out.block _ (by have:=HKA.out.size;omega) (fun hc=>by have:=HP2.out _ hc;omega)).trans ((HKA.out.block _ (by omega) (by omega)).trans HP0.out);have cAx:wA.cell? ⟨w.heap.size+1,0,none⟩=some (.slice va j vc):=(cR HAX.out rfl);have fAx:wA.frozen? ⟨w.heap.size+1,0,none⟩=false:=frozen_of_row wA (w.heap.size+1) 0 _ _ HAX.out;clear hown hgrow hor)
      go_roundw
      case rel=>exact⟨j+1,_,HN.out⟩
      case measure=>
       rw [HN.out.len,HLN.out]
       omega
theorem Ju(w:World)(ib:Nat)(p k:ByteArray)(n m:Int)(hp:p.size≤maxLen)(hk:k.size≤maxLen)(h0:¬qs p k n m=0):
 Calls Tryz.prog 108 #[.pointer (some ⟨ib,0,none⟩),.string p,.string k,.int .i64 n,.int .i64 m] w fun e w'=>e=.returned (.tuple #[.agg #[.slice none 0 0,.bool false],.int .i64 (qs p k n m)])∧za (fun _=>False) w w':=by
 obtain⟨c,hc⟩:∃c,c=qs p k n m:=⟨_,rfl⟩
 have HC:Hid (qs p k n m=c):=hc.symm
 rw [←hc] at h0 ⊢
 have h1:(c !=0)=true:=by simpa using h0
 clear hc h0
 go_enter Tryz.func108,Tryz.ntmps108
 go_wp2_with (go_at_call 155;refine(kZ _ p k hp hk n m).mono ?_;rintro e w1 ⟨rfl,hw1⟩;rw [hw1,HC.out];clear hw1 w1)
 exact bodyPost_ret (v:=.tuple #[.agg #[.slice none 0 0,.bool false],.int .i64 c]) (jr Tryz.results108 _ _ w.heap.size 90 _ (0,0) _ rfl (heap_alloc_new w _) Tryz.underlying90 rfl (by kernel_rfl)) rfl ⟨rfl,za.alloc _ _ _⟩
theorem g8{p k:ByteArray}{n m:Int}(h:qs p k n m=0):1≤m∧m≤50:=by
 unfold qs at h
 split at h
 ·omega
 ·split at h
  ·omega
  ·omega
structure cM (w w':World) (L:List zO) (m:Int) (x:Value) (more:Bool) (c:Int):Prop where
 kept:za (fun _=>False) w w'
 yes:c=0→gZ w w' L m.toNat x more
 no:c≠0→x=.slice none 0 0∧more=false
theorem Xc(w:World)(F G:Nat→Prop)(ib:Nat)(vs:List zO)(last:Int)(h:zQ w F G ib vs last)(hF:∀k,F k→k<w.heap.size)(hG:∀k,G k→k<w.heap.size)(hap:xz vs)(hfew:vs.length≤6000)(hks:∀v∈vs,v.key.size≤9223372036854775807)(p k:ByteArray)(n m:Int)(hp:p.size≤maxLen)(hk:k.size≤maxLen)(L:List zO)(hL:xA vs p k n L):
 Calls Tryz.prog 108 #[.pointer (some ⟨ib,0,none⟩),.string p,.string k,.int .i64 n,.int .i64 m] w fun e w'=>∃x more,e=.returned (.tuple #[.agg #[x,.bool more],.int .i64 (qs p k n m)])∧cM w w' L m x more (qs p k n m):=by
 by_cases h0:qs p k n m=0
 ·obtain⟨h1,h2⟩:=g8 h0
  obtain⟨m',rfl⟩:=Int.eq_ofNat_of_zero_le (show 0≤m by omega)
  refine(Jt w F G ib vs last h hF hG hap hfew hks p k n m' hp hk h0 (by omega) L hL).mono ?_
  rintro e w' ⟨x,more,rfl,h3,h4⟩
  exact⟨x,more,by rw [h0],h4,fun _=>h3,fun hc=>absurd h0 hc⟩
 ·refine(Ju w ib p k n m hp hk h0).mono ?_
  rintro e w' ⟨rfl,h1⟩
  exact⟨_,_,rfl,h1,fun hc=>absurd hc h0,fun _=>⟨rfl,rfl⟩⟩
end law
namespace book
open Go.RowKit disk ref
section
variable {P:Program} {ops:Array Oper} {Q:Exit→Act→World→Prop}
def leftOf(n:Nat)(listed:Array Bool):List Nat:=(List.range n).filter fun i=> !listed.getD i true
theorem vm{n i:Nat}{listed:Array Bool}:i∈leftOf n listed↔i<n∧listed.getD i true=false:=by
 unfold leftOf;rw [List.mem_filter,List.mem_range];simp
theorem Qw{n i:Nat}{listed:Array Bool}(h:i∈leftOf n listed):(leftOf n (listed.setIfInBounds i true)).length<(leftOf n listed).length:=by
 have hsub:leftOf n (listed.setIfInBounds i true)=(leftOf n listed).filter fun j=> !decide (j=i):=by
  unfold leftOf
  rw [List.filter_filter]
  refine List.filter_congr fun j _=>?_
  by_cases e:i=j
  ·subst e
   have h2:=(vm.1 h).2
   have hlt:i<listed.size:=by
    rcases Nat.lt_or_ge i listed.size with h'|h'
    ·exact h'
    ·simp [Array.getElem?_eq_none h'] at h2
   simp [hlt]
  ·rw [getD_set_ne true e];simp [Ne.symm e]
 rw [hsub]
 refine List.length_filter_lt_length_iff_exists.2 ⟨i,h,by simp⟩
def bB(ops:Array Oper):Bool:=(List.range ops.size).all fun i=>((ops[i]?).map fun o=>o.after.all fun e=> !Region.binds .any e||decide (e.on<i)).getD true
theorem g9(ho:bB ops=true){listed:Array Bool}(hs:listed.size=ops.size)(hr:Region.ready .any ops listed=[]):∀i,i<ops.size→listed.getD i false=true:=by
 intro i
 induction i using Nat.strongRecOn with
 |ind i ih=>
  intro hi
  cases h:listed.getD i false with
  |true=>rfl
  |false=>
   have h1:listed.getD i true=false:=by
    simp only [Array.getD,hs,hi, ↓reduceDIte] at h ⊢
    exact h
   have hmem:i∈Region.ready .any ops listed:=mem_ready.2 ⟨h1,ops[i],by simp [hi],fun e he hb=>by
    have h2:=List.all_eq_true.1 ho i (List.mem_range.2 hi)
    rw [Array.getElem?_eq_getElem hi] at h2
    simp only [Option.map_some,Option.getD_some,Array.all_eq_true_iff_forall_mem,Bool.or_eq_true,Bool.not_eq_true',decide_eq_true_eq] at h2
    have h3:=(h2 e he).resolve_left (by rw [hb];decide)
    exact ih e.on h3 (by omega)⟩
   rw [hr] at hmem
   cases hmem
theorem Xd(ho:bB ops=true)(I:(Nat→Bool)→Act→World→Prop)
 (hstep:∀(L:Nat→Bool) (a:Act) (w:World) (i:Nat) (o:Oper),ops[i]? =some o→L i=false→(∀e∈o.after,Region.binds .any e=true→L e.on=true)→I L a w→wpOp P ops Q i (fun a' w'=>I (fun j=>decide (j=i)||L j) a' w') a w)
 (hdone:∀(L:Nat→Bool) (a:Act) (w:World),(∀i,i<ops.size→L i=true)→I L a w→Q .normal a w):
 ∀(fuel:Nat) (listed:Array Bool) (a:Act) (w:World),listed.size=ops.size→(leftOf ops.size listed).length≤fuel→I (fun j=>listed.getD j false) a w→wpAny P .any ops Q fuel listed a w:=by
 intro fuel
 induction fuel with
 |zero=>
  intro listed a w hs hf hI
  have hr:Region.ready .any ops listed=[]:=by
   cases hrd:Region.ready .any ops listed with
   |nil=>rfl
   |cons i l=>
    obtain⟨h1,o,h2,_⟩:=mem_ready.1 (show i∈Region.ready .any ops listed by rw [hrd];simp)
    have:i∈leftOf ops.size listed:=vm.2 ⟨(lT h2),h1⟩
    rw [List.eq_nil_of_length_eq_zero (Nat.le_zero.1 hf)] at this
    cases this
  exact⟨hr,hdone _ a w (g9 ho hs hr) hI⟩
 |succ fuel ih=>
  intro listed a w hs hf hI
  refine⟨fun hr=>hdone _ a w (g9 ho hs hr) hI,fun i hi=>?_⟩
  obtain⟨h1,o,h2,h3⟩:=mem_ready.1 hi
  have hlt:=(lT h2)
  have hl:i<listed.size:=by omega
  have h1':listed.getD i false=false:=by
   simp only [Array.getD,hl, ↓reduceDIte] at h1 ⊢
   exact h1
  have hm:i∈leftOf ops.size listed:=vm.2 ⟨hlt,h1⟩
  have hls:=Qw hm
  refine wpOp_mono (fun a' w' h=>ih (listed.setIfInBounds i true) a' w' (by simpa using hs) (by omega) ?_) (hstep _ a w i o h2 h1' h3 hI)
  have e:(fun j=>(listed.setIfInBounds i true).getD j false)=(fun j=>decide (j=i)||listed.getD j false):=by
   funext j
   by_cases e:i=j
   ·subst e
    simp [hl]
   ·rw [getD_set_ne false e]
    simp [Ne.symm e]
  rw [e]
  exact h
theorem jk{id:Nat}{a:Act}{w:World}(hm:P.follows .mixedOrders=true)(ho:bB ops=true)(I:(Nat→Bool)→Act→World→Prop)(h0:I (fun _=>false) a w.drew)
 (hstep:∀(L:Nat→Bool) (a:Act) (w:World) (i:Nat) (o:Oper),ops[i]? =some o→L i=false→(∀e∈o.after,Region.binds .any e=true→L e.on=true)→I L a w→wpOp P ops Q i (fun a' w'=>I (fun j=>decide (j=i)||L j) a' w') a w)
 (hdone:∀(L:Nat→Bool) (a:Act) (w:World),(∀i,i<ops.size→L i=true)→I L a w→Q .normal a w):(Code.region id ops true).wp P Q a w:=by
 refine wp_region_any hm (Xd ho I hstep hdone ops.size _ a _ (by simp) ?_ ?_)
 ·unfold leftOf
  exact Nat.le_trans (List.length_filter_le _ _) (by simp)
 ·have e:(fun j=>(Array.replicate ops.size false).getD j false)=fun _=>false:=by
   funext j
   simp only [Array.getD,Array.size_replicate]
   split<;>simp
  rw [e]
  exact h0
theorem yV{w:World}{o:Oper}{a:Act}{K:Act→World→Prop}{E:Prop}(hgd:o.guard=none)(s x:Operand)(t:TypeId)
 (ho:o.op=.call {callee:=.builtin .append,args:=#[s,x],argTypes:=#[t,t] })
 (e:TypeId) (i:TypeInfo) (z:Value) (size bytes:Nat) (ht:P.underlying t=some (.slice e)) (hi:P.info? e=some i) (hz:i.zero=some z)
 (hsize:i.size=size) (hby:i.bytes=bytes) (hzs:z.cells.size=size) (v:Value) (n:Nat) (xs:List Value) (hs:a.eval s=v) (hown:w.ownsRow 0 e size v n xs)
 (ad:Addr) (m c:Nat) (news:List Value) (hx:a.eval x=.slice (some ad) m c) (hl:news.length=m*size) (hnews:∀j u,news[j]? =some u→w.cell? (ad.add j)=some u) (h1:∀u∈news,u.oneCell'=true) (hm:0<m)
 (h63:n+m≤maxLen) (hbytes:(n+m)*bytes≤140737488355328)
 (h:∀r w',VM w w' e size v n m xs r→K (a.put o.dst r) w'):if Region.wanted o (yielded ops a.tmps)=true then Oper.wp P o a w K Q else E:=by
 have hw:Region.wanted o (yielded ops a.tmps)=true:=by simp [Region.wanted,hgd]
 rw [if_pos hw]
 obtain⟨r,w',hr,h2⟩:=uw (P:=P) w t o.type e i z size bytes ht hi hz hsize hby hzs v n xs hown ad m c news hl hnews h1 hm h63 hbytes
 unfold Oper.wp execOp
 simp only [ho,resolve,invoke,builtin,Sem.run_bind,Sem.run_pure,Result.andThen_ok,List.map_toArray,List.map_cons,List.map_nil,hs,hx,hr]
 exact h r w' h2
end
theorem ji.pushV{w w5:World}{bp:Nat}{l:Value}{F H:Nat→Prop}{a b:Option Addr}{ca cb:Nat}{es vs:List jo}(h:ji w bp l F H a b ca cb es vs)(hfew:vs.length<4398046511104)(e:jo)(he:e.ss.length=4)
 (hl:bj w e.P e.g e.ss vs.length) (hP:∀k,e.P k→¬F k∧¬H k∧k≠bp∧k<w.heap.size) (hg:¬F e.g∧¬H e.g∧e.g≠bp∧e.g<w.heap.size)
 (o:Obj) (g5 c5:Nat) (hown:w5.ownsRow 0 129 1 (.slice (some ⟨g5,0,none⟩) (vs.length+1) c5) (vs.length+1) (vs.map jo.val++[.slice (some ⟨e.g,0,none⟩) 4 4]))
 (hgrow:(w.alloc o).grownBy w5 (Value.slice b vs.length cb).ownBlock) (hat:(Value.slice b vs.length cb).ownBlock=some g5∨g5=w.heap.size+1):
 ji (w5.setCell ⟨bp,2,none⟩ (.slice (some ⟨g5,0,none⟩) (vs.length+1) c5)) bp l F (fun k=>H k∨e.P k∨k=e.g∨k=g5) a (some ⟨g5,0,none⟩) ca c5 es (vs++[e])∧
  za (fun k=>(Value.slice b vs.length cb).ownBlock=some k∨k=bp) w (w5.setCell ⟨bp,2,none⟩ (.slice (some ⟨g5,0,none⟩) (vs.length+1) c5)):=by
 have hbp:=h.head.lt
 have hrowH:∀k,(Value.slice b vs.length cb).ownBlock=some k→H k:=fun k hk=>h.rows.foot2 k hk
 have k1:za (fun k=>(Value.slice b vs.length cb).ownBlock=some k) w w5:=(za.alloc _ w o).trans (za.grown (S:=fun k=>(Value.slice b vs.length cb).ownBlock=some k) hgrow (fun k hk=>hk)) iL
 have k2:=za.setCell (S:=fun k=>k=bp) w5 ⟨bp,2,none⟩ (.slice (some ⟨g5,0,none⟩) (vs.length+1) c5) rfl
 have k12:za (fun k=>(Value.slice b vs.length cb).ownBlock=some k∨k=bp) w (w5.setCell ⟨bp,2,none⟩ (.slice (some ⟨g5,0,none⟩) (vs.length+1) c5)):=(k1.mono iL).trans k2 (fun _ h=>.inl (.inr h))
 have hlen:(vs++[e]).length=vs.length+1:=by simp
 have hg5:H g5∨w.heap.size≤g5:=by
  rcases hat with e1|e1
  ·exact .inl (hrowH _ e1)
  ·exact .inr (by omega)
 have hg5bp:g5≠bp:=by
  rcases hg5 with h1|h1
  ·exact fun e1=>h.hbp (by rw [←e1];exact h1)
  ·omega
 have hcase:∀i (hi:i<(vs++[e]).length),(∃hi':i<vs.length,(vs++[e])[i]=vs[i])∨(i=vs.length∧(vs++[e])[i]=e):=fun i hi=>by
  by_cases h1:i<vs.length
  ·exact .inl ⟨h1,List.getElem_append_left h1⟩
  ·right
   have e1:i=vs.length:=by omega
   subst e1
   exact⟨rfl,by simp⟩
 have hnT:∀i (hi:i<vs.length) k,vs[i].P k→¬((Value.slice b vs.length cb).ownBlock=some k∨k=bp):=fun i hi k hk hc=>by
  rcases hc with hc|hc
  ·exact h.rows.row2 i hi k hk hc
  ·exact h.hbp (by rw [←hc];exact(h.rows.foot i hi).2 k hk)
 have hgT:∀i (hi:i<vs.length),¬((Value.slice b vs.length cb).ownBlock=some vs[i].g∨vs[i].g=bp):=fun i hi hc=>by
  rcases hc with hc|hc
  ·rcases h.rows.row.2 with⟨h0,h1⟩|⟨g',cap',cur,hv,_,hgg,_⟩
   ·omega
   ·rw [hv] at hc
    simp [Value.ownBlock] at hc
    subst hc
    have:=(h.rows.vets i hi).head
    rw [hgg] at this
    simp at this
  ·exact h.hbp (by rw [←hc];exact(h.rows.foot i hi).1)
 have heT:∀k,e.P k→¬((Value.slice b vs.length cb).ownBlock=some k∨k=bp):=fun k hk hc=>by
  rcases hc with hc|hc
  ·exact(hP k hk).2.1 (hrowH k hc)
  ·exact(hP k hk).2.2.1 hc
 have hegT:¬((Value.slice b vs.length cb).ownBlock=some e.g∨e.g=bp):=fun hc=>by
  rcases hc with hc|hc
  ·exact hg.2.1 (hrowH _ hc)
  ·exact hg.2.2.1 hc
 have hflt:=h.flt
 have hhlt:=h.hlt
 have hs12:=k12.size
 have hg5lt:g5<(w5.setCell ⟨bp,2,none⟩ (.slice (some ⟨g5,0,none⟩) (vs.length+1) c5)).heap.size:=by
  have:=(hown.lt g5 rfl).2;simpa using this
 have hg5g:∀k,H k→k<w.heap.size→(k=g5→(Value.slice b vs.length cb).ownBlock=some k):=fun k hk hlt e1=>by
  rcases hat with e2|e2
  ·rw [e1];exact e2
  ·omega
 refine⟨⟨⟨?_⟩,h.bytes.kept k12 (fun i hi hc=>?_),⟨?_,fun i hi=>?_,fun i hi=>?_,fun k hk=>?_,fun i hi k hk=>?_⟩,h.fbp,fun hc=>?_,fun k hk hc=>?_,h.few,by rw [hlen];omega,fun k hk=>by have:=hflt k hk;omega,fun k hk=>?_⟩,k12⟩
 ·rw [hlen]
  have e1:w5.heap[bp]? =_:=(k1.block bp hbp (fun hc=>h.hbp (hrowH bp hc))).trans h.head.head
  rw [heap_setCell_same w5 bp 2 _ _ _ e1];rfl
 ·rcases hc with hc|hc
  ·exact h.apart i hi (hrowH i hc)
  ·exact h.fbp (by rw [←hc];exact hi)
 ·rw [hlen,List.map_append]
  have:=k2.owns hown (fun k hk e1=>by simp [Value.ownBlock] at hk;omega)
  simpa [jo.val,he] using this
 ·rcases hcase i hi with⟨hi',e1⟩|⟨rfl,e1⟩
  ·rw [e1];exact(h.rows.vets i hi').kept k12 (hnT i hi') (hgT i hi')
  ·rw [e1];exact hl.kept k12 heT hegT
 ·rcases hcase i hi with⟨hi',e1⟩|⟨rfl,e1⟩<;>rw [e1]
  ·exact⟨.inl (h.rows.foot i hi').1,fun k hk=>.inl ((h.rows.foot i hi').2 k hk)⟩
  ·exact⟨.inr (.inr (.inl rfl)),fun k hk=>.inr (.inl hk)⟩
 ·rw [hlen] at hk
  simp only [Value.ownBlock,Option.some.injEq] at hk
  exact .inr (.inr (.inr hk.symm))
 ·rw [hlen]
  simp only [Value.ownBlock,ne_eq,Option.some.injEq]
  intro e3
  rcases hcase i hi with⟨hi',e1⟩|⟨rfl,e1⟩<;>rw [e1] at hk
  ·have hH:=(h.rows.foot i hi').2 k hk
   exact h.rows.row2 i hi' k hk (hg5g k hH (hhlt k hH) e3.symm)
  ·rcases hg5 with h1|h1
   ·exact(hP k hk).2.1 (by rw [←e3];exact h1)
   ·have:=(hP k hk).2.2.2;omega
 ·rcases hc with hc|hc|hc|hc
  ·exact h.hbp hc
  ·exact(hP bp hc).2.2.1 rfl
  ·exact hg.2.2.1 hc.symm
  ·exact hg5bp hc.symm
 ·rcases hc with hc|hc|hc|hc
  ·exact h.apart k hk hc
  ·exact(hP k hc).1 hk
  ·exact hg.1 (by rw [←hc];exact hk)
  ·rcases hg5 with h1|h1
   ·exact h.apart k hk (by rw [hc];exact h1)
   ·have:=hflt k hk;omega
 ·rcases hk with hk|hk|hk|hk
  ·have:=hhlt k hk;omega
  ·have:=(hP k hk).2.2.2;omega
  ·have:=hg.2.2.2;omega
  ·rw [hk];exact hg5lt
end book
end Go.Proofs.YtcoengihaobddaaGreatDoor
