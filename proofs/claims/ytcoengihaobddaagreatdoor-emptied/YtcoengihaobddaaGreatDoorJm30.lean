/- Part 30 of 31 of a proof: Rep1, Rep2, Mng1, Mng2, Mng3, Rep3, Rem11 -/
import Derived.Test.YtcoengihaobddaaGreatDoorJm06
import Derived.Test.YtcoengihaobddaaGreatDoorJm24
import Derived.Test.YtcoengihaobddaaGreatDoorJm28
set_option maxHeartbeats 8000000
set_option linter.unusedVariables false
set_option linter.unusedSimpArgs false
set_option maxRecDepth 8000
namespace Go.Proofs.YtcoengihaobddaaGreatDoor
open Go.RowKit disk ref
namespace prog
open law (qH)
open keys (zs)
def Q6(bs:List (List Value))(j:Nat):List Value:=Dk.look ⟨bs,[], -1,0⟩ (j:Nat)
theorem yp{D:Dk}(hp:D.ps=[])(j:Nat):D.look (j:Nat)=Q6 D.bs j:=by unfold Q6 Dk.look;rw [hp]
def qT(es:List En)(bo:Pl→List zp):List Nat:=(es.map fun x=>(bo x.pl).map zp.at_).flatten
def yC(bo:Pl→List zp)(x:En):zO:=⟨x.pl.key,x.pl.num,x.mark,((bo x.pl).map zp.l).flatten⟩
structure J3 (rd:Nat→List Value) (bo:Pl→List zp) (x:En):Prop where
 chain:yj rd (bo x.pl)
 head:yt (bo x.pl)=x.at_
 size:((bo x.pl).map zp.l).flatten.length=x.size
 few:(bo x.pl).length≤(x.size+99)/100
structure vY (bs:List (List Value)) (V:qH) (tree n:Nat) (m:List UInt8) (es:List En) (bl:List Nat) (bo:Pl→List zp):Prop where
 few:bs.length≤1000
 root:qQ (Q6 bs 1) tree n
 n0:V.n0=n
 map:qg (Q6 bs 2) m
 forest:qE (Q6 bs) tree es bl
 body:∀x∈es,J3 (Q6 bs) bo x
 nodup:(bl++qT es bo).Nodup
 range:∀j∈bl++qT es bo,21≤j∧j<bs.length
 taken:∀i,i+21<bs.length→(zM m i=true↔i+21∈bl++qT es bo)
 vers:V.vs.Perm (es.map (yC bo))
 head:∃p:Pg,p.Ok∧Q6 bs 0=zl p∧p.items.length=0
 good:law.Good V
theorem jo:∀(l r:List Nat),l.Nodup→(∀x∈l,x∈r)→l.length≤r.length
 |[],_,_,_=>by simp
 |a::l,r,hn,hs=>by
  rw [List.nodup_cons] at hn
  have h1:=jo l (r.erase a) hn.2 (fun x hx=>(List.mem_erase_of_ne (show x≠a from fun e=>hn.1 (e▸hx))).2 (hs x (List.mem_cons_of_mem _ hx)))
  have ha:=hs a (List.mem_cons_self ..)
  have hp:=List.length_pos_of_mem ha
  rw [List.length_erase_of_mem ha] at h1
  rw [List.length_cons]
  omega
theorem uA{l:List Nat}{N:Nat}(hn:l.Nodup)(hr:∀j∈l,21≤j∧j<N):l.length≤N-21:=by
 have:=jo l (List.range' 21 (N-21)) hn (fun x hx=>by rw [List.mem_range'_1];have:=hr x hx;omega)
 simpa using this
theorem ZT{h:Nat}:∀(cs:List (Pl×Tr h)),(∀c∈cs,c.2.ents.length≤6*c.2.blocks.length)→(zF cs).length≤6*(zw cs).length
 |[],_=>by simp [zw,zF]
 |c::cs,hc=>by
  have h1:=hc c (List.mem_cons_self ..)
  have h2:=ZT cs (fun x hx=>hc x (List.mem_cons_of_mem _ hx))
  rw [qj,zo,List.length_append,List.length_append]
  omega
theorem Tr.Good.six:∀{h:Nat} {t:Tr h},t.Good→t.items.length≤6→t.ents.length≤6*t.blocks.length
 |0,t,_,hl=>by show t.2.length≤6*1;have h2:t.2.length=t.items.length:=rfl;omega
 |h+1,t,g,hl=>by
  have:=ZT t.2 (fun c hc=>(g.kids.good c hc).1.six (g.kids.good c hc).2.1)
  rw [Tr.blocks_succ,Tr.ents_succ,List.length_cons]
  omega
theorem qE.six{rd:Nat→List Value}{root:Nat}{es:List En}{bs:List Nat}(h:qE rd root es bs):es.length≤6*bs.length∧2*bs.length≤es.length+1∧qX es:=by
 rcases h with⟨rfl,rfl,rfl⟩|⟨h,t,hr,hl,rfl,rfl,rfl⟩
 ·exact⟨by simp,by simp,List.Pairwise.nil⟩
 ·exact⟨hr.good.six hr.hi,hr.few,hr.srt⟩
theorem qE.congr{rd rd':Nat→List Value}{root:Nat}{es:List En}{bs:List Nat}(h:qE rd root es bs)(e:∀j∈bs,rd' j=rd j):qE rd' root es bs:=by
 rcases h with h|⟨h,t,hr,hl,rfl,rfl,rfl⟩
 ·exact .inl h
 ·exact .inr ⟨h,t,hr,hl.congr e,rfl,rfl,rfl⟩
theorem ZU{rd:Nat→List Value}{bo:Pl→List zp}:∀(es:List En),(∀x∈es,J3 rd bo x)→es.length+(qT es bo).length≤weight (es.map (yC bo))
 |[],_=>by simp [qT]
 |x::es,h=>by
  have h1:=h x (List.mem_cons_self ..)
  have h2:=ZU es (fun y hy=>h y (List.mem_cons_of_mem _ hy))
  have h3:=h1.few
  have h4:weight ((x::es).map (yC bo))=qx x.size+weight (es.map (yC bo)):=by
   unfold weight
   rw [List.map_cons,List.map_cons,List.sum_cons]
   show qx ((bo x.pl).map zp.l).flatten.length+_=_
   rw [h1.size]
  have h5:(qT (x::es) bo).length=(bo x.pl).length+(qT es bo).length:=by simp [qT]
  rw [h4,h5,List.length_cons]
  unfold qx
  omega
theorem vY.len{bs:List (List Value)}{V:qH}{tree n:Nat}{m:List UInt8}{es:List En}{bl:List Nat}{bo:Pl→List zp}(h:vY bs V tree n m es bl bo):bl.length≤979:=by
 have h1:=uA h.nodup h.range
 have:=h.few
 rw [List.length_append] at h1
 omega
theorem fI{es:List En}{bo:Pl→List zp}{j:Nat}:j∈qT es bo↔∃x∈es,j∈(bo x.pl).map zp.at_:=by
 unfold qT
 rw [List.mem_flatten]
 constructor
 ·rintro⟨l,hl,hj⟩
  obtain⟨x,hx,rfl⟩:=List.mem_map.1 hl
  exact⟨x,hx,hj⟩
 ·rintro⟨x,hx,hj⟩
  exact⟨_,List.mem_map.2 ⟨x,hx,rfl⟩,hj⟩
theorem vY.low{bs:List (List Value)}{V:qH}{tree n:Nat}{m:List UInt8}{es:List En}{bl:List Nat}{bo:Pl→List zp}(h:vY bs V tree n m es bl bo):∀x∈es,(¬x.pl.lt qP=true)∧1≤x.pl.num∧x.pl.num≤n∧zs x.pl.key.data.toList=true:=fun x hx=>by
 have hv:yC bo x∈V.vs:=h.vers.mem_iff.2 (List.mem_map.2 ⟨x,hx,rfl⟩)
 have hk:=h.good.key _ hv
 have hm:=h.good.num _ hv
 rw [h.n0] at hm
 refine⟨fun hc=>?_,hm.1,hm.2,hk⟩
 rw [Pl.lt_iff] at hc
 have hne:zs (qP.key).data.toList=false:=by decide
 rcases hc with hc|⟨hc,_⟩
 ·have h2:∀k:ByteArray,ql k qP.key=false:=by
   intro k
   show qk k.data.toList []=false
   cases k.data.toList<;>rfl
  rw [h2] at hc;cases hc
 ·have hk2:zs x.pl.key.data.toList=true:=hk
  rw [hc,hne] at hk2;cases hk2
structure vj (D:Dk) (V:qH) (tree n:Nat) (m:List UInt8) (es:List En) (bl:List Nat) (bo:Pl→List zp) (key:ByteArray) (mark:Bool) (l:List UInt8) (f:Nat) (C1:Ck) (m1:List UInt8) (nb1:List Nat) (root':Nat) (C2:Ck) (m2:List UInt8) (pb nb:List Nat):Prop where
 rep:vY D.bs V tree n m es bl bo
 ps:D.ps=[]
 big:64≤D.bs.length
 body:Yt D vH C1 m m1 f (zy l) nb1
 ins:gm D C1 C2 m1 m2 root' ⟨⟨key,(n:Int)+1⟩,mark,l.length,f⟩ es bl pb nb
 key:zs key.data.toList=true
 len:l.length≤300
 bare:mark=true→l=[]
 num:n<4611686018427387904
section
variable {D:Dk} {V:qH} {tree n:Nat} {m:List UInt8} {es:List En} {bl:List Nat} {bo:Pl→List zp} {key:ByteArray} {mark:Bool} {l:List UInt8} {f:Nat} {C1:Ck} {m1:List UInt8} {nb1:List Nat} {root':Nat} {C2:Ck} {m2:List UInt8} {pb nb:List Nat}
theorem vj.old(h:vj D V tree n m es bl bo key mark l f C1 m1 nb1 root' C2 m2 pb nb){j:Nat}(hj:j∈bl++qT es bo):zM m (j-21)=true∧zM m1 (j-21)=true∧j∉nb1∧j∉nb:=by
 have hr:=h.rep.range j hj
 have h1:zM m (j-21)=true:=(h.rep.taken (j-21) (by omega)).2 (by rw [show j-21+21=j from by omega];exact hj)
 have h2:=h.body.stp.grew.keeps h1
 exact⟨h1,h2,h.body.stp.grew.apart h1,h.ins.stp.grew.apart h2⟩
theorem vj.mid(h:vj D V tree n m es bl bo key mark l f C1 m1 nb1 root' C2 m2 pb nb){j:Nat}(hj:j∈nb1):21≤j∧j<D.bs.length∧j∉bl++qT es bo∧j∉nb:=by
 have hf:=h.body.stp.grew.fresh j hj
 refine⟨hf.1,hf.2.1,fun hc=>(h.old hc).2.2.1 hj,?_⟩
 refine h.ins.stp.grew.apart ?_
 rw [h.body.stp.grew.taken,show j-21+21=j from by omega]
 simp [hj]
theorem vj.new(h:vj D V tree n m es bl bo key mark l f C1 m1 nb1 root' C2 m2 pb nb){j:Nat}(hj:j∈nb):21≤j∧j<D.bs.length:=by
 have hf:=h.ins.stp.grew.fresh j hj
 exact⟨hf.1,hf.2.1⟩
theorem vj.keys(h:vj D V tree n m es bl bo key mark l f C1 m1 nb1 root' C2 m2 pb nb)(hf:C2.full=false):∀k∈(C2.put 1 (zl (zB root' (n+1)))).keys,k∈[1,2]++(nb1++(pb++nb)):=fun k hk=>by
 have hf1:C1.full=false:=by
  cases h1:C1.full with
  |false=>rfl
  |true=>rw [h.ins.stp.full h1] at hf;cases hf
 rcases (xh C2 1 _ k).1 hk with h1|h1
 ·rcases h.ins.stp.keys k h1 with h1|h1|h1|h1|h1
  ·rcases h.body.stp.keys k h1 with h1|h1|h1|h1|h1
   ·exact nomatch h1
   ·exact nomatch h1
   ·simp [h1]
   ·simp [h1]
   ·rw [hf1] at h1;exact nomatch h1.2
  ·simp [h1]
  ·simp [h1]
  ·simp [h1]
  ·rw [hf] at h1;exact nomatch h1.2
 ·simp [h1]
theorem vj.klt(h:vj D V tree n m es bl bo key mark l f C1 m1 nb1 root' C2 m2 pb nb)(hf:C2.full=false):∀k∈(C2.put 1 (zl (zB root' (n+1)))).keys,k<D.bs.length:=fun k hk=>by
 have:=h.keys hf k hk
 have hb:=h.big
 rcases List.mem_append.1 this with h1|h1
 ·simp at h1;omega
 ·rcases List.mem_append.1 h1 with h1|h1
  ·exact(h.mid h1).2.1
  ·rcases List.mem_append.1 h1 with h1|h1
   ·exact(h.rep.range k (List.mem_append_left _ (h.ins.sub k h1))).2
   ·exact(h.new h1).2
theorem KD{h:Nat}(h3:3^h≤979):h≤6:=by
 rcases Nat.lt_or_ge 6 h with h7|h7
 ·have:3^7≤3^h:=Nat.pow_le_pow_right (by omega) h7
  omega
 ·exact h7
theorem vj.fits(h:vj D V tree n m es bl bo key mark l f C1 m1 nb1 root' C2 m2 pb nb)(hfit:y6 V.vs (qx l.length) D.bs.length=true):((C2.put 1 (zl (zB root' (n+1)))).full||decide (18<(C2.put 1 (zl (zB root' (n+1)))).ws.length))=false:=by
 have hnl:=h.body.nl
 rw [yu] at hnl
 have hlen:=h.len
 cases hf:C2.full with
 |true=>
  exfalso
  have hall:=h.ins.chn.full hf
  have h1:=jo (List.range' 21 (D.bs.length-21)) ((bl++qT es bo)++(nb1++nb)) List.nodup_range' (fun x hx=>by
   rw [List.mem_range'_1] at hx
   have hx1:=hall (x-21) (by omega)
   rw [h.ins.stp.grew.taken,h.body.stp.grew.taken,show x-21+21=x from by omega] at hx1
   simp only [Bool.or_eq_true,decide_eq_true_eq] at hx1
   rcases hx1 with(hx1|hx1)|hx1
   ·have:=(h.rep.taken (x-21) (by omega)).1 hx1
    rw [show x-21+21=x from by omega] at this
    exact List.mem_append_left _ this
   ·exact List.mem_append_right _ (List.mem_append_left _ hx1)
   ·exact List.mem_append_right _ (List.mem_append_right _ hx1))
  rw [List.length_range',List.length_append,List.length_append,List.length_append] at h1
  have h2:=h.rep.forest.six.2.1
  have h3:=h.ins.nl
  have h4:=ZU es h.rep.body
  rw [←ce h.rep.vers] at h4
  unfold y6 qx at hfit
  simp only [decide_eq_true_eq] at hfit
  omega
 |false=>
  rw [qy,hf,Bool.false_or,decide_eq_false_iff_not]
  obtain⟨bl',hF,hp,hh,hc1,hc2⟩:=h.ins.tree hf
  have h1:=jo _ _ (yI h.ins.chn.nodup 1 (zl (zB root' (n+1)))) (h.keys hf)
  rw [Ck.keys_len] at h1
  simp only [List.length_append,List.length_cons,List.length_nil] at h1
  have hbl:bl'.length≤979:=by
   have:=uA (l:=bl') (N:=D.bs.length) (hp.nodup_iff.2 (List.nodup_append.2 ⟨(List.nodup_append.1 h.rep.nodup).1,h.ins.stp.grew.nodup,fun a ha b hb e=>(h.old (List.mem_append_left _ ha)).2.2.2 (e▸hb)⟩)) (fun j hj=>by
    rcases List.mem_append.1 (hp.mem_iff.1 hj) with hj|hj
    ·exact h.rep.range j (List.mem_append_left _ hj)
    ·exact h.new hj)
   have:=h.rep.few
   omega
  have:=KD (Nat.le_trans hc2 hbl)
  omega
theorem bR(hp:D.ps=[]){ws:List (Nat×List Value)}{j:Nat}:Q6 (vk D.bs ws) j=Dk.look {D with bs:=vk D.bs ws} (j:Nat):=by
 unfold Q6 Dk.look
 rw [hp]
theorem vj.rest(h:vj D V tree n m es bl bo key mark l f C1 m1 nb1 root' C2 m2 pb nb)(hnf:((C2.put 1 (zl (zB root' (n+1)))).full||decide (18<(C2.put 1 (zl (zB root' (n+1)))).ws.length))=false):∃bl' bo',vY (vk D.bs (C2.put 1 (zl (zB root' (n+1)))).ws) (V.add key mark l) root' (n+1) m2 (qY ⟨⟨key,(n:Int)+1⟩,mark,l.length,f⟩ es) bl' bo':=by
 simp only [Bool.or_eq_false_iff,decide_eq_false_iff_not,qy] at hnf
 obtain⟨hf,h18⟩:=hnf
 have hf1:C1.full=false:=by
  cases h1:C1.full with
  |false=>rfl
  |true=>rw [h.ins.stp.full h1] at hf;cases hf
 obtain⟨bl',hF,hp,_⟩:=h.ins.tree hf
 obtain⟨ps,c1,c2,c3,c4⟩:=h.body.chain hf1
 have hbig:=h.big
 have hkn:=yI h.ins.chn.nodup 1 (zl (zB root' (n+1)))
 have look:∀j:Nat,j≠0→(j<3∨21≤j)→Q6 (vk D.bs (C2.put 1 (zl (zB root' (n+1)))).ws) j=(C2.put 1 (zl (zB root' (n+1)))).look D (j:Nat):=fun j h0 hj=>by
  rw [bR h.ps]
  exact Zj h.ps hkn (by omega) (h.klt hf) h0 hj
 have look2:∀j:Nat,j≠0→j≠1→(j<3∨21≤j)→Q6 (vk D.bs (C2.put 1 (zl (zB root' (n+1)))).ws) j=C2.look D (j:Nat):=fun j h0 h1 hj=>by
  rw [look j h0 hj,zQ _ _ _ _ _ (by omega)]
 have hne:∀x∈es,x.pl≠⟨key,(n:Int)+1⟩:=fun x hx e=>by
  have:=(h.rep.low x hx).2.2.1
  rw [e] at this
  simp only at this
  omega
 refine⟨bl',fun p=>if p=⟨key,(n:Int)+1⟩ then ps else bo p,?_⟩
 have hbo:∀x∈es,(fun p=>if p=(⟨key,(n:Int)+1⟩:Pl) then ps else bo p) x.pl=bo x.pl:=fun x hx=>if_neg (hne x hx)
 have hboe:(fun p=>if p=(⟨key,(n:Int)+1⟩:Pl) then ps else bo p) ⟨key,(n:Int)+1⟩=ps:=if_pos rfl
 generalize (fun p=>if p=(⟨key,(n:Int)+1⟩:Pl) then ps else bo p)=bo' at*
 have hbods0:qT es bo'=qT es bo:=by
  unfold qT
  congr 1
  exact List.map_congr_left (fun x hx=>by rw [hbo x hx])
 have hbods:(qT (qY ⟨⟨key,(n:Int)+1⟩,mark,l.length,f⟩ es) bo').Perm (nb1++qT es bo):=by
  have h1:(qT (qY ⟨⟨key,(n:Int)+1⟩,mark,l.length,f⟩ es) bo').Perm (qT (⟨⟨key,(n:Int)+1⟩,mark,l.length,f⟩::es) bo'):=((jf _ es).map _).flatten
  have h2:qT (⟨⟨key,(n:Int)+1⟩,mark,l.length,f⟩::es) bo'=ps.map zp.at_++qT es bo:=by
   rw [←hbods0]
   unfold qT
   rw [List.map_cons,List.flatten_cons,hboe]
  rw [h2] at h1
  exact h1.trans (c4.append_right _)
 have hall:(bl'++qT (qY ⟨⟨key,(n:Int)+1⟩,mark,l.length,f⟩ es) bo').Perm ((bl++qT es bo)++(nb1++nb)):=by
  refine(hp.append hbods).trans ?_
  rw [List.append_assoc,List.append_assoc]
  refine List.Perm.append_left bl ?_
  have e1:(nb++(nb1++qT es bo)).Perm ((nb1++qT es bo)++nb):=List.perm_append_comm
  refine e1.trans ?_
  rw [←List.append_assoc]
  exact List.Perm.append_right nb List.perm_append_comm
 have hmem:∀j,j∈bl'++qT (qY ⟨⟨key,(n:Int)+1⟩,mark,l.length,f⟩ es) bo'↔(j∈bl++qT es bo∨j∈nb1∨j∈nb):=fun j=>by
  rw [hall.mem_iff,List.mem_append (s:=bl++qT es bo),List.mem_append (s:=nb1)]
 have hlow:∀x:Nat,21≤x→x≠0∧x≠1∧(x<3∨21≤x):=fun x hx=>⟨by omega,by omega,.inr hx⟩
 have hflat:(ps.map zp.l).flatten=l:=by rw [c3,Zq]
 have hplen:ps.length=(l.length+123)/124:=by
  have:=congrArg List.length c3
  rw [List.length_map,yu] at this
  exact this
 have hll:=h.len
 refine⟨by rw [y5];exact h.rep.few,?_,?_,?_,?_,?_,?_,?_,?_,?_,?_,?_⟩
 ·have:=look 1 (by omega) (by omega)
  rw [this]
  have h2:(C2.put 1 (zl (zB root' (n+1)))).look D ((1:Nat):Int)=zl (zB root' (n+1)):=zZ _ _ _ _
  rw [h2]
  exact⟨.inl rfl,h.ins.lt,by have:=h.num;omega⟩
 ·show V.n0+1=_
  rw [h.rep.n0]
  omega
 ·rw [look2 2 (by omega) (by omega) (by omega)]
  exact h.ins.chn.map
 ·refine hF.congr (fun j hj=>?_)
  have hj2:21≤j:=by
   rcases List.mem_append.1 (hp.mem_iff.1 hj) with hj|hj
   ·exact(h.rep.range j (List.mem_append_left _ hj)).1
   ·exact(h.new hj).1
  obtain⟨a1,a2,a3⟩:=hlow j hj2
  exact look2 j a1 a2 a3
 ·intro x hx
  rcases je.1 hx with rfl|hx
  ·refine⟨?_,?_,?_,?_⟩
   ·show yj _ (bo' ⟨key,(n:Int)+1⟩)
    rw [hboe]
    refine c1.congr (fun p hpp=>?_)
    have hm1:p.at_∈nb1:=c4.mem_iff.1 (List.mem_map.2 ⟨p,hpp,rfl⟩)
    have hm2:=h.mid hm1
    obtain⟨a1,a2,a3⟩:=hlow p.at_ hm2.1
    rw [look2 _ a1 a2 a3]
    exact h.ins.stp.look _ (fun hc=>hm2.2.2.1 (List.mem_append_left _ (h.ins.sub _ hc))) hm2.2.2.2 (by omega) a1
   ·show yt (bo' ⟨key,(n:Int)+1⟩)=f
    rw [hboe];exact c2
   ·show ((bo' ⟨key,(n:Int)+1⟩).map zp.l).flatten.length=l.length
    rw [hboe,hflat]
   ·show (bo' ⟨key,(n:Int)+1⟩).length≤(l.length+99)/100
    rw [hboe,hplen];omega
  ·have hb:=h.rep.body x hx
   have hx2:=hbo x hx
   refine⟨?_,by rw [hx2];exact hb.head,by rw [hx2];exact hb.size,by rw [hx2];exact hb.few⟩
   rw [hx2]
   refine hb.chain.congr (fun p hpp=>?_)
   have hm1:p.at_∈qT es bo:=fI.2 ⟨x,hx,List.mem_map.2 ⟨p,hpp,rfl⟩⟩
   have hm2:=h.old (List.mem_append_right bl hm1)
   have hm3:=h.rep.range p.at_ (List.mem_append_right _ hm1)
   obtain⟨a1,a2,a3⟩:=hlow p.at_ hm3.1
   have hnp:p.at_∉pb:=fun hc=>(List.nodup_append.1 h.rep.nodup).2.2 _ (h.ins.sub _ hc) _ hm1 rfl
   rw [look2 _ a1 a2 a3,h.ins.stp.look _ hnp hm2.2.2.2 (by omega) a1,h.body.stp.look _ (fun hc=>nomatch hc) hm2.2.2.1 (by omega) a1,yi,yp h.ps]
 ·refine hall.nodup_iff.2 (List.nodup_append.2 ⟨h.rep.nodup,List.nodup_append.2 ⟨h.body.stp.grew.nodup,h.ins.stp.grew.nodup,fun a ha b hb e=>(h.mid ha).2.2.2 (e▸hb)⟩,fun a ha b hb e=>?_⟩)
  rcases List.mem_append.1 hb with hb|hb
  ·exact(h.old ha).2.2.1 (e▸hb)
  ·exact(h.old ha).2.2.2 (e▸hb)
 ·intro j hj
  rw [y5]
  rcases (hmem j).1 hj with hj|hj|hj
  ·exact h.rep.range j hj
  ·exact⟨(h.mid hj).1,(h.mid hj).2.1⟩
  ·exact h.new hj
 ·intro i hi
  rw [y5] at hi
  rw [hmem,h.ins.stp.grew.taken,h.body.stp.grew.taken]
  simp only [Bool.or_eq_true,decide_eq_true_eq]
  rw [h.rep.taken i hi,or_assoc]
 ·show (V.vs++[(⟨key,V.n0+1,mark,l⟩:zO)]).Perm _
  have h1:((qY ⟨⟨key,(n:Int)+1⟩,mark,l.length,f⟩ es).map (yC bo')).Perm ((⟨⟨key,(n:Int)+1⟩,mark,l.length,f⟩::es).map (yC bo')):=(jf _ es).map _
  have h2:(⟨⟨key,(n:Int)+1⟩,mark,l.length,f⟩::es).map (yC bo')=⟨key,V.n0+1,mark,l⟩::es.map (yC bo):=by
   rw [List.map_cons]
   congr 1
   ·show (⟨key,(n:Int)+1,mark,((bo' ⟨key,(n:Int)+1⟩).map zp.l).flatten⟩:zO)=_
    rw [hboe,hflat,h.rep.n0]
   ·refine List.map_congr_left (fun x hx=>?_)
    unfold yC
    rw [hbo x hx]
  rw [h2] at h1
  refine List.Perm.trans ?_ h1.symm
  refine List.perm_append_comm.trans ?_
  show ((⟨key,V.n0+1,mark,l⟩:zO)::V.vs).Perm _
  exact h.rep.vers.cons _
 ·refine⟨Pg.new 1,Pg.new_ok 1 (by omega),?_,rfl⟩
  rw [bR h.ps]
  exact Zk h.ps (by omega) _
 ·have hg:=h.rep.good
  have hn0:=h.rep.n0
  refine⟨?_,?_,?_,?_,?_,?_,?_⟩
  ·show (V.vs++[(⟨key,V.n0+1,mark,l⟩:zO)]).Pairwise _
   refine List.pairwise_append.2 ⟨hg.apart,List.pairwise_singleton _ _,fun a ha b hb hc=>?_⟩
   rw [List.mem_singleton.1 hb] at hc
   have:=(hg.num a ha).2
   have h2:a.num=V.n0+1:=hc.2
   omega
  ·intro v hv
   show 1≤v.num∧v.num≤V.n0+1
   rcases List.mem_append.1 hv with hv|hv
   ·have:=hg.num v hv;omega
   ·rw [List.mem_singleton.1 hv];show 1≤V.n0+1∧V.n0+1≤V.n0+1;omega
  ·intro v hv
   rcases List.mem_append.1 hv with hv|hv
   ·exact hg.key v hv
   ·rw [List.mem_singleton.1 hv];exact h.key
  ·intro v hv
   rcases List.mem_append.1 hv with hv|hv
   ·exact hg.body v hv
   ·rw [List.mem_singleton.1 hv];exact h.len
  ·intro v hv
   rcases List.mem_append.1 hv with hv|hv
   ·exact hg.mark v hv
   ·rw [List.mem_singleton.1 hv];exact h.bare
  ·have h1:(V.vs++[(⟨key,V.n0+1,mark,l⟩:zO)]).length≤6000:=by
    have h2:=hF.six.1
    rw [(jf _ es).length_eq,List.length_cons] at h2
    have h3:=h.rep.vers.length_eq
    rw [List.length_map] at h3
    have hbl:bl'.length≤979:=by
     have:=uA (l:=bl') (N:=D.bs.length) (hp.nodup_iff.2 (List.nodup_append.2 ⟨(List.nodup_append.1 h.rep.nodup).1,h.ins.stp.grew.nodup,fun a ha b hb e=>(h.old (List.mem_append_left _ ha)).2.2.2 (e▸hb)⟩)) (fun j hj=>by
      rcases List.mem_append.1 (hp.mem_iff.1 hj) with hj|hj
      ·exact h.rep.range j (List.mem_append_left _ hj)
      ·exact h.new hj)
     have:=h.rep.few
     omega
    rw [List.length_append,List.length_singleton]
    omega
   exact h1
  ·show 0≤V.n0+1
   have:=hg.n0
   omega
end
theorem bT{l:List UInt8}(h:zs l=true):1≤l.length∧l.length≤8∧(0:UInt8)∉l:=by
 unfold zs at h
 simp only [Bool.and_eq_true,decide_eq_true_eq] at h
 refine⟨h.1.1,h.1.2,fun h0=>?_⟩
 have h2:=h.2
 unfold keys.jr at h2
 rw [List.all_eq_true] at h2
 have:=h2 0 h0
 exact absurd this (by decide)
theorem KE{key:ByteArray}(h:zs key.data.toList=true)(k:Int):¬(⟨key,k⟩:Pl).lt qP=true:=fun hc=>by
 rw [Pl.lt_iff] at hc
 rcases hc with hc|⟨hc,_⟩
 ·have h2:∀k:ByteArray,ql k qP.key=false:=by
   intro k
   show qk k.data.toList []=false
   cases k.data.toList<;>rfl
  rw [h2] at hc;cases hc
 ·have h1:=(bT h).1
  have hc':key=qP.key:=hc
  rw [hc'] at h1
  exact absurd h1 (by decide)
section
variable {bs:List (List Value)} {V:qH} {tree n:Nat} {m:List UInt8} {es:List En} {bl:List Nat} {bo:Pl→List zp}
theorem vY.ver(h:vY bs V tree n m es bl bo){v:zO}(hv:v∈V.vs):∃x∈es,v=yC bo x:=by
 obtain⟨x,hx,e⟩:=List.mem_map.1 (h.vers.mem_iff.1 hv)
 exact⟨x,hx,e.symm⟩
theorem vY.mem(h:vY bs V tree n m es bl bo){x:En}(hx:x∈es):yC bo x∈V.vs:=h.vers.mem_iff.2 (List.mem_map.2 ⟨x,hx,rfl⟩)
theorem qX.same{l:List En}(h:qX l){x y:En}(hx:x∈l)(hy:y∈l)(e:x.pl=y.pl):x=y:=by
 induction l with
 |nil=>exact nomatch hx
 |cons a l ih=>
  have h2:=List.pairwise_cons.1 h
  rcases List.mem_cons.1 hx with ex|hx1
  ·rcases List.mem_cons.1 hy with ey|hy1
   ·rw [ex,ey]
   ·have:=h2.1 y hy1
    rw [←ex,e] at this
    exact absurd this (Pl.irrefl _)
  ·rcases List.mem_cons.1 hy with ey|hy1
   ·have:=h2.1 x hx1
    rw [←ey,e] at this
    exact absurd this (Pl.irrefl _)
   ·exact ih h2.2 hx1 hy1
theorem qX.head_on{l:List En}(h:qX l){p:Pl}{x:En}(ho:(yv p l).head? =some x):x∈l∧x.pl.lt p=false∧∀y∈l,y.pl.lt p=false→y=x∨x.pl.lt y.pl=true:=by
 have hs:qX (yv p l):=List.Pairwise.filter _ h
 cases hl:yv p l with
 |nil=>rw [hl] at ho;cases ho
 |cons a r=>
  rw [hl] at ho
  cases ho
  have hx:x∈yv p l:=by rw [hl];exact List.mem_cons_self ..
  have hx2:=List.mem_filter.1 hx
  refine⟨hx2.1,by simpa using hx2.2,fun y hy hlt=>?_⟩
  have hym:y∈yv p l:=List.mem_filter.2 ⟨hy,by rw [hlt];rfl⟩
  rw [hl] at hym hs
  rcases List.mem_cons.1 hym with rfl|hym
  ·exact .inl rfl
  ·exact .inr ((List.pairwise_cons.1 hs).1 y hym)
theorem Xw{l:List En}{p:Pl}(ho:(yv p l).head? =none):∀y∈l,y.pl.lt p=true:=fun y hy=>by
 have:yv p l=[]:=by
  cases h:yv p l with
  |nil=>rfl
  |cons a r=>rw [h] at ho;cases ho
 unfold yv at this
 rw [List.filter_eq_nil_iff] at this
 have:=this y hy
 simpa using this
theorem vY.lt_max(h:vY bs V tree n m es bl bo)(hn:n<4611686018427387904){y:En}(hy:y∈es)(key:ByteArray)(hk:y.pl.key=key):y.pl.lt ⟨key,9223372036854775807⟩=false:=by
 cases hc:y.pl.lt ⟨key,9223372036854775807⟩ with
 |false=>rfl
 |true=>
  rw [Pl.lt_iff] at hc
  rcases hc with hc|⟨_,hc⟩
  ·simp only [hk] at hc
   rw [ye] at hc;cases hc
  ·simp only at hc
   have:=(h.low y hy).2.2.1
   omega
theorem vY.new_yes(h:vY bs V tree n m es bl bo)(hn:n<4611686018427387904){key:ByteArray}{x:En}(ho:(yv ⟨key,9223372036854775807⟩ es).head? =some x)(hk:x.pl.key=key):zY V.vs key=some (yC bo x):=by
 have hsr:=h.forest.six.2.2
 obtain⟨hx,_,hall⟩:=hsr.head_on ho
 cases hv:zY V.vs key with
 |none=>exact absurd hk (cd hv _ (h.mem hx))
 |some v=>
  obtain⟨h1,h2,h3⟩:=jH hv
  obtain⟨y,hy,rfl⟩:=h.ver h2
  have hyk:y.pl.key=key:=h1
  have h4:x.pl.num≤y.pl.num:=h3 _ (h.mem hx) hk
  rcases hall y hy (h.lt_max hn hy key hyk) with rfl|hlt
  ·rfl
  ·rw [Pl.lt_iff] at hlt
   rcases hlt with hlt|⟨_,hlt⟩
   ·rw [hk,hyk,ye] at hlt;cases hlt
   ·omega
theorem vY.new_no(h:vY bs V tree n m es bl bo)(hn:n<4611686018427387904){key:ByteArray}(hno:∀x,(yv ⟨key,9223372036854775807⟩ es).head? =some x→x.pl.key≠key):zY V.vs key=none:=by
 have hsr:=h.forest.six.2.2
 cases hv:zY V.vs key with
 |none=>rfl
 |some v=>
  exfalso
  obtain⟨h1,h2,_⟩:=jH hv
  obtain⟨y,hy,rfl⟩:=h.ver h2
  have hyk:y.pl.key=key:=h1
  have hlm:=h.lt_max hn hy key hyk
  cases ho:(yv ⟨key,9223372036854775807⟩ es).head? with
  |none=>rw [Xw ho y hy] at hlm;cases hlm
  |some x=>
   obtain⟨hx,hxp,hall⟩:=hsr.head_on ho
   have hxk:=hno x ho
   rcases hall y hy hlm with rfl|hlt
   ·exact hxk hyk
   ·rw [Pl.lt_iff] at hlt
    rcases hlt with hlt|⟨hlt,_⟩
    ·rw [hyk] at hlt
     have:x.pl.lt ⟨key,9223372036854775807⟩=true:=(Pl.lt_iff _ _).2 (.inl hlt)
     rw [this] at hxp;cases hxp
    ·exact hxk (hlt.trans hyk)
theorem vY.at_yes(h:vY bs V tree n m es bl bo){key:ByteArray}{num:Int}{x:En}(hx:x∈es)(hk:x.pl.key=key)(hnum:x.pl.num=num):xM V.vs key num=some (yC bo x):=by
 have hsr:=h.forest.six.2.2
 cases hv:xM V.vs key num with
 |none=>exact absurd ⟨hk,hnum⟩ (dg hv _ (h.mem hx))
 |some v=>
  obtain⟨h1,h2,h3⟩:=de hv
  obtain⟨y,hy,rfl⟩:=h.ver h3
  have e1:y.pl.key=key:=h1
  have e2:y.pl.num=num:=h2
  have:y=x:=hsr.same hy hx (by
   have e3:y.pl=⟨y.pl.key,y.pl.num⟩:=rfl
   have e4:x.pl=⟨x.pl.key,x.pl.num⟩:=rfl
   rw [e3,e4,e1,e2,hk,hnum])
  rw [this]
theorem vY.pieces(h:vY bs V tree n m es bl bo){x:En}(hx:x∈es):((bo x.pl).map zp.at_).Nodup∧x.size≤300∧(bo x.pl).length≤3:=by
 have hb:=h.body x hx
 have h1:x.size≤300:=by
  have:=h.good.body _ (h.mem hx)
  have e:(yC bo x).body.length=x.size:=hb.size
  omega
 refine⟨?_,h1,by have:=hb.few;omega⟩
 have hs:List.Sublist ((bo x.pl).map zp.at_) (qT es bo):=List.sublist_flatten_of_mem (List.mem_map.2 ⟨x,hx,rfl⟩)
 exact hs.nodup (List.nodup_append.1 h.nodup).2.1
end
theorem bU:zR=zl (Pg.new 0):=by
 rw [zl,Pg.nought]
 rfl
theorem fJ(N j:Nat):Q6 (List.replicate N zR) j=zR:=by
 unfold Q6 Dk.look
 split
 ·rename_i h
  have h2:j<N:=by have:=h.2;simp at this;exact this
  simp [yB,h2]
 ·rfl
theorem Xx(N:Nat)(h64:64≤N)(hN:N≤1000):vY (List.replicate N zR) ⟨[],0⟩ 0 0 jB [] [] (fun _=>[]) where
 few:=by simpa using hN
 root:=by rw [fJ];exact⟨.inr ⟨bU,rfl,rfl⟩,by omega,by omega⟩
 n0:=rfl
 map:=by rw [fJ];exact⟨Y2,.inr ⟨bU,rfl⟩⟩
 forest:=.inl ⟨rfl,rfl,rfl⟩
 body:=fun x hx=>nomatch hx
 nodup:=by simp [qT]
 range:=fun j hj=>by simp [qT] at hj
 taken:=fun i _=>by rw [Qx];simp [qT]
 vers:=List.Perm.refl _
 head:=⟨Pg.new 0,Pg.new_ok 0 (by omega),by rw [fJ];exact bU,rfl⟩
 good:=⟨List.Pairwise.nil,fun v hv=>(nomatch hv),fun v hv=>(nomatch hv),fun v hv=>(nomatch hv),fun v hv=>(nomatch hv),by simp,Int.le_refl _⟩
end prog
namespace prog
open law (qH zg yE yG bi K8 qG y9 KZ OutIs K7)
open keys (zs)
def vU(bs:List (List Value))(V:qH):Prop:=∃tree n m es bl bo,vY bs V tree n m es bl bo
def Kb:zg where
 Rest:=vU
 Holds:=vU
 Sto:=fun w b q=>zu w b 0 q
 Fu:=fun f=>f= -1
 rest_holds:=fun _ _ h=>h
 good:=fun bs V ⟨_,_,_,_,_,_,h⟩=>h.good
 zeros:=fun n h1 h2=>⟨_,_,_,_,_,_,Xx n h1 h2⟩
 sto_lt:=fun w b q h=>h.lt
 sto_kept:=fun w w' b q T h k hn=>h.kept k hn
 fu_int:=fun f h=>by rw [h];constructor<;>omega
 fu_neg:=rfl
theorem ZV:∀ps:List (Nat×List Value),K3 ps (List.replicate ps.length true)=ps
 |[]=>rfl
 |p::ps=>by
  unfold K3
  rw [List.length_cons,List.replicate_succ]
  simp [ZV ps]
theorem J4:yE Kb where
 small:=fun w bd S D hd hN=>(QS w bd S D hd hN).mono (by
  rintro e w' ⟨h1,rfl⟩
  exact⟨h1,hd,za.refl _ _⟩)
 big:=fun w bd S D P hd hcould hfu hr0 hr1=>by
  have hf:D.fuse= -1:=hfu
  obtain⟨V,hV,tree,n,m,es,bl,bo,hrep⟩:=hcould.all (List.replicate D.ps.length true)
  rw [ZV] at hrep
  obtain⟨p,hp,hl,hi⟩:=hrep.head
  have hfl:=xt hf
  have hbig:=hcould.big
  have hl0:D.flush.look 0=zl p:=by rw [hfl];exact hl
  refine(Xm w bd S D {D.flush with reads:=D.reads+1} hd hcould.big (ZB w bd S D hd (by rw [hf];constructor<;>omega) (by rw [hf];rfl) hr0 (by omega) p hp hl0 hi)).mono ?_
  rintro e w' ⟨bs,h1,h2,h3,S',h4,h5,h6,h7⟩
  have e1:D.flush.bs=z8 D.bs D.ps:=by rw [hfl]
  have e2:D.flush.ps=[]:=by rw [hfl]
  have e3:D.flush.fuse= -1:=by rw [hfl];exact hf
  refine⟨{D.flush with reads:=D.reads+1},S',⟨h4,h5,h7,by show D.reads≤D.reads+1;omega,by show D.reads+1≤_;omega,by show D.flush.bs.length=_;rw [e1,qU],e3⟩,.inl ⟨bs,V,h1,h2,h6,h3,hV,⟨e2,?_,?_⟩⟩⟩
  ·show vU D.flush.bs V
   rw [e1]
   exact⟨tree,n,m,es,bl,bo,hrep⟩
  ·show 64≤D.flush.bs.length
   rw [e1,qU];exact hbig
theorem vV{w w':World}{bd bs:Nat}{S:Nat→Prop}{D:Dk}{q:Option Nat}(hd:zh w bd S D)(hn:¬S bs)(hfu:D.fuse= -1)(hs:zu w' bs 0 q)(hk:za (fun k=>k=bs) w w'):y9 Kb w w' bd bs S S D D 40 q:=
 ⟨hd.kept hk (fun j hj e=>hn (by rw [←show j=bs from e];exact hj)),fun _ h=>.inl h,hs,hk.mono (fun _ h=>.inr h),Int.le_refl _,by omega,rfl,hfu⟩
theorem ZX{w w':World}{bd bs:Nat}{S:Nat→Prop}{D:Dk}{q:Option Nat}{r:Int}(hd:zh w bd S D)(hfu:D.fuse= -1)(hs:zu w' bs 0 q)(h1:D.reads≤r)(h2:r≤D.reads+40)(hd':zh w' bd S {D with reads:=r })(hk:za (fun k=>k=bd∨k=bs) w w'):y9 Kb w w' bd bs S S D {D with reads:=r} 40 q:=
 ⟨hd',fun _ h=>.inl h,hs,hk.mono (fun j hj=>hj.elim (fun e=>.inl (by rw [e];exact hd.bdS)) .inr),h1,h2,rfl,hfu⟩
theorem Vt:bi Kb where
 live:=fun w bd bs S D V key F hk=>by
  have hfu:D.fuse= -1:=F.fuse
  have hs:zu w bs 0 (some bd):=F.sto
  have hd:=F.disk
  have hps:=F.live.ps
  obtain⟨tree,n,m,es,bl,bo,R⟩:=F.live.rest
  have hr0:=F.reads0
  have hr1:=F.reads1
  have hn9:n<4611686018427387904:=by have:=F.few;rw [R.n0] at this;omega
  have live':∀r:Int,Kb.Live {D with reads:=r} V:=fun r=>⟨hps,⟨tree,n,m,es,bl,bo,R⟩,F.live.big⟩
  cases hkey:zs key.data.toList with
  |false=>
   refine(Yv w bs (some bd) hs key hk hkey).mono ?_
   rintro e w' ⟨h1,h2,h3⟩
   exact⟨D,.slice none 0 0,0,S,h1,vV hd F.apart hfu h2 h3,F.live,⟨fun h=>absurd h (show ¬(2:Int)=0 by decide),fun _=>⟨none,0,rfl⟩⟩,fun k h=>(nomatch h),fun _=>rfl,fun u h=>absurd h (show ¬(2:Int)=0 by decide)⟩
  |true=>
   have hroot:qQ (D.look 1) tree n:=by have:=R.root;rw [←yp hps] at this;exact this
   have hfor:qE (fun j=>D.look (j:Nat)) tree es bl:=R.forest.congr (fun j _=>yp hps j)
   have hlow:∀j∈bl,21≤j:=fun j hj=>(R.range j (List.mem_append_left _ hj)).1
   cases hnew:kF key (yv ⟨key,9223372036854775807⟩ es).head? with
   |false=>
    have hans:gC true (zY V.vs key)=5:=by
     cases ho:(yv ⟨key,9223372036854775807⟩ es).head? with
     |none=>rw [R.new_no hn9 (fun x hx=>by rw [ho] at hx;cases hx)];rfl
     |some x=>
      by_cases hxk:x.pl.key=key
      ·rw [R.new_yes hn9 ho hxk]
       rw [ho] at hnew
       have hm:x.mark=true:=by
        simp only [kF,hxk,decide_true,Bool.true_and] at hnew
        cases hmm:x.mark with
        |true=>rfl
        |false=>rw [hmm] at hnew;cases hnew
       show cond x.mark 5 0=5
       rw [hm];rfl
      ·rw [R.new_no hn9 (fun y hy=>by rw [ho] at hy;cases hy;exact hxk)];rfl
    refine(JE w bs bd S D hs hd F.apart hr0 (by omega) tree n hroot key hk hkey es bl hfor R.len hlow _ rfl hnew).mono ?_
    rintro e w' ⟨h1,h2,⟨r,h3,h4,h5⟩,h6⟩
    rw [hans]
    exact⟨{D with reads:=r},.slice none 0 0,0,S,h1,ZX hd hfu h2 h3 (by omega) h5 h6,live' r,⟨fun h=>absurd h (by decide),fun _=>⟨none,0,rfl⟩⟩,fun k h=>(nomatch h),fun _=>rfl,fun u h=>absurd h (by decide)⟩
   |true=>
    cases ho:(yv ⟨key,9223372036854775807⟩ es).head? with
    |none=>rw [ho] at hnew;cases hnew
    |some x=>
     rw [ho] at hnew
     have hxk:x.pl.key=key:=by simp only [kF,Bool.and_eq_true,decide_eq_true_eq] at hnew;exact hnew.1
     have hxm:x.mark=false:=by simp only [kF,Bool.and_eq_true,Bool.not_eq_true'] at hnew;exact hnew.2
     have hnv:=R.new_yes hn9 ho hxk
     have hx:=(R.forest.six.2.2.head_on ho).1
     have hb:=R.body x hx
     obtain⟨p1,p2,p3⟩:=R.pieces hx
     have hans:gC true (zY V.vs key)=0:=by rw [hnv];show cond x.mark 5 0=0;rw [hxm];rfl
     refine(JF w bs bd S D hs hd F.apart hr0 (by omega) tree n hroot key hk hkey es bl hfor R.len hlow x ho hnew (bo x.pl) (hb.chain.congr (fun p _=>yp hps p.at_)) p1 hb.head _ rfl hb.size p2 (by omega)).mono ?_
     rintro e w' ⟨⟨a,cap,h1,hown,hfr⟩,h2,⟨r,h3,h4,h5⟩,h6⟩
     rw [hans]
     refine⟨{D with reads:=r},_,x.pl.num,S,h1,ZX hd hfu h2 h3 (by omega) h5 h6,live' r,⟨fun _=>⟨_,hnv,⟨a,cap,rfl,hown,hfr⟩⟩,fun h=>absurd rfl h⟩,fun k h hS=>?_,fun h=>absurd rfl h,fun u _ hu=>?_⟩
     ·have:=hfr k h;have:=hd.lt k hS;omega
     ·rw [hnv] at hu;cases hu;rfl
 shut:=fun w bs key hs hk=>by
  have hs':zu w bs 0 none:=hs
  cases hkey:zs key.data.toList with
  |false=>exact(Yv w bs none hs' key hk hkey).mono (fun e w' ⟨h1,h2,h3⟩=>⟨none,0,h1,h2,h3⟩)
  |true=>exact(JD w bs hs' key hk hkey).mono (fun e w' ⟨h1,h2,h3⟩=>⟨none,0,h1,h2,h3⟩)
def Vj(D:Dk)(V:qH)(key:ByteArray)(mark:Bool)(l:List UInt8)(v c:Int)(D':Dk):Prop:=
 ∃kk:Int,0≤kk∧kk≤19∧((c=6∧v=0∧y6 V.vs (qx l.length) D.bs.length=false∧D'={D with reads:=D.reads+kk })∨
  (c=0∧v=V.n0+1∧∃bs',bs'.length=D.bs.length∧vU bs' (V.add key mark l)∧D'={D with bs:=bs',reads:=D.reads+kk }))
theorem Vk(w:World)(bs bd:Nat)(S:Nat→Prop)(D:Dk)(hs:zu w bs 1 (some bd))(hd:zh w bd S D)(hn:¬S bs)(hr0:0≤D.reads)(hr1:D.reads≤4611686018427340000)(hps:D.ps=[])(hfu:D.fuse= -1)(h64:64≤D.bs.length)(V:qH)(hV:V.n0≤2305843009213693952)(hrest:vU D.bs V)
 (key:ByteArray) (hkey:zs key.data.toList=true) (mark:Bool) (P:Nat→Prop) (a:Option Addr) (cap:Nat) (l:List UInt8) (hmk:mark=true→l=[]) (hby:zE w P a l) (hPS:∀j,P j→¬S j∧j≠bs) (hl:l.length≤300) (hc1:l.length≤cap) (hc2:cap≤9223372036854775807):
 Calls Tryz.prog 52 #[.pointer (some ⟨bs,0,none⟩),.string key,.slice a l.length cap,.bool mark] w fun e w'=>∃v c D',e=.returned (.tuple #[.int .i64 v,.int .i64 c])∧qN w w' bd S D'∧Vj D V key mark l v c D':=by
 obtain⟨tree,n,m,es,bl,bo,R⟩:=hrest
 have hn9:n<4611686018427387904:=by rw [R.n0] at hV;omega
 have hroot:qQ (D.look 1) tree n:=by have:=R.root;rw [←yp hps] at this;exact this
 have hmap:qg (D.look 2) m:=by have:=R.map;rw [←yp hps] at this;exact this
 rcases hbody:vH.body D.bs.length m (zy l) with⟨f,C1,m1⟩
 have hchn:QD D vH m:=⟨by rw [yi];exact hmap,fun h=>(nomatch h),List.nodup_nil⟩
 obtain⟨nb1,hBR⟩:=Ju hchn R.few (zy l) f C1 m1 (fun p hp=>(fp p hp).2) hbody
 have hf6:=(fq (C:=vH) (D:=D) (m:=m) (by rw [yi];exact hmap) R.few (zy l) f C1 m1 hbody).2.2
 have hkl:=bT hkey
 have hold:∀j∈bl,21≤j∧zM m1 (j-21)=true∧j∉nb1:=fun j hj=>by
  have hr:=R.range j (List.mem_append_left _ hj)
  have h1:zM m (j-21)=true:=(R.taken (j-21) (by omega)).2 (by rw [show j-21+21=j from by omega];exact List.mem_append_left _ hj)
  exact⟨hr.1,hBR.stp.grew.keeps h1,hBR.stp.grew.apart h1⟩
 have hfor:qE (fun j=>C1.look D (j:Nat)) tree es bl:=R.forest.congr (fun j hj=>by
  have h1:=hold j hj
  show C1.look D (j:Nat)=_
  rw [hBR.stp.look j (fun h=>(nomatch h)) h1.2.2 (by omega) (by omega),yi,yp hps])
 refine(dS w bs bd S D 1 hs hd hn hr0 (by omega) hps hfu h64 R.few tree n hroot hn9 m hmap key mark P a cap l hby hPS hl hc1 hc2 es bl f C1 m1 hbody nb1 hBR ⟨hkl.2.1,hkl.2.2,by show 0≤(n:Int)+1;omega,by show (n:Int)+1<_;omega,hl,fun h=>by show l.length=0;rw [hmk h];rfl,hf6⟩ (KE hkey _) hfor (List.nodup_append.1 R.nodup).1 (fun j hj=>⟨(hold j hj).1,(hold j hj).2.1⟩) R.len (fun j hj=>(R.range j (List.mem_append_left _ hj)).2) (fun x hx=>(R.low x hx).1) (fun x hx e=>?_)).mono ?_
 ·have h1:=(R.low x hx).2.2.1
  rw [e] at h1
  simp only at h1
  omega
 ·rintro e w' ⟨root',C2,m2,pb,nb,hI,kk,hk0,hk1,h⟩
  have A:vj D V tree n m es bl bo key mark l f C1 m1 nb1 root' C2 m2 pb nb:=⟨R,hps,h64,hBR,hI,hkey,hl,hmk,hn9⟩
  rcases h with⟨hfull,rfl,hd',hk'⟩|⟨hnot,rfl,ho⟩
  ·refine⟨0,6,_,rfl,⟨⟨S,hd',fun _ h=>.inl h⟩,hk'.mono (fun j hj=>by rw [hj];exact hd.bdS)⟩,kk,hk0,hk1,.inl ⟨rfl,rfl,?_,rfl⟩⟩
   cases hfit:y6 V.vs (qx l.length) D.bs.length with
   |false=>rfl
   |true=>rw [A.fits hfit] at hfull;cases hfull
  ·obtain⟨bl',bo',hrep⟩:=A.rest hnot
   exact⟨(n:Int)+1,0,_,rfl,ho,kk,hk0,hk1,.inr ⟨rfl,by rw [R.n0],_,y5 _ _,⟨_,_,_,_,_,_,hrep⟩,rfl⟩⟩
theorem KF:yG Kb where
 live:=fun w bd bs S P D V key a cap l F hk hby hP hlen hc1 hc2=>by
  have hfu:D.fuse= -1:=F.fuse
  have hs:zu w bs 0 (some bd):=F.sto
  have hd:=F.disk
  have hps:=F.live.ps
  have hrest:vU D.bs V:=F.live.rest
  have hr0:=F.reads0
  have hr1:=F.reads1
  have hbig:=F.live.big
  cases hkey:zs key.data.toList with
  |false=>
   refine(Yw w bs (some bd) hs key hk hkey a l.length cap).mono ?_
   rintro e w' ⟨h1,h2,h3⟩
   exact⟨D,S,2,0,some bd,h1,vV hd F.apart hfu h2 h3,⟨.inl ⟨by show (2:Int)≠0;decide,rfl,rfl,F.live⟩⟩,rfl⟩
  |true=>
   by_cases hbig3:300<l.length
   ·have hput:kT true l.length=3:=if_pos hbig3
    rw [hput]
    refine(Yx w bs (some bd) hs key hk hkey a l.length cap hbig3).mono ?_
    rintro e w' ⟨h1,h2,h3⟩
    exact⟨D,S,3,0,some bd,h1,vV hd F.apart hfu h2 h3,⟨.inl ⟨by decide,rfl,rfl,F.live⟩⟩,rfl⟩
   ·have hput:kT true l.length=0:=if_neg hbig3
    rw [hput]
    refine(JM w bs bd S D hs hd F.apart key hk hkey P a cap l hby hP (by omega) (Vj D V key false l) (fun w' h1 h2 h3=>Vk w' bs bd S D h1 h2 F.apart hr0 (by omega) hps hfu hbig V F.few hrest key hkey false P a cap l (fun h=>(nomatch h)) h3 hP (by omega) hc1 hc2)).mono ?_
    rintro e w' ⟨v,c,D',h1,⟨kk,hk0,hk1,hq⟩,⟨S',h2,h3⟩,h4,h5⟩
    rcases hq with⟨rfl,rfl,hfit,rfl⟩|⟨rfl,rfl,bs',hbl,hrs,rfl⟩
    ·exact⟨_,S',6,0,some bd,h1,⟨h2,h3,h4,h5,by show D.reads≤D.reads+kk;omega,by show D.reads+kk≤D.reads+40;omega,rfl,hfu⟩,⟨.inr (.inr (.inl ⟨rfl,rfl,rfl,⟨hps,hrest,hbig⟩,hfit⟩))⟩,rfl⟩
    ·exact⟨_,S',0,V.n0+1,some bd,h1,⟨h2,h3,h4,h5,by show D.reads≤D.reads+kk;omega,by show D.reads+kk≤D.reads+40;omega,hbl,hfu⟩,⟨.inr (.inl ⟨rfl,rfl,rfl,⟨hps,hrs,by show 64≤bs'.length;omega⟩⟩)⟩,rfl⟩
 shut:=fun w bs key a n cap hs hk hn=>by
  have hs':zu w bs 0 none:=hs
  cases hkey:zs key.data.toList with
  |false=>exact(Yw w bs none hs' key hk hkey a n cap).mono (fun e w' ⟨h1,h2,h3⟩=>⟨h1,h2,h3⟩)
  |true=>
   by_cases hbig3:300<n
   ·have hput:kT true n=3:=if_pos hbig3
    rw [hput]
    exact(Yx w bs none hs' key hk hkey a n cap hbig3).mono (fun e w' ⟨h1,h2,h3⟩=>⟨h1,h2,h3⟩)
   ·have hput:kT true n=0:=if_neg hbig3
    rw [hput]
    exact(JL w bs hs' key hk hkey a n cap (by omega)).mono (fun e w' ⟨h1,h2,h3⟩=>⟨h1,h2,h3⟩)
end prog
namespace prog
open law (qH)
open keys (zs)
def yc:List Nat→Ck×List UInt8→Ck×List UInt8
 |[],s=>s
 |j::l,s=>yc l (s.1.free s.2 (j-21),xD s.2 (j-21))
theorem fK:∀(l:List Nat) (j:Nat) (s:Ck×List UInt8),yc (l++[j]) s=((yc l s).1.free (yc l s).2 (j-21),xD (yc l s).2 (j-21))
 |[],_,_=>rfl
 |_::l,j,s=>fK l j _
theorem jp{D:Dk}:∀(l:List Nat) (C:Ck) (m:List UInt8),fD D C m→(∀j∈l,21≤j∧j<1000)→fD D (yc l (C,m)).1 (yc l (C,m)).2∧vT D C (yc l (C,m)).1 m (yc l (C,m)).2 [] l∧(yc l (C,m)).1.ws.length≤C.ws.length+l.length
 |[],C,m,h,_=>⟨h,vT.refl D C m,by simp [yc]⟩
 |j::l,C,m,h,hr=>by
  have hj:=hr j (List.mem_cons_self ..)
  obtain⟨h1,h2,h3⟩:=jp l _ _ (h.free (j-21)) (fun i hi=>hr i (List.mem_cons_of_mem _ hi))
  have s:=(vT.free h (i:=j-21) (by omega)).trans h2
  rw [show j-21+21=j from by omega] at s
  refine⟨h1,s,?_⟩
  have:=fC C m (j-21)
  show (yc l (C.free m (j-21),xD m (j-21))).1.ws.length≤_
  rw [List.length_cons]
  omega
structure bV (D:Dk) (C C':Ck) (m m':List UInt8) (root':Nat) (p:Pl) (e:En) (es:List En) (bs pb fb:List Nat):Prop where
 cln:fD D C' m'
 shr:vT D C C' m m' pb fb
 sub:∀j∈pb,j∈bs
 pl:pb.length≤13
 few:C'.ws.length≤C.ws.length+100
 mem:e∈es
 at_:e.pl=p
 tree:∃bs',qE (fun j=>C'.look D (j:Nat)) root' (qJ p es) bs'∧(bs'++fb).Perm bs
 lt:root'<65536
theorem qX.perm_del{l:List En}(h:qX l){e:En}(he:e∈l):l.Perm (e::qJ e.pl l):=by
 obtain⟨A,B,rfl⟩:=List.append_of_mem he
 have hp:=List.pairwise_append.1 h
 have hc:=List.pairwise_cons.1 hp.2.1
 have hA:∀x∈A,x.pl≠e.pl:=fun x hx e0=>by
  have:=hp.2.2 x hx e (List.mem_cons_self ..)
  rw [e0] at this;exact Pl.irrefl _ this
 have hB:∀x∈B,x.pl≠e.pl:=fun x hx e0=>by
  have:=hc.1 x hx
  rw [e0] at this;exact Pl.irrefl _ this
 have e1:qJ e.pl (e::B)=qJ e.pl B:=by unfold qJ;rw [List.filter_cons,if_neg (by simp)]
 rw [xP,e1,xn hA,xn hB]
 exact List.perm_middle
structure fL (D:Dk) (V:qH) (tree n:Nat) (m:List UInt8) (es:List En) (bl:List Nat) (bo:Pl→List zp) (p:Pl) (e:En) (root':Nat) (C1:Ck) (m1:List UInt8) (pb fb:List Nat) (C2:Ck) (m2:List UInt8):Prop where
 rep:vY D.bs V tree n m es bl bo
 ps:D.ps=[]
 big:64≤D.bs.length
 rem:bV D vH C1 m m1 root' p e es bl pb fb
 body:yc ((bo e.pl).map zp.at_) (C1,m1)=(C2,m2)
 num:n<4611686018427387904
section
variable {D:Dk} {V:qH} {tree n:Nat} {m:List UInt8} {es:List En} {bl:List Nat} {bo:Pl→List zp} {p:Pl} {e:En} {root':Nat} {C1:Ck} {m1:List UInt8} {pb fb:List Nat} {C2:Ck} {m2:List UInt8}
theorem vW{x:En}(hx:x∈es){j:Nat}(hj:j∈(bo x.pl).map zp.at_):j∈qT es bo:=fI.2 ⟨x,hx,hj⟩
theorem fL.shr(h:fL D V tree n m es bl bo p e root' C1 m1 pb fb C2 m2):fD D C2 m2∧vT D vH C2 m m2 pb (fb++(bo e.pl).map zp.at_):=by
 have hb:=jp ((bo e.pl).map zp.at_) C1 m1 h.rem.cln (fun j hj=>by
  have:=h.rep.range j (List.mem_append_right _ (vW h.rem.mem hj))
  have:=h.rep.few
  omega)
 rw [h.body] at hb
 have:=h.rem.shr.trans hb.2.1
 rw [List.append_nil] at this
 exact⟨hb.1,this⟩
theorem fL.keys(h:fL D V tree n m es bl bo p e root' C1 m1 pb fb C2 m2):∀k∈(C2.put 1 (zl (zB root' n))).keys,k∈[1,2]++pb:=fun k hk=>by
 rcases (xh C2 1 _ k).1 hk with h1|h1
 ·rcases h.shr.2.keys k h1 with h1|h1|h1
  ·exact nomatch h1
  ·simp [h1]
  ·simp [h1]
 ·simp [h1]
theorem fL.klt(h:fL D V tree n m es bl bo p e root' C1 m1 pb fb C2 m2):∀k∈(C2.put 1 (zl (zB root' n))).keys,k<D.bs.length:=fun k hk=>by
 have hb:=h.big
 rcases List.mem_append.1 (h.keys k hk) with h1|h1
 ·simp at h1;omega
 ·exact(h.rep.range k (List.mem_append_left _ (h.rem.sub k h1))).2
theorem fL.fits(h:fL D V tree n m es bl bo p e root' C1 m1 pb fb C2 m2):(C2.put 1 (zl (zB root' n))).full=false∧(C2.put 1 (zl (zB root' n))).ws.length≤18:=by
 refine⟨by rw [qy];exact h.shr.1.full,?_⟩
 have h1:=jo _ _ (yI h.shr.1.nodup 1 (zl (zB root' n))) h.keys
 rw [Ck.keys_len] at h1
 simp only [List.length_append,List.length_cons,List.length_nil] at h1
 have:=h.rem.pl
 omega
theorem fL.rest(h:fL D V tree n m es bl bo p e root' C1 m1 pb fb C2 m2):∃bl',vY (vk D.bs (C2.put 1 (zl (zB root' n))).ws) (V.sub p.key p.num) root' n m2 (qJ p es) bl' bo:=by
 obtain⟨hf,h18⟩:=h.fits
 obtain⟨hcl,hsh⟩:=h.shr
 obtain⟨bl',hF,hp⟩:=h.rem.tree
 have hbig:=h.big
 have hN:=h.rep.few
 have hkn:=yI hcl.nodup 1 (zl (zB root' n))
 have look:∀j:Nat,j≠0→(j<3∨21≤j)→Q6 (vk D.bs (C2.put 1 (zl (zB root' n))).ws) j=(C2.put 1 (zl (zB root' n))).look D (j:Nat):=fun j h0 hj=>by
  rw [bR h.ps]
  exact Zj h.ps hkn (by omega) h.klt h0 hj
 have look2:∀j:Nat,j≠0→j≠1→(j<3∨21≤j)→Q6 (vk D.bs (C2.put 1 (zl (zB root' n))).ws) j=C2.look D (j:Nat):=fun j h0 h1 hj=>by
  rw [look j h0 hj,zQ _ _ _ _ _ (by omega)]
 have hsr:qX es:=h.rep.forest.six.2.2
 have hpe:es.Perm (e::qJ p es):=by rw [←h.rem.at_];exact hsr.perm_del h.rem.mem
 have hpb:(qT es bo).Perm ((bo e.pl).map zp.at_++qT (qJ p es) bo):=(hpe.map _).flatten
 have hall:(bl++qT es bo).Perm ((bl'++qT (qJ p es) bo)++(fb++(bo e.pl).map zp.at_)):=by
  rw [List.perm_iff_count] at hp hpb ⊢
  intro a
  have h1:=hp a
  have h2:=hpb a
  simp only [List.count_append] at h1 h2 ⊢
  omega
 have hnd:=hall.nodup_iff.1 h.rep.nodup
 have hndp:=List.nodup_append.1 hnd
 have hin:∀j∈bl'++qT (qJ p es) bo,j∈bl++qT es bo∧j∉fb++(bo e.pl).map zp.at_:=fun j hj=>⟨hall.mem_iff.2 (List.mem_append_left _ hj),fun hc=>hndp.2.2 j hj j hc rfl⟩
 have hrange:∀j∈bl'++qT (qJ p es) bo,21≤j∧j<D.bs.length:=fun j hj=>h.rep.range j (hin j hj).1
 have hg:=h.rep.good
 have hsubv:∀v∈(V.sub p.key p.num).vs,v∈V.vs:=fun v hv=>(List.mem_filter.1 hv).1
 refine⟨bl',⟨by rw [y5];exact hN,?_,h.rep.n0,?_,?_,?_,hndp.1,fun j hj=>by rw [y5];exact hrange j hj,?_,?_,?_,?_⟩⟩
 ·have:=look 1 (by omega) (by omega)
  rw [this]
  have h2:(C2.put 1 (zl (zB root' n))).look D ((1:Nat):Int)=zl (zB root' n):=zZ _ _ _ _
  rw [h2]
  exact⟨.inl rfl,h.rem.lt,by have:=h.num;omega⟩
 ·rw [look2 2 (by omega) (by omega) (by omega)]
  exact hcl.map
 ·refine hF.congr (fun j hj=>?_)
  have hr:=hrange j (List.mem_append_left _ hj)
  rw [look2 j (by omega) (by omega) (by omega)]
  have hb:=jp ((bo e.pl).map zp.at_) C1 m1 h.rem.cln (fun j hj=>by
   have:=h.rep.range j (List.mem_append_right _ (vW h.rem.mem hj))
   omega)
  rw [h.body] at hb
  exact hb.2.1.look j (fun hc=>nomatch hc) (fun hc=>(hin j (List.mem_append_left _ hj)).2 (List.mem_append_right _ hc)) (by omega)
 ·intro x hx
  have hx2:=gU.1 hx
  have hb:=h.rep.body x hx2.1
  refine⟨hb.chain.congr (fun q hq=>?_),hb.head,hb.size,hb.few⟩
  have hm1:q.at_∈qT (qJ p es) bo:=fI.2 ⟨x,hx,List.mem_map.2 ⟨q,hq,rfl⟩⟩
  have hm2:=hin q.at_ (List.mem_append_right _ hm1)
  have hr:=hrange q.at_ (List.mem_append_right _ hm1)
  have hnp:q.at_∉pb:=fun hc=>(List.nodup_append.1 h.rep.nodup).2.2 _ (h.rem.sub _ hc) _ (vW hx2.1 (List.mem_map.2 ⟨q,hq,rfl⟩)) rfl
  rw [look2 _ (by omega) (by omega) (by omega),hsh.look _ hnp hm2.2 (by omega),yi,yp h.ps]
 ·intro i hi
  rw [y5] at hi
  rw [hsh.taken]
  simp only [Bool.and_eq_true,decide_eq_true_eq]
  rw [h.rep.taken i hi]
  constructor
  ·rintro⟨h1,h2⟩
   rcases List.mem_append.1 (hall.mem_iff.1 h1) with h3|h3
   ·exact h3
   ·exact absurd h3 h2
  ·exact fun h1=>hin _ h1
 ·have h1:(V.sub p.key p.num).vs.Perm ((es.map (yC bo)).filter fun v=> !(decide (v.key=p.key)&&decide (v.num=p.num))):=h.rep.vers.filter _
  refine h1.trans ?_
  rw [List.filter_map]
  have:(es.filter ((fun v:zO=> !(decide (v.key=p.key)&&decide (v.num=p.num)))∘yC bo))=qJ p es:=by
   unfold qJ
   refine List.filter_congr (fun x _=>?_)
   show (!(decide (x.pl.key=p.key)&&decide (x.pl.num=p.num)))=decide (x.pl≠p)
   obtain⟨⟨k1,n1⟩,_,_,_⟩:=x
   obtain⟨k2,n2⟩:=p
   simp only [ne_eq,Pl.mk.injEq]
   by_cases e1:k1=k2<;>by_cases e2:n1=n2<;>simp [e1,e2]
  rw [this]
 ·refine⟨Pg.new 1,Pg.new_ok 1 (by omega),?_,rfl⟩
  rw [bR h.ps]
  exact Zk h.ps (by omega) _
 ·exact⟨List.Pairwise.filter _ hg.apart,fun v hv=>hg.num v (hsubv v hv),fun v hv=>hg.key v (hsubv v hv),fun v hv=>hg.body v (hsubv v hv),fun v hv=>hg.mark v (hsubv v hv),Nat.le_trans (List.length_filter_le _ _) hg.few,hg.n0⟩
end
end prog
namespace prog
theorem fB.root{h:Nat}{t t':Tr h}{p:Pl}(k:fB t p t')(r:t.Root)(h1:1≤t'.items.length)(h2:0<h→2≤t'.items.length):t'.Root where
 good:=k.good
 hi:=k.hi
 one:=h1
 two:=h2
 first:=k.first _ r.first
 srt:=by rw [k.ents];exact r.srt.del
theorem fM{C:Ck}{D:Dk}{r:Int}{h:Nat}{t:Tr h}(l:t.LayV zl (fun j=>C.look D (j:Nat))):C.look {D with reads:=r} (t.blk:Nat)=zl (zc (zJ h) t.items):=by rw [zD];exact l.node
theorem ZY(bc bd:Nat)(S T:Nat→Prop)(D:Dk)(p:Pl)(C:Ck)(m:List UInt8)(root:Nat)(es:List En)(bs:List Nat)(hF:qE (fun j=>C.look D (j:Nat)) root es bs)(hnd:bs.Nodup)
 (hrg:∀j∈bs,21≤j∧j<1000) (hbl:bs.length≤979) (hc:fD D C m) (hfew:C.ws.length<100):
 (∃e root' C' m' pb fb,bV D C C' m m' root' p e es bs pb fb∧yX bc bd S T D C root p root' (qc e) true C')∨((∀x∈es,x.pl≠p)∧yX bc bd S T D C root p root qd false C):=by
 rcases hF with⟨rfl,rfl,rfl⟩|⟨h,t,hr,hl,rfl,rfl,rfl⟩
 ·exact .inr ⟨fun x hx=>(nomatch hx),⟨fun w r h0 h1 hcw=>(ZJ w bc p 0 rfl).mono (by
   rintro x w' ⟨h1,h2⟩
   exact⟨h1,⟨0,T,Int.le_refl _,by omega,by rw [Int.add_zero];exact hcw.kept0 h2,fun _ h=>.inl h⟩,h2.mono fE⟩)⟩⟩
 ·have h6:=hr.low hbl
  have hroot:=hrg t.blk t.blk_mem
  rcases ZO bc bd S T D p h t C m (by omega) hr.good hr.two hr.hi hr.srt hnd hrg hl hc (by omega) with⟨e,C1,m1,s,pb,fb,R,K⟩|⟨hno,K⟩
  ·obtain⟨t',L,lay,perm,hkeep⟩:=R.tree
   have hpl:=R.pl
   have hfw:=R.few
   cases hs1:s with
   |false=>
    rw [hs1] at K
    have h1:=hr.one
    have h2:=hr.two
    have hk:=hkeep hs1
    have hr':=L.root hr (by omega) (fun h=>by have:=h2 h;omega)
    refine .inl ⟨e,t.blk,C1,m1,pb,fb,⟨R.cln,R.shr,R.sub,by omega,by omega,R.mem,R.at_,⟨t'.blocks,.inr ⟨h,t',hr',lay,L.blk,L.ents,rfl⟩,perm⟩,hr.good.blk⟩,⟨fun w r h0 h1 hcw=>?_⟩⟩
    exact jV w bc bd S T D C r hcw h0 p h t.blk (by omega) (by omega) h6 (qc e) ⟨_,_,_,_,_,rfl⟩ false true C1 K _ _ (.inl ⟨rfl,rfl,rfl⟩)
   |true=>
    rw [hs1] at K
    have hlow:∀root' C2,(∀(w0:World) (T0:Nat→Prop) (r:Int),0≤r→r≤4611686018427380000→Cw w0 bc bd S T0 {D with reads:=r} C1→Calls Tryz.prog 142 #[.pointer (some ⟨bc,0,none⟩),.int .i64 (t.blk:Int)] w0 fun x w'=>x=.returned (.int .i64 (root':Nat))∧(∃(n:Int) (T':Nat→Prop),0≤n∧n≤2∧Cw w' bc bd S T' {D with reads:=r+n} C2∧∀j,T' j→T0 j∨w0.heap.size≤j)∧za (fun j=>j=bd∨T0 j) w0 w')→yX bc bd S T D C t.blk p root' (qc e) true C2:=fun root' C2 hlw=>⟨fun w r h0 h1 hcw=>
     jV w bc bd S T D C r hcw h0 p h t.blk (by omega) (by omega) h6 (qc e) ⟨_,_,_,_,_,rfl⟩ true true C1 K root' C2 (.inr ⟨rfl,hlw⟩)⟩
    have hsame:1≤t'.items.length→(0<h→2≤t'.items.length)→(∃e root' C' m' pb fb,bV D C C' m m' root' p e t.ents t.blocks pb fb∧yX bc bd S T D C t.blk p root' (qc e) true C'):=fun a1 a2=>by
     refine⟨e,t.blk,C1,m1,pb,fb,⟨R.cln,R.shr,R.sub,by omega,by omega,R.mem,R.at_,⟨t'.blocks,.inr ⟨h,t',L.root hr a1 a2,lay,L.blk,L.ents,rfl⟩,perm⟩,hr.good.blk⟩,hlow _ _ (fun w0 T0 r b0 b1 hcw=>?_)⟩
     refine(QX w0 bc bd S T0 {D with reads:=r} C1 hcw b0 b1 t.blk hr.good.blk (zJ h) (bO h) t'.items L.good.items_ok (fF t') L.hi a1 (fun hk=>a2 (by cases h with|zero=>simp [zJ] at hk|succ h=>omega)) (by rw [←L.blk];exact fM lay)).mono ?_
     rintro x w' ⟨k1,⟨n,k2,k3,k4⟩,k6⟩
     exact⟨k1,⟨n,T0,k2,by omega,k4,fun _ h=>.inl h⟩,k6.mono iL⟩
    have hcast:((t.blk:Nat):Int)=((t.blk-21:Nat):Int)+21:=by omega
    have hsh2:=R.shr.trans (vT.free R.cln (i:=t.blk-21) (by omega))
    rw [List.append_nil,show t.blk-21+21=t.blk from by omega] at hsh2
    have hcl2:=R.cln.free (t.blk-21)
    have hfl:=fC C1 m1 (t.blk-21)
    cases h with
    |zero=>
     by_cases h1:1≤t'.items.length
     ·exact .inl (hsame h1 (fun h=>by omega))
     ·have h0:t'.items=[]:=List.eq_nil_of_length_eq_zero (by omega)
      have he0:qJ p t.ents=[]:=by rw [←L.ents];exact h0
      refine .inl ⟨e,0,C1.free m1 (t.blk-21),xD m1 (t.blk-21),pb,fb++[t.blk],⟨hcl2,hsh2,R.sub,by omega,by omega,R.mem,R.at_,⟨[],.inl ⟨rfl,he0,rfl⟩,?_⟩,by omega⟩,hlow _ _ (fun w0 T0 r b0 b1 hcw=>?_)⟩
      ·have hb:t'.blocks=[t.blk]:=by rw [←L.blk];rfl
       rw [hb] at perm
       rw [List.nil_append]
       exact List.perm_append_comm.trans perm
      ·have:=QW w0 bc bd S T0 {D with reads:=r} C1 hcw m1 (by rw [zD];exact R.cln.map) b0 b1 (by omega) (t.blk-21) (by omega) 5 (.inr rfl) (by
        rw [show t.blk-21+21=t'.blk from by rw [L.blk];omega,fM lay,h0];rfl)
       rw [hcast]
       exact this
    |succ h=>
     by_cases h2:2≤t'.items.length
     ·exact .inl (hsame (by omega) (fun _=>h2))
     ·have hlo:=L.lo
      have h2t:=hr.two (by omega)
      obtain⟨bb,cs⟩:=t'
      have hcl:cs.length=1:=by
       rw [zr] at h2 hlo
       omega
      obtain⟨⟨q,u⟩,rfl⟩:∃c,cs=[c]:=by
       cases cs with
       |nil=>simp at hcl
       |cons c r=>cases r with
        |nil=>exact⟨c,rfl⟩
        |cons _ _=>simp at hcl
      obtain rfl:bb=t.blk:=L.blk
      have hgu:=L.good.kids.good (q,u) (by simp)
      have h3:3≤u.items.length:=L.good.full (q,u) (by simp)
      have hfst:u.First qP:=by
       obtain⟨u0,r0,hu0⟩:=L.first _ hr.first
       simp only [List.cons.injEq,Prod.mk.injEq] at hu0
       rw [←hu0.1.1]
       exact(L.good.kids.seps [] q u [] rfl).2.2
      have hue:u.ents=qJ p t.ents:=by rw [←L.ents];show u.ents=zF [(q,u)];simp [zF]
      have hru:u.Root:=⟨hgu.1,hgu.2.1,by omega,fun _=>by omega,hfst,by rw [hue];exact hr.srt.del⟩
      have hbb:Tr.blocks (h:=h+1) (t.blk,[(q,u)])=t.blk::u.blocks:=by show t.blk::zw [(q,u)]=_;simp [zw]
      have hpn:(t.blk::u.blocks++fb).Nodup:=by rw [←hbb];exact perm.nodup_iff.2 hnd
      have hnu:t.blk∉u.blocks:=(List.nodup_cons.1 (List.nodup_append.1 hpn).1).1
      have hlu:u.LayV zl (fun j=>C1.look D (j:Nat)):=lay.2 (q,u) (by simp)
      refine .inl ⟨e,u.blk,C1.free m1 (t.blk-21),xD m1 (t.blk-21),pb,fb++[t.blk],⟨hcl2,hsh2,R.sub,by omega,by omega,R.mem,R.at_,⟨u.blocks,.inr ⟨h,u,hru,hlu.congr (fun j hj=>?_),rfl,hue,rfl⟩,?_⟩,hgu.1.blk⟩,hlow _ _ (fun w0 T0 r b0 b1 hcw=>?_)⟩
      ·have hjr:=hrg j (perm.mem_iff.1 (List.mem_append_left _ (by rw [hbb];exact List.mem_cons_of_mem _ hj)))
       exact ux C1 D m1 (t.blk-21) j (by omega) (fun e0=>hnu (by rw [show t.blk=j from by omega];exact hj))
      ·rw [hbb] at perm
       refine List.Perm.trans ?_ perm
       rw [←List.append_assoc]
       exact List.perm_append_comm
      ·have:=Xn w0 bc bd S T0 {D with reads:=r} C1 hcw m1 (by rw [zD];exact R.cln.map) b0 b1 (by omega) (t.blk-21) (by omega) ⟨q,false,0,u.blk⟩ (hgu.2.2.en hgu.1.blk) ⟨rfl,rfl⟩ (by
        rw [show t.blk-21+21=t.blk from by omega];exact fM lay)
       rw [hcast]
       exact this
  ·refine .inr ⟨hno,⟨fun w r h0 h1 hcw=>?_⟩⟩
   exact jV w bc bd S T D C r hcw h0 p h t.blk (by omega) (by omega) h6 qd ⟨_,_,_,_,_,rfl⟩ false false C K _ _ (.inl ⟨rfl,rfl,rfl⟩)
end prog
end Go.Proofs.YtcoengihaobddaaGreatDoor
