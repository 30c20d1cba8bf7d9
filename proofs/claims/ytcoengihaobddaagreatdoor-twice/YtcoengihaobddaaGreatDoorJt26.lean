/- Proved: for all changes that are put on a new disk, a store that is opened again, without a fall or with one, is the same (the law Twice answers true), and what is handed in reads as it did; no condition. The card ties the listed tables to the program's text (a pruned copy of the project: see the seat's page). -/
import Derived.Test.YtcoengihaobddaaGreatDoorJt24
import Derived.Test.YtcoengihaobddaaGreatDoorJt25
import Derived.Test.YtcoengihaobddaaGreatDoorJt12
import Derived.Test.YtcoengihaobddaaGreatDoorCards
import Derived.Test.YtcoengihaobddaaGreatDoorTie
import Derived.Deep.DeepHandedRow
import Derived.Deep.DeepWitnessRowRef
import Derived.Lib.LaidIn
import Derived.Lib.LaidU8
import Derived.WideKeyArgs
set_option maxHeartbeats 8000000
set_option linter.unusedVariables false
set_option linter.unusedSimpArgs false
set_option maxRecDepth 8000
namespace Go.Proofs.YtcoengihaobddaaGreatDoor
namespace prog
open Go.RowKit disk ref
open law (qz)
open keys (zr)
def Qi(bs:List (List Value))(j:Nat):List Value:=Dk.look ⟨bs,[], -1,0⟩ (j:Nat)
theorem yL{D:Dk}(hp:D.ps=[])(j:Nat):D.look (j:Nat)=Qi D.bs j:=by unfold Qi Dk.look;rw [hp]
def q9(es:List En)(bo:Pl→List zy):List Nat:=(es.map fun x=>(bo x.pl).map zy.at_).flatten
def yx(bo:Pl→List zy)(x:En):zI:=⟨x.pl.key,x.pl.num,x.mark,((bo x.pl).map zy.l).flatten⟩
structure YH (rd:Nat→List Value) (bo:Pl→List zy) (x:En):Prop where
 chain:yg rd (bo x.pl)
 head:yo (bo x.pl)=x.at_
 size:((bo x.pl).map zy.l).flatten.length=x.size
 few:(bo x.pl).length≤(x.size+99)/100
structure gN (bs:List (List Value)) (V:qz) (tree n:Nat) (m:List UInt8) (es:List En) (bl:List Nat) (bo:Pl→List zy):Prop where
 few:bs.length≤1000
 root:q8 (Qi bs 1) tree n
 n0:V.n0=n
 map:qe (Qi bs 2) m
 forest:qw (Qi bs) tree es bl
 body:∀x∈es,YH (Qi bs) bo x
 nodup:(bl++q9 es bo).Nodup
 range:∀j∈bl++q9 es bo,21≤j∧j<bs.length
 taken:∀i,i+21<bs.length→(zD m i=true↔i+21∈bl++q9 es bo)
 vers:V.vs.Perm (es.map (yx bo))
 head:∃p:Pg,p.Ok∧Qi bs 0=zv p∧p.items.length=0
 good:law.Good V
theorem jx:∀(l r:List Nat),l.Nodup→(∀x∈l,x∈r)→l.length≤r.length
 |[],_,_,_=>by simp
 |a::l,r,hn,hs=>by
  rw [List.nodup_cons] at hn
  have h1:=jx l (r.erase a) hn.2 (fun x hx=>(List.mem_erase_of_ne (show x≠a from fun e=>hn.1 (e▸hx))).2 (hs x (List.mem_cons_of_mem _ hx)))
  have ha:=hs a (List.mem_cons_self ..)
  have hp:=List.length_pos_of_mem ha
  rw [List.length_erase_of_mem ha] at h1
  rw [List.length_cons]
  omega
theorem ve{l:List Nat}{N:Nat}(hn:l.Nodup)(hr:∀j∈l,21≤j∧j<N):l.length≤N-21:=by
 have:=jx l (List.range' 21 (N-21)) hn (fun x hx=>by rw [List.mem_range'_1];have:=hr x hx;omega)
 simpa using this
theorem dW{h:Nat}:∀(cs:List (Pl×Tr h)),(∀c∈cs,c.2.ents.length≤6*c.2.blocks.length)→(zQ cs).length≤6*(z3 cs).length
 |[],_=>by simp [z3,zQ]
 |c::cs,hc=>by
  have h1:=hc c (List.mem_cons_self ..)
  have h2:=dW cs (fun x hx=>hc x (List.mem_cons_of_mem _ hx))
  rw [qu,zL,List.length_append,List.length_append]
  omega
theorem Tr.Good.six:∀{h:Nat} {t:Tr h},t.Good→t.items.length≤6→t.ents.length≤6*t.blocks.length
 |0,t,_,hl=>by show t.2.length≤6*1;have h2:t.2.length=t.items.length:=rfl;omega
 |h+1,t,g,hl=>by
  have:=dW t.2 (fun c hc=>(g.kids.good c hc).1.six (g.kids.good c hc).2.1)
  rw [Tr.blocks_succ,Tr.ents_succ,List.length_cons]
  omega
theorem qw.six{rd:Nat→List Value}{root:Nat}{es:List En}{bs:List Nat}(h:qw rd root es bs):es.length≤6*bs.length∧2*bs.length≤es.length+1∧yw es:=by
 rcases h with⟨rfl,rfl,rfl⟩|⟨h,t,hr,hl,rfl,rfl,rfl⟩
 ·exact⟨by simp,by simp,List.Pairwise.nil⟩
 ·exact⟨hr.good.six hr.hi,hr.few,hr.srt⟩
theorem qw.congr{rd rd':Nat→List Value}{root:Nat}{es:List En}{bs:List Nat}(h:qw rd root es bs)(e:∀j∈bs,rd' j=rd j):qw rd' root es bs:=by
 rcases h with h|⟨h,t,hr,hl,rfl,rfl,rfl⟩
 ·exact .inl h
 ·exact .inr ⟨h,t,hr,hl.congr e,rfl,rfl,rfl⟩
theorem dX{rd:Nat→List Value}{bo:Pl→List zy}:∀(es:List En),(∀x∈es,YH rd bo x)→es.length+(q9 es bo).length≤weight (es.map (yx bo))
 |[],_=>by simp [q9]
 |x::es,h=>by
  have h1:=h x (List.mem_cons_self ..)
  have h2:=dX es (fun y hy=>h y (List.mem_cons_of_mem _ hy))
  have h3:=h1.few
  have h4:weight ((x::es).map (yx bo))=qp x.size+weight (es.map (yx bo)):=by
   unfold weight
   rw [List.map_cons,List.map_cons,List.sum_cons]
   show qp ((bo x.pl).map zy.l).flatten.length+_=_
   rw [h1.size]
  have h5:(q9 (x::es) bo).length=(bo x.pl).length+(q9 es bo).length:=by simp [q9]
  rw [h4,h5,List.length_cons]
  unfold qp
  omega
theorem gN.len{bs:List (List Value)}{V:qz}{tree n:Nat}{m:List UInt8}{es:List En}{bl:List Nat}{bo:Pl→List zy}(h:gN bs V tree n m es bl bo):bl.length≤979:=by
 have h1:=ve h.nodup h.range
 have:=h.few
 rw [List.length_append] at h1
 omega
theorem YI{es:List En}{bo:Pl→List zy}{j:Nat}:j∈q9 es bo↔∃x∈es,j∈(bo x.pl).map zy.at_:=by
 unfold q9
 rw [List.mem_flatten]
 constructor
 ·rintro⟨l,hl,hj⟩
  obtain⟨x,hx,rfl⟩:=List.mem_map.1 hl
  exact⟨x,hx,hj⟩
 ·rintro⟨x,hx,hj⟩
  exact⟨_,List.mem_map.2 ⟨x,hx,rfl⟩,hj⟩
theorem gN.low{bs:List (List Value)}{V:qz}{tree n:Nat}{m:List UInt8}{es:List En}{bl:List Nat}{bo:Pl→List zy}(h:gN bs V tree n m es bl bo):∀x∈es,(¬x.pl.lt qr=true)∧1≤x.pl.num∧x.pl.num≤n∧zr x.pl.key.data.toList=true:=fun x hx=>by
 have hv:yx bo x∈V.vs:=h.vers.mem_iff.2 (List.mem_map.2 ⟨x,hx,rfl⟩)
 have hk:=h.good.key _ hv
 have hm:=h.good.num _ hv
 rw [h.n0] at hm
 refine⟨fun hc=>?_,hm.1,hm.2,hk⟩
 rw [Pl.lt_iff] at hc
 have hne:zr (qr.key).data.toList=false:=by decide
 rcases hc with hc|⟨hc,_⟩
 ·have h2:∀k:ByteArray,z5 k qr.key=false:=by
   intro k
   show qa k.data.toList []=false
   cases k.data.toList<;>rfl
  rw [h2] at hc;cases hc
 ·have hk2:zr x.pl.key.data.toList=true:=hk
  rw [hc,hne] at hk2;cases hk2
structure jN (D:Dk) (V:qz) (tree n:Nat) (m:List UInt8) (es:List En) (bl:List Nat) (bo:Pl→List zy) (key:ByteArray) (mark:Bool) (l:List UInt8) (f:Nat) (C1:Ck) (m1:List UInt8) (nb1:List Nat) (root':Nat) (C2:Ck) (m2:List UInt8) (pb nb:List Nat):Prop where
 rep:gN D.bs V tree n m es bl bo
 ps:D.ps=[]
 big:64≤D.bs.length
 body:Zc D ce C1 m m1 f (zo l) nb1
 ins:vL D C1 C2 m1 m2 root' ⟨⟨key,(n:Int)+1⟩,mark,l.length,f⟩ es bl pb nb
 key:zr key.data.toList=true
 len:l.length≤300
 bare:mark=true→l=[]
 num:n<4611686018427387904
section
variable {D:Dk} {V:qz} {tree n:Nat} {m:List UInt8} {es:List En} {bl:List Nat} {bo:Pl→List zy} {key:ByteArray} {mark:Bool} {l:List UInt8} {f:Nat} {C1:Ck} {m1:List UInt8} {nb1:List Nat} {root':Nat} {C2:Ck} {m2:List UInt8} {pb nb:List Nat}
theorem jN.old(h:jN D V tree n m es bl bo key mark l f C1 m1 nb1 root' C2 m2 pb nb){j:Nat}(hj:j∈bl++q9 es bo):zD m (j-21)=true∧zD m1 (j-21)=true∧j∉nb1∧j∉nb:=by
 have hr:=h.rep.range j hj
 have h1:zD m (j-21)=true:=(h.rep.taken (j-21) (by omega)).2 (by rw [show j-21+21=j from by omega];exact hj)
 have h2:=h.body.stp.grew.keeps h1
 exact⟨h1,h2,h.body.stp.grew.apart h1,h.ins.stp.grew.apart h2⟩
theorem jN.mid(h:jN D V tree n m es bl bo key mark l f C1 m1 nb1 root' C2 m2 pb nb){j:Nat}(hj:j∈nb1):21≤j∧j<D.bs.length∧j∉bl++q9 es bo∧j∉nb:=by
 have hf:=h.body.stp.grew.fresh j hj
 refine⟨hf.1,hf.2.1,fun hc=>(h.old hc).2.2.1 hj,?_⟩
 refine h.ins.stp.grew.apart ?_
 rw [h.body.stp.grew.taken,show j-21+21=j from by omega]
 simp [hj]
theorem jN.new(h:jN D V tree n m es bl bo key mark l f C1 m1 nb1 root' C2 m2 pb nb){j:Nat}(hj:j∈nb):21≤j∧j<D.bs.length:=by
 have hf:=h.ins.stp.grew.fresh j hj
 exact⟨hf.1,hf.2.1⟩
theorem jN.keys(h:jN D V tree n m es bl bo key mark l f C1 m1 nb1 root' C2 m2 pb nb)(hf:C2.full=false):∀k∈(C2.put 1 (zv (zN root' (n+1)))).keys,k∈[1,2]++(nb1++(pb++nb)):=fun k hk=>by
 have hf1:C1.full=false:=by
  cases h1:C1.full with
  |false=>rfl
  |true=>rw [h.ins.stp.full h1] at hf;cases hf
 rcases (jf C2 1 _ k).1 hk with h1|h1
 ·rcases h.ins.stp.keys k h1 with h1|h1|h1|h1|h1
  ·rcases h.body.stp.keys k h1 with h1|h1|h1|h1|h1
   ·exact nomatch h1
   ·exact nomatch h1
   ·simp [h1]
   ·simp [h1]
   ·rw [hf1] at h1;exact nomatch h1.2
  ·simp [h1]
  ·simp [h1]
  ·simp [h1]
  ·rw [hf] at h1;exact nomatch h1.2
 ·simp [h1]
theorem jN.klt(h:jN D V tree n m es bl bo key mark l f C1 m1 nb1 root' C2 m2 pb nb)(hf:C2.full=false):∀k∈(C2.put 1 (zv (zN root' (n+1)))).keys,k<D.bs.length:=fun k hk=>by
 have:=h.keys hf k hk
 have hb:=h.big
 rcases List.mem_append.1 this with h1|h1
 ·simp at h1;omega
 ·rcases List.mem_append.1 h1 with h1|h1
  ·exact(h.mid h1).2.1
  ·rcases List.mem_append.1 h1 with h1|h1
   ·exact(h.rep.range k (List.mem_append_left _ (h.ins.sub k h1))).2
   ·exact(h.new h1).2
theorem Xa{h:Nat}(h3:3^h≤979):h≤6:=by
 rcases Nat.lt_or_ge 6 h with h7|h7
 ·have:3^7≤3^h:=Nat.pow_le_pow_right (by omega) h7
  omega
 ·exact h7
theorem jN.fits(h:jN D V tree n m es bl bo key mark l f C1 m1 nb1 root' C2 m2 pb nb)(hfit:x7 V.vs (qp l.length) D.bs.length=true):((C2.put 1 (zv (zN root' (n+1)))).full||decide (18<(C2.put 1 (zv (zN root' (n+1)))).ws.length))=false:=by
 have hnl:=h.body.nl
 rw [qZ] at hnl
 have hlen:=h.len
 cases hf:C2.full with
 |true=>
  exfalso
  have hall:=h.ins.chn.full hf
  have h1:=jx (List.range' 21 (D.bs.length-21)) ((bl++q9 es bo)++(nb1++nb)) List.nodup_range' (fun x hx=>by
   rw [List.mem_range'_1] at hx
   have hx1:=hall (x-21) (by omega)
   rw [h.ins.stp.grew.taken,h.body.stp.grew.taken,show x-21+21=x from by omega] at hx1
   simp only [Bool.or_eq_true,decide_eq_true_eq] at hx1
   rcases hx1 with(hx1|hx1)|hx1
   ·have:=(h.rep.taken (x-21) (by omega)).1 hx1
    rw [show x-21+21=x from by omega] at this
    exact List.mem_append_left _ this
   ·exact List.mem_append_right _ (List.mem_append_left _ hx1)
   ·exact List.mem_append_right _ (List.mem_append_right _ hx1))
  rw [List.length_range',List.length_append,List.length_append,List.length_append] at h1
  have h2:=h.rep.forest.six.2.1
  have h3:=h.ins.nl
  have h4:=dX es h.rep.body
  rw [←fD h.rep.vers] at h4
  unfold x7 qp at hfit
  simp only [decide_eq_true_eq] at hfit
  omega
 |false=>
  rw [qn,hf,Bool.false_or,decide_eq_false_iff_not]
  obtain⟨bl',hF,hp,hh,hc1,hc2⟩:=h.ins.tree hf
  have h1:=jx _ _ (jp h.ins.chn.nodup 1 (zv (zN root' (n+1)))) (h.keys hf)
  rw [Ck.keys_len] at h1
  simp only [List.length_append,List.length_cons,List.length_nil] at h1
  have hbl:bl'.length≤979:=by
   have:=ve (l:=bl') (N:=D.bs.length) (hp.nodup_iff.2 (List.nodup_append.2 ⟨(List.nodup_append.1 h.rep.nodup).1,h.ins.stp.grew.nodup,fun a ha b hb e=>(h.old (List.mem_append_left _ ha)).2.2.2 (e▸hb)⟩)) (fun j hj=>by
    rcases List.mem_append.1 (hp.mem_iff.1 hj) with hj|hj
    ·exact h.rep.range j (List.mem_append_left _ hj)
    ·exact h.new hj)
   have:=h.rep.few
   omega
  have:=Xa (Nat.le_trans hc2 hbl)
  omega
theorem YJ(hp:D.ps=[]){ws:List (Nat×List Value)}{j:Nat}:Qi (vK D.bs ws) j=Dk.look {D with bs:=vK D.bs ws} (j:Nat):=by
 unfold Qi Dk.look
 rw [hp]
theorem jN.rest(h:jN D V tree n m es bl bo key mark l f C1 m1 nb1 root' C2 m2 pb nb)(hnf:((C2.put 1 (zv (zN root' (n+1)))).full||decide (18<(C2.put 1 (zv (zN root' (n+1)))).ws.length))=false):∃bl' bo',gN (vK D.bs (C2.put 1 (zv (zN root' (n+1)))).ws) (V.add key mark l) root' (n+1) m2 (qA ⟨⟨key,(n:Int)+1⟩,mark,l.length,f⟩ es) bl' bo':=by
 simp only [Bool.or_eq_false_iff,decide_eq_false_iff_not,qn] at hnf
 obtain⟨hf,h18⟩:=hnf
 have hf1:C1.full=false:=by
  cases h1:C1.full with
  |false=>rfl
  |true=>rw [h.ins.stp.full h1] at hf;cases hf
 obtain⟨bl',hF,hp,_⟩:=h.ins.tree hf
 obtain⟨ps,c1,c2,c3,c4⟩:=h.body.chain hf1
 have hbig:=h.big
 have hkn:=jp h.ins.chn.nodup 1 (zv (zN root' (n+1)))
 have look:∀j:Nat,j≠0→(j<3∨21≤j)→Qi (vK D.bs (C2.put 1 (zv (zN root' (n+1)))).ws) j=(C2.put 1 (zv (zN root' (n+1)))).look D (j:Nat):=fun j h0 hj=>by
  rw [YJ h.ps]
  exact Yh h.ps hkn (by omega) (h.klt hf) h0 hj
 have look2:∀j:Nat,j≠0→j≠1→(j<3∨21≤j)→Qi (vK D.bs (C2.put 1 (zv (zN root' (n+1)))).ws) j=C2.look D (j:Nat):=fun j h0 h1 hj=>by
  rw [look j h0 hj,qF _ _ _ _ _ (by omega)]
 have hne:∀x∈es,x.pl≠⟨key,(n:Int)+1⟩:=fun x hx e=>by
  have:=(h.rep.low x hx).2.2.1
  rw [e] at this
  simp only at this
  omega
 refine⟨bl',fun p=>if p=⟨key,(n:Int)+1⟩ then ps else bo p,?_⟩
 have hbo:∀x∈es,(fun p=>if p=(⟨key,(n:Int)+1⟩:Pl) then ps else bo p) x.pl=bo x.pl:=fun x hx=>if_neg (hne x hx)
 have hboe:(fun p=>if p=(⟨key,(n:Int)+1⟩:Pl) then ps else bo p) ⟨key,(n:Int)+1⟩=ps:=if_pos rfl
 generalize (fun p=>if p=(⟨key,(n:Int)+1⟩:Pl) then ps else bo p)=bo' at*
 have hbods0:q9 es bo'=q9 es bo:=by
  unfold q9
  congr 1
  exact List.map_congr_left (fun x hx=>by rw [hbo x hx])
 have hbods:(q9 (qA ⟨⟨key,(n:Int)+1⟩,mark,l.length,f⟩ es) bo').Perm (nb1++q9 es bo):=by
  have h1:(q9 (qA ⟨⟨key,(n:Int)+1⟩,mark,l.length,f⟩ es) bo').Perm (q9 (⟨⟨key,(n:Int)+1⟩,mark,l.length,f⟩::es) bo'):=((xy _ es).map _).flatten
  have h2:q9 (⟨⟨key,(n:Int)+1⟩,mark,l.length,f⟩::es) bo'=ps.map zy.at_++q9 es bo:=by
   rw [←hbods0]
   unfold q9
   rw [List.map_cons,List.flatten_cons,hboe]
  rw [h2] at h1
  exact h1.trans (c4.append_right _)
 have hall:(bl'++q9 (qA ⟨⟨key,(n:Int)+1⟩,mark,l.length,f⟩ es) bo').Perm ((bl++q9 es bo)++(nb1++nb)):=by
  refine(hp.append hbods).trans ?_
  rw [List.append_assoc,List.append_assoc]
  refine List.Perm.append_left bl ?_
  have e1:(nb++(nb1++q9 es bo)).Perm ((nb1++q9 es bo)++nb):=List.perm_append_comm
  refine e1.trans ?_
  rw [←List.append_assoc]
  exact List.Perm.append_right nb List.perm_append_comm
 have hmem:∀j,j∈bl'++q9 (qA ⟨⟨key,(n:Int)+1⟩,mark,l.length,f⟩ es) bo'↔(j∈bl++q9 es bo∨j∈nb1∨j∈nb):=fun j=>by
  rw [hall.mem_iff,List.mem_append (s:=bl++q9 es bo),List.mem_append (s:=nb1)]
 have hlow:∀x:Nat,21≤x→x≠0∧x≠1∧(x<3∨21≤x):=fun x hx=>⟨by omega,by omega,.inr hx⟩
 have hflat:(ps.map zy.l).flatten=l:=by rw [c3,dE]
 have hplen:ps.length=(l.length+123)/124:=by
  have:=congrArg List.length c3
  rw [List.length_map,qZ] at this
  exact this
 have hll:=h.len
 refine⟨by rw [jq];exact h.rep.few,?_,?_,?_,?_,?_,?_,?_,?_,?_,?_,?_⟩
 ·have:=look 1 (by omega) (by omega)
  rw [this]
  have h2:(C2.put 1 (zv (zN root' (n+1)))).look D ((1:Nat):Int)=zv (zN root' (n+1)):=qG _ _ _ _
  rw [h2]
  exact⟨.inl rfl,h.ins.lt,by have:=h.num;omega⟩
 ·show V.n0+1=_
  rw [h.rep.n0]
  omega
 ·rw [look2 2 (by omega) (by omega) (by omega)]
  exact h.ins.chn.map
 ·refine hF.congr (fun j hj=>?_)
  have hj2:21≤j:=by
   rcases List.mem_append.1 (hp.mem_iff.1 hj) with hj|hj
   ·exact(h.rep.range j (List.mem_append_left _ hj)).1
   ·exact(h.new hj).1
  obtain⟨a1,a2,a3⟩:=hlow j hj2
  exact look2 j a1 a2 a3
 ·intro x hx
  rcases xx.1 hx with rfl|hx
  ·refine⟨?_,?_,?_,?_⟩
   ·show yg _ (bo' ⟨key,(n:Int)+1⟩)
    rw [hboe]
    refine c1.congr (fun p hpp=>?_)
    have hm1:p.at_∈nb1:=c4.mem_iff.1 (List.mem_map.2 ⟨p,hpp,rfl⟩)
    have hm2:=h.mid hm1
    obtain⟨a1,a2,a3⟩:=hlow p.at_ hm2.1
    rw [look2 _ a1 a2 a3]
    exact h.ins.stp.look _ (fun hc=>hm2.2.2.1 (List.mem_append_left _ (h.ins.sub _ hc))) hm2.2.2.2 (by omega) a1
   ·show yo (bo' ⟨key,(n:Int)+1⟩)=f
    rw [hboe];exact c2
   ·show ((bo' ⟨key,(n:Int)+1⟩).map zy.l).flatten.length=l.length
    rw [hboe,hflat]
   ·show (bo' ⟨key,(n:Int)+1⟩).length≤(l.length+99)/100
    rw [hboe,hplen];omega
  ·have hb:=h.rep.body x hx
   have hx2:=hbo x hx
   refine⟨?_,by rw [hx2];exact hb.head,by rw [hx2];exact hb.size,by rw [hx2];exact hb.few⟩
   rw [hx2]
   refine hb.chain.congr (fun p hpp=>?_)
   have hm1:p.at_∈q9 es bo:=YI.2 ⟨x,hx,List.mem_map.2 ⟨p,hpp,rfl⟩⟩
   have hm2:=h.old (List.mem_append_right bl hm1)
   have hm3:=h.rep.range p.at_ (List.mem_append_right _ hm1)
   obtain⟨a1,a2,a3⟩:=hlow p.at_ hm3.1
   have hnp:p.at_∉pb:=fun hc=>(List.nodup_append.1 h.rep.nodup).2.2 _ (h.ins.sub _ hc) _ hm1 rfl
   rw [look2 _ a1 a2 a3,h.ins.stp.look _ hnp hm2.2.2.2 (by omega) a1,h.body.stp.look _ (fun hc=>nomatch hc) hm2.2.2.1 (by omega) a1,yW,yL h.ps]
 ·refine hall.nodup_iff.2 (List.nodup_append.2 ⟨h.rep.nodup,List.nodup_append.2 ⟨h.body.stp.grew.nodup,h.ins.stp.grew.nodup,fun a ha b hb e=>(h.mid ha).2.2.2 (e▸hb)⟩,fun a ha b hb e=>?_⟩)
  rcases List.mem_append.1 hb with hb|hb
  ·exact(h.old ha).2.2.1 (e▸hb)
  ·exact(h.old ha).2.2.2 (e▸hb)
 ·intro j hj
  rw [jq]
  rcases (hmem j).1 hj with hj|hj|hj
  ·exact h.rep.range j hj
  ·exact⟨(h.mid hj).1,(h.mid hj).2.1⟩
  ·exact h.new hj
 ·intro i hi
  rw [jq] at hi
  rw [hmem,h.ins.stp.grew.taken,h.body.stp.grew.taken]
  simp only [Bool.or_eq_true,decide_eq_true_eq]
  rw [h.rep.taken i hi,or_assoc]
 ·show (V.vs++[(⟨key,V.n0+1,mark,l⟩:zI)]).Perm _
  have h1:((qA ⟨⟨key,(n:Int)+1⟩,mark,l.length,f⟩ es).map (yx bo')).Perm ((⟨⟨key,(n:Int)+1⟩,mark,l.length,f⟩::es).map (yx bo')):=(xy _ es).map _
  have h2:(⟨⟨key,(n:Int)+1⟩,mark,l.length,f⟩::es).map (yx bo')=⟨key,V.n0+1,mark,l⟩::es.map (yx bo):=by
   rw [List.map_cons]
   congr 1
   ·show (⟨key,(n:Int)+1,mark,((bo' ⟨key,(n:Int)+1⟩).map zy.l).flatten⟩:zI)=_
    rw [hboe,hflat,h.rep.n0]
   ·refine List.map_congr_left (fun x hx=>?_)
    unfold yx
    rw [hbo x hx]
  rw [h2] at h1
  refine List.Perm.trans ?_ h1.symm
  refine List.perm_append_comm.trans ?_
  show ((⟨key,V.n0+1,mark,l⟩:zI)::V.vs).Perm _
  exact h.rep.vers.cons _
 ·refine⟨Pg.new 1,Pg.new_ok 1 (by omega),?_,rfl⟩
  rw [YJ h.ps]
  exact Yi h.ps (by omega) _
 ·have hg:=h.rep.good
  have hn0:=h.rep.n0
  refine⟨?_,?_,?_,?_,?_,?_,?_⟩
  ·show (V.vs++[(⟨key,V.n0+1,mark,l⟩:zI)]).Pairwise _
   refine List.pairwise_append.2 ⟨hg.apart,List.pairwise_singleton _ _,fun a ha b hb hc=>?_⟩
   rw [List.mem_singleton.1 hb] at hc
   have:=(hg.num a ha).2
   have h2:a.num=V.n0+1:=hc.2
   omega
  ·intro v hv
   show 1≤v.num∧v.num≤V.n0+1
   rcases List.mem_append.1 hv with hv|hv
   ·have:=hg.num v hv;omega
   ·rw [List.mem_singleton.1 hv];show 1≤V.n0+1∧V.n0+1≤V.n0+1;omega
  ·intro v hv
   rcases List.mem_append.1 hv with hv|hv
   ·exact hg.key v hv
   ·rw [List.mem_singleton.1 hv];exact h.key
  ·intro v hv
   rcases List.mem_append.1 hv with hv|hv
   ·exact hg.body v hv
   ·rw [List.mem_singleton.1 hv];exact h.len
  ·intro v hv
   rcases List.mem_append.1 hv with hv|hv
   ·exact hg.mark v hv
   ·rw [List.mem_singleton.1 hv];exact h.bare
  ·have h1:(V.vs++[(⟨key,V.n0+1,mark,l⟩:zI)]).length≤6000:=by
    have h2:=hF.six.1
    rw [(xy _ es).length_eq,List.length_cons] at h2
    have h3:=h.rep.vers.length_eq
    rw [List.length_map] at h3
    have hbl:bl'.length≤979:=by
     have:=ve (l:=bl') (N:=D.bs.length) (hp.nodup_iff.2 (List.nodup_append.2 ⟨(List.nodup_append.1 h.rep.nodup).1,h.ins.stp.grew.nodup,fun a ha b hb e=>(h.old (List.mem_append_left _ ha)).2.2.2 (e▸hb)⟩)) (fun j hj=>by
      rcases List.mem_append.1 (hp.mem_iff.1 hj) with hj|hj
      ·exact h.rep.range j (List.mem_append_left _ hj)
      ·exact h.new hj)
     have:=h.rep.few
     omega
    rw [List.length_append,List.length_singleton]
    omega
   exact h1
  ·show 0≤V.n0+1
   have:=hg.n0
   omega
end
theorem fv{l:List UInt8}(h:zr l=true):1≤l.length∧l.length≤8∧(0:UInt8)∉l:=by
 unfold zr at h
 simp only [Bool.and_eq_true,decide_eq_true_eq] at h
 refine⟨h.1.1,h.1.2,fun h0=>?_⟩
 have h2:=h.2
 unfold keys.xF at h2
 rw [List.all_eq_true] at h2
 have:=h2 0 h0
 exact absurd this (by decide)
theorem Xb{key:ByteArray}(h:zr key.data.toList=true)(k:Int):¬(⟨key,k⟩:Pl).lt qr=true:=fun hc=>by
 rw [Pl.lt_iff] at hc
 rcases hc with hc|⟨hc,_⟩
 ·have h2:∀k:ByteArray,z5 k qr.key=false:=by
   intro k
   show qa k.data.toList []=false
   cases k.data.toList<;>rfl
  rw [h2] at hc;cases hc
 ·have h1:=(fv h).1
  have hc':key=qr.key:=hc
  rw [hc'] at h1
  exact absurd h1 (by decide)
section
variable {bs:List (List Value)} {V:qz} {tree n:Nat} {m:List UInt8} {es:List En} {bl:List Nat} {bo:Pl→List zy}
theorem gN.ver(h:gN bs V tree n m es bl bo){v:zI}(hv:v∈V.vs):∃x∈es,v=yx bo x:=by
 obtain⟨x,hx,e⟩:=List.mem_map.1 (h.vers.mem_iff.1 hv)
 exact⟨x,hx,e.symm⟩
theorem gN.mem(h:gN bs V tree n m es bl bo){x:En}(hx:x∈es):yx bo x∈V.vs:=h.vers.mem_iff.2 (List.mem_map.2 ⟨x,hx,rfl⟩)
theorem yw.same{l:List En}(h:yw l){x y:En}(hx:x∈l)(hy:y∈l)(e:x.pl=y.pl):x=y:=by
 induction l with
 |nil=>exact nomatch hx
 |cons a l ih=>
  have h2:=List.pairwise_cons.1 h
  rcases List.mem_cons.1 hx with ex|hx1
  ·rcases List.mem_cons.1 hy with ey|hy1
   ·rw [ex,ey]
   ·have:=h2.1 y hy1
    rw [←ex,e] at this
    exact absurd this (Pl.irrefl _)
  ·rcases List.mem_cons.1 hy with ey|hy1
   ·have:=h2.1 x hx1
    rw [←ey,e] at this
    exact absurd this (Pl.irrefl _)
   ·exact ih h2.2 hx1 hy1
theorem yw.head_on{l:List En}(h:yw l){p:Pl}{x:En}(ho:(yj p l).head? =some x):x∈l∧x.pl.lt p=false∧∀y∈l,y.pl.lt p=false→y=x∨x.pl.lt y.pl=true:=by
 have hs:yw (yj p l):=List.Pairwise.filter _ h
 cases hl:yj p l with
 |nil=>rw [hl] at ho;cases ho
 |cons a r=>
  rw [hl] at ho
  cases ho
  have hx:x∈yj p l:=by rw [hl];exact List.mem_cons_self ..
  have hx2:=List.mem_filter.1 hx
  refine⟨hx2.1,by simpa using hx2.2,fun y hy hlt=>?_⟩
  have hym:y∈yj p l:=List.mem_filter.2 ⟨hy,by rw [hlt];rfl⟩
  rw [hl] at hym hs
  rcases List.mem_cons.1 hym with rfl|hym
  ·exact .inl rfl
  ·exact .inr ((List.pairwise_cons.1 hs).1 y hym)
theorem Qj{l:List En}{p:Pl}(ho:(yj p l).head? =none):∀y∈l,y.pl.lt p=true:=fun y hy=>by
 have:yj p l=[]:=by
  cases h:yj p l with
  |nil=>rfl
  |cons a r=>rw [h] at ho;cases ho
 unfold yj at this
 rw [List.filter_eq_nil_iff] at this
 have:=this y hy
 simpa using this
theorem gN.at_yes(h:gN bs V tree n m es bl bo){key:ByteArray}{num:Int}{x:En}(hx:x∈es)(hk:x.pl.key=key)(hnum:x.pl.num=num):yO V.vs key num=some (yx bo x):=by
 have hsr:=h.forest.six.2.2
 cases hv:yO V.vs key num with
 |none=>exact absurd ⟨hk,hnum⟩ (gj hv _ (h.mem hx))
 |some v=>
  obtain⟨h1,h2,h3⟩:=kj hv
  obtain⟨y,hy,rfl⟩:=h.ver h3
  have e1:y.pl.key=key:=h1
  have e2:y.pl.num=num:=h2
  have:y=x:=hsr.same hy hx (by
   have e3:y.pl=⟨y.pl.key,y.pl.num⟩:=rfl
   have e4:x.pl=⟨x.pl.key,x.pl.num⟩:=rfl
   rw [e3,e4,e1,e2,hk,hnum])
  rw [this]
theorem gN.at_no(h:gN bs V tree n m es bl bo){key:ByteArray}{num:Int}(hno:∀x,(yj ⟨key,num⟩ es).head? =some x→¬(x.pl.key=key∧x.pl.num=num)):yO V.vs key num=none:=by
 have hsr:=h.forest.six.2.2
 cases hv:yO V.vs key num with
 |none=>rfl
 |some v=>
  exfalso
  obtain⟨h1,h2,h3⟩:=kj hv
  obtain⟨y,hy,rfl⟩:=h.ver h3
  have e1:y.pl.key=key:=h1
  have e2:y.pl.num=num:=h2
  have e3:y.pl=⟨key,num⟩:=by rw [←e1,←e2]
  have hlm:y.pl.lt ⟨key,num⟩=false:=by
   rw [e3]
   cases hc:(⟨key,num⟩:Pl).lt ⟨key,num⟩ with
   |false=>rfl
   |true=>exact absurd hc (Pl.irrefl _)
  cases ho:(yj ⟨key,num⟩ es).head? with
  |none=>rw [Qj ho y hy] at hlm;cases hlm
  |some x=>
   obtain⟨hx,hxp,hall⟩:=hsr.head_on ho
   rcases hall y hy hlm with rfl|hlt
   ·exact hno _ ho ⟨e1,e2⟩
   ·rw [e3,hxp] at hlt;cases hlt
theorem gN.pieces(h:gN bs V tree n m es bl bo){x:En}(hx:x∈es):((bo x.pl).map zy.at_).Nodup∧x.size≤300∧(bo x.pl).length≤3:=by
 have hb:=h.body x hx
 have h1:x.size≤300:=by
  have:=h.good.body _ (h.mem hx)
  have e:(yx bo x).body.length=x.size:=hb.size
  omega
 refine⟨?_,h1,by have:=hb.few;omega⟩
 have hs:List.Sublist ((bo x.pl).map zy.at_) (q9 es bo):=List.sublist_flatten_of_mem (List.mem_map.2 ⟨x,hx,rfl⟩)
 exact hs.nodup (List.nodup_append.1 h.nodup).2.1
end
theorem fw:zG=zv (Pg.new 0):=by
 rw [zv,Pg.nought]
 rfl
theorem uL(N j:Nat):Qi (List.replicate N zG) j=zG:=by
 unfold Qi Dk.look
 split
 ·rename_i h
  have h2:j<N:=by have:=h.2;simp at this;exact this
  simp [yi,h2]
 ·rfl
theorem Qk(N:Nat)(h64:64≤N)(hN:N≤1000):gN (List.replicate N zG) ⟨[],0⟩ 0 0 xP [] [] (fun _=>[]) where
 few:=by simpa using hN
 root:=by rw [uL];exact⟨.inr ⟨fw,rfl,rfl⟩,by omega,by omega⟩
 n0:=rfl
 map:=by rw [uL];exact⟨ZN,.inr ⟨fw,rfl⟩⟩
 forest:=.inl ⟨rfl,rfl,rfl⟩
 body:=fun x hx=>nomatch hx
 nodup:=by simp [q9]
 range:=fun j hj=>by simp [q9] at hj
 taken:=fun i _=>by rw [bW];simp [q9]
 vers:=List.Perm.refl _
 head:=⟨Pg.new 0,Pg.new_ok 0 (by omega),by rw [uL];exact fw,rfl⟩
 good:=⟨List.Pairwise.nil,fun v hv=>(nomatch hv),fun v hv=>(nomatch hv),fun v hv=>(nomatch hv),fun v hv=>(nomatch hv),by simp,Int.le_refl _⟩
end prog
namespace prog
open Go.RowKit disk ref
open law (qz ze yb yI QD vV qU x8 Xw OutIs XC)
open keys (zr)
def gO(bs:List (List Value))(V:qz):Prop:=∃tree n m es bl bo,gN bs V tree n m es bl bo
def Xc:ze where
 Rest:=gO
 Holds:=gO
 Sto:=fun w b q=>zx w b 0 q
 Fu:=fun f=>f= -1
 rest_holds:=fun _ _ h=>h
 good:=fun bs V ⟨_,_,_,_,_,_,h⟩=>h.good
 zeros:=fun n h1 h2=>⟨_,_,_,_,_,_,Qk n h1 h2⟩
 sto_lt:=fun w b q h=>h.lt
 sto_kept:=fun w w' b q T h k hn=>h.kept k hn
 fu_int:=fun f h=>by rw [h];constructor<;>omega
 fu_neg:=rfl
theorem dY:∀ps:List (Nat×List Value),xV ps (List.replicate ps.length true)=ps
 |[]=>rfl
 |p::ps=>by
  unfold xV
  rw [List.length_cons,List.replicate_succ]
  simp [dY ps]
theorem YK:yb Xc where
 small:=fun w bd S D hd hN=>(cA w bd S D hd hN).mono (by
  rintro e w' ⟨h1,rfl⟩
  exact⟨h1,hd,za.refl _ _⟩)
 big:=fun w bd S D P hd hcould hfu hr0 hr1=>by
  have hf:D.fuse= -1:=hfu
  obtain⟨V,hV,tree,n,m,es,bl,bo,hrep⟩:=hcould.all (List.replicate D.ps.length true)
  rw [dY] at hrep
  obtain⟨p,hp,hl,hi⟩:=hrep.head
  have hfl:=yP hf
  have hbig:=hcould.big
  have hl0:D.flush.look 0=zv p:=by rw [hfl];exact hl
  refine(Qe w bd S D {D.flush with reads:=D.reads+1} hd hcould.big (dO w bd S D hd (by rw [hf];constructor<;>omega) (by rw [hf];rfl) hr0 (by omega) p hp hl0 hi)).mono ?_
  rintro e w' ⟨bs,h1,h2,h3,S',h4,h5,h6,h7⟩
  have e1:D.flush.bs=zp D.bs D.ps:=by rw [hfl]
  have e2:D.flush.ps=[]:=by rw [hfl]
  have e3:D.flush.fuse= -1:=by rw [hfl];exact hf
  refine⟨{D.flush with reads:=D.reads+1},S',⟨h4,h5,h7,by show D.reads≤D.reads+1;omega,by show D.reads+1≤_;omega,by show D.flush.bs.length=_;rw [e1,qh],e3⟩,.inl ⟨bs,V,h1,h2,h6,h3,hV,⟨e2,?_,?_⟩⟩⟩
  ·show gO D.flush.bs V
   rw [e1]
   exact⟨tree,n,m,es,bl,bo,hrep⟩
  ·show 64≤D.flush.bs.length
   rw [e1,qh];exact hbig
theorem uM{w w':World}{bd bs:Nat}{S:Nat→Prop}{D:Dk}{q:Option Nat}(hd:zh w bd S D)(hn:¬S bs)(hfu:D.fuse= -1)(hs:zx w' bs 0 q)(hk:za (fun k=>k=bs) w w'):x8 Xc w w' bd bs S S D D 40 q:=
 ⟨hd.kept hk (fun j hj e=>hn (by rw [←show j=bs from e];exact hj)),fun _ h=>.inl h,hs,hk.mono (fun _ h=>.inr h),Int.le_refl _,by omega,rfl,hfu⟩
theorem dZ{w w':World}{bd bs:Nat}{S:Nat→Prop}{D:Dk}{q:Option Nat}{r:Int}(hd:zh w bd S D)(hfu:D.fuse= -1)(hs:zx w' bs 0 q)(h1:D.reads≤r)(h2:r≤D.reads+40)(hd':zh w' bd S {D with reads:=r })(hk:za (fun k=>k=bd∨k=bs) w w'):x8 Xc w w' bd bs S S D {D with reads:=r} 40 q:=
 ⟨hd',fun _ h=>.inl h,hs,hk.mono (fun j hj=>hj.elim (fun e=>.inl (by rw [e];exact hd.bdS)) .inr),h1,h2,rfl,hfu⟩
theorem Xu:vV Xc where
 live:=fun w bd bs S D V key num F hk hnum=>by
  have hfu:D.fuse= -1:=F.fuse
  have hs:zx w bs 0 (some bd):=F.sto
  have hd:=F.disk
  have hps:=F.live.ps
  obtain⟨tree,n,m,es,bl,bo,R⟩:=F.live.rest
  have hr0:=F.reads0
  have hr1:=F.reads1
  have live':∀r:Int,Xc.Live {D with reads:=r} V:=fun r=>⟨hps,⟨tree,n,m,es,bl,bo,R⟩,F.live.big⟩
  cases hkey:zr key.data.toList with
  |false=>
   refine(Yv w bs (some bd) hs key num hk hkey).mono ?_
   rintro e w' ⟨h1,h2,h3⟩
   exact⟨D,.slice none 0 0,S,h1,uM hd F.apart hfu h2 h3,F.live,⟨fun h=>absurd h (show ¬(2:Int)=0 by decide),fun _=>⟨none,0,rfl⟩⟩,fun k h=>(nomatch h)⟩
  |true=>
   have hroot:q8 (D.look 1) tree n:=by have:=R.root;rw [←yL hps] at this;exact this
   have hfor:qw (fun j=>D.look (j:Nat)) tree es bl:=R.forest.congr (fun j _=>yL hps j)
   have hlow:∀j∈bl,21≤j:=fun j hj=>(R.range j (List.mem_append_left _ hj)).1
   cases hnew:Yw key num (yj ⟨key,num⟩ es).head? with
   |false=>
    have hans:uQ true (yO V.vs key num)=5:=by
     cases ho:(yj ⟨key,num⟩ es).head? with
     |none=>rw [R.at_no (fun x hx=>by rw [ho] at hx;cases hx)];rfl
     |some x=>
      by_cases hxk:x.pl.key=key∧x.pl.num=num
      ·rw [R.at_yes (R.forest.six.2.2.head_on ho).1 hxk.1 hxk.2]
       rw [ho] at hnew
       have hm:x.mark=true:=by
        simp only [Yw,hxk.1,hxk.2,decide_true,Bool.true_and] at hnew
        cases hmm:x.mark with
        |true=>rfl
        |false=>rw [hmm] at hnew;cases hnew
       show cond x.mark 5 0=5
       rw [hm];rfl
      ·rw [R.at_no (fun y hy=>by rw [ho] at hy;cases hy;exact hxk)];rfl
    refine(Y8 w bs bd S D hs hd F.apart hr0 (by omega) tree n hroot key num hk hkey es bl hfor R.len hlow _ rfl hnew).mono ?_
    rintro e w' ⟨h1,h2,⟨r,h3,h4,h5⟩,h6⟩
    rw [hans]
    exact⟨{D with reads:=r},.slice none 0 0,S,h1,dZ hd hfu h2 h3 (by omega) h5 h6,live' r,⟨fun h=>absurd h (by decide),fun _=>⟨none,0,rfl⟩⟩,fun k h=>(nomatch h)⟩
   |true=>
    cases ho:(yj ⟨key,num⟩ es).head? with
    |none=>rw [ho] at hnew;cases hnew
    |some x=>
     rw [ho] at hnew
     have hxk:x.pl.key=key∧x.pl.num=num:=by simp only [Yw,Bool.and_eq_true,decide_eq_true_eq] at hnew;exact hnew.1
     have hxm:x.mark=false:=by simp only [Yw,Bool.and_eq_true,Bool.not_eq_true'] at hnew;exact hnew.2
     have hx:=(R.forest.six.2.2.head_on ho).1
     have hnv:=R.at_yes hx hxk.1 hxk.2
     have hb:=R.body x hx
     obtain⟨p1,p2,p3⟩:=R.pieces hx
     have hans:uQ true (yO V.vs key num)=0:=by rw [hnv];show cond x.mark 5 0=0;rw [hxm];rfl
     refine(Y9 w bs bd S D hs hd F.apart hr0 (by omega) tree n hroot key num hk hkey es bl hfor R.len hlow x ho hnew (bo x.pl) (hb.chain.congr (fun p _=>yL hps p.at_)) p1 hb.head _ rfl hb.size p2 (by omega)).mono ?_
     rintro e w' ⟨⟨a,cap,h1,hown,hfr⟩,h2,⟨r,h3,h4,h5⟩,h6⟩
     rw [hans]
     refine⟨{D with reads:=r},_,S,h1,dZ hd hfu h2 h3 (by omega) h5 h6,live' r,⟨fun _=>⟨_,hnv,⟨a,cap,rfl,hown,hfr⟩⟩,fun h=>absurd rfl h⟩,fun k h hS=>?_⟩
     have:=hfr k h;have:=hd.lt k hS;omega
 shut:=fun w bs key num hs hk=>by
  have hs':zx w bs 0 none:=hs
  cases hkey:zr key.data.toList with
  |false=>exact(Yv w bs none hs' key num hk hkey).mono (fun e w' ⟨h1,h2,h3⟩=>⟨none,0,h1,h2,h3⟩)
  |true=>exact(Y7 w bs hs' key num hk hkey).mono (fun e w' ⟨h1,h2,h3⟩=>⟨none,0,h1,h2,h3⟩)
def XL(D:Dk)(V:qz)(key:ByteArray)(mark:Bool)(l:List UInt8)(v c:Int)(D':Dk):Prop:=
 ∃kk:Int,0≤kk∧kk≤19∧((c=6∧v=0∧x7 V.vs (qp l.length) D.bs.length=false∧D'={D with reads:=D.reads+kk })∨
  (c=0∧v=V.n0+1∧∃bs',bs'.length=D.bs.length∧gO bs' (V.add key mark l)∧D'={D with bs:=bs',reads:=D.reads+kk }))
theorem XM(w:World)(bs bd:Nat)(S:Nat→Prop)(D:Dk)(hs:zx w bs 1 (some bd))(hd:zh w bd S D)(hn:¬S bs)(hr0:0≤D.reads)(hr1:D.reads≤4611686018427340000)(hps:D.ps=[])(hfu:D.fuse= -1)(h64:64≤D.bs.length)(V:qz)(hV:V.n0≤2305843009213693952)(hrest:gO D.bs V)
 (key:ByteArray) (hkey:zr key.data.toList=true) (mark:Bool) (P:Nat→Prop) (a:Option Addr) (cap:Nat) (l:List UInt8) (hmk:mark=true→l=[]) (hby:zt w P a l) (hPS:∀j,P j→¬S j∧j≠bs) (hl:l.length≤300) (hc1:l.length≤cap) (hc2:cap≤9223372036854775807):
 Calls Tryz.prog 52 #[.pointer (some ⟨bs,0,none⟩),.string key,.slice a l.length cap,.bool mark] w fun e w'=>∃v c D',e=.returned (.tuple #[.int .i64 v,.int .i64 c])∧qM w w' bd S D'∧XL D V key mark l v c D':=by
 obtain⟨tree,n,m,es,bl,bo,R⟩:=hrest
 have hn9:n<4611686018427387904:=by rw [R.n0] at hV;omega
 have hroot:q8 (D.look 1) tree n:=by have:=R.root;rw [←yL hps] at this;exact this
 have hmap:qe (D.look 2) m:=by have:=R.map;rw [←yL hps] at this;exact this
 rcases hbody:ce.body D.bs.length m (zo l) with⟨f,C1,m1⟩
 have hchn:cd D ce m:=⟨by rw [yW];exact hmap,fun h=>(nomatch h),List.nodup_nil⟩
 obtain⟨nb1,hBR⟩:=Yn hchn R.few (zo l) f C1 m1 (fun p hp=>(uC p hp).2) hbody
 have hf6:=(uD (C:=ce) (D:=D) (m:=m) (by rw [yW];exact hmap) R.few (zo l) f C1 m1 hbody).2.2
 have hkl:=fv hkey
 have hold:∀j∈bl,21≤j∧zD m1 (j-21)=true∧j∉nb1:=fun j hj=>by
  have hr:=R.range j (List.mem_append_left _ hj)
  have h1:zD m (j-21)=true:=(R.taken (j-21) (by omega)).2 (by rw [show j-21+21=j from by omega];exact List.mem_append_left _ hj)
  exact⟨hr.1,hBR.stp.grew.keeps h1,hBR.stp.grew.apart h1⟩
 have hfor:qw (fun j=>C1.look D (j:Nat)) tree es bl:=R.forest.congr (fun j hj=>by
  have h1:=hold j hj
  show C1.look D (j:Nat)=_
  rw [hBR.stp.look j (fun h=>(nomatch h)) h1.2.2 (by omega) (by omega),yW,yL hps])
 refine(gR w bs bd S D 1 hs hd hn hr0 (by omega) hps hfu h64 R.few tree n hroot hn9 m hmap key mark P a cap l hby hPS hl hc1 hc2 es bl f C1 m1 hbody nb1 hBR ⟨hkl.2.1,hkl.2.2,by show 0≤(n:Int)+1;omega,by show (n:Int)+1<_;omega,hl,fun h=>by show l.length=0;rw [hmk h];rfl,hf6⟩ (Xb hkey _) hfor (List.nodup_append.1 R.nodup).1 (fun j hj=>⟨(hold j hj).1,(hold j hj).2.1⟩) R.len (fun j hj=>(R.range j (List.mem_append_left _ hj)).2) (fun x hx=>(R.low x hx).1) (fun x hx e=>?_)).mono ?_
 ·have h1:=(R.low x hx).2.2.1
  rw [e] at h1
  simp only at h1
  omega
 ·rintro e w' ⟨root',C2,m2,pb,nb,hI,kk,hk0,hk1,h⟩
  have A:jN D V tree n m es bl bo key mark l f C1 m1 nb1 root' C2 m2 pb nb:=⟨R,hps,h64,hBR,hI,hkey,hl,hmk,hn9⟩
  rcases h with⟨hfull,rfl,hd',hk'⟩|⟨hnot,rfl,ho⟩
  ·refine⟨0,6,_,rfl,⟨⟨S,hd',fun _ h=>.inl h⟩,hk'.mono (fun j hj=>by rw [hj];exact hd.bdS)⟩,kk,hk0,hk1,.inl ⟨rfl,rfl,?_,rfl⟩⟩
   cases hfit:x7 V.vs (qp l.length) D.bs.length with
   |false=>rfl
   |true=>rw [A.fits hfit] at hfull;cases hfull
  ·obtain⟨bl',bo',hrep⟩:=A.rest hnot
   exact⟨(n:Int)+1,0,_,rfl,ho,kk,hk0,hk1,.inr ⟨rfl,by rw [R.n0],_,jq _ _,⟨_,_,_,_,_,_,hrep⟩,rfl⟩⟩
theorem Xd:yI Xc where
 live:=fun w bd bs S P D V key a cap l F hk hby hP hlen hc1 hc2=>by
  have hfu:D.fuse= -1:=F.fuse
  have hs:zx w bs 0 (some bd):=F.sto
  have hd:=F.disk
  have hps:=F.live.ps
  have hrest:gO D.bs V:=F.live.rest
  have hr0:=F.reads0
  have hr1:=F.reads1
  have hbig:=F.live.big
  cases hkey:zr key.data.toList with
  |false=>
   refine(Ze w bs (some bd) hs key hk hkey a l.length cap).mono ?_
   rintro e w' ⟨h1,h2,h3⟩
   exact⟨D,S,2,0,some bd,h1,uM hd F.apart hfu h2 h3,⟨.inl ⟨by show (2:Int)≠0;decide,rfl,rfl,F.live⟩⟩,rfl⟩
  |true=>
   by_cases hbig3:300<l.length
   ·have hput:jT true l.length=3:=if_pos hbig3
    rw [hput]
    refine(Zf w bs (some bd) hs key hk hkey a l.length cap hbig3).mono ?_
    rintro e w' ⟨h1,h2,h3⟩
    exact⟨D,S,3,0,some bd,h1,uM hd F.apart hfu h2 h3,⟨.inl ⟨by decide,rfl,rfl,F.live⟩⟩,rfl⟩
   ·have hput:jT true l.length=0:=if_neg hbig3
    rw [hput]
    refine(YD w bs bd S D hs hd F.apart key hk hkey P a cap l hby hP (by omega) (XL D V key false l) (fun w' h1 h2 h3=>XM w' bs bd S D h1 h2 F.apart hr0 (by omega) hps hfu hbig V F.few hrest key hkey false P a cap l (fun h=>(nomatch h)) h3 hP (by omega) hc1 hc2)).mono ?_
    rintro e w' ⟨v,c,D',h1,⟨kk,hk0,hk1,hq⟩,⟨S',h2,h3⟩,h4,h5⟩
    rcases hq with⟨rfl,rfl,hfit,rfl⟩|⟨rfl,rfl,bs',hbl,hrs,rfl⟩
    ·exact⟨_,S',6,0,some bd,h1,⟨h2,h3,h4,h5,by show D.reads≤D.reads+kk;omega,by show D.reads+kk≤D.reads+40;omega,rfl,hfu⟩,⟨.inr (.inr (.inl ⟨rfl,rfl,rfl,⟨hps,hrest,hbig⟩,hfit⟩))⟩,rfl⟩
    ·exact⟨_,S',0,V.n0+1,some bd,h1,⟨h2,h3,h4,h5,by show D.reads≤D.reads+kk;omega,by show D.reads+kk≤D.reads+40;omega,hbl,hfu⟩,⟨.inr (.inl ⟨rfl,rfl,rfl,⟨hps,hrs,by show 64≤bs'.length;omega⟩⟩)⟩,rfl⟩
 shut:=fun w bs key a n cap hs hk hn=>by
  have hs':zx w bs 0 none:=hs
  cases hkey:zr key.data.toList with
  |false=>exact(Ze w bs none hs' key hk hkey a n cap).mono (fun e w' ⟨h1,h2,h3⟩=>⟨h1,h2,h3⟩)
  |true=>
   by_cases hbig3:300<n
   ·have hput:jT true n=3:=if_pos hbig3
    rw [hput]
    exact(Zf w bs none hs' key hk hkey a n cap hbig3).mono (fun e w' ⟨h1,h2,h3⟩=>⟨h1,h2,h3⟩)
   ·have hput:jT true n=0:=if_neg hbig3
    rw [hput]
    exact(YC w bs hs' key hk hkey a n cap (by omega)).mono (fun e w' ⟨h1,h2,h3⟩=>⟨h1,h2,h3⟩)
end prog
namespace prog
open Go.RowKit disk ref
open law (qz ze qU x8 yB vZ Ql zY vU)
open keys (zr)
theorem cD(p k:ByteArray)(n m:Int):yn p k n m=0∨yn p k n m=2∨yn p k n m=4:=by
 unfold yn
 split
 ·exact .inr (.inl rfl)
 ·split
  ·exact .inr (.inr rfl)
  ·exact .inl rfl
theorem gN.veV{bs:List (List Value)}{V:qz}{tree n:Nat}{m:List UInt8}{es:List En}{bl:List Nat}{bo:Pl→List zy}(h:gN bs V tree n m es bl bo):∀l:List En,(∀x∈l,x∈es)→xT l=zY (l.map (yx bo)):=fun l hl=>by
 unfold xT zY
 rw [List.map_map]
 congr 1
 refine List.map_congr_left (fun x hx=>?_)
 have hb:=(h.body x (hl x hx)).size
 show prog.veV x=Ql (yx bo x)
 unfold prog.veV Ql yx
 simp only [hb]
theorem YL:yB Xc where
 live:=fun w bd bs S D V p k n m F hp hk hn hm=>by
  have hfu:D.fuse= -1:=F.fuse
  have hs:zx w bs 0 (some bd):=F.sto
  have hd:=F.disk
  have hps:=F.live.ps
  obtain⟨tree,n0,mm,es,bl,bo,R⟩:=F.live.rest
  have hr0:=F.reads0
  have hr1:=F.reads1
  have live':∀r:Int,Xc.Live {D with reads:=r} V:=fun r=>⟨hps,⟨tree,n0,mm,es,bl,bo,R⟩,F.live.big⟩
  by_cases hc:yn p k n m=0
  ·have hcase:=vd p k n m
   rw [hc] at hcase
   have hroot:q8 (D.look 1) tree n0:=by have:=R.root;rw [←yL hps] at this;exact this
   have hfor:qw (fun j=>D.look (j:Nat)) tree es bl:=R.forest.congr (fun j _=>yL hps j)
   have hlow:∀j∈bl,21≤j:=fun j hj=>(R.range j (List.mem_append_left _ hj)).1
   have hn0:V.n0≤2305843009213693952:=F.few
   have hkey:∀x∈es,x.pl.key≠ByteArray.empty∧x.pl.num<9223372036854775807:=fun x hx=>by
    have h1:=R.low x hx
    refine⟨fun e=>?_,?_⟩
    ·have:=h1.2.2.2
     rw [e] at this
     exact absurd this (by decide)
    ·have:=h1.2.2.1
     have:=R.n0
     omega
   have hls:=dU R.forest.six.2.2 (yx bo) (fun x=>⟨rfl,rfl⟩) V.vs R.vers p k n hkey
   have hsub:∀x∈dS p k n es,x∈es:=fun x hx=>(List.mem_filter.1 ((List.takeWhile_sublist _).subset hx)).1
   refine(Qh w bs bd S D hs hd F.apart hr0 (by omega) tree n0 hroot p k n m hp hk hn.2 hcase es bl hfor R.len hlow (fun x hx=>by
    have h8:=(fv (R.low x hx).2.2.2).2.1
    have h9:x.pl.key.data.toList.length=x.pl.key.size:=by simp
    omega) _ rfl).mono ?_
   rintro e w' ⟨⟨a,c,h1,hown,hfr⟩,h2,⟨r,h3,h4,h5⟩,h6⟩
   rw [hc]
   refine⟨{D with reads:=r},S,_,_,h1,⟨h5,fun _ h=>.inl h,h2,h6.mono (fun j hj=>hj.elim (fun e=>.inl (by rw [e];exact hd.bdS)) .inr),h3,h4,rfl,hfu⟩,live' r,fun _=>⟨_,hls,?_,a,c,?_,?_,?_⟩,fun h=>absurd rfl h,fun j hj hS=>?_⟩
   ·simp
   ·rw [←List.map_take,List.length_map]
   ·rw [←List.map_take,List.length_map,←R.veV _ (fun x hx=>hsub x (List.mem_of_mem_take hx))]
    exact hown
   ·rw [←List.map_take,List.length_map];exact hfr
   ·have:=hfr j hj;have:=hd.lt j hS;omega
  ·refine(gM w bs (some bd) hs p k n m hp hk _ _ (vd p k n m) (.inl ⟨hc,rfl⟩)).mono ?_
   rintro e w' ⟨h1,h2,h3⟩
   exact⟨D,S,_,_,h1,⟨hd.kept h3 (fun j hj e=>F.apart (by rw [←show j=bs from e];exact hj)),fun _ h=>.inl h,h2,h3.mono (fun _ h=>.inr h),Int.le_refl _,by omega,rfl,hfu⟩,F.live,fun h=>absurd h hc,fun _=>⟨rfl,rfl⟩,fun j hj=>by cases hj⟩
 shut:=fun w bs p k n m hs hp hk=>by
  have hs':zx w bs 0 none:=hs
  have hcc:(yn p k n m≠0∧vU true (yn p k n m)=yn p k n m)∨(yn p k n m=0∧(none:Option Nat)=none∧vU true (yn p k n m)=8):=by
   rcases cD p k n m with h|h|h
   ·rw [h];exact .inr ⟨rfl,rfl,rfl⟩
   ·rw [h];exact .inl ⟨by decide,rfl⟩
   ·rw [h];exact .inl ⟨by decide,rfl⟩
  exact gM w bs none hs' p k n m hp hk _ _ (vd p k n m) hcc
end prog
namespace twice
open Go.ChangeShapes Go.WideShapes Go.ChangeAt Go.RowKit
open disk ref law keep
theorem own:ownKnob Tryz.prog.godebug=none:=by kernel_rfl
theorem bf:laidOutB Tryz.prog=true:=by kernel_rfl
theorem walk(W:World)(a:Option Addr)(cap:Nat)(ods:List fS)(h:YS W (fun k=>k<W.heap.size) a ods)(hlen:ods.length≤2000000000000)(a1:Option Addr)(c1:Nat)(l1:List Bool)(h1:vp W (fun k=>k<W.heap.size) a1 l1)(hl1:l1.length≤140737488355326):
 Calls Tryz.prog 12 #[.slice a ods.length cap,.slice a1 l1.length c1] W fun e w'=>e=.returned (.bool true)∧za (fun _=>False) W w':=
 ZB prog.Xc prog.YK prog.Xd prog.Xu prog.YL (fun f hf=>by have h1:f= -1:=hf;omega) W (fun k=>k<W.heap.size) (fun _ h=>h) a cap ods h hlen a1 c1 l1 h1 hl1
set_option maxRecDepth 100000 in
theorem YM(H:Type)(enc:TypeId×Value→H)(W:World)(base:Nat)(args:Array Value)(ds gs:List (DataW H))(before:List MemPlace)
 (hval:∀(j:Nat) t v,Tryz.f12.params[j]? =some t→args[j]? =some v→Value.okWide Tryz.prog W .any base t v)
 (hW:DataW.Whole enc Tryz.prog Tryz.f12.params.toList Rows.twiceSpec.vars false W args.toList ds gs before)
 (hreach:(DataW.weightsEach Tryz.prog (Tryz.f12.params.toList++(OpenSpec.ofChange Rows.twiceSpec).bare.plain.varTypes Tryz.prog) (ds++gs)).all (· ≤reachBytes)=true):
 Calls Tryz.prog 12 args W fun e W'=>∃v,e=.returned v∧Rows.twiceSpec.post enc Tryz.prog Tryz.f12 false true false false W args v W':=by
 have hW':=hW
 have hlt:=fun p hp=>hW.lt p hp
 obtain⟨p,q,hA0,hV,rfl,hfz,hnd⟩:=hW
 have hA:DataW.TrodAll enc Tryz.prog W 0 (fun _=>true) true Tryz.f12.params.toList args.toList ds p:=hA0
 rw [Tryz.params12] at hA hval hreach
 obtain⟨v0,vs0,d0,ds0,p0,q0,hargs,rfl,rfl,t0,r0⟩:=trodAll_cons hA
 obtain⟨v1,vs1,d1,ds1,p1,q1,rfl,rfl,rfl,t1,r1⟩:=trodAll_cons r0
 obtain⟨rfl,rfl,rfl⟩:=trodAll_nil r1
 obtain rfl:args=#[v0,v1]:=by cases args;simp_all
 obtain⟨rfl,rfl⟩:=trodVars_none hV
 obtain⟨a0,len0,c0,rfl⟩:=okWide_slice Tryz.underlying26 (hval 0 26 v0 rfl rfl)
 obtain⟨a1,len1,c1,rfl⟩:=okWide_slice Tryz.underlying39 (hval 1 39 v1 rfl rfl)
 have u0:=t0
 obtain⟨fuel0,hf0⟩:=t0
 have hw0:(d0.weights Tryz.prog 26).all (· ≤reachBytes)=true:=List.all_eq_true.2 (fun n hn=>List.all_eq_true.1 hreach n (DataW.weights_mem_each (j:=0) rfl rfl n hn))
 obtain⟨ods,rfl,hscr,hl⟩:=QO hf0 hw0
 have u1:=t1
 obtain⟨fuel1,hf1⟩:=t1
 have hw1:(d1.weights Tryz.prog 39).all (· ≤reachBytes)=true:=List.all_eq_true.2 (fun n hn=>List.all_eq_true.1 hreach n (DataW.weights_mem_each (j:=1) rfl rfl n hn))
 obtain⟨l1,e1,b1,z1⟩:=bI hf1 hw1
 subst e1
 clear hA0
 simp only [List.append_nil] at hW' hlt
 refine(walk W a0 c0 ods hscr hl a1 c1 l1 b1 z1).mono fun e W' ⟨he,hk⟩=>?_
 subst he
 have bel:Below W.heap.size W W':=hk.below fE (Nat.le_refl _)
 have hsame:∀x∈p0++(p1),W.sameAt W' x:=fun x hx=>by
  have hb:=hlt x hx
  cases x with
  |cell b o=>exact World.cell?_of_block (w:=W) (bel.block b hb)
  |map b=>exact bel.block b hb
 refine⟨_,rfl,[d0,d1],[],p0++(p1),[],p0++(p1),[],hW',?_,?_,rfl,bel.frame _,fun h=>by cases h⟩
 ·exact trodAll_mk1 (shut_bool Tryz.underlying4 _)
 ·exact trodAll_mk2 (WideElems.Trod_stays (P:=Tryz.prog) bf (by kernel_rfl) (of_decide_eq_true (by kernel_rfl)) u0 (fun x hx=>hsame x (List.mem_append_left _ hx)) (fun x hx=>by simpa using hlt x (List.mem_append_left _ hx))) (WideElems.Trod_stays (P:=Tryz.prog) bf (by kernel_rfl) (of_decide_eq_true (by kernel_rfl)) u1 (fun x hx=>hsame x (List.mem_append_right _ hx)) (fun x hx=>by simpa using hlt x (List.mem_append_right _ hx)))
noncomputable def jy(os:Os):World:=
 let w0:=World.holding Tryz.prog os ⟨#[],#[],[]⟩
 let put (h:Array Obj) (g:Nat) (cs:Array Value):Array Obj:=h.modify g fun
  |.cells _ t frozen=>.cells cs t frozen
  |o=>o
 let h1:=put w0.heap 1 (Lib.firstTab.map fun z=>Value.int .u8 z).toArray
 let h2:=put h1 2 ((List.range 16).flatMap fun i=>[Value.int .u8 (Lib.accLo i),Value.int .u8 (Lib.accHi i)]).toArray
 {w0 with heap:=h2}
theorem YN(os:Os)(args:Array Value):laidMet Tryz.prog Rows.twiceRow.laid ((jy os).forCall (fun _ _=>0) ⟨#[],args,[]⟩).memory:=
 (LaidIn.of_run (l:=[("unicode/utf8.acceptRanges",Rows.laid_unicode_utf8_acceptRanges),("unicode/utf8.first",Rows.laid_unicode_utf8_first)]) [2,1] 8 (by kernel_rfl) (by kernel_rfl) (by kernel_rfl) (by kernel_rfl)).met
theorem bg(os:Os){H:Type}(enc:TypeId×Value→H):
 (OpenSpec.ofChange Rows.twiceSpec).preRow enc Tryz.prog Tryz.f12 Rows.twiceRow.domain false Rows.twiceRow.laid ((jy os).forCall (fun _ _=>0) ⟨#[],#[.slice none 0 0,.slice none 0 0],[]⟩).memory #[.slice none 0 0,.slice none 0 0]:=by
 have hw:(DataW.whole enc Tryz.prog ((jy os).forCall (fun _ _=>0) ⟨#[],#[.slice none 0 0,.slice none 0 0],[]⟩).memory Tryz.f12.params.toList Rows.twiceSpec.vars false #[Value.slice none 0 0,Value.slice none 0 0].toList 8).map (fun x=>(x.1,x.2.1))=
  some ([.nil,.nil],[]):=by kernel_rfl
 obtain⟨⟨x1,x2,x3⟩,hx,hx1⟩:=Option.map_eq_some_iff.1 hw
 simp only [Prod.mk.injEq] at hx1
 obtain⟨rfl,rfl⟩:=hx1
 exact OpenSpec.preRow_of_cond 8 hx (by kernel_rfl) (fun k hk=>by cases hk) (by kernel_rfl) (YN os _)
set_option maxRecDepth 100000 in
theorem Xv(os:Os)(started:os.Started)(H:Type)(enc:TypeId×Value→H)(F:Stop.Interp):
 ReturnsInHanded {} Tryz.checked os 12 .any ((OpenSpec.ofChange Rows.twiceSpec).preRow enc Tryz.prog Tryz.f12 Rows.twiceRow.domain false Rows.twiceRow.laid) (((OpenSpec.ofChange Rows.twiceSpec).at F).post enc Tryz.prog Tryz.f12 false true false false):=by
 refine returnsInHanded_of_row (C:=Tryz.checked) (s:=OpenSpec.ofChange Rows.twiceSpec) own started (by kernel_rfl) Tryz.func12
  (witness_row_at (enc:=enc) (C:=Tryz.checked) false (jy os) #[.slice none 0 0,.slice none 0 0] rfl (by kernel_rfl) (by kernel_rfl) (by kernel_rfl) (bg os enc)) ?_
 intro W base args ds gs before hval hW _ _ hreach hL _ _
 exact YM H enc W base args ds gs before hval hW hreach
theorem XX:Rows.TwiceSaid:=
 OpenClaim.holds_of_cond 12 Tryz.f12 rfl rfl rfl rfl rfl rfl rfl ⟨rfl,rfl,rfl,rfl,rfl⟩ rfl rfl rfl rfl rfl (by kernel_rfl) Tryz.func12 (by kernel_rfl)
  (of_decide_eq_true (by kernel_rfl)) (by unfold Func.isWrapper;first|(rw [if_pos (by decide+kernel)];kernel_rfl)|(rw [if_neg (by decide+kernel)];exact⟨rfl,rfl⟩))
  (fun os started H enc _ F=>by rw [OpenClaim.pre_eq_preRow];exact Xv os started H enc F)
theorem plain(f:FuncId)(fn:Func)(hf:Tryz.pinned.checked.prog.funcNamed "cairn/cairnkeep.Twice" =some f)(hfn:Tryz.pinned.checked.prog.funcs[f]? =some fn):
 false=Tryz.pinned.checked.prog.looks []∧∀(j:Nat) t,fn.params[j]? =some t→Tryz.pinned.checked.prog.wantsStandIn t=false:=by
 obtain rfl:f= 12:=Option.some.inj ((show Tryz.prog.funcNamed "cairn/cairnkeep.Twice" =some 12 by kernel_rfl).symm.trans hf) |>.symm
 obtain rfl:fn=Tryz.f12:=(Option.some.inj (Tryz.func12.symm.trans hfn)).symm
 refine⟨by kernel_rfl,fun j t ht=>?_⟩
 rw [Tryz.params12] at ht
 have ht':t= 26∨t= 39:=by simpa using Array.mem_of_getElem? ht
 rcases ht' with rfl|rfl
 ·exact(show Tryz.prog.wantsStandIn 26=false by kernel_rfl)
 ·exact(show Tryz.prog.wantsStandIn 39=false by kernel_rfl)
theorem card:Rows.TwiceCardSaid:=
 Claim7.holds_tied_plain_at .later [] _ _ _ _ XX (fun _ h=>by cases h) (by kernel_rfl) (fun _ h=>by cases h) twice_row_tie rfl ⟨rfl,rfl⟩ (by kernel_rfl) rfl plain (by kernel_rfl)
end twice
theorem twice_holds:Rows.TwiceCardSaid:=twice.card
end Go.Proofs.YtcoengihaobddaaGreatDoor
