/- Part 32 of 34 of a proof: Rep1, Rep2, Mng1, Mng2, Fall1 -/
import Derived.Test.YtcoengihaobddaaGreatDoorJk27
set_option maxHeartbeats 8000000
set_option linter.unusedVariables false
set_option linter.unusedSimpArgs false
set_option maxRecDepth 8000
namespace Go.Proofs.YtcoengihaobddaaGreatDoor
open Go.RowKit disk ref
namespace prog
open law (qe)
open keys (zu)
def b8(bs:List (List Value))(j:Nat):List Value:=Dk.look ⟨bs,[], -1,0⟩ (j:Nat)
theorem yF{D:Dk}(hp:D.ps=[])(j:Nat):D.look (j:Nat)=b8 D.bs j:=by unfold b8 Dk.look;rw [hp]
def qV(es:List En)(bo:Pl→List zq):List Nat:=(es.map fun x=>(bo x.pl).map zq.at_).flatten
def xo(bo:Pl→List zq)(x:En):qa:=⟨x.pl.key,x.pl.num,x.mark,((bo x.pl).map zq.l).flatten⟩
structure Kh (rd:Nat→List Value) (bo:Pl→List zq) (x:En):Prop where
 chain:yp rd (bo x.pl)
 head:yA (bo x.pl)=x.at_
 size:((bo x.pl).map zq.l).flatten.length=x.size
 few:(bo x.pl).length≤(x.size+99)/100
structure fS (bs:List (List Value)) (V:qe) (tree n:Nat) (m:List UInt8) (es:List En) (bl:List Nat) (bo:Pl→List zq):Prop where
 few:bs.length≤1000
 root:yu (b8 bs 1) tree n
 n0:V.n0=n
 map:qn (b8 bs 2) m
 forest:ya (b8 bs) tree es bl
 body:∀x∈es,Kh (b8 bs) bo x
 nodup:(bl++qV es bo).Nodup
 range:∀j∈bl++qV es bo,21≤j∧j<bs.length
 taken:∀i,i+21<bs.length→(zO m i=true↔i+21∈bl++qV es bo)
 vers:V.vs.Perm (es.map (xo bo))
 head:∃p:Pg,p.Ok∧b8 bs 0=zl p∧p.items.length=0
 good:law.Good V
theorem jr:∀(l r:List Nat),l.Nodup→(∀x∈l,x∈r)→l.length≤r.length
 |[],_,_,_=>by simp
 |a::l,r,hn,hs=>by
  rw [List.nodup_cons] at hn
  have h1:=jr l (r.erase a) hn.2 (fun x hx=>(List.mem_erase_of_ne (show x≠a from fun e=>hn.1 (e▸hx))).2 (hs x (List.mem_cons_of_mem _ hx)))
  have ha:=hs a (List.mem_cons_self ..)
  have hp:=List.length_pos_of_mem ha
  rw [List.length_erase_of_mem ha] at h1
  rw [List.length_cons]
  omega
theorem uz{l:List Nat}{N:Nat}(hn:l.Nodup)(hr:∀j∈l,21≤j∧j<N):l.length≤N-21:=by
 have:=jr l (List.range' 21 (N-21)) hn (fun x hx=>by rw [List.mem_range'_1];have:=hr x hx;omega)
 simpa using this
theorem ZY{h:Nat}:∀(cs:List (Pl×Tr h)),(∀c∈cs,c.2.ents.length≤6*c.2.blocks.length)→(zJ cs).length≤6*(zA cs).length
 |[],_=>by simp [zA,zJ]
 |c::cs,hc=>by
  have h1:=hc c (List.mem_cons_self ..)
  have h2:=ZY cs (fun x hx=>hc x (List.mem_cons_of_mem _ hx))
  rw [qt,zo,List.length_append,List.length_append]
  omega
theorem Tr.Good.six:∀{h:Nat} {t:Tr h},t.Good→t.items.length≤6→t.ents.length≤6*t.blocks.length
 |0,t,_,hl=>by show t.2.length≤6*1;have h2:t.2.length=t.items.length:=rfl;omega
 |h+1,t,g,hl=>by
  have:=ZY t.2 (fun c hc=>(g.kids.good c hc).1.six (g.kids.good c hc).2.1)
  rw [Tr.blocks_succ,Tr.ents_succ,List.length_cons]
  omega
theorem ya.six{rd:Nat→List Value}{root:Nat}{es:List En}{bs:List Nat}(h:ya rd root es bs):es.length≤6*bs.length∧2*bs.length≤es.length+1∧yg es:=by
 rcases h with⟨rfl,rfl,rfl⟩|⟨h,t,hr,hl,rfl,rfl,rfl⟩
 ·exact⟨by simp,by simp,List.Pairwise.nil⟩
 ·exact⟨hr.good.six hr.hi,hr.few,hr.srt⟩
theorem ya.congr{rd rd':Nat→List Value}{root:Nat}{es:List En}{bs:List Nat}(h:ya rd root es bs)(e:∀j∈bs,rd' j=rd j):ya rd' root es bs:=by
 rcases h with h|⟨h,t,hr,hl,rfl,rfl,rfl⟩
 ·exact .inl h
 ·exact .inr ⟨h,t,hr,hl.congr e,rfl,rfl,rfl⟩
theorem Z0{rd:Nat→List Value}{bo:Pl→List zq}:∀(es:List En),(∀x∈es,Kh rd bo x)→es.length+(qV es bo).length≤weight (es.map (xo bo))
 |[],_=>by simp [qV]
 |x::es,h=>by
  have h1:=h x (List.mem_cons_self ..)
  have h2:=Z0 es (fun y hy=>h y (List.mem_cons_of_mem _ hy))
  have h3:=h1.few
  have h4:weight ((x::es).map (xo bo))=qr x.size+weight (es.map (xo bo)):=by
   unfold weight
   rw [List.map_cons,List.map_cons,List.sum_cons]
   show qr ((bo x.pl).map zq.l).flatten.length+_=_
   rw [h1.size]
  have h5:(qV (x::es) bo).length=(bo x.pl).length+(qV es bo).length:=by simp [qV]
  rw [h4,h5,List.length_cons]
  unfold qr
  omega
theorem fS.len{bs:List (List Value)}{V:qe}{tree n:Nat}{m:List UInt8}{es:List En}{bl:List Nat}{bo:Pl→List zq}(h:fS bs V tree n m es bl bo):bl.length≤979:=by
 have h1:=uz h.nodup h.range
 have:=h.few
 rw [List.length_append] at h1
 omega
theorem vT{es:List En}{bo:Pl→List zq}{j:Nat}:j∈qV es bo↔∃x∈es,j∈(bo x.pl).map zq.at_:=by
 unfold qV
 rw [List.mem_flatten]
 constructor
 ·rintro⟨l,hl,hj⟩
  obtain⟨x,hx,rfl⟩:=List.mem_map.1 hl
  exact⟨x,hx,hj⟩
 ·rintro⟨x,hx,hj⟩
  exact⟨_,List.mem_map.2 ⟨x,hx,rfl⟩,hj⟩
theorem fS.low{bs:List (List Value)}{V:qe}{tree n:Nat}{m:List UInt8}{es:List En}{bl:List Nat}{bo:Pl→List zq}(h:fS bs V tree n m es bl bo):∀x∈es,(¬x.pl.lt qQ=true)∧1≤x.pl.num∧x.pl.num≤n∧zu x.pl.key.data.toList=true:=fun x hx=>by
 have hv:xo bo x∈V.vs:=h.vers.mem_iff.2 (List.mem_map.2 ⟨x,hx,rfl⟩)
 have hk:=h.good.key _ hv
 have hm:=h.good.num _ hv
 rw [h.n0] at hm
 refine⟨fun hc=>?_,hm.1,hm.2,hk⟩
 rw [Pl.lt_iff] at hc
 have hne:zu (qQ.key).data.toList=false:=by decide
 rcases hc with hc|⟨hc,_⟩
 ·have h2:∀k:ByteArray,y6 k qQ.key=false:=by
   intro k
   show yv k.data.toList []=false
   cases k.data.toList<;>rfl
  rw [h2] at hc;cases hc
 ·have hk2:zu x.pl.key.data.toList=true:=hk
  rw [hc,hne] at hk2;cases hk2
structure jX (D:Dk) (V:qe) (tree n:Nat) (m:List UInt8) (es:List En) (bl:List Nat) (bo:Pl→List zq) (key:ByteArray) (mark:Bool) (l:List UInt8) (f:Nat) (C1:Ck) (m1:List UInt8) (nb1:List Nat) (root':Nat) (C2:Ck) (m2:List UInt8) (pb nb:List Nat):Prop where
 rep:fS D.bs V tree n m es bl bo
 ps:D.ps=[]
 big:64≤D.bs.length
 body:Zy D vd C1 m m1 f (zx l) nb1
 ins:vI D C1 C2 m1 m2 root' ⟨⟨key,(n:Int)+1⟩,mark,l.length,f⟩ es bl pb nb
 key:zu key.data.toList=true
 len:l.length≤300
 bare:mark=true→l=[]
 num:n<4611686018427387904
section
variable {D:Dk} {V:qe} {tree n:Nat} {m:List UInt8} {es:List En} {bl:List Nat} {bo:Pl→List zq} {key:ByteArray} {mark:Bool} {l:List UInt8} {f:Nat} {C1:Ck} {m1:List UInt8} {nb1:List Nat} {root':Nat} {C2:Ck} {m2:List UInt8} {pb nb:List Nat}
theorem jX.old(h:jX D V tree n m es bl bo key mark l f C1 m1 nb1 root' C2 m2 pb nb){j:Nat}(hj:j∈bl++qV es bo):zO m (j-21)=true∧zO m1 (j-21)=true∧j∉nb1∧j∉nb:=by
 have hr:=h.rep.range j hj
 have h1:zO m (j-21)=true:=(h.rep.taken (j-21) (by omega)).2 (by rw [show j-21+21=j from by omega];exact hj)
 have h2:=h.body.stp.grew.keeps h1
 exact⟨h1,h2,h.body.stp.grew.apart h1,h.ins.stp.grew.apart h2⟩
theorem jX.mid(h:jX D V tree n m es bl bo key mark l f C1 m1 nb1 root' C2 m2 pb nb){j:Nat}(hj:j∈nb1):21≤j∧j<D.bs.length∧j∉bl++qV es bo∧j∉nb:=by
 have hf:=h.body.stp.grew.fresh j hj
 refine⟨hf.1,hf.2.1,fun hc=>(h.old hc).2.2.1 hj,?_⟩
 refine h.ins.stp.grew.apart ?_
 rw [h.body.stp.grew.taken,show j-21+21=j from by omega]
 simp [hj]
theorem jX.new(h:jX D V tree n m es bl bo key mark l f C1 m1 nb1 root' C2 m2 pb nb){j:Nat}(hj:j∈nb):21≤j∧j<D.bs.length:=by
 have hf:=h.ins.stp.grew.fresh j hj
 exact⟨hf.1,hf.2.1⟩
theorem jX.keys(h:jX D V tree n m es bl bo key mark l f C1 m1 nb1 root' C2 m2 pb nb)(hf:C2.full=false):∀k∈(C2.put 1 (zl (zp root' (n+1)))).keys,k∈[1,2]++(nb1++(pb++nb)):=fun k hk=>by
 have hf1:C1.full=false:=by
  cases h1:C1.full with
  |false=>rfl
  |true=>rw [h.ins.stp.full h1] at hf;cases hf
 rcases (yI C2 1 _ k).1 hk with h1|h1
 ·rcases h.ins.stp.keys k h1 with h1|h1|h1|h1|h1
  ·rcases h.body.stp.keys k h1 with h1|h1|h1|h1|h1
   ·exact nomatch h1
   ·exact nomatch h1
   ·simp [h1]
   ·simp [h1]
   ·rw [hf1] at h1;exact nomatch h1.2
  ·simp [h1]
  ·simp [h1]
  ·simp [h1]
  ·rw [hf] at h1;exact nomatch h1.2
 ·simp [h1]
theorem jX.klt(h:jX D V tree n m es bl bo key mark l f C1 m1 nb1 root' C2 m2 pb nb)(hf:C2.full=false):∀k∈(C2.put 1 (zl (zp root' (n+1)))).keys,k<D.bs.length:=fun k hk=>by
 have:=h.keys hf k hk
 have hb:=h.big
 rcases List.mem_append.1 this with h1|h1
 ·simp at h1;omega
 ·rcases List.mem_append.1 h1 with h1|h1
  ·exact(h.mid h1).2.1
  ·rcases List.mem_append.1 h1 with h1|h1
   ·exact(h.rep.range k (List.mem_append_left _ (h.ins.sub k h1))).2
   ·exact(h.new h1).2
theorem KP{h:Nat}(h3:3^h≤979):h≤6:=by
 rcases Nat.lt_or_ge 6 h with h7|h7
 ·have:3^7≤3^h:=Nat.pow_le_pow_right (by omega) h7
  omega
 ·exact h7
theorem jX.fits(h:jX D V tree n m es bl bo key mark l f C1 m1 nb1 root' C2 m2 pb nb)(hfit:xT V.vs (qr l.length) D.bs.length=true):((C2.put 1 (zl (zp root' (n+1)))).full||decide (18<(C2.put 1 (zl (zp root' (n+1)))).ws.length))=false:=by
 have hnl:=h.body.nl
 rw [yB] at hnl
 have hlen:=h.len
 cases hf:C2.full with
 |true=>
  exfalso
  have hall:=h.ins.chn.full hf
  have h1:=jr (List.range' 21 (D.bs.length-21)) ((bl++qV es bo)++(nb1++nb)) List.nodup_range' (fun x hx=>by
   rw [List.mem_range'_1] at hx
   have hx1:=hall (x-21) (by omega)
   rw [h.ins.stp.grew.taken,h.body.stp.grew.taken,show x-21+21=x from by omega] at hx1
   simp only [Bool.or_eq_true,decide_eq_true_eq] at hx1
   rcases hx1 with(hx1|hx1)|hx1
   ·have:=(h.rep.taken (x-21) (by omega)).1 hx1
    rw [show x-21+21=x from by omega] at this
    exact List.mem_append_left _ this
   ·exact List.mem_append_right _ (List.mem_append_left _ hx1)
   ·exact List.mem_append_right _ (List.mem_append_right _ hx1))
  rw [List.length_range',List.length_append,List.length_append,List.length_append] at h1
  have h2:=h.rep.forest.six.2.1
  have h3:=h.ins.nl
  have h4:=Z0 es h.rep.body
  rw [←cq h.rep.vers] at h4
  unfold xT qr at hfit
  simp only [decide_eq_true_eq] at hfit
  omega
 |false=>
  rw [qz,hf,Bool.false_or,decide_eq_false_iff_not]
  obtain⟨bl',hF,hp,hh,hc1,hc2⟩:=h.ins.tree hf
  have h1:=jr _ _ (yt h.ins.chn.nodup 1 (zl (zp root' (n+1)))) (h.keys hf)
  rw [Ck.keys_len] at h1
  simp only [List.length_append,List.length_cons,List.length_nil] at h1
  have hbl:bl'.length≤979:=by
   have:=uz (l:=bl') (N:=D.bs.length) (hp.nodup_iff.2 (List.nodup_append.2 ⟨(List.nodup_append.1 h.rep.nodup).1,h.ins.stp.grew.nodup,fun a ha b hb e=>(h.old (List.mem_append_left _ ha)).2.2.2 (e▸hb)⟩)) (fun j hj=>by
    rcases List.mem_append.1 (hp.mem_iff.1 hj) with hj|hj
    ·exact h.rep.range j (List.mem_append_left _ hj)
    ·exact h.new hj)
   have:=h.rep.few
   omega
  have:=KP (Nat.le_trans hc2 hbl)
  omega
theorem b9(hp:D.ps=[]){ws:List (Nat×List Value)}{j:Nat}:b8 (vi D.bs ws) j=Dk.look {D with bs:=vi D.bs ws} (j:Nat):=by
 unfold b8 Dk.look
 rw [hp]
theorem jX.rest(h:jX D V tree n m es bl bo key mark l f C1 m1 nb1 root' C2 m2 pb nb)(hnf:((C2.put 1 (zl (zp root' (n+1)))).full||decide (18<(C2.put 1 (zl (zp root' (n+1)))).ws.length))=false):∃bl' bo',fS (vi D.bs (C2.put 1 (zl (zp root' (n+1)))).ws) (V.add key mark l) root' (n+1) m2 (yb ⟨⟨key,(n:Int)+1⟩,mark,l.length,f⟩ es) bl' bo':=by
 simp only [Bool.or_eq_false_iff,decide_eq_false_iff_not,qz] at hnf
 obtain⟨hf,h18⟩:=hnf
 have hf1:C1.full=false:=by
  cases h1:C1.full with
  |false=>rfl
  |true=>rw [h.ins.stp.full h1] at hf;cases hf
 obtain⟨bl',hF,hp,_⟩:=h.ins.tree hf
 obtain⟨ps,c1,c2,c3,c4⟩:=h.body.chain hf1
 have hbig:=h.big
 have hkn:=yt h.ins.chn.nodup 1 (zl (zp root' (n+1)))
 have look:∀j:Nat,j≠0→(j<3∨21≤j)→b8 (vi D.bs (C2.put 1 (zl (zp root' (n+1)))).ws) j=(C2.put 1 (zl (zp root' (n+1)))).look D (j:Nat):=fun j h0 hj=>by
  rw [b9 h.ps]
  exact Zp h.ps hkn (by omega) (h.klt hf) h0 hj
 have look2:∀j:Nat,j≠0→j≠1→(j<3∨21≤j)→b8 (vi D.bs (C2.put 1 (zl (zp root' (n+1)))).ws) j=C2.look D (j:Nat):=fun j h0 h1 hj=>by
  rw [look j h0 hj,zW _ _ _ _ _ (by omega)]
 have hne:∀x∈es,x.pl≠⟨key,(n:Int)+1⟩:=fun x hx e=>by
  have:=(h.rep.low x hx).2.2.1
  rw [e] at this
  simp only at this
  omega
 refine⟨bl',fun p=>if p=⟨key,(n:Int)+1⟩ then ps else bo p,?_⟩
 have hbo:∀x∈es,(fun p=>if p=(⟨key,(n:Int)+1⟩:Pl) then ps else bo p) x.pl=bo x.pl:=fun x hx=>if_neg (hne x hx)
 have hboe:(fun p=>if p=(⟨key,(n:Int)+1⟩:Pl) then ps else bo p) ⟨key,(n:Int)+1⟩=ps:=if_pos rfl
 generalize (fun p=>if p=(⟨key,(n:Int)+1⟩:Pl) then ps else bo p)=bo' at*
 have hbods0:qV es bo'=qV es bo:=by
  unfold qV
  congr 1
  exact List.map_congr_left (fun x hx=>by rw [hbo x hx])
 have hbods:(qV (yb ⟨⟨key,(n:Int)+1⟩,mark,l.length,f⟩ es) bo').Perm (nb1++qV es bo):=by
  have h1:(qV (yb ⟨⟨key,(n:Int)+1⟩,mark,l.length,f⟩ es) bo').Perm (qV (⟨⟨key,(n:Int)+1⟩,mark,l.length,f⟩::es) bo'):=((jj _ es).map _).flatten
  have h2:qV (⟨⟨key,(n:Int)+1⟩,mark,l.length,f⟩::es) bo'=ps.map zq.at_++qV es bo:=by
   rw [←hbods0]
   unfold qV
   rw [List.map_cons,List.flatten_cons,hboe]
  rw [h2] at h1
  exact h1.trans (c4.append_right _)
 have hall:(bl'++qV (yb ⟨⟨key,(n:Int)+1⟩,mark,l.length,f⟩ es) bo').Perm ((bl++qV es bo)++(nb1++nb)):=by
  refine(hp.append hbods).trans ?_
  rw [List.append_assoc,List.append_assoc]
  refine List.Perm.append_left bl ?_
  have e1:(nb++(nb1++qV es bo)).Perm ((nb1++qV es bo)++nb):=List.perm_append_comm
  refine e1.trans ?_
  rw [←List.append_assoc]
  exact List.Perm.append_right nb List.perm_append_comm
 have hmem:∀j,j∈bl'++qV (yb ⟨⟨key,(n:Int)+1⟩,mark,l.length,f⟩ es) bo'↔(j∈bl++qV es bo∨j∈nb1∨j∈nb):=fun j=>by
  rw [hall.mem_iff,List.mem_append (s:=bl++qV es bo),List.mem_append (s:=nb1)]
 have hlow:∀x:Nat,21≤x→x≠0∧x≠1∧(x<3∨21≤x):=fun x hx=>⟨by omega,by omega,.inr hx⟩
 have hflat:(ps.map zq.l).flatten=l:=by rw [c3,Zv]
 have hplen:ps.length=(l.length+123)/124:=by
  have:=congrArg List.length c3
  rw [List.length_map,yB] at this
  exact this
 have hll:=h.len
 refine⟨by rw [xt];exact h.rep.few,?_,?_,?_,?_,?_,?_,?_,?_,?_,?_,?_⟩
 ·have:=look 1 (by omega) (by omega)
  rw [this]
  have h2:(C2.put 1 (zl (zp root' (n+1)))).look D ((1:Nat):Int)=zl (zp root' (n+1)):=qg _ _ _ _
  rw [h2]
  exact⟨.inl rfl,h.ins.lt,by have:=h.num;omega⟩
 ·show V.n0+1=_
  rw [h.rep.n0]
  omega
 ·rw [look2 2 (by omega) (by omega) (by omega)]
  exact h.ins.chn.map
 ·refine hF.congr (fun j hj=>?_)
  have hj2:21≤j:=by
   rcases List.mem_append.1 (hp.mem_iff.1 hj) with hj|hj
   ·exact(h.rep.range j (List.mem_append_left _ hj)).1
   ·exact(h.new hj).1
  obtain⟨a1,a2,a3⟩:=hlow j hj2
  exact look2 j a1 a2 a3
 ·intro x hx
  rcases ji.1 hx with rfl|hx
  ·refine⟨?_,?_,?_,?_⟩
   ·show yp _ (bo' ⟨key,(n:Int)+1⟩)
    rw [hboe]
    refine c1.congr (fun p hpp=>?_)
    have hm1:p.at_∈nb1:=c4.mem_iff.1 (List.mem_map.2 ⟨p,hpp,rfl⟩)
    have hm2:=h.mid hm1
    obtain⟨a1,a2,a3⟩:=hlow p.at_ hm2.1
    rw [look2 _ a1 a2 a3]
    exact h.ins.stp.look _ (fun hc=>hm2.2.2.1 (List.mem_append_left _ (h.ins.sub _ hc))) hm2.2.2.2 (by omega) a1
   ·show yA (bo' ⟨key,(n:Int)+1⟩)=f
    rw [hboe];exact c2
   ·show ((bo' ⟨key,(n:Int)+1⟩).map zq.l).flatten.length=l.length
    rw [hboe,hflat]
   ·show (bo' ⟨key,(n:Int)+1⟩).length≤(l.length+99)/100
    rw [hboe,hplen];omega
  ·have hb:=h.rep.body x hx
   have hx2:=hbo x hx
   refine⟨?_,by rw [hx2];exact hb.head,by rw [hx2];exact hb.size,by rw [hx2];exact hb.few⟩
   rw [hx2]
   refine hb.chain.congr (fun p hpp=>?_)
   have hm1:p.at_∈qV es bo:=vT.2 ⟨x,hx,List.mem_map.2 ⟨p,hpp,rfl⟩⟩
   have hm2:=h.old (List.mem_append_right bl hm1)
   have hm3:=h.rep.range p.at_ (List.mem_append_right _ hm1)
   obtain⟨a1,a2,a3⟩:=hlow p.at_ hm3.1
   have hnp:p.at_∉pb:=fun hc=>(List.nodup_append.1 h.rep.nodup).2.2 _ (h.ins.sub _ hc) _ hm1 rfl
   rw [look2 _ a1 a2 a3,h.ins.stp.look _ hnp hm2.2.2.2 (by omega) a1,h.body.stp.look _ (fun hc=>nomatch hc) hm2.2.2.1 (by omega) a1,yo,yF h.ps]
 ·refine hall.nodup_iff.2 (List.nodup_append.2 ⟨h.rep.nodup,List.nodup_append.2 ⟨h.body.stp.grew.nodup,h.ins.stp.grew.nodup,fun a ha b hb e=>(h.mid ha).2.2.2 (e▸hb)⟩,fun a ha b hb e=>?_⟩)
  rcases List.mem_append.1 hb with hb|hb
  ·exact(h.old ha).2.2.1 (e▸hb)
  ·exact(h.old ha).2.2.2 (e▸hb)
 ·intro j hj
  rw [xt]
  rcases (hmem j).1 hj with hj|hj|hj
  ·exact h.rep.range j hj
  ·exact⟨(h.mid hj).1,(h.mid hj).2.1⟩
  ·exact h.new hj
 ·intro i hi
  rw [xt] at hi
  rw [hmem,h.ins.stp.grew.taken,h.body.stp.grew.taken]
  simp only [Bool.or_eq_true,decide_eq_true_eq]
  rw [h.rep.taken i hi,or_assoc]
 ·show (V.vs++[(⟨key,V.n0+1,mark,l⟩:qa)]).Perm _
  have h1:((yb ⟨⟨key,(n:Int)+1⟩,mark,l.length,f⟩ es).map (xo bo')).Perm ((⟨⟨key,(n:Int)+1⟩,mark,l.length,f⟩::es).map (xo bo')):=(jj _ es).map _
  have h2:(⟨⟨key,(n:Int)+1⟩,mark,l.length,f⟩::es).map (xo bo')=⟨key,V.n0+1,mark,l⟩::es.map (xo bo):=by
   rw [List.map_cons]
   congr 1
   ·show (⟨key,(n:Int)+1,mark,((bo' ⟨key,(n:Int)+1⟩).map zq.l).flatten⟩:qa)=_
    rw [hboe,hflat,h.rep.n0]
   ·refine List.map_congr_left (fun x hx=>?_)
    unfold xo
    rw [hbo x hx]
  rw [h2] at h1
  refine List.Perm.trans ?_ h1.symm
  refine List.perm_append_comm.trans ?_
  show ((⟨key,V.n0+1,mark,l⟩:qa)::V.vs).Perm _
  exact h.rep.vers.cons _
 ·refine⟨Pg.new 1,Pg.new_ok 1 (by omega),?_,rfl⟩
  rw [b9 h.ps]
  exact Zq h.ps (by omega) _
 ·have hg:=h.rep.good
  have hn0:=h.rep.n0
  refine⟨?_,?_,?_,?_,?_,?_,?_⟩
  ·show (V.vs++[(⟨key,V.n0+1,mark,l⟩:qa)]).Pairwise _
   refine List.pairwise_append.2 ⟨hg.apart,List.pairwise_singleton _ _,fun a ha b hb hc=>?_⟩
   rw [List.mem_singleton.1 hb] at hc
   have:=(hg.num a ha).2
   have h2:a.num=V.n0+1:=hc.2
   omega
  ·intro v hv
   show 1≤v.num∧v.num≤V.n0+1
   rcases List.mem_append.1 hv with hv|hv
   ·have:=hg.num v hv;omega
   ·rw [List.mem_singleton.1 hv];show 1≤V.n0+1∧V.n0+1≤V.n0+1;omega
  ·intro v hv
   rcases List.mem_append.1 hv with hv|hv
   ·exact hg.key v hv
   ·rw [List.mem_singleton.1 hv];exact h.key
  ·intro v hv
   rcases List.mem_append.1 hv with hv|hv
   ·exact hg.body v hv
   ·rw [List.mem_singleton.1 hv];exact h.len
  ·intro v hv
   rcases List.mem_append.1 hv with hv|hv
   ·exact hg.mark v hv
   ·rw [List.mem_singleton.1 hv];exact h.bare
  ·have h1:(V.vs++[(⟨key,V.n0+1,mark,l⟩:qa)]).length≤6000:=by
    have h2:=hF.six.1
    rw [(jj _ es).length_eq,List.length_cons] at h2
    have h3:=h.rep.vers.length_eq
    rw [List.length_map] at h3
    have hbl:bl'.length≤979:=by
     have:=uz (l:=bl') (N:=D.bs.length) (hp.nodup_iff.2 (List.nodup_append.2 ⟨(List.nodup_append.1 h.rep.nodup).1,h.ins.stp.grew.nodup,fun a ha b hb e=>(h.old (List.mem_append_left _ ha)).2.2.2 (e▸hb)⟩)) (fun j hj=>by
      rcases List.mem_append.1 (hp.mem_iff.1 hj) with hj|hj
      ·exact h.rep.range j (List.mem_append_left _ hj)
      ·exact h.new hj)
     have:=h.rep.few
     omega
    rw [List.length_append,List.length_singleton]
    omega
   exact h1
  ·show 0≤V.n0+1
   have:=hg.n0
   omega
end
theorem YQ{l:List UInt8}(h:zu l=true):1≤l.length∧l.length≤8∧(0:UInt8)∉l:=by
 unfold zu at h
 simp only [Bool.and_eq_true,decide_eq_true_eq] at h
 refine⟨h.1.1,h.1.2,fun h0=>?_⟩
 have h2:=h.2
 unfold keys.ju at h2
 rw [List.all_eq_true] at h2
 have:=h2 0 h0
 exact absurd this (by decide)
theorem KQ{key:ByteArray}(h:zu key.data.toList=true)(k:Int):¬(⟨key,k⟩:Pl).lt qQ=true:=fun hc=>by
 rw [Pl.lt_iff] at hc
 rcases hc with hc|⟨hc,_⟩
 ·have h2:∀k:ByteArray,y6 k qQ.key=false:=by
   intro k
   show yv k.data.toList []=false
   cases k.data.toList<;>rfl
  rw [h2] at hc;cases hc
 ·have h1:=(YQ h).1
  have hc':key=qQ.key:=hc
  rw [hc'] at h1
  exact absurd h1 (by decide)
section
variable {bs:List (List Value)} {V:qe} {tree n:Nat} {m:List UInt8} {es:List En} {bl:List Nat} {bo:Pl→List zq}
theorem fS.ver(h:fS bs V tree n m es bl bo){v:qa}(hv:v∈V.vs):∃x∈es,v=xo bo x:=by
 obtain⟨x,hx,e⟩:=List.mem_map.1 (h.vers.mem_iff.1 hv)
 exact⟨x,hx,e.symm⟩
theorem fS.mem(h:fS bs V tree n m es bl bo){x:En}(hx:x∈es):xo bo x∈V.vs:=h.vers.mem_iff.2 (List.mem_map.2 ⟨x,hx,rfl⟩)
theorem yg.same{l:List En}(h:yg l){x y:En}(hx:x∈l)(hy:y∈l)(e:x.pl=y.pl):x=y:=by
 induction l with
 |nil=>exact nomatch hx
 |cons a l ih=>
  have h2:=List.pairwise_cons.1 h
  rcases List.mem_cons.1 hx with ex|hx1
  ·rcases List.mem_cons.1 hy with ey|hy1
   ·rw [ex,ey]
   ·have:=h2.1 y hy1
    rw [←ex,e] at this
    exact absurd this (Pl.irrefl _)
  ·rcases List.mem_cons.1 hy with ey|hy1
   ·have:=h2.1 x hx1
    rw [←ey,e] at this
    exact absurd this (Pl.irrefl _)
   ·exact ih h2.2 hx1 hy1
theorem yg.head_on{l:List En}(h:yg l){p:Pl}{x:En}(ho:(yN p l).head? =some x):x∈l∧x.pl.lt p=false∧∀y∈l,y.pl.lt p=false→y=x∨x.pl.lt y.pl=true:=by
 have hs:yg (yN p l):=List.Pairwise.filter _ h
 cases hl:yN p l with
 |nil=>rw [hl] at ho;cases ho
 |cons a r=>
  rw [hl] at ho
  cases ho
  have hx:x∈yN p l:=by rw [hl];exact List.mem_cons_self ..
  have hx2:=List.mem_filter.1 hx
  refine⟨hx2.1,by simpa using hx2.2,fun y hy hlt=>?_⟩
  have hym:y∈yN p l:=List.mem_filter.2 ⟨hy,by rw [hlt];rfl⟩
  rw [hl] at hym hs
  rcases List.mem_cons.1 hym with rfl|hym
  ·exact .inl rfl
  ·exact .inr ((List.pairwise_cons.1 hs).1 y hym)
theorem XJ{l:List En}{p:Pl}(ho:(yN p l).head? =none):∀y∈l,y.pl.lt p=true:=fun y hy=>by
 have:yN p l=[]:=by
  cases h:yN p l with
  |nil=>rfl
  |cons a r=>rw [h] at ho;cases ho
 unfold yN at this
 rw [List.filter_eq_nil_iff] at this
 have:=this y hy
 simpa using this
theorem fS.at_yes(h:fS bs V tree n m es bl bo){key:ByteArray}{num:Int}{x:En}(hx:x∈es)(hk:x.pl.key=key)(hnum:x.pl.num=num):qX V.vs key num=some (xo bo x):=by
 have hsr:=h.forest.six.2.2
 cases hv:qX V.vs key num with
 |none=>exact absurd ⟨hk,hnum⟩ (jd hv _ (h.mem hx))
 |some v=>
  obtain⟨h1,h2,h3⟩:=jc hv
  obtain⟨y,hy,rfl⟩:=h.ver h3
  have e1:y.pl.key=key:=h1
  have e2:y.pl.num=num:=h2
  have:y=x:=hsr.same hy hx (by
   have e3:y.pl=⟨y.pl.key,y.pl.num⟩:=rfl
   have e4:x.pl=⟨x.pl.key,x.pl.num⟩:=rfl
   rw [e3,e4,e1,e2,hk,hnum])
  rw [this]
theorem fS.at_no(h:fS bs V tree n m es bl bo){key:ByteArray}{num:Int}(hno:∀x,(yN ⟨key,num⟩ es).head? =some x→¬(x.pl.key=key∧x.pl.num=num)):qX V.vs key num=none:=by
 have hsr:=h.forest.six.2.2
 cases hv:qX V.vs key num with
 |none=>rfl
 |some v=>
  exfalso
  obtain⟨h1,h2,h3⟩:=jc hv
  obtain⟨y,hy,rfl⟩:=h.ver h3
  have e1:y.pl.key=key:=h1
  have e2:y.pl.num=num:=h2
  have e3:y.pl=⟨key,num⟩:=by rw [←e1,←e2]
  have hlm:y.pl.lt ⟨key,num⟩=false:=by
   rw [e3]
   cases hc:(⟨key,num⟩:Pl).lt ⟨key,num⟩ with
   |false=>rfl
   |true=>exact absurd hc (Pl.irrefl _)
  cases ho:(yN ⟨key,num⟩ es).head? with
  |none=>rw [XJ ho y hy] at hlm;cases hlm
  |some x=>
   obtain⟨hx,hxp,hall⟩:=hsr.head_on ho
   rcases hall y hy hlm with rfl|hlt
   ·exact hno _ ho ⟨e1,e2⟩
   ·rw [e3,hxp] at hlt;cases hlt
theorem fS.pieces(h:fS bs V tree n m es bl bo){x:En}(hx:x∈es):((bo x.pl).map zq.at_).Nodup∧x.size≤300∧(bo x.pl).length≤3:=by
 have hb:=h.body x hx
 have h1:x.size≤300:=by
  have:=h.good.body _ (h.mem hx)
  have e:(xo bo x).body.length=x.size:=hb.size
  omega
 refine⟨?_,h1,by have:=hb.few;omega⟩
 have hs:List.Sublist ((bo x.pl).map zq.at_) (qV es bo):=List.sublist_flatten_of_mem (List.mem_map.2 ⟨x,hx,rfl⟩)
 exact hs.nodup (List.nodup_append.1 h.nodup).2.1
end
theorem cc:zT=zl (Pg.new 0):=by
 rw [zl,Pg.nought]
 rfl
theorem fK(N j:Nat):b8 (List.replicate N zT) j=zT:=by
 unfold b8 Dk.look
 split
 ·rename_i h
  have h2:j<N:=by have:=h.2;simp at this;exact this
  simp [yx,h2]
 ·rfl
theorem XK(N:Nat)(h64:64≤N)(hN:N≤1000):fS (List.replicate N zT) ⟨[],0⟩ 0 0 jA [] [] (fun _=>[]) where
 few:=by simpa using hN
 root:=by rw [fK];exact⟨.inr ⟨cc,rfl,rfl⟩,by omega,by omega⟩
 n0:=rfl
 map:=by rw [fK];exact⟨Xk,.inr ⟨cc,rfl⟩⟩
 forest:=.inl ⟨rfl,rfl,rfl⟩
 body:=fun x hx=>nomatch hx
 nodup:=by simp [qV]
 range:=fun j hj=>by simp [qV] at hj
 taken:=fun i _=>by rw [QL];simp [qV]
 vers:=List.Perm.refl _
 head:=⟨Pg.new 0,Pg.new_ok 0 (by omega),by rw [fK];exact cc,rfl⟩
 good:=⟨List.Pairwise.nil,fun v hv=>(nomatch hv),fun v hv=>(nomatch hv),fun v hv=>(nomatch hv),fun v hv=>(nomatch hv),by simp,Int.le_refl _⟩
end prog
namespace prog
open law (qe zc qv yj Qm xm zR jI cB OutIs Yt)
open keys (zu)
def yq(bs:List (List Value))(V:qe):Prop:=∃tree n m es bl bo,fS bs V tree n m es bl bo
variable {Fu:Int→Prop} {Ho:List (List Value)→qe→Prop} {m1:∀f,Fu f→zD f} {m2:Fu (-1)} {m3:∀bs V,yq bs V→Ho bs V} {m4:∀bs V,Ho bs V→law.Good V}
def gd(Fu:Int→Prop)(Ho:List (List Value)→qe→Prop)(m1:∀f,Fu f→zD f)(m2:Fu (-1))(m3:∀bs V,yq bs V→Ho bs V)(m4:∀bs V,Ho bs V→law.Good V):zc where
 Rest:=yq
 Holds:=Ho
 Sto:=fun w b q=>zK w b 0 q
 Fu:=Fu
 rest_holds:=m3
 good:=m4
 zeros:=fun n h1 h2=>m3 _ _ ⟨_,_,_,_,_,_,XK n h1 h2⟩
 sto_lt:=fun w b q h=>h.lt
 sto_kept:=fun w w' b q T h k hn=>h.kept k hn
 fu_int:=m1
 fu_neg:=m2
def Ur:zc:=gd (fun f=>f= -1) yq (fun f h=>by rw [h];constructor<;>omega) rfl (fun _ _ h=>h) (fun bs V ⟨_,_,_,_,_,_,h⟩=>h.good)
theorem Z1:∀ps:List (Nat×List Value),xO ps (List.replicate ps.length true)=ps
 |[]=>rfl
 |p::ps=>by
  unfold xO
  rw [List.length_cons,List.replicate_succ]
  simp [Z1 ps]
theorem vU{w w':World}{bd bs:Nat}{S:Nat→Prop}{D:Dk}{q:Option Nat}(hd:zh w bd S D)(hn:¬S bs)(hfu:Fu D.fuse)(hs:zK w' bs 0 q)(hk:Kept (fun k=>k=bs) w w'):jI (gd Fu Ho m1 m2 m3 m4) w w' bd bs S S D D 40 q:=
 ⟨hd.kept hk (fun j hj e=>hn (by rw [←show j=bs from e];exact hj)),fun _ h=>.inl h,hs,hk.mono (fun _ h=>.inr h),Int.le_refl _,by omega,rfl,hfu⟩
theorem Z2{w w':World}{bd bs:Nat}{S:Nat→Prop}{D:Dk}{q:Option Nat}{r:Int}(hd:zh w bd S D)(hfu:Fu D.fuse)(hs:zK w' bs 0 q)(h1:D.reads≤r)(h2:r≤D.reads+40)(hd':zh w' bd S {D with reads:=r })(hk:Kept (fun k=>k=bd∨k=bs) w w'):jI (gd Fu Ho m1 m2 m3 m4) w w' bd bs S S D {D with reads:=r} 40 q:=
 ⟨hd',fun _ h=>.inl h,hs,hk.mono (fun j hj=>hj.elim (fun e=>.inl (by rw [e];exact hd.bdS)) .inr),h1,h2,rfl,hfu⟩
theorem Ve:xm (gd Fu Ho m1 m2 m3 m4) where
 live:=fun w bd bs S D V key num F hk hnum=>by
  have hfu:Fu D.fuse:=F.fuse
  have hs:zK w bs 0 (some bd):=F.sto
  have hd:=F.disk
  have hps:=F.live.ps
  obtain⟨tree,n,m,es,bl,bo,R⟩:=F.live.rest
  have hr0:=F.reads0
  have hr1:=F.reads1
  have live':∀r:Int,(gd Fu Ho m1 m2 m3 m4).Live {D with reads:=r} V:=fun r=>⟨hps,⟨tree,n,m,es,bl,bo,R⟩,F.live.big⟩
  cases hkey:zu key.data.toList with
  |false=>
   refine(JX w bs (some bd) hs key num hk hkey).mono ?_
   rintro e w' ⟨h1,h2,h3⟩
   exact⟨D,.slice none 0 0,S,h1,vU hd F.apart hfu h2 h3,F.live,⟨fun h=>absurd h (show ¬(2:Int)=0 by decide),fun _=>⟨none,0,rfl⟩⟩,fun k h=>(nomatch h)⟩
  |true=>
   have hroot:yu (D.look 1) tree n:=by have:=R.root;rw [←yF hps] at this;exact this
   have hfor:ya (fun j=>D.look (j:Nat)) tree es bl:=R.forest.congr (fun j _=>yF hps j)
   have hlow:∀j∈bl,21≤j:=fun j hj=>(R.range j (List.mem_append_left _ hj)).1
   cases hnew:JY key num (yN ⟨key,num⟩ es).head? with
   |false=>
    have hans:gy true (qX V.vs key num)=5:=by
     cases ho:(yN ⟨key,num⟩ es).head? with
     |none=>rw [R.at_no (fun x hx=>by rw [ho] at hx;cases hx)];rfl
     |some x=>
      by_cases hxk:x.pl.key=key∧x.pl.num=num
      ·rw [R.at_yes (R.forest.six.2.2.head_on ho).1 hxk.1 hxk.2]
       rw [ho] at hnew
       have hm:x.mark=true:=by
        simp only [JY,hxk.1,hxk.2,decide_true,Bool.true_and] at hnew
        cases hmm:x.mark with
        |true=>rfl
        |false=>rw [hmm] at hnew;cases hnew
       show cond x.mark 5 0=5
       rw [hm];rfl
      ·rw [R.at_no (fun y hy=>by rw [ho] at hy;cases hy;exact hxk)];rfl
    refine(at_none w bs bd S D hs hd F.apart hr0 (by omega) tree n hroot key num hk hkey es bl hfor R.len hlow _ rfl hnew).mono ?_
    rintro e w' ⟨h1,h2,⟨r,h3,h4,h5⟩,h6⟩
    rw [hans]
    exact⟨{D with reads:=r},.slice none 0 0,S,h1,Z2 hd hfu h2 h3 (by omega) h5 h6,live' r,⟨fun h=>absurd h (by decide),fun _=>⟨none,0,rfl⟩⟩,fun k h=>(nomatch h)⟩
   |true=>
    cases ho:(yN ⟨key,num⟩ es).head? with
    |none=>rw [ho] at hnew;cases hnew
    |some x=>
     rw [ho] at hnew
     have hxk:x.pl.key=key∧x.pl.num=num:=by simp only [JY,Bool.and_eq_true,decide_eq_true_eq] at hnew;exact hnew.1
     have hxm:x.mark=false:=by simp only [JY,Bool.and_eq_true,Bool.not_eq_true'] at hnew;exact hnew.2
     have hx:=(R.forest.six.2.2.head_on ho).1
     have hnv:=R.at_yes hx hxk.1 hxk.2
     have hb:=R.body x hx
     obtain⟨p1,p2,p3⟩:=R.pieces hx
     have hans:gy true (qX V.vs key num)=0:=by rw [hnv];show cond x.mark 5 0=0;rw [hxm];rfl
     refine(KJ w bs bd S D hs hd F.apart hr0 (by omega) tree n hroot key num hk hkey es bl hfor R.len hlow x ho hnew (bo x.pl) (hb.chain.congr (fun p _=>yF hps p.at_)) p1 hb.head _ rfl hb.size p2 (by omega)).mono ?_
     rintro e w' ⟨⟨a,cap,h1,hown,hfr⟩,h2,⟨r,h3,h4,h5⟩,h6⟩
     rw [hans]
     refine⟨{D with reads:=r},_,S,h1,Z2 hd hfu h2 h3 (by omega) h5 h6,live' r,⟨fun _=>⟨_,hnv,⟨a,cap,rfl,hown,hfr⟩⟩,fun h=>absurd rfl h⟩,fun k h hS=>?_⟩
     have:=hfr k h;have:=hd.lt k hS;omega
 shut:=fun w bs key num hs hk=>by
  have hs':zK w bs 0 none:=hs
  cases hkey:zu key.data.toList with
  |false=>exact(JX w bs none hs' key num hk hkey).mono (fun e w' ⟨h1,h2,h3⟩=>⟨none,0,h1,h2,h3⟩)
  |true=>exact(KH w bs hs' key num hk hkey).mono (fun e w' ⟨h1,h2,h3⟩=>⟨none,0,h1,h2,h3⟩)
end prog
namespace prog
open law (qe)
theorem Yj(bs:List (List Value))(j:Nat):b8 bs j=bs.getD j zT:=by
 unfold b8 Dk.look
 by_cases h:j<bs.length
 ·rw [if_pos ⟨by omega,by show (j:Int)<(bs.length:Int);omega⟩]
  simp [yx,h]
 ·rw [if_neg (fun hc=>by have h2:(j:Int)<(bs.length:Int):=hc.2;omega)]
  simp [List.getElem?_eq_none (Nat.le_of_not_lt h)]
def KR(bs bs':List (List Value)):Prop:=bs'.length=bs.length∧∀j,(j<3∨21≤j)→bs'[j]? =bs[j]?
theorem KR.rd{bs bs':List (List Value)}(h:KR bs bs'){j:Nat}(hj:j<3∨21≤j):b8 bs' j=b8 bs j:=by
 rw [Yj,Yj,List.getD_eq_getElem?_getD,List.getD_eq_getElem?_getD,h.2 j hj]
theorem yq.near{bs bs':List (List Value)}{V:qe}(h:yq bs V)(n:KR bs bs'):yq bs' V:=by
 obtain⟨tree,k,m,es,bl,bo,R⟩:=h
 have hlow:∀j∈bl++qV es bo,21≤j:=fun j hj=>(R.range j hj).1
 refine⟨tree,k,m,es,bl,bo,by rw [n.1];exact R.few,by rw [n.rd (.inl (by omega))];exact R.root,R.n0,by rw [n.rd (.inl (by omega))];exact R.map,R.forest.congr (fun j hj=>n.rd (.inr (hlow j (List.mem_append_left _ hj)))),fun x hx=>?_,R.nodup,by rw [n.1];exact R.range,by rw [n.1];exact R.taken,R.vers,by rw [n.rd (.inl (by omega))];exact R.head,R.good⟩
 have hb:=R.body x hx
 exact⟨hb.chain.congr (fun p hp=>n.rd (.inr (hlow p.at_ (List.mem_append_right _ (vT.2 ⟨x,hx,List.mem_map.2 ⟨p,hp,rfl⟩⟩))))),hb.head,hb.size,hb.few⟩
structure Yk (N:Nat) (ws:List (Nat×List Value)):Prop where
 nodup:(ws.map Prod.fst).Nodup
 few:ws.length≤18
 some:0<ws.length
 keys:∀p∈ws,p.1<N∧p.1≠0∧(p.1<3∨21≤p.1)
structure cd (bs:List (List Value)) (ws:List (Nat×List Value)) (V:qe):Prop where
 ok:Yk bs.length ws
 head:bs[0]? =some (zl (zE ws))
 log:∀i (h:i<ws.length),bs[3+i]? =some ws[i].2
 rest:yq ((zj bs ws).set 0 xk) V
def jC(bs:List (List Value))(V:qe):Prop:=yq bs V∨∃ws,cd bs ws V
def vh(D:Dk)(P:qe→Prop):Prop:=D.ps.length≤18∧∀ks,∃V,P V∧jC (zj D.bs (xO D.ps ks)) V
theorem Z3(bs:List (List Value))(qs:List (Nat×List Value))(h:∀p∈qs,3≤p.1∧p.1<21):KR bs (zj bs qs):=
 ⟨zB _ _,fun j hj=>qZ qs bs (fun hc=>by
  obtain⟨p,hp,rfl⟩:=List.mem_map.1 hc
  have:=h p hp;omega)⟩
theorem Z4{ws:List (Nat×List Value)}{j:Nat}(h:j∈ws.map Prod.fst):∃b,(j,b)∈ws:=by
 obtain⟨p,hp,rfl⟩:=List.mem_map.1 h
 exact⟨p.2,hp⟩
theorem ce(bs:List (List Value))(ws qs:List (Nat×List Value))(hn:(ws.map Prod.fst).Nodup)(hk:∀p∈ws,p.1<bs.length)(hq:∀p∈qs,p∈ws):zj (zj bs qs) ws=zj bs ws:=by
 refine List.ext_getElem? fun j=>?_
 by_cases hj:j∈ws.map Prod.fst
 ·obtain⟨b,hb⟩:=Z4 hj
  have hlt:=hk _ hb
  rw [xK ws _ hn hb (by rw [zB];exact hlt),xK ws _ hn hb hlt]
 ·rw [qZ ws _ hj,qZ ws _ hj,qZ qs _ (fun hc=>hj (by
   obtain⟨p,hp,rfl⟩:=List.mem_map.1 hc
   exact List.mem_map.2 ⟨p,hq p hp,rfl⟩))]
theorem cd.part{bs:List (List Value)}{ws:List (Nat×List Value)}{V:qe}(h:cd bs ws V)(qs:List (Nat×List Value))(hq:∀p∈qs,p∈ws):cd (zj bs qs) ws V:=by
 have hmiss:∀j,(j=0∨(3≤j∧j<21))→(zj bs qs)[j]? =bs[j]? :=fun j hj=>qZ qs bs (fun hc=>by
  obtain⟨p,hp,rfl⟩:=List.mem_map.1 hc
  have:=h.ok.keys p (hq p hp);omega)
 have hl:=zB qs bs
 refine⟨⟨h.ok.nodup,h.ok.few,h.ok.some,fun p hp=>by rw [hl];exact h.ok.keys p hp⟩,by rw [hmiss 0 (.inl rfl)];exact h.head,fun i hi=>?_,?_⟩
 ·have:=h.ok.few
  rw [hmiss (3+i) (.inr (by omega))];exact h.log i hi
 ·rw [ce bs ws qs h.ok.nodup (fun p hp=>(h.ok.keys p hp).1) hq];exact h.rest
theorem uA:∀(ws:List (Nat×List Value)) (D:Dk),(∀p∈ws,p.1<D.bs.length)→∃k f,(qd D ws).2={D with ps:=D.ps++ws.take k,fuse:=f}∧((qd D ws).1=true→ws.take k=ws)∧((qd D ws).1=false→f=0)
 |[],D,_=>⟨0,D.fuse,by simp [qd],by simp,by simp [qd]⟩
 |p::ws,D,hk=>by
  unfold qd
  have hp:=hk p (List.mem_cons_self ..)
  by_cases hf:D.fuse=0
  ·have e:D.writes (p.1:Int)=false:=decide_eq_false (fun hc=>hc.2.2 hf)
   rw [if_neg (by rw [e];simp)]
   exact⟨0,0,by simp [←hf],by simp,fun _=>rfl⟩
  ·have hc:(0:Int)≤(p.1:Int)∧(p.1:Int)<(D.bs.length:Int)∧D.fuse≠0:=⟨by omega,by omega,hf⟩
   have e:D.writes (p.1:Int)=true:=decide_eq_true hc
   have e2:D.write (p.1:Int) p.2={D with ps:=D.ps++[(p.1,p.2)],fuse:=qj D.fuse}:=by unfold Dk.write;rw [if_pos hc];simp
   rw [if_pos e,e2]
   obtain⟨k,f,h1,h2,h3⟩:=uA ws {D with ps:=D.ps++[(p.1,p.2)],fuse:=qj D.fuse} (fun q hq=>hk q (List.mem_cons_of_mem _ hq))
   refine⟨k+1,f,?_,fun h=>by rw [List.take_succ_cons,h2 h],h3⟩
   rw [h1]
   simp
theorem YR(p:Nat×List Value)(ks:List Bool):xO [p] ks=[]∨xO [p] ks=[p]:=by
 unfold xO
 split
 ·exact .inr rfl
 ·exact .inl rfl
theorem dU{D:Dk}(hp:D.ps=[])(h0:0<D.bs.length)(b:List Value):
 ((yM D b).1=true→∃f,(yM D b).2={D with bs:=D.bs.set 0 b,fuse:=f })∧
 ((yM D b).1=false→(yM D b).2={D with fuse:=0}∨(yM D b).2={D with ps:=[(0,b)],fuse:=0 }):=by
 unfold yM
 by_cases hf:D.fuse=0
 ·have e:D.writes 0=false:=decide_eq_false (fun hc=>hc.2.2 hf)
  rw [if_neg (by rw [e];simp)]
  exact⟨fun h=>by simp at h,fun _=>.inl (by rw [←hf])⟩
 ·have hc:(0:Int)≤0∧(0:Int)<(D.bs.length:Int)∧D.fuse≠0:=⟨by omega,by omega,hf⟩
  have e:D.writes 0=true:=decide_eq_true hc
  have e2:D.write 0 b={D with ps:=[(0,b)],fuse:=qj D.fuse}:=by unfold Dk.write;rw [if_pos hc,hp];rfl
  rw [if_pos e,e2]
  by_cases hz:qj D.fuse=0
  ·refine⟨fun h=>by simp [hz] at h,fun _=>.inr ?_⟩
   unfold Dk.flush
   rw [if_pos hz,hz]
  ·refine⟨fun _=>⟨qj (qj D.fuse),?_⟩,fun h=>by simp [hz] at h⟩
   unfold Dk.flush
   rw [if_neg hz]
   show Dk.mk (zj D.bs [(0,b)]) [] _ _=Dk.mk _ D.ps _ _
   rw [hp]
   rfl
theorem fL{D:Dk}{ws:List (Nat×List Value)}{V:qe}(hp:D.ps=[])(h:cd D.bs ws V):
 ((qC D ws).1=true→∃f,(qC D ws).2={D with bs:=(zj D.bs ws).set 0 xk,fuse:=f })∧
 ((qC D ws).1=false→(qC D ws).2.fuse=0∧(qC D ws).2.bs.length=D.bs.length∧(qC D ws).2.reads=D.reads∧vh (qC D ws).2 (fun U=>U=V)):=by
 have hkeys:=h.ok.keys
 have h0:0<D.bs.length:=(List.getElem?_eq_some_iff.1 h.head).1
 obtain⟨k,f,e1,e2,e3⟩:=uA ws D (fun p hp=>(hkeys p hp).1)
 rw [hp,List.nil_append] at e1
 have hany:∀ks,cd (zj D.bs (xO (ws.take k) ks)) ws V:=fun ks=>h.part _ (fun p hq=>List.mem_of_mem_take (gi _ _ p hq))
 have hdie:vh {D with ps:=ws.take k,fuse:=0} (fun U=>U=V):=⟨by show (ws.take k).length≤18;have:=h.ok.few;have:=List.length_take_le' k ws;omega,fun ks=>⟨V,rfl,.inr ⟨ws,hany ks⟩⟩⟩
 unfold qC yT
 by_cases hc:(qd D ws).1=true∧(qd D ws).2.fuse≠0
 ·rw [if_pos hc]
  have ht:=e2 hc.1
  have hfl:(qd D ws).2.flush={D with bs:=zj D.bs ws,ps:=[],fuse:=qj f}:=by
   have hf:f≠0:=by have:=hc.2;rw [e1] at this;exact this
   rw [e1,ht]
   unfold Dk.flush
   rw [if_neg hf]
  rw [hfl]
  have hs:=dU (D:={D with bs:=zj D.bs ws,ps:=[],fuse:=qj f }) rfl (by show 0<(zj D.bs ws).length;rw [zB];exact h0) xk
  have hw:cd (zj D.bs ws) ws V:=h.part ws (fun _ h=>h)
  refine⟨fun ht=>?_,fun hff=>?_⟩
  ·obtain⟨f',hf'⟩:=hs.1 ht
   exact⟨f',by rw [hf',hp]⟩
  ·rcases hs.2 hff with e|e<;>rw [e]
   ·refine⟨rfl,zB _ _,rfl,Nat.zero_le _,fun ks=>⟨V,rfl,.inr ⟨ws,?_⟩⟩⟩
    exact hw
   ·refine⟨rfl,zB _ _,rfl,by show (1:Nat)≤18;omega,fun ks=>⟨V,rfl,?_⟩⟩
    show jC (zj (zj D.bs ws) (xO [(0,xk)] ks)) V
    rcases YR (0,xk) ks with e|e<;>rw [e]
    ·exact .inr ⟨ws,hw⟩
    ·exact .inl h.rest
 ·rw [if_neg hc]
  refine⟨fun h=>by simp at h,fun _=>?_⟩
  have hz:(qd D ws).2.fuse=0:=by
   by_cases h1:(qd D ws).1=true
   ·exact Classical.byContradiction (fun h2=>hc ⟨h1,h2⟩)
   ·rw [e1];exact e3 (by simpa using h1)
  have hf0:f=0:=by rw [e1] at hz;exact hz
  show (qd D ws).2.fuse=0∧(qd D ws).2.bs.length=D.bs.length∧(qd D ws).2.reads=D.reads∧vh (qd D ws).2 (fun U=>U=V)
  rw [e1,hf0]
  exact⟨rfl,rfl,rfl,hdie⟩
def jb(bs:List (List Value))(ws:List (Nat×List Value)):List (List Value):=(zj bs (z8 ws)).set 0 (zl (zE ws))
theorem Yl{ws:List (Nat×List Value)}(i:Nat)(h:i<ws.length):(3+i,ws[i].2)∈z8 ws:=by
 rw [←kj ws i h];exact List.getElem_mem _
theorem cf(ws:List (Nat×List Value)):((z8 ws).map Prod.fst).Nodup:=by
 rw [List.nodup_iff_pairwise_ne,List.pairwise_iff_getElem]
 intro i j hi hj hij
 simp only [List.length_map,yX] at hi hj
 rw [List.getElem_map,List.getElem_map,kj ws i hi,kj ws j hj]
 show 3+i≠3+j
 omega
theorem XL{bs:List (List Value)}{ws:List (Nat×List Value)}{V:qe}(ok:Yk bs.length ws)(h21:21≤bs.length)(hr:yq (vi bs ws) V):cd (jb bs ws) ws V:=by
 have hl:(jb bs ws).length=bs.length:=by unfold jb;rw [List.length_set,zB]
 refine⟨⟨ok.nodup,ok.few,ok.some,fun p hp=>by rw [hl];exact ok.keys p hp⟩,?_,fun i hi=>?_,hr⟩
 ·unfold jb
  rw [List.getElem?_set_self (by rw [zB];omega)]
 ·unfold jb
  have:=ok.few
  rw [List.getElem?_set_ne (by omega)]
  exact xK _ _ (cf ws) (Yl i hi) (by omega)
theorem Ki{D:Dk}{ws:List (Nat×List Value)}{V V':qe}(hp:D.ps=[])(hr:yq D.bs V)(ok:Yk D.bs.length ws)(h21:21≤D.bs.length)(hn:cd (jb D.bs ws) ws V'):
 ((qD D ws).1=true→∃f,(qD D ws).2={D with bs:=jb D.bs ws,fuse:=f })∧
 ((qD D ws).1=false→(qD D ws).2.fuse=0∧(qD D ws).2.bs.length=D.bs.length∧(qD D ws).2.reads=D.reads∧vh (qD D ws).2 (fun U=>U=V∨U=V')):=by
 have hlk:=jR ok.few
 obtain⟨k,f,e1,e2,e3⟩:=uA (z8 ws) D (fun p hq=>by have:=hlk p hq;omega)
 rw [hp,List.nil_append] at e1
 have hany:∀qs:List (Nat×List Value),(∀p∈qs,p∈z8 ws)→yq (zj D.bs qs) V:=fun qs hq=>hr.near (Z3 _ _ (fun p hp=>hlk p (hq p hp)))
 unfold qD yT
 by_cases hc:(qd D (z8 ws)).1=true∧(qd D (z8 ws)).2.fuse≠0
 ·rw [if_pos hc]
  have ht:=e2 hc.1
  have hfl:(qd D (z8 ws)).2.flush={D with bs:=zj D.bs (z8 ws),ps:=[],fuse:=qj f}:=by
   have hf:f≠0:=by have:=hc.2;rw [e1] at this;exact this
   rw [e1,ht]
   unfold Dk.flush
   rw [if_neg hf]
  rw [hfl]
  have hs:=dU (D:={D with bs:=zj D.bs (z8 ws),ps:=[],fuse:=qj f }) rfl (by show 0<(zj D.bs (z8 ws)).length;rw [zB];omega) (zl (zE ws))
  have hold:yq (zj D.bs (z8 ws)) V:=hany _ (fun _ h=>h)
  refine⟨fun ht=>?_,fun hff=>?_⟩
  ·obtain⟨f',hf'⟩:=hs.1 ht
   exact⟨f',by rw [hf',hp];rfl⟩
  ·rcases hs.2 hff with e|e<;>rw [e]
   ·exact⟨rfl,zB _ _,rfl,Nat.zero_le _,fun ks=>⟨V,.inl rfl,.inl hold⟩⟩
   ·refine⟨rfl,zB _ _,rfl,by show (1:Nat)≤18;omega,fun ks=>?_⟩
    show ∃V_1,_∧jC (zj (zj D.bs (z8 ws)) (xO [(0,zl (zE ws))] ks)) V_1
    rcases YR (0,zl (zE ws)) ks with e|e<;>rw [e]
    ·exact⟨V,.inl rfl,.inl hold⟩
    ·exact⟨V',.inr rfl,.inr ⟨ws,hn⟩⟩
 ·rw [if_neg hc]
  refine⟨fun h=>by simp at h,fun _=>?_⟩
  have hz:(qd D (z8 ws)).2.fuse=0:=by
   by_cases h1:(qd D (z8 ws)).1=true
   ·exact Classical.byContradiction (fun h2=>hc ⟨h1,h2⟩)
   ·rw [e1];exact e3 (by simpa using h1)
  have hf0:f=0:=by rw [e1] at hz;exact hz
  show (qd D (z8 ws)).2.fuse=0∧(qd D (z8 ws)).2.bs.length=D.bs.length∧(qd D (z8 ws)).2.reads=D.reads∧vh (qd D (z8 ws)).2 _
  rw [e1,hf0]
  exact⟨rfl,rfl,rfl,by show ((z8 ws).take k).length≤18;have:=ok.few;have:=List.length_take_le' k (z8 ws);rw [yX] at this;omega,fun ks=>⟨V,.inl rfl,.inl (hany _ (fun p hq=>List.mem_of_mem_take (gi _ _ p hq)))⟩⟩
theorem Ym{D:Dk}{ws:List (Nat×List Value)}{V V':qe}(hp:D.ps=[])(hr:yq D.bs V)(ok:Yk D.bs.length ws)(h21:21≤D.bs.length)(hnew:yq (vi D.bs ws) V'):
 ((zX D ws).1=true→∃f,(zX D ws).2={D with bs:=vi D.bs ws,fuse:=f })∧
 ((zX D ws).1=false→(zX D ws).2.fuse=0∧(zX D ws).2.bs.length=D.bs.length∧(zX D ws).2.reads=D.reads∧vh (zX D ws).2 (fun U=>U=V∨U=V')):=by
 have hlog:=XL ok h21 hnew
 have hn:=Ki hp hr ok h21 hlog
 unfold zX
 cases hb:(qD D ws).1 with
 |false=>
  rw [if_neg (by simp)]
  exact⟨fun h=>(by rw [hb] at h;cases h),fun _=>hn.2 hb⟩
 |true=>
  rw [if_pos rfl]
  obtain⟨f,e⟩:=hn.1 hb
  rw [e]
  have hs:=fL (D:={D with bs:=jb D.bs ws,fuse:=f }) (ws:=ws) (V:=V') hp hlog
  have hl:(jb D.bs ws).length=D.bs.length:=by unfold jb;rw [List.length_set,zB]
  refine⟨fun h=>hs.1 h,fun h=>?_⟩
  obtain⟨h1,h2,h3,h4⟩:=hs.2 h
  exact⟨h1,h2.trans hl,h3,h4.1,fun ks=>by obtain⟨U,h5,h6⟩:=h4.2 ks;exact⟨U,.inr h5,h6⟩⟩
theorem Z5{Fu:Int→Prop}(hb:∀f,Fu f→Fu (qj f)){D:Dk}(h:Fu D.fuse)(i:Int)(b:List Value):Fu (D.write i b).fuse:=by
 unfold Dk.write
 split
 ·exact hb _ h
 ·exact h
theorem fM{Fu:Int→Prop}(hb:∀f,Fu f→Fu (qj f)){D:Dk}(h:Fu D.fuse):Fu D.flush.fuse:=by
 unfold Dk.flush
 split
 ·exact h
 ·exact hb _ h
theorem vV{Fu:Int→Prop}(hb:∀f,Fu f→Fu (qj f)):∀(ws:List (Nat×List Value)) (D:Dk),Fu D.fuse→Fu (qd D ws).2.fuse
 |[],D,h=>h
 |p::ws,D,h=>by
  unfold qd
  split
  ·exact vV hb ws _ (Z5 hb h _ _)
  ·exact h
theorem fN{Fu:Int→Prop}(hb:∀f,Fu f→Fu (qj f)){r:Bool×Dk}(h:Fu r.2.fuse)(b:List Value):Fu (yT r b).2.fuse:=by
 unfold yT
 split
 ·unfold yM
  split
  ·exact fM hb (Z5 hb (fM hb h) _ _)
  ·exact fM hb h
 ·exact h
theorem XM{Fu:Int→Prop}(hb:∀f,Fu f→Fu (qj f)){D:Dk}(h:Fu D.fuse)(ws:List (Nat×List Value)):Fu (zX D ws).2.fuse:=by
 have hn:Fu (qD D ws).2.fuse:=fN hb (vV hb _ D h) _
 unfold zX
 split
 ·exact fN hb (vV hb ws _ hn) _
 ·exact hn
def Vf(D:Dk)(V V':qe)(bd:Nat)(c kk:Int)(D':Dk)(q:Option Nat):Prop:=
 (c=0∧q=some bd∧∃bs' f,bs'.length=D.bs.length∧yq bs' V'∧D'={D with bs:=bs',reads:=D.reads+kk,fuse:=f })∨
 (c=7∧q=none∧D'.fuse=0∧D'.bs.length=D.bs.length∧D'.reads=D.reads+kk∧vh D' (fun U=>U=V∨U=V'))
def Z6(D D':Dk):Prop:=∀Fu:Int→Prop,(∀f,Fu f→Fu (qj f))→Fu D.fuse→Fu D'.fuse
theorem Z6.refl(D:Dk)(r:Int):Z6 D {D with reads:=r}:=fun _ _ h=>h
theorem Kj{w w':World}{bs bd:Nat}{k:Int}{S:Nat→Prop}{D:Dk}{V V':qe}{ws:List (Nat×List Value)}{kk c:Int}(hp:D.ps=[])(h21:64≤D.bs.length)(hr:yq D.bs V)(ok:Yk D.bs.length ws)(hnew:yq (vi D.bs ws) V')(h:di w w' bs bd k S (zX {D with reads:=D.reads+kk} ws) c):
 ∃D' q,uv w w' bs bd S D' k q∧Vf D V V' bd c kk D' q∧Z6 D D':=by
 have hf:=Ym (D:={D with reads:=D.reads+kk }) (V:=V) (V':=V') hp hr ok (by show 21≤D.bs.length;omega) hnew
 have hfu:Z6 D (zX {D with reads:=D.reads+kk} ws).2:=fun Fu hb h=>XM (D:={D with reads:=D.reads+kk }) hb h ws
 obtain⟨h1,h2,h3,h4⟩:=h
 generalize zX {D with reads:=D.reads+kk} ws=R at*
 obtain⟨b,D'⟩:=R
 refine⟨D',_,⟨h2,h3,h4⟩,?_,hfu⟩
 cases b with
 |true=>
  obtain⟨f,e⟩:=hf.1 rfl
  exact .inl ⟨h1,rfl,_,f,xt _ _,hnew,e⟩
 |false=>
  obtain⟨e1,e2,e3,e4⟩:=hf.2 rfl
  exact .inr ⟨h1,rfl,e1,e2,e3,e4⟩
end prog
end Go.Proofs.YtcoengihaobddaaGreatDoor
