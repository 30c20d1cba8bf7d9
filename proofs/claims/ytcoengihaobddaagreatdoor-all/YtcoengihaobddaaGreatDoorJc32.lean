/- Part 32 of 36 of a proof: Rep1, Rep2, Mng1, Mng2, Fall1 -/
import Derived.Test.YtcoengihaobddaaGreatDoorJc26
set_option maxHeartbeats 8000000
set_option linter.unusedVariables false
set_option linter.unusedSimpArgs false
set_option maxRecDepth 8000
namespace Go.Proofs.YtcoengihaobddaaGreatDoor
open Go.RowKit disk ref
namespace prog
open law (qq)
open keys (zq)
variable {l es:List En}{rd:Nat->List Value}{bo:Pl->List zv}{j:Nat}{key:ByteArray}{x:En}
def Z5(bs:List (List Value))(j:Nat):List Value:=Dk.look ⟨bs,[], -1,0⟩ (j:Nat)
theorem qY{D:Dk}(a:D.ps=[])(j:Nat):D.look (j:Nat)=Z5 D.bs j:=by unfold Z5 Dk.look;rw [a]
def yj(es:List En)(bo:Pl->List zv):List Nat:=(es.map λx=>(bo x.pl).map zv.at_).flatten
def xc(bo:Pl->List zv)(x:En):zB:=⟨x.pl.key,x.pl.num,x.mark,((bo x.pl).map zv.l).flatten⟩
structure Uy (rd:Nat->List Value) (bo:Pl->List zv) (x:En):Prop where
 chain:y9 rd (bo x.pl)
 head:xw (bo x.pl)=x.at_
 size:((bo x.pl).map zv.l).flatten.length=x.size
 few:(bo x.pl).length<=(x.size+99)/100
structure v6 (bs:List (List Value)) (V:qq) (tree n:Nat) (m:List UInt8) (es:List En) (bl:List Nat) (bo:Pl->List zv):Prop where
 few:bs.length<=1000
 root:qV (Z5 bs 1) tree n
 n0:V.n0=n
 map:qF (Z5 bs 2) m
 forest:q8 (Z5 bs) tree es bl
 body:∀x∈es,Uy (Z5 bs) bo x
 nodup:(bl++yj es bo).Nodup
 range:∀j∈bl++yj es bo,21<=j/\j<bs.length
 taken:∀i,i+21<bs.length->(zU m i=true↔i+21∈bl++yj es bo)
 vers:V.vs.Perm (es.map (xc bo))
 head:∃p:Pg,p.Ok/\Z5 bs 0=zm p/\p.items.length=0
 good:law.Good V
theorem kw:∀(l r:List Nat),l.Nodup->(∀x∈l,x∈r)->l.length<=r.length
 |[],_,_,_=>by simp
 |a::l,r,hn,hs=>by rw [iM] at hn;have d:=kw l (r.erase a) hn.2 (λx c=>(List.mem_erase_of_ne (show x≠a from λe=>hn.1 (e▸c))).2 (hs x (am _ c)));have b:=hs a (al ..);have f:=l9 b;rw [List.length_erase_of_mem b] at d;rw [ae];omega
theorem fl{l:List Nat}{N:Nat}(a:l.Nodup)(c:∀j∈l,21<=j/\j<N):l.length<=N-21:=by
 have:=kw l (List.range' 21 (N-21)) a (λx b=>by rw [List.mem_range'_1];have:=c x b;omega);simpa using this
theorem YK{h:Nat}:∀(a:List (Pl×Tr h)),(∀c∈a,c.2.ents.length<=6*c.2.blocks.length)->(zJ a).length<=6*(zE a).length
 |[],_=>by simp [zE,zJ]
 |c::a,hc=>by have d:=hc c (al ..);have h2:=YK a (λx b=>hc x (am _ b));rw [qB,zr,ag,ag];omega
theorem Tr.Good.six:∀{h:Nat} {t:Tr h},t.Good->t.items.length<=6->t.ents.length<=6*t.blocks.length
 |0,t,_,hl=>by show t.2.length<=6*1;have h2:t.2.length=t.items.length:=rfl;omega
 |h+1,t,g,hl=>by have:=YK t.2 (λc a=>(g.kids.good c a).1.six (g.kids.good c a).2.1);rw [Tr.blocks_succ,Tr.ents_succ,ae];omega
theorem q8.six{b:Nat}{bs:List Nat}(h:q8 rd b es bs):es.length<=6*bs.length/\2*bs.length<=es.length+1/\yO es:=by
 rcases h with⟨rfl,rfl,rfl⟩|⟨h,t,a,c,rfl,rfl,rfl⟩;.exact⟨by simp,by simp,List.Pairwise.nil⟩
 .exact⟨a.good.six a.hi,a.few,a.srt⟩
theorem q8.congr{b:Nat->List Value}{a:Nat}{bs:List Nat}(h:q8 rd a es bs)(e:∀j∈bs,b j=rd j):q8 b a es bs:=by
 rcases h with h|⟨h,t,d,c,rfl,rfl,rfl⟩;.exact .inl h
 .exact .inr ⟨h,t,d,c.congr e,rfl,rfl,rfl⟩
theorem YL:∀(es:List En),(∀x∈es,Uy rd bo x)->es.length+(yj es bo).length<=zl (es.map (xc bo))
 |[],_=>by simp [yj]
 |x::es,h=>by
  have a:=h x (al ..);have h2:=YL es (λe c=>h e (am _ c));have f:=a.few
  have b:zl ((x::es).map (xc bo))=yP x.size+zl (es.map (xc bo)):=by unfold zl;rw [aO,aO,List.sum_cons];show yP ((bo x.pl).map zv.l).flatten.length+_=_;rw [a.size]
  have d:(yj (x::es) bo).length=(bo x.pl).length+(yj es bo).length:=by simp [yj]
  rw [b,d,ae];unfold yP;omega
theorem v6.len{bs:List (List Value)}{V:qq}{tree n:Nat}{m:List UInt8}{bl:List Nat}(h:v6 bs V tree n m es bl bo):bl.length<=979:=by
 have a:=fl h.nodup h.range;have:=h.few;rw [ag] at a;omega
theorem gj:j∈yj es bo↔∃x∈es,j∈(bo x.pl).map zv.at_:=by
 unfold yj;rw [eW];constructor
 .rintro⟨l,c,a⟩;obtain⟨x,b,rfl⟩:=au.1 c;exact⟨x,b,a⟩
 .rintro⟨x,b,a⟩;exact⟨_,au.2 ⟨x,b,rfl⟩,a⟩
theorem v6.low{bs:List (List Value)}{V:qq}{tree n:Nat}{m:List UInt8}{bl:List Nat}(h:v6 bs V tree n m es bl bo):∀x∈es,(¬x.pl.lt yh=true)/\1<=x.pl.num/\x.pl.num<=n/\zq x.pl.key.data.toList=true:=λx g=>by
 have e:xc bo x∈V.vs:=h.vers.mem_iff.2 (au.2 ⟨x,g,rfl⟩);have d:=h.good.key _ e;have c:=h.good.num _ e;rw [h.n0] at c;refine⟨λa=>?_,c.1,c.2,d⟩;rw [Pl.lt_iff] at a;have f:zq (yh.key).data.toList=false:=by decide
 rcases a with a|⟨a,_⟩
 .have h2:∀k:ByteArray,qw k yh.key=false:=by
   intro k;show qC k.data.toList []=false;cases k.data.toList<;>rfl
  rw [h2] at a;cases a
 .have b:zq x.pl.key.data.toList=true:=d;rw [a,f] at b;cases b
structure vp (D:Dk) (V:qq) (tree n:Nat) (m:List UInt8) (es:List En) (bl:List Nat) (bo:Pl->List zv) (key:ByteArray) (mark:Bool) (l:List UInt8) (f:Nat) (C1:Ck) (m1:List UInt8) (nb1:List Nat) (root':Nat) (C2:Ck) (m2:List UInt8) (pb nb:List Nat):Prop where
 rep:v6 D.bs V tree n m es bl bo
 ps:D.ps=[]
 big:64<=D.bs.length
 body:Jv D fY C1 m m1 f (zW l) nb1
 ins:dm D C1 C2 m1 m2 root' ⟨⟨key,(n:Int)+1⟩,mark,l.length,f⟩ es bl pb nb
 key:zq key.data.toList=true
 len:l.length<=300
 bare:mark=true->l=[]
 num:n<4611686018427387904
section
variable {D:Dk} {V:qq} {tree n:Nat} {m:List UInt8} {es:List En} {bl:List Nat} {bo:Pl->List zv} {key:ByteArray} {mark:Bool} {l:List UInt8} {f:Nat} {C1:Ck} {m1:List UInt8} {nb1:List Nat} {root':Nat} {C2:Ck} {m2:List UInt8} {pb nb:List Nat}
theorem vp.old(h:vp D V tree n m es bl bo key mark l f C1 m1 nb1 root' C2 m2 pb nb)(b:j∈bl++yj es bo):zU m (j-21)=true/\zU m1 (j-21)=true/\j∉nb1/\j∉nb:=by
 have c:=h.rep.range j b;have a:=(h.rep.taken (j-21) (by omega)).2 (by rw [show j-21+21=j from by omega];exact b);have h2:=h.body.stp.grew.keeps a;exact⟨a,h2,h.body.stp.grew.apart a,h.ins.stp.grew.apart h2⟩
theorem vp.mid(h:vp D V tree n m es bl bo key mark l f C1 m1 nb1 root' C2 m2 pb nb)(a:j∈nb1):21<=j/\j<D.bs.length/\j∉bl++yj es bo/\j∉nb:=by
 have b:=h.body.stp.grew.fresh j a;refine⟨b.1,b.2.1,λc=>(h.old c).2.2.1 a,?_⟩;refine h.ins.stp.grew.apart ?_;rw [h.body.stp.grew.taken,show j-21+21=j from by omega];simp [a]
theorem vp.new(h:vp D V tree n m es bl bo key mark l f C1 m1 nb1 root' C2 m2 pb nb)(b:j∈nb):21<=j/\j<D.bs.length:=by
 have a:=h.ins.stp.grew.fresh j b;exact⟨a.1,a.2.1⟩
theorem vp.keys(h:vp D V tree n m es bl bo key mark l f C1 m1 nb1 root' C2 m2 pb nb)(b:C2.full=false):∀k∈(C2.put 1 (zm (zw root' (n+1)))).keys,k∈[1,2]++(nb1++(pb++nb)):=λk d=>by
 have c:C1.full=false:=by
  cases a:C1.full with
  |false=>rfl
  |true=>rw [h.ins.stp.full a] at b;cases b
 rcases (xl C2 1 _ k).1 d with a|a
 .rcases h.ins.stp.keys k a with a|a|a|a|a
  .rcases h.body.stp.keys k a with a|a|a|a|a;.exact(by cases a)
   .exact(by cases a)
   .simp [a]
   .simp [a]
   .rw [c] at a;exact(by cases a.2)
  .simp [a]
  .simp [a]
  .simp [a]
  .rw [b] at a;exact(by cases a.2)
 .simp [a]
theorem vp.klt(h:vp D V tree n m es bl bo key mark l f C1 m1 nb1 root' C2 m2 pb nb)(c:C2.full=false):∀k∈(C2.put 1 (zm (zw root' (n+1)))).keys,k<D.bs.length:=λk b=>by
 have:=h.keys c k b;have d:=h.big;rcases ah.1 this with a|a;.simp at a;omega
 .rcases ah.1 a with a|a;.exact(h.mid a).2.1
  .rcases ah.1 a with a|a;.exact(h.rep.range k (af _ (h.ins.sub k a))).2
   .exact(h.new a).2
theorem Gc{h:Nat}(b:3^h<=979):h<=6:=by
 rcases iJ 6 h with a|a
 .have:3^7<=3^h:=lf (by omega) a;omega
 .exact a
theorem vp.fits(h:vp D V tree n m es bl bo key mark l f C1 m1 nb1 root' C2 m2 pb nb)(d:vW V.vs (yP l.length) D.bs.length=true):((C2.put 1 (zm (zw root' (n+1)))).full||decide (18<(C2.put 1 (zm (zw root' (n+1)))).ws.length))=false:=by
 have s:=h.body.nl;rw [yW] at s;have z:=h.len
 cases i:C2.full with
 |true=>
  exfalso;have p:=h.ins.chn.full i
  have k:=kw (List.range' 21 (D.bs.length-21)) ((bl++yj es bo)++(nb1++nb)) List.nodup_range' (λx v=>by
   rw [List.mem_range'_1] at v;have c:=p (x-21) (by omega);rw [h.ins.stp.grew.taken,h.body.stp.grew.taken,show x-21+21=x from by omega] at c;simp only [iY,aR] at c;rcases c with(c|c)|c
   .have:=(h.rep.taken (x-21) (by omega)).1 c;rw [show x-21+21=x from by omega] at this;exact af _ this
   .exact av _ (af _ c)
   .exact av _ (av _ c))
  rw [List.length_range',ag,ag,ag] at k;have h2:=h.rep.forest.six.2.1;have C:=h.ins.nl;have y:=YL es h.rep.body;rw [<-Qh h.rep.vers] at y;unfold vW yP at d;simp only [aR] at d;omega
 |false=>
  rw [qJ,i,Bool.false_or,decide_eq_false_iff_not];obtain⟨o,hF,q,B,A,t⟩:=h.ins.tree i;have k:=kw _ _ (yM h.ins.chn.nodup 1 (zm (zw root' (n+1)))) (h.keys i);rw [Ck.keys_len] at k;simp only [ag,ae,hO] at k
  have r:o.length<=979:=by
   have:=fl (l:=o) (N:=D.bs.length) (q.nodup_iff.2 (aN.2 ⟨(aN.1 h.rep.nodup).1,h.ins.stp.grew.nodup,λa w b u e=>(h.old (af _ w)).2.2.2 (e▸u)⟩)) (λj g=>by
    rcases ah.1 (q.mem_iff.1 g) with g|g;.exact h.rep.range j (af _ g)
    .exact h.new g)
   have:=h.rep.few;omega
  have:=Gc (aD t r);omega
theorem Z6(a:D.ps=[]){ws:List (Nat×List Value)}:Z5 (up D.bs ws) j=Dk.look {D with bs:=up D.bs ws} (j:Nat):=by
 unfold Z5 Dk.look;rw [a]
theorem vp.rest(h:vp D V tree n m es bl bo key mark l f C1 m1 nb1 root' C2 m2 pb nb)(U:((C2.put 1 (zm (zw root' (n+1)))).full||decide (18<(C2.put 1 (zm (zw root' (n+1)))).ws.length))=false):∃t c,v6 (up D.bs (C2.put 1 (zm (zw root' (n+1)))).ws) (V.add key mark l) root' (n+1) m2 (yx ⟨⟨key,(n:Int)+1⟩,mark,l.length,f⟩ es) t c:=by
 simp only [lg,decide_eq_false_iff_not,qJ] at U;obtain⟨S,ay⟩:=U
 have ac:C1.full=false:=by
  cases u:C1.full with
  |false=>rfl
  |true=>rw [h.ins.stp.full u] at S;cases S
 obtain⟨t,hF,R,_⟩:=h.ins.tree S;obtain⟨ps,al,am,aa,ad⟩:=h.body.chain ac;have ao:=h.big;have X:=yM h.ins.chn.nodup 1 (zm (zw root' (n+1)))
 have I:∀j:Nat,j≠0->(j<3\/21<=j)->Z5 (up D.bs (C2.put 1 (zm (zw root' (n+1)))).ws) j=(C2.put 1 (zm (zw root' (n+1)))).look D (j:Nat):=λj W d=>by rw [Z6 h.ps];exact Ya h.ps X (by omega) (h.klt S) W d
 have r:∀j:Nat,j≠0->j≠1->(j<3\/21<=j)->Z5 (up D.bs (C2.put 1 (zm (zw root' (n+1)))).ws) j=C2.look D (j:Nat):=λj W u d=>by rw [I j W d,z9 _ _ _ _ _ (by omega)]
 have Y:∀x∈es,x.pl≠⟨key,(n:Int)+1⟩:=λx o e=>by have:=(h.rep.low x o).2.2.1;rw [e] at this;simp only at this;omega
 haveI:=Pl.dec;refine⟨t,λp=>if p=⟨key,(n:Int)+1⟩ then ps else bo p,?_⟩;have J:∀x∈es,(λp=>if p=(⟨key,(n:Int)+1⟩:Pl) then ps else bo p) x.pl=bo x.pl:=λx o=>aw (Y x o);have q:(λp=>if p=(⟨key,(n:Int)+1⟩:Pl) then ps else bo p) ⟨key,(n:Int)+1⟩=ps:=aB rfl;generalize (λp=>if p=(⟨key,(n:Int)+1⟩:Pl) then ps else bo p)=c at*
 have H:yj es c=yj es bo:=by unfold yj;congr 1;exact mj (λx o=>by rw [J x o])
 have T:(yj (yx ⟨⟨key,(n:Int)+1⟩,mark,l.length,f⟩ es) c).Perm (nb1++yj es bo):=by
  have u:(yj (yx ⟨⟨key,(n:Int)+1⟩,mark,l.length,f⟩ es) c).Perm (yj (⟨⟨key,(n:Int)+1⟩,mark,l.length,f⟩::es) c):=((kf _ es).map _).flatten
  have h2:yj (⟨⟨key,(n:Int)+1⟩,mark,l.length,f⟩::es) c=ps.map zv.at_++yj es bo:=by rw [<-H];unfold yj;rw [aO,aU,q]
  rw [h2] at u;exact u.trans (ad.append_right _)
 have M:(t++yj (yx ⟨⟨key,(n:Int)+1⟩,mark,l.length,f⟩ es) c).Perm ((bl++yj es bo)++(nb1++nb)):=by refine(R.append T).trans ?_;rw [ak,ak];refine i3 bl ?_;have ap:(nb++(nb1++yj es bo)).Perm ((nb1++yj es bo)++nb):=eM;refine ap.trans ?_;rw [<-ak];exact List.Perm.append_right nb eM
 have O:∀j,j∈t++yj (yx ⟨⟨key,(n:Int)+1⟩,mark,l.length,f⟩ es) c↔(j∈bl++yj es bo\/j∈nb1\/j∈nb):=λj=>by rw [M.mem_iff,ah (s:=bl++yj es bo),ah (s:=nb1)]
 have C:∀x:Nat,21<=x->x≠0/\x≠1/\(x<3\/21<=x):=λx o=>⟨by omega,by omega,.inr o⟩;have G:(ps.map zv.l).flatten=l:=by rw [aa,Yg]
 have Q:ps.length=(l.length+123)/124:=by have:=congrArg List.length aa;rw [ez,yW] at this;exact this
 have ar:=h.len;refine⟨by rw [ji];exact h.rep.few,?_,?_,?_,?_,?_,?_,?_,?_,?_,?_,?_⟩
 .have:=I 1 (by omega) (by omega);rw [this];have h2:(C2.put 1 (zm (zw root' (n+1)))).look D ((1:Nat):Int)=zm (zw root' (n+1)):=qn _ _ _ _;rw [h2];exact⟨.inl rfl,h.ins.lt,by have:=h.num;omega⟩
 .show V.n0+1=_;rw [h.rep.n0];omega
 .rw [r 2 (by omega) (by omega) (by omega)];exact h.ins.chn.map
 .refine hF.congr (λj d=>?_)
  have ai:21<=j:=by
   rcases ah.1 (R.mem_iff.1 d) with d|d;.exact(h.rep.range j (af _ d)).1
   .exact(h.new d).1
  obtain⟨A,P,L⟩:=C j ai;exact r j A P L
 .intro x o;rcases ke.1 o with rfl|o
  .refine⟨?_,?_,?_,?_⟩
   .show y9 _ (c ⟨key,(n:Int)+1⟩);rw [q];refine al.congr (λp K=>?_);have z:p.at_∈nb1:=ad.mem_iff.1 (au.2 ⟨p,K,rfl⟩);have w:=h.mid z;obtain⟨A,P,L⟩:=C p.at_ w.1;rw [r _ A P L];exact h.ins.stp.look _ (λy=>w.2.2.1 (af _ (h.ins.sub _ y))) w.2.2.2 (by omega) A
   .show xw (c ⟨key,(n:Int)+1⟩)=f;rw [q];exact am
   .show ((c ⟨key,(n:Int)+1⟩).map zv.l).flatten.length=l.length;rw [q,G]
   .show (c ⟨key,(n:Int)+1⟩).length<=(l.length+99)/100;rw [q,Q];omega
  .have k:=h.rep.body x o;have F:=J x o;refine⟨?_,by rw [F];exact k.head,by rw [F];exact k.size,by rw [F];exact k.few⟩;rw [F];refine k.chain.congr (λp K=>?_);have z:p.at_∈yj es bo:=gj.2 ⟨x,o,au.2 ⟨p,K,rfl⟩⟩;have w:=h.old (av bl z);have Z:=h.rep.range p.at_ (av _ z);obtain⟨A,P,L⟩:=C p.at_ Z.1;have aj:p.at_∉pb:=λy=>(aN.1 h.rep.nodup).2.2 _ (h.ins.sub _ y) _ z rfl;rw [r _ A P L,h.ins.stp.look _ aj w.2.2.2 (by omega) A,h.body.stp.look _ (λy=>(by cases y)) w.2.2.1 (by omega) A,yH,qY h.ps]
 .refine M.nodup_iff.2 (aN.2 ⟨h.rep.nodup,aN.2 ⟨h.body.stp.grew.nodup,h.ins.stp.grew.nodup,λa B b k e=>(h.mid B).2.2.2 (e▸k)⟩,λa B b k e=>?_⟩);rcases ah.1 k with k|k;.exact(h.old B).2.2.1 (e▸k)
  .exact(h.old B).2.2.2 (e▸k)
 .intro j d;rw [ji];rcases (O j).1 d with d|d|d;.exact h.rep.range j d
  .exact⟨(h.mid d).1,(h.mid d).2.1⟩
  .exact h.new d
 .intro i ab;rw [ji] at ab;rw [O,h.ins.stp.grew.taken,h.body.stp.grew.taken];simp only [iY,aR];rw [h.rep.taken i ab,or_assoc]
 .show (V.vs++[(⟨key,V.n0+1,mark,l⟩:zB)]).Perm _;have u:((yx ⟨⟨key,(n:Int)+1⟩,mark,l.length,f⟩ es).map (xc c)).Perm ((⟨⟨key,(n:Int)+1⟩,mark,l.length,f⟩::es).map (xc c)):=(kf _ es).map _
  have h2:(⟨⟨key,(n:Int)+1⟩,mark,l.length,f⟩::es).map (xc c)=⟨key,V.n0+1,mark,l⟩::es.map (xc bo):=by
   rw [aO];congr 1
   .show (⟨key,(n:Int)+1,mark,((c ⟨key,(n:Int)+1⟩).map zv.l).flatten⟩:zB)=_;rw [q,G,h.rep.n0]
   .refine mj (λx o=>?_);unfold xc;rw [J x o]
  rw [h2] at u;refine List.Perm.trans ?_ u.symm;refine eM.trans ?_;show ((⟨key,V.n0+1,mark,l⟩:zB)::V.vs).Perm _;exact h.rep.vers.cons _
 .refine⟨Pg.new 1,Pg.new_ok 1 (by omega),?_,rfl⟩;rw [Z6 h.ps];exact Yb h.ps (by omega) _
 .have E:=h.rep.good;have ax:=h.rep.n0;refine⟨?_,?_,?_,?_,?_,?_,?_⟩
  .show (V.vs++[(⟨key,V.n0+1,mark,l⟩:zB)]).Pairwise _;refine aX.2 ⟨E.apart,List.pairwise_singleton _ _,λa B b k y=>?_⟩;rw [az.1 k] at y;have:=(E.num a B).2;have h2:a.num=V.n0+1:=y.2;omega
  .intro v g;show 1<=v.num/\v.num<=V.n0+1;rcases ah.1 g with g|g;.have:=E.num v g;omega
   .rw [az.1 g];show 1<=V.n0+1/\V.n0+1<=V.n0+1;omega
  .intro v g;rcases ah.1 g with g|g;.exact E.key v g
   .rw [az.1 g];exact h.key
  .intro v g;rcases ah.1 g with g|g;.exact E.body v g
   .rw [az.1 g];exact h.len
  .intro v g;rcases ah.1 g with g|g;.exact E.mark v g
   .rw [az.1 g];exact h.bare
  .have u:(V.vs++[(⟨key,V.n0+1,mark,l⟩:zB)]).length<=6000:=by
    have h2:=hF.six.1;rw [(kf _ es).length_eq,ae] at h2;have an:=h.rep.vers.length_eq;rw [ez] at an
    have aq:t.length<=979:=by
     have:=fl (l:=t) (N:=D.bs.length) (R.nodup_iff.2 (aN.2 ⟨(aN.1 h.rep.nodup).1,h.ins.stp.grew.nodup,λa B b k e=>(h.old (af _ B)).2.2.2 (e▸k)⟩)) (λj d=>by
      rcases ah.1 (R.mem_iff.1 d) with d|d;.exact h.rep.range j (af _ d)
      .exact h.new d)
     have:=h.rep.few;omega
    rw [ag,iq];omega
   exact u
  .show 0<=V.n0+1;have:=E.n0;omega
end
theorem Z7{l:List UInt8}(h:zq l=true):1<=l.length/\l.length<=8/\(0:UInt8)∉l:=by
 unfold zq at h;simp only [aW,aR] at h;refine⟨h.1.1,h.1.2,λa=>?_⟩;have h2:=h.2;unfold keys.v8 at h2;rw [iD] at h2;have:=h2 0 a;exact absurd this (by decide)
theorem Gd(h:zq key.data.toList=true)(k:Int):¬(⟨key,k⟩:Pl).lt yh=true:=λa=>by
 rw [Pl.lt_iff] at a;rcases a with a|⟨a,_⟩
 .have h2:∀k:ByteArray,qw k yh.key=false:=by
   intro k;show qC k.data.toList []=false;cases k.data.toList<;>rfl
  rw [h2] at a;cases a
 .have b:=(Z7 h).1;have c:key=yh.key:=a;rw [c] at b;exact absurd b (by decide)
section
variable {bs:List (List Value)} {V:qq} {tree n:Nat} {m:List UInt8} {es:List En} {bl:List Nat} {bo:Pl->List zv}
theorem v6.ver(h:v6 bs V tree n m es bl bo){v:zB}(a:v∈V.vs):∃x∈es,v=xc bo x:=by
 obtain⟨x,b,e⟩:=au.1 (h.vers.mem_iff.1 a);exact⟨x,b,e.symm⟩
theorem v6.mem(h:v6 bs V tree n m es bl bo)(a:x∈es):xc bo x∈V.vs:=h.vers.mem_iff.2 (au.2 ⟨x,a,rfl⟩)
theorem yO.same(h:yO l){j:En}(i:x∈l)(g:j∈l)(e:x.pl=j.pl):x=j:=by
 induction l with
 |nil=>exact(by cases i)
 |cons a l k=>
  have h2:=aL.1 h;rcases ar.1 i with f|c
  .rcases ar.1 g with d|b;.rw [f,d]
   .have:=h2.1 j b;rw [<-f,e] at this;exact absurd this (Pl.irrefl _)
  .rcases ar.1 g with d|b
   .have:=h2.1 x c;rw [<-d,e] at this;exact absurd this (Pl.irrefl _)
   .exact k h2.2 c b
theorem yO.head_on(h:yO l){p:Pl}(c:(yS p l).head? =some x):x∈l/\x.pl.lt p=false/\∀f∈l,f.pl.lt p=false->f=x\/x.pl.lt f.pl=true:=by
 have i:yO (yS p l):=i9 _ h
 cases d:yS p l with
 |nil=>rw [d] at c;cases c
 |cons a r=>
  rw [d] at c;cases c;have k:x∈yS p l:=by rw [d];exact al ..
  have e:=ei.1 k;refine⟨e.1,by simpa using e.2,λf j g=>?_⟩;have b:f∈yS p l:=ei.2 ⟨j,by rw [g];rfl⟩;rw [d] at b i;rcases ar.1 b with rfl|b;.exact .inl rfl
  .exact .inr ((aL.1 i).1 f b)
theorem Zr{p:Pl}(b:(yS p l).head? =none):∀c∈l,c.pl.lt p=true:=λc d=>by
 have:yS p l=[]:=by
  cases h:yS p l with
  |nil=>rfl
  |cons a r=>rw [h] at b;cases b
 unfold yS at this;rw [iA] at this;have:=this c d;simpa using this
theorem v6.lt_max(h:v6 bs V tree n m es bl bo)(e:n<4611686018427387904){b:En}(d:b∈es)(key:ByteArray)(c:b.pl.key=key):b.pl.lt ⟨key,9223372036854775807⟩=false:=by
 cases a:b.pl.lt ⟨key,9223372036854775807⟩ with
 |false=>rfl
 |true=>
  rw [Pl.lt_iff] at a;rcases a with a|⟨_,a⟩
  .simp only [c] at a;rw [yE] at a;cases a
  .simp only at a;have:=(h.low b d).2.2.1;omega
theorem v6.new_yes(h:v6 bs V tree n m es bl bo)(p:n<4611686018427387904)(l:(yS ⟨key,9223372036854775807⟩ es).head? =some x)(c:x.pl.key=key):qe V.vs key=some (xc bo x):=by
 have e:=h.forest.six.2.2;obtain⟨g,_,d⟩:=e.head_on l
 cases i:qe V.vs key with
 |none=>exact absurd c (Qg i _ (h.mem g))
 |some v=>
  obtain⟨j,h2,o⟩:=kT i;obtain⟨k,f,rfl⟩:=h.ver h2;have b:k.pl.key=key:=j;have q:x.pl.num<=k.pl.num:=o _ (h.mem g) c;rcases d k f (h.lt_max p f key b) with rfl|a;.rfl
  .rw [Pl.lt_iff] at a;rcases a with a|⟨_,a⟩;.rw [c,b,yE] at a;cases a
   .omega
theorem v6.new_no(h:v6 bs V tree n m es bl bo)(o:n<4611686018427387904)(j:∀x,(yS ⟨key,9223372036854775807⟩ es).head? =some x->x.pl.key≠key):qe V.vs key=none:=by
 have k:=h.forest.six.2.2
 cases p:qe V.vs key with
 |none=>rfl
 |some v=>
  exfalso;obtain⟨q,h2,_⟩:=kT p;obtain⟨l,g,rfl⟩:=h.ver h2;have b:l.pl.key=key:=q;have c:=h.lt_max o g key b
  cases f:(yS ⟨key,9223372036854775807⟩ es).head? with
  |none=>rw [Zr f l g] at c;cases c
  |some x=>
   obtain⟨r,e,i⟩:=k.head_on f;have d:=j x f;rcases i l g c with rfl|a;.exact d b
   .rw [Pl.lt_iff] at a;rcases a with a|⟨a,_⟩
    .rw [b] at a;have:x.pl.lt ⟨key,9223372036854775807⟩=true:=(Pl.lt_iff _ _).2 (.inl a);rw [this] at e;cases e
    .exact d (a.trans b)
theorem v6.at_yes(h:v6 bs V tree n m es bl bo){a:Int}(g:x∈es)(e:x.pl.key=key)(b:x.pl.num=a):yl V.vs key a=some (xc bo x):=by
 have d:=h.forest.six.2.2
 cases f:yl V.vs key a with
 |none=>exact absurd ⟨e,b⟩ (JN f _ (h.mem g))
 |some v=>
  obtain⟨o,h2,p⟩:=jU f;obtain⟨c,k,rfl⟩:=h.ver p;have i:c.pl.key=key:=o;have q:c.pl.num=a:=h2
  have:c=x:=d.same k g (by
   have j:c.pl=⟨c.pl.key,c.pl.num⟩:=rfl;have l:x.pl=⟨x.pl.key,x.pl.num⟩:=rfl
   rw [j,l,i,q,e,b])
  rw [this]
theorem v6.at_no(h:v6 bs V tree n m es bl bo){a:Int}(g:∀x,(yS ⟨key,a⟩ es).head? =some x->¬(x.pl.key=key/\x.pl.num=a)):yl V.vs key a=none:=by
 have k:=h.forest.six.2.2
 cases r:yl V.vs key a with
 |none=>rfl
 |some v=>
  exfalso;obtain⟨s,h2,q⟩:=jU r;obtain⟨f,i,rfl⟩:=h.ver q;have l:f.pl.key=key:=s;have p:f.pl.num=a:=h2;have o:f.pl=⟨key,a⟩:=by rw [<-l,<-p]
  have b:f.pl.lt ⟨key,a⟩=false:=by
   rw [o]
   cases t:(⟨key,a⟩:Pl).lt ⟨key,a⟩ with
   |false=>rfl
   |true=>exact absurd t (Pl.irrefl _)
  cases d:(yS ⟨key,a⟩ es).head? with
  |none=>rw [Zr d f i] at b;cases b
  |some x=>
   obtain⟨u,j,e⟩:=k.head_on d;rcases e f i b with rfl|c;.exact g _ d ⟨l,p⟩
   .rw [o,j] at c;cases c
theorem v6.pieces(h:v6 bs V tree n m es bl bo)(a:x∈es):((bo x.pl).map zv.at_).Nodup/\x.size<=300/\(bo x.pl).length<=3:=by
 have b:=h.body x a
 have c:x.size<=300:=by have:=h.good.body _ (h.mem a);have e:(xc bo x).body.length=x.size:=b.size;omega
 refine⟨?_,c,by have:=b.few;omega⟩;have d:List.Sublist ((bo x.pl).map zv.at_) (yj es bo):=List.sublist_flatten_of_mem (au.2 ⟨x,a,rfl⟩);exact d.nodup (aN.1 h.nodup).2.1
end
theorem Z8:zX=zm (Pg.new 0):=by
 rw [zm,Pg.nought];rfl
theorem bJ(N j:Nat):Z5 (List.replicate N zX) j=zX:=by
 unfold Z5 Dk.look;split
 .rename_i h
  have h2:j<N:=by have:=h.2;simp at this;exact this
  simp [xz,h2]
 .rfl
theorem KR(N:Nat)(e:64<=N)(d:N<=1000):v6 (List.replicate N zX) ⟨[],0⟩ 0 0 kM [] [] (λ_=>[]) where
 few:=by simpa using d
 root:=by rw [bJ];exact⟨.inr ⟨Z8,rfl,rfl⟩,by omega,by omega⟩
 n0:=rfl
 map:=by rw [bJ];exact⟨Km,.inr ⟨Z8,rfl⟩⟩
 forest:=.inl ⟨rfl,rfl,rfl⟩
 body:=λx c=>(by cases c)
 nodup:=by simp [yj]
 range:=λj b=>by simp [yj] at b
 taken:=λi _=>by rw [Xw];simp [yj]
 vers:=eR _
 head:=⟨Pg.new 0,Pg.new_ok 0 (by omega),by rw [bJ];exact Z8,rfl⟩
 good:=⟨List.Pairwise.nil,λv a=>(by cases a),λv a=>(by cases a),λv a=>(by cases a),λv a=>(by cases a),by simp,eb _⟩
end prog
namespace prog
open law (qq zd yb xo gz cI xI bY GS OutIs G8)
open keys (zq)
def yI(bs:List (List Value))(V:qq):Prop:=∃tree n m es bl bo,v6 bs V tree n m es bl bo
variable {Fu:Int->Prop} {Ho:List (List Value)->qq->Prop} {m1:∀f,Fu f->zD f} {m2:Fu (-1)} {m3:∀bs V,yI bs V->Ho bs V} {m4:∀bs V,Ho bs V->law.Good V}
def vq(Fu:Int->Prop)(Ho:List (List Value)->qq->Prop)(m1:∀f,Fu f->zD f)(m2:Fu (-1))(m3:∀bs V,yI bs V->Ho bs V)(m4:∀bs V,Ho bs V->law.Good V):zd where
 Rest:=yI
 Holds:=Ho
 Sto:=λw b q=>zu w b 0 q
 Fu:=Fu
 rest_holds:=m3
 good:=m4
 zeros:=λn h1 h2=>m3 _ _ ⟨_,_,_,_,_,_,KR n h1 h2⟩
 sto_lt:=λw b q h=>h.lt
 sto_kept:=λw w' b q T h k hn=>h.kept k hn
 fu_int:=m1
 fu_neg:=m2
def Dw:zd:=vq (λf=>f= -1) yI (λf h=>by rw [h];constructor<;>omega) rfl (λ_ _ h=>h) (λbs V ⟨_,_,_,_,_,_,h⟩=>h.good)
theorem YM:∀ps:List (Nat×List Value),sel ps (List.replicate ps.length true)=ps
 |[]=>rfl
 |p::ps=>by unfold sel;rw [ae,mg];simp [YM ps]
theorem kx{w w':World}{bd bs:Nat}{S:Nat->Prop}{D:Dk}{q:Option Nat}(c:zg w bd S D)(g:¬S bs)(b:Fu D.fuse)(f:zu w' bs 0 q)(a:za (λk=>k=bs) w w'):bY (vq Fu Ho m1 m2 m3 m4) w w' bd bs S S D D 40 q:=
 ⟨c.kept a (λj d e=>g (by rw [<-show j=bs from e];exact d)),λ_ h=>.inl h,f,a.mono (λ_ h=>.inr h),eb _,by omega,rfl,b⟩
theorem vr{w w':World}{bd bs:Nat}{S:Nat->Prop}{D:Dk}{q:Option Nat}{r:Int}(c:zg w bd S D)(b:Fu D.fuse)(d:zu w' bs 0 q)(i:D.reads<=r)(h2:r<=D.reads+40)(a:zg w' bd S {D with reads:=r })(f:za (λk=>k=bd\/k=bs) w w'):bY (vq Fu Ho m1 m2 m3 m4) w w' bd bs S S D {D with reads:=r} 40 q:=
 ⟨a,λ_ h=>.inl h,d,f.mono (λj g=>g.elim (λe=>.inl (by rw [e];exact c.bdS)) .inr),i,h2,rfl,b⟩
theorem JG:gz (vq Fu Ho m1 m2 m3 m4) where
 live:=λw bd bs S D V key F z=>by
  have H:=F.fuse;have C:=F.sto;have y:=F.disk;have s:=F.live.ps;obtain⟨tree,n,m,es,bl,bo,q⟩:=F.live.rest;have K:=F.reads0;have ac:=F.reads1;have v:n<4611686018427387904:=by have:=F.few;rw [q.n0] at this;omega
  have t:∀r:Int,(vq Fu Ho m1 m2 m3 m4).Live {D with reads:=r} V:=λr=>⟨s,⟨tree,n,m,es,bl,bo,q⟩,F.live.big⟩
  cases c:zq key.data.toList with
  |false=>
   refine(Jz w bs (some bd) C key z c).mono ?_;rintro e w' ⟨f,h2,g⟩;exact⟨D,.slice none 0 0,0,S,f,kx y F.apart H h2 g,F.live,⟨λh=>absurd h (show ¬(2:Int)=0 by decide),λ_=>⟨none,0,rfl⟩⟩,λk h=>(by cases h),λ_=>rfl,λu h=>absurd h (show ¬(2:Int)=0 by decide)⟩
  |true=>
   have o:qV (D.look 1) tree n:=by have:=q.root;rw [<-qY s] at this;exact this
   have E:=q.forest.congr (λj _=>qY s j);have A:∀j∈bl,21<=j:=λj aa=>(q.range j (af _ aa)).1
   cases b:xY key (yS ⟨key,9223372036854775807⟩ es).head? with
   |false=>
    have l:yG true (qe V.vs key)=5:=by
     cases d:(yS ⟨key,9223372036854775807⟩ es).head? with
     |none=>rw [q.new_no v (λx G=>by rw [d] at G;cases G)];rfl
     |some x=>
      by_cases i:x.pl.key=key
      .rw [q.new_yes v d i];rw [d] at b
       have Z:x.mark=true:=by
        simp only [xY,i,mM,lI] at b
        cases P:x.mark with
        |true=>rfl
        |false=>rw [P] at b;cases b
       show cond x.mark 5 0=5;rw [Z];rfl
      .rw [q.new_no v (λae R=>by rw [d] at R;cases R;exact i)];rfl
    refine(Ub w bs bd S D C y F.apart K (by omega) tree n o key z c es bl E q.len A _ rfl b).mono ?_;rintro e w' ⟨f,h2,⟨r,g,X,N⟩,O⟩;rw [l];exact⟨{D with reads:=r},.slice none 0 0,0,S,f,vr y H h2 g (by omega) N O,t r,⟨λh=>absurd h (by decide),λ_=>⟨none,0,rfl⟩⟩,λk h=>(by cases h),λ_=>rfl,λu h=>absurd h (by decide)⟩
   |true=>
    cases d:(yS ⟨key,9223372036854775807⟩ es).head? with
    |none=>rw [d] at b;cases b
    |some x=>
     rw [d] at b;have i:x.pl.key=key:=by simp only [xY,aW,aR] at b;exact b.1
     have U:x.mark=false:=by simp only [xY,aW,iy] at b;exact b.2
     have B:=q.new_yes v d i;have G:=(q.forest.six.2.2.head_on d).1;have M:=q.body x G;obtain⟨Y,W,ad⟩:=q.pieces G;have l:yG true (qe V.vs key)=0:=by rw [B];show cond x.mark 5 0=0;rw [U];rfl
     refine(Uc w bs bd S D C y F.apart K (by omega) tree n o key z c es bl E q.len A x d b (bo x.pl) (M.chain.congr (λp _=>qY s p.at_)) Y M.head _ rfl M.size W (by omega)).mono ?_;rintro e w' ⟨⟨a,Q,f,L,I⟩,h2,⟨r,g,X,N⟩,O⟩;rw [l];refine⟨{D with reads:=r},_,x.pl.num,S,f,vr y H h2 g (by omega) N O,t r,⟨λ_=>⟨_,B,⟨a,Q,rfl,L,I⟩⟩,λh=>absurd rfl h⟩,λk h ab=>?_,λh=>absurd rfl h,λu _ T=>?_⟩;.have:=I k h;have:=y.lt k ab;omega
     .rw [B] at T;cases T;rfl
 shut:=λw bs key C z=>by
  have J:=C
  cases c:zq key.data.toList with
  |false=>exact(Jz w bs none J key z c).mono (λe w' ⟨f,h2,g⟩=>⟨none,0,f,h2,g⟩)
  |true=>exact(Ua w bs J key z c).mono (λe w' ⟨f,h2,g⟩=>⟨none,0,f,h2,g⟩)
theorem Uz:cI (vq Fu Ho m1 m2 m3 m4) where
 live:=λw bd bs S D V key c F y aa=>by
  have E:=F.fuse;have B:=F.sto;have v:=F.disk;have t:=F.live.ps;obtain⟨tree,n,m,es,bl,bo,s⟩:=F.live.rest;have J:=F.reads0;have ab:=F.reads1;have u:∀r:Int,(vq Fu Ho m1 m2 m3 m4).Live {D with reads:=r} V:=λr=>⟨t,⟨tree,n,m,es,bl,bo,s⟩,F.live.big⟩
  cases d:zq key.data.toList with
  |false=>
   refine(Ud w bs (some bd) B key c y d).mono ?_;rintro e w' ⟨g,h2,l⟩;exact⟨D,.slice none 0 0,S,g,kx v F.apart E h2 l,F.live,⟨λh=>absurd h (show ¬(2:Int)=0 by decide),λ_=>⟨none,0,rfl⟩⟩,λk h=>(by cases h)⟩
  |true=>
   have q:qV (D.look 1) tree n:=by have:=s.root;rw [<-qY t] at this;exact this
   have C:=s.forest.congr (λj _=>qY t j);have A:∀j∈bl,21<=j:=λj Y=>(s.range j (af _ Y)).1
   cases b:Gp key c (yS ⟨key,c⟩ es).head? with
   |false=>
    have o:yG true (yl V.vs key c)=5:=by
     cases i:(yS ⟨key,c⟩ es).head? with
     |none=>rw [s.at_no (λx z=>by rw [i] at z;cases z)];rfl
     |some x=>
      by_cases f:x.pl.key=key/\x.pl.num=c
      .rw [s.at_yes (s.forest.six.2.2.head_on i).1 f.1 f.2];rw [i] at b
       have X:x.mark=true:=by
        simp only [Gp,f.1,f.2,mM,lI] at b
        cases O:x.mark with
        |true=>rfl
        |false=>rw [O] at b;cases b
       show cond x.mark 5 0=5;rw [X];rfl
      .rw [s.at_no (λad Q=>by rw [i] at Q;cases Q;exact f)];rfl
    refine(at_none w bs bd S D B v F.apart J (by omega) tree n q key c y d es bl C s.len A _ rfl b).mono ?_;rintro e w' ⟨g,h2,⟨r,l,U,M⟩,N⟩;rw [o];exact⟨{D with reads:=r},.slice none 0 0,S,g,vr v E h2 l (by omega) M N,u r,⟨λh=>absurd h (by decide),λ_=>⟨none,0,rfl⟩⟩,λk h=>(by cases h)⟩
   |true=>
    cases i:(yS ⟨key,c⟩ es).head? with
    |none=>rw [i] at b;cases b
    |some x=>
     rw [i] at b;have f:x.pl.key=key/\x.pl.num=c:=by simp only [Gp,aW,aR] at b;exact b.1
     have R:x.mark=false:=by simp only [Gp,aW,iy] at b;exact b.2
     have z:=(s.forest.six.2.2.head_on i).1;have I:=s.at_yes z f.1 f.2;have L:=s.body x z;obtain⟨W,T,ac⟩:=s.pieces z;have o:yG true (yl V.vs key c)=0:=by rw [I];show cond x.mark 5 0=0;rw [R];rfl
     refine(U7 w bs bd S D B v F.apart J (by omega) tree n q key c y d es bl C s.len A x i b (bo x.pl) (L.chain.congr (λp _=>qY t p.at_)) W L.head _ rfl L.size T (by omega)).mono ?_;rintro e w' ⟨⟨a,P,g,K,G⟩,h2,⟨r,l,U,M⟩,N⟩;rw [o];refine⟨{D with reads:=r},_,S,g,vr v E h2 l (by omega) M N,u r,⟨λ_=>⟨_,I,⟨a,P,rfl,K,G⟩⟩,λh=>absurd rfl h⟩,λk h Z=>?_⟩;have:=G k h;have:=v.lt k Z;omega
 shut:=λw bs key c B y=>by
  have H:=B
  cases d:zq key.data.toList with
  |false=>exact(Ud w bs none H key c y d).mono (λe w' ⟨g,h2,l⟩=>⟨none,0,g,h2,l⟩)
  |true=>exact(U4 w bs H key c y d).mono (λe w' ⟨g,h2,l⟩=>⟨none,0,g,h2,l⟩)
end prog
namespace prog
open law (qq)
variable {bs:List (List Value)}{V V':qq}{ws:List (Nat×List Value)}{D:Dk}{Fu:Int->Prop}
theorem X2(bs:List (List Value))(j:Nat):Z5 bs j=bs.getD j zX:=by
 unfold Z5 Dk.look;by_cases h:j<bs.length
 .rw [aB ⟨by omega,by show (j:Int)<(bs.length:Int);omega⟩];simp [xz,h]
 .rw [aw (λa=>by have h2:(j:Int)<(bs.length:Int):=a.2;omega)];simp [List.getElem?_eq_none (mD h)]
def Ge(bs bs':List (List Value)):Prop:=bs'.length=bs.length/\∀j,(j<3\/21<=j)->bs'[j]? =bs[j]?
theorem Ge.rd{a:List (List Value)}(h:Ge bs a){j:Nat}(b:j<3\/21<=j):Z5 a j=Z5 bs j:=by
 rw [X2,X2,aA,aA,h.2 j b]
theorem yI.near{d:List (List Value)}(h:yI bs V)(n:Ge bs d):yI d V:=by
 obtain⟨tree,k,m,es,bl,bo,a⟩:=h;have b:∀j∈bl++yj es bo,21<=j:=λj e=>(a.range j e).1;refine⟨tree,k,m,es,bl,bo,by rw [n.1];exact a.few,by rw [n.rd (.inl (by omega))];exact a.root,a.n0,by rw [n.rd (.inl (by omega))];exact a.map,a.forest.congr (λj e=>n.rd (.inr (b j (af _ e)))),λx f=>?_,a.nodup,by rw [n.1];exact a.range,by rw [n.1];exact a.taken,a.vers,by rw [n.rd (.inl (by omega))];exact a.head,a.good⟩;have c:=a.body x f;exact⟨c.chain.congr (λp g=>n.rd (.inr (b p.at_ (av _ (gj.2 ⟨x,f,au.2 ⟨p,g,rfl⟩⟩))))),c.head,c.size,c.few⟩
structure X3 (N:Nat) (ws:List (Nat×List Value)):Prop where
 nodup:(ws.map Prod.fst).Nodup
 few:ws.length<=18
 some:0<ws.length
 keys:∀p∈ws,p.1<N/\p.1≠0/\(p.1<3\/21<=p.1)
structure YN (bs:List (List Value)) (ws:List (Nat×List Value)) (V:qq):Prop where
 ok:X3 bs.length ws
 head:bs[0]? =some (zm (zK ws))
 log:∀i (h:i<ws.length),bs[3+i]? =some ws[i].2
 rest:yI ((zn bs ws).set 0 jb) V
def kz(bs:List (List Value))(V:qq):Prop:=yI bs V\/∃ws,YN bs ws V
def uo(D:Dk)(P:qq->Prop):Prop:=D.ps.length<=18/\∀ks,∃V,P V/\kz (zn D.bs (sel D.ps ks)) V
theorem YO(bs:List (List Value))(a:List (Nat×List Value))(h:∀p∈a,3<=p.1/\p.1<21):Ge bs (zn bs a):=
 ⟨zC _ _,λj d=>yq a bs (λc=>by
  obtain⟨p,b,rfl⟩:=au.1 c
  have:=h p b;omega)⟩
theorem YP{j:Nat}(h:j∈ws.map Prod.fst):∃b,(j,b)∈ws:=by
 obtain⟨p,a,rfl⟩:=au.1 h;exact⟨p.2,a⟩
theorem Z9(bs:List (List Value))(ws d:List (Nat×List Value))(f:(ws.map Prod.fst).Nodup)(h:∀p∈ws,p.1<bs.length)(i:∀p∈d,p∈ws):zn (zn bs d) ws=zn bs ws:=by
 refine List.ext_getElem? λj=>?_;by_cases a:j∈ws.map Prod.fst
 .obtain⟨b,e⟩:=YP a;have c:=h _ e;rw [jC ws _ f e (by rw [zC];exact c),jC ws _ f e c]
 .rw [yq ws _ a,yq ws _ a,yq d _ (λk=>a (by
   obtain⟨p,g,rfl⟩:=au.1 k
   exact au.2 ⟨p,i p g,rfl⟩))]
theorem YN.part(h:YN bs ws V)(b:List (Nat×List Value))(d:∀p∈b,p∈ws):YN (zn bs b) ws V:=by
 have a:∀j,(j=0\/(3<=j/\j<21))->(zn bs b)[j]? =bs[j]? :=λj k=>yq b bs (λg=>by
  obtain⟨p,c,rfl⟩:=au.1 g
  have:=h.ok.keys p (d p c);omega)
 have e:=zC b bs;refine⟨⟨h.ok.nodup,h.ok.few,h.ok.some,λp c=>by rw [e];exact h.ok.keys p c⟩,by rw [a 0 (.inl rfl)];exact h.head,λi f=>?_,?_⟩
 .have:=h.ok.few;rw [a (3+i) (.inr (by omega))];exact h.log i f
 .rw [Z9 bs ws b h.ok.nodup (λp c=>(h.ok.keys p c).1) d];exact h.rest
theorem fm:∀(ws:List (Nat×List Value)) (D:Dk),(∀p∈ws,p.1<D.bs.length)->∃k f,(qm D ws).2={D with ps:=D.ps++ws.take k,fuse:=f}/\((qm D ws).1=true->ws.take k=ws)/\((qm D ws).1=false->f=0)
 |[],D,_=>⟨0,D.fuse,by simp [qm],by simp,by simp [qm]⟩
 |p::ws,D,hk=>by
  unfold qm;have j:=hk p (al ..);by_cases b:D.fuse=0
  .have e:D.writes (p.1:Int)=false:=decide_eq_false (λa=>a.2.2 b);rw [aw (by rw [e];simp)];exact⟨0,0,by simp [<-b],by simp,λ_=>rfl⟩
  .have a:(0:Int)<=(p.1:Int)/\(p.1:Int)<(D.bs.length:Int)/\D.fuse≠0:=⟨by omega,by omega,b⟩;have e:D.writes (p.1:Int)=true:=aJ a;have i:D.write (p.1:Int) p.2={D with ps:=D.ps++[(p.1,p.2)],fuse:=qx D.fuse}:=by unfold Dk.write;rw [aB a];simp
   rw [aB e,i];obtain⟨k,f,d,h2,g⟩:=fm ws {D with ps:=D.ps++[(p.1,p.2)],fuse:=qx D.fuse} (λq c=>hk q (am _ c));refine⟨k+1,f,?_,λh=>by rw [iz,h2 h],g⟩;rw [d];simp
theorem JH(p:Nat×List Value)(ks:List Bool):sel [p] ks=[]\/sel [p] ks=[p]:=by
 unfold sel;split;.exact .inr rfl
 .exact .inl rfl
theorem Zs(g:D.ps=[])(j:0<D.bs.length)(b:List Value):
 ((xv D b).1=true->∃f,(xv D b).2={D with bs:=D.bs.set 0 b,fuse:=f })/\
 ((xv D b).1=false->(xv D b).2={D with fuse:=0}\/(xv D b).2={D with ps:=[(0,b)],fuse:=0 }):=by
 unfold xv;by_cases d:D.fuse=0
 .have e:D.writes 0=false:=decide_eq_false (λc=>c.2.2 d);rw [aw (by rw [e];simp)];exact⟨λh=>by simp at h,λ_=>.inl (by rw [<-d])⟩
 .have c:(0:Int)<=0/\(0:Int)<(D.bs.length:Int)/\D.fuse≠0:=⟨by omega,by omega,d⟩;have e:D.writes 0=true:=aJ c;have i:D.write 0 b={D with ps:=[(0,b)],fuse:=qx D.fuse}:=by unfold Dk.write;rw [aB c,g];rfl
  rw [aB e,i];by_cases a:qx D.fuse=0
  .refine⟨λh=>by simp [a] at h,λ_=>.inr ?_⟩;unfold Dk.flush;rw [aB a,a]
  .refine⟨λ_=>⟨qx (qx D.fuse),?_⟩,λh=>by simp [a] at h⟩;unfold Dk.flush;rw [aw a];show Dk.mk (zn D.bs [(0,b)]) [] _ _=Dk.mk _ D.ps _ _;rw [g];rfl
theorem bK(c:D.ps=[])(h:YN D.bs ws V):
 ((qN D ws).1=true->∃f,(qN D ws).2={D with bs:=(zn D.bs ws).set 0 jb,fuse:=f })/\
 ((qN D ws).1=false->(qN D ws).2.fuse=0/\(qN D ws).2.bs.length=D.bs.length/\(qN D ws).2.reads=D.reads/\uo (qN D ws).2 (λm=>m=V)):=by
 have d:=h.ok.keys;have x:=(et.1 h.head).1;obtain⟨k,f,a,A,y⟩:=fm ws D (λp c=>(d p c).1);rw [c,aK] at a;have j:∀ks,YN (zn D.bs (sel (ws.take k) ks)) ws V:=λks=>h.part _ (λp z=>aP (dg _ _ p z));have g:uo {D with ps:=ws.take k,fuse:=0} (λm=>m=V):=⟨by show (ws.take k).length<=18;have:=h.ok.few;have:=List.length_take_le' k ws;omega,λks=>⟨V,rfl,.inr ⟨ws,j ks⟩⟩⟩;unfold qN xJ;by_cases b:(qm D ws).1=true/\(qm D ws).2.fuse≠0
 .rw [aB b];have i:=A b.1
  have n:(qm D ws).2.flush={D with bs:=zn D.bs ws,ps:=[],fuse:=qx f}:=by
   have v:f≠0:=by have:=b.2;rw [a] at this;exact this
   rw [a,i];unfold Dk.flush;rw [aw v]
  rw [n];have o:=Zs (D:={D with bs:=zn D.bs ws,ps:=[],fuse:=qx f }) rfl (by show 0<(zn D.bs ws).length;rw [zC];exact x) jb;have l:=h.part ws (λ_ h=>h);refine⟨λi=>?_,λq=>?_⟩
  .obtain⟨w,t⟩:=o.1 i;exact⟨w,by rw [t,c]⟩
  .rcases o.2 q with e|e<;>rw [e]
   .refine⟨rfl,zC _ _,rfl,aj _,λks=>⟨V,rfl,.inr ⟨ws,?_⟩⟩⟩;exact l
   .refine⟨rfl,zC _ _,rfl,by show (1:Nat)<=18;omega,λks=>⟨V,rfl,?_⟩⟩;show kz (zn (zn D.bs ws) (sel [(0,jb)] ks)) V;rcases JH (0,jb) ks with e|e<;>rw [e]
    .exact .inr ⟨ws,l⟩
    .exact .inl h.rest
 .rw [aw b];refine⟨λh=>by simp at h,λ_=>?_⟩
  have u:(qm D ws).2.fuse=0:=by
   by_cases s:(qm D ws).1=true;.exact Classical.byContradiction (λh2=>b ⟨s,h2⟩)
   .rw [a];exact y (by simpa using s)
  have r:f=0:=by rw [a] at u;exact u
  show (qm D ws).2.fuse=0/\(qm D ws).2.bs.length=D.bs.length/\(qm D ws).2.reads=D.reads/\uo (qm D ws).2 (λm=>m=V);rw [a,r];exact⟨rfl,rfl,rfl,g⟩
def jT(bs:List (List Value))(ws:List (Nat×List Value)):List (List Value):=(zn bs (qh ws)).set 0 (zm (zK ws))
theorem X5(i:Nat)(h:i<ws.length):(3+i,ws[i].2)∈qh ws:=by
 rw [<-vK ws i h];exact ai _
theorem Qa(ws:List (Nat×List Value)):((qh ws).map Prod.fst).Nodup:=by
 rw [List.nodup_iff_pairwise_ne,eB];intro i j a b c;simp only [ez,xQ] at a b;rw [ia,ia,vK ws i a,vK ws j b];show 3+i≠3+j;omega
theorem KS(a:X3 bs.length ws)(f:21<=bs.length)(c:yI (up bs ws) V):YN (jT bs ws) ws V:=by
 have d:(jT bs ws).length=bs.length:=by unfold jT;rw [ew,zC]
 refine⟨⟨a.nodup,a.few,a.some,λp b=>by rw [d];exact a.keys p b⟩,?_,λi e=>?_,c⟩
 .unfold jT;rw [lA (by rw [zC];omega)]
 .unfold jT;have:=a.few;rw [iK (by omega)];exact jC _ _ (Qa ws) (X5 i e) (by omega)
theorem UA(i:D.ps=[])(y:yI D.bs V)(n:X3 D.bs.length ws)(E:21<=D.bs.length)(A:YN (jT D.bs ws) ws V'):
 ((qO D ws).1=true->∃f,(qO D ws).2={D with bs:=jT D.bs ws,fuse:=f })/\
 ((qO D ws).1=false->(qO D ws).2.fuse=0/\(qO D ws).2.bs.length=D.bs.length/\(qO D ws).2.reads=D.reads/\uo (qO D ws).2 (λF=>F=V\/F=V')):=by
 have j:=vi n.few;obtain⟨k,f,a,C,B⟩:=fm (qh ws) D (λp c=>by have:=j p c;omega);rw [i,aK] at a;have b:∀l:List (Nat×List Value),(∀p∈l,p∈qh ws)->yI (zn D.bs l) V:=λl c=>y.near (YO _ _ (λp i=>j p (c p i)));unfold qO xJ;by_cases g:(qm D (qh ws)).1=true/\(qm D (qh ws)).2.fuse≠0
 .rw [aB g];have m:=C g.1
  have o:(qm D (qh ws)).2.flush={D with bs:=zn D.bs (qh ws),ps:=[],fuse:=qx f}:=by
   have x:f≠0:=by have:=g.2;rw [a] at this;exact this
   rw [a,m];unfold Dk.flush;rw [aw x]
  rw [o];have q:=Zs (D:={D with bs:=zn D.bs (qh ws),ps:=[],fuse:=qx f }) rfl (by show 0<(zn D.bs (qh ws)).length;rw [zC];omega) (zm (zK ws));have d:yI (zn D.bs (qh ws)) V:=b _ (λ_ h=>h);refine⟨λm=>?_,λr=>?_⟩
  .obtain⟨z,v⟩:=q.1 m;exact⟨z,by rw [v,i];rfl⟩
  .rcases q.2 r with e|e<;>rw [e]
   .exact⟨rfl,zC _ _,rfl,aj _,λks=>⟨V,.inl rfl,.inl d⟩⟩
   .refine⟨rfl,zC _ _,rfl,by show (1:Nat)<=18;omega,λks=>?_⟩;show ∃s,_/\kz (zn (zn D.bs (qh ws)) (sel [(0,zm (zK ws))] ks)) s;rcases JH (0,zm (zK ws)) ks with e|e<;>rw [e]
    .exact⟨V,.inl rfl,.inl d⟩
    .exact⟨V',.inr rfl,.inr ⟨ws,A⟩⟩
 .rw [aw g];refine⟨λh=>by simp at h,λ_=>?_⟩
  have w:(qm D (qh ws)).2.fuse=0:=by
   by_cases u:(qm D (qh ws)).1=true;.exact Classical.byContradiction (λh2=>g ⟨u,h2⟩)
   .rw [a];exact B (by simpa using u)
  have t:f=0:=by rw [a] at w;exact w
  show (qm D (qh ws)).2.fuse=0/\(qm D (qh ws)).2.bs.length=D.bs.length/\(qm D (qh ws)).2.reads=D.reads/\uo (qm D (qh ws)).2 _;rw [a,t];exact⟨rfl,rfl,rfl,by show ((qh ws).take k).length<=18;have:=n.few;have:=List.length_take_le' k (qh ws);rw [xQ] at this;omega,λks=>⟨V,.inl rfl,.inl (b _ (λp c=>aP (dg _ _ p c)))⟩⟩
theorem X6(g:D.ps=[])(o:yI D.bs V)(i:X3 D.bs.length ws)(b:21<=D.bs.length)(d:yI (up D.bs ws) V'):
 ((qj D ws).1=true->∃f,(qj D ws).2={D with bs:=up D.bs ws,fuse:=f })/\
 ((qj D ws).1=false->(qj D ws).2.fuse=0/\(qj D ws).2.bs.length=D.bs.length/\(qj D ws).2.reads=D.reads/\uo (qj D ws).2 (λm=>m=V\/m=V')):=by
 have a:=KS i b d;have k:=UA g o i b a;unfold qj
 cases c:(qO D ws).1 with
 |false=>
  rw [aw (by simp)];exact⟨λh=>(by rw [c] at h;cases h),λ_=>k.2 c⟩
 |true=>
  rw [aB rfl];obtain⟨f,e⟩:=k.1 c;rw [e];have j:=bK (D:={D with bs:=jT D.bs ws,fuse:=f }) (ws:=ws) (V:=V') g a;have n:(jT D.bs ws).length=D.bs.length:=by unfold jT;rw [ew,zC]
  refine⟨λh=>j.1 h,λh=>?_⟩;obtain⟨r,h2,p,l⟩:=j.2 h;exact⟨r,h2.trans n,p,l.1,λks=>by obtain⟨m,s,q⟩:=l.2 ks;exact⟨m,.inr s,q⟩⟩
theorem YQ(a:∀f,Fu f->Fu (qx f))(h:Fu D.fuse)(i:Int)(b:List Value):Fu (D.write i b).fuse:=by
 unfold Dk.write;split;.exact a _ h
 .exact h
theorem bL(a:∀f,Fu f->Fu (qx f))(h:Fu D.fuse):Fu D.flush.fuse:=by
 unfold Dk.flush;split;.exact h
 .exact a _ h
theorem gk(a:∀f,Fu f->Fu (qx f)):∀(ws:List (Nat×List Value)) (D:Dk),Fu D.fuse->Fu (qm D ws).2.fuse
 |[],D,h=>h
 |p::ws,D,h=>by
  unfold qm;split;.exact gk a ws _ (YQ a h _ _)
  .exact h
theorem bM(a:∀f,Fu f->Fu (qx f)){r:Bool×Dk}(h:Fu r.2.fuse)(b:List Value):Fu (xJ r b).2.fuse:=by
 unfold xJ;split
 .unfold xv;split;.exact bL a (YQ a (bL a h) _ _)
  .exact bL a h
 .exact h
theorem KT(a:∀f,Fu f->Fu (qx f))(h:Fu D.fuse)(ws:List (Nat×List Value)):Fu (qj D ws).2.fuse:=by
 have b:Fu (qO D ws).2.fuse:=bM a (gk a _ D h) _;unfold qj;split;.exact bM a (gk a ws _ b) _
 .exact b
def Gr(D:Dk)(V V':qq)(bd:Nat)(c kk:Int)(D':Dk)(q:Option Nat):Prop:=
 (c=0/\q=some bd/\∃bs' f,bs'.length=D.bs.length/\yI bs' V'/\D'={D with bs:=bs',reads:=D.reads+kk,fuse:=f })\/
 (c=7/\q=none/\D'.fuse=0/\D'.bs.length=D.bs.length/\D'.reads=D.reads+kk/\uo D' (λU=>U=V\/U=V'))
def YR(D D':Dk):Prop:=∀Fu:Int->Prop,(∀f,Fu f->Fu (qx f))->Fu D.fuse->Fu D'.fuse
theorem YR.refl(D:Dk)(r:Int):YR D {D with reads:=r}:=λ_ _ h=>h
theorem UB{w w':World}{bs bd:Nat}{k:Int}{S:Nat->Prop}{a c:Int}(l:D.ps=[])(x:64<=D.bs.length)(n:yI D.bs V)(m:X3 D.bs.length ws)(d:yI (up D.bs ws) V')(h:cB w w' bs bd k S (qj {D with reads:=D.reads+a} ws) c):
 ∃D' q,vR w w' bs bd S D' k q/\Gr D V V' bd c a D' q/\YR D D':=by
 have g:=X6 (D:={D with reads:=D.reads+a }) (V:=V) (V':=V') l n m (by show 21<=D.bs.length;omega) d;have j:YR D (qj {D with reads:=D.reads+a} ws).2:=λFu p h=>KT (D:={D with reads:=D.reads+a }) p h ws;obtain⟨i,h2,o,t⟩:=h;generalize qj {D with reads:=D.reads+a} ws=y at*;obtain⟨b,D'⟩:=y;refine⟨D',_,⟨h2,o,t⟩,?_,j⟩
 cases b with
 |true=>
  obtain⟨f,e⟩:=g.1 rfl;exact .inl ⟨i,rfl,_,f,ji _ _,d,e⟩
 |false=>
  obtain⟨r,v,s,u⟩:=g.2 rfl;exact .inr ⟨i,rfl,r,v,s,u⟩
end prog
end Go.Proofs.YtcoengihaobddaaGreatDoor
