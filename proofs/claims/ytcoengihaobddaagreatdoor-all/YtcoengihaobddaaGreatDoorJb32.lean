/- Part 32 of 36 of a proof: Rep1, Rep2, Mng1, Mng2, Fall1, Mng3 -/
import Derived.Test.YtcoengihaobddaaGreatDoorJb26
set_option maxHeartbeats 8000000
set_option linter.unusedVariables false
set_option linter.unusedSimpArgs false
set_option maxRecDepth 8000
namespace Go.Proofs.YtcoengihaobddaaGreatDoor
open Go.RowKit disk ref
namespace prog
open law (qE)
open keys (zp)
variable {l es:List En}{rd:Nat->List Value}{bo:Pl->List zv}{j:Nat}{key:ByteArray}{x:En}
def Z5(bs:List (List Value))(j:Nat):List Value:=Dk.look ⟨bs,[], -1,0⟩ (j:Nat)
theorem qW{D:Dk}(a:D.ps=[])(j:Nat):D.look (j:Nat)=Z5 D.bs j:=by unfold Z5 Dk.look;rw [a]
def yg(es:List En)(bo:Pl->List zv):List Nat:=(es.map λx=>(bo x.pl).map zv.at_).flatten
def y5(bo:Pl->List zv)(x:En):zB:=⟨x.pl.key,x.pl.num,x.mark,((bo x.pl).map zv.l).flatten⟩
structure Uy (rd:Nat->List Value) (bo:Pl->List zv) (x:En):Prop where
 chain:yZ rd (bo x.pl)
 head:xo (bo x.pl)=x.at_
 size:((bo x.pl).map zv.l).flatten.length=x.size
 few:(bo x.pl).length<=(x.size+99)/100
structure vY (bs:List (List Value)) (V:qE) (tree n:Nat) (m:List UInt8) (es:List En) (bl:List Nat) (bo:Pl->List zv):Prop where
 few:bs.length<=1000
 root:qT (Z5 bs 1) tree n
 n0:V.n0=n
 map:qF (Z5 bs 2) m
 forest:qY (Z5 bs) tree es bl
 body:∀x∈es,Uy (Z5 bs) bo x
 nodup:(bl++yg es bo).Nodup
 range:∀j∈bl++yg es bo,21<=j/\j<bs.length
 taken:∀i,i+21<bs.length->(zT m i=true↔i+21∈bl++yg es bo)
 vers:V.vs.Perm (es.map (y5 bo))
 head:∃p:Pg,p.Ok/\Z5 bs 0=zl p/\p.items.length=0
 good:law.Good V
theorem ki:∀(l r:List Nat),l.Nodup->(∀x∈l,x∈r)->l.length<=r.length
 |[],_,_,_=>by simp
 |a::l,r,hn,hs=>by rw [iM] at hn;have d:=ki l (r.erase a) hn.2 (λx b=>(List.mem_erase_of_ne (show x≠a from λe=>hn.1 (e▸b))).2 (hs x (am _ b)));have c:=hs a (al ..);have f:=l9 c;rw [List.length_erase_of_mem c] at d;rw [ae];omega
theorem fm{l:List Nat}{N:Nat}(a:l.Nodup)(b:∀j∈l,21<=j/\j<N):l.length<=N-21:=by
 have:=ki l (List.range' 21 (N-21)) a (λx c=>by rw [List.mem_range'_1];have:=b x c;omega);simpa using this
theorem YK{h:Nat}:∀(a:List (Pl×Tr h)),(∀c∈a,c.2.ents.length<=6*c.2.blocks.length)->(zI a).length<=6*(zE a).length
 |[],_=>by simp [zE,zI]
 |c::a,hc=>by have d:=hc c (al ..);have h2:=YK a (λx b=>hc x (am _ b));rw [qA,zr,ag,ag];omega
theorem Tr.Good.six:∀{h:Nat} {t:Tr h},t.Good->t.items.length<=6->t.ents.length<=6*t.blocks.length
 |0,t,_,hl=>by show t.2.length<=6*1;have h2:t.2.length=t.items.length:=rfl;omega
 |h+1,t,g,hl=>by have:=YK t.2 (λc a=>(g.kids.good c a).1.six (g.kids.good c a).2.1);rw [Tr.blocks_succ,Tr.ents_succ,ae];omega
theorem qY.six{b:Nat}{bs:List Nat}(h:qY rd b es bs):es.length<=6*bs.length/\2*bs.length<=es.length+1/\yL es:=by
 rcases h with⟨rfl,rfl,rfl⟩|⟨h,t,a,c,rfl,rfl,rfl⟩;.exact⟨by simp,by simp,List.Pairwise.nil⟩
 .exact⟨a.good.six a.hi,a.few,a.srt⟩
theorem qY.congr{b:Nat->List Value}{a:Nat}{bs:List Nat}(h:qY rd a es bs)(e:∀j∈bs,b j=rd j):qY b a es bs:=by
 rcases h with h|⟨h,t,d,c,rfl,rfl,rfl⟩;.exact .inl h
 .exact .inr ⟨h,t,d,c.congr e,rfl,rfl,rfl⟩
theorem YL:∀(es:List En),(∀x∈es,Uy rd bo x)->es.length+(yg es bo).length<=zs (es.map (y5 bo))
 |[],_=>by simp [yg]
 |x::es,h=>by
  have a:=h x (al ..);have h2:=YL es (λf b=>h f (am _ b));have e:=a.few
  have c:zs ((x::es).map (y5 bo))=yM x.size+zs (es.map (y5 bo)):=by unfold zs;rw [aO,aO,List.sum_cons];show yM ((bo x.pl).map zv.l).flatten.length+_=_;rw [a.size]
  have d:(yg (x::es) bo).length=(bo x.pl).length+(yg es bo).length:=by simp [yg]
  rw [c,d,ae];unfold yM;omega
theorem vY.len{bs:List (List Value)}{V:qE}{tree n:Nat}{m:List UInt8}{bl:List Nat}(h:vY bs V tree n m es bl bo):bl.length<=979:=by
 have a:=fm h.nodup h.range;have:=h.few;rw [ag] at a;omega
theorem gi:j∈yg es bo↔∃x∈es,j∈(bo x.pl).map zv.at_:=by
 unfold yg;rw [eW];constructor
 .rintro⟨l,c,b⟩;obtain⟨x,a,rfl⟩:=au.1 c;exact⟨x,a,b⟩
 .rintro⟨x,a,b⟩;exact⟨_,au.2 ⟨x,a,rfl⟩,b⟩
theorem vY.low{bs:List (List Value)}{V:qE}{tree n:Nat}{m:List UInt8}{bl:List Nat}(h:vY bs V tree n m es bl bo):∀x∈es,(¬x.pl.lt ye=true)/\1<=x.pl.num/\x.pl.num<=n/\zp x.pl.key.data.toList=true:=λx g=>by
 have d:y5 bo x∈V.vs:=h.vers.mem_iff.2 (au.2 ⟨x,g,rfl⟩);have e:=h.good.key _ d;have c:=h.good.num _ d;rw [h.n0] at c;refine⟨λa=>?_,c.1,c.2,e⟩;rw [Pl.lt_iff] at a;have f:zp (ye.key).data.toList=false:=by decide
 rcases a with a|⟨a,_⟩
 .have h2:∀k:ByteArray,qu k ye.key=false:=by
   intro k;show qB k.data.toList []=false;cases k.data.toList<;>rfl
  rw [h2] at a;cases a
 .have b:zp x.pl.key.data.toList=true:=e;rw [a,f] at b;cases b
structure vm (D:Dk) (V:qE) (tree n:Nat) (m:List UInt8) (es:List En) (bl:List Nat) (bo:Pl->List zv) (key:ByteArray) (mark:Bool) (l:List UInt8) (f:Nat) (C1:Ck) (m1:List UInt8) (nb1:List Nat) (root':Nat) (C2:Ck) (m2:List UInt8) (pb nb:List Nat):Prop where
 rep:vY D.bs V tree n m es bl bo
 ps:D.ps=[]
 big:64<=D.bs.length
 body:Jv D fZ C1 m m1 f (zV l) nb1
 ins:dn D C1 C2 m1 m2 root' ⟨⟨key,(n:Int)+1⟩,mark,l.length,f⟩ es bl pb nb
 key:zp key.data.toList=true
 len:l.length<=300
 bare:mark=true->l=[]
 num:n<4611686018427387904
section
variable {D:Dk} {V:qE} {tree n:Nat} {m:List UInt8} {es:List En} {bl:List Nat} {bo:Pl->List zv} {key:ByteArray} {mark:Bool} {l:List UInt8} {f:Nat} {C1:Ck} {m1:List UInt8} {nb1:List Nat} {root':Nat} {C2:Ck} {m2:List UInt8} {pb nb:List Nat}
theorem vm.old(h:vm D V tree n m es bl bo key mark l f C1 m1 nb1 root' C2 m2 pb nb)(b:j∈bl++yg es bo):zT m (j-21)=true/\zT m1 (j-21)=true/\j∉nb1/\j∉nb:=by
 have c:=h.rep.range j b;have a:=(h.rep.taken (j-21) (by omega)).2 (by rw [show j-21+21=j from by omega];exact b);have h2:=h.body.stp.grew.keeps a;exact⟨a,h2,h.body.stp.grew.apart a,h.ins.stp.grew.apart h2⟩
theorem vm.mid(h:vm D V tree n m es bl bo key mark l f C1 m1 nb1 root' C2 m2 pb nb)(a:j∈nb1):21<=j/\j<D.bs.length/\j∉bl++yg es bo/\j∉nb:=by
 have b:=h.body.stp.grew.fresh j a;refine⟨b.1,b.2.1,λc=>(h.old c).2.2.1 a,?_⟩;refine h.ins.stp.grew.apart ?_;rw [h.body.stp.grew.taken,show j-21+21=j from by omega];simp [a]
theorem vm.new(h:vm D V tree n m es bl bo key mark l f C1 m1 nb1 root' C2 m2 pb nb)(b:j∈nb):21<=j/\j<D.bs.length:=by
 have a:=h.ins.stp.grew.fresh j b;exact⟨a.1,a.2.1⟩
theorem vm.keys(h:vm D V tree n m es bl bo key mark l f C1 m1 nb1 root' C2 m2 pb nb)(b:C2.full=false):∀k∈(C2.put 1 (zl (zw root' (n+1)))).keys,k∈[1,2]++(nb1++(pb++nb)):=λk d=>by
 have c:C1.full=false:=by
  cases a:C1.full with
  |false=>rfl
  |true=>rw [h.ins.stp.full a] at b;cases b
 rcases (xh C2 1 _ k).1 d with a|a
 .rcases h.ins.stp.keys k a with a|a|a|a|a
  .rcases h.body.stp.keys k a with a|a|a|a|a;.exact nomatch a
   .exact nomatch a
   .simp [a]
   .simp [a]
   .rw [c] at a;exact nomatch a.2
  .simp [a]
  .simp [a]
  .simp [a]
  .rw [b] at a;exact nomatch a.2
 .simp [a]
theorem vm.klt(h:vm D V tree n m es bl bo key mark l f C1 m1 nb1 root' C2 m2 pb nb)(c:C2.full=false):∀k∈(C2.put 1 (zl (zw root' (n+1)))).keys,k<D.bs.length:=λk b=>by
 have:=h.keys c k b;have d:=h.big;rcases ah.1 this with a|a;.simp at a;omega
 .rcases ah.1 a with a|a;.exact(h.mid a).2.1
  .rcases ah.1 a with a|a;.exact(h.rep.range k (af _ (h.ins.sub k a))).2
   .exact(h.new a).2
theorem Gc{h:Nat}(b:3^h<=979):h<=6:=by
 rcases iJ 6 h with a|a
 .have:3^7<=3^h:=lf (by omega) a;omega
 .exact a
theorem vm.fits(h:vm D V tree n m es bl bo key mark l f C1 m1 nb1 root' C2 m2 pb nb)(g:uv V.vs (yM l.length) D.bs.length=true):((C2.put 1 (zl (zw root' (n+1)))).full||decide (18<(C2.put 1 (zl (zw root' (n+1)))).ws.length))=false:=by
 have t:=h.body.nl;rw [yS] at t;have u:=h.len
 cases k:C2.full with
 |true=>
  exfalso;have p:=h.ins.chn.full k
  have i:=ki (List.range' 21 (D.bs.length-21)) ((bl++yg es bo)++(nb1++nb)) List.nodup_range' (λx w=>by
   rw [List.mem_range'_1] at w;have c:=p (x-21) (by omega);rw [h.ins.stp.grew.taken,h.body.stp.grew.taken,show x-21+21=x from by omega] at c;simp only [iY,aR] at c;rcases c with(c|c)|c
   .have:=(h.rep.taken (x-21) (by omega)).1 c;rw [show x-21+21=x from by omega] at this;exact af _ this
   .exact av _ (af _ c)
   .exact av _ (av _ c))
  rw [List.length_range',ag,ag,ag] at i;have h2:=h.rep.forest.six.2.1;have C:=h.ins.nl;have z:=YL es h.rep.body;rw [<-Qh h.rep.vers] at z;unfold uv yM at g;simp only [aR] at g;omega
 |false=>
  rw [qI,k,Bool.false_or,decide_eq_false_iff_not];obtain⟨o,hF,q,B,A,r⟩:=h.ins.tree k;have i:=ki _ _ (yJ h.ins.chn.nodup 1 (zl (zw root' (n+1)))) (h.keys k);rw [Ck.keys_len] at i;simp only [ag,ae,hO] at i
  have s:o.length<=979:=by
   have:=fm (l:=o) (N:=D.bs.length) (q.nodup_iff.2 (aN.2 ⟨(aN.1 h.rep.nodup).1,h.ins.stp.grew.nodup,λa y b v e=>(h.old (af _ y)).2.2.2 (e▸v)⟩)) (λj d=>by
    rcases ah.1 (q.mem_iff.1 d) with d|d;.exact h.rep.range j (af _ d)
    .exact h.new d)
   have:=h.rep.few;omega
  have:=Gc (aD r s);omega
theorem Z6(a:D.ps=[]){ws:List (Nat×List Value)}:Z5 (un D.bs ws) j=Dk.look {D with bs:=un D.bs ws} (j:Nat):=by
 unfold Z5 Dk.look;rw [a]
theorem vm.rest(h:vm D V tree n m es bl bo key mark l f C1 m1 nb1 root' C2 m2 pb nb)(U:((C2.put 1 (zl (zw root' (n+1)))).full||decide (18<(C2.put 1 (zl (zw root' (n+1)))).ws.length))=false):∃t c,vY (un D.bs (C2.put 1 (zl (zw root' (n+1)))).ws) (V.add key mark l) root' (n+1) m2 (yu ⟨⟨key,(n:Int)+1⟩,mark,l.length,f⟩ es) t c:=by
 simp only [lg,decide_eq_false_iff_not,qI] at U;obtain⟨S,ay⟩:=U
 have Y:C1.full=false:=by
  cases u:C1.full with
  |false=>rfl
  |true=>rw [h.ins.stp.full u] at S;cases S
 obtain⟨t,hF,R,_⟩:=h.ins.tree S;obtain⟨ps,ap,an,ab,ac⟩:=h.body.chain Y;have ao:=h.big;have aa:=yJ h.ins.chn.nodup 1 (zl (zw root' (n+1)))
 have I:∀j:Nat,j≠0->(j<3\/21<=j)->Z5 (un D.bs (C2.put 1 (zl (zw root' (n+1)))).ws) j=(C2.put 1 (zl (zw root' (n+1)))).look D (j:Nat):=λj W d=>by rw [Z6 h.ps];exact Ya h.ps aa (by omega) (h.klt S) W d
 have r:∀j:Nat,j≠0->j≠1->(j<3\/21<=j)->Z5 (un D.bs (C2.put 1 (zl (zw root' (n+1)))).ws) j=C2.look D (j:Nat):=λj W u d=>by rw [I j W d,zZ _ _ _ _ _ (by omega)]
 have ai:∀x∈es,x.pl≠⟨key,(n:Int)+1⟩:=λx o e=>by have:=(h.rep.low x o).2.2.1;rw [e] at this;simp only at this;omega
 refine⟨t,λp=>if p=⟨key,(n:Int)+1⟩ then ps else bo p,?_⟩;have O:∀x∈es,(λp=>if p=(⟨key,(n:Int)+1⟩:Pl) then ps else bo p) x.pl=bo x.pl:=λx o=>aw (ai x o);have q:(λp=>if p=(⟨key,(n:Int)+1⟩:Pl) then ps else bo p) ⟨key,(n:Int)+1⟩=ps:=aB rfl;generalize (λp=>if p=(⟨key,(n:Int)+1⟩:Pl) then ps else bo p)=c at*
 have J:yg es c=yg es bo:=by unfold yg;congr 1;exact mj (λx o=>by rw [O x o])
 have T:(yg (yu ⟨⟨key,(n:Int)+1⟩,mark,l.length,f⟩ es) c).Perm (nb1++yg es bo):=by
  have u:(yg (yu ⟨⟨key,(n:Int)+1⟩,mark,l.length,f⟩ es) c).Perm (yg (⟨⟨key,(n:Int)+1⟩,mark,l.length,f⟩::es) c):=((j7 _ es).map _).flatten
  have h2:yg (⟨⟨key,(n:Int)+1⟩,mark,l.length,f⟩::es) c=ps.map zv.at_++yg es bo:=by rw [<-J];unfold yg;rw [aO,aU,q]
  rw [h2] at u;exact u.trans (ac.append_right _)
 have K:(t++yg (yu ⟨⟨key,(n:Int)+1⟩,mark,l.length,f⟩ es) c).Perm ((bl++yg es bo)++(nb1++nb)):=by refine(R.append T).trans ?_;rw [ak,ak];refine i3 bl ?_;have al:(nb++(nb1++yg es bo)).Perm ((nb1++yg es bo)++nb):=eM;refine al.trans ?_;rw [<-ak];exact List.Perm.append_right nb eM
 have P:∀j,j∈t++yg (yu ⟨⟨key,(n:Int)+1⟩,mark,l.length,f⟩ es) c↔(j∈bl++yg es bo\/j∈nb1\/j∈nb):=λj=>by rw [K.mem_iff,ah (s:=bl++yg es bo),ah (s:=nb1)]
 have C:∀x:Nat,21<=x->x≠0/\x≠1/\(x<3\/21<=x):=λx o=>⟨by omega,by omega,.inr o⟩;have F:(ps.map zv.l).flatten=l:=by rw [ab,Yg]
 have Q:ps.length=(l.length+123)/124:=by have:=congrArg List.length ab;rw [ez,yS] at this;exact this
 have ar:=h.len;refine⟨by rw [jd];exact h.rep.few,?_,?_,?_,?_,?_,?_,?_,?_,?_,?_,?_⟩
 .have:=I 1 (by omega) (by omega);rw [this];have h2:(C2.put 1 (zl (zw root' (n+1)))).look D ((1:Nat):Int)=zl (zw root' (n+1)):=qn _ _ _ _;rw [h2];exact⟨.inl rfl,h.ins.lt,by have:=h.num;omega⟩
 .show V.n0+1=_;rw [h.rep.n0];omega
 .rw [r 2 (by omega) (by omega) (by omega)];exact h.ins.chn.map
 .refine hF.congr (λj d=>?_)
  have ad:21<=j:=by
   rcases ah.1 (R.mem_iff.1 d) with d|d;.exact(h.rep.range j (af _ d)).1
   .exact(h.new d).1
  obtain⟨y,M,H⟩:=C j ad;exact r j y M H
 .intro x o;rcases j6.1 o with rfl|o
  .refine⟨?_,?_,?_,?_⟩
   .show yZ _ (c ⟨key,(n:Int)+1⟩);rw [q];refine ap.congr (λp L=>?_);have A:p.at_∈nb1:=ac.mem_iff.1 (au.2 ⟨p,L,rfl⟩);have w:=h.mid A;obtain⟨y,M,H⟩:=C p.at_ w.1;rw [r _ y M H];exact h.ins.stp.look _ (λz=>w.2.2.1 (af _ (h.ins.sub _ z))) w.2.2.2 (by omega) y
   .show xo (c ⟨key,(n:Int)+1⟩)=f;rw [q];exact an
   .show ((c ⟨key,(n:Int)+1⟩).map zv.l).flatten.length=l.length;rw [q,F]
   .show (c ⟨key,(n:Int)+1⟩).length<=(l.length+99)/100;rw [q,Q];omega
  .have k:=h.rep.body x o;have G:=O x o;refine⟨?_,by rw [G];exact k.head,by rw [G];exact k.size,by rw [G];exact k.few⟩;rw [G];refine k.chain.congr (λp L=>?_);have A:p.at_∈yg es bo:=gi.2 ⟨x,o,au.2 ⟨p,L,rfl⟩⟩;have w:=h.old (av bl A);have X:=h.rep.range p.at_ (av _ A);obtain⟨y,M,H⟩:=C p.at_ X.1;have Z:p.at_∉pb:=λz=>(aN.1 h.rep.nodup).2.2 _ (h.ins.sub _ z) _ A rfl;rw [r _ y M H,h.ins.stp.look _ Z w.2.2.2 (by omega) y,h.body.stp.look _ (λz=>nomatch z) w.2.2.1 (by omega) y,yE,qW h.ps]
 .refine K.nodup_iff.2 (aN.2 ⟨h.rep.nodup,aN.2 ⟨h.body.stp.grew.nodup,h.ins.stp.grew.nodup,λa B b k e=>(h.mid B).2.2.2 (e▸k)⟩,λa B b k e=>?_⟩);rcases ah.1 k with k|k;.exact(h.old B).2.2.1 (e▸k)
  .exact(h.old B).2.2.2 (e▸k)
 .intro j d;rw [jd];rcases (P j).1 d with d|d|d;.exact h.rep.range j d
  .exact⟨(h.mid d).1,(h.mid d).2.1⟩
  .exact h.new d
 .intro i aj;rw [jd] at aj;rw [P,h.ins.stp.grew.taken,h.body.stp.grew.taken];simp only [iY,aR];rw [h.rep.taken i aj,or_assoc]
 .show (V.vs++[(⟨key,V.n0+1,mark,l⟩:zB)]).Perm _;have u:((yu ⟨⟨key,(n:Int)+1⟩,mark,l.length,f⟩ es).map (y5 c)).Perm ((⟨⟨key,(n:Int)+1⟩,mark,l.length,f⟩::es).map (y5 c)):=(j7 _ es).map _
  have h2:(⟨⟨key,(n:Int)+1⟩,mark,l.length,f⟩::es).map (y5 c)=⟨key,V.n0+1,mark,l⟩::es.map (y5 bo):=by
   rw [aO];congr 1
   .show (⟨key,(n:Int)+1,mark,((c ⟨key,(n:Int)+1⟩).map zv.l).flatten⟩:zB)=_;rw [q,F,h.rep.n0]
   .refine mj (λx o=>?_);unfold y5;rw [O x o]
  rw [h2] at u;refine List.Perm.trans ?_ u.symm;refine eM.trans ?_;show ((⟨key,V.n0+1,mark,l⟩:zB)::V.vs).Perm _;exact h.rep.vers.cons _
 .refine⟨Pg.new 1,Pg.new_ok 1 (by omega),?_,rfl⟩;rw [Z6 h.ps];exact Yb h.ps (by omega) _
 .have E:=h.rep.good;have ax:=h.rep.n0;refine⟨?_,?_,?_,?_,?_,?_,?_⟩
  .show (V.vs++[(⟨key,V.n0+1,mark,l⟩:zB)]).Pairwise _;refine aX.2 ⟨E.apart,List.pairwise_singleton _ _,λa B b k z=>?_⟩;rw [az.1 k] at z;have:=(E.num a B).2;have h2:a.num=V.n0+1:=z.2;omega
  .intro v g;show 1<=v.num/\v.num<=V.n0+1;rcases ah.1 g with g|g;.have:=E.num v g;omega
   .rw [az.1 g];show 1<=V.n0+1/\V.n0+1<=V.n0+1;omega
  .intro v g;rcases ah.1 g with g|g;.exact E.key v g
   .rw [az.1 g];exact h.key
  .intro v g;rcases ah.1 g with g|g;.exact E.body v g
   .rw [az.1 g];exact h.len
  .intro v g;rcases ah.1 g with g|g;.exact E.mark v g
   .rw [az.1 g];exact h.bare
  .have u:(V.vs++[(⟨key,V.n0+1,mark,l⟩:zB)]).length<=6000:=by
    have h2:=hF.six.1;rw [(j7 _ es).length_eq,ae] at h2;have am:=h.rep.vers.length_eq;rw [ez] at am
    have aq:t.length<=979:=by
     have:=fm (l:=t) (N:=D.bs.length) (R.nodup_iff.2 (aN.2 ⟨(aN.1 h.rep.nodup).1,h.ins.stp.grew.nodup,λa B b k e=>(h.old (af _ B)).2.2.2 (e▸k)⟩)) (λj d=>by
      rcases ah.1 (R.mem_iff.1 d) with d|d;.exact h.rep.range j (af _ d)
      .exact h.new d)
     have:=h.rep.few;omega
    rw [ag,iq];omega
   exact u
  .show 0<=V.n0+1;have:=E.n0;omega
end
theorem Z7{l:List UInt8}(h:zp l=true):1<=l.length/\l.length<=8/\(0:UInt8)∉l:=by
 unfold zp at h;simp only [aW,aR] at h;refine⟨h.1.1,h.1.2,λa=>?_⟩;have h2:=h.2;unfold keys.v5 at h2;rw [iD] at h2;have:=h2 0 a;exact absurd this (by decide)
theorem Gd(h:zp key.data.toList=true)(k:Int):¬(⟨key,k⟩:Pl).lt ye=true:=λa=>by
 rw [Pl.lt_iff] at a;rcases a with a|⟨a,_⟩
 .have h2:∀k:ByteArray,qu k ye.key=false:=by
   intro k;show qB k.data.toList []=false;cases k.data.toList<;>rfl
  rw [h2] at a;cases a
 .have c:=(Z7 h).1;have b:key=ye.key:=a;rw [b] at c;exact absurd c (by decide)
section
variable {bs:List (List Value)} {V:qE} {tree n:Nat} {m:List UInt8} {es:List En} {bl:List Nat} {bo:Pl->List zv}
theorem vY.ver(h:vY bs V tree n m es bl bo){v:zB}(a:v∈V.vs):∃x∈es,v=y5 bo x:=by
 obtain⟨x,b,e⟩:=au.1 (h.vers.mem_iff.1 a);exact⟨x,b,e.symm⟩
theorem vY.mem(h:vY bs V tree n m es bl bo)(a:x∈es):y5 bo x∈V.vs:=h.vers.mem_iff.2 (au.2 ⟨x,a,rfl⟩)
theorem yL.same(h:yL l){j:En}(g:x∈l)(f:j∈l)(e:x.pl=j.pl):x=j:=by
 induction l with
 |nil=>exact nomatch g
 |cons a l k=>
  have h2:=aL.1 h;rcases ar.1 g with i|c
  .rcases ar.1 f with d|b;.rw [i,d]
   .have:=h2.1 j b;rw [<-i,e] at this;exact absurd this (Pl.irrefl _)
  .rcases ar.1 f with d|b
   .have:=h2.1 x c;rw [<-d,e] at this;exact absurd this (Pl.irrefl _)
   .exact k h2.2 c b
theorem yL.head_on(h:yL l){p:Pl}(d:(yP p l).head? =some x):x∈l/\x.pl.lt p=false/\∀f∈l,f.pl.lt p=false->f=x\/x.pl.lt f.pl=true:=by
 have i:yL (yP p l):=i9 _ h
 cases c:yP p l with
 |nil=>rw [c] at d;cases d
 |cons a r=>
  rw [c] at d;cases d;have k:x∈yP p l:=by rw [c];exact al ..
  have e:=ei.1 k;refine⟨e.1,by simpa using e.2,λf j g=>?_⟩;have b:f∈yP p l:=ei.2 ⟨j,by rw [g];rfl⟩;rw [c] at b i;rcases ar.1 b with rfl|b;.exact .inl rfl
  .exact .inr ((aL.1 i).1 f b)
theorem Zr{p:Pl}(b:(yP p l).head? =none):∀d∈l,d.pl.lt p=true:=λd c=>by
 have:yP p l=[]:=by
  cases h:yP p l with
  |nil=>rfl
  |cons a r=>rw [h] at b;cases b
 unfold yP at this;rw [iA] at this;have:=this d c;simpa using this
theorem vY.lt_max(h:vY bs V tree n m es bl bo)(e:n<4611686018427387904){b:En}(c:b∈es)(key:ByteArray)(d:b.pl.key=key):b.pl.lt ⟨key,9223372036854775807⟩=false:=by
 cases a:b.pl.lt ⟨key,9223372036854775807⟩ with
 |false=>rfl
 |true=>
  rw [Pl.lt_iff] at a;rcases a with a|⟨_,a⟩
  .simp only [d] at a;rw [yB] at a;cases a
  .simp only at a;have:=(h.low b c).2.2.1;omega
theorem vY.new_yes(h:vY bs V tree n m es bl bo)(p:n<4611686018427387904)(o:(yP ⟨key,9223372036854775807⟩ es).head? =some x)(d:x.pl.key=key):qd V.vs key=some (y5 bo x):=by
 have i:=h.forest.six.2.2;obtain⟨e,_,c⟩:=i.head_on o
 cases f:qd V.vs key with
 |none=>exact absurd d (Qg f _ (h.mem e))
 |some v=>
  obtain⟨j,h2,k⟩:=kQ f;obtain⟨l,g,rfl⟩:=h.ver h2;have b:l.pl.key=key:=j;have q:x.pl.num<=l.pl.num:=k _ (h.mem e) d;rcases c l g (h.lt_max p g key b) with rfl|a;.rfl
  .rw [Pl.lt_iff] at a;rcases a with a|⟨_,a⟩;.rw [d,b,yB] at a;cases a
   .omega
theorem vY.new_no(h:vY bs V tree n m es bl bo)(p:n<4611686018427387904)(k:∀x,(yP ⟨key,9223372036854775807⟩ es).head? =some x->x.pl.key≠key):qd V.vs key=none:=by
 have j:=h.forest.six.2.2
 cases o:qd V.vs key with
 |none=>rfl
 |some v=>
  exfalso;obtain⟨l,h2,_⟩:=kQ o;obtain⟨q,f,rfl⟩:=h.ver h2;have b:q.pl.key=key:=l;have c:=h.lt_max p f key b
  cases g:(yP ⟨key,9223372036854775807⟩ es).head? with
  |none=>rw [Zr g q f] at c;cases c
  |some x=>
   obtain⟨r,e,i⟩:=j.head_on g;have d:=k x g;rcases i q f c with rfl|a;.exact d b
   .rw [Pl.lt_iff] at a;rcases a with a|⟨a,_⟩
    .rw [b] at a;have:x.pl.lt ⟨key,9223372036854775807⟩=true:=(Pl.lt_iff _ _).2 (.inl a);rw [this] at e;cases e
    .exact d (a.trans b)
theorem vY.at_yes(h:vY bs V tree n m es bl bo){a:Int}(d:x∈es)(e:x.pl.key=key)(b:x.pl.num=a):yi V.vs key a=some (y5 bo x):=by
 have g:=h.forest.six.2.2
 cases f:yi V.vs key a with
 |none=>exact absurd ⟨e,b⟩ (JN f _ (h.mem d))
 |some v=>
  obtain⟨l,h2,p⟩:=jQ f;obtain⟨c,i,rfl⟩:=h.ver p;have q:c.pl.key=key:=l;have j:c.pl.num=a:=h2
  have:c=x:=g.same i d (by
   have k:c.pl=⟨c.pl.key,c.pl.num⟩:=rfl;have o:x.pl=⟨x.pl.key,x.pl.num⟩:=rfl
   rw [k,o,q,j,e,b])
  rw [this]
theorem vY.at_no(h:vY bs V tree n m es bl bo){a:Int}(l:∀x,(yP ⟨key,a⟩ es).head? =some x->¬(x.pl.key=key/\x.pl.num=a)):yi V.vs key a=none:=by
 have k:=h.forest.six.2.2
 cases r:yi V.vs key a with
 |none=>rfl
 |some v=>
  exfalso;obtain⟨q,h2,t⟩:=jQ r;obtain⟨f,g,rfl⟩:=h.ver t;have o:f.pl.key=key:=q;have i:f.pl.num=a:=h2;have p:f.pl=⟨key,a⟩:=by rw [<-o,<-i]
  have b:f.pl.lt ⟨key,a⟩=false:=by
   rw [p]
   cases s:(⟨key,a⟩:Pl).lt ⟨key,a⟩ with
   |false=>rfl
   |true=>exact absurd s (Pl.irrefl _)
  cases d:(yP ⟨key,a⟩ es).head? with
  |none=>rw [Zr d f g] at b;cases b
  |some x=>
   obtain⟨u,j,e⟩:=k.head_on d;rcases e f g b with rfl|c;.exact l _ d ⟨o,i⟩
   .rw [p,j] at c;cases c
theorem vY.pieces(h:vY bs V tree n m es bl bo)(a:x∈es):((bo x.pl).map zv.at_).Nodup/\x.size<=300/\(bo x.pl).length<=3:=by
 have b:=h.body x a
 have d:x.size<=300:=by have:=h.good.body _ (h.mem a);have e:(y5 bo x).body.length=x.size:=b.size;omega
 refine⟨?_,d,by have:=b.few;omega⟩;have c:List.Sublist ((bo x.pl).map zv.at_) (yg es bo):=List.sublist_flatten_of_mem (au.2 ⟨x,a,rfl⟩);exact c.nodup (aN.1 h.nodup).2.1
end
theorem Z8:zW=zl (Pg.new 0):=by
 rw [zl,Pg.nought];rfl
theorem bK(N j:Nat):Z5 (List.replicate N zW) j=zW:=by
 unfold Z5 Dk.look;split
 .rename_i h
  have h2:j<N:=by have:=h.2;simp at this;exact this
  simp [xt,h2]
 .rfl
theorem KR(N:Nat)(e:64<=N)(d:N<=1000):vY (List.replicate N zW) ⟨[],0⟩ 0 0 kJ [] [] (λ_=>[]) where
 few:=by simpa using d
 root:=by rw [bK];exact⟨.inr ⟨Z8,rfl,rfl⟩,by omega,by omega⟩
 n0:=rfl
 map:=by rw [bK];exact⟨Km,.inr ⟨Z8,rfl⟩⟩
 forest:=.inl ⟨rfl,rfl,rfl⟩
 body:=λx b=>nomatch b
 nodup:=by simp [yg]
 range:=λj c=>by simp [yg] at c
 taken:=λi _=>by rw [Xw];simp [yg]
 vers:=eR _
 head:=⟨Pg.new 0,Pg.new_ok 0 (by omega),by rw [bK];exact Z8,rfl⟩
 good:=⟨List.Pairwise.nil,λv a=>(nomatch a),λv a=>(nomatch a),λv a=>(nomatch a),λv a=>(nomatch a),by simp,eb _⟩
end prog
namespace prog
open law (qE ze q8 xk gy cI xw dC GS OutIs G8)
open keys (zp)
def yF(bs:List (List Value))(V:qE):Prop:=∃tree n m es bl bo,vY bs V tree n m es bl bo
variable {Fu:Int->Prop} {Ho:List (List Value)->qE->Prop} {m1:∀f,Fu f->zD f} {m2:Fu (-1)} {m3:∀bs V,yF bs V->Ho bs V} {m4:∀bs V,Ho bs V->law.Good V}
def vn(Fu:Int->Prop)(Ho:List (List Value)->qE->Prop)(m1:∀f,Fu f->zD f)(m2:Fu (-1))(m3:∀bs V,yF bs V->Ho bs V)(m4:∀bs V,Ho bs V->law.Good V):ze where
 Rest:=yF
 Holds:=Ho
 Sto:=λw b q=>zu w b 0 q
 Fu:=Fu
 rest_holds:=m3
 good:=m4
 zeros:=λn h1 h2=>m3 _ _ ⟨_,_,_,_,_,_,KR n h1 h2⟩
 sto_lt:=λw b q h=>h.lt
 sto_kept:=λw w' b q T h k hn=>h.kept k hn
 fu_int:=m1
 fu_neg:=m2
def Dw:ze:=vn (λf=>f= -1) yF (λf h=>by rw [h];constructor<;>omega) rfl (λ_ _ h=>h) (λbs V ⟨_,_,_,_,_,_,h⟩=>h.good)
theorem YM:∀ps:List (Nat×List Value),sel ps (List.replicate ps.length true)=ps
 |[]=>rfl
 |p::ps=>by unfold sel;rw [ae,mg];simp [YM ps]
theorem kj{w w':World}{bd bs:Nat}{S:Nat->Prop}{D:Dk}{q:Option Nat}(d:zg w bd S D)(f:¬S bs)(a:Fu D.fuse)(c:zu w' bs 0 q)(b:za (λk=>k=bs) w w'):dC (vn Fu Ho m1 m2 m3 m4) w w' bd bs S S D D 40 q:=
 ⟨d.kept b (λj g e=>f (by rw [<-show j=bs from e];exact g)),λ_ h=>.inl h,c,b.mono (λ_ h=>.inr h),eb _,by omega,rfl,a⟩
theorem vo{w w':World}{bd bs:Nat}{S:Nat->Prop}{D:Dk}{q:Option Nat}{r:Int}(g:zg w bd S D)(a:Fu D.fuse)(c:zu w' bs 0 q)(d:D.reads<=r)(h2:r<=D.reads+40)(b:zg w' bd S {D with reads:=r })(i:za (λk=>k=bd\/k=bs) w w'):dC (vn Fu Ho m1 m2 m3 m4) w w' bd bs S S D {D with reads:=r} 40 q:=
 ⟨b,λ_ h=>.inl h,c,i.mono (λj f=>f.elim (λe=>.inl (by rw [e];exact g.bdS)) .inr),d,h2,rfl,a⟩
theorem JG:gy (vn Fu Ho m1 m2 m3 m4) where
 live:=λw bd bs S D V key F z=>by
  have B:=F.fuse;have C:=F.sto;have y:=F.disk;have s:=F.live.ps;obtain⟨tree,n,m,es,bl,bo,v⟩:=F.live.rest;have K:=F.reads0;have ac:=F.reads1;have q:n<4611686018427387904:=by have:=F.few;rw [v.n0] at this;omega
  have o:∀r:Int,(vn Fu Ho m1 m2 m3 m4).Live {D with reads:=r} V:=λr=>⟨s,⟨tree,n,m,es,bl,bo,v⟩,F.live.big⟩
  cases c:zp key.data.toList with
  |false=>
   refine(Jz w bs (some bd) C key z c).mono ?_;rintro e w' ⟨f,h2,g⟩;exact⟨D,.slice none 0 0,0,S,f,kj y F.apart B h2 g,F.live,⟨λh=>absurd h (show ¬(2:Int)=0 by decide),λ_=>⟨none,0,rfl⟩⟩,λk h=>(nomatch h),λ_=>rfl,λu h=>absurd h (show ¬(2:Int)=0 by decide)⟩
  |true=>
   have t:qT (D.look 1) tree n:=by have:=v.root;rw [<-qW s] at this;exact this
   have H:=v.forest.congr (λj _=>qW s j);have G:∀j∈bl,21<=j:=λj Z=>(v.range j (af _ Z)).1
   cases b:xT key (yP ⟨key,9223372036854775807⟩ es).head? with
   |false=>
    have l:yD true (qd V.vs key)=5:=by
     cases d:(yP ⟨key,9223372036854775807⟩ es).head? with
     |none=>rw [v.new_no q (λx E=>by rw [d] at E;cases E)];rfl
     |some x=>
      by_cases i:x.pl.key=key
      .rw [v.new_yes q d i];rw [d] at b
       have X:x.mark=true:=by
        simp only [xT,i,mM,lI] at b
        cases Q:x.mark with
        |true=>rfl
        |false=>rw [Q] at b;cases b
       show cond x.mark 5 0=5;rw [X];rfl
      .rw [v.new_no q (λae R=>by rw [d] at R;cases R;exact i)];rfl
    refine(Ub w bs bd S D C y F.apart K (by omega) tree n t key z c es bl H v.len G _ rfl b).mono ?_;rintro e w' ⟨f,h2,⟨r,g,aa,L⟩,M⟩;rw [l];exact⟨{D with reads:=r},.slice none 0 0,0,S,f,vo y B h2 g (by omega) L M,o r,⟨λh=>absurd h (by decide),λ_=>⟨none,0,rfl⟩⟩,λk h=>(nomatch h),λ_=>rfl,λu h=>absurd h (by decide)⟩
   |true=>
    cases d:(yP ⟨key,9223372036854775807⟩ es).head? with
    |none=>rw [d] at b;cases b
    |some x=>
     rw [d] at b;have i:x.pl.key=key:=by simp only [xT,aW,aR] at b;exact b.1
     have T:x.mark=false:=by simp only [xT,aW,iy] at b;exact b.2
     have A:=v.new_yes q d i;have E:=(v.forest.six.2.2.head_on d).1;have N:=v.body x E;obtain⟨Y,W,ad⟩:=v.pieces E;have l:yD true (qd V.vs key)=0:=by rw [A];show cond x.mark 5 0=0;rw [T];rfl
     refine(Uc w bs bd S D C y F.apart K (by omega) tree n t key z c es bl H v.len G x d b (bo x.pl) (N.chain.congr (λp _=>qW s p.at_)) Y N.head _ rfl N.size W (by omega)).mono ?_;rintro e w' ⟨⟨a,P,f,O,I⟩,h2,⟨r,g,aa,L⟩,M⟩;rw [l];refine⟨{D with reads:=r},_,x.pl.num,S,f,vo y B h2 g (by omega) L M,o r,⟨λ_=>⟨_,A,⟨a,P,rfl,O,I⟩⟩,λh=>absurd rfl h⟩,λk h ab=>?_,λh=>absurd rfl h,λu _ U=>?_⟩;.have:=I k h;have:=y.lt k ab;omega
     .rw [A] at U;cases U;rfl
 shut:=λw bs key C z=>by
  have J:=C
  cases c:zp key.data.toList with
  |false=>exact(Jz w bs none J key z c).mono (λe w' ⟨f,h2,g⟩=>⟨none,0,f,h2,g⟩)
  |true=>exact(Ua w bs J key z c).mono (λe w' ⟨f,h2,g⟩=>⟨none,0,f,h2,g⟩)
theorem Uz:cI (vn Fu Ho m1 m2 m3 m4) where
 live:=λw bd bs S D V key c F z T=>by
  have A:=F.fuse;have B:=F.sto;have y:=F.disk;have s:=F.live.ps;obtain⟨tree,n,m,es,bl,bo,u⟩:=F.live.rest;have J:=F.reads0;have ab:=F.reads1;have q:∀r:Int,(vn Fu Ho m1 m2 m3 m4).Live {D with reads:=r} V:=λr=>⟨s,⟨tree,n,m,es,bl,bo,u⟩,F.live.big⟩
  cases d:zp key.data.toList with
  |false=>
   refine(Ud w bs (some bd) B key c z d).mono ?_;rintro e w' ⟨g,h2,i⟩;exact⟨D,.slice none 0 0,S,g,kj y F.apart A h2 i,F.live,⟨λh=>absurd h (show ¬(2:Int)=0 by decide),λ_=>⟨none,0,rfl⟩⟩,λk h=>(nomatch h)⟩
  |true=>
   have t:qT (D.look 1) tree n:=by have:=u.root;rw [<-qW s] at this;exact this
   have E:=u.forest.congr (λj _=>qW s j);have C:∀j∈bl,21<=j:=λj Y=>(u.range j (af _ Y)).1
   cases b:Gp key c (yP ⟨key,c⟩ es).head? with
   |false=>
    have o:yD true (yi V.vs key c)=5:=by
     cases l:(yP ⟨key,c⟩ es).head? with
     |none=>rw [u.at_no (λx v=>by rw [l] at v;cases v)];rfl
     |some x=>
      by_cases f:x.pl.key=key/\x.pl.num=c
      .rw [u.at_yes (u.forest.six.2.2.head_on l).1 f.1 f.2];rw [l] at b
       have W:x.mark=true:=by
        simp only [Gp,f.1,f.2,mM,lI] at b
        cases P:x.mark with
        |true=>rfl
        |false=>rw [P] at b;cases b
       show cond x.mark 5 0=5;rw [W];rfl
      .rw [u.at_no (λad Q=>by rw [l] at Q;cases Q;exact f)];rfl
    refine(at_none w bs bd S D B y F.apart J (by omega) tree n t key c z d es bl E u.len C _ rfl b).mono ?_;rintro e w' ⟨g,h2,⟨r,i,Z,K⟩,L⟩;rw [o];exact⟨{D with reads:=r},.slice none 0 0,S,g,vo y A h2 i (by omega) K L,q r,⟨λh=>absurd h (by decide),λ_=>⟨none,0,rfl⟩⟩,λk h=>(nomatch h)⟩
   |true=>
    cases l:(yP ⟨key,c⟩ es).head? with
    |none=>rw [l] at b;cases b
    |some x=>
     rw [l] at b;have f:x.pl.key=key/\x.pl.num=c:=by simp only [Gp,aW,aR] at b;exact b.1
     have R:x.mark=false:=by simp only [Gp,aW,iy] at b;exact b.2
     have v:=(u.forest.six.2.2.head_on l).1;have G:=u.at_yes v f.1 f.2;have M:=u.body x v;obtain⟨X,U,ac⟩:=u.pieces v;have o:yD true (yi V.vs key c)=0:=by rw [G];show cond x.mark 5 0=0;rw [R];rfl
     refine(U7 w bs bd S D B y F.apart J (by omega) tree n t key c z d es bl E u.len C x l b (bo x.pl) (M.chain.congr (λp _=>qW s p.at_)) X M.head _ rfl M.size U (by omega)).mono ?_;rintro e w' ⟨⟨a,O,g,N,H⟩,h2,⟨r,i,Z,K⟩,L⟩;rw [o];refine⟨{D with reads:=r},_,S,g,vo y A h2 i (by omega) K L,q r,⟨λ_=>⟨_,G,⟨a,O,rfl,N,H⟩⟩,λh=>absurd rfl h⟩,λk h aa=>?_⟩;have:=H k h;have:=y.lt k aa;omega
 shut:=λw bs key c B z=>by
  have I:=B
  cases d:zp key.data.toList with
  |false=>exact(Ud w bs none I key c z d).mono (λe w' ⟨g,h2,i⟩=>⟨none,0,g,h2,i⟩)
  |true=>exact(U4 w bs I key c z d).mono (λe w' ⟨g,h2,i⟩=>⟨none,0,g,h2,i⟩)
end prog
namespace prog
open law (qE)
variable {bs:List (List Value)}{V V':qE}{ws:List (Nat×List Value)}{D:Dk}{Fu:Int->Prop}
theorem X2(bs:List (List Value))(j:Nat):Z5 bs j=bs.getD j zW:=by
 unfold Z5 Dk.look;by_cases h:j<bs.length
 .rw [aB ⟨by omega,by show (j:Int)<(bs.length:Int);omega⟩];simp [xt,h]
 .rw [aw (λa=>by have h2:(j:Int)<(bs.length:Int):=a.2;omega)];simp [List.getElem?_eq_none (mD h)]
def Ge(bs bs':List (List Value)):Prop:=bs'.length=bs.length/\∀j,(j<3\/21<=j)->bs'[j]? =bs[j]?
theorem Ge.rd{a:List (List Value)}(h:Ge bs a){j:Nat}(b:j<3\/21<=j):Z5 a j=Z5 bs j:=by
 rw [X2,X2,aA,aA,h.2 j b]
theorem yF.near{d:List (List Value)}(h:yF bs V)(n:Ge bs d):yF d V:=by
 obtain⟨tree,k,m,es,bl,bo,a⟩:=h;have b:∀j∈bl++yg es bo,21<=j:=λj e=>(a.range j e).1;refine⟨tree,k,m,es,bl,bo,by rw [n.1];exact a.few,by rw [n.rd (.inl (by omega))];exact a.root,a.n0,by rw [n.rd (.inl (by omega))];exact a.map,a.forest.congr (λj e=>n.rd (.inr (b j (af _ e)))),λx f=>?_,a.nodup,by rw [n.1];exact a.range,by rw [n.1];exact a.taken,a.vers,by rw [n.rd (.inl (by omega))];exact a.head,a.good⟩;have c:=a.body x f;exact⟨c.chain.congr (λp g=>n.rd (.inr (b p.at_ (av _ (gi.2 ⟨x,f,au.2 ⟨p,g,rfl⟩⟩))))),c.head,c.size,c.few⟩
structure X3 (N:Nat) (ws:List (Nat×List Value)):Prop where
 nodup:(ws.map Prod.fst).Nodup
 few:ws.length<=18
 some:0<ws.length
 keys:∀p∈ws,p.1<N/\p.1≠0/\(p.1<3\/21<=p.1)
structure YN (bs:List (List Value)) (ws:List (Nat×List Value)) (V:qE):Prop where
 ok:X3 bs.length ws
 head:bs[0]? =some (zl (zK ws))
 log:∀i (h:i<ws.length),bs[3+i]? =some ws[i].2
 rest:yF ((zm bs ws).set 0 xY) V
def kq(bs:List (List Value))(V:qE):Prop:=yF bs V\/∃ws,YN bs ws V
def um(D:Dk)(P:qE->Prop):Prop:=D.ps.length<=18/\∀ks,∃V,P V/\kq (zm D.bs (sel D.ps ks)) V
theorem YO(bs:List (List Value))(a:List (Nat×List Value))(h:∀p∈a,3<=p.1/\p.1<21):Ge bs (zm bs a):=
 ⟨zC _ _,λj d=>yl a bs (λb=>by
  obtain⟨p,c,rfl⟩:=au.1 b
  have:=h p c;omega)⟩
theorem YP{j:Nat}(h:j∈ws.map Prod.fst):∃b,(j,b)∈ws:=by
 obtain⟨p,a,rfl⟩:=au.1 h;exact⟨p.2,a⟩
theorem Z9(bs:List (List Value))(ws d:List (Nat×List Value))(f:(ws.map Prod.fst).Nodup)(i:∀p∈ws,p.1<bs.length)(k:∀p∈d,p∈ws):zm (zm bs d) ws=zm bs ws:=by
 refine List.ext_getElem? λj=>?_;by_cases a:j∈ws.map Prod.fst
 .obtain⟨b,e⟩:=YP a;have c:=i _ e;rw [jx ws _ f e (by rw [zC];exact c),jx ws _ f e c]
 .rw [yl ws _ a,yl ws _ a,yl d _ (λg=>a (by
   obtain⟨p,h,rfl⟩:=au.1 g
   exact au.2 ⟨p,k p h,rfl⟩))]
theorem YN.part(h:YN bs ws V)(b:List (Nat×List Value))(d:∀p∈b,p∈ws):YN (zm bs b) ws V:=by
 have a:∀j,(j=0\/(3<=j/\j<21))->(zm bs b)[j]? =bs[j]? :=λj k=>yl b bs (λe=>by
  obtain⟨p,c,rfl⟩:=au.1 e
  have:=h.ok.keys p (d p c);omega)
 have g:=zC b bs;refine⟨⟨h.ok.nodup,h.ok.few,h.ok.some,λp c=>by rw [g];exact h.ok.keys p c⟩,by rw [a 0 (.inl rfl)];exact h.head,λi f=>?_,?_⟩
 .have:=h.ok.few;rw [a (3+i) (.inr (by omega))];exact h.log i f
 .rw [Z9 bs ws b h.ok.nodup (λp c=>(h.ok.keys p c).1) d];exact h.rest
theorem fo:∀(ws:List (Nat×List Value)) (D:Dk),(∀p∈ws,p.1<D.bs.length)->∃k f,(qm D ws).2={D with ps:=D.ps++ws.take k,fuse:=f}/\((qm D ws).1=true->ws.take k=ws)/\((qm D ws).1=false->f=0)
 |[],D,_=>⟨0,D.fuse,by simp [qm],by simp,by simp [qm]⟩
 |p::ws,D,hk=>by
  unfold qm;have j:=hk p (al ..);by_cases b:D.fuse=0
  .have e:D.writes (p.1:Int)=false:=decide_eq_false (λa=>a.2.2 b);rw [aw (by rw [e];simp)];exact⟨0,0,by simp [<-b],by simp,λ_=>rfl⟩
  .have a:(0:Int)<=(p.1:Int)/\(p.1:Int)<(D.bs.length:Int)/\D.fuse≠0:=⟨by omega,by omega,b⟩;have e:D.writes (p.1:Int)=true:=aJ a;have c:D.write (p.1:Int) p.2={D with ps:=D.ps++[(p.1,p.2)],fuse:=qv D.fuse}:=by unfold Dk.write;rw [aB a];simp
   rw [aB e,c];obtain⟨k,f,d,h2,i⟩:=fo ws {D with ps:=D.ps++[(p.1,p.2)],fuse:=qv D.fuse} (λq g=>hk q (am _ g));refine⟨k+1,f,?_,λh=>by rw [iz,h2 h],i⟩;rw [d];simp
theorem JH(p:Nat×List Value)(ks:List Bool):sel [p] ks=[]\/sel [p] ks=[p]:=by
 unfold sel;split;.exact .inr rfl
 .exact .inl rfl
theorem Zs(g:D.ps=[])(j:0<D.bs.length)(b:List Value):
 ((xn D b).1=true->∃f,(xn D b).2={D with bs:=D.bs.set 0 b,fuse:=f })/\
 ((xn D b).1=false->(xn D b).2={D with fuse:=0}\/(xn D b).2={D with ps:=[(0,b)],fuse:=0 }):=by
 unfold xn;by_cases d:D.fuse=0
 .have e:D.writes 0=false:=decide_eq_false (λc=>c.2.2 d);rw [aw (by rw [e];simp)];exact⟨λh=>by simp at h,λ_=>.inl (by rw [<-d])⟩
 .have c:(0:Int)<=0/\(0:Int)<(D.bs.length:Int)/\D.fuse≠0:=⟨by omega,by omega,d⟩;have e:D.writes 0=true:=aJ c;have i:D.write 0 b={D with ps:=[(0,b)],fuse:=qv D.fuse}:=by unfold Dk.write;rw [aB c,g];rfl
  rw [aB e,i];by_cases a:qv D.fuse=0
  .refine⟨λh=>by simp [a] at h,λ_=>.inr ?_⟩;unfold Dk.flush;rw [aB a,a]
  .refine⟨λ_=>⟨qv (qv D.fuse),?_⟩,λh=>by simp [a] at h⟩;unfold Dk.flush;rw [aw a];show Dk.mk (zm D.bs [(0,b)]) [] _ _=Dk.mk _ D.ps _ _;rw [g];rfl
theorem bL(c:D.ps=[])(h:YN D.bs ws V):
 ((qL D ws).1=true->∃f,(qL D ws).2={D with bs:=(zm D.bs ws).set 0 xY,fuse:=f })/\
 ((qL D ws).1=false->(qL D ws).2.fuse=0/\(qL D ws).2.bs.length=D.bs.length/\(qL D ws).2.reads=D.reads/\um (qL D ws).2 (λo=>o=V)):=by
 have d:=h.ok.keys;have y:=(et.1 h.head).1;obtain⟨k,f,a,v,A⟩:=fo ws D (λp c=>(d p c).1);rw [c,aK] at a;have i:∀ks,YN (zm D.bs (sel (ws.take k) ks)) ws V:=λks=>h.part _ (λp x=>aP (dh _ _ p x));have g:um {D with ps:=ws.take k,fuse:=0} (λo=>o=V):=⟨by show (ws.take k).length<=18;have:=h.ok.few;have:=List.length_take_le' k ws;omega,λks=>⟨V,rfl,.inr ⟨ws,i ks⟩⟩⟩;unfold qL xD;by_cases b:(qm D ws).1=true/\(qm D ws).2.fuse≠0
 .rw [aB b];have j:=v b.1
  have r:(qm D ws).2.flush={D with bs:=zm D.bs ws,ps:=[],fuse:=qv f}:=by
   have w:f≠0:=by have:=b.2;rw [a] at this;exact this
   rw [a,j];unfold Dk.flush;rw [aw w]
  rw [r];have m:=Zs (D:={D with bs:=zm D.bs ws,ps:=[],fuse:=qv f }) rfl (by show 0<(zm D.bs ws).length;rw [zC];exact y) xY;have q:=h.part ws (λ_ h=>h);refine⟨λj=>?_,λt=>?_⟩
  .obtain⟨z,l⟩:=m.1 j;exact⟨z,by rw [l,c]⟩
  .rcases m.2 t with e|e<;>rw [e]
   .refine⟨rfl,zC _ _,rfl,aj _,λks=>⟨V,rfl,.inr ⟨ws,?_⟩⟩⟩;exact q
   .refine⟨rfl,zC _ _,rfl,by show (1:Nat)<=18;omega,λks=>⟨V,rfl,?_⟩⟩;show kq (zm (zm D.bs ws) (sel [(0,xY)] ks)) V;rcases JH (0,xY) ks with e|e<;>rw [e]
    .exact .inr ⟨ws,q⟩
    .exact .inl h.rest
 .rw [aw b];refine⟨λh=>by simp at h,λ_=>?_⟩
  have s:(qm D ws).2.fuse=0:=by
   by_cases n:(qm D ws).1=true;.exact Classical.byContradiction (λh2=>b ⟨n,h2⟩)
   .rw [a];exact A (by simpa using n)
  have u:f=0:=by rw [a] at s;exact s
  show (qm D ws).2.fuse=0/\(qm D ws).2.bs.length=D.bs.length/\(qm D ws).2.reads=D.reads/\um (qm D ws).2 (λo=>o=V);rw [a,u];exact⟨rfl,rfl,rfl,g⟩
def jP(bs:List (List Value))(ws:List (Nat×List Value)):List (List Value):=(zm bs (qh ws)).set 0 (zl (zK ws))
theorem X5(i:Nat)(h:i<ws.length):(3+i,ws[i].2)∈qh ws:=by
 rw [<-vH ws i h];exact ai _
theorem Qa(ws:List (Nat×List Value)):((qh ws).map Prod.fst).Nodup:=by
 rw [List.nodup_iff_pairwise_ne,eB];intro i j b a c;simp only [ez,xL] at b a;rw [ia,ia,vH ws i b,vH ws j a];show 3+i≠3+j;omega
theorem KS(a:X3 bs.length ws)(f:21<=bs.length)(b:yF (un bs ws) V):YN (jP bs ws) ws V:=by
 have d:(jP bs ws).length=bs.length:=by unfold jP;rw [ew,zC]
 refine⟨⟨a.nodup,a.few,a.some,λp c=>by rw [d];exact a.keys p c⟩,?_,λi e=>?_,b⟩
 .unfold jP;rw [lA (by rw [zC];omega)]
 .unfold jP;have:=a.few;rw [iK (by omega)];exact jx _ _ (Qa ws) (X5 i e) (by omega)
theorem UA(i:D.ps=[])(y:yF D.bs V)(r:X3 D.bs.length ws)(F:21<=D.bs.length)(A:YN (jP D.bs ws) ws V'):
 ((qM D ws).1=true->∃f,(qM D ws).2={D with bs:=jP D.bs ws,fuse:=f })/\
 ((qM D ws).1=false->(qM D ws).2.fuse=0/\(qM D ws).2.bs.length=D.bs.length/\(qM D ws).2.reads=D.reads/\um (qM D ws).2 (λE=>E=V\/E=V')):=by
 have j:=vg r.few;obtain⟨k,f,a,x,C⟩:=fo (qh ws) D (λp b=>by have:=j p b;omega);rw [i,aK] at a;have c:∀l:List (Nat×List Value),(∀p∈l,p∈qh ws)->yF (zm D.bs l) V:=λl b=>y.near (YO _ _ (λp i=>j p (b p i)));unfold qM xD;by_cases d:(qm D (qh ws)).1=true/\(qm D (qh ws)).2.fuse≠0
 .rw [aB d];have m:=x d.1
  have s:(qm D (qh ws)).2.flush={D with bs:=zm D.bs (qh ws),ps:=[],fuse:=qv f}:=by
   have z:f≠0:=by have:=d.2;rw [a] at this;exact this
   rw [a,m];unfold Dk.flush;rw [aw z]
  rw [s];have o:=Zs (D:={D with bs:=zm D.bs (qh ws),ps:=[],fuse:=qv f }) rfl (by show 0<(zm D.bs (qh ws)).length;rw [zC];omega) (zl (zK ws));have g:yF (zm D.bs (qh ws)) V:=c _ (λ_ h=>h);refine⟨λm=>?_,λv=>?_⟩
  .obtain⟨B,n⟩:=o.1 m;exact⟨B,by rw [n,i];rfl⟩
  .rcases o.2 v with e|e<;>rw [e]
   .exact⟨rfl,zC _ _,rfl,aj _,λks=>⟨V,.inl rfl,.inl g⟩⟩
   .refine⟨rfl,zC _ _,rfl,by show (1:Nat)<=18;omega,λks=>?_⟩;show ∃t,_/\kq (zm (zm D.bs (qh ws)) (sel [(0,zl (zK ws))] ks)) t;rcases JH (0,zl (zK ws)) ks with e|e<;>rw [e]
    .exact⟨V,.inl rfl,.inl g⟩
    .exact⟨V',.inr rfl,.inr ⟨ws,A⟩⟩
 .rw [aw d];refine⟨λh=>by simp at h,λ_=>?_⟩
  have u:(qm D (qh ws)).2.fuse=0:=by
   by_cases q:(qm D (qh ws)).1=true;.exact Classical.byContradiction (λh2=>d ⟨q,h2⟩)
   .rw [a];exact C (by simpa using q)
  have w:f=0:=by rw [a] at u;exact u
  show (qm D (qh ws)).2.fuse=0/\(qm D (qh ws)).2.bs.length=D.bs.length/\(qm D (qh ws)).2.reads=D.reads/\um (qm D (qh ws)).2 _;rw [a,w];exact⟨rfl,rfl,rfl,by show ((qh ws).take k).length<=18;have:=r.few;have:=List.length_take_le' k (qh ws);rw [xL] at this;omega,λks=>⟨V,.inl rfl,.inl (c _ (λp b=>aP (dh _ _ p b)))⟩⟩
theorem X6(g:D.ps=[])(s:yF D.bs V)(k:X3 D.bs.length ws)(b:21<=D.bs.length)(c:yF (un D.bs ws) V'):
 ((qj D ws).1=true->∃f,(qj D ws).2={D with bs:=un D.bs ws,fuse:=f })/\
 ((qj D ws).1=false->(qj D ws).2.fuse=0/\(qj D ws).2.bs.length=D.bs.length/\(qj D ws).2.reads=D.reads/\um (qj D ws).2 (λm=>m=V\/m=V')):=by
 have a:=KS k b c;have j:=UA g s k b a;unfold qj
 cases d:(qM D ws).1 with
 |false=>
  rw [aw (by simp)];exact⟨λh=>(by rw [d] at h;cases h),λ_=>j.2 d⟩
 |true=>
  rw [aB rfl];obtain⟨f,e⟩:=j.1 d;rw [e];have i:=bL (D:={D with bs:=jP D.bs ws,fuse:=f }) (ws:=ws) (V:=V') g a;have p:(jP D.bs ws).length=D.bs.length:=by unfold jP;rw [ew,zC]
  refine⟨λh=>i.1 h,λh=>?_⟩;obtain⟨n,h2,q,l⟩:=i.2 h;exact⟨n,h2.trans p,q,l.1,λks=>by obtain⟨m,o,r⟩:=l.2 ks;exact⟨m,.inr o,r⟩⟩
theorem YQ(a:∀f,Fu f->Fu (qv f))(h:Fu D.fuse)(i:Int)(b:List Value):Fu (D.write i b).fuse:=by
 unfold Dk.write;split;.exact a _ h
 .exact h
theorem bM(a:∀f,Fu f->Fu (qv f))(h:Fu D.fuse):Fu D.flush.fuse:=by
 unfold Dk.flush;split;.exact h
 .exact a _ h
theorem gj(a:∀f,Fu f->Fu (qv f)):∀(ws:List (Nat×List Value)) (D:Dk),Fu D.fuse->Fu (qm D ws).2.fuse
 |[],D,h=>h
 |p::ws,D,h=>by
  unfold qm;split;.exact gj a ws _ (YQ a h _ _)
  .exact h
theorem bN(a:∀f,Fu f->Fu (qv f)){r:Bool×Dk}(h:Fu r.2.fuse)(b:List Value):Fu (xD r b).2.fuse:=by
 unfold xD;split
 .unfold xn;split;.exact bM a (YQ a (bM a h) _ _)
  .exact bM a h
 .exact h
theorem KT(a:∀f,Fu f->Fu (qv f))(h:Fu D.fuse)(ws:List (Nat×List Value)):Fu (qj D ws).2.fuse:=by
 have b:Fu (qM D ws).2.fuse:=bN a (gj a _ D h) _;unfold qj;split;.exact bN a (gj a ws _ b) _
 .exact b
def Gr(D:Dk)(V V':qE)(bd:Nat)(c kk:Int)(D':Dk)(q:Option Nat):Prop:=
 (c=0/\q=some bd/\∃bs' f,bs'.length=D.bs.length/\yF bs' V'/\D'={D with bs:=bs',reads:=D.reads+kk,fuse:=f })\/
 (c=7/\q=none/\D'.fuse=0/\D'.bs.length=D.bs.length/\D'.reads=D.reads+kk/\um D' (λU=>U=V\/U=V'))
def YR(D D':Dk):Prop:=∀Fu:Int->Prop,(∀f,Fu f->Fu (qv f))->Fu D.fuse->Fu D'.fuse
theorem YR.refl(D:Dk)(r:Int):YR D {D with reads:=r}:=λ_ _ h=>h
theorem UB{w w':World}{bs bd:Nat}{k:Int}{S:Nat->Prop}{a c:Int}(n:D.ps=[])(x:64<=D.bs.length)(o:yF D.bs V)(p:X3 D.bs.length ws)(d:yF (un D.bs ws) V')(h:cB w w' bs bd k S (qj {D with reads:=D.reads+a} ws) c):
 ∃D' q,vP w w' bs bd S D' k q/\Gr D V V' bd c a D' q/\YR D D':=by
 have j:=X6 (D:={D with reads:=D.reads+a }) (V:=V) (V':=V') n o p (by show 21<=D.bs.length;omega) d;have g:YR D (qj {D with reads:=D.reads+a} ws).2:=λFu l h=>KT (D:={D with reads:=D.reads+a }) l h ws;obtain⟨i,h2,v,s⟩:=h;generalize qj {D with reads:=D.reads+a} ws=y at*;obtain⟨b,D'⟩:=y;refine⟨D',_,⟨h2,v,s⟩,?_,g⟩
 cases b with
 |true=>
  obtain⟨f,e⟩:=j.1 rfl;exact .inl ⟨i,rfl,_,f,jd _ _,d,e⟩
 |false=>
  obtain⟨r,m,u,t⟩:=j.2 rfl;exact .inr ⟨i,rfl,r,m,u,t⟩
end prog
namespace prog
open law (qE ze q8 xk gy cI xw dC GS OutIs G8)
open keys (zp)
variable {D D':Dk}{V:qE}{bd:Nat}{q:Option Nat}
variable {Fu:Int->Prop} {Ho:List (List Value)->qE->Prop} {m1:∀f,Fu f->zD f} {m2:Fu (-1)} {m3:∀bs V,yF bs V->Ho bs V} {m4:∀bs V,Ho bs V->law.Good V}
theorem vm.wsok{tree n:Nat}{m:List UInt8}{es:List En}{bl:List Nat}{bo:Pl->List zv}{key:ByteArray}{mark:Bool}{l:List UInt8}{f:Nat}{C1:Ck}{m1:List UInt8}{nb1:List Nat}{root':Nat}{C2:Ck}{m2:List UInt8}{pb nb:List Nat}(h:vm D V tree n m es bl bo key mark l f C1 m1 nb1 root' C2 m2 pb nb)(b:((C2.put 1 (zl (zw root' (n+1)))).full||decide (18<(C2.put 1 (zl (zw root' (n+1)))).ws.length))=false):X3 D.bs.length (C2.put 1 (zl (zw root' (n+1)))).ws:=by
 simp only [lg,decide_eq_false_iff_not,qI] at b;obtain⟨c,i⟩:=b;have g:1∈(C2.put 1 (zl (zw root' (n+1)))).keys:=(xh C2 1 _ 1).2 (.inr rfl);have h2:=l9 g;rw [Ck.keys_len] at h2;refine⟨yJ h.ins.chn.nodup 1 _,by omega,h2,λp e=>?_⟩;have d:p.1∈(C2.put 1 (zl (zw root' (n+1)))).keys:=au.2 ⟨p,e,rfl⟩;refine⟨h.klt c _ d,?_⟩;rcases ah.1 (h.keys c _ d) with a|a;.simp at a;omega
 .have:21<=p.1:=by
   rcases ah.1 a with a|a;.exact(h.mid a).1
   .rcases ah.1 a with a|a;.exact(h.rep.range _ (af _ (h.ins.sub _ a))).1
    .exact(h.new a).1
  omega
def GL(D:Dk)(V:qE)(key:ByteArray)(mark:Bool)(l:List UInt8)(bd:Nat)(v c:Int)(D':Dk)(q:Option Nat):Prop:=
 YR D D'/\∃kk:Int,0<=kk/\kk<=19/\((c=6/\v=0/\q=some bd/\uv V.vs (yM l.length) D.bs.length=false/\D'={D with reads:=D.reads+kk })\/
  ((c=0->v=V.n0+1)/\(c≠0->v=0)/\Gr D V (V.add key mark l) bd c kk D' q))
theorem Gs(w:World)(bs bd:Nat)(S:Nat->Prop)(D:Dk)(ad:zu w bs 1 (some bd))(Q:zg w bd S D)(ak:¬S bs)(aj:0<=D.reads)(au:D.reads<=4611686018427340000)(d:D.ps=[])(W:zD D.fuse)(B:64<=D.bs.length)(V:qE)(an:V.n0<=2305843009213693952)(y:yF D.bs V)
 (key:ByteArray) (s:zp key.data.toList=true) (mark:Bool) (P:Nat->Prop) (a:Option Addr) (u:Nat) (l:List UInt8) (J:mark=true->l=[]) (X:zO w P a l) (Z:∀j,P j->¬S j/\j≠bs) (O:l.length<=300) (ag:l.length<=u) (ab:u<=9223372036854775807):
 Calls Tryz.prog 52 #[.pointer (some ⟨bs,0,none⟩),.string key,.slice a l.length u,.bool mark] w λe w'=>∃v c D' q,e=.returned (.tuple #[.int .i64 v,.int .i64 c])/\vP w w' bs bd S D' 1 q/\GL D V key mark l bd v c D' q:=by
 have E:=y;obtain⟨tree,n,m,es,bl,bo,k⟩:=y;have H:n<4611686018427387904:=by rw [k.n0] at an;omega
 have F:qT (D.look 1) tree n:=by have:=k.root;rw [<-qW d] at this;exact this
 have o:qF (D.look 2) m:=by have:=k.map;rw [<-qW d] at this;exact this
 rcases hbody:fZ.body D.bs.length m (zV l) with⟨f,C1,m1⟩;have U:XC D fZ m:=⟨by rw [yE];exact o,λh=>(nomatch h),List.nodup_nil⟩;obtain⟨nb1,i⟩:=V2 U k.few (zV l) f C1 m1 (λp aq=>(bm p aq).2) hbody;have ah:=(bn (C:=fZ) (D:=D) (m:=m) (by rw [yE];exact o) k.few (zV l) f C1 m1 hbody).2.2;have K:=Z7 s
 have r:∀j∈bl,21<=j/\zT m1 (j-21)=true/\j∉nb1:=λj b=>by have ap:=k.range j (af _ b);have g:zT m (j-21)=true:=(k.taken (j-21) (by omega)).2 (by rw [show j-21+21=j from by omega];exact af _ b);exact⟨ap.1,i.stp.grew.keeps g,i.stp.grew.apart g⟩
 have N:=k.forest.congr (λj b=>by
  have g:=r j b;show C1.look D (j:Nat)=_
  rw [i.stp.look j (λh=>(nomatch h)) g.2.2 (by omega) (by omega),yE,qW d])
 refine(JA w bs bd S D 1 ad Q ak aj (by omega) d W B k.few tree n F H m o key mark P a u l X Z O ag ab es bl f C1 m1 hbody nb1 i ⟨K.2.1,K.2.2,by show 0<=(n:Int)+1;omega,by show (n:Int)+1<_;omega,O,λh=>by show l.length=0;rw [J h];rfl,ah⟩ (Gd s _) N (aN.1 k.nodup).1 (λj b=>⟨(r j b).1,(r j b).2.1⟩) k.len (λj b=>(k.range j (af _ b)).2) (λx M=>(k.low x M).1) (λx M e=>?_)).mono ?_
 .have g:=(k.low x M).2.2.1;rw [e] at g;simp only at g;omega
 .rintro e w' ⟨root',C2,m2,pb,nb,ao,ai,L,I,h⟩;have A:vm D V tree n m es bl bo key mark l f C1 m1 nb1 root' C2 m2 pb nb:=⟨k,d,B,i,ao,s,O,J,H⟩;rcases h with⟨t,rfl,ac,G⟩|⟨z,v,c,rfl,ae,aa,_,al⟩
  .have Y:za (λj=>S j\/j=bs) w w':=G.mono (λj b=>.inl (by rw [b];exact Q.bdS));refine⟨0,6,_,some bd,rfl,⟨ad.kept G (λh=>ak (by rw [h];exact Q.bdS)),⟨S,ac,λ_ h=>.inl h⟩,Y⟩,YR.refl _ _,ai,L,I,.inl ⟨rfl,rfl,rfl,?_,rfl⟩⟩
   cases T:uv V.vs (yM l.length) D.bs.length with
   |false=>rfl
   |true=>rw [A.fits T] at t;cases t
  .obtain⟨ar,av,R⟩:=A.rest z;obtain⟨D',q,g,h2,am⟩:=UB d B E (A.wsok z) ⟨_,_,_,_,_,_,R⟩ al;exact⟨v,c,D',q,rfl,g,am,ai,L,I,.inr ⟨λh=>by rw [ae h,k.n0],aa,h2⟩⟩
theorem Gr.same{V':qE}{c b:Int}(h:Gr D V V' bd c b D' q):D'.bs.length=D.bs.length/\D'.reads=D.reads+b:=by
 rcases h with⟨_,_,d,f,a,_,rfl⟩|⟨_,_,_,a,h2,_⟩;.exact⟨a,rfl⟩
 .exact⟨a,h2⟩
theorem Gr.chg{D1:Dk}{V':qE}{n:Nat}{c i:Int}(o:Fu 0->∀bs V,kq bs V->Ho bs V)(e:D1.ps=[])(k:64<=D1.bs.length)(a:Fu D'.fuse)(h:Gr D1 V V' bd c i D' q):law.Chg (vn Fu Ho m1 m2 m3 m4) D D' V V' bd 0 c n q:=by
 rcases h with⟨rfl,rfl,b,f,j,h2,rfl⟩|⟨rfl,rfl,d,j,h2,g⟩;.exact⟨.inr (.inl ⟨rfl,rfl,rfl,⟨e,h2,by show 64<=b.length;omega⟩⟩)⟩
 .refine⟨.inr (.inr (.inr ⟨rfl,rfl,rfl,d,⟨by have:=g.1;omega,by omega,λks=>?_⟩⟩))⟩;obtain⟨p,m,l⟩:=g.2 ks;exact⟨p,m,o (by rw [<-d];exact a) _ _ l⟩
theorem vP.aft{w w':World}{bs:Nat}{S:Nat->Prop}(h:vP w w' bs bd S D' 0 q)(f:D.reads<=D'.reads)(h2:D'.reads<=D.reads+40)(g:D'.bs.length=D.bs.length)(e:Fu D'.fuse):∃S',dC (vn Fu Ho m1 m2 m3 m4) w w' bd bs S S' D D' 40 q:=by
 obtain⟨a,⟨S',b,c⟩,d⟩:=h;exact⟨S',b,c,a,d,f,h2,g,e⟩
theorem gk(U:Fu 0->∀bs V,kq bs V->Ho bs V)(R:∀f,Fu f->Fu (qv f)):xk (vn Fu Ho m1 m2 m3 m4) where
 live:=λw bd bs S P D V key a j l F o E L Q I K=>by
  have r:=F.fuse;have t:=F.sto;have A:=F.disk;have u:=F.live.ps;have s:=F.live.rest;have O:=F.reads0;have X:=F.reads1;have p:=F.live.big
  cases d:zp key.data.toList with
  |false=>
   refine(JB w bs (some bd) t key o d a l.length j).mono ?_;rintro e w' ⟨i,h2,k⟩;exact⟨D,S,2,0,some bd,i,kj A F.apart r h2 k,⟨.inl ⟨by show (2:Int)≠0;decide,rfl,rfl,F.live⟩⟩,rfl⟩
  |true=>
   by_cases b:300<l.length
   .have g:fS true l.length=3:=aB b;rw [g];refine(JC w bs (some bd) t key o d a l.length j b).mono ?_;rintro e w' ⟨i,h2,k⟩;exact⟨D,S,3,0,some bd,i,kj A F.apart r h2 k,⟨.inl ⟨by decide,rfl,rfl,F.live⟩⟩,rfl⟩
   .have g:fS true l.length=0:=aw b;rw [g];refine(U6 w bs bd S D t A F.apart key o d P a j l E L (by omega) (GL D V key false l bd) (λw' i h2 k=>Gs w' bs bd S D i h2 F.apart O (by omega) u (m1 _ r) p V F.few s key d false P a j l (λh=>(nomatch h)) k L (by omega) I K)).mono ?_;rintro e w' ⟨v,c,D',q,i,⟨N,J,Y,W,z⟩,M⟩;have m:=N Fu R r;rcases z with⟨rfl,rfl,rfl,B,rfl⟩|⟨H,G,z⟩
    .obtain⟨S',C⟩:=M.aft (D:=D) (by show D.reads<=D.reads+J;omega) (by show D.reads+J<=D.reads+40;omega) rfl m;exact⟨_,S',6,0,some bd,i,C,⟨.inr (.inr (.inl ⟨rfl,rfl,rfl,⟨u,s,p⟩,B⟩))⟩,rfl⟩
    .obtain⟨T,Z⟩:=z.same;obtain⟨S',C⟩:=M.aft (D:=D) (by omega) (by omega) T m;refine⟨D',S',c,v,q,i,C,z.chg U u p m,?_⟩;by_cases y:c=0;.rw [aB y];exact H y
     .rw [aw y];exact G y
 shut:=λw bs key a n j t o aa=>by
  have x:=t
  cases d:zp key.data.toList with
  |false=>exact(JB w bs none x key o d a n j).mono (λe w' ⟨i,h2,k⟩=>⟨i,h2,k⟩)
  |true=>
   by_cases b:300<n
   .have g:fS true n=3:=aB b;rw [g];exact(JC w bs none x key o d a n j b).mono (λe w' ⟨i,h2,k⟩=>⟨i,h2,k⟩)
   .have g:fS true n=0:=aw b;rw [g];exact(Ui w bs x key o d a n j (by omega)).mono (λe w' ⟨i,h2,k⟩=>⟨i,h2,k⟩)
theorem gl(f:Int)(h:f= -1):qv f= -1:=by rw [h];rfl
end prog
end Go.Proofs.YtcoengihaobddaaGreatDoor
