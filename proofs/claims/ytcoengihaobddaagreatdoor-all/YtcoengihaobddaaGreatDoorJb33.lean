/- Part 33 of 36 of a proof: Rep3, Rem11, BFree1, Era1, Era2, Mng4, Del1 -/
import Derived.Test.YtcoengihaobddaaGreatDoorJb32
import Derived.Test.YtcoengihaobddaaGreatDoorJb30
import Derived.Test.YtcoengihaobddaaGreatDoorJb07
set_option maxHeartbeats 8000000
set_option linter.unusedVariables false
set_option linter.unusedSimpArgs false
set_option maxRecDepth 8000
namespace Go.Proofs.YtcoengihaobddaaGreatDoor
namespace prog
open Go.RowKit disk ref
open law (qE)
open keys (zp)
def yG:List Nat->Ck×List UInt8->Ck×List UInt8
 |[],s=>s
 |j::l,s=>yG l (s.1.free s.2 (j-21),jN s.2 (j-21))
theorem bO:∀(l:List Nat) (j:Nat) (s:Ck×List UInt8),yG (l++[j]) s=((yG l s).1.free (yG l s).2 (j-21),jN (yG l s).2 (j-21))
 |[],_,_=>rfl
 |_::l,j,s=>bO l j _
theorem kt{D:Dk}:∀(l:List Nat) (C:Ck) (m:List UInt8),b8 D C m->(∀j∈l,21<=j/\j<1000)->b8 D (yG l (C,m)).1 (yG l (C,m)).2/\gh D C (yG l (C,m)).1 m (yG l (C,m)).2 [] l/\(yG l (C,m)).1.ws.length<=C.ws.length+l.length
 |[],C,m,h,_=>⟨h,gh.refl D C m,by simp [yG]⟩
 |j::l,C,m,h,hr=>by have c:=hr j (al ..);obtain⟨a,h2,d⟩:=kt l _ _ (h.free (j-21)) (λi b=>hr i (am _ b));have s:=(gh.free h (i:=j-21) (by omega)).trans h2;rw [show j-21+21=j from by omega] at s;refine⟨a,s,?_⟩;have:=bE C m (j-21);show (yG l (C.free m (j-21),jN m (j-21))).1.ws.length<=_;rw [ae];omega
structure Qb (D:Dk) (C C':Ck) (m m':List UInt8) (root':Nat) (p:Pl) (e:En) (es:List En) (bs pb fb:List Nat):Prop where
 cln:b8 D C' m'
 shr:gh D C C' m m' pb fb
 sub:∀j∈pb,j∈bs
 pl:pb.length<=13
 few:C'.ws.length<=C.ws.length+100
 mem:e∈es
 at_:e.pl=p
 tree:∃bs',qY (λj=>C'.look D (j:Nat)) root' (qR p es) bs'/\(bs'++fb).Perm bs
 lt:root'<65536
theorem yL.perm_del{l:List En}(h:yL l){e:En}(g:e∈l):l.Perm (e::qR e.pl l):=by
 obtain⟨A,B,rfl⟩:=iX g;have d:=aX.1 h;have f:=aL.1 d.2.1
 have i:∀c∈A,c.pl≠e.pl:=λc a b=>by have:=d.2.2 c a e (al ..);rw [b] at this;exact Pl.irrefl _ this
 have j:∀c∈B,c.pl≠e.pl:=λc a b=>by have:=f.1 c a;rw [b] at this;exact Pl.irrefl _ this
 have k:qR e.pl (e::B)=qR e.pl B:=by unfold qR;rw [eX,aw (by simp)]
 rw [jE,k,jf i,jf j];exact List.perm_middle
structure fp (D:Dk) (V:qE) (tree n:Nat) (m:List UInt8) (es:List En) (bl:List Nat) (bo:Pl->List zv) (p:Pl) (e:En) (root':Nat) (C1:Ck) (m1:List UInt8) (pb fb:List Nat) (C2:Ck) (m2:List UInt8):Prop where
 rep:vY D.bs V tree n m es bl bo
 ps:D.ps=[]
 big:64<=D.bs.length
 rem:Qb D fZ C1 m m1 root' p e es bl pb fb
 body:yG ((bo e.pl).map zv.at_) (C1,m1)=(C2,m2)
 num:n<4611686018427387904
section
variable {D:Dk} {V:qE} {tree n:Nat} {m:List UInt8} {es:List En} {bl:List Nat} {bo:Pl->List zv} {p:Pl} {e:En} {root':Nat} {C1:Ck} {m1:List UInt8} {pb fb:List Nat} {C2:Ck} {m2:List UInt8}
theorem gm{a:En}(b:a∈es){j:Nat}(c:j∈(bo a.pl).map zv.at_):j∈yg es bo:=gi.2 ⟨a,b,c⟩
theorem fp.shr(h:fp D V tree n m es bl bo p e root' C1 m1 pb fb C2 m2):b8 D C2 m2/\gh D fZ C2 m m2 pb (fb++(bo e.pl).map zv.at_):=by
 have a:=kt ((bo e.pl).map zv.at_) C1 m1 h.rem.cln (λj b=>by
  have:=h.rep.range j (av _ (gm h.rem.mem b));have:=h.rep.few
  omega)
 rw [h.body] at a;have:=h.rem.shr.trans a.2.1;rw [aM] at this;exact⟨a.1,this⟩
theorem fp.keys(h:fp D V tree n m es bl bo p e root' C1 m1 pb fb C2 m2):∀k∈(C2.put 1 (zl (zw root' n))).keys,k∈[1,2]++pb:=λk b=>by
 rcases (xh C2 1 _ k).1 b with a|a
 .rcases h.shr.2.keys k a with a|a|a;.exact nomatch a
  .simp [a]
  .simp [a]
 .simp [a]
theorem fp.klt(h:fp D V tree n m es bl bo p e root' C1 m1 pb fb C2 m2):∀k∈(C2.put 1 (zl (zw root' n))).keys,k<D.bs.length:=λk b=>by
 have c:=h.big;rcases ah.1 (h.keys k b) with a|a;.simp at a;omega
 .exact(h.rep.range k (af _ (h.rem.sub k a))).2
theorem fp.fits(h:fp D V tree n m es bl bo p e root' C1 m1 pb fb C2 m2):(C2.put 1 (zl (zw root' n))).full=false/\(C2.put 1 (zl (zw root' n))).ws.length<=18:=by
 refine⟨by rw [qI];exact h.shr.1.full,?_⟩;have a:=ki _ _ (yJ h.shr.1.nodup 1 (zl (zw root' n))) h.keys;rw [Ck.keys_len] at a;simp only [ag,ae,hO] at a;have:=h.rem.pl;omega
theorem fp.rest(h:fp D V tree n m es bl bo p e root' C1 m1 pb fb C2 m2):∃f,vY (un D.bs (C2.put 1 (zl (zw root' n))).ws) (V.sub p.key p.num) root' n m2 (qR p es) f bo:=by
 obtain⟨aa,Z⟩:=h.fits;obtain⟨z,C⟩:=h.shr;obtain⟨f,hF,L⟩:=h.rem.tree;have X:=h.big;have S:=h.rep.few;have J:=yJ z.nodup 1 (zl (zw root' n))
 have x:∀j:Nat,j≠0->(j<3\/21<=j)->Z5 (un D.bs (C2.put 1 (zl (zw root' n))).ws) j=(C2.put 1 (zl (zw root' n))).look D (j:Nat):=λj E b=>by rw [Z6 h.ps];exact Ya h.ps J (by omega) h.klt E b
 have k:∀j:Nat,j≠0->j≠1->(j<3\/21<=j)->Z5 (un D.bs (C2.put 1 (zl (zw root' n))).ws) j=C2.look D (j:Nat):=λj E l b=>by rw [x j E b,zZ _ _ _ _ _ (by omega)]
 have Q:yL es:=h.rep.forest.six.2.2;have P:es.Perm (e::qR p es):=by rw [<-h.rem.at_];exact Q.perm_del h.rem.mem
 have A:(yg es bo).Perm ((bo e.pl).map zv.at_++yg (qR p es) bo):=(P.map _).flatten
 have r:(bl++yg es bo).Perm ((f++yg (qR p es) bo)++(fb++(bo e.pl).map zv.at_)):=by rw [lJ] at L A ⊢;intro a;have l:=L a;have h2:=A a;simp only [l4] at l h2 ⊢;omega
 have I:=r.nodup_iff.1 h.rep.nodup;have w:=aN.1 I;have u:∀j∈f++yg (qR p es) bo,j∈bl++yg es bo/\j∉fb++(bo e.pl).map zv.at_:=λj b=>⟨r.mem_iff.2 (af _ b),λo=>w.2.2 j b j o rfl⟩;have d:∀j∈f++yg (qR p es) bo,21<=j/\j<D.bs.length:=λj b=>h.rep.range j (u j b).1;have s:=h.rep.good;have c:∀v∈(V.sub p.key p.num).vs,v∈V.vs:=λv g=>(ei.1 g).1;refine⟨f,⟨by rw [jd];exact S,?_,h.rep.n0,?_,?_,?_,w.1,λj b=>by rw [jd];exact d j b,?_,?_,?_,?_⟩⟩
 .have:=x 1 (by omega) (by omega);rw [this];have h2:(C2.put 1 (zl (zw root' n))).look D ((1:Nat):Int)=zl (zw root' n):=qn _ _ _ _;rw [h2];exact⟨.inl rfl,h.rem.lt,by have:=h.num;omega⟩
 .rw [k 2 (by omega) (by omega) (by omega)];exact z.map
 .refine hF.congr (λj b=>?_);have U:=d j (af _ b);rw [k j (by omega) (by omega) (by omega)]
  have t:=kt ((bo e.pl).map zv.at_) C1 m1 h.rem.cln (λj b=>by
   have:=h.rep.range j (av _ (gm h.rem.mem b))
   omega)
  rw [h.body] at t;exact t.2.1.look j (λo=>nomatch o) (λo=>(u j (af _ b)).2 (av _ o)) (by omega)
 .intro F H;have B:=dK.1 H;have t:=h.rep.body F B.1;refine⟨t.chain.congr (λq M=>?_),t.head,t.size,t.few⟩;have y:q.at_∈yg (qR p es) bo:=gi.2 ⟨F,H,au.2 ⟨q,M,rfl⟩⟩;have O:=u q.at_ (av _ y);have U:=d q.at_ (av _ y);have K:q.at_∉pb:=λo=>(aN.1 h.rep.nodup).2.2 _ (h.rem.sub _ o) _ (gm B.1 (au.2 ⟨q,M,rfl⟩)) rfl;rw [k _ (by omega) (by omega) (by omega),C.look _ K O.2 (by omega),yE,qW h.ps]
 .intro i N;rw [jd] at N;rw [C.taken];simp only [aW,aR];rw [h.rep.taken i N];constructor
  .rintro⟨l,h2⟩;rcases ah.1 (r.mem_iff.1 l) with G|G;.exact G
   .exact absurd G h2
  .exact λl=>u _ l
 .have l:(V.sub p.key p.num).vs.Perm ((es.map (y5 bo)).filter λv=> !(decide (v.key=p.key)&&decide (v.num=p.num))):=h.rep.vers.filter _;refine l.trans ?_;rw [List.filter_map]
  have:(es.filter ((λv:zB=> !(decide (v.key=p.key)&&decide (v.num=p.num)))∘y5 bo))=qR p es:=by unfold qR;refine lX (λF _=>?_);show (!(decide (F.pl.key=p.key)&&decide (F.pl.num=p.num)))=decide (F.pl≠p);obtain⟨⟨k1,Y⟩,_,_,_⟩:=F;obtain⟨k2,W⟩:=p;simp only [ne_eq,Pl.mk.injEq];by_cases T:k1=k2<;>by_cases R:Y=W<;>simp [T,R]
  rw [this]
 .refine⟨Pg.new 1,Pg.new_ok 1 (by omega),?_,rfl⟩;rw [Z6 h.ps];exact Yb h.ps (by omega) _
 .exact⟨i9 _ s.apart,λv g=>s.num v (c v g),λv g=>s.key v (c v g),λv g=>s.body v (c v g),λv g=>s.mark v (c v g),aD (ip _ _) s.few,s.n0⟩
end
end prog
namespace prog
open Go.RowKit disk ref
theorem bD.root{h:Nat}{t a:Tr h}{p:Pl}(k:bD t p a)(r:t.Root)(b:1<=a.items.length)(h2:0<h->2<=a.items.length):a.Root where
 good:=k.good
 hi:=k.hi
 one:=b
 two:=h2
 first:=k.first _ r.first
 srt:=by rw [k.ents];exact r.srt.del
theorem bQ{C:Ck}{D:Dk}{r:Int}{h:Nat}{t:Tr h}(l:t.LayV zl (λj=>C.look D (j:Nat))):C.look {D with reads:=r} (t.blk:Nat)=zl (zc (zN h) t.items):=by rw [zF];exact l.node
theorem YS(f bd:Nat)(S T:Nat->Prop)(D:Dk)(p:Pl)(C:Ck)(m:List UInt8)(y:Nat)(es:List En)(bs:List Nat)(hF:qY (λj=>C.look D (j:Nat)) y es bs)(R:bs.Nodup)
 (I:∀j∈bs,21<=j/\j<1000) (al:bs.length<=979) (ay:b8 D C m) (aD:C.ws.length<100):
 (∃e root' K Z pb fb,Qb D C K m Z root' p e es bs pb fb/\jA f bd S T D C y p root' (qr e) true K)\/((∀aa∈es,aa.pl≠p)/\jA f bd S T D C y p y qx false C):=by
 rcases hF with⟨rfl,rfl,rfl⟩|⟨h,t,d,aA,rfl,rfl,rfl⟩
 .exact .inr ⟨λaa ax=>(nomatch ax),⟨λw r x z a=>(Yz w f p 0 rfl).mono (by
   rintro aa w' ⟨z,h2⟩
   exact⟨z,⟨0,T,eb _,by omega,by rw [Int.add_zero];exact a.kept0 h2,λ_ h=>.inl h⟩,h2.mono fE⟩)⟩⟩
 .have W:=d.low al;have aw:=I t.blk t.blk_mem;rcases YE f bd S T D p h t C m (by omega) d.good d.two d.hi d.srt R I aA ay (by omega) with⟨e,C1,m1,s,pb,fb,k,ab⟩|⟨au,ab⟩
  .obtain⟨g,L,v,b,P⟩:=k.tree;have aH:=k.pl;have aI:=k.few
   cases O:s with
   |false=>
    rw [O] at ab;have z:=d.one;have h2:=d.two;have ad:=P O;have ai:=L.root d (by omega) (λh=>by have:=h2 h;omega);refine .inl ⟨e,t.blk,C1,m1,pb,fb,⟨k.cln,k.shr,k.sub,by omega,by omega,k.mem,k.at_,⟨g.blocks,.inr ⟨h,g,ai,v,L.blk,L.ents,rfl⟩,b⟩,d.good.blk⟩,⟨λw r x z a=>?_⟩⟩;exact vi w f bd S T D C r a x p h t.blk (by omega) (by omega) W (qr e) ⟨_,_,_,_,_,rfl⟩ false true C1 ab _ _ (.inl ⟨rfl,rfl,rfl⟩)
   |true=>
    rw [O] at ab
    have E:∀root' C2,(∀(o:World) (l:Nat->Prop) (r:Int),0<=r->r<=4611686018427380000->Cw o f bd S l {D with reads:=r} C1->Calls Tryz.prog 142 #[.pointer (some ⟨f,0,none⟩),.int .i64 (t.blk:Int)] o λaa w'=>aa=.returned (.int .i64 (root':Nat))/\(∃(n:Int) (ao:Nat->Prop),0<=n/\n<=2/\Cw w' f bd S ao {D with reads:=r+n} C2/\∀j,ao j->l j\/o.heap.size<=j)/\za (λj=>j=bd\/l j) o w')->jA f bd S T D C t.blk p root' (qr e) true C2:=λroot' C2 ah=>⟨λw r x z a=>
     vi w f bd S T D C r a x p h t.blk (by omega) (by omega) W (qr e) ⟨_,_,_,_,_,rfl⟩ true true C1 ab root' C2 (.inr ⟨rfl,ah⟩)⟩
    have F:1<=g.items.length->(0<h->2<=g.items.length)->(∃e root' K Z pb fb,Qb D C K m Z root' p e t.ents t.blocks pb fb/\jA f bd S T D C t.blk p root' (qr e) true K):=λaj an=>by refine⟨e,t.blk,C1,m1,pb,fb,⟨k.cln,k.shr,k.sub,by omega,by omega,k.mem,k.at_,⟨g.blocks,.inr ⟨h,g,L.root d aj an,v,L.blk,L.ents,rfl⟩,b⟩,d.good.blk⟩,E _ _ (λo l r J N a=>?_)⟩;refine(XV o f bd S l {D with reads:=r} C1 a J N t.blk d.good.blk (zN h) (Z3 h) g.items L.good.items_ok (bG g) L.hi aj (λad=>an (by cases h with|zero=>simp [zN] at ad|succ h=>omega)) (by rw [<-L.blk];exact bQ v)).mono ?_;rintro aa w' ⟨k1,⟨n,k2,k3,aB⟩,aE⟩;exact⟨k1,⟨n,l,k2,by omega,aB,λ_ h=>.inl h⟩,aE.mono iL⟩
    have G:((t.blk:Nat):Int)=((t.blk-21:Nat):Int)+21:=by omega
    have B:=k.shr.trans (gh.free k.cln (i:=t.blk-21) (by omega));rw [aM,show t.blk-21+21=t.blk from by omega] at B;have M:=k.cln.free (t.blk-21);have aJ:=bE C1 m1 (t.blk-21)
    cases h with
    |zero=>
     by_cases z:1<=g.items.length;.exact .inl (F z (λh=>by omega))
     .have x:g.items=[]:=aY (by omega);have ap:qR p t.ents=[]:=by rw [<-L.ents];exact x
      refine .inl ⟨e,0,C1.free m1 (t.blk-21),jN m1 (t.blk-21),pb,fb++[t.blk],⟨M,B,k.sub,by omega,by omega,k.mem,k.at_,⟨[],.inl ⟨rfl,ap,rfl⟩,?_⟩,by omega⟩,E _ _ (λo l r J N a=>?_)⟩
      .have az:g.blocks=[t.blk]:=by rw [<-L.blk];rfl
       rw [az] at b;rw [aK];exact eM.trans b
      .have:=XU o f bd S l {D with reads:=r} C1 a m1 (by rw [zF];exact k.cln.map) J N (by omega) (t.blk-21) (by omega) 5 (.inr rfl) (by
        rw [show t.blk-21+21=g.blk from by rw [L.blk];omega,bQ v,x];rfl)
       rw [G];exact this
    |succ h=>
     by_cases h2:2<=g.items.length;.exact .inl (F (by omega) (λ_=>h2))
     .have ag:=L.lo;have aF:=d.two (by omega);obtain⟨aC,Y⟩:=g
      have V:Y.length=1:=by rw [zy] at h2 ag;omega
      obtain⟨⟨q,u⟩,rfl⟩:∃c,Y=[c]:=by
       cases Y with
       |nil=>simp at V
       |cons c r=>cases r with
        |nil=>exact⟨c,rfl⟩
        |cons _ _=>simp at V
      obtain rfl:aC=t.blk:=L.blk;have A:=L.good.kids.good (q,u) (by simp);have aO:3<=u.items.length:=L.good.full (q,u) (by simp)
      have X:u.First ye:=by obtain⟨u0,aL,Q⟩:=L.first _ d.first;simp only [eH,eS] at Q;rw [<-Q.1.1];exact(L.good.kids.seps [] q u [] rfl).2.2
      have U:u.ents=qR p t.ents:=by rw [<-L.ents];show u.ents=zI [(q,u)];simp [zI]
      have ae:u.Root:=⟨A.1,A.2.1,by omega,λ_=>by omega,X,by rw [U];exact d.srt.del⟩;have H:Tr.blocks (h:=h+1) (t.blk,[(q,u)])=t.blk::u.blocks:=by show t.blk::zE [(q,u)]=_;simp [zE]
      have ac:(t.blk::u.blocks++fb).Nodup:=by rw [<-H];exact b.nodup_iff.2 R
      have aq:t.blk∉u.blocks:=(iM.1 (aN.1 ac).1).1;have av:u.LayV zl (λj=>C1.look D (j:Nat)):=v.2 (q,u) (by simp);refine .inl ⟨e,u.blk,C1.free m1 (t.blk-21),jN m1 (t.blk-21),pb,fb++[t.blk],⟨M,B,k.sub,by omega,by omega,k.mem,k.at_,⟨u.blocks,.inr ⟨h,u,ae,av.congr (λj ar=>?_),rfl,U,rfl⟩,?_⟩,A.1.blk⟩,E _ _ (λo l r J N a=>?_)⟩
      .have aG:=I j (b.mem_iff.1 (af _ (by rw [H];exact am _ ar)));exact fh C1 D m1 (t.blk-21) j (by omega) (λaP=>aq (by rw [show t.blk=j from by omega];exact ar))
      .rw [H] at b;refine List.Perm.trans ?_ b;rw [<-ak];exact eM
      .have:=KG o f bd S l {D with reads:=r} C1 a m1 (by rw [zF];exact k.cln.map) J N (by omega) (t.blk-21) (by omega) ⟨q,false,0,u.blk⟩ (A.2.2.en A.1.blk) ⟨rfl,rfl⟩ (by
        rw [show t.blk-21+21=t.blk from by omega];exact bQ v)
       rw [G];exact this
  .refine .inr ⟨au,⟨λw r x z a=>?_⟩⟩;exact vi w f bd S T D C r a x p h t.blk (by omega) (by omega) W qx ⟨_,_,_,_,_,rfl⟩ false false C ab _ _ (.inl ⟨rfl,rfl,rfl⟩)
end prog
namespace prog
open Go.ChangeShapes Go.WideShapes Go.ChangeAt Go.RowKit disk ref
open keys (zh zd zx zq)
attribute [local go_sem] Oper.semAt_some
def Qd(pre:List BP):List Nat:=pre.map λx=>x.p.at_
theorem JI{ps:List zv}{pre:List BP}(h:pre.map BP.p<+:ps):Qd pre<+:ps.map zv.at_:=by
 have:=h.map zv.at_;rw [ln] at this;exact this
structure Dh (w1:World) (bc bd:Nat) (S T:Nat->Prop) (D:Dk) (C:Ck) (m:List UInt8) (ps:List zv) (b2 bx:Nat) (r:Int) (pre:List BP) (Q:Nat->Prop) (A:World):Prop where
 st:∃(n:Int) (T1:Nat->Prop),0<=n/\n<=r+pre.length/\Cw A bc bd S T1 {D with reads:=D.reads+n} (yG (Qd pre) (C,m)).1/\(∀j,T1 j->T j\/w1.heap.size+2<=j)/\∀k,Q k↔T1 k/\w1.heap.size+2<=k
 box:A.heap[b2]? =some (.cells #[.iface 142 (.pointer (some ⟨bc,0,none⟩))] 193 (0,0))
 cbx:A.heap[bx]? =some (.cells #[.pointer (some ⟨bc,0,none⟩)] 142 (0,0))
 pfx:pre.map BP.p<+:ps
 kept:za (λk=>k=bd\/T k\/w1.heap.size<=k) w1 A
 rr:0<=r
def Dp(w1:World)(bc bd:Nat)(S T:Nat->Prop)(D:Dk)(C:Ck)(m:List UInt8)(ps:List zv)(b2:Nat)(r:Int)(pre:List BP)(A:World):Prop:=
 (∃(n:Int) (T1:Nat->Prop),0<=n/\n<=r+pre.length/\Cw A bc bd S T1 {D with reads:=D.reads+n} (yG (Qd pre) (C,m)).1/\(∀j,T1 j->T j\/w1.heap.size+2<=j))/\
  A.heap[b2]? =some (.cells #[.iface 142 (.pointer (some ⟨bc,0,none⟩))] 193 (0,0))/\pre.map BP.p<+:ps/\0<=r
theorem YT{D:Dk}{C:Ck}{m:List UInt8}(h:b8 D C m){ps:List zv}(b:∀q∈ps,21<=q.at_/\q.at_<1000){pre:List BP}(a:pre.map BP.p<+:ps):b8 D (yG (Qd pre) (C,m)).1 (yG (Qd pre) (C,m)).2/\gh D C (yG (Qd pre) (C,m)).1 m (yG (Qd pre) (C,m)).2 [] (Qd pre)/\(yG (Qd pre) (C,m)).1.ws.length<=C.ws.length+ps.length:=by
 have c:=(JI a).subset
 obtain⟨d,h2,g⟩:=kt (Qd pre) C m h (λj f=>by
  obtain⟨q,e,rfl⟩:=au.1 (c f)
  exact b q e)
 refine⟨d,h2,aD g ?_⟩;have:=(JI a).length_le;simp at this;omega
theorem KU(w:World)(g bd:Nat)(S T:Nat->Prop)(D:Dk)(C:Ck)(h:Cw w g bd S T D C)(m:List UInt8)(Y:b8 D C m)(bo:0<=D.reads)(br:D.reads<=4611686018427380000)(ps:List zv)(ao:yZ (λj=>C.look D (j:Nat)) ps)(O:(ps.map zv.at_).Nodup)(bm:ps.length<=3)(E:∀q∈ps,21<=q.at_/\q.at_<1000)(first:Nat)(aV:xo ps=first)(bh:C.ws.length<600)(aN:Ck)(bg:List UInt8)(I:yG (ps.map zv.at_) (C,m)=(aN,bg)):
 Calls Tryz.prog 80 #[.pointer (some ⟨g,0,none⟩),.int .i64 first] w λe w'=>e=.returned (.tuple #[])/\(∃(n:Int) (W:Nat->Prop),0<=n/\n<=6/\Cw w' g bd S W {D with reads:=D.reads+n} aN/\∀j,W j->T j\/w.heap.size<=j)/\za (λj=>j=bd\/T j) w w':=by
 have bc:Hid _:=h;have a7:Hid _:=aV;have bq:=h.disk.lt bd h.disk.bdS;have F:Hid _:=h.chg.lt;have ap:Hid _:=h.disk.lt;change Hid _ at Y ao O E I;clear h aV;refine yz Tryz.func80 rfl ?_;simp only [Tryz.ntmps80,aq,ae,hO,Nat.reduceAdd,Nat.reduceSub,iN,iO,i5,iR,aK,aT];go_wp2_with fail;have aW:Hid (za (λ_=>False) w (w.alloc (.cells #[.pointer (some ⟨g,0,none⟩)] 142))):=za.alloc _ _ _;have a0:Hid ((w.alloc (.cells #[.pointer (some ⟨g,0,none⟩)] 142)).heap[w.heap.size]? =some (.cells #[.pointer (some ⟨g,0,none⟩)] 142 (0,0))):=ac w _;have au:(w.alloc (.cells #[.pointer (some ⟨g,0,none⟩)] 142)).heap.size=w.heap.size+1:=by simp
 generalize (w.alloc (.cells #[.pointer (some ⟨g,0,none⟩)] 142))=a6 at*;refine(Zg a6 142 ⟨g,0,none⟩ first).mono ?_;rintro e p ⟨rfl,P,aa,U,aY⟩;rw [au] at P aa aY;have N:Hid _:=aW.trans U iL;have ax:Hid (p.heap[w.heap.size]? =some (.cells #[.pointer (some ⟨g,0,none⟩)] 142 (0,0))):=(U.block _ (by omega) id).trans a0.out;change Hid _ at P aa;clear U;rw [au];go_wp2_with fail
 have az:Hid (∀ab,za (λ_=>False) p ab->ab.heap.size=p.heap.size+2->vO Tryz.prog 124 #[.pointer (some ⟨w.heap.size+1+1,0,none⟩),.pointer (some ⟨w.heap.size+1,0,none⟩)] Ku (λk=>k=bd) (Dp p g bd S T D C m ps (w.heap.size+1)) (λr pre x A=>Js (p.heap.size+2) ps pre x A/\r<=0+pre.length+1) (λr af=>af.map BP.p=ps/\r<=0+ps.length) (λ_ _=>True) 0 ab):=λab d aI=>by
  have:=Zc ab 142 192 ⟨g,0,none⟩ (dO _) (w.heap.size+1+1) (w.heap.size+1) ps (λj=>C.look D (j:Nat)) ao O (λk=>k=bd) (Dp p g bd S T D C m ps (w.heap.size+1)) 0 (λk d=>by rw [d];omega)
   (by rw [a7.out];exact(d.block _ (by omega) id).trans P) (λr pre A h=>h.2.1)
   (λr pre A B h d=>by
    obtain⟨⟨n,s,v,z,o,t⟩,G,J,ah⟩:=h
    exact⟨⟨n,s,v,z,o.kept0 d,t⟩,(d.block _ (lT G) id).trans G,J,ah⟩)
   (λi f r pre A h X bn=>by
    obtain⟨⟨n,s,v,z,o,t⟩,G,J,ah⟩:=h;have aO:pre.length=i:=by have:=congrArg List.length X;simp at this;omega
    obtain⟨ay,aB,aH⟩:=YT Y E J;have aU:=E.out _ (ai f)
    have av:ps[i].at_∉Qd pre:=λu=>by
     have R:Qd pre=(ps.map zv.at_).take i:=by have:=congrArg (List.map zv.at_) X;rw [ln,iP] at this;exact this
     rw [R] at u;obtain⟨j,l,aJ⟩:=i8.1 u;have aQ:j<i:=by omega
     have:=eB.1 O j i (by omega) (by simpa using f) aQ;rw [aJ] at this;simp at this
    refine(j9 A g bd S s {D with reads:=D.reads+n} _ o _ (by constructor<;>omega) (by show 0<=D.reads+n;omega) (by show D.reads+n<=_;omega)).mono ?_;rintro x a3 ⟨rfl,⟨aC,bb,bk,aj⟩,L⟩;refine⟨?_,L,r+1,by omega,by omega,⟨n+aC,s,by omega,by omega,by rw [<-a9];exact aj,t⟩,(L.block _ (lT G) (by omega)).trans G,J,by omega⟩
    rw [zF,aB.look _ (λu=>nomatch u) av (by omega)])
  rw [aI] at this;exact this
 have aZ:Hid (∀A B a2 r ad pre Q,Dh p g bd S T D C m ps (w.heap.size+1) w.heap.size r pre Q A->za a2 A B->(∀k,a2 k->k=p.heap.size\/k=p.heap.size+1)->ad=r->Dh p g bd S T D C m ps (w.heap.size+1) w.heap.size ad pre Q B):=by
  rintro A B a2 r ad pre Q f d aw rfl;obtain⟨n,s,v,z,o,t,y⟩:=f.st;have am:∀b,b<p.heap.size->¬a2 b:=λb aL u=>by have:=aw b u;omega
  refine⟨⟨n,s,v,z,o.kept d (λj l=>am j (by have:=ap.out j l;omega)) (λj l u=>?_),t,y⟩,(d.block _ (lT f.box) (am _ (by omega))).trans f.box,(d.block _ (lT f.cbx) (am _ (by omega))).trans f.cbx,f.pfx,f.kept.trans d (λi f=>.inl (.inr (.inr (by have:=aw i f;omega)))),f.rr⟩;rcases t j l with h|h;.exact am j (by have:=F.out j h;omega) u
  .have:=aw j u;omega
 refine kf (α:=BP) (gf:= 124) (lb:=#[.pointer (some ⟨w.heap.size+1+1,0,none⟩),.pointer (some ⟨w.heap.size+1,0,none⟩)]) rfl (enters_of Tryz.func124 (by kernel_rfl) rfl) az.out
  (λk d=>by rw [d];omega) (λ_=>rfl)
  (Dh p g bd S T D C m ps (w.heap.size+1) w.heap.size) (λc r pre A=>False)
  (λr pre Q A h=>by
   obtain⟨n,s,v,z,o,t,y⟩:=h.st
   exact⟨⟨⟨n,s,v,z,o,t⟩,h.box,h.pfx,h.rr⟩,λk d=>by
    have aP:=(y k).1 d;have h2:=o.chg.lt k aP.1
    omega⟩)
  (λr ad pre Q A B h bi d f=>by
   obtain⟨n,s,v,z,o,t,y⟩:=h.st;obtain⟨⟨V,an,G,J,ah,b4⟩,a4,be,a8⟩:=f;have bl:∀b,b≠bd->b<A.heap.size->B.heap[b]? =A.heap[b]? :=λb aL ba=>d.block b ba aL
   exact⟨⟨V,s,G,J,⟨ah.disk,o.chg.kept d (λj l aA=>o.apart bd o.disk.bdS (by rw [<-show j=bd from aA];exact l)),o.apart⟩,t,y⟩,a4,(bl _ (by omega) (lT h.cbx)).trans h.cbx,be,h.kept.trans d (λi f=>.inl (.inl f)),a8⟩)
  (λr pre Q A B h d=>aZ A B _ r r pre Q h d (λk d=>d) rfl)
  (λc r pre A B h d=>h)
  ⟨⟨0,T,eb _,by simp,by rw [Int.add_zero];exact bc.kept0 N,λj l=>.inl l,λk=>⟨λh=>h.elim,λh=>by have:=F.out k h.1;omega⟩⟩,aa,ax,List.nil_prefix,za.refl _ _,eb _⟩
  (λx aS A=>aS={tmps:=#[.pointer (some ⟨g,0,none⟩),.int .i64 (first:Int),.pointer (some ⟨w.heap.size,0,none⟩),undef,.int .i64 (x.p.at_:Int),.pointer (some ⟨g,0,none⟩),.iface 142 (.pointer (some ⟨g,0,none⟩)),.int .i64 (first:Int),.func (.func 124) #[] #[.pointer (some ⟨w.heap.size+1+1,0,none⟩),.pointer (some ⟨w.heap.size+1,0,none⟩)],.int .i64 (x.p.at_:Int),.slice (some ⟨x.g,4,none⟩) x.p.l.length 124,undef,undef,undef],defers:=[] })
  (λx a A B h d=>h)
  (λr pre x A B h d=>⟨⟨h.1.pre,by obtain⟨a5,bj⟩:=h.1.pg;exact⟨a5,bj.kept d (by have:=h.1.ge;omega)⟩,h.1.ge⟩,h.2⟩) ?assign ?body ?done ?stop
 case assign=>
  intro aF r pre x Q A bt f M aR ak;dsimp only [Ku];gi_wp2;exact ak _ _ (za.refl _ _) f M rfl
 case body=>
  rintro aF r pre x Q aS A f M rfl aR;obtain⟨n,s,v,z,o,t,y⟩:=f.st;have K:Hid _:=f;have a1:Hid _:=M.1.pre;obtain⟨ay,aB,aH⟩:=YT Y E f.pfx;have aU:=E.out x.p (M.1.pre.subset (by simp));have aO:pre.length+1<=3:=by have:=M.1.pre.length_le;simp at this;omega
  have H:Hid _:=t;have ar:Hid _:=y
  have aD:Hid (Calls Tryz.prog 143 #[.pointer (some ⟨g,0,none⟩),.int .i64 (x.p.at_:Int)] A λe w'=>e=.returned (.tuple #[])/\(∃(V:Int) (W:Nat->Prop),0<=V/\V<=1/\Cw w' g bd S W {D with reads:=D.reads+n+V} (yG (Qd (pre++[x])) (C,m)).1/\∀k,W k->s k\/A.heap.size<=k)/\za (λk=>k=bd\/s k) A w'):=by
   have:=gd A g bd S s {D with reads:=D.reads+n} _ o (yG (Qd pre) (C,m)).2 (by rw [zF];exact ay.map) (by show 0<=D.reads+n;omega) (by show D.reads+n<=_;omega) (by omega) (x.p.at_-21) (by omega);rw [show ((x.p.at_-21:Nat):Int)+21=(x.p.at_:Int) from by omega] at this;have R:Qd (pre++[x])=Qd pre++[x.p.at_]:=by simp [Qd]
   show Calls _ _ _ _ _;rw [R,bO];exact this
  have bs:A.cell? ⟨w.heap.size,0,none⟩=some (.pointer (some ⟨g,0,none⟩)):=cR f.cbx rfl;clear o t y ay aB aH f M;gi_wp2_with fail;refine⟨eI,rfl,?_⟩;refine((yo aF).calls aD).mono ?_;rintro e a3 ⟨rfl,⟨aC,an,bb,bk,aj,L⟩,Z⟩;change Hid _ at aj L Z;gi_wp2;have aM:∀j,an j->T j\/p.heap.size+2<=j:=λj l=>(L j l).elim (H j) (λh=>.inr (by omega))
  have aX:∀b,w.heap.size<=b->b<p.heap.size->¬(b=bd\/s b):=λb aP h2 u=>by
   rcases u with h|h;.omega
   .rcases H b h with h|h;.have:=F.out b h;omega
    .omega
  refine⟨Z.mono (λj l=>?_),λk=>an k/\p.heap.size+2<=k,⟨⟨n+aC,an,by omega,by rw [ag,iq];omega,by rw [<-a9];exact aj,aM,λk=>Iff.rfl⟩,(Z.block _ (lT K.box) (aX _ (by omega) (by omega))).trans K.box,(Z.block _ (lT K.cbx) (aX _ (by omega) (by omega))).trans K.cbx,by rw [eh];exact a1,K.kept.trans Z (λj l=>.inl ?_),K.rr⟩,λk d=>?_⟩
  .rcases l with h|h;.exact .inl (by omega)
   .rcases H j h with h2|h2;.exact .inl (by have:=F.out j h2;omega)
    .exact .inr ((ar j).2 ⟨h,h2⟩)
  .rcases l with h|h;.exact .inl h
   .rcases H j h with h2|h2;.exact .inr (.inl h2)
    .exact .inr (.inr (by omega))
  .rcases L k d.1 with h|h;.exact .inl ((ar k).2 ⟨h,d.2⟩)
   .exact .inr h
 case done=>
  rintro bf r af Q A al f rfl ak;obtain⟨n,s,v,z,o,t,y⟩:=f.st;have R:Qd af=ps.map zv.at_:=by rw [<-al.1,ln];rfl
  have bp:af.length=ps.length:=by rw [<-al.1];simp
  have bi:=al.2;rw [R,I.out] at o;have aE:za (λk=>k=p.heap.size) A (A.putObj p.heap.size (.deferred none)):=za.putObj _ _ _ rfl;have aG:=f.kept;show Ye _ _ _ .ret _ _
  refine jh rfl ak (results_none rfl _ _ _) ⟨rfl,⟨n,s,v,by omega,o.kept aE (λj l aA=>by have:=ap.out j l;omega) (λj l aA=>by
   rcases t j l with h|h;.have:=F.out j h;omega
   .omega),λj l=>(t j l).imp id (λh=>by omega)⟩,?_⟩
  exact((N.mono (S':=λj=>j=bd\/T j) fE).trans aG (λj l=>by
   rcases l with h|h|h;.exact .inl (.inl h)
   .exact .inl (.inr h)
   .exact .inr (by omega))).trans aE (λj l=>.inr (by omega))
 case stop=>
  rintro bf c r pre A al f rfl ak;exact f.elim
end prog
namespace prog
open Go.ChangeShapes Go.WideShapes Go.ChangeAt Go.RowKit disk ref
open Go.MuLone
open keys (zh zd zx zq zp)
structure Rest (D:Dk) (n:Nat) (e:En) (root':Nat) (C1 C2:Ck) (m1 m2:List UInt8) (ps:List zv):Prop where
 cln:b8 D C1 m1
 few:C1.ws.length<=100
 lt:root'<65536
 chain:yZ (λj=>C1.look D (j:Nat)) ps
 nodup:(ps.map zv.at_).Nodup
 head:xo ps=e.at_
 three:ps.length<=3
 range:∀q∈ps,21<=q.at_/\q.at_<1000
 free:yG (ps.map zv.at_) (C1,m1)=(C2,m2)
 full:(C2.put 1 (zl (zw root' n))).full=false
 fits:(C2.put 1 (zl (zw root' n))).ws.length<=18
 keys:∀k∈(C2.put 1 (zl (zw root' n))).keys,k<D.bs.length
def Di(D:Dk)(n:Nat)(e:En)(root':Nat)(C1 C2:Ck)(m1 m2:List UInt8)(ps:List zv)(v:List Value)(ok:Bool):Prop:=(ok=false/\v=qx)\/(ok=true/\v=qr e/\Rest D n e root' C1 C2 m1 m2 ps)
def Du(w w':World)(bd:Nat)(S:Nat->Prop)(D:Dk)(n root':Nat)(C2:Ck)(ok:Bool)(x:Ending):Prop:=∃kk:Int,0<=kk/\kk<=40/\
 ((ok=false/\x=.returned (.int .i64 5)/\qZ w w' bd S {D with reads:=D.reads+kk })\/(ok=true/\x=.returned (.int .i64 0)/\qZ w w' bd S {D with bs:=un D.bs (C2.put 1 (zl (zw root' n))).ws,reads:=D.reads+kk }))
def G1(w w':World)(bs bd:Nat)(k:Int)(S:Nat->Prop)(D:Dk)(n root':Nat)(C2:Ck)(ok:Bool)(x:Ending):Prop:=∃kk:Int,0<=kk/\kk<=40/\
 ((ok=false/\x=.returned (.int .i64 5)/\qZ w w' bd S {D with reads:=D.reads+kk })\/(ok=true/\∃c,x=.returned (.int .i64 c)/\cB w w' bs bd k S (qj {D with reads:=D.reads+kk} (C2.put 1 (zl (zw root' n))).ws) c))
theorem b8.reads{D:Dk}{C:Ck}{m:List UInt8}(h:b8 D C m)(r:Int):b8 {D with reads:=r} C m:=⟨by rw [zF];exact h.map,h.full,h.nodup⟩
theorem fP(w:World)(bs bd:Nat)(S:Nat->Prop)(D:Dk)(k:Int)(N:zu w bs k (some bd))(G:zg w bd S D)(aC:¬S bs)(aH:0<=D.reads)(be:D.reads<=4611686018427350000)(W:D.ps=[])(O:zD D.fuse)(a3:64<=D.bs.length)(bf:D.bs.length<=1000)
 (tree n:Nat) (av:qT (D.look 1) tree n) (ba:n<4611686018427387904) (p:Pl) (e:En) (root':Nat) (C1 C2:Ck) (m1 m2:List UInt8) (ps:List zv) (v:List Value) (ag:Bool) (y:jA (w.heap.size+1) bd S (λj=>j=w.heap.size+1) D fZ tree p root' v ag C1) (g:Di D n e root' C1 C2 m1 m2 ps v ag):
 Calls Tryz.prog 53 #[.pointer (some ⟨bs,0,none⟩),.agg #[.string p.key,.int .i64 p.num]] w λai w'=>G1 w w' bs bd k S D n root' C2 ag ai:=by
 have M:Hid (zg w bd S D):=G;have aX:=N.c2;have a8:=G.lt bd G.bdS;have U:Hid (∀j,S j->j<w.heap.size):=G.lt;have hbs:=N.lt;change Hid _ at N av y g W O;clear G;have aD:Hid (za (λ_=>False) w (w.alloc (.cells #[.string p.key,.int .i64 p.num] 107))):=za.alloc _ _ _;have ao:Hid ((w.alloc (.cells #[.string p.key,.int .i64 p.num] 107)).heap[w.heap.size]? =some (.cells #[.string p.key,.int .i64 p.num] 107 (0,0))):=ac w _;have aA:(w.alloc (.cells #[.string p.key,.int .i64 p.num] 107)).heap.size=w.heap.size+1:=by simp
 go_enter Tryz.func53,Tryz.ntmps53;go_wp2_with fail;generalize (w.alloc (.cells #[.string p.key,.int .i64 p.num] 107))=bh at*;refine(cV bh bd (by omega)).mono ?_;rintro ai A ⟨rfl,r,H⟩;rw [aA] at r ⊢;have Q:Hid (za (λ_=>False) w A):=aD.trans H iL;have al:Hid (A.heap[w.heap.size]? =_):=(H.block _ (by omega) id).trans ao.out;have T:Hid (Cw A (w.heap.size+1) bd S (λj=>j=w.heap.size+1) D fZ):=⟨M.kept Q nF,r,λj a bg=>by have:=U.out j a;omega⟩;clear r H aX;go_wp2_with fail;refine(Zd A (w.heap.size+1) bd S _ D fZ T aH (by omega) tree n (by rw [yE];exact av)).mono ?_;rintro ai b ⟨rfl,⟨k2,aT,aL,L⟩,t⟩;have bc:=t.size;have a6:w.heap.size+1<A.heap.size:=T.chg.lt _ rfl;have J:Hid (b.heap[w.heap.size]? =_):=(t.block _ (by omega) (by omega)).trans al.out;have a0:b.cell? ⟨w.heap.size,0,none⟩=some (.string p.key):=cR J.out rfl;have aS:b.cell? ⟨w.heap.size,1,none⟩=some (.int .i64 p.num):=cR J.out rfl;have a7:w.heap.size<b.heap.size:=by omega
 change Hid _ at L t;go_wp2_with fail;have ar:Hid ((b.alloc (.cells #[.int .i64 (tree:Int),.int .i64 (n:Int)] 145)).heap[b.heap.size]? =some (.cells #[.int .i64 (tree:Int),.int .i64 (n:Int)] 145 (0,0))):=ac b _;have P:Hid (za (λ_=>False) b (b.alloc (.cells #[.int .i64 (tree:Int),.int .i64 (n:Int)] 145))):=za.alloc _ _ _;have a5:(b.alloc (.cells #[.int .i64 (tree:Int),.int .i64 (n:Int)] 145)).heap.size=b.heap.size+1:=by simp
 generalize (b.alloc (.cells #[.int .i64 (tree:Int),.int .i64 (n:Int)] 145))=ak at*;refine(y.go ak (D.reads+k2) (by omega) (by omega) (L.kept0 P)).mono ?_;rintro ai l ⟨rfl,⟨f,az,aZ,aR,B,s⟩,x⟩;have a2:=x.size;have ax:Hid (l.heap[b.heap.size]? =_):=(x.block _ (by omega) (by omega)).trans ar.out;have I:Hid _:=(((Q.mono fE).trans t iL).trans P fE).trans x (λj a=>a.imp id (λh=>by omega));change Hid _ at B s x;clear a0 aS;rcases g.out with⟨rfl,rfl⟩|⟨rfl,rfl,aw⟩
 .unfold qx;go_wp2;have aE:=za.alloc (λ_=>False) l (.cells #[.string ⟨#[]⟩,.int .i64 0,.bool false,.int .i64 0,.int .i64 0] 109);refine bodyPost_ret (results_tmp rfl _ _ _) rfl ⟨k2+f,by omega,by omega,.inl ⟨rfl,rfl,⟨⟨S,?_,λ_ h=>.inl h⟩,(I.trans aE fE).mono (λj a=>by rw [show j=bd from a];exact M.bdS)⟩⟩⟩;rw [<-a9];exact B.disk.kept aE nF
 .have d:Hid _:=aw;clear aw g;unfold qr;go_wp2_with fail;have E:Hid (za (λ_=>False) l (l.alloc (.cells #[.string e.pl.key,.int .i64 e.pl.num,.bool e.mark,.int .i64 (e.size:Int),.int .i64 (e.at_:Int)] 109))):=za.alloc _ _ _;have a4:(l.alloc (.cells #[.string e.pl.key,.int .i64 e.pl.num,.bool e.mark,.int .i64 (e.size:Int),.int .i64 (e.at_:Int)] 109)).heap.size=l.heap.size+1:=by simp
  generalize (l.alloc (.cells #[.string e.pl.key,.int .i64 e.pl.num,.bool e.mark,.int .i64 (e.size:Int),.int .i64 (e.at_:Int)] 109))=aY at*;have bb:=d.few;refine(KU aY (w.heap.size+1) bd S az {D with reads:=D.reads+k2+f} C1 (B.kept0 E) m1 (d.cln.reads _) (by show 0<=D.reads+k2+f;omega) (by show D.reads+k2+f<=_;omega) ps (d.chain.congr (λq _=>zF _ _ _ _)) d.nodup d.three d.range e.at_ d.head (by omega) C2 m2 d.free).mono ?_;rintro ai i ⟨rfl,⟨o,ap,aW,aO,ad,ae⟩,C⟩;have Z:Hid (∀j,ap j->j=w.heap.size+1\/ak.heap.size<=j):=λj a=>(ae j a).elim (s j) (λh=>.inr (by omega))
  have ah:Hid (∀j,w.heap.size<=j->j<ak.heap.size->j≠w.heap.size+1->¬(j=bd\/az j)):=λj aB h2 aN aK=>by
   rcases aK with h|h;.omega
   .rcases s j h with h|h<;>omega
  have F:Hid (i.heap[b.heap.size]? =_):=(C.block _ (by omega) (ah _ (by omega) (by omega) (by omega))).trans ((E.block _ (by omega) id).trans ax)
  have af:Hid _:=(I.trans E fE).trans C (λj a=>by
   rcases a with h|h;.exact .inl h
   .rcases s j h with h|h;.exact .inr (by omega)
    .exact .inr (by omega))
  change Hid _ at ad;clear ae C;have aI:i.cell? ⟨b.heap.size,0,none⟩=some (.int .i64 (tree:Int)):=cR F.out rfl;have aQ:i.cell? ⟨b.heap.size,1,none⟩=some (.int .i64 (n:Int)):=cR F.out rfl;have aM:=aa i b.heap.size 0 _ _ F.out;go_wp2_with fail;have ab:Hid (za (λj=>j=b.heap.size) i (i.setCell ⟨b.heap.size,0,none⟩ (.int .i64 (root':Int)))):=za.setCell (S:=λj=>j=b.heap.size) i ⟨b.heap.size,0,none⟩ _ rfl;generalize (i.setCell ⟨b.heap.size,0,none⟩ (.int .i64 (root':Int)))=aP at*
  have aq:Hid _:=ad.kept ab (λj a aV=>by have:=U.out j a;omega) (λj a aV=>by
   rcases Z j a with h|h<;>omega)
  have am:Hid _:=af.trans ab (λj a=>.inr (by omega));have K:=(kt (ps.map zv.at_) C1 m1 d.cln (λj a=>by obtain⟨q,aj,rfl⟩:=au.1 a;exact d.range q aj)).2.2;rw [d.free,ez] at K;have aN:=d.three;clear aI aQ aM;refine(vX aP (w.heap.size+1) bd S ap _ C2 aq root' n d.lt (by omega) (by simp only at K;omega)).mono ?_;rintro ai an ⟨rfl,⟨a1,X,aG⟩,R⟩;have z:Hid ((C2.put 1 (zl (zw root' n))).full=false/\(C2.put 1 (zl (zw root' n))).ws.length<=18/\∀k∈(C2.put 1 (zl (zw root' n))).keys,k<D.bs.length):=⟨d.full,d.fits,d.keys⟩;generalize V:C2.put 1 (zl (zw root' n))=ay at*
  have m:Hid _:=am.trans R (λj a=>by
   rcases Z j a with h|h;.exact .inr (by omega)
   .exact .inr (by omega))
  change Hid _ at V X;clear aG R K
  have aF:Hid (Calls Tryz.prog 78 #[.pointer (some ⟨bs,0,none⟩),.pointer (some ⟨w.heap.size+1,0,none⟩)] an λe w'=>∃c,e=.returned (.int .i64 c)/\cB an w' bs bd k S (qj {D with reads:=D.reads+k2+f+o} ay.ws) c):=
   bz an bs (w.heap.size+1) bd k S a1 {D with reads:=D.reads+k2+f+o} ay X (N.kept m (λe=>aC (by rw [show bs=bd from e];exact M.bdS))) aC (by have:=z.2.1;rw [z.1,Bool.false_or,decide_eq_false_iff_not];omega) (λq aj=>by have:=z.2.2 q.1 (au.2 ⟨q,aj,rfl⟩);omega) O (by show D.ps.length<=_;rw [W.out];simp)
  go_wp2_with fail;refine aF.mono ?_;rintro ai bi ⟨aJ,rfl,Y⟩;change Hid _ at Y;go_wp2;refine bodyPost_ret (results_tmp rfl _ _ _) rfl ⟨k2+f+o,by omega,by omega,.inr ⟨rfl,aJ,rfl,?_⟩⟩;have u:=Y.out;rw [V.out,show ({D with reads:=D.reads+(k2+f+o)}:Dk)={D with reads:=D.reads+k2+f+o} by rw [a9 k2 f o,a9 (D.reads+k2) f o,a9 D.reads k2]];exact⟨u.code,u.sto,by obtain⟨aU,aB,h2⟩:=u.disk;exact⟨aU,aB,λj a=>(h2 j a).imp id (λh=>by have:=m.size;omega)⟩,(m.mono (λj a=>.inl (by rw [show j=bd from a];exact M.bdS))).trans u.kept iL⟩
end prog
namespace prog
open Go.ChangeShapes Go.WideShapes Go.ChangeAt Go.RowKit disk ref
open Go.MuLone
open law (qE ze xw dC jU)
open keys (zh zd zx zq zp)
theorem JJ(w:World)(bs:Nat)(q:Option Nat)(i:zu w bs 0 q)(a:ByteArray)(j:Int)(n:a.size<=maxLen)(b:zp a.data.toList=false):
 Calls Tryz.prog 31 #[.pointer (some ⟨bs,0,none⟩),.string a,.int .i64 j] w λe w'=>e=.returned (.int .i64 2)/\zu w' bs 0 q/\za (λk=>k=bs) w w':=by
 change Hid _ at i b;go_enter_defers Tryz.func31,Tryz.ntmps31
 go_wp2_with (first
  |(go_at_call 47;refine(qc i).mono ?_;rintro e o ⟨rfl,d,c⟩;change Hid _ at d c)
  |(go_at_call 49;refine(keys.ql a o n).mono ?_;rintro e m ⟨rfl,g⟩;rw [g,b.out];clear g m))
 refine leaves_cons (f:= 48) (args:=#[.pointer (some ⟨bs,0,none⟩)]) (by simp) (by simp [go_sem]) ?_;refine(qa d).mono ?_;rintro e u' m ⟨rfl,rfl,h,l⟩;exact⟨_,results_tmp Tryz.results31 _ _ _,rfl,h,c.trans l iL⟩
theorem UC(w:World)(bs:Nat)(i:zu w bs 0 none)(a:ByteArray)(j:Int)(n:a.size<=maxLen)(b:zp a.data.toList=true):
 Calls Tryz.prog 31 #[.pointer (some ⟨bs,0,none⟩),.string a,.int .i64 j] w λe w'=>e=.returned (.int .i64 8)/\zu w' bs 0 none/\za (λk=>k=bs) w w':=by
 change Hid _ at i b;go_enter_defers Tryz.func31,Tryz.ntmps31
 go_wp2_with (first
  |(go_at_call 47;refine(qc i).mono ?_;rintro e o ⟨rfl,c,d⟩;have p:=c.c2;change Hid _ at c d)
  |(go_at_call 49;refine(keys.ql a o n).mono ?_;rintro e l ⟨rfl,g⟩;rw [g,b.out];clear g l))
 refine leaves_cons (f:= 48) (args:=#[.pointer (some ⟨bs,0,none⟩)]) (by simp) (by simp [go_sem]) ?_;refine(qa c).mono ?_;rintro e u' l ⟨rfl,rfl,h,m⟩;exact⟨_,results_tmp Tryz.results31 _ _ _,rfl,h,d.trans m iL⟩
theorem Gf(w:World)(bs bd:Nat)(S:Nat->Prop)(D:Dk)(y:zu w bs 0 (some bd))(E:zg w bd S D)(B:¬S bs)(a:ByteArray)(m:Int)(N:a.size<=maxLen)(d:zp a.data.toList=true)(Q:Int->Dk->Option Nat->Prop)
 (l:∀w':World,zu w' bs 1 (some bd)->zg w' bd S D->Calls Tryz.prog 53 #[.pointer (some ⟨bs,0,none⟩),.agg #[.string a,.int .i64 m]] w' λe g=>∃c D' q,e=.returned (.int .i64 c)/\vP w' g bs bd S D' 1 q/\Q c D' q):
 Calls Tryz.prog 31 #[.pointer (some ⟨bs,0,none⟩),.string a,.int .i64 m] w λe w'=>∃c D' q,e=.returned (.int .i64 c)/\Q c D' q/\vP w w' bs bd S D' 0 q:=by
 have O:Hid (zg w bd S D):=E;have L:Hid (zp a.data.toList=true):=d;have T:Hid (∀j,S j->j≠bs):=λj n e=>B (by rw [<-e];exact n);have z:Hid (∀w':World,zu w' bs 1 (some bd)->zg w' bd S D->Calls Tryz.prog 53 #[.pointer (some ⟨bs,0,none⟩),.agg #[.string a,.int .i64 m]] w' λe g=>∃c D' q,e=.returned (.int .i64 c)/\vP w' g bs bd S D' 1 q/\Q c D' q):=l;have P:=y.lt;change Hid _ at y;clear E d l;go_enter_defers Tryz.func31,Tryz.ntmps31
 go_wp2_with (first
  |(go_at_call 47;refine(qc y).mono ?_;rintro e i ⟨rfl,p,r⟩;have F:Hid (zu i bs 1 (some bd)):=p;have o:Hid (za (λk=>k=bs) w i):=r;have U:i.cell? ⟨bs,2,none⟩=some (.pointer (some ⟨bd,0,none⟩)):=p.c2;clear p r)
  |(go_at_call 49;refine(keys.ql a i N).mono ?_;rintro e R ⟨rfl,x⟩;rw [x,L.out];clear x R)
  |(go_at_call 53;refine(z _ (by exact F) (by exact O.kept o T)).mono ?_;rintro e M ⟨c,D',q,rfl,t,s⟩;have J:Hid (vP i M bs bd S D' 1 q):=t;have G:PLift (Q c D' q):=⟨s⟩;clear t s))
 refine leaves_cons (f:= 48) (args:=#[.pointer (some ⟨bs,0,none⟩)]) (by simp) (by simp [go_sem]) ?_;obtain⟨A,⟨S',C,v⟩,H⟩:=J.out;refine(qa A).mono ?_;rintro e u' V ⟨rfl,rfl,K,u⟩;have W:=o.size;refine⟨_,results_tmp Tryz.results31 _ _ _,c,D',q,rfl,G.down,K,⟨S',C.kept u (λj n I=>?_),λj n=>?_⟩,?_⟩
 .rcases v j n with b|b;.exact B (by rw [<-show j=bs from I];exact b)
  .have h2:j=bs:=I;omega
 .rcases v j n with b|b;.exact .inl b
  .exact .inr (by omega)
 .exact((o.mono (S':=λk=>S k\/k=bs) (λ_ h=>.inr h)).trans H iL).trans u (λ_ h=>.inl (.inr h))
end prog
namespace prog
open Go.RowKit disk ref
open law (qE ze jU xw dC)
open keys (zp)
theorem vY.at_none{bs:List (List Value)}{V:qE}{tree n:Nat}{m:List UInt8}{es:List En}{bl:List Nat}{bo:Pl->List zv}(h:vY bs V tree n m es bl bo){b:ByteArray}{a:Int}(c:∀l∈es,l.pl≠⟨b,a⟩):yi V.vs b a=none:=by
 cases g:yi V.vs b a with
 |none=>rfl
 |some v=>
  obtain⟨f,h2,j⟩:=jQ g;obtain⟨k,d,rfl⟩:=h.ver j;have i:k.pl.key=b:=f;have e:k.pl.num=a:=h2;exact absurd (by rw [<-i,<-e]) (c k d)
variable {Fu:Int->Prop} {Ho:List (List Value)->qE->Prop} {m1:∀f,Fu f->zD f} {m2:Fu (-1)} {m3:∀bs V,yF bs V->Ho bs V} {m4:∀bs V,Ho bs V->law.Good V}
theorem fp.wsok{D:Dk}{V:qE}{tree n:Nat}{m:List UInt8}{es:List En}{bl:List Nat}{bo:Pl->List zv}{p:Pl}{e:En}{root':Nat}{C1:Ck}{m1:List UInt8}{pb fb:List Nat}{C2:Ck}{m2:List UInt8}(h:fp D V tree n m es bl bo p e root' C1 m1 pb fb C2 m2):X3 D.bs.length (C2.put 1 (zl (zw root' n))).ws:=by
 have d:1∈(C2.put 1 (zl (zw root' n))).keys:=(xh C2 1 _ 1).2 (.inr rfl);have h2:=l9 d;rw [Ck.keys_len] at h2;refine⟨yJ h.shr.1.nodup 1 _,h.fits.2,h2,λp c=>?_⟩;have b:p.1∈(C2.put 1 (zl (zw root' n))).keys:=au.2 ⟨p,c,rfl⟩;refine⟨h.klt _ b,?_⟩;rcases ah.1 (h.keys _ b) with a|a;.simp at a;omega
 .have:=(h.rep.range _ (af _ (h.rem.sub _ a))).1;omega
def G2(D:Dk)(V:qE)(key:ByteArray)(num:Int)(bd:Nat)(c:Int)(D':Dk)(q:Option Nat):Prop:=
 YR D D'/\∃kk:Int,0<=kk/\kk<=40/\((c=5/\q=some bd/\yi V.vs key num=none/\D'={D with reads:=D.reads+kk })\/
  ((∃v,yi V.vs key num=some v)/\Gr D V (V.sub key num) bd c kk D' q))
theorem G4(w:World)(bs bd:Nat)(S:Nat->Prop)(D:Dk)(L:zu w bs 1 (some bd))(T:zg w bd S D)(P:¬S bs)(F:0<=D.reads)(ah:D.reads<=4611686018427340000)(b:D.ps=[])(z:zD D.fuse)(l:64<=D.bs.length)(V:qE)(aa:V.n0<=2305843009213693952)(p:yF D.bs V)
 (d:ByteArray) (f:Int):
 Calls Tryz.prog 53 #[.pointer (some ⟨bs,0,none⟩),.agg #[.string d,.int .i64 f]] w λe w'=>∃c D' q,e=.returned (.int .i64 c)/\vP w w' bs bd S D' 1 q/\G2 D V d f bd c D' q:=by
 have r:=p;obtain⟨tree,n,m,es,bl,bo,i⟩:=p;have t:n<4611686018427387904:=by rw [i.n0] at aa;omega
 have Q:=i.few;have o:qT (D.look 1) tree n:=by have:=i.root;rw [<-qW b] at this;exact this
 have G:qF (D.look 2) m:=by have:=i.map;rw [<-qW b] at this;exact this
 have K:b8 D fZ m:=⟨by rw [yE];exact G,rfl,List.nodup_nil⟩
 have H:=i.forest.congr (λj U=>by
  show fZ.look D (j:Nat)=_
  rw [yE,qW b])
 rcases YS (w.heap.size+1) bd S (λj=>j=w.heap.size+1) D ⟨d,f⟩ fZ m tree es bl H (aN.1 i.nodup).1 (λj U=>by have:=i.range j (af _ U);omega) i.len K (by show 0<100;omega) with⟨e,root',C1,m1,pb,fb,a,g⟩|⟨W,g⟩
 .obtain⟨Z,ai,Y⟩:=i.pieces a.mem;have C:=i.body e a.mem;rcases hfree:yG ((bo e.pl).map zv.at_) (C1,m1) with⟨C2,m2⟩;have A:fp D V tree n m es bl bo ⟨d,f⟩ e root' C1 m1 pb fb C2 m2:=⟨i,b,l,a,hfree,t⟩;obtain⟨ag,X⟩:=A.fits;have B:e.pl.key=d/\e.pl.num=f:=by rw [a.at_];exact⟨rfl,rfl⟩
  have O:Rest D n e root' C1 C2 m1 m2 (bo e.pl):=⟨a.cln,by have:=a.few;have ak:fZ.ws.length=0:=rfl;omega,a.lt,C.chain.congr (λq I=>by
   have x:=gm (bo:=bo) a.mem (au.2 ⟨q,I,rfl⟩);have ae:=i.range q.at_ (av _ x);have E:q.at_∉bl:=λk=>(aN.1 i.nodup).2.2 _ k _ x rfl;obtain⟨R,_,y⟩:=a.tree;have s:=a.shr.look q.at_ (λk=>E (a.sub _ k)) (λk=>E (y.mem_iff.1 (av _ k))) (by omega);show C1.look D (q.at_:Nat)=_
   rw [s,yE,qW b]),Z,C.head,Y,λq I=>by
   have x:=gm (bo:=bo) a.mem (au.2 ⟨q,I,rfl⟩);have ae:=i.range q.at_ (av _ x)
   omega,hfree,ag,X,A.klt⟩
  refine(fP w bs bd S D 1 L T P F (by omega) b z l Q tree n o t ⟨d,f⟩ e root' C1 C2 m1 m2 (bo e.pl) _ true g (.inr ⟨rfl,rfl,O⟩)).mono ?_;rintro aj w' ⟨N,v,u,⟨h,_⟩|⟨_,c,s,k⟩⟩;.cases h
  .obtain⟨R,M⟩:=A.rest;obtain⟨D',q,ab,ad,ac⟩:=UB b l r A.wsok ⟨_,_,_,_,_,_,M⟩ k;exact⟨c,D',q,s,ab,ac,N,v,u,.inr ⟨⟨_,i.at_yes a.mem B.1 B.2⟩,ad⟩⟩
 .refine(fP w bs bd S D 1 L T P F (by omega) b z l Q tree n o t ⟨d,f⟩ gR tree fZ fZ m m [] _ false g (.inl ⟨rfl,rfl⟩)).mono ?_;rintro aj w' ⟨N,v,u,⟨_,s,J⟩|⟨h,_⟩⟩;.exact⟨5,_,some bd,s,⟨L.kept J.kept P,J.disk,J.kept.mono iL⟩,YR.refl _ _,N,v,u,.inl ⟨rfl,rfl,i.at_none W,rfl⟩⟩
  .cases h
theorem bR(E:Fu 0->∀bs V,kq bs V->Ho bs V)(B:∀f,Fu f->Fu (qv f)):jU (vn Fu Ho m1 m2 m3 m4) where
 live:=λw bd bs S D V a d F l G=>by
  have k:=F.fuse;have o:=F.sto;have u:=F.disk;have m:=F.live.ps;have j:=F.live.rest;have A:=F.reads0;have I:=F.reads1;have i:=F.live.big
  cases b:zp a.data.toList with
  |false=>
   refine(JJ w bs (some bd) o a d l b).mono ?_;rintro e w' ⟨g,h2,n⟩;exact⟨D,S,2,some bd,g,kj u F.apart k h2 n,⟨.inl ⟨by show (2:Int)≠0;decide,rfl,rfl,F.live⟩⟩⟩
  |true=>
   refine(Gf w bs bd S D o u F.apart a d l b (G2 D V a d bd) (λw' g h2=>G4 w' bs bd S D g h2 F.apart A (by omega) m (m1 _ k) i V F.few j a d)).mono ?_;rintro e w' ⟨c,D',q,g,⟨z,x,J,H,p⟩,y⟩;have h:=z Fu B k;rcases p with⟨rfl,rfl,s,rfl⟩|⟨⟨v,s⟩,p⟩
   .rw [s];obtain⟨S',t⟩:=y.aft (D:=D) (by show D.reads<=D.reads+x;omega) (by show D.reads+x<=D.reads+40;omega) rfl h;exact⟨_,S',5,some bd,g,t,⟨.inl ⟨by show (5:Int)≠0;decide,rfl,rfl,⟨m,j,i⟩⟩⟩⟩
   .rw [s];obtain⟨C,K⟩:=p.same;obtain⟨S',t⟩:=y.aft (D:=D) (by omega) (by omega) C h;exact⟨D',S',c,q,g,t,p.chg E m i h⟩
 shut:=λw bs a d o l=>by
  have r:=o
  cases b:zp a.data.toList with
  |false=>exact(JJ w bs none r a d l b).mono (λe w' ⟨g,h2,n⟩=>⟨g,h2,n⟩)
  |true=>exact(UC w bs r a d l b).mono (λe w' ⟨g,h2,n⟩=>⟨g,h2,n⟩)
end prog
namespace prog
open Go.ChangeShapes Go.WideShapes Go.ChangeAt Go.RowKit disk ref
open Go.MuLone
open law (qE ze xw dC gA)
open keys (zh zd zx zq zp)
theorem JK(w:World)(bs:Nat)(q:Option Nat)(i:zu w bs 0 q)(a:ByteArray)(m:a.size<=maxLen)(b:zp a.data.toList=false):
 Calls Tryz.prog 30 #[.pointer (some ⟨bs,0,none⟩),.string a] w λe w'=>e=.returned (.tuple #[.int .i64 0,.int .i64 2])/\zu w' bs 0 q/\za (λk=>k=bs) w w':=by
 change Hid _ at i b;go_enter_defers Tryz.func30,Tryz.ntmps30
 go_wp2_with (first
  |(go_at_call 47;refine(qc i).mono ?_;rintro e n ⟨rfl,d,c⟩;change Hid _ at d c)
  |(go_at_call 49;refine(keys.ql a n m).mono ?_;rintro e l ⟨rfl,g⟩;rw [g,b.out];clear g l))
 refine leaves_cons (f:= 48) (args:=#[.pointer (some ⟨bs,0,none⟩)]) (by simp) (by simp [go_sem]) ?_;refine(qa d).mono ?_;rintro e u' l ⟨rfl,rfl,h,j⟩;exact⟨_,results_tmp2 Tryz.results30 _ _ _,rfl,h,c.trans j iL⟩
theorem UD(w:World)(bs:Nat)(i:zu w bs 0 none)(a:ByteArray)(m:a.size<=maxLen)(b:zp a.data.toList=true):
 Calls Tryz.prog 30 #[.pointer (some ⟨bs,0,none⟩),.string a] w λe w'=>e=.returned (.tuple #[.int .i64 0,.int .i64 8])/\zu w' bs 0 none/\za (λk=>k=bs) w w':=by
 change Hid _ at i b;go_enter_defers Tryz.func30,Tryz.ntmps30
 go_wp2_with (first
  |(go_at_call 47;refine(qc i).mono ?_;rintro e n ⟨rfl,c,d⟩;have o:=c.c2;change Hid _ at c d)
  |(go_at_call 49;refine(keys.ql a n m).mono ?_;rintro e j ⟨rfl,g⟩;rw [g,b.out];clear g j))
 refine leaves_cons (f:= 48) (args:=#[.pointer (some ⟨bs,0,none⟩)]) (by simp) (by simp [go_sem]) ?_;refine(qa c).mono ?_;rintro e u' j ⟨rfl,rfl,h,l⟩;exact⟨_,results_tmp2 Tryz.results30 _ _ _,rfl,h,d.trans l iL⟩
theorem Gg(w:World)(bs bd:Nat)(S:Nat->Prop)(D:Dk)(T:zu w bs 0 (some bd))(E:zg w bd S D)(X:¬S bs)(ad:0<=D.reads)(ay:D.reads<=4611686018427350000)(tree n:Nat)(ab:qT (D.look 1) tree n)(a:ByteArray)(ap:a.size<=maxLen)(A:zp a.data.toList=true)(es:List En)(bl:List Nat)(hF:qY (λj=>D.look (j:Nat)) tree es bl)(ai:bl.length<=979)(hbs:∀j∈bl,21<=j)(F:Option En)(ae:(yP ⟨a,9223372036854775807⟩ es).head? =F)(t:xT a F=true)(Q:Int->Int->Dk->Option Nat->Prop)
 (u:∀(w':World) (r:Int),D.reads<=r->r<=D.reads+14->zu w' bs 1 (some bd)->zg w' bd S {D with reads:=r}->Calls Tryz.prog 52 #[.pointer (some ⟨bs,0,none⟩),.string a,.slice none 0 0,.bool true] w' λe b=>∃v c D' q,e=.returned (.tuple #[.int .i64 v,.int .i64 c])/\vP w' b bs bd S D' 1 q/\Q v c D' q):
 Calls Tryz.prog 30 #[.pointer (some ⟨bs,0,none⟩),.string a] w λe w'=>∃v c D' q,e=.returned (.tuple #[.int .i64 v,.int .i64 c])/\Q v c D' q/\vP w w' bs bd S D' 0 q:=by
 have ar:Hid (zg w bd S D):=E;have am:Hid (zp a.data.toList=true):=A;have U:Hid (xT a F=true):=t;have ak:bs≠bd:=λe=>X (by rw [e];exact E.bdS);have af:Hid (∀j,S j->j≠bs):=λj B e=>X (by rw [<-e];exact B);have Y:Hid (∀w',zu w' bs 1 (some bd)->zg w' bd S D->Calls Tryz.prog 50 #[.pointer (some ⟨bs,0,none⟩),.string a] w' λe b=>e=.returned (.tuple #[.agg (xZ F).toArray,.bool (xT a F)])/\(∃r:Int,D.reads<=r/\r<=D.reads+14/\zg b bd S {D with reads:=r })/\za (λi=>i=bd) w' b):=λw' au h2=>xj w' bs bd S D 1 au h2 X ad (by omega) tree n ab a es bl hF ai hbs F ae;have P:Hid (∀(w':World) (r:Int),D.reads<=r->r<=D.reads+14->zu w' bs 1 (some bd)->zg w' bd S {D with reads:=r}->Calls Tryz.prog 52 #[.pointer (some ⟨bs,0,none⟩),.string a,.slice none 0 0,.bool true] w' λe b=>∃v c D' q,e=.returned (.tuple #[.int .i64 v,.int .i64 c])/\vP w' b bs bd S D' 1 q/\Q v c D' q):=u
 obtain⟨l,o,m,p,s,ag⟩:∃(l:ByteArray) (o:Int) (m:Bool) (p s:Int),xZ F=[.string l,.int .i64 o,.bool m,.int .i64 p,.int .i64 s]:=by
  cases F with
  |none=>exact⟨_,_,_,_,_,rfl⟩
  |some aE=>exact⟨_,_,_,_,_,rfl⟩
 have aq:Hid (xZ F=[.string l,.int .i64 o,.bool m,.int .i64 p,.int .i64 s]):=ag;have av:=T.lt;have z:=E.bdS;have R:Hid (S bd):=z;change Hid _ at T;clear E ab hF hbs ae A ag t u z;go_enter_defers Tryz.func30,Tryz.ntmps30
 go_wp2_with (first
  |(go_at_call 47;refine(qc T).mono ?_;rintro e x ⟨rfl,g,I⟩;have y:Hid (za (λk=>k=bs) w x):=I;have aC:x.cell? ⟨bs,2,none⟩=some (.pointer (some ⟨bd,0,none⟩)):=g.c2;change Hid _ at g;clear I)
  |(go_at_call 49;refine(keys.ql a x ap).mono ?_;rintro e d ⟨rfl,H⟩;rw [H,am.out];clear H d)
  |(go_at_call 50;refine(Y x g (ar.kept y af)).mono ?_;rintro e d ⟨rfl,⟨ao,V,O,N⟩,G⟩;rw [aq.out,U.out];have ac:Hid (zg d bd S {D with reads:=ao }):=N;have C:Hid (za (λi=>i=bd) x d):=G;clear N G)
  |(go_at_call 52;refine(P _ ao V O (by exact(g.kept C ak).kept (za.alloc (λ_=>False) d (.cells #[.string l,.int .i64 o,.bool m,.int .i64 p,.int .i64 s] 109)) id) (by exact ac.kept (za.alloc (λ_=>False) d (.cells #[.string l,.int .i64 o,.bool m,.int .i64 p,.int .i64 s] 109)) nF)).mono ?_;rintro e az ⟨v,c,D',q,rfl,K,J⟩;have Z:PLift (Q v c D' q):=⟨J⟩;change Hid _ at K;clear J))
 refine leaves_cons (f:= 48) (args:=#[.pointer (some ⟨bs,0,none⟩)]) (by simp) (by simp [go_sem]) ?_;obtain⟨W,⟨S',ah,M⟩,aa⟩:=K.out;have an:=za.alloc (λ_=>False) d (.cells #[.string l,.int .i64 o,.bool m,.int .i64 p,.int .i64 s] 109);refine(qa W).mono ?_;rintro e u' aA ⟨rfl,rfl,al,L⟩;have aD:=y.size;have ax:=C.size;have aw:=an.size;refine⟨_,results_tmp2 Tryz.results30 _ _ _,v,c,D',q,rfl,Z.down,al,⟨S',ah.kept L (λj B aj=>?_),λj B=>?_⟩,?_⟩
 .rcases M j B with h|h;.exact af j h aj
  .have aB:j=bs:=aj;omega
 .rcases M j B with h|h;.exact .inl h
  .exact .inr (by omega)
 .exact((((y.mono (S':=λk=>S k\/k=bs) (λ_ h=>.inr h)).trans C (λj h=>.inl (.inl (by rw [h];exact R)))).trans an fE).trans aa iL).trans L (λ_ h=>.inl (.inr h))
end prog
end Go.Proofs.YtcoengihaobddaaGreatDoor
