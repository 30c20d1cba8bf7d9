/- Part 25 of 50 of a proof: Rem9, Rep3, Rem11, BFree1 -/
import Derived.Test.YtcoengihaobddaaGreatDoorJe24
import Derived.Test.YtcoengihaobddaaGreatDoorJe14
set_option maxHeartbeats 8000000
set_option linter.unusedVariables false
set_option linter.unusedSimpArgs false
set_option maxRecDepth 8000
namespace Go.Proofs.YtcoengihaobddaaGreatDoor
namespace prog
open Go.RowKit disk ref
structure Wu {h:Nat} (D:Dk) (t:Tr h) (p:Pl) (C C':Ck) (m m':List UInt8) (e:En) (s:Bool) (pb fb:List Nat):Prop where
 cln:ZO D C' m'
 shr:fN D C C' m m' pb fb
 sub:∀j∈pb,j∈t.blocks
 own:s=true->t.blk∈pb
 pl:pb.length<=2*h+1
 few:C'.ws.length<=C.ws.length+4*(h+1)
 mem:e∈t.ents
 at_:e.pl=p
 tree:∃t',Zu t p t'/\t'.LayV zo (λj=>C'.look D (j:Nat))/\(t'.blocks++fb).Perm t.blocks/\(s=false->t'.items.length=t.items.length\/3<=t'.items.length)
theorem Zx:∀{h:Nat} (t:Tr h),zS h=4->∀e∈t.items,e.mark=false/\e.size=0
 |0,_,hk,_,_=>by simp [zS] at hk
 |_+1,t,_,e,he=>by obtain⟨c,_,rfl⟩:=av.1 he;exact⟨rfl,rfl⟩
theorem Yv:∀h:Nat,zS h=4\/zS h=5
 |0=>.inr rfl
 |_+1=>.inl rfl
theorem fM.below{f bd:Nat}{S T:Nat->Prop}{D:Dk}{C:Ck}{h c:Nat}{p:Pl}{v:List Value}{s e:Bool}{d:Ck}(k:fM f bd S T D C h c p v s e d)(r:Int)(j:0<=r)(l:r+(4*(h+1):Nat)<=4611686018427370000):
 Dd f bd S T {D with reads:=r} C c p (4*h+1) v s e d:=
 ⟨λw0 g a b i=>k.go w0 (r+g) (by omega) (by omega) i⟩
theorem Jg:∀{h:Nat} (t:Tr h),t.blocks=t.blk::t.blocks.tail
 |0,_=>rfl
 |_+1,_=>rfl
theorem Uv{h:Nat}{u v:Tr h}(b:(u.blocks++v.blocks).Nodup):(u.join v).blk∉(u.join v).blocks.tail:=by
 have a:=(aX.1 ((uq u v).nodup_iff.2 b)).1;rw [Jg,iW] at a;exact a.1
theorem Jh(U bd:Nat)(S T:Nat->Prop)(D:Dk)(p:Pl):∀(h:Nat) (t:Tr h) (C:Ck) (m:List UInt8),h<=100->t.Good->(0<h->2<=t.items.length)->t.items.length<=6->xi t.ents->t.blocks.Nodup->
 (∀j∈t.blocks,21<=j/\j<1000)->t.LayV zo (λj=>C.look D (j:Nat))->ZO D C m->C.ws.length+4*(h+1)<700->
 (∃e cj cF s pb fb,Wu D t p C cj m cF e s pb fb/\fM U bd S T D C h t.blk p (qE e) s true cj)\/((∀R∈t.ents,R.pl≠p)/\fM U bd S T D C h t.blk p qI false false C)
 |0,(b,es),C,m,_,g,_,aU,hs,hnd,hrg,hl,hc,hfew=>by
  have Y:=aU;have W:xi es:=hs;have bR:=hl;by_cases l:∃Z:zr es p<es.length,es[zr es p].pl=p
  .obtain⟨Z,aC⟩:=l;have cq:=hrg b (aD.2 rfl);have bF:=W.erase p Z aC;have ba:(ye p es).length=es.length-1:=by rw [<-bF,iP Z]
   refine .inl ⟨es[zr es p],C.put b (zo (zc 5 (ye p es))),m,decide ((ye p es).length<3),[b],[],⟨hc.put (by omega) _,fN.put D C m b _,λj a=>a,λ_=>aD.2 rfl,by simp,by have:=qH C b (zo (zc 5 (ye p es)));omega,ag Z,aC,(b,ye p es),Ut g W Y Z aC,qw _ _ _ _,by rw [aM];exact eN _,λh=>.inr (by show 3<=(ye p es).length;simpa using h)⟩,⟨λw r J o F=>?_⟩⟩;refine(Jb w U bd S T {D with reads:=r} C F J (by show r<=_;omega) b g.1 es g.2 Y W (by rw [zH];exact bR) p (zr es p) rfl Z aC (by omega) (ye p es) bF (decide ((ye p es).length<3)) (decide_eq_decide.2 (by omega))).mono ?_;rintro R w' ⟨o,⟨n,ar,H,ak,bW,cw⟩,aU⟩;exact⟨o,⟨n,ar,H,by simpa using ak,bW,cw⟩,aU⟩
  .refine .inr ⟨(W.find p).2 (λZ aC=>l ⟨Z,aC⟩),⟨λw r J o F=>?_⟩⟩;refine(Ja w U bd S T {D with reads:=r} C F J (by show r<=_;omega) b g.1 es g.2 Y W (by rw [zH];exact bR) p (λZ aC=>l ⟨Z,aC⟩)).mono ?_;rintro R w' ⟨o,⟨n,H,ak,bW⟩,aU⟩;exact⟨o,⟨n,T,H,by simpa using ak,bW,λ_ h=>.inl h⟩,aU.mono iL⟩
 |h+1,(b,cs),C,m,hh,g,H,aU,hs,hnd,hrg,hl,hc,hfew=>by
  have bi:=aF (H (by omega)) (eV (zA b cs));have Y:=aF (eV (zA b cs).symm) aU;have bh:Kids cs:=g.kids;obtain⟨A,q,tc,B,rfl,cy,aB,bf⟩:=bh.child (λd=>by rw [d] at bi;simp at bi) p;have E:(q,tc)∈A++(q,tc)::B:=by simp
  have bA:=bh.good (q,tc) E;have V:=g.full
  have bY:(b::(zF A++(tc.blocks++zF B))).Nodup:=by have:(b::zF (A++(q,tc)::B)).Nodup:=hnd;rw [qz,qM] at this;exact this
  obtain⟨cz,ce,cB,cU,cv,cV,ct,cD⟩:=dj bY
  have ao:∀j,j=b\/j∈zF (A++(q,tc)::B)->21<=j/\j<1000:=λj a=>hrg j (by
   show j∈b::zF (A++(q,tc)::B)
   exact aq.2 a)
  have az:xi (zM (A++(q,tc)::B)):=hs;have W:xi (zM A++(tc.ents++zM B)):=by rw [zC,zp] at az;exact az
  have b4:=(ep.1 (ep.1 W).2.1).1;have ay:C.look D b=zo (zc 4 ((A++(q,tc)::B).map vh)):=hl.1;have bM:=hl.2;have cq:=ao b (.inl rfl);have ap:=bh.items_srt;have ad:=g.items_ok
  have ai:∀R∈(A++(q,tc)::B).map vh,R.mark=false/\R.size=0:=λR l=>by obtain⟨c,_,rfl⟩:=av.1 l;exact⟨rfl,rfl⟩
  have ba:((A++(q,tc)::B).map vh).length=(A++(q,tc)::B).length:=by simp
  have a5:A.length<((A++(q,tc)::B).map vh).length:=by rw [ba];simp
  have a3:((A++(q,tc)::B).map vh)[A.length].at_=tc.blk:=by simp [vh]
  have a4:=cy.symm
  have L:∀(C2:Ck),(∀j:Nat,j∉tc.blocks->j≠b->j≠2->C2.look D j=C.look D j)->∀c,c∈A\/c∈B->c.2.LayV zo (λj=>C2.look D (j:Nat)):=λC2 ck c f=>by
   have au:c∈A++(q,tc)::B:=by rcases f with h|h<;>simp [h]
   refine(bM c au).congr (λj a=>?_);have ab:=ao j (.inr (zY au a));rcases f with Q|x;.exact ck j (ct j (zY Q a)) (λd=>cz (d▸zY Q a)) (by omega)
   .exact ck j (cD j (zY x a)) (λd=>cB (d▸zY x a)) (by omega)
  rcases Jh U bd S T D p h tc C m (by omega) bA.1 (λ_=>by have:=V (q,tc) E;simp only at this;omega) bA.2.1 b4 cv (λj a=>ao j (.inr (zY E a))) (bM (q,tc) E) hc (by omega) with⟨e,C1,m1,s,pb,fb,K,bZ⟩|⟨b7,bZ⟩
  .obtain⟨tc',bt,bo,O,bs⟩:=K.tree;have bO:∀j∈fb,j∈tc.blocks:=λj a=>O.mem_iff.1 (af _ a);have cK:∀j∈tc'.blocks,j∈tc.blocks:=λj a=>O.mem_iff.1 (ac _ a);have bc:=uK E K.mem;have cn:C1.look D b=C.look D b:=K.shr.look b (λa=>ce (K.sub b a)) (λa=>ce (bO b a)) (by omega);have aG:∀j:Nat,j∉tc.blocks->j≠b->j≠2->C1.look D j=C.look D j:=λj o H ak=>K.shr.look j (λa=>o (K.sub j a)) (λa=>o (bO j a)) ak
   cases bj:s with
   |false=>
    rw [bj] at bZ K;have a9:=V (q,tc) E;simp only at a9;have ak:3<=tc'.items.length:=by rcases bs bj with h|h<;>omega
    refine .inl ⟨e,C1,m1,false,pb,fb,⟨K.cln,K.shr,λj a=>al _ (zY E (K.sub j a)),λh=>(by cases h),by have:=K.pl;omega,by have:=K.few;omega,bc,K.at_,(b,A++(q,tc')::B),Jd g Y aB bf bt ak,⟨?_,λc f=>?_⟩,kU O,?_⟩,⟨λw r J o F=>?_⟩⟩
    .show C1.look D b=zo (zc 4 ((A++(q,tc')::B).map vh));rw [cn,ay];congr 2;simp [vh,bt.blk]
    .have f:=f;rcases aj.1 f with Q|x;.exact L C1 aG c (.inl Q)
     .rcases aq.1 x with rfl|x;.exact bo
      .exact L C1 aG c (.inr x)
    .exact λ_=>.inl (by rw [zA,zA];simp)
    .have y:=bZ.below r J (by omega);rw [<-a3] at y;refine(uX w U bd S T {D with reads:=r} C F J (by show r<=_;omega) b g.1 _ ad ai (by omega) ap (by rw [zH];exact ay) p (4*h+1) (by omega) _ ⟨_,_,_,_,_,rfl⟩ false true C1 A.length a4 a5 y false true C1 (.inl ⟨rfl,rfl,rfl,rfl⟩)).mono ?_;rintro R w' ⟨k1,⟨n,ar,k2,k3,aR,aO⟩,aT⟩;exact⟨k1,⟨n,ar,k2,by omega,aR,aO⟩,aT⟩
   |true=>
    rw [bj] at bZ K;have bm:=K.own rfl;obtain⟨X,aw,N,ae,u,v,P⟩:=Bq A B q tc' (by simpa using bi);have b9:=Ks bt.blk P;obtain⟨a7,cE⟩:=uY bh aB bf bt;have bz:=kU (b:=b) (A:=A) (B:=B) (q:=q) O
    have bg:(b::zF (X++(N,u)::(ae,v)::aw)).Nodup:=by have:=(aX.1 (bz.nodup_iff.2 hnd)).1;have o:=this;rw [P.eq] at o;exact o
    have bk:∀j,j∈zF (X++(N,u)::(ae,v)::aw)->j∈zF (A++(q,tc)::B):=λj a=>by
     have o:j∈Tr.blocks (h:=h+1) (b,A++(q,tc')::B)++fb:=ac _ (al _ (by rw [P.eq];exact a));have H:=bz.mem_iff.1 o;rcases aq.1 H with rfl|H;.exact absurd a (iW.1 bg).1
     .exact H
    have bu:zF (X++(N,u)::(ae,v)::aw)=zF X++((u.blocks++v.blocks)++zF aw):=by rw [qz,qM,qM,an]
    have bb:=bg;rw [bu] at bb;obtain⟨cb,br,b3,cW,bp,cT,cg,cl⟩:=dj bb
    have aZ:∀j,j∈zF X\/j∈u.blocks++v.blocks\/j∈zF aw->21<=j/\j<1000:=λj a=>ao j (.inr (bk j (by
     rw [bu,aj,aj (s:=u.blocks++v.blocks)];exact a)))
    rw [P.eq] at a7;have aI:=a7.good (N,u) (by simp);have aN:=a7.good (ae,v) (by simp);have aY:u.blk∈u.blocks++v.blocks:=ac _ u.blk_mem;have a2:v.blk∈u.blocks++v.blocks:=af _ v.blk_mem;have cd:u.blk≠v.blk:=λd=>(aX.1 bp).2.2 _ u.blk_mem _ v.blk_mem d;have cO:=aZ _ (.inr (.inl aY));have cL:=aZ _ (.inr (.inl a2));have ci:u.blk≠b:=λd=>br (d▸aY);have cM:v.blk≠b:=λd=>br (d▸a2);have a1:∀c,c∈X\/c∈aw->c.2.LayV zo (λj=>C1.look D (j:Nat)):=λc f=>L C1 aG c (P.out c f)
    have bq:u.LayV zo (λj=>C1.look D (j:Nat))/\v.LayV zo (λj=>C1.look D (j:Nat))/\(u.blk∈pb\/v.blk∈pb)/\u.blk∈zF (A++(q,tc)::B)/\v.blk∈zF (A++(q,tc)::B):=by
     have bP:=bk u.blk (by rw [bu];simp [u.blk_mem]);have bE:=bk v.blk (by rw [bu];simp [v.blk_mem]);rcases P.two with⟨be,aE⟩|⟨be,aE⟩
     .simp only [eK] at aE;obtain⟨rfl,rfl⟩:=aE;exact⟨L C1 aG (N,u) (.inl be),bo,.inr (by rw [bt.blk];exact bm),bP,bE⟩
     .simp only [eK] at aE;obtain⟨rfl,rfl⟩:=aE;exact⟨bo,L C1 aG (ae,v) (.inr be),.inl (by rw [bt.blk];exact bm),bP,bE⟩
    obtain⟨aS,aK,bU,bQ,hmv⟩:=bq;have cp:=K.few;have bx:=P.at_;have bD:b≠2:=by omega
    obtain⟨aW,cu,cC,cm,ch⟩:=Bs (z:=⟨((u.items++v.items).getD ((u.items++v.items).length/2) dh).pl,false,0,v.blk⟩) (r:=X.length+1) (by simp) _ b9;have bS:=cu (by omega);have a8:=cC aW
    have bB:1<=v.items.length:=by
     rcases P.two with⟨_,aE⟩|⟨be,_⟩
     .have a9:=V (q,tc) E;have cJ:=bt.lo;simp only [eK] at aE a9;rw [aE.2];omega
     .have:=V (ae,v) (by simp [be]);simp only at this;omega
    have aV:v.blk-21+21=v.blk:=by omega
    have bN:=aS.node;have bI:C1.look D ((v.blk-21+21:Nat):Int)=zo (zc (zS h) v.items):=by rw [aV];exact aK.node
    have ab:=Dh u v;have a0:=jB u v;by_cases aL:(u.items++v.items).length<=6
    .have M:=X3 U bd S D C1 m1 K.cln.map ((A++(q,tc)::B).map vh) (by omega) A.length (X.length+1) bx aW u.blk (v.blk-21) (by rw [bS];rfl) (by rw [a8,aV];rfl) aI.1.blk (by omega) (by omega) (zS h) (Yv h) u.items v.items aI.1.items_ok aN.1.items_ok (Zx u) (Zx v) aI.2.1 aN.2.1 bB bN bI (by omega) _ _ (.inl ⟨aL,rfl,rfl⟩);have aH:=((K.shr.trans (fN.put D C1 m1 u.blk (zo (zc (zS h) (u.items++v.items))))).trans (fN.free (K.cln.put (i:=u.blk) (by omega) _) (i:=v.blk-21) (by omega))).trans (fN.put D _ _ b (zo (zc 4 (((A++(q,tc)::B).map vh).eraseIdx (X.length+1)))));rw [show pb++[u.blk]++[]++[b]=pb++[u.blk,b] from by simp,show fb++[]++[v.blk-21+21]++[]=fb++[v.blk] from by simp;omega] at aH;have aJ:=((K.cln.put (i:=u.blk) (by omega) (zo (zc (zS h) (u.items++v.items)))).free (v.blk-21)).put bD (zo (zc 4 (((A++(q,tc)::B).map vh).eraseIdx (X.length+1))));have cX:=qH C1 u.blk (zo (zc (zS h) (u.items++v.items)));have cS:=Zv (C1.put u.blk (zo (zc (zS h) (u.items++v.items)))) m1 (v.blk-21);have cR:=qH ((C1.put u.blk (zo (zc (zS h) (u.items++v.items)))).free m1 (v.blk-21)) b (zo (zc 4 (((A++(q,tc)::B).map vh).eraseIdx (X.length+1))))
     have a6:∀j:Nat,j≠b->j≠2->j≠v.blk->(((C1.put u.blk (zo (zc (zS h) (u.items++v.items)))).free m1 (v.blk-21)).put b (zo (zc 4 (((A++(q,tc)::B).map vh).eraseIdx (X.length+1))))).look D (j:Nat)=(C1.put u.blk (zo (zc (zS h) (u.items++v.items)))).look D (j:Nat):=λj o H ak=>by rw [qe _ _ _ _ _ (by omega),dG _ _ _ _ _ H (by omega)]
     have lb:(((C1.put u.blk (zo (zc (zS h) (u.items++v.items)))).free m1 (v.blk-21)).put b (zo (zc 4 (((A++(q,tc)::B).map vh).eraseIdx (X.length+1))))).look D (b:Nat)=zo (zc 4 (((A++(q,tc)::B).map vh).eraseIdx (X.length+1))):=qw _ _ _ _;have bv:∀j:Nat,j≠u.blk->(C1.put u.blk (zo (zc (zS h) (u.items++v.items)))).look D (j:Nat)=C1.look D (j:Nat):=λj o=>qe _ _ _ _ _ (by omega);have b5:(C1.put u.blk (zo (zc (zS h) (u.items++v.items)))).look D (u.blk:Nat)=zo (zc (zS h) (u.items++v.items)):=qw _ _ _ _;have cN:(((A++(q,tc)::B).map vh).eraseIdx (X.length+1)).length=(X++(N,u.join v)::aw).length:=by rw [cm];simp
     have cc:((A++(q,tc)::B).map vh).eraseIdx (X.length+1)=(X++(N,u.join v)::aw).map vh:=by rw [cm];simp [vh,ab]
     have bl:(((A++(q,tc)::B).map vh).eraseIdx (X.length+1)).length<=6:=by rw [iP aW];omega
     have aP:∀R∈((A++(q,tc)::B).map vh).eraseIdx (X.length+1),R.Ok:=λR l=>ad R (List.mem_of_mem_eraseIdx l);generalize ((A++(q,tc)::B).map vh).eraseIdx (X.length+1)=k at*;generalize b8:(C1.put u.blk (zo (zc (zS h) (u.items++v.items)))).free m1 (v.blk-21)=C2 at*;generalize bn:C2.put b (zo (zc 4 k))=I at*;refine .inl ⟨e,I,vd m1 (v.blk-21),decide (k.length<3),pb++[u.blk,b],fb++[v.blk],⟨aJ,aH,λj a=>?_,λ_=>by simp [Tr.blk],by have:=K.pl;simp;omega,by omega,bc,K.at_,(b,X++(N,u.join v)::aw),Dm g Y az aB bf bt P aL,⟨?_,λc f=>?_⟩,bK O P,λbV=>.inr ?_⟩,⟨λw r J o F=>?_⟩⟩
     .show j∈b::zF (A++(q,tc)::B);rcases aj.1 a with a|a;.exact al _ (zY E (K.sub j a))
      .simp only [aq,eY,or_false] at a;rcases a with rfl|rfl;.exact al _ bQ
       .exact am ..
     .show I.look D (b:Nat)=zo (zc 4 ((X++(N,u.join v)::aw).map vh));rw [lb,cc]
     .have f:=f
      have aA:∀c,c∈X\/c∈aw->c.2.LayV zo (λj=>I.look D (j:Nat)):=λc f=>(a1 c f).congr (λj a=>by
       have aa:j∈zF X\/j∈zF aw:=f.imp (λh=>zY h a) (λh=>zY h a);have ax:j∉u.blocks++v.blocks:=aa.elim (cg j) (cl j);have b6:=aZ j (aa.imp id .inr);have aQ:j≠b:=λd=>aa.elim (λh=>cb (d▸h)) (λh=>b3 (d▸h));show I.look D (j:Nat)=C1.look D (j:Nat)
       rw [a6 j aQ (by omega) (λd=>ax (d▸a2)),bv j (λd=>ax (d▸aY))])
      rcases aj.1 f with Q|x;.exact aA c (.inl Q)
      .rcases aq.1 x with rfl|x
       .refine Jf aS aK bp ?_ (λj a o H=>?_)
        .show I.look D (u.blk:Nat)=_;rw [a6 u.blk ci (by omega) cd,b5]
        .have b6:=aZ j (.inr (.inl a));show I.look D (j:Nat)=C1.look D (j:Nat);rw [a6 j (λd=>br (d▸a)) (by omega) H,bv j o]
       .exact aA c (.inr x)
     .rw [zA];have:¬k.length<3:=by simpa using bV
      omega
     .have y:=bZ.below r J (by omega);rw [<-a3] at y;refine(uX w U bd S T {D with reads:=r} C F J (by show r<=_;omega) b g.1 _ ad ai (by omega) ap (by rw [zH];exact ay) p (4*h+1) (by omega) _ ⟨_,_,_,_,_,rfl⟩ true true C1 A.length a4 a5 y (decide (k.length<3)) true I (.inr ⟨rfl,rfl,k,C2,M.reads r,aP,bl,by omega,decide_eq_decide.2 (by omega),bn.symm⟩)).mono ?_;rintro R w' ⟨k1,⟨n,ar,k2,k3,aR,aO⟩,aT⟩;exact⟨k1,⟨n,ar,k2,by omega,aR,aO⟩,aT⟩
    .have b0:(u.items++v.items).length<=12:=by rw [ah];have:=aI.2.1;have:=aN.2.1;simp only at *; omega
     have M:QD U bd S D C1 ((A++(q,tc)::B).map vh) A.length (((A++(q,tc)::B).map vh).set (X.length+1) ⟨((u.items++v.items).getD ((u.items++v.items).length/2) dh).pl,false,0,v.blk⟩) ((C1.put u.blk (zo (zc (zS h) ((u.items++v.items).take ((u.items++v.items).length/2))))).put v.blk (zo (zc (zS h) ((u.items++v.items).drop ((u.items++v.items).length/2))))):=
      X3 U bd S D C1 m1 K.cln.map ((A++(q,tc)::B).map vh) (by omega) A.length (X.length+1) bx aW u.blk (v.blk-21) (by rw [bS];rfl) (by rw [a8,aV];rfl) aI.1.blk (by omega) (by omega) (zS h) (Yv h) u.items v.items aI.1.items_ok aN.1.items_ok (Zx u) (Zx v) aI.2.1 aN.2.1 bB bN bI (by omega) _ _ (.inr ⟨by omega,by rw [a8];rfl,by rw [aV]⟩)
     rw [<-a0] at M ch
     have cf:=(Dl (m:=(u.join v).items.length/2) (b:=v.blk) dh (QF aI.1 aN.1 (p:=ae) (by
      have k2:Kids ((X++[(N,u)])++(ae,v)::aw):=by rw [an];exact a7
      exact k2.mid.2.2.2.2.1) (λR l=>by
      have k2:Kids ((X++[(N,u)])++(ae,v)::aw):=by rw [an];exact a7
      exact k2.mid.2.2.1 R (by rw [zC,zp];simp [l]))) (by
      have bw:xi (zM (A++(q,tc')::B)):=by rw [cE];exact az.del
      rw [P.eq] at bw
      exact(a7.pair bw).2.2.1) (by rw [a0];omega)).2.1
     obtain⟨bT,cr,bH,bC⟩:∃bT,(bT=u.blk\/bT=v.blk)/\(u.blk∈pb\/u.blk=bT)/\(v.blk∈pb\/v.blk=bT):=by
      rcases bU with h|h;.exact⟨v.blk,.inr rfl,.inl h,.inr rfl⟩
      .exact⟨u.blk,.inl rfl,.inr rfl,.inl h⟩
     have aH:=((K.shr.trans (fN.put D C1 m1 u.blk (zo (zc (zS h) ((u.join v).items.take ((u.join v).items.length/2)))))).trans (fN.put D _ m1 v.blk (zo (zc (zS h) ((u.join v).items.drop ((u.join v).items.length/2)))))).trans (fN.put D _ _ b (zo (zc 4 (((A++(q,tc)::B).map vh).set (X.length+1) ⟨((u.join v).items.getD ((u.join v).items.length/2) dh).pl,false,0,v.blk⟩))));rw [show fb++[]++[]++[]=fb from by simp] at aH;have aJ:=((K.cln.put (i:=u.blk) (by omega) (zo (zc (zS h) ((u.join v).items.take ((u.join v).items.length/2))))).put (i:=v.blk) (by omega) (zo (zc (zS h) ((u.join v).items.drop ((u.join v).items.length/2))))).put bD (zo (zc 4 (((A++(q,tc)::B).map vh).set (X.length+1) ⟨((u.join v).items.getD ((u.join v).items.length/2) dh).pl,false,0,v.blk⟩)));have ca:=Dn g Y az aB bf bt P (by omega) dh ((u.items++v.items).length/2) rfl;rw [<-a0] at ca aL b0
     have aP:∀R∈((A++(q,tc)::B).map vh).set (X.length+1) ⟨((u.join v).items.getD ((u.join v).items.length/2) dh).pl,false,0,v.blk⟩,R.Ok:=λR l=>by
      rcases iD l with l|rfl;.exact ad R l
      .exact cf.en aN.1.blk
     have bl:(((A++(q,tc)::B).map vh).set (X.length+1) ⟨((u.join v).items.getD ((u.join v).items.length/2) dh).pl,false,0,v.blk⟩).length<=6:=by rw [eQ];omega
     have bJ:((A++(q,tc)::B).map vh).set (X.length+1) ⟨((u.join v).items.getD ((u.join v).items.length/2) dh).pl,false,0,v.blk⟩=(X++(N,(u.join v).cutL ((u.join v).items.length/2))::(((u.join v).items.getD ((u.join v).items.length/2) dh).pl,(u.join v).cutR ((u.join v).items.length/2) v.blk)::aw).map vh:=by rw [ch];simp [vh,(Vi ((u.join v).items.length/2) v.blk (u.join v)).1,(Vi ((u.join v).items.length/2) v.blk (u.join v)).2,ab]
     have b1:=bL (b:=b) (q':=((u.join v).items.getD ((u.join v).items.length/2) dh).pl) ((u.join v).items.length/2) O P;have cQ:=qH C1 u.blk (zo (zc (zS h) ((u.join v).items.take ((u.join v).items.length/2))));have cP:=qH (C1.put u.blk (zo (zc (zS h) ((u.join v).items.take ((u.join v).items.length/2))))) v.blk (zo (zc (zS h) ((u.join v).items.drop ((u.join v).items.length/2))));have hcut:=λ(rd:Nat->List Value)=>Br (pg:=zo) (rd:=rd) ((u.join v).items.length/2) v.blk (u:=u.join v);generalize (u.join v).items.length/2=G at*;generalize ((u.join v).items.getD G dh).pl=q' at*;generalize ((A++(q,tc)::B).map vh).set (X.length+1) ⟨q',false,0,v.blk⟩=k at*;have lb:(((C1.put u.blk (zo (zc (zS h) ((u.join v).items.take G)))).put v.blk (zo (zc (zS h) ((u.join v).items.drop G)))).put b (zo (zc 4 k))).look D (b:Nat)=zo (zc 4 k):=qw _ _ _ _
     have cA:(((C1.put u.blk (zo (zc (zS h) ((u.join v).items.take G)))).put v.blk (zo (zc (zS h) ((u.join v).items.drop G)))).put b (zo (zc 4 k))).look D (v.blk:Nat)=zo (zc (zS h) ((u.join v).items.drop G)):=by rw [qe _ _ _ _ _ (by omega)];exact qw _ _ _ _
     have bv:(((C1.put u.blk (zo (zc (zS h) ((u.join v).items.take G)))).put v.blk (zo (zc (zS h) ((u.join v).items.drop G)))).put b (zo (zc 4 k))).look D (u.blk:Nat)=zo (zc (zS h) ((u.join v).items.take G)):=by rw [qe _ _ _ _ _ (by omega),qe _ _ _ _ _ (by omega)];exact qw _ _ _ _
     have a6:∀j:Nat,j≠b->j≠u.blk->j≠v.blk->(((C1.put u.blk (zo (zc (zS h) ((u.join v).items.take G)))).put v.blk (zo (zc (zS h) ((u.join v).items.drop G)))).put b (zo (zc 4 k))).look D (j:Nat)=C1.look D (j:Nat):=λj o H ak=>by rw [qe _ _ _ _ _ (by omega),qe _ _ _ _ _ (by omega),qe _ _ _ _ _ (by omega)]
     have cI:=qH ((C1.put u.blk (zo (zc (zS h) ((u.join v).items.take G)))).put v.blk (zo (zc (zS h) ((u.join v).items.drop G)))) b (zo (zc 4 k));have co:k.length=(X++(N,(u.join v).cutL G)::(q',(u.join v).cutR G v.blk)::aw).length:=by rw [bJ];simp
     generalize b8:(C1.put u.blk (zo (zc (zS h) ((u.join v).items.take G)))).put v.blk (zo (zc (zS h) ((u.join v).items.drop G)))=C2 at*;generalize bn:C2.put b (zo (zc 4 k))=I at*
     have bX:fN D C I m m1 (pb++[bT,b]) fb:=aH.sub (λj a=>.inl (by
      simp only [aj,aq,eY,or_false] at a ⊢;rcases a with((a|a)|a)|a;.exact .inl a
      .rw [a];exact bH.imp id .inl
      .rw [a];exact bC.imp id .inl
      .exact .inr (.inr a))) (λj _ a=>by
      simp only [aj,aq,eY,or_false] at a ⊢;rcases a with((a|a)|a)|a;.exact .inl a
      .rw [a];exact bH.imp id .inl
      .rw [a];exact bC.imp id .inl
      .exact .inr (.inr a))
     refine .inl ⟨e,I,m1,decide (k.length<3),pb++[bT,b],fb,⟨aJ,bX,λj a=>?_,λ_=>by simp [Tr.blk],by have:=K.pl;simp;omega,by omega,bc,K.at_,_,ca,⟨?_,λc f=>?_⟩,b1,λbV=>.inr ?_⟩,⟨λw r J o F=>?_⟩⟩
     .show j∈b::zF (A++(q,tc)::B);rcases aj.1 a with a|a;.exact al _ (zY E (K.sub j a))
      .simp only [aq,eY,or_false] at a;rcases a with rfl|rfl
       .rcases cr with rfl|rfl;.exact al _ bQ
        .exact al _ hmv
       .exact am ..
     .show I.look D (b:Nat)=zo (zc 4 (List.map vh _));rw [lb,bJ]
     .have aA:∀c,c∈X\/c∈aw->c.2.LayV zo (λj=>I.look D (j:Nat)):=λc f=>(a1 c f).congr (λj a=>by
       have aa:=f.imp (λh=>zY h a) (λh=>zY h a);have ax:=aa.elim (cg j) (cl j);have aQ:j≠b:=λd=>aa.elim (λh=>cb (d▸h)) (λh=>b3 (d▸h));show I.look D (j:Nat)=C1.look D (j:Nat)
       exact a6 j aQ (λd=>ax (d▸aY)) (λd=>ax (d▸a2)))
      obtain⟨cG,cx⟩:=hcut (λj=>I.look D (j:Nat)) (λcH bG b2=>Jf aS aK bp (by rw [ab,a0] at bG;exact bG) (λj a o H=>by
       rw [b2 j (by rw [ab];exact o)]
       exact a6 j (λd=>br (d▸a)) o H)) (Uv bp) (by rw [ab];exact bv) cA
      have au:=f;rcases aj.1 au with Q|x;.exact aA c (.inl Q)
      .rcases aq.1 x with rfl|x;.exact cG
       .rcases aq.1 x with rfl|x;.exact cx
        .exact aA c (.inr x)
     .rw [zA];have:¬k.length<3:=by simpa using bV
      omega
     .have y:=bZ.below r J (by omega);rw [<-a3] at y;refine(uX w U bd S T {D with reads:=r} C F J (by show r<=_;omega) b g.1 _ ad ai (by omega) ap (by rw [zH];exact ay) p (4*h+1) (by omega) _ ⟨_,_,_,_,_,rfl⟩ true true C1 A.length a4 a5 y (decide (k.length<3)) true I (.inr ⟨rfl,rfl,k,C2,M.reads r,aP,bl,by omega,decide_eq_decide.2 (by omega),bn.symm⟩)).mono ?_;rintro R w' ⟨k1,⟨n,ar,k2,k3,aR,aO⟩,aT⟩;exact⟨k1,⟨n,ar,k2,by omega,aR,aO⟩,aT⟩
  .refine .inr ⟨λR l d=>?_,⟨λw r J o F=>?_⟩⟩
   .have l:R∈zM (A++(q,tc)::B):=l;obtain⟨u1,u2⟩:=bh.unroute aB bf;rw [zC,zp] at l;rcases aj.1 l with l|l;.exact u1 R l d
    .rcases aj.1 l with l|l;.exact b7 R l d
     .exact u2 R l d
   .have y:=bZ.below r J (by omega);rw [<-a3] at y;refine(uX w U bd S T {D with reads:=r} C F J (by show r<=_;omega) b g.1 _ ad ai (by omega) ap (by rw [zH];exact ay) p (4*h+1) (by omega) _ ⟨_,_,_,_,_,rfl⟩ false false C A.length a4 a5 y false false C (.inl ⟨rfl,rfl,rfl,rfl⟩)).mono ?_;rintro R w' ⟨k1,⟨n,ar,k2,k3,aR,aO⟩,aT⟩;exact⟨k1,⟨n,ar,k2,by omega,aR,aO⟩,aT⟩
end prog
namespace prog
open Go.RowKit disk ref
open law (zP)
open keys (zh)
def xd:List Nat->Ck×List UInt8->Ck×List UInt8
 |[],s=>s
 |j::l,s=>xd l (s.1.free s.2 (j-21),vd s.2 (j-21))
theorem Zy:∀(l:List Nat) (j:Nat) (s:Ck×List UInt8),xd (l++[j]) s=((xd l s).1.free (xd l s).2 (j-21),vd (xd l s).2 (j-21))
 |[],_,_=>rfl
 |_::l,j,s=>Zy l j _
theorem vF{D:Dk}:∀(l:List Nat) (C:Ck) (m:List UInt8),ZO D C m->(∀j∈l,21<=j/\j<1000)->ZO D (xd l (C,m)).1 (xd l (C,m)).2/\fN D C (xd l (C,m)).1 m (xd l (C,m)).2 [] l/\(xd l (C,m)).1.ws.length<=C.ws.length+l.length
 |[],C,m,h,_=>⟨h,fN.refl D C m,by simp [xd]⟩
 |j::l,C,m,h,hr=>by have d:=hr j (am ..);obtain⟨b,a,e⟩:=vF l _ _ (h.free (j-21)) (λi c=>hr i (al _ c));have s:=(fN.free h (i:=j-21) (by omega)).trans a;rw [show j-21+21=j from by omega] at s;refine⟨b,s,?_⟩;have:=Zv C m (j-21);show (xd l (C.free m (j-21),vd m (j-21))).1.ws.length<=_;rw [ae];omega
structure Yw (D:Dk) (C C':Ck) (m m':List UInt8) (root':Nat) (p:Pl) (e:En) (es:List En) (bs pb fb:List Nat):Prop where
 cln:ZO D C' m'
 shr:fN D C C' m m' pb fb
 sub:∀j∈pb,j∈bs
 pl:pb.length<=13
 few:C'.ws.length<=C.ws.length+100
 mem:e∈es
 at_:e.pl=p
 tree:∃bs',yo (λj=>C'.look D (j:Nat)) root' (ye p es) bs'/\(bs'++fb).Perm bs
 lt:root'<65536
theorem xi.perm_del{l:List En}(h:xi l){e:En}(g:e∈l):l.Perm (e::ye e.pl l):=by
 obtain⟨A,B,rfl⟩:=li g;have d:=ep.1 h;have j:=aR.1 d.2.1
 have k:∀b∈A,b.pl≠e.pl:=λb c a=>by have:=d.2.2 b c e (am ..);rw [a] at this;exact Pl.irrefl _ this
 have i:∀b∈B,b.pl≠e.pl:=λb c a=>by have:=j.1 b c;rw [a] at this;exact Pl.irrefl _ this
 have f:ye e.pl (e::B)=ye e.pl B:=by unfold ye;rw [hE,az (by simp)]
 rw [kN,f,j6 k,j6 i];exact List.perm_middle
structure dI (D:Dk) (V:zP) (tree n:Nat) (m:List UInt8) (es:List En) (bl:List Nat) (bo:Pl->List zv) (p:Pl) (e:En) (root':Nat) (C1:Ck) (m1:List UInt8) (pb fb:List Nat) (C2:Ck) (m2:List UInt8):Prop where
 rep:gA D.bs V tree n m es bl bo
 ps:D.ps=[]
 big:64<=D.bs.length
 rem:Yw D bA C1 m m1 root' p e es bl pb fb
 body:xd ((bo e.pl).map zv.at_) (C1,m1)=(C2,m2)
 num:n<4611686018427387904
section
variable {D:Dk} {V:zP} {tree n:Nat} {m:List UInt8} {es:List En} {bl:List Nat} {bo:Pl->List zv} {p:Pl} {e:En} {root':Nat} {C1:Ck} {m1:List UInt8} {pb fb:List Nat} {C2:Ck} {m2:List UInt8}
theorem fO{b:En}(c:b∈es){j:Nat}(a:j∈(bo b.pl).map zv.at_):j∈yB es bo:=fA.2 ⟨b,c,a⟩
theorem dI.shr(h:dI D V tree n m es bl bo p e root' C1 m1 pb fb C2 m2):ZO D C2 m2/\fN D bA C2 m m2 pb (fb++(bo e.pl).map zv.at_):=by
 have a:=vF ((bo e.pl).map zv.at_) C1 m1 h.rem.cln (λj b=>by
  have:=h.rep.range j (af _ (fO h.rem.mem b));have:=h.rep.few
  omega)
 rw [h.body] at a;have:=h.rem.shr.trans a.2.1;rw [aM] at this;exact⟨a.1,this⟩
theorem dI.keys(h:dI D V tree n m es bl bo p e root' C1 m1 pb fb C2 m2):∀k∈(C2.put 1 (zo (zx root' n))).keys,k∈[1,2]++pb:=λk b=>by
 rcases (xO C2 1 _ k).1 b with a|a
 .rcases h.shr.2.keys k a with a|a|a;.exact(by cases a)
  .simp [a]
  .simp [a]
 .simp [a]
theorem dI.klt(h:dI D V tree n m es bl bo p e root' C1 m1 pb fb C2 m2):∀k∈(C2.put 1 (zo (zx root' n))).keys,k<D.bs.length:=λk b=>by
 have c:=h.big;rcases aj.1 (h.keys k b) with a|a;.simp at a;omega
 .exact(h.rep.range k (ac _ (h.rem.sub k a))).2
theorem dI.fits(h:dI D V tree n m es bl bo p e root' C1 m1 pb fb C2 m2):(C2.put 1 (zo (zx root' n))).full=false/\(C2.put 1 (zo (zx root' n))).ws.length<=18:=by
 refine⟨by rw [qV];exact h.shr.1.full,?_⟩;have a:=vz _ _ (xg h.shr.1.nodup 1 (zo (zx root' n))) h.keys;rw [Ck.keys_len] at a;simp only [ah,ae,ix] at a;have:=h.rem.pl;omega
theorem dI.rest(h:dI D V tree n m es bl bo p e root' C1 m1 pb fb C2 m2):∃f,gA (gX D.bs (C2.put 1 (zo (zx root' n))).ws) (V.sub p.key p.num) root' n m2 (ye p es) f bo:=by
 obtain⟨ab,aa⟩:=h.fits;obtain⟨E,C⟩:=h.shr;obtain⟨f,hF,N⟩:=h.rem.tree;have U:=h.big;have Z:=h.rep.few;have I:=xg E.nodup 1 (zo (zx root' n))
 have x:∀j:Nat,j≠0->(j<3\/21<=j)->Yc (gX D.bs (C2.put 1 (zo (zx root' n))).ws) j=(C2.put 1 (zo (zx root' n))).look D (j:Nat):=λj F b=>by rw [Yd h.ps];exact Xp h.ps I (by omega) h.klt F b
 have g:∀j:Nat,j≠0->j≠1->(j<3\/21<=j)->Yc (gX D.bs (C2.put 1 (zo (zx root' n))).ws) j=C2.look D (j:Nat):=λj F l b=>by rw [x j F b,qe _ _ _ _ _ (by omega)]
 have K:xi es:=h.rep.forest.six.2.2;have J:es.Perm (e::ye p es):=by rw [<-h.rem.at_];exact K.perm_del h.rem.mem
 have z:(yB es bo).Perm ((bo e.pl).map zv.at_++yB (ye p es) bo):=(J.map _).flatten
 have s:(bl++yB es bo).Perm ((f++yB (ye p es) bo)++(fb++(bo e.pl).map zv.at_)):=by rw [l0] at N z ⊢;intro a;have l:=N a;have w:=z a;simp only [mr] at l w ⊢;omega
 have O:=s.nodup_iff.1 h.rep.nodup;have y:=aX.1 O;have u:∀j∈f++yB (ye p es) bo,j∈bl++yB es bo/\j∉fb++(bo e.pl).map zv.at_:=λj b=>⟨s.mem_iff.2 (ac _ b),λt=>y.2.2 j b j t rfl⟩;have d:∀j∈f++yB (ye p es) bo,21<=j/\j<D.bs.length:=λj b=>h.rep.range j (u j b).1;have r:=h.rep.good;have c:∀v∈(V.sub p.key p.num).vs,v∈V.vs:=λv k=>(eA.1 k).1;refine⟨f,⟨by rw [jV];exact Z,?_,h.rep.n0,?_,?_,?_,y.1,λj b=>by rw [jV];exact d j b,?_,?_,?_,?_⟩⟩
 .have:=x 1 (by omega) (by omega);rw [this];have w:(C2.put 1 (zo (zx root' n))).look D ((1:Nat):Int)=zo (zx root' n):=qw _ _ _ _;rw [w];exact⟨.inl rfl,h.rem.lt,by have:=h.num;omega⟩
 .rw [g 2 (by omega) (by omega) (by omega)];exact E.map
 .refine hF.congr (λj b=>?_);have T:=d j (ac _ b);rw [g j (by omega) (by omega) (by omega)]
  have o:=vF ((bo e.pl).map zv.at_) C1 m1 h.rem.cln (λj b=>by
   have:=h.rep.range j (af _ (fO h.rem.mem b))
   omega)
  rw [h.body] at o;exact o.2.1.look j (λt=>(by cases t)) (λt=>(u j (ac _ b)).2 (af _ t)) (by omega)
 .intro G Q;have A:=cq.1 Q;have o:=h.rep.body G A.1;refine⟨o.chain.congr (λq L=>?_),o.head,o.size,o.few⟩;have B:q.at_∈yB (ye p es) bo:=fA.2 ⟨G,Q,av.2 ⟨q,L,rfl⟩⟩;have M:=u q.at_ (af _ B);have T:=d q.at_ (af _ B);have R:q.at_∉pb:=λt=>(aX.1 h.rep.nodup).2.2 _ (h.rem.sub _ t) _ (fO A.1 (av.2 ⟨q,L,rfl⟩)) rfl;rw [g _ (by omega) (by omega) (by omega),C.look _ R M.2 (by omega),y7,yl h.ps]
 .intro i P;rw [jV] at P;rw [C.taken];simp only [aS,aO];rw [h.rep.taken i P];constructor
  .rintro⟨l,w⟩;rcases aj.1 (s.mem_iff.1 l) with H|H;.exact H
   .exact absurd H w
  .exact λl=>u _ l
 .have l:(V.sub p.key p.num).vs.Perm ((es.map (xF bo)).filter λv=> !(decide (v.key=p.key)&&decide (v.num=p.num))):=h.rep.vers.filter _;refine l.trans ?_;rw [List.filter_map]
  have:(es.filter ((λv:zw=> !(decide (v.key=p.key)&&decide (v.num=p.num)))∘xF bo))=ye p es:=by unfold ye;refine mq (λG _=>?_);show (!(decide (G.pl.key=p.key)&&decide (G.pl.num=p.num)))=_;obtain⟨⟨k1,X⟩,_,_,_⟩:=G;obtain⟨k2,Y⟩:=p;simp only [ne_eq,Pl.mk.injEq];by_cases W:k1=k2<;>by_cases S:X=Y<;>simp [W,S]
  rw [this]
 .refine⟨Pg.new 1,Pg.new_ok 1 (by omega),?_,rfl⟩;rw [Yd h.ps];exact Xq h.ps (by omega) _
 .exact⟨lq _ r.apart,λv k=>r.num v (c v k),λv k=>r.key v (c v k),λv k=>r.body v (c v k),λv k=>r.mark v (c v k),aF (ir _ _) r.few,r.n0⟩
end
end prog
namespace prog
open Go.RowKit disk ref
theorem Zu.root{h:Nat}{t a:Tr h}{p:Pl}(k:Zu t p a)(r:t.Root)(b:1<=a.items.length)(c:0<h->2<=a.items.length):a.Root where
 good:=k.good
 hi:=k.hi
 one:=b
 two:=c
 first:=k.first _ r.first
 srt:=by rw [k.ents];exact r.srt.del
theorem Zz{C:Ck}{D:Dk}{r:Int}{h:Nat}{t:Tr h}(l:t.LayV zo (λj=>C.look D (j:Nat))):C.look {D with reads:=r} (t.blk:Nat)=zo (zc (zS h) t.items):=by rw [zH];exact l.node
theorem Ji(d bd:Nat)(S T:Nat->Prop)(D:Dk)(p:Pl)(C:Ck)(m:List UInt8)(x:Nat)(es:List En)(bs:List Nat)(hF:yo (λj=>C.look D (j:Nat)) x es bs)(R:bs.Nodup)
 (O:∀j∈bs,21<=j/\j<1000) (ad:bs.length<=979) (aB:ZO D C m) (aE:C.ws.length<100):
 (∃e root' M Y pb fb,Yw D C M m Y root' p e es bs pb fb/\kJ d bd S T D C x p root' (qE e) true M)\/((∀ab∈es,ab.pl≠p)/\kJ d bd S T D C x p x qI false C):=by
 rcases hF with⟨rfl,rfl,rfl⟩|⟨h,t,f,ay,rfl,rfl,rfl⟩
 .exact .inr ⟨λab az=>(by cases az),⟨λw r y A a=>(Jc w d p 0 rfl).mono (by
   rintro ab w' ⟨A,E⟩
   exact⟨A,⟨0,T,eD _,by omega,by rw [Int.add_zero];exact a.kept0 E,λ_ h=>.inl h⟩,E.mono fE⟩)⟩⟩
 .have Z:=f.low ad;have aw:=O t.blk t.blk_mem;rcases Jh d bd S T D p h t C m (by omega) f.good f.two f.hi f.srt R O ay aB (by omega) with⟨e,C1,m1,s,pb,fb,k,aa⟩|⟨aq,aa⟩
  .obtain⟨g,v,o,b,P⟩:=k.tree;have aF:=k.pl;have aG:=k.few
   cases L:s with
   |false=>
    rw [L] at aa;have A:=f.one;have E:=f.two;have ar:=P L;have ae:=v.root f (by omega) (λh=>by have:=E h;omega);refine .inl ⟨e,t.blk,C1,m1,pb,fb,⟨k.cln,k.shr,k.sub,by omega,by omega,k.mem,k.at_,⟨g.blocks,.inr ⟨h,g,ae,o,v.blk,v.ents,rfl⟩,b⟩,f.good.blk⟩,⟨λw r y A a=>?_⟩⟩;exact uo w d bd S T D C r a y p h t.blk (by omega) (by omega) Z (qE e) ⟨_,_,_,_,_,rfl⟩ false true C1 aa _ _ (.inl ⟨rfl,rfl,rfl⟩)
   |true=>
    rw [L] at aa
    have B:∀root' C2,(∀(w0:World) (l:Nat->Prop) (r:Int),0<=r->r<=4611686018427380000->Cw w0 d bd S l {D with reads:=r} C1->Calls Tryz.prog 142 #[.pointer (some ⟨d,0,none⟩),.int .i64 (t.blk:Int)] w0 λab w'=>ab=.returned (.int .i64 (root':Nat))/\(∃(n:Int) (am:Nat->Prop),0<=n/\n<=2/\Cw w' d bd S am {D with reads:=r+n} C2/\∀j,am j->l j\/w0.heap.size<=j)/\Kept (λj=>j=bd\/l j) w0 w')->kJ d bd S T D C t.blk p root' (qE e) true C2:=λroot' C2 ao=>⟨λw r y A a=>
     uo w d bd S T D C r a y p h t.blk (by omega) (by omega) Z (qE e) ⟨_,_,_,_,_,rfl⟩ true true C1 aa root' C2 (.inr ⟨rfl,ao⟩)⟩
    have G:1<=g.items.length->(0<h->2<=g.items.length)->(∃e root' M Y pb fb,Yw D C M m Y root' p e t.ents t.blocks pb fb/\kJ d bd S T D C t.blk p root' (qE e) true M):=λav aj=>by refine⟨e,t.blk,C1,m1,pb,fb,⟨k.cln,k.shr,k.sub,by omega,by omega,k.mem,k.at_,⟨g.blocks,.inr ⟨h,g,v.root f av aj,o,v.blk,v.ents,rfl⟩,b⟩,f.good.blk⟩,B _ _ (λw0 l r I N a=>?_)⟩;refine(Kp w0 d bd S l {D with reads:=r} C1 a I N t.blk f.good.blk (zS h) (Yv h) g.items v.good.items_ok (Zx g) v.hi av (λar=>aj (by cases h with|zero=>simp [zS] at ar|succ h=>omega)) (by rw [<-v.blk];exact Zz o)).mono ?_;rintro ab w' ⟨k1,⟨n,k2,k3,aA⟩,aD⟩;exact⟨k1,⟨n,l,k2,by omega,aA,λ_ h=>.inl h⟩,aD.mono iL⟩
    have H:((t.blk:Nat):Int)=((t.blk-21:Nat):Int)+21:=by omega
    have F:=k.shr.trans (fN.free k.cln (i:=t.blk-21) (by omega));rw [aM,show t.blk-21+21=t.blk from by omega] at F;have J:=k.cln.free (t.blk-21);have aJ:=Zv C1 m1 (t.blk-21)
    cases h with
    |zero=>
     by_cases A:1<=g.items.length;.exact .inl (G A (λh=>by omega))
     .have y:g.items=[]:=ed (by omega);have af:ye p t.ents=[]:=by rw [<-v.ents];exact y
      refine .inl ⟨e,0,C1.free m1 (t.blk-21),vd m1 (t.blk-21),pb,fb++[t.blk],⟨J,F,k.sub,by omega,by omega,k.mem,k.at_,⟨[],.inl ⟨rfl,af,rfl⟩,?_⟩,by omega⟩,B _ _ (λw0 l r I N a=>?_)⟩
      .have ax:g.blocks=[t.blk]:=by rw [<-v.blk];rfl
       rw [ax] at b;rw [aH];exact eZ.trans b
      .have:=Ko w0 d bd S l {D with reads:=r} C1 a m1 (by rw [zH];exact k.cln.map) I N (by omega) (t.blk-21) (by omega) 5 (.inr rfl) (by
        rw [show t.blk-21+21=g.blk from by rw [v.blk];omega,Zz o,y];rfl)
       rw [H];exact this
    |succ h=>
     by_cases E:2<=g.items.length;.exact .inl (G (by omega) (λ_=>E))
     .have ai:=v.lo;have aK:=f.two (by omega);obtain⟨aC,W⟩:=g
      have V:W.length=1:=by rw [zA] at E ai;omega
      obtain⟨⟨q,u⟩,rfl⟩:∃c,W=[c]:=by
       cases W with
       |nil=>simp at V
       |cons c r=>cases r with
        |nil=>exact⟨c,rfl⟩
        |cons _ _=>simp at V
      obtain rfl:aC=t.blk:=v.blk;have z:=v.good.kids.good (q,u) (by simp);have aO:3<=u.items.length:=v.good.full (q,u) (by simp)
      have X:u.First yz:=by obtain⟨u0,aN,U⟩:=v.first _ f.first;simp only [ee,eK] at U;rw [<-U.1.1];exact(v.good.kids.seps [] q u [] rfl).2.2
      have Q:u.ents=ye p t.ents:=by rw [<-v.ents];show u.ents=zM [(q,u)];simp [zM]
      have ah:u.Root:=⟨z.1,z.2.1,by omega,λ_=>by omega,X,by rw [Q];exact f.srt.del⟩;have K:Tr.blocks (h:=h+1) (t.blk,[(q,u)])=t.blk::u.blocks:=by show t.blk::zF [(q,u)]=_;simp [zF]
      have au:(t.blk::u.blocks++fb).Nodup:=by rw [<-K];exact b.nodup_iff.2 R
      have ap:t.blk∉u.blocks:=(iW.1 (aX.1 au).1).1;have ag:u.LayV zo (λj=>C1.look D (j:Nat)):=o.2 (q,u) (by simp);refine .inl ⟨e,u.blk,C1.free m1 (t.blk-21),vd m1 (t.blk-21),pb,fb++[t.blk],⟨J,F,k.sub,by omega,by omega,k.mem,k.at_,⟨u.blocks,.inr ⟨h,u,ah,ag.congr (λj ak=>?_),rfl,Q,rfl⟩,?_⟩,z.1.blk⟩,B _ _ (λw0 l r I N a=>?_)⟩
      .have aI:=O j (b.mem_iff.1 (ac _ (by rw [K];exact al _ ak)));exact dG C1 D m1 (t.blk-21) j (by omega) (λaL=>ap (by rw [show t.blk=j from by omega];exact ak))
      .rw [K] at b;refine List.Perm.trans ?_ b;rw [<-an];exact eZ
      .have:=Uq w0 d bd S l {D with reads:=r} C1 a m1 (by rw [zH];exact k.cln.map) I N (by omega) (t.blk-21) (by omega) ⟨q,false,0,u.blk⟩ (z.2.2.en z.1.blk) ⟨rfl,rfl⟩ (by
        rw [show t.blk-21+21=t.blk from by omega];exact Zz o)
       rw [H];exact this
  .refine .inr ⟨aq,⟨λw r y A a=>?_⟩⟩;exact uo w d bd S T D C r a y p h t.blk (by omega) (by omega) Z qI ⟨_,_,_,_,_,rfl⟩ false false C aa _ _ (.inl ⟨rfl,rfl,rfl⟩)
end prog
namespace prog
open Go.ChangeShapes Go.WideShapes Go.ChangeAt Go.RowKit disk ref
open keys (zg zd zq zl)
attribute [local go_sem] Oper.semAt_some
def YJ(pre:List BP):List Nat:=pre.map λx=>x.p.at_
theorem Vj{ps:List zv}{pre:List BP}(h:pre.map BP.p<+:ps):YJ pre<+:ps.map zv.at_:=by
 have:=h.map zv.at_;rw [lB] at this;exact this
structure Wv (w1:World) (bc bd:Nat) (S T:Nat->Prop) (D:Dk) (C:Ck) (m:List UInt8) (ps:List zv) (b2 bx:Nat) (r:Int) (pre:List BP) (Q:Nat->Prop) (A:World):Prop where
 st:∃(n:Int) (T1:Nat->Prop),0<=n/\n<=r+pre.length/\Cw A bc bd S T1 {D with reads:=D.reads+n} (xd (YJ pre) (C,m)).1/\(∀j,T1 j->T j\/w1.heap.size+2<=j)/\∀k,Q k↔T1 k/\w1.heap.size+2<=k
 box:A.heap[b2]? =some (.cells #[.iface 142 (.pointer (some ⟨bc,0,none⟩))] 193 (0,0))
 cbx:A.heap[bx]? =some (.cells #[.pointer (some ⟨bc,0,none⟩)] 142 (0,0))
 pfx:pre.map BP.p<+:ps
 kept:Kept (λk=>k=bd\/T k\/w1.heap.size<=k) w1 A
 rr:0<=r
def WD(w1:World)(bc bd:Nat)(S T:Nat->Prop)(D:Dk)(C:Ck)(m:List UInt8)(ps:List zv)(b2:Nat)(r:Int)(pre:List BP)(A:World):Prop:=
 (∃(n:Int) (T1:Nat->Prop),0<=n/\n<=r+pre.length/\Cw A bc bd S T1 {D with reads:=D.reads+n} (xd (YJ pre) (C,m)).1/\(∀j,T1 j->T j\/w1.heap.size+2<=j))/\
  A.heap[b2]? =some (.cells #[.iface 142 (.pointer (some ⟨bc,0,none⟩))] 193 (0,0))/\pre.map BP.p<+:ps/\0<=r
theorem Jj{D:Dk}{C:Ck}{m:List UInt8}(h:ZO D C m){ps:List zv}(b:∀q∈ps,21<=q.at_/\q.at_<1000){pre:List BP}(a:pre.map BP.p<+:ps):ZO D (xd (YJ pre) (C,m)).1 (xd (YJ pre) (C,m)).2/\fN D C (xd (YJ pre) (C,m)).1 m (xd (YJ pre) (C,m)).2 [] (YJ pre)/\(xd (YJ pre) (C,m)).1.ws.length<=C.ws.length+ps.length:=by
 have i:=(Vj a).subset
 obtain⟨f,e,g⟩:=vF (YJ pre) C m h (λj d=>by
  obtain⟨q,c,rfl⟩:=av.1 (i d)
  exact b q c)
 refine⟨f,e,aF g ?_⟩;have:=(Vj a).length_le;simp at this;omega
theorem Uw(w:World)(g bd:Nat)(S T:Nat->Prop)(D:Dk)(C:Ck)(h:Cw w g bd S T D C)(m:List UInt8)(ac:ZO D C m)(bm:0<=D.reads)(bn:D.reads<=4611686018427380000)(ps:List zv)(ap:xE (λj=>C.look D (j:Nat)) ps)(Y:(ps.map zv.at_).Nodup)(bl:ps.length<=3)(G:∀q∈ps,21<=q.at_/\q.at_<1000)(first:Nat)(aX:jf ps=first)(bk:C.ws.length<600)(aD:Ck)(bh:List UInt8)(J:xd (ps.map zv.at_) (C,m)=(aD,bh)):
 Calls Tryz.prog 80 #[.pointer (some ⟨g,0,none⟩),.int .i64 first] w λe w'=>e=.returned (.tuple #[])/\(∃(n:Int) (R:Nat->Prop),0<=n/\n<=6/\Cw w' g bd S R {D with reads:=D.reads+n} aD/\∀j,R j->T j\/w.heap.size<=j)/\Kept (λj=>j=bd\/T j) w w':=by
 have bj:Hid _:=h;have bb:Hid _:=aX;have bo:=h.disk.lt bd h.disk.bdS;have F:Hid _:=h.chg.lt;have aq:Hid _:=h.disk.lt;change Hid _ at ac ap Y G J;clear h aX;refine yT Tryz.func80 rfl ?_;simp only [Tryz.ntmps80,aw,ae,ix,Nat.reduceAdd,Nat.reduceSub,iX,iY,lp,i7,aH,a9];go_wp2_with fail;have aP:Hid (Kept (λ_=>False) w (w.alloc (.cells #[.pointer (some ⟨g,0,none⟩)] 142))):=Kept.alloc _ _ _;have aR:Hid ((w.alloc (.cells #[.pointer (some ⟨g,0,none⟩)] 142)).heap[w.heap.size]? =some (.cells #[.pointer (some ⟨g,0,none⟩)] 142 (0,0))):=heap_alloc_new w _;have ar:(w.alloc (.cells #[.pointer (some ⟨g,0,none⟩)] 142)).heap.size=w.heap.size+1:=by simp
 generalize (w.alloc (.cells #[.pointer (some ⟨g,0,none⟩)] 142))=a2 at*;refine(Qu a2 142 ⟨g,0,none⟩ first).mono ?_;rintro e p ⟨rfl,ab,aa,U,aO⟩;rw [ar] at ab aa aO;have X:Hid _:=aP.trans U iL;have az:Hid (p.heap[w.heap.size]? =some (.cells #[.pointer (some ⟨g,0,none⟩)] 142 (0,0))):=(U.block _ (by omega) id).trans aR.out;change Hid _ at ab aa;clear U;rw [ar];go_wp2_with fail
 have au:Hid (∀W,Kept (λ_=>False) p W->W.heap.size=p.heap.size+2->gi Tryz.prog 124 #[.pointer (some ⟨w.heap.size+1+1,0,none⟩),.pointer (some ⟨w.heap.size+1,0,none⟩)] VU (λk=>k=bd) (WD p g bd S T D C m ps (w.heap.size+1)) (λr pre z A=>K3 (p.heap.size+2) ps pre z A/\r<=0+pre.length+1) (λr am=>am.map BP.p=ps/\r<=0+ps.length) (λ_ _=>True) 0 W):=λW f aN=>by
  have:=Qp W 142 192 ⟨g,0,none⟩ (cz _) (w.heap.size+1+1) (w.heap.size+1) ps (λj=>C.look D (j:Nat)) ap Y (λk=>k=bd) (WD p g bd S T D C m ps (w.heap.size+1)) 0 (λk f=>by rw [f];omega)
   (by rw [bb.out];exact(f.block _ (by omega) id).trans ab) (λr pre A h=>h.2.1)
   (λr pre A B h f=>by
    obtain⟨⟨n,s,v,y,o,t⟩,H,L,ad⟩:=h
    exact⟨⟨n,s,v,y,o.kept0 f,t⟩,(f.block _ (lT H) id).trans H,L,ad⟩)
   (λi d r pre A h Z bq=>by
    obtain⟨⟨n,s,v,y,o,t⟩,H,L,ad⟩:=h;have aE:pre.length=i:=by have:=et List.length Z;simp at this;omega
    obtain⟨aA,ay,aY⟩:=Jj ac G L;have aU:=G.out _ (ag d)
    have ax:ps[i].at_∉YJ pre:=λu=>by
     have P:YJ pre=(ps.map zv.at_).take i:=by have:=et (List.map zv.at_) Z;rw [lB,i4] at this;exact this
     rw [P] at u;obtain⟨j,l,a0⟩:=iT.1 u;have aL:j<i:=by omega
     have:=eB.1 Y j i (by omega) (by simpa using d) aL;rw [a0] at this;simp at this
    refine(vu A g bd S s {D with reads:=D.reads+n} _ o _ (by constructor<;>omega) (by show 0<=D.reads+n;omega) (by show D.reads+n<=_;omega)).mono ?_;rintro z be ⟨rfl,⟨aC,bc,a3,ai⟩,M⟩;refine⟨?_,M,r+1,by omega,by omega,⟨n+aC,s,by omega,by omega,by rw [<-eG];exact ai,t⟩,(M.block _ (lT H) (by omega)).trans H,L,by omega⟩
    rw [zH,ay.look _ (λu=>(by cases u)) ax (by omega)])
  rw [aN] at this;exact this
 have aQ:Hid (∀A B a1 r aj pre Q,Wv p g bd S T D C m ps (w.heap.size+1) w.heap.size r pre Q A->Kept a1 A B->(∀k,a1 k->k=p.heap.size\/k=p.heap.size+1)->aj=r->Wv p g bd S T D C m ps (w.heap.size+1) w.heap.size aj pre Q B):=by
  rintro A B a1 r aj pre Q d f aB rfl;obtain⟨n,s,v,y,o,t,x⟩:=d.st;have al:∀b,b<p.heap.size->¬a1 b:=λb aF u=>by have:=aB b u;omega
  refine⟨⟨n,s,v,y,o.kept f (λj l=>al j (by have:=aq.out j l;omega)) (λj l u=>?_),t,x⟩,(f.block _ (lT d.box) (al _ (by omega))).trans d.box,(f.block _ (lT d.cbx) (al _ (by omega))).trans d.cbx,d.pfx,d.kept.trans f (λi d=>.inl (.inr (.inr (by have:=aB i d;omega)))),d.rr⟩;rcases t j l with h|h;.exact al j (by have:=F.out j h;omega) u
  .have:=aB j u;omega
 refine vx (α:=BP) (gf:= 124) (lb:=#[.pointer (some ⟨w.heap.size+1+1,0,none⟩),.pointer (some ⟨w.heap.size+1,0,none⟩)]) rfl (enters_of Tryz.func124 (by kernel_rfl) rfl) au.out
  (λk f=>by rw [f];omega) (λ_=>rfl)
  (Wv p g bd S T D C m ps (w.heap.size+1) w.heap.size) (λc r pre A=>False)
  (λr pre Q A h=>by
   obtain⟨n,s,v,y,o,t,x⟩:=h.st
   exact⟨⟨⟨n,s,v,y,o,t⟩,h.box,h.pfx,h.rr⟩,λk f=>by
    have aW:=(x k).1 f;have E:=o.chg.lt k aW.1
    omega⟩)
  (λr aj pre Q A B h bg f d=>by
   obtain⟨n,s,v,y,o,t,x⟩:=h.st;obtain⟨⟨V,af,H,L,ad,b4⟩,a8,ba,a4⟩:=d;have bi:∀b,b≠bd->b<A.heap.size->B.heap[b]? =A.heap[b]? :=λb aF a5=>f.block b a5 aF
   exact⟨⟨V,s,H,L,⟨ad.disk,o.chg.kept f (λj l av=>o.apart bd o.disk.bdS (by rw [<-show j=bd from av];exact l)),o.apart⟩,t,x⟩,a8,(bi _ (by omega) (lT h.cbx)).trans h.cbx,ba,h.kept.trans f (λi d=>.inl (.inl d)),a4⟩)
  (λr pre Q A B h f=>aQ A B _ r r pre Q h f (λk f=>f) rfl)
  (λc r pre A B h f=>h)
  ⟨⟨0,T,eD _,by simp,by rw [Int.add_zero];exact bj.kept0 X,λj l=>.inl l,λk=>⟨λh=>h.elim,λh=>by have:=F.out k h.1;omega⟩⟩,aa,az,List.nil_prefix,Kept.refl _ _,eD _⟩
  (λz aK A=>aK={tmps:=#[.pointer (some ⟨g,0,none⟩),.int .i64 (first:Int),.pointer (some ⟨w.heap.size,0,none⟩),undef,.int .i64 (z.p.at_:Int),.pointer (some ⟨g,0,none⟩),.iface 142 (.pointer (some ⟨g,0,none⟩)),.int .i64 (first:Int),.func (.func 124) #[] #[.pointer (some ⟨w.heap.size+1+1,0,none⟩),.pointer (some ⟨w.heap.size+1,0,none⟩)],.int .i64 (z.p.at_:Int),.slice (some ⟨z.g,4,none⟩) z.p.l.length 124,undef,undef,undef],defers:=[] })
  (λz a A B h f=>h)
  (λr pre z A B h f=>⟨⟨h.1.pre,by obtain⟨a6,bf⟩:=h.1.pg;exact⟨a6,bf.kept f (by have:=h.1.ge;omega)⟩,h.1.ge⟩,h.2⟩) ?assign ?body ?done ?stop
 case assign=>
  intro aZ r pre z Q A bs d K aM ak;dsimp only [VU];gi_wp2;exact ak _ _ (Kept.refl _ _) d K rfl
 case body=>
  rintro aZ r pre z Q aK A d K rfl aM;obtain⟨n,s,v,y,o,t,x⟩:=d.st;have N:Hid _:=d;have aG:Hid _:=K.1.pre;obtain⟨aA,ay,aY⟩:=Jj ac G d.pfx;have aU:=G.out z.p (K.1.pre.subset (by simp));have aE:pre.length+1<=3:=by have:=K.1.pre.length_le;simp at this;omega
  have I:Hid _:=t;have ao:Hid _:=x
  have aV:Hid (Calls Tryz.prog 143 #[.pointer (some ⟨g,0,none⟩),.int .i64 (z.p.at_:Int)] A λe w'=>e=.returned (.tuple #[])/\(∃(V:Int) (R:Nat->Prop),0<=V/\V<=1/\Cw w' g bd S R {D with reads:=D.reads+n+V} (xd (YJ (pre++[z])) (C,m)).1/\∀k,R k->s k\/A.heap.size<=k)/\Kept (λk=>k=bd\/s k) A w'):=by
   have:=fL A g bd S s {D with reads:=D.reads+n} _ o (xd (YJ pre) (C,m)).2 (by rw [zH];exact aA.map) (by show 0<=D.reads+n;omega) (by show D.reads+n<=_;omega) (by omega) (z.p.at_-21) (by omega);rw [show ((z.p.at_-21:Nat):Int)+21=(z.p.at_:Int) from by omega] at this;have P:YJ (pre++[z])=YJ pre++[z.p.at_]:=by simp [YJ]
   show Calls _ _ _ _ _;rw [P,Zy];exact this
  have br:A.cell? ⟨w.heap.size,0,none⟩=some (.pointer (some ⟨g,0,none⟩)):=cR d.cbx rfl;clear o t x aA ay aY d K;gi_wp2_with fail;refine⟨eR,rfl,?_⟩;refine((yK aZ).calls aV).mono ?_;rintro e be ⟨rfl,⟨aC,af,bc,a3,ai,M⟩,O⟩;change Hid _ at ai M O;gi_wp2;have aI:∀j,af j->T j\/p.heap.size+2<=j:=λj l=>(M j l).elim (I j) (λh=>.inr (by omega))
  have aJ:∀b,w.heap.size<=b->b<p.heap.size->¬(b=bd\/s b):=λb aW E u=>by
   rcases u with h|h;.omega
   .rcases I b h with h|h;.have:=F.out b h;omega
    .omega
  refine⟨O.mono (λj l=>?_),λk=>af k/\p.heap.size+2<=k,⟨⟨n+aC,af,by omega,by rw [ah,iG];omega,by rw [<-eG];exact ai,aI,λk=>Iff.rfl⟩,(O.block _ (lT N.box) (aJ _ (by omega) (by omega))).trans N.box,(O.block _ (lT N.cbx) (aJ _ (by omega) (by omega))).trans N.cbx,by rw [eh];exact aG,N.kept.trans O (λj l=>.inl ?_),N.rr⟩,λk f=>?_⟩
  .rcases l with h|h;.exact .inl (by omega)
   .rcases I j h with E|E;.exact .inl (by have:=F.out j E;omega)
    .exact .inr ((ao j).2 ⟨h,E⟩)
  .rcases l with h|h;.exact .inl h
   .rcases I j h with E|E;.exact .inr (.inl E)
    .exact .inr (.inr (by omega))
  .rcases M k f.1 with h|h;.exact .inl ((ao k).2 ⟨h,f.2⟩)
   .exact .inr h
 case done=>
  rintro a7 r am Q A an d rfl ak;obtain⟨n,s,v,y,o,t,x⟩:=d.st;have P:YJ am=ps.map zv.at_:=by rw [<-an.1,lB];rfl
  have bp:am.length=ps.length:=by rw [<-an.1];simp
  have bg:=an.2;rw [P,J.out] at o;have aS:Kept (λk=>k=p.heap.size) A (A.putObj p.heap.size (.deferred none)):=Kept.putObj _ _ _ rfl;have aT:=d.kept;show Xt _ _ _ .ret _ _
  refine j8 rfl ak (results_none rfl _ _ _) ⟨rfl,⟨n,s,v,by omega,o.kept aS (λj l av=>by have:=aq.out j l;omega) (λj l av=>by
   rcases t j l with h|h;.have:=F.out j h;omega
   .omega),λj l=>(t j l).imp id (λh=>by omega)⟩,?_⟩
  exact((X.mono (S':=λj=>j=bd\/T j) fE).trans aT (λj l=>by
   rcases l with h|h|h;.exact .inl (.inl h)
   .exact .inl (.inr h)
   .exact .inr (by omega))).trans aS (λj l=>.inr (by omega))
 case stop=>
  rintro a7 c r pre A an d rfl ak;exact d.elim
end prog
end Go.Proofs.YtcoengihaobddaaGreatDoor
