/- Part 30 of 36 of a proof: Rem9, Lst1, Lst2 -/
import Derived.Test.YtcoengihaobddaaGreatDoorJc29
set_option maxHeartbeats 8000000
set_option linter.unusedVariables false
set_option linter.unusedSimpArgs false
set_option maxRecDepth 8000
namespace Go.Proofs.YtcoengihaobddaaGreatDoor
namespace prog
open Go.RowKit disk ref
structure Dg {h:Nat} (D:Dk) (t:Tr h) (p:Pl) (C C':Ck) (m m':List UInt8) (e:En) (s:Bool) (pb fb:List Nat):Prop where
 cln:b8 D C' m'
 shr:gi D C C' m m' pb fb
 sub:∀j∈pb,j∈t.blocks
 own:s=true->t.blk∈pb
 pl:pb.length<=2*h+1
 few:C'.ws.length<=C.ws.length+4*(h+1)
 mem:e∈t.ents
 at_:e.pl=p
 tree:∃t',bC t p t'/\t'.LayV zm (λj=>C'.look D (j:Nat))/\(t'.blocks++fb).Perm t.blocks/\(s=false->t'.items.length=t.items.length\/3<=t'.items.length)
theorem bE:∀{h:Nat} (t:Tr h),zO h=4->∀e∈t.items,e.mark=false/\e.size=0
 |0,_,hk,_,_=>by simp [zO] at hk
 |_+1,t,_,e,he=>by obtain⟨c,_,rfl⟩:=au.1 he;exact⟨rfl,rfl⟩
theorem Z3:∀h:Nat,zO h=4\/zO h=5
 |0=>.inr rfl
 |_+1=>.inl rfl
theorem gh.below{f bd:Nat}{S T:Nat->Prop}{D:Dk}{C:Ck}{h c:Nat}{p:Pl}{v:List Value}{s e:Bool}{d:Ck}(k:gh f bd S T D C h c p v s e d)(r:Int)(l:0<=r)(m:r+(4*(h+1):Nat)<=4611686018427370000):
 Uk f bd S T {D with reads:=r} C c p (4*h+1) v s e d:=
 ⟨λg i a b j=>k.go g (r+i) (by omega) (by omega) j⟩
theorem YD:∀{h:Nat} (t:Tr h),t.blocks=t.blk::t.blocks.tail
 |0,_=>rfl
 |_+1,_=>rfl
theorem KM{h:Nat}{u v:Tr h}(b:(u.blocks++v.blocks).Nodup):(u.join v).blk∉(u.join v).blocks.tail:=by
 have a:=(aN.1 ((vm u v).nodup_iff.2 b)).1;rw [YD,iM] at a;exact a.1
theorem YE(V bd:Nat)(S T:Nat->Prop)(D:Dk)(p:Pl):∀(h:Nat) (t:Tr h) (C:Ck) (m:List UInt8),h<=100->t.Good->(0<h->2<=t.items.length)->t.items.length<=6->yO t.ents->t.blocks.Nodup->
 (∀j∈t.blocks,21<=j/\j<1000)->t.LayV zm (λj=>C.look D (j:Nat))->b8 D C m->C.ws.length+4*(h+1)<700->
 (∃e co cL s W Y,Dg D t p C co m cL e s W Y/\gh V bd S T D C h t.blk p (qt e) s true co)\/((∀U∈t.ents,U.pl≠p)/\gh V bd S T D C h t.blk p qz false false C)
 |0,(b,es),C,m,_,g,_,a0,hs,hnd,hrg,hl,hc,hfew=>by
  have ab:=a0;have aa:yO es:=hs;have bV:=hl;by_cases o:∃ac:zt es p<es.length,es[zt es p].pl=p
  .obtain⟨ac,aI⟩:=o;have cx:=hrg b (az.2 rfl);have bL:=aa.erase p ac aI;have bg:(qT p es).length=es.length-1:=by rw [<-bL,iC ac]
   refine .inl ⟨es[zt es p],C.put b (zm (zc 5 (qT p es))),m,decide ((qT p es).length<3),[b],[],⟨hc.put (by omega) _,gi.put D C m b _,λj a=>a,λ_=>az.2 rfl,by simp,by have:=qy C b (zm (zc 5 (qT p es)));omega,ai ac,aI,(b,qT p es),KJ g aa ab ac aI,qn _ _ _ _,by rw [aM];exact eR _,λh=>.inr (by show 3<=(qT p es).length;simpa using h)⟩,⟨λw r J x G=>?_⟩⟩;refine(Yy w V bd S T {D with reads:=r} C G J (by show r<=_;omega) b g.1 es g.2 ab aa (by rw [zF];exact bV) p (zt es p) rfl ac aI (by omega) (qT p es) bL (decide ((qT p es).length<3)) (decide_eq_decide.2 (by omega))).mono ?_;rintro U w' ⟨x,⟨n,ay,h2,ap,b0,cC⟩,a0⟩;exact⟨x,⟨n,ay,h2,by simpa using ap,b0,cC⟩,a0⟩
  .refine .inr ⟨(aa.find p).2 (λac aI=>o ⟨ac,aI⟩),⟨λw r J x G=>?_⟩⟩;refine(Yx w V bd S T {D with reads:=r} C G J (by show r<=_;omega) b g.1 es g.2 ab aa (by rw [zF];exact bV) p (λac aI=>o ⟨ac,aI⟩)).mono ?_;rintro U w' ⟨x,⟨n,h2,ap,b0⟩,a0⟩;exact⟨x,⟨n,T,h2,by simpa using ap,b0,λ_ h=>.inl h⟩,a0.mono iL⟩
 |h+1,(b,cs),C,m,hh,g,h2,a0,hs,hnd,hrg,hl,hc,hfew=>by
  have bn:=aD (h2 (by omega)) (eE (zx b cs));have ab:=aD (eE (zx b cs).symm) a0;have bm:Kids cs:=g.kids;obtain⟨A,q,tc,B,rfl,cE,aH,bk⟩:=bm.child (λf=>by rw [f] at bn;simp at bn) p;have F:(q,tc)∈A++(q,tc)::B:=by simp
  have bG:=bm.good (q,tc) F;have Z:=g.full
  have b2:(b::(zE A++(tc.blocks++zE B))).Nodup:=by have:(b::zE (A++(q,tc)::B)).Nodup:=hnd;rw [qo,qB] at this;exact this
  obtain⟨cF,cj,cH,c0,cB,c1,cz,cJ⟩:=gT b2
  have aq:∀j,j=b\/j∈zE (A++(q,tc)::B)->21<=j/\j<1000:=λj a=>hrg j (by
   show j∈b::zE (A++(q,tc)::B)
   exact ar.2 a)
  have aF:yO (zJ (A++(q,tc)::B)):=hs;have aa:yO (zJ A++(tc.ents++zJ B)):=by rw [zA,zr] at aF;exact aF
  have b9:=(aX.1 (aX.1 aa).2.1).1;have aE:C.look D b=zm (zc 4 ((A++(q,tc)::B).map jS)):=hl.1;have bQ:=hl.2;have cx:=aq b (.inl rfl);have ax:=bm.items_srt;have aj:=g.items_ok
  have ao:∀U∈(A++(q,tc)::B).map jS,U.mark=false/\U.size=0:=λU o=>by obtain⟨c,_,rfl⟩:=au.1 o;exact⟨rfl,rfl⟩
  have bg:((A++(q,tc)::B).map jS).length=(A++(q,tc)::B).length:=by simp
  have ba:A.length<((A++(q,tc)::B).map jS).length:=by rw [bg];simp
  have a8:((A++(q,tc)::B).map jS)[A.length].at_=tc.blk:=by simp [jS]
  have a9:=cE.symm
  have N:∀(aw:Ck),(∀j:Nat,j∉tc.blocks->j≠b->j≠2->aw.look D j=C.look D j)->∀c,c∈A\/c∈B->c.2.LayV zm (λj=>aw.look D (j:Nat)):=λaw cp c k=>by
   have aA:c∈A++(q,tc)::B:=by rcases k with h|h<;>simp [h]
   refine(bQ c aA).congr (λj a=>?_);have ae:=aq j (.inr (zV aA a));rcases k with R|y;.exact cp j (cz j (zV R a)) (λf=>cF (f▸zV R a)) (by omega)
   .exact cp j (cJ j (zV y a)) (λf=>cH (f▸zV y a)) (by omega)
  rcases YE V bd S T D p h tc C m (by omega) bG.1 (λ_=>by have:=Z (q,tc) F;simp only at this;omega) bG.2.1 b9 cB (λj a=>aq j (.inr (zV F a))) (bQ (q,tc) F) hc (by omega) with⟨e,d,M,s,W,Y,K,b3⟩|⟨cc,b3⟩
  .obtain⟨tc',L,bt,Q,bx⟩:=K.tree;have bS:∀j∈Y,j∈tc.blocks:=λj a=>Q.mem_iff.1 (av _ a);have cQ:∀j∈tc'.blocks,j∈tc.blocks:=λj a=>Q.mem_iff.1 (af _ a);have bi:=vC F K.mem;have ct:d.look D b=C.look D b:=K.shr.look b (λa=>cj (K.sub b a)) (λa=>cj (bS b a)) (by omega);have aK:∀j:Nat,j∉tc.blocks->j≠b->j≠2->d.look D j=C.look D j:=λj x h2 ap=>K.shr.look j (λa=>x (K.sub j a)) (λa=>x (bS j a)) ap
   cases bo:s with
   |false=>
    rw [bo] at b3 K;have bf:=Z (q,tc) F;simp only at bf;have ap:3<=tc'.items.length:=by rcases bx bo with h|h<;>omega
    refine .inl ⟨e,d,M,false,W,Y,⟨K.cln,K.shr,λj a=>am _ (zV F (K.sub j a)),λh=>(by cases h),by have:=K.pl;omega,by have:=K.few;omega,bi,K.at_,(b,A++(q,tc')::B),YA g ab aH bk L ap,⟨?_,λc k=>?_⟩,jM Q,?_⟩,⟨λw r J x G=>?_⟩⟩
    .show d.look D b=zm (zc 4 ((A++(q,tc')::B).map jS));rw [ct,aE];congr 2;simp [jS,L.blk]
    .have k:=k;rcases ah.1 k with R|y;.exact N d aK c (.inl R)
     .rcases ar.1 y with rfl|y;.exact bt
      .exact N d aK c (.inr y)
    .exact λ_=>.inl (by rw [zx,zx];simp)
    .have E:=b3.below r J (by omega);rw [<-a8] at E;refine(vM w V bd S T {D with reads:=r} C G J (by show r<=_;omega) b g.1 _ aj ao (by omega) ax (by rw [zF];exact aE) p (4*h+1) (by omega) _ ⟨_,_,_,_,_,rfl⟩ false true d A.length a9 ba E false true d (.inl ⟨rfl,rfl,rfl,rfl⟩)).mono ?_;rintro U w' ⟨k1,⟨n,ay,k2,k3,aW,aT⟩,aZ⟩;exact⟨k1,⟨n,ay,k2,by omega,aW,aT⟩,aZ⟩
   |true=>
    rw [bo] at b3 K;have br:=K.own rfl;obtain⟨X,aB,O,an,u,v,P⟩:=U9 A B q tc' (by simpa using bn);have ce:=XY L.blk P;obtain⟨bc,cK⟩:=vN bm aH bk L;have bF:=jM (b:=b) (A:=A) (B:=B) (q:=q) Q
    have bl:(b::zE (X++(O,u)::(an,v)::aB)).Nodup:=by have:=(aN.1 (bF.nodup_iff.2 hnd)).1;have x:=this;rw [P.eq] at x;exact x
    have bp:∀j,j∈zE (X++(O,u)::(an,v)::aB)->j∈zE (A++(q,tc)::B):=λj a=>by
     have x:j∈Tr.blocks (h:=h+1) (b,A++(q,tc')::B)++Y:=af _ (am _ (by rw [P.eq];exact a));have h2:=bF.mem_iff.1 x;rcases ar.1 h2 with rfl|h2;.exact absurd a (iM.1 bl).1
     .exact h2
    have bz:zE (X++(O,u)::(an,v)::aB)=zE X++((u.blocks++v.blocks)++zE aB):=by rw [qo,qB,qB,ak]
    have bh:=bl;rw [bz] at bh;obtain⟨cg,bw,b7,c2,bu,cZ,cl,cq⟩:=gT bh
    have a4:∀j,j∈zE X\/j∈u.blocks++v.blocks\/j∈zE aB->21<=j/\j<1000:=λj a=>aq j (.inr (bp j (by
     rw [bz,ah,ah (s:=u.blocks++v.blocks)];exact a)))
    rw [P.eq] at bc;have aO:=bc.good (O,u) (by simp);have aS:=bc.good (an,v) (by simp);have a3:u.blk∈u.blocks++v.blocks:=af _ u.blk_mem;have a7:v.blk∈u.blocks++v.blocks:=av _ v.blk_mem;have ci:u.blk≠v.blk:=λf=>(aN.1 bu).2.2 _ u.blk_mem _ v.blk_mem f;have cU:=a4 _ (.inr (.inl a3));have cR:=a4 _ (.inr (.inl a7));have cn:u.blk≠b:=λf=>bw (f▸a3);have cS:v.blk≠b:=λf=>bw (f▸a7);have a6:∀c,c∈X\/c∈aB->c.2.LayV zm (λj=>d.look D (j:Nat)):=λc k=>N d aK c (P.out c k)
    have bv:u.LayV zm (λj=>d.look D (j:Nat))/\v.LayV zm (λj=>d.look D (j:Nat))/\(u.blk∈W\/v.blk∈W)/\u.blk∈zE (A++(q,tc)::B)/\v.blk∈zE (A++(q,tc)::B):=by
     have bT:=bp u.blk (by rw [bz];simp [u.blk_mem]);have bK:=bp v.blk (by rw [bz];simp [v.blk_mem]);rcases P.two with⟨bj,aJ⟩|⟨bj,aJ⟩
     .simp only [eS] at aJ;obtain⟨rfl,rfl⟩:=aJ;exact⟨N d aK (O,u) (.inl bj),bt,.inr (by rw [L.blk];exact br),bT,bK⟩
     .simp only [eS] at aJ;obtain⟨rfl,rfl⟩:=aJ;exact⟨bt,N d aK (an,v) (.inr bj),.inl (by rw [L.blk];exact br),bT,bK⟩
    obtain⟨aY,aQ,bY,bU,hmv⟩:=bv;have cw:=K.few;have bC:=P.at_;have bJ:b≠2:=by omega
    obtain⟨a2,cA,cI,cr,cm⟩:=Gb (z:=⟨((u.items++v.items).getD ((u.items++v.items).length/2) gQ).pl,false,0,v.blk⟩) (r:=X.length+1) (by simp) _ ce;have bW:=cA (by omega);have be:=cI a2
    have bH:1<=v.items.length:=by
     rcases P.two with⟨_,aJ⟩|⟨bj,_⟩
     .have bf:=Z (q,tc) F;have cP:=L.lo;simp only [eS] at aJ bf;rw [aJ.2];omega
     .have:=Z (an,v) (by simp [bj]);simp only at this;omega
    have a1:v.blk-21+21=v.blk:=by omega
    have bR:=aY.node;have bO:d.look D ((v.blk-21+21:Nat):Int)=zm (zc (zO h) v.items):=by rw [a1];exact aQ.node
    have ae:=Uo u v;have a5:=xR u v;by_cases aR:(u.items++v.items).length<=6
    .have cu:=Yw V bd S D d M K.cln.map ((A++(q,tc)::B).map jS) (by omega) A.length (X.length+1) bC a2 u.blk (v.blk-21) (by rw [bW];rfl) (by rw [be,a1];rfl) aO.1.blk (by omega) (by omega) (zO h) (Z3 h) u.items v.items aO.1.items_ok aS.1.items_ok (bE u) (bE v) aO.2.1 aS.2.1 bH bR bO (by omega) _ _ (.inl ⟨aR,rfl,rfl⟩);have aL:=((K.shr.trans (gi.put D d M u.blk (zm (zc (zO h) (u.items++v.items))))).trans (gi.free (K.cln.put (i:=u.blk) (by omega) _) (i:=v.blk-21) (by omega))).trans (gi.put D _ _ b (zm (zc 4 (((A++(q,tc)::B).map jS).eraseIdx (X.length+1)))));rw [show W++[u.blk]++[]++[b]=W++[u.blk,b] from by simp,show Y++[]++[v.blk-21+21]++[]=Y++[v.blk] from by simp;omega] at aL;have aP:=((K.cln.put (i:=u.blk) (by omega) (zm (zc (zO h) (u.items++v.items)))).free (v.blk-21)).put bJ (zm (zc 4 (((A++(q,tc)::B).map jS).eraseIdx (X.length+1))));have c3:=qy d u.blk (zm (zc (zO h) (u.items++v.items)));have cY:=bD (d.put u.blk (zm (zc (zO h) (u.items++v.items)))) M (v.blk-21);have cX:=qy ((d.put u.blk (zm (zc (zO h) (u.items++v.items)))).free M (v.blk-21)) b (zm (zc 4 (((A++(q,tc)::B).map jS).eraseIdx (X.length+1))))
     have bb:∀j:Nat,j≠b->j≠2->j≠v.blk->(((d.put u.blk (zm (zc (zO h) (u.items++v.items)))).free M (v.blk-21)).put b (zm (zc 4 (((A++(q,tc)::B).map jS).eraseIdx (X.length+1))))).look D (j:Nat)=(d.put u.blk (zm (zc (zO h) (u.items++v.items)))).look D (j:Nat):=λj x h2 ap=>by rw [z9 _ _ _ _ _ (by omega),fg _ _ _ _ _ h2 (by omega)]
     have lb:(((d.put u.blk (zm (zc (zO h) (u.items++v.items)))).free M (v.blk-21)).put b (zm (zc 4 (((A++(q,tc)::B).map jS).eraseIdx (X.length+1))))).look D (b:Nat)=zm (zc 4 (((A++(q,tc)::B).map jS).eraseIdx (X.length+1))):=qn _ _ _ _;have bA:∀j:Nat,j≠u.blk->(d.put u.blk (zm (zc (zO h) (u.items++v.items)))).look D (j:Nat)=d.look D (j:Nat):=λj x=>z9 _ _ _ _ _ (by omega);have ca:(d.put u.blk (zm (zc (zO h) (u.items++v.items)))).look D (u.blk:Nat)=zm (zc (zO h) (u.items++v.items)):=qn _ _ _ _;have cT:(((A++(q,tc)::B).map jS).eraseIdx (X.length+1)).length=(X++(O,u.join v)::aB).length:=by rw [cr];simp
     have ch:((A++(q,tc)::B).map jS).eraseIdx (X.length+1)=(X++(O,u.join v)::aB).map jS:=by rw [cr];simp [jS,ae]
     have bq:(((A++(q,tc)::B).map jS).eraseIdx (X.length+1)).length<=6:=by rw [iC a2];omega
     have aU:∀U∈((A++(q,tc)::B).map jS).eraseIdx (X.length+1),U.Ok:=λU o=>aj U (List.mem_of_mem_eraseIdx o);generalize ((A++(q,tc)::B).map jS).eraseIdx (X.length+1)=l at*;generalize cd:(d.put u.blk (zm (zc (zO h) (u.items++v.items)))).free M (v.blk-21)=aw at*;generalize bs:aw.put b (zm (zc 4 l))=I at*;refine .inl ⟨e,I,jR M (v.blk-21),decide (l.length<3),W++[u.blk,b],Y++[v.blk],⟨aP,aL,λj a=>?_,λ_=>by simp [Tr.blk],by have:=K.pl;simp;omega,by omega,bi,K.at_,(b,X++(O,u.join v)::aB),Us g ab aF aH bk L P aR,⟨?_,λc k=>?_⟩,dc Q P,λbZ=>.inr ?_⟩,⟨λw r J x G=>?_⟩⟩
     .show j∈b::zE (A++(q,tc)::B);rcases ah.1 a with a|a;.exact am _ (zV F (K.sub j a))
      .simp only [ar,ic,or_false] at a;rcases a with rfl|rfl;.exact am _ bU
       .exact al ..
     .show I.look D (b:Nat)=zm (zc 4 ((X++(O,u.join v)::aB).map jS));rw [lb,ch]
     .have k:=k
      have aG:∀c,c∈X\/c∈aB->c.2.LayV zm (λj=>I.look D (j:Nat)):=λc k=>(a6 c k).congr (λj a=>by
       have ad:j∈zE X\/j∈zE aB:=k.imp (λh=>zV h a) (λh=>zV h a);have aC:j∉u.blocks++v.blocks:=ad.elim (cl j) (cq j);have cb:=a4 j (ad.imp id .inr);have aV:j≠b:=λf=>ad.elim (λh=>cg (f▸h)) (λh=>b7 (f▸h));show I.look D (j:Nat)=d.look D (j:Nat)
       rw [bb j aV (by omega) (λf=>aC (f▸a7)),bA j (λf=>aC (f▸a3))])
      rcases ah.1 k with R|y;.exact aG c (.inl R)
      .rcases ar.1 y with rfl|y
       .refine YC aY aQ bu ?_ (λj a x h2=>?_)
        .show I.look D (u.blk:Nat)=_;rw [bb u.blk cn (by omega) ci,ca]
        .have cb:=a4 j (.inr (.inl a));show I.look D (j:Nat)=d.look D (j:Nat);rw [bb j (λf=>bw (f▸a)) (by omega) h2,bA j x]
       .exact aG c (.inr y)
     .rw [zx];have:¬l.length<3:=by simpa using bZ
      omega
     .have E:=b3.below r J (by omega);rw [<-a8] at E;refine(vM w V bd S T {D with reads:=r} C G J (by show r<=_;omega) b g.1 _ aj ao (by omega) ax (by rw [zF];exact aE) p (4*h+1) (by omega) _ ⟨_,_,_,_,_,rfl⟩ true true d A.length a9 ba E (decide (l.length<3)) true I (.inr ⟨rfl,rfl,l,aw,cu.reads r,aU,bq,by omega,decide_eq_decide.2 (by omega),bs.symm⟩)).mono ?_;rintro U w' ⟨k1,⟨n,ay,k2,k3,aW,aT⟩,aZ⟩;exact⟨k1,⟨n,ay,k2,by omega,aW,aT⟩,aZ⟩
    .have b4:(u.items++v.items).length<=12:=by rw [ag];have:=aO.2.1;have:=aS.2.1;simp only at *; omega
     have cu:Zl V bd S D d ((A++(q,tc)::B).map jS) A.length (((A++(q,tc)::B).map jS).set (X.length+1) ⟨((u.items++v.items).getD ((u.items++v.items).length/2) gQ).pl,false,0,v.blk⟩) ((d.put u.blk (zm (zc (zO h) ((u.items++v.items).take ((u.items++v.items).length/2))))).put v.blk (zm (zc (zO h) ((u.items++v.items).drop ((u.items++v.items).length/2))))):=
      Yw V bd S D d M K.cln.map ((A++(q,tc)::B).map jS) (by omega) A.length (X.length+1) bC a2 u.blk (v.blk-21) (by rw [bW];rfl) (by rw [be,a1];rfl) aO.1.blk (by omega) (by omega) (zO h) (Z3 h) u.items v.items aO.1.items_ok aS.1.items_ok (bE u) (bE v) aO.2.1 aS.2.1 bH bR bO (by omega) _ _ (.inr ⟨by omega,by rw [be];rfl,by rw [a1]⟩)
     rw [<-a5] at cu cm
     have ck:=(Ur (m:=(u.join v).items.length/2) (b:=v.blk) gQ (Zn aO.1 aS.1 (p:=an) (by
      have k2:Kids ((X++[(O,u)])++(an,v)::aB):=by rw [ak];exact bc
      exact k2.mid.2.2.2.2.1) (λU o=>by
      have k2:Kids ((X++[(O,u)])++(an,v)::aB):=by rw [ak];exact bc
      exact k2.mid.2.2.1 U (by rw [zA,zr];simp [o]))) (by
      have bB:yO (zJ (A++(q,tc')::B)):=by rw [cK];exact aF.del
      rw [P.eq] at bB
      exact(bc.pair bB).2.2.1) (by rw [a5];omega)).2.1
     obtain⟨bX,cy,bN,bI⟩:∃bX,(bX=u.blk\/bX=v.blk)/\(u.blk∈W\/u.blk=bX)/\(v.blk∈W\/v.blk=bX):=by
      rcases bY with h|h;.exact⟨v.blk,.inr rfl,.inl h,.inr rfl⟩
      .exact⟨u.blk,.inl rfl,.inr rfl,.inl h⟩
     have aL:=((K.shr.trans (gi.put D d M u.blk (zm (zc (zO h) ((u.join v).items.take ((u.join v).items.length/2)))))).trans (gi.put D _ M v.blk (zm (zc (zO h) ((u.join v).items.drop ((u.join v).items.length/2)))))).trans (gi.put D _ _ b (zm (zc 4 (((A++(q,tc)::B).map jS).set (X.length+1) ⟨((u.join v).items.getD ((u.join v).items.length/2) gQ).pl,false,0,v.blk⟩))));rw [show Y++[]++[]++[]=Y from by simp] at aL;have aP:=((K.cln.put (i:=u.blk) (by omega) (zm (zc (zO h) ((u.join v).items.take ((u.join v).items.length/2))))).put (i:=v.blk) (by omega) (zm (zc (zO h) ((u.join v).items.drop ((u.join v).items.length/2))))).put bJ (zm (zc 4 (((A++(q,tc)::B).map jS).set (X.length+1) ⟨((u.join v).items.getD ((u.join v).items.length/2) gQ).pl,false,0,v.blk⟩)));have cf:=Ut g ab aF aH bk L P (by omega) gQ ((u.items++v.items).length/2) rfl;rw [<-a5] at cf aR b4
     have aU:∀U∈((A++(q,tc)::B).map jS).set (X.length+1) ⟨((u.join v).items.getD ((u.join v).items.length/2) gQ).pl,false,0,v.blk⟩,U.Ok:=λU o=>by
      rcases il o with o|rfl;.exact aj U o
      .exact ck.en aS.1.blk
     have bq:(((A++(q,tc)::B).map jS).set (X.length+1) ⟨((u.join v).items.getD ((u.join v).items.length/2) gQ).pl,false,0,v.blk⟩).length<=6:=by rw [ew];omega
     have bP:((A++(q,tc)::B).map jS).set (X.length+1) ⟨((u.join v).items.getD ((u.join v).items.length/2) gQ).pl,false,0,v.blk⟩=(X++(O,(u.join v).cutL ((u.join v).items.length/2))::(((u.join v).items.getD ((u.join v).items.length/2) gQ).pl,(u.join v).cutR ((u.join v).items.length/2) v.blk)::aB).map jS:=by rw [cm];simp [jS,(JD ((u.join v).items.length/2) v.blk (u.join v)).1,(JD ((u.join v).items.length/2) v.blk (u.join v)).2,ae]
     have b5:=dd (b:=b) (q':=((u.join v).items.getD ((u.join v).items.length/2) gQ).pl) ((u.join v).items.length/2) Q P;have cW:=qy d u.blk (zm (zc (zO h) ((u.join v).items.take ((u.join v).items.length/2))));have cV:=qy (d.put u.blk (zm (zc (zO h) ((u.join v).items.take ((u.join v).items.length/2))))) v.blk (zm (zc (zO h) ((u.join v).items.drop ((u.join v).items.length/2))));have hcut:=λ(rd:Nat->List Value)=>Ga (pg:=zm) (rd:=rd) ((u.join v).items.length/2) v.blk (u:=u.join v);generalize (u.join v).items.length/2=H at*;generalize ((u.join v).items.getD H gQ).pl=q' at*;generalize ((A++(q,tc)::B).map jS).set (X.length+1) ⟨q',false,0,v.blk⟩=l at*;have lb:(((d.put u.blk (zm (zc (zO h) ((u.join v).items.take H)))).put v.blk (zm (zc (zO h) ((u.join v).items.drop H)))).put b (zm (zc 4 l))).look D (b:Nat)=zm (zc 4 l):=qn _ _ _ _
     have cG:(((d.put u.blk (zm (zc (zO h) ((u.join v).items.take H)))).put v.blk (zm (zc (zO h) ((u.join v).items.drop H)))).put b (zm (zc 4 l))).look D (v.blk:Nat)=zm (zc (zO h) ((u.join v).items.drop H)):=by rw [z9 _ _ _ _ _ (by omega)];exact qn _ _ _ _
     have bA:(((d.put u.blk (zm (zc (zO h) ((u.join v).items.take H)))).put v.blk (zm (zc (zO h) ((u.join v).items.drop H)))).put b (zm (zc 4 l))).look D (u.blk:Nat)=zm (zc (zO h) ((u.join v).items.take H)):=by rw [z9 _ _ _ _ _ (by omega),z9 _ _ _ _ _ (by omega)];exact qn _ _ _ _
     have bb:∀j:Nat,j≠b->j≠u.blk->j≠v.blk->(((d.put u.blk (zm (zc (zO h) ((u.join v).items.take H)))).put v.blk (zm (zc (zO h) ((u.join v).items.drop H)))).put b (zm (zc 4 l))).look D (j:Nat)=d.look D (j:Nat):=λj x h2 ap=>by rw [z9 _ _ _ _ _ (by omega),z9 _ _ _ _ _ (by omega),z9 _ _ _ _ _ (by omega)]
     have cO:=qy ((d.put u.blk (zm (zc (zO h) ((u.join v).items.take H)))).put v.blk (zm (zc (zO h) ((u.join v).items.drop H)))) b (zm (zc 4 l));have cv:l.length=(X++(O,(u.join v).cutL H)::(q',(u.join v).cutR H v.blk)::aB).length:=by rw [bP];simp
     generalize cd:(d.put u.blk (zm (zc (zO h) ((u.join v).items.take H)))).put v.blk (zm (zc (zO h) ((u.join v).items.drop H)))=aw at*;generalize bs:aw.put b (zm (zc 4 l))=I at*
     have b1:gi D C I m M (W++[bX,b]) Y:=aL.sub (λj a=>.inl (by
      simp only [ah,ar,ic,or_false] at a ⊢;rcases a with((a|a)|a)|a;.exact .inl a
      .rw [a];exact bN.imp id .inl
      .rw [a];exact bI.imp id .inl
      .exact .inr (.inr a))) (λj _ a=>by
      simp only [ah,ar,ic,or_false] at a ⊢;rcases a with((a|a)|a)|a;.exact .inl a
      .rw [a];exact bN.imp id .inl
      .rw [a];exact bI.imp id .inl
      .exact .inr (.inr a))
     refine .inl ⟨e,I,M,decide (l.length<3),W++[bX,b],Y,⟨aP,b1,λj a=>?_,λ_=>by simp [Tr.blk],by have:=K.pl;simp;omega,by omega,bi,K.at_,_,cf,⟨?_,λc k=>?_⟩,b5,λbZ=>.inr ?_⟩,⟨λw r J x G=>?_⟩⟩
     .show j∈b::zE (A++(q,tc)::B);rcases ah.1 a with a|a;.exact am _ (zV F (K.sub j a))
      .simp only [ar,ic,or_false] at a;rcases a with rfl|rfl
       .rcases cy with rfl|rfl;.exact am _ bU
        .exact am _ hmv
       .exact al ..
     .show I.look D (b:Nat)=zm (zc 4 (List.map jS _));rw [lb,bP]
     .have aG:∀c,c∈X\/c∈aB->c.2.LayV zm (λj=>I.look D (j:Nat)):=λc k=>(a6 c k).congr (λj a=>by
       have ad:=k.imp (λh=>zV h a) (λh=>zV h a);have aC:=ad.elim (cl j) (cq j);have aV:j≠b:=λf=>ad.elim (λh=>cg (f▸h)) (λh=>b7 (f▸h));show I.look D (j:Nat)=d.look D (j:Nat)
       exact bb j aV (λf=>aC (f▸a3)) (λf=>aC (f▸a7)))
      obtain⟨cM,cD⟩:=hcut (λj=>I.look D (j:Nat)) (λcN bM b6=>YC aY aQ bu (by rw [ae,a5] at bM;exact bM) (λj a x h2=>by
       rw [b6 j (by rw [ae];exact x)]
       exact bb j (λf=>bw (f▸a)) x h2)) (KM bu) (by rw [ae];exact bA) cG
      have aA:=k;rcases ah.1 aA with R|y;.exact aG c (.inl R)
      .rcases ar.1 y with rfl|y;.exact cM
       .rcases ar.1 y with rfl|y;.exact cD
        .exact aG c (.inr y)
     .rw [zx];have:¬l.length<3:=by simpa using bZ
      omega
     .have E:=b3.below r J (by omega);rw [<-a8] at E;refine(vM w V bd S T {D with reads:=r} C G J (by show r<=_;omega) b g.1 _ aj ao (by omega) ax (by rw [zF];exact aE) p (4*h+1) (by omega) _ ⟨_,_,_,_,_,rfl⟩ true true d A.length a9 ba E (decide (l.length<3)) true I (.inr ⟨rfl,rfl,l,aw,cu.reads r,aU,bq,by omega,decide_eq_decide.2 (by omega),bs.symm⟩)).mono ?_;rintro U w' ⟨k1,⟨n,ay,k2,k3,aW,aT⟩,aZ⟩;exact⟨k1,⟨n,ay,k2,by omega,aW,aT⟩,aZ⟩
  .refine .inr ⟨λU o f=>?_,⟨λw r J x G=>?_⟩⟩
   .have o:U∈zJ (A++(q,tc)::B):=o;obtain⟨u1,u2⟩:=bm.unroute aH bk;rw [zA,zr] at o;rcases ah.1 o with o|o;.exact u1 U o f
    .rcases ah.1 o with o|o;.exact cc U o f
     .exact u2 U o f
   .have E:=b3.below r J (by omega);rw [<-a8] at E;refine(vM w V bd S T {D with reads:=r} C G J (by show r<=_;omega) b g.1 _ aj ao (by omega) ax (by rw [zF];exact aE) p (4*h+1) (by omega) _ ⟨_,_,_,_,_,rfl⟩ false false C A.length a9 ba E false false C (.inl ⟨rfl,rfl,rfl,rfl⟩)).mono ?_;rintro U w' ⟨k1,⟨n,ay,k2,k3,aW,aT⟩,aZ⟩;exact⟨k1,⟨n,ay,k2,by omega,aW,aT⟩,aZ⟩
end prog
namespace prog
open ref
def fi(p k:ByteArray):Bool:=p.data.toList.isPrefixOf k.data.toList
theorem bG:∀(p a b:List UInt8),qC a p=false->qC b a=false->p.isPrefixOf b=true->p.isPrefixOf a=true
 |[],_,_,_,_,_=>rfl
 |_::_,_,[],_,_,h=>by simp at h
 |_::_,[],_::_,h,_,_=>by simp [qC] at h
 |x::p,z::a,y::b,h1,h2,c=>by
  simp only [List.isPrefixOf_cons_cons,aW,mx] at c ⊢;obtain⟨rfl,c⟩:=c;unfold qC at h1 h2;by_cases e:z=x
  .subst e;rw [aB rfl] at h1 h2;exact⟨rfl,bG p a b h1 h2 c⟩
  .rw [aw e] at h1;rw [aw (iw e)] at h2;have d:¬z<x:=iF h1;have f:¬x<z:=iF h2;have g:z.toNat≠x.toNat:=λh=>e (lK.1 h);rw [lB] at d f;omega
theorem kO:∀(p a:List UInt8),p.isPrefixOf a=true->qC a p=false
 |[],[],_=>rfl
 |[],_::_,_=>rfl
 |_::_,[],h=>by simp at h
 |x::p,y::a,h=>by simp only [List.isPrefixOf_cons_cons,aW,mx] at h;obtain⟨rfl,h⟩:=h;unfold qC;rw [aB rfl];exact kO p a h
theorem KN{a b c:ByteArray}(h:qw a b=true)(k:qw c b=false):qw a c=true:=by
 by_cases e:c=b;.rw [e];exact h
 .exact jG h (yT e k)
theorem YF{k:ByteArray}(h:k≠ByteArray.empty):qw ByteArray.empty k=true:=by
 cases a:qw ByteArray.empty k with
 |true=>rfl
 |false=>
  have:=yT (iw h) a;have e:∀l:List UInt8,qC l []=false:=λl=>by cases l<;>rfl
  exact absurd this (by show ¬qC k.data.toList []=true;rw [e];simp)
def jd(p k:ByteArray)(n:Int):Pl:=if qw k p=true then ⟨p,9223372036854775807⟩ else ⟨k,n-1⟩
def YG(p k:ByteArray)(n:Int)(es:List En):List En:=(yS (jd p k n) es).takeWhile λx=>fi p x.pl.key
theorem yO.run{p:ByteArray}:∀{l:List En},yO l->(∀c∈l,qw c.pl.key p=false)->l.takeWhile (λc=>fi p c.pl.key)=l.filter λc=>fi p c.pl.key
 |[],_,_=>rfl
 |a::l,h,hp=>by
  have h2:=aL.1 h
  cases d:fi p a.pl.key with
  |true=>
   have g:=yO.run (p:=p) (l:=l) h2.2 (λc e=>hp c (am _ e));simp only [mi,eX,d,if_true,g]
  |false=>
   simp only [mi,eX,d,lS,if_false];symm;rw [iA];intro b i j;have f:=h2.1 b i
   have k:qw b.pl.key a.pl.key=false:=by
    cases e:qw b.pl.key a.pl.key with
    |false=>rfl
    |true=>
     have:b.pl.lt a.pl=true:=(Pl.lt_iff _ _).2 (.inl e);exact absurd this (Pl.asymm f)
   have:=bG p.data.toList a.pl.key.data.toList b.pl.key.data.toList (hp a (al ..)) k j;rw [show p.data.toList.isPrefixOf a.pl.key.data.toList=fi p a.pl.key from rfl,d] at this;cases this
theorem Z4(b:En)(v:zB)(f:v.key=b.pl.key/\v.num=b.pl.num)(p k:ByteArray)(n:Int)(g:b.pl.key≠ByteArray.empty)(m:b.pl.num<9223372036854775807):qW v p k n=(fi p b.pl.key&& !b.pl.lt (jd p k n)):=by
 unfold qW;rw [f.1,f.2];show (fi p b.pl.key&&_)=_
 cases l:fi p b.pl.key with
 |false=>rfl
 |true=>
  rw [lI,lI];have c:qw b.pl.key p=false:=kO _ _ l;rw [Bool.eq_iff_iff];simp only [iY,aW,aR,iy,i4,ne_eq,Pl.lt_iff];unfold jd;by_cases d:qw k p=true
  .rw [aB d];have j:qw k b.pl.key=true:=KN d c;refine⟨λ_ a=>?_,λ_=>.inl (.inr j)⟩;rcases a with a|⟨_,a⟩;.simp only at a;rw [c] at a;cases a
   .simp only at a;omega
  .rw [aw d];simp only;constructor
   .rintro((h|h)|⟨h,h2⟩) a
    .subst h;rcases a with a|⟨a,_⟩
     .have:=YF g;rw [fq this] at a;cases a
     .exact g a
    .rcases a with a|⟨a,_⟩;.rw [fq h] at a;cases a
     .rw [a,yE] at h;cases h
    .rcases a with a|⟨_,a⟩;.rw [h,yE] at a;cases a
     .omega
   .intro a;by_cases e:b.pl.key=k
    .refine .inr ⟨e,?_⟩;have:¬(n-1<b.pl.num):=λh=>a (.inr ⟨e,h⟩);omega
    .refine .inl (.inr (yT e ?_))
     cases i:qw b.pl.key k with
     |false=>rfl
     |true=>exact absurd (.inl i) a
theorem fN{b:List En}(h:yO b)(f:En->zB)(l:∀a,(f a).key=a.pl.key/\(f a).num=a.pl.num)(p k:ByteArray)(n:Int)(i:∀a∈b,a.pl.key≠ByteArray.empty/\a.pl.num<9223372036854775807):YG p k n b=b.filter λa=>qW (f a) p k n:=by
 have o:yO (yS (jd p k n) b):=i9 _ h;unfold YG;rw [o.run]
 .unfold yS;rw [mp];refine lX (λa c=>?_);rw [Z4 a (f a) (l a) p k n (i a c).1 (i a c).2]
 .intro a c;have h2:=(ei.1 c).2;have m:¬a.pl.lt (jd p k n)=true:=by simpa using h2
  cases g:qw a.pl.key p with
  |false=>rfl
  |true=>
   refine absurd ?_ m;rw [Pl.lt_iff];unfold jd;by_cases d:qw k p=true;.rw [aB d];exact .inl g
   .rw [aw d];simp only;by_cases e:p=k;.rw [<-e];exact .inl g
    .refine .inl (jG g (yT (iw e) ?_))
     cases j:qw k p with
     |false=>rfl
     |true=>exact absurd j d
theorem YH{d:List En}(h:yO d)(f:En->zB)(c:∀e,(f e).key=e.pl.key/\(f e).num=e.pl.num)(vs:List zB)(l:vs.Perm (d.map f))(p k:ByteArray)(n:Int)(j:∀e∈d,e.pl.key≠ByteArray.empty/\e.pl.num<9223372036854775807):yz vs p k n ((YG p k n d).map f) where
 sorted:=by rw [fN h f c p k n j,List.pairwise_map];refine(i9 _ h).imp (λ{a b} i=>?_);rw [zB.ahead_iff,(c a).1,(c b).1,(c a).2,(c b).2];exact(Pl.lt_iff _ _).1 i
 perm:=by rw [fN h f c p k n j];have g:=l.filter (λv=>qW v p k n);rw [List.filter_map] at g;exact g.symm
end prog
namespace prog
open Go.ChangeShapes Go.WideShapes Go.ChangeAt Go.RowKit disk ref
open keys (zh ze zy zs)
attribute [local go_sem] Oper.semAt_some
variable {f:En->Bool}{pre:List En}
theorem bI(w:World)(a b:ByteArray)(d:a.size<=9223372036854775807)(c:b.size<=9223372036854775807):
 Calls Tryz.prog 159 #[.string a,.string b] w λe w'=>e=.returned (.bool (fi b a))/\w'=w:=by
 by_cases h:b.size<=a.size
 .go_enter Tryz.func159,Tryz.ntmps159;go_wp2;go_ret;exact⟨ze (gw a b h),rfl⟩
 .go_enter Tryz.func159,Tryz.ntmps159;go_wp2;go_ret;exact⟨ze (kX a b (by omega)).symm,rfl⟩
theorem cC(w:World)(a b:ByteArray)(f:a.size<=9223372036854775807)(g:b.size<=9223372036854775807):
 Calls Tryz.prog 115 #[.string a,.string b] w λe w'=>e=.returned (.bool (fi b a))/\w'=w:=by
 go_enter Tryz.func115,Tryz.ntmps115;go_wp2_with (go_at_call 159;refine(bI w a b f g).mono ?_;rintro e d ⟨rfl,c⟩;rw [c];clear c d);go_ret;exact⟨rfl,rfl⟩
def veV(x:En):List Value:=[.string x.pl.key,.int .i64 x.pl.num,.bool x.mark,.int .i64 (x.size:Int)]
def vn(l:List En):List Value:=(l.map veV).flatten
theorem XZ(l:List En)(a:En):vn (l++[a])=vn l++veV a:=by simp [vn]
theorem Tryz.infoVersion:(Tryz.prog.info? 94).map (λi=>(i.zero,i.size,i.bytes))=some (some (.agg #[.string ⟨#[]⟩,.int .i64 0,.bool false,.int .i64 0]),4,40):=by kernel_rfl
structure KO (B b9:Nat) (m:Nat) (more:Bool) (L:List En) (A:World) (v:Value):Prop where
 at_:A.heap[b9]? =some (.cells #[v,.bool more] 90 (0,0))
 own:A.ownsRow 0 94 4 v L.length (vn L)
 form:∃a c,v=.slice a L.length c
 ge:∀k,v.ownBlock=some k->B<=k
structure G7 (w1:World) (bd:Nat) (S:Nat->Prop) (D:Dk) (b9:Nat) (f:En->Bool) (most:Nat) (r:Int) (pre:List En) (Q:Nat->Prop) (A:World):Prop where
 pg:∃v,KO (w1.heap.size+2) b9 most false pre A v/\∀k,Q k↔v.ownBlock=some k
 all:∀x∈pre,f x=true
 len:pre.length<=most
 disk:zg A bd S {D with reads:=r}
 kept:za (λk=>k=bd\/k=b9\/w1.heap.size<=k) w1 A
 rd:D.reads+1<=r
structure Dt (w1:World) (bd:Nat) (S:Nat->Prop) (D:Dk) (b9:Nat) (L:List En) (most:Nat) (c:Code) (r:Int) (A:World):Prop where
 c:c=.exit 0
 pg:∃v,KO (w1.heap.size+2) b9 most (decide (most<L.length)) (L.take most) A v
 disk:zg A bd S {D with reads:=r}
 kept:za (λk=>k=bd\/k=b9\/w1.heap.size<=k) w1 A
 rd:D.reads+1<=r/\r<=D.reads+1000
theorem KO.kept{B b m:Nat}{a:Bool}{L:List En}{A d:World}{v:Value}{g:Nat->Prop}(h:KO B b m a L A v)(c:za g A d)(e:¬g b)(i:∀k,B<=k->¬g k):KO B b m a L d v:=
 ⟨(c.block _ (lT h.at_) e).trans h.at_,c.owns h.own (λj f=>i j (h.ge j f)),h.form,h.ge⟩
theorem G7.by{a:World}{bd:Nat}{S:Nat->Prop}{D:Dk}{c:Nat}{b:Nat}{r d:Int}{Q p:Nat->Prop}{A B:World}(h:G7 a bd S D c f b r pre Q A)(j:za p A B)(e:∀k,p k->k=bd\/k=a.heap.size\/k=a.heap.size+1)(l:zg B bd S {D with reads:=d })(m:r<=d)(t:c<a.heap.size/\c≠bd)(q:bd<a.heap.size):G7 a bd S D c f b d pre Q B:=by
 obtain⟨v,o,h2⟩:=h.pg;exact⟨⟨v,o.kept j (λg=>by have:=e _ g;omega) (λk s g=>by have:=e _ g;omega),h2⟩,h.all,h.len,l,h.kept.trans j (λi n=>by have:=e i n;exact .inl (by omega)),lC h.rd m⟩
theorem JE:∀{l:List En},(∀b∈l,f b=true)->l.takeWhile f=l
 |[],_=>rfl
 |a::l,h=>by have c:=JE (l:=l) (λb d=>h b (am _ d));simp only [mi,h a (al ..),if_true,c]
theorem Uv{l:List En}{c:En}(h:(pre++[c])<+:l)(a:∀d∈pre,f d=true)(b:f c=false):l.takeWhile f=pre:=by
 obtain⟨z,rfl⟩:=h;rw [ak,List.takeWhile_append_of_pos a];simp [b]
theorem Uw{l:List En}{a:En}(h:(pre++[a])<+:l)(b:∀d∈pre,f d=true)(c:f a=true):pre.length<(l.takeWhile f).length/\(l.takeWhile f).take pre.length=pre:=by
 obtain⟨z,rfl⟩:=h
 have:((pre++[a])++z).takeWhile f=pre++a::z.takeWhile f:=by rw [ak,List.takeWhile_append_of_pos b];simp [c]
 rw [this];simp
theorem Ux(w:World)(bs bd:Nat)(S:Nat->Prop)(D:Dk)(k:Int)(bb:zu w bs k (some bd))(W:zg w bd S D)(ce:¬S bs)(bL:0<=D.reads)(ck:D.reads<=4611686018427360000)(R n:Nat)(a4:qV (D.look 1) R n)(x:ByteArray)(bq:x.size<=9223372036854775807)(p:Pl)(b:Nat)(bV:b<=1000)(aC:List En)(aE:List Nat)(hF:q8 (λj=>D.look (j:Nat)) R aC aE)(bA:aE.length<=979)(hbs:∀j∈aE,21<=j)(a2:∀y∈aC,y.pl.key.size<=9223372036854775807)(L:List En)(bH:(yS p aC).takeWhile (λy=>fi x y.pl.key)=L):
 Calls Tryz.prog 67 #[.pointer (some ⟨bs,0,none⟩),.string x,.agg #[.string p.key,.int .i64 p.num],.int .i64 (b:Int)] w λe w'=>(∃a c,e=.returned (.agg #[.slice a (L.take b).length c,.bool (decide (b<L.length))])/\w'.ownsRow 0 94 4 (.slice a (L.take b).length c) (L.take b).length (vn (L.take b))/\∀j,(Value.slice a (L.take b).length c).ownBlock=some j->w.heap.size<=j)/\(∃r:Int,D.reads<=r/\r<=D.reads+1000/\zg w' bd S {D with reads:=r })/\za (λi=>i=bd) w w':=by
 have bZ:Hid _:=bb;have b1:Hid (zg w bd S D):=W;have ca:Hid _:=a4;have bX:Hid _:=hF;have bU:Hid _:=hbs;have bm:Hid _:=a2;have be:Hid _:=bH;have hbs:=bb.lt;have cl:=W.lt bd W.bdS;have ad:Hid _:=W.lt;clear bb W a4 hF hbs a2 bH;obtain⟨aA,a1,aQ,a3,aX⟩:=eZ Tryz.infoVersion;have X:Hid (Tryz.prog.info? 94=some aA/\aA.zero=some (.agg #[.string ⟨#[]⟩,.int .i64 0,.bool false,.int .i64 0])/\aA.size=4/\aA.bytes=40):=⟨a1,aQ,a3,aX⟩;clear a1 aQ a3 aX;refine yC Tryz.func67 rfl ?_;simp only [Tryz.ntmps67,aq,ae,hO,Nat.reduceAdd,Nat.reduceSub,iN,iO,i5,iR,aK,aT];go_wp2_with fail;obtain⟨bz,b0,bD,k3,b5⟩:=vJ w (.cells #[.string x] 9) (.cells #[.string p.key,.int .i64 p.num] 107) (.cells #[.int .i64 (b:Int)] 3);have bv:Hid _:=bz;have bw:Hid _:=bD;have bO:Hid _:=k3;clear bz b0 bD k3;generalize (((w.alloc (.cells #[.string x] 9)).alloc (.cells #[.string p.key,.int .i64 p.num] 107)).alloc (.cells #[.int .i64 (b:Int)] 3))=C at*;have au:Hid (za (λ_=>False) C ((C.alloc (.cells #[.slice none 0 0,.bool false] 90)).alloc (.cells #[.slice none 0 0,.bool false] 90))):=za.alloc2 _ _ _;have br:Hid (((C.alloc (.cells #[.slice none 0 0,.bool false] 90)).alloc (.cells #[.slice none 0 0,.bool false] 90)).heap[C.heap.size]? =some (.cells #[.slice none 0 0,.bool false] 90 (0,0))):=((za.alloc (λ_=>False) _ _).block C.heap.size (by simp) id).trans (ac C _);have bn:Hid (((C.alloc (.cells #[.slice none 0 0,.bool false] 90)).alloc (.cells #[.slice none 0 0,.bool false] 90)).heap[C.heap.size+1]? =some (.cells #[.slice none 0 0,.bool false] 90 (0,0))):=eF C _ _;have cn:((C.alloc (.cells #[.slice none 0 0,.bool false] 90)).alloc (.cells #[.slice none 0 0,.bool false] 90)).heap.size=C.heap.size+2:=by simp
 generalize ((C.alloc (.cells #[.slice none 0 0,.bool false] 90)).alloc (.cells #[.slice none 0 0,.bool false] 90))=cg at*;have ai:Hid (za (λ_=>False) w cg):=bO.out.trans au.out iL;refine(jh cg bs bd S D k (bZ.out.kept ai.out id) (b1.out.kept ai.out nF) ce bL (by omega) R n ca.out p).mono ?_;rintro e s ⟨a8,bg,a5,rfl,aw,cj,aY,I⟩;have bN:Hid _:=aw;have aU:Hid (zg s bd S {D with reads:=D.reads+1 }):=aY;have bi:Hid _:=I;have bY:=I.size;have bQ:Hid (s.heap[w.heap.size]? =some (.cells #[.string x] 9 (0,0))):=(I.block _ (by omega) (by omega)).trans ((au.out.block _ (by omega) id).trans bv.out);have bI:Hid (s.heap[w.heap.size+2]? =some (.cells #[.int .i64 (b:Int)] 3 (0,0))):=(I.block _ (by omega) (by omega)).trans ((au.out.block _ (by omega) id).trans bw.out);have ab:Hid (s.heap[C.heap.size]? =some (.cells #[.slice none 0 0,.bool false] 90 (0,0))):=(I.block _ (by omega) (by omega)).trans br.out;have aZ:Hid (s.heap[C.heap.size+1]? =some (.cells #[.slice none 0 0,.bool false] 90 (0,0))):=(I.block _ (by omega) (by omega)).trans bn.out;rw [b5] at ab aZ;have bf:Hid _:=(ai.out.mono fE).trans bi.out iL;clear aw aY I;go_wp2_with fail;have aN:Hid (∀j,S j->j<s.heap.size):=aU.out.lt
 have ax:Hid (∀(A:World) (r:Int) (z:Bool) (T:List En) (o:Option Addr) (q:Nat) (a:Act),T=L.take b->z=decide (b<L.length)->KO (s.heap.size+2) (w.heap.size+4) b z T A (.slice o T.length q)->zg A bd S {D with reads:=r}->D.reads<=r->r<=D.reads+1000->za (λk=>k=bd\/k=w.heap.size+4\/s.heap.size<=k) s A->A.heap[s.heap.size]? =some (.deferred (some []))->a.defers=[{target:=.collected s.heap.size,args:=#[] }]->a.tmps.getD 8 undef=.pointer (some ⟨w.heap.size+3,0,none⟩)->
  Ye Tryz.prog Tryz.f67 (λe w'=>(∃a c,e=.returned (.agg #[.slice a (L.take b).length c,.bool (decide (b<L.length))])/\w'.ownsRow 0 94 4 (.slice a (L.take b).length c) (L.take b).length (vn (L.take b))/\∀j,(Value.slice a (L.take b).length c).ownBlock=some j->w.heap.size<=j)/\(∃r:Int,D.reads<=r/\r<=D.reads+1000/\zg w' bd S {D with reads:=r })/\za (λi=>i=bd) w w') .ret a ((A.setCell ⟨w.heap.size+3,0,none⟩ (.slice o T.length q)).setCell ⟨w.heap.size+3,1,none⟩ (.bool z))):=by
  rintro A r z T o q a rfl rfl aG W b8 G d K b6 b3;have t:A.heap[w.heap.size+3]? =_:=(d.block _ (by omega) (by omega)).trans ab.out;have bj:=heap_setCell_same A (w.heap.size+3) 0 _ _ (.slice o (L.take b).length q) t;have bG:=heap_setCell_same _ (w.heap.size+3) 1 _ _ (.bool (decide (b<L.length))) bj;have E:za (λj=>j=w.heap.size+3) A ((A.setCell ⟨w.heap.size+3,0,none⟩ (.slice o (L.take b).length q)).setCell ⟨w.heap.size+3,1,none⟩ (.bool (decide (b<L.length)))):=(za.setCell (S:=λj=>j=w.heap.size+3) A ⟨w.heap.size+3,0,none⟩ _ rfl).trans (za.setCell (S:=λj=>j=w.heap.size+3) _ ⟨w.heap.size+3,1,none⟩ _ rfl) iL;generalize ((A.setCell ⟨w.heap.size+3,0,none⟩ (.slice o (L.take b).length q)).setCell ⟨w.heap.size+3,1,none⟩ (.bool (decide (b<L.length))))=cf at*;have co:=E.size;have bJ:=(lT K);have bC:=(E.block _ bJ (by omega)).trans K;have aD:za (λk=>k=s.heap.size) cf (cf.putObj s.heap.size (.deferred none)):=za.putObj _ _ _ rfl;have bR:=(aD.block _ (by omega) (by omega)).trans bG;refine jo b6 bC (results_cell_row Tryz.results67 _ _ (w.heap.size+3) 90 _ (0,0) _ b3 bR Tryz.underlying90 rfl (by kernel_rfl)) ⟨⟨o,q,rfl,aD.owns (E.owns aG.own (λj g ag=>by have:=aG.ge j g;omega)) (λj g ag=>by have:=aG.ge j g;omega),λj g=>by have:=aG.ge j g;omega⟩,⟨r,b8,G,(W.kept E (λj g ag=>by have:=ad.out j g;omega)).kept aD (λj g ag=>by have:=ad.out j g;omega)⟩,?_⟩
  exact((bf.out.trans d (λj g=>by
   rcases g with h|h|h;.exact .inl h
   .exact .inr (by omega)
   .exact .inr (by omega))).trans E (λj g=>.inr (by omega))).trans aD (λj g=>.inr (by omega))
 refine kj (α:=En) (gf:= 190) (lb:=#[.pointer (some ⟨a8,0,none⟩),.pointer (some ⟨bg,0,none⟩),.pointer (some ⟨a5,0,none⟩)]) rfl (enters_of Tryz.func190 (by kernel_rfl) rfl)
  (λcc d ci=>Yj cc bd S D a8 bg a5 R p (bN.out.kept d id id id) aC aE bX.out bA bU.out (by omega) (D.reads+1) (by omega) (by omega))
  (λk d=>by rw [d];omega) (λ_=>rfl)
  (G7 s bd S D (w.heap.size+4) (λy=>fi x y.pl.key) b) (λc r pre A=>Dt s bd S D (w.heap.size+4) L b c r A)
  (λr pre Q A h=>⟨h.disk,λk d=>by
   obtain⟨v,G,h2⟩:=h.pg;have aB:=(h2 k).1 d;have cx:=G.ge k aB;have bu:=(G.own.lt k aB).2
   omega⟩)
  (λr cv pre Q A B h cd d f=>h.by d (λk d=>.inl d) f cd (by omega) (by omega))
  (λr pre Q A B h d=>h.by d (λk d=>.inr d) (h.disk.kept d (λj g V=>by have:=aN.out j g;omega)) (eb _) (by omega) (by omega))
  (λc r pre A B h d=>⟨h.c,by
   obtain⟨v,G⟩:=h.pg
   exact⟨v,G.kept d (by omega) (λk a4 V=>by omega)⟩,h.disk.kept d (λj g V=>by have:=aN.out j g;omega),h.kept.trans d (λi f=>.inl (.inr (.inr (by omega)))),h.rd⟩)
  ⟨⟨_,⟨aZ.out,aV _ 0 94 4,⟨none,0,rfl⟩,λk d=>by cases d⟩,λk=>by simp [Value.ownBlock]⟩,λ_ h=>(by cases h),aj _,aU.out,za.refl _ _,eb _⟩
  (λy bF A=>∃J,s.heap.size+1<J/\A.heap[J]? =some (.cells (qt y).toArray 109 (0,0))/\bF={tmps:=#[.pointer (some ⟨bs,0,none⟩),.string x,.agg #[.string p.key,.int .i64 p.num],.int .i64 (b:Int),undef,.pointer (some ⟨w.heap.size,0,none⟩),.pointer (some ⟨w.heap.size+1,0,none⟩),.pointer (some ⟨w.heap.size+1+1,0,none⟩),.pointer (some ⟨w.heap.size+1+1+1,0,none⟩),.pointer (some ⟨w.heap.size+1+1+1+1,0,none⟩),.pointer (some ⟨J,0,none⟩),.pointer (some ⟨bs,0,none⟩),.agg #[.string p.key,.int .i64 p.num],.func (.func 190) #[] #[.pointer (some ⟨a8,0,none⟩),.pointer (some ⟨bg,0,none⟩),.pointer (some ⟨a5,0,none⟩)],.agg (qt y).toArray,undef,undef,undef,undef,undef,undef,undef,undef,undef,undef,undef,undef,undef,undef,undef,undef,undef,undef,undef,undef,undef,undef,undef,undef,undef,undef,undef,undef,undef],defers:=[] })
  (λy a A B h d=>by
   obtain⟨J,G,h2,aB⟩:=h
   exact⟨J,G,(d.block _ (lT h2) (by omega)).trans h2,aB⟩)
  (λr pre y A B h _=>h) ?assign ?body ?done ?stop
 case assign=>
  intro l r pre y Q A cA f af bp K;dsimp only [qt];gi_wp2;exact K _ _ (za.alloc _ _ _) (f.by (za.alloc (λ_=>False) _ _) (λ_ h=>h.elim) (f.disk.kept (za.alloc (λ_=>False) _ _) nF) (eb _) (by omega) (by omega)) af ⟨A.heap.size,by omega,ac A _,rfl⟩
 case body=>
  rintro l r pre y Q bF A f af ⟨J,cp,aR,rfl⟩ bp;obtain⟨v,u,aF⟩:=f.pg;obtain⟨o,q,rfl⟩:=u.form;have F:Hid _:=f;have M:Hid _:=u;have a6:Hid (∀k,Q k↔(Value.slice o pre.length q).ownBlock=some k):=aF;have aI:Hid _:=aR;have aM:Hid _:=af.pre;have aL:r<=D.reads+1000:=by have:=af.le;omega
  have bS:=bm.out y (ei.1 (af.pre.subset (by simp))).1;have bx:=f.len;have bk:Hid (A.heap[w.heap.size]? =_):=(f.kept.block _ (by omega) (by omega)).trans bQ.out;have bB:Hid (A.heap[w.heap.size+2]? =_):=(f.kept.block _ (by omega) (by omega)).trans bI.out;have cu:A.cell? ⟨J,0,none⟩=some (.string y.pl.key):=cR aI.out rfl;have cz:A.cell? ⟨J,1,none⟩=some (.int .i64 y.pl.num):=cR aI.out rfl;have ct:A.cell? ⟨J,2,none⟩=some (.bool y.mark):=cR aI.out rfl;have cw:A.cell? ⟨J,3,none⟩=some (.int .i64 (y.size:Int)):=cR aI.out rfl;have bt:A.cell? ⟨w.heap.size,0,none⟩=some (.string x):=cR bk.out rfl;have cr:A.cell? ⟨w.heap.size+1+1,0,none⟩=some (.int .i64 (b:Int)):=cR bB.out rfl;have bl:A.cell? ⟨w.heap.size+1+1+1+1,0,none⟩=some (.slice o pre.length q):=cR u.at_ rfl;have bE:A.cell? ⟨w.heap.size+1+1+1+1,1,none⟩=some (.bool false):=cR u.at_ rfl;have cs:=aa A (w.heap.size+1+1+1+1) 1 _ _ u.at_;clear f af u aF aR;gi_wp2_with fail;refine⟨eI,rfl,?_⟩;refine((yt l).calls (cC A y.pl.key x bS bq)).mono ?_;rintro e bW ⟨rfl,aW⟩;rw [aW];clear aW bW
  cases O:fi x y.pl.key with
  |false=>
   have Z:Hid _:=O;clear O;gi_wp2;have N:=Uv aM.out F.out.all Z.out;rw [be.out] at N;refine⟨za.refl _ _,rfl,⟨.slice o pre.length q,?_⟩,F.out.disk,F.out.kept,F.out.rd,aL⟩;rw [N,an bx,decide_eq_false (by omega)];exact M.out
  |true=>
   have Z:Hid _:=O;clear O;by_cases al:pre.length=b
   .have bK:((pre.length:Int)==(b:Int))=true:=by rw [al];simp
    have bT:Hid _:=al;clear al;gi_wp2;have N:=Uw aM.out F.out.all Z.out;rw [be.out] at N;have E:=za.setCell (S:=λj=>j=w.heap.size+4) A ⟨w.heap.size+4,1,none⟩ (.bool true) rfl;refine⟨E.mono (λj g=>.inl (by omega)),rfl,⟨.slice o pre.length q,?_⟩,F.out.disk.kept E (λj g V=>by have:=ad.out j g;omega),F.out.kept.trans E (λj g=>.inl (.inr (.inl g))),F.out.rd,aL⟩;rw [<-bT.out,N.2,aJ N.1];exact⟨heap_setCell_same A (w.heap.size+4) 1 _ _ _ M.out.at_,E.owns M.out.own (λj g ag=>by have:=M.out.ge j g;omega),⟨o,q,rfl⟩,M.out.ge⟩
   .have bK:=beq_false_of_ne (by omega);have am:Hid (za (λ_=>False) A (A.alloc (.cells #[.string y.pl.key,.int .i64 y.pl.num,.bool y.mark,.int .i64 (y.size:Int)] 94))):=za.alloc _ _ _;have bh:Hid ((A.alloc (.cells #[.string y.pl.key,.int .i64 y.pl.num,.bool y.mark,.int .i64 (y.size:Int)] 94)).heap[A.heap.size]? =some (.cells (veV y).toArray 94 (0,0))):=ac A _;have bo:Hid _:=M.out.own;gi_wp2_with (gi_at_builtin;refine(yt l).append_lies _ rfl _ _ 44 rfl 0 94 aA (.agg #[.string ⟨#[]⟩,.int .i64 0,.bool false,.int .i64 0]) 4 40 Tryz.underlying44 X.out.1 X.out.2.1 X.out.2.2.1 X.out.2.2.2 rfl (by decide) (.slice o pre.length q) pre.length (vn pre) rfl (am.out.owns bo.out nF) ⟨A.heap.size,0,none⟩ 1 1 (veV y) rfl rfl (World.news_of_block bh.out) (by simp [veV,Value.oneCell']) (by decide) (by unfold maxLen;omega) (by omega) (aj _) (A.heap.size+1) (by simp) ?_;intro P ao U av Y aS cb;have bM:Hid _:=av;have aP:Hid _:=aS;have a0:Hid (za (λk=>(Value.slice o pre.length q).ownBlock=some k) (A.alloc (.cells #[.string y.pl.key,.int .i64 y.pl.num,.bool y.mark,.int .i64 (y.size:Int)] 94)) U):=za.grown Y (λk d=>d);have ak:Hid (U.heap[w.heap.size+4]? =some (.cells #[.slice o pre.length q,.bool false] 90 (0,0))):=(a0.out.block _ (by simp;omega) (λV=>by have:=M.out.ge _ V;omega)).trans ((am.out.block _ (by omega) id).trans M.out.at_);have cm:U.cell? ⟨w.heap.size+1+1+1+1,0,none⟩=some (.slice o pre.length q):=(cR ak.out rfl);have cq:U.frozen? ⟨w.heap.size+1+1+1+1,0,none⟩=false:=aa U (w.heap.size+4) 0 _ _ ak.out;clear av Y aS);have bu:=heap_setCell_same U (w.heap.size+4) 0 _ _ (.slice (some ⟨P,0,none⟩) (pre.length+1) ao) ak.out;have E:=za.setCell (S:=λj=>j=w.heap.size+4) U ⟨w.heap.size+4,0,none⟩ (.slice (some ⟨P,0,none⟩) (pre.length+1) ao) rfl;have a7:za (λk=>k=w.heap.size+4\/Q k) A (U.setCell ⟨w.heap.size+4,0,none⟩ (.slice (some ⟨P,0,none⟩) (pre.length+1) ao)):=(((am.out.mono fE).trans a0.out (λk d=>.inl (.inr ((a6.out k).2 d)))).trans E (λk d=>.inl (.inl d)))
    have ch:s.heap.size+2<=P:=by
     rcases aP.out with h|h;.exact M.out.ge P h
     .omega
    have H:(pre++[y]).length=pre.length+1:=by simp
    have aO:∀k,Q k->s.heap.size+2<=k:=λk d=>M.out.ge k ((a6.out k).1 d);refine⟨a7.mono (λk d=>by rcases d with h|h;exact .inl (by omega);exact .inr h),λk=>k=P,⟨⟨.slice (some ⟨P,0,none⟩) (pre.length+1) ao,⟨bu,?_,⟨some ⟨P,0,none⟩,ao,by rw [H]⟩,λk d=>?_⟩,λk=>?_⟩,λcy ap=>?_,by rw [H];omega,F.out.disk.kept a7 (λj g V=>?_),?_,F.out.rd⟩,λk d=>?_⟩
    .rw [H,XZ];exact E.owns bM.out (λj g ag=>by simp [Value.ownBlock] at g;omega)
    .simp [Value.ownBlock] at d;omega
    .simp [Value.ownBlock];exact my
    .rcases ah.1 ap with ap|ap;.exact F.out.all cy ap
     .rw [az.1 ap];exact Z.out
    .have:=ad.out j g;rcases V with h|h;.omega
     .have:=aO j h;omega
    .exact F.out.kept.trans a7 (λk d=>by
      rcases d with h|h;.exact .inl (.inr (.inl h))
      .exact .inl (.inr (.inr (by have:=aO k h;omega))))
    .rw [d];rcases aP.out with h|h;.exact .inl ((a6.out P).2 h)
     .exact .inr (by omega)
 case done=>
  rintro b7 r ba Q A aH f rfl K;obtain⟨v,u,aF⟩:=f.pg;obtain⟨o,q,rfl⟩:=u.form;have ar:L=ba:=by rw [<-be.out,<-aH.1];exact JE f.all
  have H:=f.len;have bP:=f.rd;have t:A.heap[w.heap.size+3]? =_:=(f.kept.block _ (by omega) (by omega)).trans ab.out;have ay:Hid (∀a:Act,a.defers=[{target:=.collected s.heap.size,args:=#[] }]->a.tmps.getD 8 undef=.pointer (some ⟨w.heap.size+3,0,none⟩)->_):=λa G h2=>ax.out A r false ba o q a (by rw [ar,an H]) (by rw [ar,decide_eq_false (by omega)]) u f.disk (by omega) (by omega) f.kept K G h2;have bl:A.cell? ⟨w.heap.size+1+1+1+1,0,none⟩=some (.slice o ba.length q):=cR u.at_ rfl;have bE:A.cell? ⟨w.heap.size+1+1+1+1,1,none⟩=some (.bool false):=cR u.at_ rfl;have b4:A.cell? ⟨w.heap.size+1+1+1,0,none⟩=some (.slice none 0 0):=cR t rfl;have bt:A.cell? ⟨w.heap.size+1+1+1,1,none⟩=some (.bool false):=cR t rfl;have b9:=aa A (w.heap.size+1+1+1) 0 _ _ t;have b2:=aa A (w.heap.size+1+1+1) 1 _ _ t;clear f aH u aF K t ar;dsimp only;go_wp2;exact ay.out _ rfl rfl
 case stop=>
  rintro b7 c r pre A aH f rfl K;obtain⟨v,u⟩:=f.pg;obtain⟨T,a9⟩:∃T,T=L.take b:=⟨_,rfl⟩;obtain⟨z,bc⟩:∃m,m=decide (b<L.length):=⟨_,rfl⟩;rw [<-a9,<-bc] at u;obtain⟨o,q,rfl⟩:=u.form;obtain rfl:c=.exit 0:=f.c;have bP:=f.rd;have t:A.heap[w.heap.size+3]? =_:=(f.kept.block _ (by omega) (by omega)).trans ab.out;have ay:Hid (∀a:Act,a.defers=[{target:=.collected s.heap.size,args:=#[] }]->a.tmps.getD 8 undef=.pointer (some ⟨w.heap.size+3,0,none⟩)->_):=λa G h2=>ax.out A r z T o q a a9 bc u f.disk (by omega) (by omega) f.kept K G h2;have bl:A.cell? ⟨w.heap.size+1+1+1+1,0,none⟩=some (.slice o T.length q):=cR u.at_ rfl;have bE:A.cell? ⟨w.heap.size+1+1+1+1,1,none⟩=some (.bool z):=cR u.at_ rfl;have b4:A.cell? ⟨w.heap.size+1+1+1,0,none⟩=some (.slice none 0 0):=cR t rfl;have bt:A.cell? ⟨w.heap.size+1+1+1,1,none⟩=some (.bool false):=cR t rfl;have b9:=aa A (w.heap.size+1+1+1) 0 _ _ t;have b2:=aa A (w.heap.size+1+1+1) 1 _ _ t;clear f aH u K t a9 bc;dsimp only;go_wp2;exact ay.out _ rfl rfl
end prog
end Go.Proofs.YtcoengihaobddaaGreatDoor
