/- Part 30 of 36 of a proof: Rem9, Lst1, Lst2 -/
import Derived.Test.YtcoengihaobddaaGreatDoorJb29
set_option maxHeartbeats 8000000
set_option linter.unusedVariables false
set_option linter.unusedSimpArgs false
set_option maxRecDepth 8000
namespace Go.Proofs.YtcoengihaobddaaGreatDoor
namespace prog
open Go.RowKit disk ref
structure Dg {h:Nat} (D:Dk) (t:Tr h) (p:Pl) (C C':Ck) (m m':List UInt8) (e:En) (s:Bool) (pb fb:List Nat):Prop where
 cln:b8 D C' m'
 shr:gh D C C' m m' pb fb
 sub:∀j∈pb,j∈t.blocks
 own:s=true->t.blk∈pb
 pl:pb.length<=2*h+1
 few:C'.ws.length<=C.ws.length+4*(h+1)
 mem:e∈t.ents
 at_:e.pl=p
 tree:∃t',bD t p t'/\t'.LayV zl (λj=>C'.look D (j:Nat))/\(t'.blocks++fb).Perm t.blocks/\(s=false->t'.items.length=t.items.length\/3<=t'.items.length)
theorem bG:∀{h:Nat} (t:Tr h),zN h=4->∀e∈t.items,e.mark=false/\e.size=0
 |0,_,hk,_,_=>by simp [zN] at hk
 |_+1,t,_,e,he=>by obtain⟨c,_,rfl⟩:=au.1 he;exact⟨rfl,rfl⟩
theorem Z3:∀h:Nat,zN h=4\/zN h=5
 |0=>.inr rfl
 |_+1=>.inl rfl
theorem gg.below{e bd:Nat}{S T:Nat->Prop}{D:Dk}{C:Ck}{h c:Nat}{p:Pl}{v:List Value}{s d:Bool}{f:Ck}(k:gg e bd S T D C h c p v s d f)(r:Int)(m:0<=r)(l:r+(4*(h+1):Nat)<=4611686018427370000):
 Uk e bd S T {D with reads:=r} C c p (4*h+1) v s d f:=
 ⟨λg j a b i=>k.go g (r+j) (by omega) (by omega) i⟩
theorem YD:∀{h:Nat} (t:Tr h),t.blocks=t.blk::t.blocks.tail
 |0,_=>rfl
 |_+1,_=>rfl
theorem KM{h:Nat}{u v:Tr h}(b:(u.blocks++v.blocks).Nodup):(u.join v).blk∉(u.join v).blocks.tail:=by
 have a:=(aN.1 ((vj u v).nodup_iff.2 b)).1;rw [YD,iM] at a;exact a.1
theorem YE(Y bd:Nat)(S T:Nat->Prop)(D:Dk)(p:Pl):∀(h:Nat) (t:Tr h) (C:Ck) (m:List UInt8),h<=100->t.Good->(0<h->2<=t.items.length)->t.items.length<=6->yL t.ents->t.blocks.Nodup->
 (∀j∈t.blocks,21<=j/\j<1000)->t.LayV zl (λj=>C.look D (j:Nat))->b8 D C m->C.ws.length+4*(h+1)<700->
 (∃e ci cL s W V,Dg D t p C ci m cL e s W V/\gg Y bd S T D C h t.blk p (qr e) s true ci)\/((∀R∈t.ents,R.pl≠p)/\gg Y bd S T D C h t.blk p qx false false C)
 |0,(b,es),C,m,_,g,_,aU,hs,hnd,hrg,hl,hc,hfew=>by
  have ab:=aU;have aa:yL es:=hs;have bI:=hl;by_cases o:∃ac:zt es p<es.length,es[zt es p].pl=p
  .obtain⟨ac,aH⟩:=o;have cI:=hrg b (az.2 rfl);have bO:=aa.erase p ac aH;have bh:(qR p es).length=es.length-1:=by rw [<-bO,iC ac]
   refine .inl ⟨es[zt es p],C.put b (zl (zc 5 (qR p es))),m,decide ((qR p es).length<3),[b],[],⟨hc.put (by omega) _,gh.put D C m b _,λj a=>a,λ_=>az.2 rfl,by simp,by have:=qw C b (zl (zc 5 (qR p es)));omega,ai ac,aH,(b,qR p es),KJ g aa ab ac aH,qn _ _ _ _,by rw [aM];exact eR _,λh=>.inr (by show 3<=(qR p es).length;simpa using h)⟩,⟨λw r J x H=>?_⟩⟩;refine(Yy w Y bd S T {D with reads:=r} C H J (by show r<=_;omega) b g.1 es g.2 ab aa (by rw [zF];exact bI) p (zt es p) rfl ac aH (by omega) (qR p es) bO (decide ((qR p es).length<3)) (decide_eq_decide.2 (by omega))).mono ?_;rintro R w' ⟨x,⟨n,ap,h2,ax,b0,cB⟩,aU⟩;exact⟨x,⟨n,ap,h2,by simpa using ax,b0,cB⟩,aU⟩
  .refine .inr ⟨(aa.find p).2 (λac aH=>o ⟨ac,aH⟩),⟨λw r J x H=>?_⟩⟩;refine(Yx w Y bd S T {D with reads:=r} C H J (by show r<=_;omega) b g.1 es g.2 ab aa (by rw [zF];exact bI) p (λac aH=>o ⟨ac,aH⟩)).mono ?_;rintro R w' ⟨x,⟨n,h2,ax,b0⟩,aU⟩;exact⟨x,⟨n,T,h2,by simpa using ax,b0,λ_ h=>.inl h⟩,aU.mono iL⟩
 |h+1,(b,cs),C,m,hh,g,h2,aU,hs,hnd,hrg,hl,hc,hfew=>by
  have bm:=aD (h2 (by omega)) (eE (zy b cs));have ab:=aD (eE (zy b cs).symm) aU;have bq:Kids cs:=g.kids;obtain⟨A,q,tc,B,rfl,cG,aO,bl⟩:=bq.child (λf=>by rw [f] at bm;simp at bm) p;have F:(q,tc)∈A++(q,tc)::B:=by simp
  have bR:=bq.good (q,tc) F;have Z:=g.full
  have b1:(b::(zE A++(tc.blocks++zE B))).Nodup:=by have:(b::zE (A++(q,tc)::B)).Nodup:=hnd;rw [qo,qA] at this;exact this
  obtain⟨cA,cd,cD,cX,cE,c1,cx,cH⟩:=gU b1
  have aw:∀j,j=b\/j∈zE (A++(q,tc)::B)->21<=j/\j<1000:=λj a=>hrg j (by
   show j∈b::zE (A++(q,tc)::B)
   exact ar.2 a)
  have aK:yL (zI (A++(q,tc)::B)):=hs;have aa:yL (zI A++(tc.ents++zI B)):=by rw [zA,zr] at aK;exact aK
  have cq:=(aX.1 (aX.1 aa).2.1).1;have aJ:C.look D b=zl (zc 4 ((A++(q,tc)::B).map jO)):=hl.1;have bQ:=hl.2;have cI:=aw b (.inl rfl);have ay:=bq.items_srt;have ae:=g.items_ok
  have aA:∀R∈(A++(q,tc)::B).map jO,R.mark=false/\R.size=0:=λR o=>by obtain⟨c,_,rfl⟩:=au.1 o;exact⟨rfl,rfl⟩
  have bh:((A++(q,tc)::B).map jO).length=(A++(q,tc)::B).length:=by simp
  have a4:A.length<((A++(q,tc)::B).map jO).length:=by rw [bh];simp
  have ba:((A++(q,tc)::B).map jO)[A.length].at_=tc.blk:=by simp [jO]
  have a9:=cG.symm
  have K:∀(aq:Ck),(∀j:Nat,j∉tc.blocks->j≠b->j≠2->aq.look D j=C.look D j)->∀c,c∈A\/c∈B->c.2.LayV zl (λj=>aq.look D (j:Nat)):=λaq cg c k=>by
   have ao:c∈A++(q,tc)::B:=by rcases k with h|h<;>simp [h]
   refine(bQ c ao).congr (λj a=>?_);have aj:=aw j (.inr (zU ao a));rcases k with U|y;.exact cg j (cx j (zU U a)) (λf=>cA (f▸zU U a)) (by omega)
   .exact cg j (cH j (zU y a)) (λf=>cD (f▸zU y a)) (by omega)
  rcases YE Y bd S T D p h tc C m (by omega) bR.1 (λ_=>by have:=Z (q,tc) F;simp only at this;omega) bR.2.1 cq cE (λj a=>aw j (.inr (zU F a))) (bQ (q,tc) F) hc (by omega) with⟨e,d,N,s,W,V,M,b3⟩|⟨cr,b3⟩
  .obtain⟨tc',L,bn,O,bw⟩:=M.tree;have bD:∀j∈V,j∈tc.blocks:=λj a=>O.mem_iff.1 (av _ a);have cT:∀j∈tc'.blocks,j∈tc.blocks:=λj a=>O.mem_iff.1 (af _ a);have bi:=vz F M.mem;have cl:d.look D b=C.look D b:=M.shr.look b (λa=>cd (M.sub b a)) (λa=>cd (bD b a)) (by omega);have aL:∀j:Nat,j∉tc.blocks->j≠b->j≠2->d.look D j=C.look D j:=λj x h2 ax=>M.shr.look j (λa=>x (M.sub j a)) (λa=>x (bD j a)) ax
   cases bs:s with
   |false=>
    rw [bs] at b3 M;have bj:=Z (q,tc) F;simp only at bj;have ax:3<=tc'.items.length:=by rcases bw bs with h|h<;>omega
    refine .inl ⟨e,d,N,false,W,V,⟨M.cln,M.shr,λj a=>am _ (zU F (M.sub j a)),λh=>(nomatch h),by have:=M.pl;omega,by have:=M.few;omega,bi,M.at_,(b,A++(q,tc')::B),YA g ab aO bl L ax,⟨?_,λc k=>?_⟩,jI O,?_⟩,⟨λw r J x H=>?_⟩⟩
    .show d.look D b=zl (zc 4 ((A++(q,tc')::B).map jO));rw [cl,aJ];congr 2;simp [jO,L.blk]
    .have k:=k;rcases ah.1 k with U|y;.exact K d aL c (.inl U)
     .rcases ar.1 y with rfl|y;.exact bn
      .exact K d aL c (.inr y)
    .exact λ_=>.inl (by rw [zy,zy];simp)
    .have E:=b3.below r J (by omega);rw [<-ba] at E;refine(vJ w Y bd S T {D with reads:=r} C H J (by show r<=_;omega) b g.1 _ ae aA (by omega) ay (by rw [zF];exact aJ) p (4*h+1) (by omega) _ ⟨_,_,_,_,_,rfl⟩ false true d A.length a9 a4 E false true d (.inl ⟨rfl,rfl,rfl,rfl⟩)).mono ?_;rintro R w' ⟨k1,⟨n,ap,k2,k3,aR,a0⟩,aZ⟩;exact⟨k1,⟨n,ap,k2,by omega,aR,a0⟩,aZ⟩
   |true=>
    rw [bs] at b3 M;have bk:=M.own rfl;obtain⟨X,aI,Q,an,u,v,P⟩:=U9 A B q tc' (by simpa using bm);have ce:=XY L.blk P;obtain⟨bb,cy⟩:=vK bq aO bl L;have bF:=jI (b:=b) (A:=A) (B:=B) (q:=q) O
    have br:(b::zE (X++(Q,u)::(an,v)::aI)).Nodup:=by have:=(aN.1 (bF.nodup_iff.2 hnd)).1;have x:=this;rw [P.eq] at x;exact x
    have bf:∀j,j∈zE (X++(Q,u)::(an,v)::aI)->j∈zE (A++(q,tc)::B):=λj a=>by
     have x:j∈Tr.blocks (h:=h+1) (b,A++(q,tc')::B)++V:=af _ (am _ (by rw [P.eq];exact a));have h2:=bF.mem_iff.1 x;rcases ar.1 h2 with rfl|h2;.exact absurd a (iM.1 br).1
     .exact h2
    have bz:zE (X++(Q,u)::(an,v)::aI)=zE X++((u.blocks++v.blocks)++zE aI):=by rw [qo,qA,qA,ak]
    have bo:=br;rw [bz] at bo;obtain⟨cm,bu,b6,c2,bv,cZ,cp,co⟩:=gU bo
    have a6:∀j,j∈zE X\/j∈u.blocks++v.blocks\/j∈zE aI->21<=j/\j<1000:=λj a=>aw j (.inr (bf j (by
     rw [bz,ah,ah (s:=u.blocks++v.blocks)];exact a)))
    rw [P.eq] at bb;have aB:=bb.good (Q,u) (by simp);have aY:=bb.good (an,v) (by simp);have a2:u.blk∈u.blocks++v.blocks:=af _ u.blk_mem;have a5:v.blk∈u.blocks++v.blocks:=av _ v.blk_mem;have ct:u.blk≠v.blk:=λf=>(aN.1 bv).2.2 _ u.blk_mem _ v.blk_mem f;have cU:=a6 _ (.inr (.inl a2));have cN:=a6 _ (.inr (.inl a5));have cf:u.blk≠b:=λf=>bu (f▸a2);have cP:v.blk≠b:=λf=>bu (f▸a5);have a7:∀c,c∈X\/c∈aI->c.2.LayV zl (λj=>d.look D (j:Nat)):=λc k=>K d aL c (P.out c k)
    have bx:u.LayV zl (λj=>d.look D (j:Nat))/\v.LayV zl (λj=>d.look D (j:Nat))/\(u.blk∈W\/v.blk∈W)/\u.blk∈zE (A++(q,tc)::B)/\v.blk∈zE (A++(q,tc)::B):=by
     have bC:=bf u.blk (by rw [bz];simp [u.blk_mem]);have bL:=bf v.blk (by rw [bz];simp [v.blk_mem]);rcases P.two with⟨bp,aF⟩|⟨bp,aF⟩
     .simp only [eS] at aF;obtain⟨rfl,rfl⟩:=aF;exact⟨K d aL (Q,u) (.inl bp),bn,.inr (by rw [L.blk];exact bk),bC,bL⟩
     .simp only [eS] at aF;obtain⟨rfl,rfl⟩:=aF;exact⟨bn,K d aL (an,v) (.inr bp),.inl (by rw [L.blk];exact bk),bC,bL⟩
    obtain⟨aS,aT,b4,bS,hmv⟩:=bx;have cw:=M.few;have bW:=P.at_;have bP:b≠2:=by omega
    obtain⟨a1,cC,cK,ck,cj⟩:=Gb (z:=⟨((u.items++v.items).getD ((u.items++v.items).length/2) gR).pl,false,0,v.blk⟩) (r:=X.length+1) (by simp) _ ce;have bK:=cC (by omega);have bt:=cK a1
    have bU:1<=v.items.length:=by
     rcases P.two with⟨_,aF⟩|⟨bp,_⟩
     .have bj:=Z (q,tc) F;have cS:=L.lo;simp only [eS] at aF bj;rw [aF.2];omega
     .have:=Z (an,v) (by simp [bp]);simp only at this;omega
    have a3:v.blk-21+21=v.blk:=by omega
    have bB:=aS.node;have bH:d.look D ((v.blk-21+21:Nat):Int)=zl (zc (zN h) v.items):=by rw [a3];exact aT.node
    have aj:=Uo u v;have a8:=xM u v;by_cases aQ:(u.items++v.items).length<=6
    .have cv:=Yw Y bd S D d N M.cln.map ((A++(q,tc)::B).map jO) (by omega) A.length (X.length+1) bW a1 u.blk (v.blk-21) (by rw [bK];rfl) (by rw [bt,a3];rfl) aB.1.blk (by omega) (by omega) (zN h) (Z3 h) u.items v.items aB.1.items_ok aY.1.items_ok (bG u) (bG v) aB.2.1 aY.2.1 bU bB bH (by omega) _ _ (.inl ⟨aQ,rfl,rfl⟩);have aG:=((M.shr.trans (gh.put D d N u.blk (zl (zc (zN h) (u.items++v.items))))).trans (gh.free (M.cln.put (i:=u.blk) (by omega) _) (i:=v.blk-21) (by omega))).trans (gh.put D _ _ b (zl (zc 4 (((A++(q,tc)::B).map jO).eraseIdx (X.length+1)))));rw [show W++[u.blk]++[]++[b]=W++[u.blk,b] from by simp,show V++[]++[v.blk-21+21]++[]=V++[v.blk] from by simp;omega] at aG;have aP:=((M.cln.put (i:=u.blk) (by omega) (zl (zc (zN h) (u.items++v.items)))).free (v.blk-21)).put bP (zl (zc 4 (((A++(q,tc)::B).map jO).eraseIdx (X.length+1))));have c0:=qw d u.blk (zl (zc (zN h) (u.items++v.items)));have c3:=bE (d.put u.blk (zl (zc (zN h) (u.items++v.items)))) N (v.blk-21);have cY:=qw ((d.put u.blk (zl (zc (zN h) (u.items++v.items)))).free N (v.blk-21)) b (zl (zc 4 (((A++(q,tc)::B).map jO).eraseIdx (X.length+1))))
     have bc:∀j:Nat,j≠b->j≠2->j≠v.blk->(((d.put u.blk (zl (zc (zN h) (u.items++v.items)))).free N (v.blk-21)).put b (zl (zc 4 (((A++(q,tc)::B).map jO).eraseIdx (X.length+1))))).look D (j:Nat)=(d.put u.blk (zl (zc (zN h) (u.items++v.items)))).look D (j:Nat):=λj x h2 ax=>by rw [zZ _ _ _ _ _ (by omega),fh _ _ _ _ _ h2 (by omega)]
     have lb:(((d.put u.blk (zl (zc (zN h) (u.items++v.items)))).free N (v.blk-21)).put b (zl (zc 4 (((A++(q,tc)::B).map jO).eraseIdx (X.length+1))))).look D (b:Nat)=zl (zc 4 (((A++(q,tc)::B).map jO).eraseIdx (X.length+1))):=qn _ _ _ _;have bA:∀j:Nat,j≠u.blk->(d.put u.blk (zl (zc (zN h) (u.items++v.items)))).look D (j:Nat)=d.look D (j:Nat):=λj x=>zZ _ _ _ _ _ (by omega);have cn:(d.put u.blk (zl (zc (zN h) (u.items++v.items)))).look D (u.blk:Nat)=zl (zc (zN h) (u.items++v.items)):=qn _ _ _ _;have cW:(((A++(q,tc)::B).map jO).eraseIdx (X.length+1)).length=(X++(Q,u.join v)::aI).length:=by rw [ck];simp
     have ca:((A++(q,tc)::B).map jO).eraseIdx (X.length+1)=(X++(Q,u.join v)::aI).map jO:=by rw [ck];simp [jO,aj]
     have bg:(((A++(q,tc)::B).map jO).eraseIdx (X.length+1)).length<=6:=by rw [iC a1];omega
     have aW:∀R∈((A++(q,tc)::B).map jO).eraseIdx (X.length+1),R.Ok:=λR o=>ae R (List.mem_of_mem_eraseIdx o);generalize ((A++(q,tc)::B).map jO).eraseIdx (X.length+1)=l at*;generalize cc:(d.put u.blk (zl (zc (zN h) (u.items++v.items)))).free N (v.blk-21)=aq at*;generalize be:aq.put b (zl (zc 4 l))=I at*;refine .inl ⟨e,I,jN N (v.blk-21),decide (l.length<3),W++[u.blk,b],V++[v.blk],⟨aP,aG,λj a=>?_,λ_=>by simp [Tr.blk],by have:=M.pl;simp;omega,by omega,bi,M.at_,(b,X++(Q,u.join v)::aI),Us g ab aK aO bl L P aQ,⟨?_,λc k=>?_⟩,dd O P,λbZ=>.inr ?_⟩,⟨λw r J x H=>?_⟩⟩
     .show j∈b::zE (A++(q,tc)::B);rcases ah.1 a with a|a;.exact am _ (zU F (M.sub j a))
      .simp only [ar,ic,or_false] at a;rcases a with rfl|rfl;.exact am _ bS
       .exact al ..
     .show I.look D (b:Nat)=zl (zc 4 ((X++(Q,u.join v)::aI).map jO));rw [lb,ca]
     .have k:=k
      have aC:∀c,c∈X\/c∈aI->c.2.LayV zl (λj=>I.look D (j:Nat)):=λc k=>(a7 c k).congr (λj a=>by
       have ad:j∈zE X\/j∈zE aI:=k.imp (λh=>zU h a) (λh=>zU h a);have aE:j∉u.blocks++v.blocks:=ad.elim (cp j) (co j);have b9:=a6 j (ad.imp id .inr);have aV:j≠b:=λf=>ad.elim (λh=>cm (f▸h)) (λh=>b6 (f▸h));show I.look D (j:Nat)=d.look D (j:Nat)
       rw [bc j aV (by omega) (λf=>aE (f▸a5)),bA j (λf=>aE (f▸a2))])
      rcases ah.1 k with U|y;.exact aC c (.inl U)
      .rcases ar.1 y with rfl|y
       .refine YC aS aT bv ?_ (λj a x h2=>?_)
        .show I.look D (u.blk:Nat)=_;rw [bc u.blk cf (by omega) ct,cn]
        .have b9:=a6 j (.inr (.inl a));show I.look D (j:Nat)=d.look D (j:Nat);rw [bc j (λf=>bu (f▸a)) (by omega) h2,bA j x]
       .exact aC c (.inr y)
     .rw [zy];have:¬l.length<3:=by simpa using bZ
      omega
     .have E:=b3.below r J (by omega);rw [<-ba] at E;refine(vJ w Y bd S T {D with reads:=r} C H J (by show r<=_;omega) b g.1 _ ae aA (by omega) ay (by rw [zF];exact aJ) p (4*h+1) (by omega) _ ⟨_,_,_,_,_,rfl⟩ true true d A.length a9 a4 E (decide (l.length<3)) true I (.inr ⟨rfl,rfl,l,aq,cv.reads r,aW,bg,by omega,decide_eq_decide.2 (by omega),be.symm⟩)).mono ?_;rintro R w' ⟨k1,⟨n,ap,k2,k3,aR,a0⟩,aZ⟩;exact⟨k1,⟨n,ap,k2,by omega,aR,a0⟩,aZ⟩
    .have bX:(u.items++v.items).length<=12:=by rw [ag];have:=aB.2.1;have:=aY.2.1;simp only at *; omega
     have cv:Zl Y bd S D d ((A++(q,tc)::B).map jO) A.length (((A++(q,tc)::B).map jO).set (X.length+1) ⟨((u.items++v.items).getD ((u.items++v.items).length/2) gR).pl,false,0,v.blk⟩) ((d.put u.blk (zl (zc (zN h) ((u.items++v.items).take ((u.items++v.items).length/2))))).put v.blk (zl (zc (zN h) ((u.items++v.items).drop ((u.items++v.items).length/2))))):=
      Yw Y bd S D d N M.cln.map ((A++(q,tc)::B).map jO) (by omega) A.length (X.length+1) bW a1 u.blk (v.blk-21) (by rw [bK];rfl) (by rw [bt,a3];rfl) aB.1.blk (by omega) (by omega) (zN h) (Z3 h) u.items v.items aB.1.items_ok aY.1.items_ok (bG u) (bG v) aB.2.1 aY.2.1 bU bB bH (by omega) _ _ (.inr ⟨by omega,by rw [bt];rfl,by rw [a3]⟩)
     rw [<-a8] at cv cj
     have cb:=(Ur (m:=(u.join v).items.length/2) (b:=v.blk) gR (Zn aB.1 aY.1 (p:=an) (by
      have k2:Kids ((X++[(Q,u)])++(an,v)::aI):=by rw [ak];exact bb
      exact k2.mid.2.2.2.2.1) (λR o=>by
      have k2:Kids ((X++[(Q,u)])++(an,v)::aI):=by rw [ak];exact bb
      exact k2.mid.2.2.1 R (by rw [zA,zr];simp [o]))) (by
      have bV:yL (zI (A++(q,tc')::B)):=by rw [cy];exact aK.del
      rw [P.eq] at bV
      exact(bb.pair bV).2.2.1) (by rw [a8];omega)).2.1
     obtain⟨bY,cJ,bT,bJ⟩:∃bY,(bY=u.blk\/bY=v.blk)/\(u.blk∈W\/u.blk=bY)/\(v.blk∈W\/v.blk=bY):=by
      rcases b4 with h|h;.exact⟨v.blk,.inr rfl,.inl h,.inr rfl⟩
      .exact⟨u.blk,.inl rfl,.inr rfl,.inl h⟩
     have aG:=((M.shr.trans (gh.put D d N u.blk (zl (zc (zN h) ((u.join v).items.take ((u.join v).items.length/2)))))).trans (gh.put D _ N v.blk (zl (zc (zN h) ((u.join v).items.drop ((u.join v).items.length/2)))))).trans (gh.put D _ _ b (zl (zc 4 (((A++(q,tc)::B).map jO).set (X.length+1) ⟨((u.join v).items.getD ((u.join v).items.length/2) gR).pl,false,0,v.blk⟩))));rw [show V++[]++[]++[]=V from by simp] at aG;have aP:=((M.cln.put (i:=u.blk) (by omega) (zl (zc (zN h) ((u.join v).items.take ((u.join v).items.length/2))))).put (i:=v.blk) (by omega) (zl (zc (zN h) ((u.join v).items.drop ((u.join v).items.length/2))))).put bP (zl (zc 4 (((A++(q,tc)::B).map jO).set (X.length+1) ⟨((u.join v).items.getD ((u.join v).items.length/2) gR).pl,false,0,v.blk⟩)));have b7:=Ut g ab aK aO bl L P (by omega) gR ((u.items++v.items).length/2) rfl;rw [<-a8] at b7 aQ bX
     have aW:∀R∈((A++(q,tc)::B).map jO).set (X.length+1) ⟨((u.join v).items.getD ((u.join v).items.length/2) gR).pl,false,0,v.blk⟩,R.Ok:=λR o=>by
      rcases il o with o|rfl;.exact ae R o
      .exact cb.en aY.1.blk
     have bg:(((A++(q,tc)::B).map jO).set (X.length+1) ⟨((u.join v).items.getD ((u.join v).items.length/2) gR).pl,false,0,v.blk⟩).length<=6:=by rw [ew];omega
     have bN:((A++(q,tc)::B).map jO).set (X.length+1) ⟨((u.join v).items.getD ((u.join v).items.length/2) gR).pl,false,0,v.blk⟩=(X++(Q,(u.join v).cutL ((u.join v).items.length/2))::(((u.join v).items.getD ((u.join v).items.length/2) gR).pl,(u.join v).cutR ((u.join v).items.length/2) v.blk)::aI).map jO:=by rw [cj];simp [jO,(JD ((u.join v).items.length/2) v.blk (u.join v)).1,(JD ((u.join v).items.length/2) v.blk (u.join v)).2,aj]
     have b2:=de (b:=b) (q':=((u.join v).items.getD ((u.join v).items.length/2) gR).pl) ((u.join v).items.length/2) O P;have cQ:=qw d u.blk (zl (zc (zN h) ((u.join v).items.take ((u.join v).items.length/2))));have cR:=qw (d.put u.blk (zl (zc (zN h) ((u.join v).items.take ((u.join v).items.length/2))))) v.blk (zl (zc (zN h) ((u.join v).items.drop ((u.join v).items.length/2))));have hcut:=λ(rd:Nat->List Value)=>Ga (pg:=zl) (rd:=rd) ((u.join v).items.length/2) v.blk (u:=u.join v);generalize (u.join v).items.length/2=G at*;generalize ((u.join v).items.getD G gR).pl=q' at*;generalize ((A++(q,tc)::B).map jO).set (X.length+1) ⟨q',false,0,v.blk⟩=l at*;have lb:(((d.put u.blk (zl (zc (zN h) ((u.join v).items.take G)))).put v.blk (zl (zc (zN h) ((u.join v).items.drop G)))).put b (zl (zc 4 l))).look D (b:Nat)=zl (zc 4 l):=qn _ _ _ _
     have cM:(((d.put u.blk (zl (zc (zN h) ((u.join v).items.take G)))).put v.blk (zl (zc (zN h) ((u.join v).items.drop G)))).put b (zl (zc 4 l))).look D (v.blk:Nat)=zl (zc (zN h) ((u.join v).items.drop G)):=by rw [zZ _ _ _ _ _ (by omega)];exact qn _ _ _ _
     have bA:(((d.put u.blk (zl (zc (zN h) ((u.join v).items.take G)))).put v.blk (zl (zc (zN h) ((u.join v).items.drop G)))).put b (zl (zc 4 l))).look D (u.blk:Nat)=zl (zc (zN h) ((u.join v).items.take G)):=by rw [zZ _ _ _ _ _ (by omega),zZ _ _ _ _ _ (by omega)];exact qn _ _ _ _
     have bc:∀j:Nat,j≠b->j≠u.blk->j≠v.blk->(((d.put u.blk (zl (zc (zN h) ((u.join v).items.take G)))).put v.blk (zl (zc (zN h) ((u.join v).items.drop G)))).put b (zl (zc 4 l))).look D (j:Nat)=d.look D (j:Nat):=λj x h2 ax=>by rw [zZ _ _ _ _ _ (by omega),zZ _ _ _ _ _ (by omega),zZ _ _ _ _ _ (by omega)]
     have cO:=qw ((d.put u.blk (zl (zc (zN h) ((u.join v).items.take G)))).put v.blk (zl (zc (zN h) ((u.join v).items.drop G)))) b (zl (zc 4 l));have cu:l.length=(X++(Q,(u.join v).cutL G)::(q',(u.join v).cutR G v.blk)::aI).length:=by rw [bN];simp
     generalize cc:(d.put u.blk (zl (zc (zN h) ((u.join v).items.take G)))).put v.blk (zl (zc (zN h) ((u.join v).items.drop G)))=aq at*;generalize be:aq.put b (zl (zc 4 l))=I at*
     have b5:gh D C I m N (W++[bY,b]) V:=aG.sub (λj a=>.inl (by
      simp only [ah,ar,ic,or_false] at a ⊢;rcases a with((a|a)|a)|a;.exact .inl a
      .rw [a];exact bT.imp id .inl
      .rw [a];exact bJ.imp id .inl
      .exact .inr (.inr a))) (λj _ a=>by
      simp only [ah,ar,ic,or_false] at a ⊢;rcases a with((a|a)|a)|a;.exact .inl a
      .rw [a];exact bT.imp id .inl
      .rw [a];exact bJ.imp id .inl
      .exact .inr (.inr a))
     refine .inl ⟨e,I,N,decide (l.length<3),W++[bY,b],V,⟨aP,b5,λj a=>?_,λ_=>by simp [Tr.blk],by have:=M.pl;simp;omega,by omega,bi,M.at_,_,b7,⟨?_,λc k=>?_⟩,b2,λbZ=>.inr ?_⟩,⟨λw r J x H=>?_⟩⟩
     .show j∈b::zE (A++(q,tc)::B);rcases ah.1 a with a|a;.exact am _ (zU F (M.sub j a))
      .simp only [ar,ic,or_false] at a;rcases a with rfl|rfl
       .rcases cJ with rfl|rfl;.exact am _ bS
        .exact am _ hmv
       .exact al ..
     .show I.look D (b:Nat)=zl (zc 4 (List.map jO _));rw [lb,bN]
     .have aC:∀c,c∈X\/c∈aI->c.2.LayV zl (λj=>I.look D (j:Nat)):=λc k=>(a7 c k).congr (λj a=>by
       have ad:=k.imp (λh=>zU h a) (λh=>zU h a);have aE:=ad.elim (cp j) (co j);have aV:j≠b:=λf=>ad.elim (λh=>cm (f▸h)) (λh=>b6 (f▸h));show I.look D (j:Nat)=d.look D (j:Nat)
       exact bc j aV (λf=>aE (f▸a2)) (λf=>aE (f▸a5)))
      obtain⟨cF,cz⟩:=hcut (λj=>I.look D (j:Nat)) (λcV bM ch=>YC aS aT bv (by rw [aj,a8] at bM;exact bM) (λj a x h2=>by
       rw [ch j (by rw [aj];exact x)]
       exact bc j (λf=>bu (f▸a)) x h2)) (KM bv) (by rw [aj];exact bA) cM
      have ao:=k;rcases ah.1 ao with U|y;.exact aC c (.inl U)
      .rcases ar.1 y with rfl|y;.exact cF
       .rcases ar.1 y with rfl|y;.exact cz
        .exact aC c (.inr y)
     .rw [zy];have:¬l.length<3:=by simpa using bZ
      omega
     .have E:=b3.below r J (by omega);rw [<-ba] at E;refine(vJ w Y bd S T {D with reads:=r} C H J (by show r<=_;omega) b g.1 _ ae aA (by omega) ay (by rw [zF];exact aJ) p (4*h+1) (by omega) _ ⟨_,_,_,_,_,rfl⟩ true true d A.length a9 a4 E (decide (l.length<3)) true I (.inr ⟨rfl,rfl,l,aq,cv.reads r,aW,bg,by omega,decide_eq_decide.2 (by omega),be.symm⟩)).mono ?_;rintro R w' ⟨k1,⟨n,ap,k2,k3,aR,a0⟩,aZ⟩;exact⟨k1,⟨n,ap,k2,by omega,aR,a0⟩,aZ⟩
  .refine .inr ⟨λR o f=>?_,⟨λw r J x H=>?_⟩⟩
   .have o:R∈zI (A++(q,tc)::B):=o;obtain⟨u1,u2⟩:=bq.unroute aO bl;rw [zA,zr] at o;rcases ah.1 o with o|o;.exact u1 R o f
    .rcases ah.1 o with o|o;.exact cr R o f
     .exact u2 R o f
   .have E:=b3.below r J (by omega);rw [<-ba] at E;refine(vJ w Y bd S T {D with reads:=r} C H J (by show r<=_;omega) b g.1 _ ae aA (by omega) ay (by rw [zF];exact aJ) p (4*h+1) (by omega) _ ⟨_,_,_,_,_,rfl⟩ false false C A.length a9 a4 E false false C (.inl ⟨rfl,rfl,rfl,rfl⟩)).mono ?_;rintro R w' ⟨k1,⟨n,ap,k2,k3,aR,a0⟩,aZ⟩;exact⟨k1,⟨n,ap,k2,by omega,aR,a0⟩,aZ⟩
end prog
namespace prog
open ref
def fj(p k:ByteArray):Bool:=p.data.toList.isPrefixOf k.data.toList
theorem bI:∀(p a b:List UInt8),qB a p=false->qB b a=false->p.isPrefixOf b=true->p.isPrefixOf a=true
 |[],_,_,_,_,_=>rfl
 |_::_,_,[],_,_,h=>by simp at h
 |_::_,[],_::_,h,_,_=>by simp [qB] at h
 |x::p,z::a,y::b,h1,h2,c=>by
  simp only [List.isPrefixOf_cons_cons,aW,mx] at c ⊢;obtain⟨rfl,c⟩:=c;unfold qB at h1 h2;by_cases e:z=x
  .subst e;rw [aB rfl] at h1 h2;exact⟨rfl,bI p a b h1 h2 c⟩
  .rw [aw e] at h1;rw [aw (iw e)] at h2;have d:¬z<x:=iF h1;have f:¬x<z:=iF h2;have g:z.toNat≠x.toNat:=λh=>e (lK.1 h);rw [lB] at d f;omega
theorem kM:∀(p a:List UInt8),p.isPrefixOf a=true->qB a p=false
 |[],[],_=>rfl
 |[],_::_,_=>rfl
 |_::_,[],h=>by simp at h
 |x::p,y::a,h=>by simp only [List.isPrefixOf_cons_cons,aW,mx] at h;obtain⟨rfl,h⟩:=h;unfold qB;rw [aB rfl];exact kM p a h
theorem KN{a b c:ByteArray}(h:qu a b=true)(k:qu c b=false):qu a c=true:=by
 by_cases e:c=b;.rw [e];exact h
 .exact jC h (yQ e k)
theorem YF{k:ByteArray}(h:k≠ByteArray.empty):qu ByteArray.empty k=true:=by
 cases a:qu ByteArray.empty k with
 |true=>rfl
 |false=>
  have:=yQ (iw h) a;have e:∀l:List UInt8,qB l []=false:=λl=>by cases l<;>rfl
  exact absurd this (by show ¬qB k.data.toList []=true;rw [e];simp)
def x8(p k:ByteArray)(n:Int):Pl:=if qu k p=true then ⟨p,9223372036854775807⟩ else ⟨k,n-1⟩
def YG(p k:ByteArray)(n:Int)(es:List En):List En:=(yP (x8 p k n) es).takeWhile λx=>fj p x.pl.key
theorem yL.run{p:ByteArray}:∀{l:List En},yL l->(∀e∈l,qu e.pl.key p=false)->l.takeWhile (λe=>fj p e.pl.key)=l.filter λe=>fj p e.pl.key
 |[],_,_=>rfl
 |a::l,h,hp=>by
  have h2:=aL.1 h
  cases c:fj p a.pl.key with
  |true=>
   have j:=yL.run (p:=p) (l:=l) h2.2 (λe d=>hp e (am _ d));simp only [mi,eX,c,if_true,j]
  |false=>
   simp only [mi,eX,c,lS,if_false];symm;rw [iA];intro b i g;have f:=h2.1 b i
   have k:qu b.pl.key a.pl.key=false:=by
    cases d:qu b.pl.key a.pl.key with
    |false=>rfl
    |true=>
     have:b.pl.lt a.pl=true:=(Pl.lt_iff _ _).2 (.inl d);exact absurd this (Pl.asymm f)
   have:=bI p.data.toList a.pl.key.data.toList b.pl.key.data.toList (hp a (al ..)) k g;rw [show p.data.toList.isPrefixOf a.pl.key.data.toList=fj p a.pl.key from rfl,c] at this;cases this
theorem Z4(b:En)(v:zB)(f:v.key=b.pl.key/\v.num=b.pl.num)(p k:ByteArray)(n:Int)(g:b.pl.key≠ByteArray.empty)(m:b.pl.num<9223372036854775807):qU v p k n=(fj p b.pl.key&& !b.pl.lt (x8 p k n)):=by
 unfold qU;rw [f.1,f.2];show (fj p b.pl.key&&_)=_
 cases i:fj p b.pl.key with
 |false=>rfl
 |true=>
  rw [lI,lI];have c:qu b.pl.key p=false:=kM _ _ i;rw [Bool.eq_iff_iff];simp only [iY,aW,aR,iy,i4,ne_eq,Pl.lt_iff];unfold x8;by_cases d:qu k p=true
  .rw [aB d];have j:qu k b.pl.key=true:=KN d c;refine⟨λ_ a=>?_,λ_=>.inl (.inr j)⟩;rcases a with a|⟨_,a⟩;.simp only at a;rw [c] at a;cases a
   .simp only at a;omega
  .rw [aw d];simp only;constructor
   .rintro((h|h)|⟨h,h2⟩) a
    .subst h;rcases a with a|⟨a,_⟩
     .have:=YF g;rw [fs this] at a;cases a
     .exact g a
    .rcases a with a|⟨a,_⟩;.rw [fs h] at a;cases a
     .rw [a,yB] at h;cases h
    .rcases a with a|⟨_,a⟩;.rw [h,yB] at a;cases a
     .omega
   .intro a;by_cases e:b.pl.key=k
    .refine .inr ⟨e,?_⟩;have:¬(n-1<b.pl.num):=λh=>a (.inr ⟨e,h⟩);omega
    .refine .inl (.inr (yQ e ?_))
     cases l:qu b.pl.key k with
     |false=>rfl
     |true=>exact absurd (.inl l) a
theorem fO{b:List En}(h:yL b)(f:En->zB)(m:∀a,(f a).key=a.pl.key/\(f a).num=a.pl.num)(p k:ByteArray)(n:Int)(i:∀a∈b,a.pl.key≠ByteArray.empty/\a.pl.num<9223372036854775807):YG p k n b=b.filter λa=>qU (f a) p k n:=by
 have l:yL (yP (x8 p k n) b):=i9 _ h;unfold YG;rw [l.run]
 .unfold yP;rw [mp];refine lX (λa c=>?_);rw [Z4 a (f a) (m a) p k n (i a c).1 (i a c).2]
 .intro a c;have h2:=(ei.1 c).2;have o:¬a.pl.lt (x8 p k n)=true:=by simpa using h2
  cases g:qu a.pl.key p with
  |false=>rfl
  |true=>
   refine absurd ?_ o;rw [Pl.lt_iff];unfold x8;by_cases d:qu k p=true;.rw [aB d];exact .inl g
   .rw [aw d];simp only;by_cases e:p=k;.rw [<-e];exact .inl g
    .refine .inl (jC g (yQ (iw e) ?_))
     cases j:qu k p with
     |false=>rfl
     |true=>exact absurd j d
theorem YH{d:List En}(h:yL d)(f:En->zB)(c:∀e,(f e).key=e.pl.key/\(f e).num=e.pl.num)(vs:List zB)(l:vs.Perm (d.map f))(p k:ByteArray)(n:Int)(j:∀e∈d,e.pl.key≠ByteArray.empty/\e.pl.num<9223372036854775807):yw vs p k n ((YG p k n d).map f) where
 sorted:=by rw [fO h f c p k n j,List.pairwise_map];refine(i9 _ h).imp (λ{a b} g=>?_);rw [zB.ahead_iff,(c a).1,(c b).1,(c a).2,(c b).2];exact(Pl.lt_iff _ _).1 g
 perm:=by rw [fO h f c p k n j];have i:=l.filter (λv=>qU v p k n);rw [List.filter_map] at i;exact i.symm
end prog
namespace prog
open Go.ChangeShapes Go.WideShapes Go.ChangeAt Go.RowKit disk ref
open keys (zh zd zx zq)
attribute [local go_sem] Oper.semAt_some
variable {f:En->Bool}{pre:List En}
theorem bJ(w:World)(a b:ByteArray)(d:a.size<=9223372036854775807)(c:b.size<=9223372036854775807):
 Calls Tryz.prog 159 #[.string a,.string b] w λe w'=>e=.returned (.bool (fj b a))/\w'=w:=by
 by_cases h:b.size<=a.size
 .go_enter Tryz.func159,Tryz.ntmps159;go_wp2;go_ret;exact⟨zd (gt a b h),rfl⟩
 .go_enter Tryz.func159,Tryz.ntmps159;go_wp2;go_ret;exact⟨zd (kU a b (by omega)).symm,rfl⟩
theorem cC(w:World)(a b:ByteArray)(f:a.size<=9223372036854775807)(d:b.size<=9223372036854775807):
 Calls Tryz.prog 115 #[.string a,.string b] w λe w'=>e=.returned (.bool (fj b a))/\w'=w:=by
 go_enter Tryz.func115,Tryz.ntmps115;go_wp2_with (go_at_call 159;refine(bJ w a b f d).mono ?_;rintro e g ⟨rfl,c⟩;rw [c];clear c g);go_ret;exact⟨rfl,rfl⟩
def veV(x:En):List Value:=[.string x.pl.key,.int .i64 x.pl.num,.bool x.mark,.int .i64 (x.size:Int)]
def vk(l:List En):List Value:=(l.map veV).flatten
theorem XZ(l:List En)(a:En):vk (l++[a])=vk l++veV a:=by simp [vk]
theorem Tryz.infoVersion:(Tryz.prog.info? 94).map (λi=>(i.zero,i.size,i.bytes))=some (some (.agg #[.string ⟨#[]⟩,.int .i64 0,.bool false,.int .i64 0]),4,40):=by kernel_rfl
structure KO (B b9:Nat) (m:Nat) (more:Bool) (L:List En) (A:World) (v:Value):Prop where
 at_:A.heap[b9]? =some (.cells #[v,.bool more] 90 (0,0))
 own:A.ownsRow 0 94 4 v L.length (vk L)
 form:∃a c,v=.slice a L.length c
 ge:∀k,v.ownBlock=some k->B<=k
structure G7 (w1:World) (bd:Nat) (S:Nat->Prop) (D:Dk) (b9:Nat) (f:En->Bool) (most:Nat) (r:Int) (pre:List En) (Q:Nat->Prop) (A:World):Prop where
 pg:∃v,KO (w1.heap.size+2) b9 most false pre A v/\∀k,Q k↔v.ownBlock=some k
 all:∀x∈pre,f x=true
 len:pre.length<=most
 disk:zg A bd S {D with reads:=r}
 kept:za (λk=>k=bd\/k=b9\/w1.heap.size<=k) w1 A
 rd:D.reads+1<=r
structure Dt (w1:World) (bd:Nat) (S:Nat->Prop) (D:Dk) (b9:Nat) (L:List En) (most:Nat) (c:Code) (r:Int) (A:World):Prop where
 c:c=.exit 0
 pg:∃v,KO (w1.heap.size+2) b9 most (decide (most<L.length)) (L.take most) A v
 disk:zg A bd S {D with reads:=r}
 kept:za (λk=>k=bd\/k=b9\/w1.heap.size<=k) w1 A
 rd:D.reads+1<=r/\r<=D.reads+1000
theorem KO.kept{B b m:Nat}{a:Bool}{L:List En}{A c:World}{v:Value}{i:Nat->Prop}(h:KO B b m a L A v)(d:za i A c)(f:¬i b)(e:∀k,B<=k->¬i k):KO B b m a L c v:=
 ⟨(d.block _ (lT h.at_) f).trans h.at_,d.owns h.own (λj g=>e j (h.ge j g)),h.form,h.ge⟩
theorem G7.by{a:World}{bd:Nat}{S:Nat->Prop}{D:Dk}{c:Nat}{b:Nat}{r e:Int}{Q p:Nat->Prop}{A B:World}(h:G7 a bd S D c f b r pre Q A)(j:za p A B)(d:∀k,p k->k=bd\/k=a.heap.size\/k=a.heap.size+1)(m:zg B bd S {D with reads:=e })(o:r<=e)(t:c<a.heap.size/\c≠bd)(q:bd<a.heap.size):G7 a bd S D c f b e pre Q B:=by
 obtain⟨v,l,h2⟩:=h.pg;exact⟨⟨v,l.kept j (λg=>by have:=d _ g;omega) (λk s g=>by have:=d _ g;omega),h2⟩,h.all,h.len,m,h.kept.trans j (λi n=>by have:=d i n;exact .inl (by omega)),lC h.rd o⟩
theorem JE:∀{l:List En},(∀b∈l,f b=true)->l.takeWhile f=l
 |[],_=>rfl
 |a::l,h=>by have c:=JE (l:=l) (λb d=>h b (am _ d));simp only [mi,h a (al ..),if_true,c]
theorem Uv{l:List En}{c:En}(h:(pre++[c])<+:l)(a:∀d∈pre,f d=true)(b:f c=false):l.takeWhile f=pre:=by
 obtain⟨z,rfl⟩:=h;rw [ak,List.takeWhile_append_of_pos a];simp [b]
theorem Uw{l:List En}{a:En}(h:(pre++[a])<+:l)(b:∀d∈pre,f d=true)(c:f a=true):pre.length<(l.takeWhile f).length/\(l.takeWhile f).take pre.length=pre:=by
 obtain⟨z,rfl⟩:=h
 have:((pre++[a])++z).takeWhile f=pre++a::z.takeWhile f:=by rw [ak,List.takeWhile_append_of_pos b];simp [c]
 rw [this];simp
theorem Ux(w:World)(bs bd:Nat)(S:Nat->Prop)(D:Dk)(k:Int)(a9:zu w bs k (some bd))(V:zg w bd S D)(ce:¬S bs)(bG:0<=D.reads)(cq:D.reads<=4611686018427360000)(O n:Nat)(bf:qT (D.look 1) O n)(x:ByteArray)(bq:x.size<=9223372036854775807)(p:Pl)(b:Nat)(bV:b<=1000)(aD:List En)(aH:List Nat)(hF:qY (λj=>D.look (j:Nat)) O aD aH)(bS:aH.length<=979)(hbs:∀j∈aH,21<=j)(aR:∀y∈aD,y.pl.key.size<=9223372036854775807)(L:List En)(bB:(yP p aD).takeWhile (λy=>fj x y.pl.key)=L):
 Calls Tryz.prog 67 #[.pointer (some ⟨bs,0,none⟩),.string x,.agg #[.string p.key,.int .i64 p.num],.int .i64 (b:Int)] w λe w'=>(∃a c,e=.returned (.agg #[.slice a (L.take b).length c,.bool (decide (b<L.length))])/\w'.ownsRow 0 94 4 (.slice a (L.take b).length c) (L.take b).length (vk (L.take b))/\∀j,(Value.slice a (L.take b).length c).ownBlock=some j->w.heap.size<=j)/\(∃r:Int,D.reads<=r/\r<=D.reads+1000/\zg w' bd S {D with reads:=r })/\za (λi=>i=bd) w w':=by
 have b1:Hid _:=a9;have bY:Hid (zg w bd S D):=V;have b3:Hid _:=bf;have b6:Hid _:=hF;have bK:Hid _:=hbs;have bk:Hid _:=aR;have a4:Hid _:=bB;have hbs:=a9.lt;have co:=V.lt bd V.bdS;have Z:Hid _:=V.lt;clear a9 V bf hF hbs aR bB;obtain⟨aA,aU,aO,a3,a2⟩:=eZ Tryz.infoVersion;have X:Hid (Tryz.prog.info? 94=some aA/\aA.zero=some (.agg #[.string ⟨#[]⟩,.int .i64 0,.bool false,.int .i64 0])/\aA.size=4/\aA.bytes=40):=⟨aU,aO,a3,a2⟩;clear aU aO a3 a2;refine yz Tryz.func67 rfl ?_;simp only [Tryz.ntmps67,aq,ae,hO,Nat.reduceAdd,Nat.reduceSub,iN,iO,i5,iR,aK,aT];go_wp2_with fail;obtain⟨br,b2,bz,k3,bX⟩:=vG w (.cells #[.string x] 9) (.cells #[.string p.key,.int .i64 p.num] 107) (.cells #[.int .i64 (b:Int)] 3);have bC:Hid _:=br;have bT:Hid _:=bz;have bF:Hid _:=k3;clear br b2 bz k3;generalize (((w.alloc (.cells #[.string x] 9)).alloc (.cells #[.string p.key,.int .i64 p.num] 107)).alloc (.cells #[.int .i64 (b:Int)] 3))=C at*;have ar:Hid (za (λ_=>False) C ((C.alloc (.cells #[.slice none 0 0,.bool false] 90)).alloc (.cells #[.slice none 0 0,.bool false] 90))):=za.alloc2 _ _ _;have bO:Hid (((C.alloc (.cells #[.slice none 0 0,.bool false] 90)).alloc (.cells #[.slice none 0 0,.bool false] 90)).heap[C.heap.size]? =some (.cells #[.slice none 0 0,.bool false] 90 (0,0))):=((za.alloc (λ_=>False) _ _).block C.heap.size (by simp) id).trans (ac C _);have bN:Hid (((C.alloc (.cells #[.slice none 0 0,.bool false] 90)).alloc (.cells #[.slice none 0 0,.bool false] 90)).heap[C.heap.size+1]? =some (.cells #[.slice none 0 0,.bool false] 90 (0,0))):=eF C _ _;have ck:((C.alloc (.cells #[.slice none 0 0,.bool false] 90)).alloc (.cells #[.slice none 0 0,.bool false] 90)).heap.size=C.heap.size+2:=by simp
 generalize ((C.alloc (.cells #[.slice none 0 0,.bool false] 90)).alloc (.cells #[.slice none 0 0,.bool false] 90))=ch at*;have ag:Hid (za (λ_=>False) w ch):=bF.out.trans ar.out iL;refine(jc ch bs bd S D k (b1.out.kept ag.out id) (bY.out.kept ag.out nF) ce bG (by omega) O n b3.out p).mono ?_;rintro e s ⟨bg,bb,be,rfl,ay,cl,aP,I⟩;have bH:Hid _:=ay;have aQ:Hid (zg s bd S {D with reads:=D.reads+1 }):=aP;have bl:Hid _:=I;have b7:=I.size;have bI:Hid (s.heap[w.heap.size]? =some (.cells #[.string x] 9 (0,0))):=(I.block _ (by omega) (by omega)).trans ((ar.out.block _ (by omega) id).trans bC.out);have bP:Hid (s.heap[w.heap.size+2]? =some (.cells #[.int .i64 (b:Int)] 3 (0,0))):=(I.block _ (by omega) (by omega)).trans ((ar.out.block _ (by omega) id).trans bT.out);have ab:Hid (s.heap[C.heap.size]? =some (.cells #[.slice none 0 0,.bool false] 90 (0,0))):=(I.block _ (by omega) (by omega)).trans bO.out;have aZ:Hid (s.heap[C.heap.size+1]? =some (.cells #[.slice none 0 0,.bool false] 90 (0,0))):=(I.block _ (by omega) (by omega)).trans bN.out;rw [bX] at ab aZ;have a6:Hid _:=(ag.out.mono fE).trans bl.out iL;clear ay aP I;go_wp2_with fail;have aW:Hid (∀j,S j->j<s.heap.size):=aQ.out.lt
 have ai:Hid (∀(A:World) (r:Int) (z:Bool) (T:List En) (o:Option Addr) (q:Nat) (a:Act),T=L.take b->z=decide (b<L.length)->KO (s.heap.size+2) (w.heap.size+4) b z T A (.slice o T.length q)->zg A bd S {D with reads:=r}->D.reads<=r->r<=D.reads+1000->za (λk=>k=bd\/k=w.heap.size+4\/s.heap.size<=k) s A->A.heap[s.heap.size]? =some (.deferred (some []))->a.defers=[{target:=.collected s.heap.size,args:=#[] }]->a.tmps.getD 8 undef=.pointer (some ⟨w.heap.size+3,0,none⟩)->
  Ye Tryz.prog Tryz.f67 (λe w'=>(∃a c,e=.returned (.agg #[.slice a (L.take b).length c,.bool (decide (b<L.length))])/\w'.ownsRow 0 94 4 (.slice a (L.take b).length c) (L.take b).length (vk (L.take b))/\∀j,(Value.slice a (L.take b).length c).ownBlock=some j->w.heap.size<=j)/\(∃r:Int,D.reads<=r/\r<=D.reads+1000/\zg w' bd S {D with reads:=r })/\za (λi=>i=bd) w w') .ret a ((A.setCell ⟨w.heap.size+3,0,none⟩ (.slice o T.length q)).setCell ⟨w.heap.size+3,1,none⟩ (.bool z))):=by
  rintro A r z T o q a rfl rfl aI V cc G d K ca b0;have t:A.heap[w.heap.size+3]? =_:=(d.block _ (by omega) (by omega)).trans ab.out;have bv:=heap_setCell_same A (w.heap.size+3) 0 _ _ (.slice o (L.take b).length q) t;have bM:=heap_setCell_same _ (w.heap.size+3) 1 _ _ (.bool (decide (b<L.length))) bv;have E:za (λj=>j=w.heap.size+3) A ((A.setCell ⟨w.heap.size+3,0,none⟩ (.slice o (L.take b).length q)).setCell ⟨w.heap.size+3,1,none⟩ (.bool (decide (b<L.length)))):=(za.setCell (S:=λj=>j=w.heap.size+3) A ⟨w.heap.size+3,0,none⟩ _ rfl).trans (za.setCell (S:=λj=>j=w.heap.size+3) _ ⟨w.heap.size+3,1,none⟩ _ rfl) iL;generalize ((A.setCell ⟨w.heap.size+3,0,none⟩ (.slice o (L.take b).length q)).setCell ⟨w.heap.size+3,1,none⟩ (.bool (decide (b<L.length))))=cn at*;have cj:=E.size;have bo:=(lT K);have bD:=(E.block _ bo (by omega)).trans K;have aC:za (λk=>k=s.heap.size) cn (cn.putObj s.heap.size (.deferred none)):=za.putObj _ _ _ rfl;have bJ:=(aC.block _ (by omega) (by omega)).trans bM;refine jh ca bD (results_cell_row Tryz.results67 _ _ (w.heap.size+3) 90 _ (0,0) _ b0 bJ Tryz.underlying90 rfl (by kernel_rfl)) ⟨⟨o,q,rfl,aC.owns (E.owns aI.own (λj g ao=>by have:=aI.ge j g;omega)) (λj g ao=>by have:=aI.ge j g;omega),λj g=>by have:=aI.ge j g;omega⟩,⟨r,cc,G,(V.kept E (λj g ao=>by have:=Z.out j g;omega)).kept aC (λj g ao=>by have:=Z.out j g;omega)⟩,?_⟩
  exact((a6.out.trans d (λj g=>by
   rcases g with h|h|h;.exact .inl h
   .exact .inr (by omega)
   .exact .inr (by omega))).trans E (λj g=>.inr (by omega))).trans aC (λj g=>.inr (by omega))
 refine kf (α:=En) (gf:= 190) (lb:=#[.pointer (some ⟨bg,0,none⟩),.pointer (some ⟨bb,0,none⟩),.pointer (some ⟨be,0,none⟩)]) rfl (enters_of Tryz.func190 (by kernel_rfl) rfl)
  (λb5 d cf=>Yj b5 bd S D bg bb be O p (bH.out.kept d id id id) aD aH b6.out bS bK.out (by omega) (D.reads+1) (by omega) (by omega))
  (λk d=>by rw [d];omega) (λ_=>rfl)
  (G7 s bd S D (w.heap.size+4) (λy=>fj x y.pl.key) b) (λc r pre A=>Dt s bd S D (w.heap.size+4) L b c r A)
  (λr pre Q A h=>⟨h.disk,λk d=>by
   obtain⟨v,G,h2⟩:=h.pg;have aE:=(h2 k).1 d;have cw:=G.ge k aE;have bu:=(G.own.lt k aE).2
   omega⟩)
  (λr cx pre Q A B h cd d f=>h.by d (λk d=>.inl d) f cd (by omega) (by omega))
  (λr pre Q A B h d=>h.by d (λk d=>.inr d) (h.disk.kept d (λj g W=>by have:=aW.out j g;omega)) (eb _) (by omega) (by omega))
  (λc r pre A B h d=>⟨h.c,by
   obtain⟨v,G⟩:=h.pg
   exact⟨v,G.kept d (by omega) (λk bf W=>by omega)⟩,h.disk.kept d (λj g W=>by have:=aW.out j g;omega),h.kept.trans d (λi f=>.inl (.inr (.inr (by omega)))),h.rd⟩)
  ⟨⟨_,⟨aZ.out,aV _ 0 94 4,⟨none,0,rfl⟩,λk d=>by cases d⟩,λk=>by simp [Value.ownBlock]⟩,λ_ h=>(nomatch h),aj _,aQ.out,za.refl _ _,eb _⟩
  (λy bx A=>∃M,s.heap.size+1<M/\A.heap[M]? =some (.cells (qr y).toArray 109 (0,0))/\bx={tmps:=#[.pointer (some ⟨bs,0,none⟩),.string x,.agg #[.string p.key,.int .i64 p.num],.int .i64 (b:Int),undef,.pointer (some ⟨w.heap.size,0,none⟩),.pointer (some ⟨w.heap.size+1,0,none⟩),.pointer (some ⟨w.heap.size+1+1,0,none⟩),.pointer (some ⟨w.heap.size+1+1+1,0,none⟩),.pointer (some ⟨w.heap.size+1+1+1+1,0,none⟩),.pointer (some ⟨M,0,none⟩),.pointer (some ⟨bs,0,none⟩),.agg #[.string p.key,.int .i64 p.num],.func (.func 190) #[] #[.pointer (some ⟨bg,0,none⟩),.pointer (some ⟨bb,0,none⟩),.pointer (some ⟨be,0,none⟩)],.agg (qr y).toArray,undef,undef,undef,undef,undef,undef,undef,undef,undef,undef,undef,undef,undef,undef,undef,undef,undef,undef,undef,undef,undef,undef,undef,undef,undef,undef,undef,undef,undef],defers:=[] })
  (λy a A B h d=>by
   obtain⟨M,G,h2,aE⟩:=h
   exact⟨M,G,(d.block _ (lT h2) (by omega)).trans h2,aE⟩)
  (λr pre y A B h _=>h) ?assign ?body ?done ?stop
 case assign=>
  intro l r pre y Q A cA f af bw K;dsimp only [qr];gi_wp2;exact K _ _ (za.alloc _ _ _) (f.by (za.alloc (λ_=>False) _ _) (λ_ h=>h.elim) (f.disk.kept (za.alloc (λ_=>False) _ _) nF) (eb _) (by omega) (by omega)) af ⟨A.heap.size,by omega,ac A _,rfl⟩
 case body=>
  rintro l r pre y Q bx A f af ⟨M,cg,aL,rfl⟩ bw;obtain⟨v,u,aF⟩:=f.pg;obtain⟨o,q,rfl⟩:=u.form;have F:Hid _:=f;have J:Hid _:=u;have a5:Hid (∀k,Q k↔(Value.slice o pre.length q).ownBlock=some k):=aF;have aB:Hid _:=aL;have aS:Hid _:=af.pre;have aX:r<=D.reads+1000:=by have:=af.le;omega
  have bh:=bk.out y (ei.1 (af.pre.subset (by simp))).1;have bi:=f.len;have bQ:Hid (A.heap[w.heap.size]? =_):=(f.kept.block _ (by omega) (by omega)).trans bI.out;have bA:Hid (A.heap[w.heap.size+2]? =_):=(f.kept.block _ (by omega) (by omega)).trans bP.out;have cu:A.cell? ⟨M,0,none⟩=some (.string y.pl.key):=cR aB.out rfl;have ct:A.cell? ⟨M,1,none⟩=some (.int .i64 y.pl.num):=cR aB.out rfl;have cv:A.cell? ⟨M,2,none⟩=some (.bool y.mark):=cR aB.out rfl;have cs:A.cell? ⟨M,3,none⟩=some (.int .i64 (y.size:Int)):=cR aB.out rfl;have bU:A.cell? ⟨w.heap.size,0,none⟩=some (.string x):=cR bQ.out rfl;have cr:A.cell? ⟨w.heap.size+1+1,0,none⟩=some (.int .i64 (b:Int)):=cR bA.out rfl;have bm:A.cell? ⟨w.heap.size+1+1+1+1,0,none⟩=some (.slice o pre.length q):=cR u.at_ rfl;have bR:A.cell? ⟨w.heap.size+1+1+1+1,1,none⟩=some (.bool false):=cR u.at_ rfl;have cy:=aa A (w.heap.size+1+1+1+1) 1 _ _ u.at_;clear f af u aF aL;gi_wp2_with fail;refine⟨eI,rfl,?_⟩;refine((yo l).calls (cC A y.pl.key x bh bq)).mono ?_;rintro e b4 ⟨rfl,aN⟩;rw [aN];clear aN b4
  cases P:fj x y.pl.key with
  |false=>
   have ad:Hid _:=P;clear P;gi_wp2;have N:=Uv aS.out F.out.all ad.out;rw [a4.out] at N;refine⟨za.refl _ _,rfl,⟨.slice o pre.length q,?_⟩,F.out.disk,F.out.kept,F.out.rd,aX⟩;rw [N,an bi,decide_eq_false (by omega)];exact J.out
  |true=>
   have ad:Hid _:=P;clear P;by_cases am:pre.length=b
   .have bp:((pre.length:Int)==(b:Int))=true:=by rw [am];simp
    have bL:Hid _:=am;clear am;gi_wp2;have N:=Uw aS.out F.out.all ad.out;rw [a4.out] at N;have E:=za.setCell (S:=λj=>j=w.heap.size+4) A ⟨w.heap.size+4,1,none⟩ (.bool true) rfl;refine⟨E.mono (λj g=>.inl (by omega)),rfl,⟨.slice o pre.length q,?_⟩,F.out.disk.kept E (λj g W=>by have:=Z.out j g;omega),F.out.kept.trans E (λj g=>.inl (.inr (.inl g))),F.out.rd,aX⟩;rw [<-bL.out,N.2,aJ N.1];exact⟨heap_setCell_same A (w.heap.size+4) 1 _ _ _ J.out.at_,E.owns J.out.own (λj g ao=>by have:=J.out.ge j g;omega),⟨o,q,rfl⟩,J.out.ge⟩
   .have bp:=beq_false_of_ne (by omega);have ak:Hid (za (λ_=>False) A (A.alloc (.cells #[.string y.pl.key,.int .i64 y.pl.num,.bool y.mark,.int .i64 (y.size:Int)] 94))):=za.alloc _ _ _;have bj:Hid ((A.alloc (.cells #[.string y.pl.key,.int .i64 y.pl.num,.bool y.mark,.int .i64 (y.size:Int)] 94)).heap[A.heap.size]? =some (.cells (veV y).toArray 94 (0,0))):=ac A _;have bn:Hid _:=J.out.own;gi_wp2_with (gi_at_builtin;refine(yo l).append_lies _ rfl _ _ 44 rfl 0 94 aA (.agg #[.string ⟨#[]⟩,.int .i64 0,.bool false,.int .i64 0]) 4 40 Tryz.underlying44 X.out.1 X.out.2.1 X.out.2.2.1 X.out.2.2.2 rfl (by decide) (.slice o pre.length q) pre.length (vk pre) rfl (ak.out.owns bn.out nF) ⟨A.heap.size,0,none⟩ 1 1 (veV y) rfl rfl (World.news_of_block bj.out) (by simp [veV,Value.oneCell']) (by decide) (by unfold maxLen;omega) (by omega) (aj _) (A.heap.size+1) (by simp) ?_;intro R al U au Y aM b9;have bt:Hid _:=au;have a0:Hid _:=aM;have aY:Hid (za (λk=>(Value.slice o pre.length q).ownBlock=some k) (A.alloc (.cells #[.string y.pl.key,.int .i64 y.pl.num,.bool y.mark,.int .i64 (y.size:Int)] 94)) U):=za.grown Y (λk d=>d);have aw:Hid (U.heap[w.heap.size+4]? =some (.cells #[.slice o pre.length q,.bool false] 90 (0,0))):=(aY.out.block _ (by simp;omega) (λW=>by have:=J.out.ge _ W;omega)).trans ((ak.out.block _ (by omega) id).trans J.out.at_);have cm:U.cell? ⟨w.heap.size+1+1+1+1,0,none⟩=some (.slice o pre.length q):=(cR aw.out rfl);have ci:U.frozen? ⟨w.heap.size+1+1+1+1,0,none⟩=false:=aa U (w.heap.size+4) 0 _ _ aw.out;clear au Y aM);have bu:=heap_setCell_same U (w.heap.size+4) 0 _ _ (.slice (some ⟨R,0,none⟩) (pre.length+1) al) aw.out;have E:=za.setCell (S:=λj=>j=w.heap.size+4) U ⟨w.heap.size+4,0,none⟩ (.slice (some ⟨R,0,none⟩) (pre.length+1) al) rfl;have ba:za (λk=>k=w.heap.size+4\/Q k) A (U.setCell ⟨w.heap.size+4,0,none⟩ (.slice (some ⟨R,0,none⟩) (pre.length+1) al)):=(((ak.out.mono fE).trans aY.out (λk d=>.inl (.inr ((a5.out k).2 d)))).trans E (λk d=>.inl (.inl d)))
    have cp:s.heap.size+2<=R:=by
     rcases a0.out with h|h;.exact J.out.ge R h
     .omega
    have H:(pre++[y]).length=pre.length+1:=by simp
    have a1:∀k,Q k->s.heap.size+2<=k:=λk d=>J.out.ge k ((a5.out k).1 d);refine⟨ba.mono (λk d=>by rcases d with h|h;exact .inl (by omega);exact .inr h),λk=>k=R,⟨⟨.slice (some ⟨R,0,none⟩) (pre.length+1) al,⟨bu,?_,⟨some ⟨R,0,none⟩,al,by rw [H]⟩,λk d=>?_⟩,λk=>?_⟩,λcz ap=>?_,by rw [H];omega,F.out.disk.kept ba (λj g W=>?_),?_,F.out.rd⟩,λk d=>?_⟩
    .rw [H,XZ];exact E.owns bt.out (λj g ao=>by simp [Value.ownBlock] at g;omega)
    .simp [Value.ownBlock] at d;omega
    .simp [Value.ownBlock];exact my
    .rcases ah.1 ap with ap|ap;.exact F.out.all cz ap
     .rw [az.1 ap];exact ad.out
    .have:=Z.out j g;rcases W with h|h;.omega
     .have:=a1 j h;omega
    .exact F.out.kept.trans ba (λk d=>by
      rcases d with h|h;.exact .inl (.inr (.inl h))
      .exact .inl (.inr (.inr (by have:=a1 k h;omega))))
    .rw [d];rcases a0.out with h|h;.exact .inl ((a5.out R).2 h)
     .exact .inr (by omega)
 case done=>
  rintro cb r bc Q A aG f rfl K;obtain⟨v,u,aF⟩:=f.pg;obtain⟨o,q,rfl⟩:=u.form;have ax:L=bc:=by rw [<-a4.out,<-aG.1];exact JE f.all
  have H:=f.len;have bE:=f.rd;have t:A.heap[w.heap.size+3]? =_:=(f.kept.block _ (by omega) (by omega)).trans ab.out;have av:Hid (∀a:Act,a.defers=[{target:=.collected s.heap.size,args:=#[] }]->a.tmps.getD 8 undef=.pointer (some ⟨w.heap.size+3,0,none⟩)->_):=λa G h2=>ai.out A r false bc o q a (by rw [ax,an H]) (by rw [ax,decide_eq_false (by omega)]) u f.disk (by omega) (by omega) f.kept K G h2;have bm:A.cell? ⟨w.heap.size+1+1+1+1,0,none⟩=some (.slice o bc.length q):=cR u.at_ rfl;have bR:A.cell? ⟨w.heap.size+1+1+1+1,1,none⟩=some (.bool false):=cR u.at_ rfl;have b8:A.cell? ⟨w.heap.size+1+1+1,0,none⟩=some (.slice none 0 0):=cR t rfl;have bU:A.cell? ⟨w.heap.size+1+1+1,1,none⟩=some (.bool false):=cR t rfl;have bZ:=aa A (w.heap.size+1+1+1) 0 _ _ t;have bW:=aa A (w.heap.size+1+1+1) 1 _ _ t;clear f aG u aF K t ax;dsimp only;go_wp2;exact av.out _ rfl rfl
 case stop=>
  rintro cb c r pre A aG f rfl K;obtain⟨v,u⟩:=f.pg;obtain⟨T,a7⟩:∃T,T=L.take b:=⟨_,rfl⟩;obtain⟨z,a8⟩:∃m,m=decide (b<L.length):=⟨_,rfl⟩;rw [<-a7,<-a8] at u;obtain⟨o,q,rfl⟩:=u.form;obtain rfl:c=.exit 0:=f.c;have bE:=f.rd;have t:A.heap[w.heap.size+3]? =_:=(f.kept.block _ (by omega) (by omega)).trans ab.out;have av:Hid (∀a:Act,a.defers=[{target:=.collected s.heap.size,args:=#[] }]->a.tmps.getD 8 undef=.pointer (some ⟨w.heap.size+3,0,none⟩)->_):=λa G h2=>ai.out A r z T o q a a7 a8 u f.disk (by omega) (by omega) f.kept K G h2;have bm:A.cell? ⟨w.heap.size+1+1+1+1,0,none⟩=some (.slice o T.length q):=cR u.at_ rfl;have bR:A.cell? ⟨w.heap.size+1+1+1+1,1,none⟩=some (.bool z):=cR u.at_ rfl;have b8:A.cell? ⟨w.heap.size+1+1+1,0,none⟩=some (.slice none 0 0):=cR t rfl;have bU:A.cell? ⟨w.heap.size+1+1+1,1,none⟩=some (.bool false):=cR t rfl;have bZ:=aa A (w.heap.size+1+1+1) 0 _ _ t;have bW:=aa A (w.heap.size+1+1+1) 1 _ _ t;clear f aG u K t a7 a8;dsimp only;go_wp2;exact av.out _ rfl rfl
end prog
end Go.Proofs.YtcoengihaobddaaGreatDoor
