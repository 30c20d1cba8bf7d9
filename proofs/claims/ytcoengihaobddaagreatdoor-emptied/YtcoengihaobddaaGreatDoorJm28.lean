/- Part 28 of 31 of a proof: Rem9, Lst1, Lst2 -/
import Derived.Test.YtcoengihaobddaaGreatDoorJm27
import Derived.Test.YtcoengihaobddaaGreatDoorJm04
set_option maxHeartbeats 8000000
set_option linter.unusedVariables false
set_option linter.unusedSimpArgs false
set_option maxRecDepth 8000
namespace Go.Proofs.YtcoengihaobddaaGreatDoor
namespace prog
open Go.RowKit disk ref
structure VC {h:Nat} (D:Dk) (t:Tr h) (p:Pl) (C C':Ck) (m m':List UInt8) (e:En) (s:Bool) (pb fb:List Nat):Prop where
 cln:fD D C' m'
 shr:vT D C C' m m' pb fb
 sub:∀j∈pb,j∈t.blocks
 own:s=true→t.blk∈pb
 pl:pb.length≤2*h+1
 few:C'.ws.length≤C.ws.length+4*(h+1)
 mem:e∈t.ents
 at_:e.pl=p
 tree:∃t',fB t p t'∧t'.LayV zl (fun j=>C'.look D (j:Nat))∧(t'.blocks++fb).Perm t.blocks∧(s=false→t'.items.length=t.items.length∨3≤t'.items.length)
theorem fF:∀{h:Nat} (t:Tr h),zJ h=4→∀e∈t.items,e.mark=false∧e.size=0
 |0,_,hk,_,_=>by simp [zJ] at hk
 |_+1,t,_,e,he=>by
  obtain⟨c,_,rfl⟩:=List.mem_map.1 he
  exact⟨rfl,rfl⟩
theorem bO:∀h:Nat,zJ h=4∨zJ h=5
 |0=>.inr rfl
 |_+1=>.inl rfl
theorem kx.below{bc bd:Nat}{S T:Nat→Prop}{D:Dk}{C:Ck}{h at_:Nat}{p:Pl}{v:List Value}{s ok:Bool}{C':Ck}(k:kx bc bd S T D C h at_ p v s ok C')(r:Int)(h0:0≤r)(h1:r+(4*(h+1):Nat)≤4611686018427370000):
 JO bc bd S T {D with reads:=r} C at_ p (4*h+1) v s ok C':=
 ⟨fun w0 n0 a b hc=>k.go w0 (r+n0) (by omega) (by omega) hc⟩
theorem ZN:∀{h:Nat} (t:Tr h),t.blocks=t.blk::t.blocks.tail
 |0,_=>rfl
 |_+1,_=>rfl
theorem Xs{h:Nat}{u v:Tr h}(hn:(u.blocks++v.blocks).Nodup):(u.join v).blk∉(u.join v).blocks.tail:=by
 have h1:=(List.nodup_append.1 ((jW u v).nodup_iff.2 hn)).1
 rw [ZN,List.nodup_cons] at h1
 exact h1.1
theorem ZO(bc bd:Nat)(S T:Nat→Prop)(D:Dk)(p:Pl):∀(h:Nat) (t:Tr h) (C:Ck) (m:List UInt8),h≤100→t.Good→(0<h→2≤t.items.length)→t.items.length≤6→qX t.ents→t.blocks.Nodup→
 (∀j∈t.blocks,21≤j∧j<1000)→t.LayV zl (fun j=>C.look D (j:Nat))→fD D C m→C.ws.length+4*(h+1)<700→
 (∃e C' m' s pb fb,VC D t p C C' m m' e s pb fb∧kx bc bd S T D C h t.blk p (qc e) s true C')∨((∀x∈t.ents,x.pl≠p)∧kx bc bd S T D C h t.blk p qd false false C)
 |0,(b,es),C,m,_,g,_,h6,hs,hnd,hrg,hl,hc,hfew=>by
  have h6':es.length≤6:=h6
  have hs':qX es:=hs
  have hl':C.look D b=zl (zc 5 es):=hl
  by_cases hx:∃hi:zm es p<es.length,es[zm es p].pl=p
  ·obtain⟨hi,he⟩:=hx
   have hb:=hrg b (List.mem_singleton.2 rfl)
   have hdl:=hs'.erase p hi he
   have hlen:(qJ p es).length=es.length-1:=by rw [←hdl,List.length_eraseIdx_of_lt hi]
   refine .inl ⟨es[zm es p],C.put b (zl (zc 5 (qJ p es))),m,decide ((qJ p es).length<3),[b],[],⟨hc.put (by omega) _,vT.put D C m b _,fun j hj=>hj,fun _=>List.mem_singleton.2 rfl,by simp,by have:=qh C b (zl (zc 5 (qJ p es)));omega,List.getElem_mem hi,he,(b,qJ p es),Xq g hs' h6' hi he,zZ _ _ _ _,by rw [List.append_nil];exact List.Perm.refl _,fun h=>.inr (by show 3≤(qJ p es).length;simpa using h)⟩,⟨fun w r h0 h1 hcw=>?_⟩⟩
   refine(ZI w bc bd S T {D with reads:=r} C hcw h0 (by show r≤_;omega) b g.1 es g.2 h6' hs' (by rw [zD];exact hl') p (zm es p) rfl hi he (by omega) (qJ p es) hdl (decide ((qJ p es).length<3)) (decide_eq_decide.2 (by omega))).mono ?_
   rintro x w' ⟨h1,⟨n,T',h2,h3,h4,h5⟩,h6⟩
   exact⟨h1,⟨n,T',h2,by simpa using h3,h4,h5⟩,h6⟩
  ·refine .inr ⟨(hs'.find p).2 (fun hi he=>hx ⟨hi,he⟩),⟨fun w r h0 h1 hcw=>?_⟩⟩
   refine(ZH w bc bd S T {D with reads:=r} C hcw h0 (by show r≤_;omega) b g.1 es g.2 h6' hs' (by rw [zD];exact hl') p (fun hi he=>hx ⟨hi,he⟩)).mono ?_
   rintro x w' ⟨h1,⟨n,h2,h3,h4⟩,h6⟩
   exact⟨h1,⟨n,T,h2,by simpa using h3,h4,fun _ h=>.inl h⟩,h6.mono iL⟩
 |h+1,(b,cs),C,m,hh,g,h2,h6,hs,hnd,hrg,hl,hc,hfew=>by
  have h2':2≤cs.length:=Nat.le_trans (h2 (by omega)) (Nat.le_of_eq (zr b cs))
  have h6':cs.length≤6:=Nat.le_trans (Nat.le_of_eq (zr b cs).symm) h6
  have kk:Kids cs:=g.kids
  obtain⟨A,q,tc,B,rfl,hA,hAq,hB⟩:=kk.child (fun e0=>by rw [e0] at h2';simp at h2') p
  have hmem:(q,tc)∈A++(q,tc)::B:=by simp
  have hgc:=kk.good (q,tc) hmem
  have hfull:=g.full
  have hnd':(b::(zw A++(tc.blocks++zw B))).Nodup:=by
   have:(b::zw (A++(q,tc)::B)).Nodup:=hnd
   rw [z9,qj] at this;exact this
  obtain⟨n1,n2,n3,n4,n5,n6,n7,n8⟩:=uo hnd'
  have hrg':∀j,j=b∨j∈zw (A++(q,tc)::B)→21≤j∧j<1000:=fun j hj=>hrg j (by
   show j∈b::zw (A++(q,tc)::B)
   exact List.mem_cons.2 hj)
  have hs0:qX (zF (A++(q,tc)::B)):=hs
  have hs':qX (zF A++(tc.ents++zF B)):=by rw [zt,zo] at hs0;exact hs0
  have hsc:qX tc.ents:=(List.pairwise_append.1 (List.pairwise_append.1 hs').2.1).1
  have hl1:C.look D b=zl (zc 4 ((A++(q,tc)::B).map xJ)):=hl.1
  have hl2:∀c∈A++(q,tc)::B,c.2.LayV zl (fun j=>C.look D (j:Nat)):=hl.2
  have hb:=hrg' b (.inl rfl)
  have hsrt:qX ((A++(q,tc)::B).map xJ):=kk.items_srt
  have hes:∀x∈(A++(q,tc)::B).map xJ,x.Ok:=g.items_ok
  have hes4:∀x∈(A++(q,tc)::B).map xJ,x.mark=false∧x.size=0:=fun x hx=>by
   obtain⟨c,_,rfl⟩:=List.mem_map.1 hx;exact⟨rfl,rfl⟩
  have hlen:((A++(q,tc)::B).map xJ).length=(A++(q,tc)::B).length:=by simp
  have hcl:A.length<((A++(q,tc)::B).map xJ).length:=by rw [hlen];simp
  have hat:((A++(q,tc)::B).map xJ)[A.length].at_=tc.blk:=by simp [xJ]
  have hA':zv ((A++(q,tc)::B).map xJ) p=A.length:=hA.symm
  have hside:∀(C2:Ck),(∀j:Nat,j∉tc.blocks→j≠b→j≠2→C2.look D j=C.look D j)→∀c,c∈A∨c∈B→c.2.LayV zl (fun j=>C2.look D (j:Nat)):=fun C2 hq c hcm=>by
   have hcm':c∈A++(q,tc)::B:=by rcases hcm with h|h<;>simp [h]
   refine(hl2 c hcm').congr (fun j hj=>?_)
   have hjb:=hrg' j (.inr (zP hcm' hj))
   rcases hcm with hca|hcb
   ·exact hq j (n7 j (zP hca hj)) (fun e0=>n1 (e0▸zP hca hj)) (by omega)
   ·exact hq j (n8 j (zP hcb hj)) (fun e0=>n3 (e0▸zP hcb hj)) (by omega)
  rcases ZO bc bd S T D p h tc C m (by omega) hgc.1 (fun _=>by have:=hfull (q,tc) hmem;simp only at this;omega) hgc.2.1 hsc n5 (fun j hj=>hrg' j (.inr (zP hmem hj))) (hl2 (q,tc) hmem) hc (by omega) with⟨e,C1,m1,s,pb,fb,R,K⟩|⟨hno,K⟩
  ·obtain⟨tc',L,lay,perm,hkeep⟩:=R.tree
   have hfb:∀j∈fb,j∈tc.blocks:=fun j hj=>perm.mem_iff.1 (List.mem_append_right _ hj)
   have htb:∀j∈tc'.blocks,j∈tc.blocks:=fun j hj=>perm.mem_iff.1 (List.mem_append_left _ hj)
   have hme:e∈zF (A++(q,tc)::B):=kf hmem R.mem
   have hb1:C1.look D b=C.look D b:=R.shr.look b (fun hj=>n2 (R.sub b hj)) (fun hj=>n2 (hfb b hj)) (by omega)
   have hq1:∀j:Nat,j∉tc.blocks→j≠b→j≠2→C1.look D j=C.look D j:=fun j h1 h2 h3=>R.shr.look j (fun hj=>h1 (R.sub j hj)) (fun hj=>h1 (hfb j hj)) h3
   cases hs1:s with
   |false=>
    rw [hs1] at K R
    have h3c:=hfull (q,tc) hmem
    simp only at h3c
    have h3:3≤tc'.items.length:=by rcases hkeep hs1 with h|h<;>omega
    refine .inl ⟨e,C1,m1,false,pb,fb,⟨R.cln,R.shr,fun j hj=>List.mem_cons_of_mem _ (zP hmem (R.sub j hj)),fun h=>(nomatch h),by have:=R.pl;omega,by have:=R.few;omega,hme,R.at_,(b,A++(q,tc')::B),ZK g h6' hAq hB L h3,⟨?_,fun c hcm=>?_⟩,xY perm,?_⟩,⟨fun w r h0 h1 hcw=>?_⟩⟩
    ·show C1.look D b=zl (zc 4 ((A++(q,tc')::B).map xJ))
     rw [hb1,hl1]
     congr 2
     simp [xJ,L.blk]
    ·have hcm:c∈A++(q,tc')::B:=hcm
     rcases List.mem_append.1 hcm with hca|hcb
     ·exact hside C1 hq1 c (.inl hca)
     ·rcases List.mem_cons.1 hcb with rfl|hcb
      ·exact lay
      ·exact hside C1 hq1 c (.inr hcb)
    ·exact fun _=>.inl (by rw [zr,zr];simp)
    ·have hrec:=K.below r h0 (by omega)
     rw [←hat] at hrec
     refine(kz w bc bd S T {D with reads:=r} C hcw h0 (by show r≤_;omega) b g.1 _ hes hes4 (by omega) hsrt (by rw [zD];exact hl1) p (4*h+1) (by omega) _ ⟨_,_,_,_,_,rfl⟩ false true C1 A.length hA' hcl hrec false true C1 (.inl ⟨rfl,rfl,rfl,rfl⟩)).mono ?_
     rintro x w' ⟨k1,⟨n,T',k2,k3,k4,k5⟩,k6⟩
     exact⟨k1,⟨n,T',k2,by omega,k4,k5⟩,k6⟩
   |true=>
    rw [hs1] at K R
    have hown:=R.own rfl
    obtain⟨X,Y,p1,p2,u,v,P⟩:=KA A B q tc' (by simpa using h2')
    have hit:=Q0 L.blk P
    obtain⟨kL,eL⟩:=kB kk hAq hB L
    have hpB:=xY (b:=b) (A:=A) (B:=B) (q:=q) perm
    have hndP:(b::zw (X++(p1,u)::(p2,v)::Y)).Nodup:=by
     have:=(List.nodup_append.1 (hpB.nodup_iff.2 hnd)).1
     have h1:(b::zw (A++(q,tc')::B)).Nodup:=this
     rw [P.eq] at h1;exact h1
    have hmP:∀j,j∈zw (X++(p1,u)::(p2,v)::Y)→j∈zw (A++(q,tc)::B):=fun j hj=>by
     have h1:j∈Tr.blocks (h:=h+1) (b,A++(q,tc')::B)++fb:=List.mem_append_left _ (List.mem_cons_of_mem _ (by rw [P.eq];exact hj))
     have h2:j∈b::zw (A++(q,tc)::B):=hpB.mem_iff.1 h1
     rcases List.mem_cons.1 h2 with rfl|h2
     ·exact absurd hj (List.nodup_cons.1 hndP).1
     ·exact h2
    have eP:zw (X++(p1,u)::(p2,v)::Y)=zw X++((u.blocks++v.blocks)++zw Y):=by rw [z9,qj,qj,List.append_assoc]
    have hndQ:=hndP
    rw [eP] at hndQ
    obtain⟨o1,o2,o3,o4,o5,o6,o7,o8⟩:=uo hndQ
    have hrP:∀j,j∈zw X∨j∈u.blocks++v.blocks∨j∈zw Y→21≤j∧j<1000:=fun j hj=>hrg' j (.inr (hmP j (by
     rw [eP,List.mem_append,List.mem_append (s:=u.blocks++v.blocks)];exact hj)))
    rw [P.eq] at kL
    have gu:=kL.good (p1,u) (by simp)
    have gv:=kL.good (p2,v) (by simp)
    have hub:u.blk∈u.blocks++v.blocks:=List.mem_append_left _ u.blk_mem
    have hvb:v.blk∈u.blocks++v.blocks:=List.mem_append_right _ v.blk_mem
    have huv:u.blk≠v.blk:=fun e0=>(List.nodup_append.1 o5).2.2 _ u.blk_mem _ v.blk_mem e0
    have hur:=hrP _ (.inr (.inl hub))
    have hvr:=hrP _ (.inr (.inl hvb))
    have hbu:u.blk≠b:=fun e0=>o2 (e0▸hub)
    have hbv:v.blk≠b:=fun e0=>o2 (e0▸hvb)
    have hlayc:∀c,c∈X∨c∈Y→c.2.LayV zl (fun j=>C1.look D (j:Nat)):=fun c hcm=>hside C1 hq1 c (P.out c hcm)
    have hpair:u.LayV zl (fun j=>C1.look D (j:Nat))∧v.LayV zl (fun j=>C1.look D (j:Nat))∧(u.blk∈pb∨v.blk∈pb)∧u.blk∈zw (A++(q,tc)::B)∧v.blk∈zw (A++(q,tc)::B):=by
     have hm1:=hmP u.blk (by rw [eP];simp [u.blk_mem])
     have hm2:=hmP v.blk (by rw [eP];simp [v.blk_mem])
     rcases P.two with⟨a1,a2⟩|⟨a1,a2⟩
     ·simp only [Prod.mk.injEq] at a2
      obtain⟨rfl,rfl⟩:=a2
      exact⟨hside C1 hq1 (p1,u) (.inl a1),lay,.inr (by rw [L.blk];exact hown),hm1,hm2⟩
     ·simp only [Prod.mk.injEq] at a2
      obtain⟨rfl,rfl⟩:=a2
      exact⟨lay,hside C1 hq1 (p2,v) (.inr a1),.inl (by rw [L.blk];exact hown),hm1,hm2⟩
    obtain⟨layu,layv,hupb,hmu,hmv⟩:=hpair
    have hfewR:=R.few
    have hr1:max A.length 1=X.length+1:=P.at_
    have hst:b≠2:=by omega
    obtain⟨hrl,e1,e2,e3,e4⟩:=KC (z:=⟨((u.items++v.items).getD ((u.items++v.items).length/2) vX).pl,false,0,v.blk⟩) (r:=X.length+1) (by simp) _ hit
    have e1':=e1 (by omega)
    have e2':=e2 hrl
    have hv1:1≤v.items.length:=by
     rcases P.two with⟨_,a2⟩|⟨a1,_⟩
     ·have h3c:=hfull (q,tc) hmem
      have hlo:=L.lo
      simp only [Prod.mk.injEq] at a2 h3c
      rw [a2.2];omega
     ·have:=hfull (p2,v) (by simp [a1]);simp only at this;omega
    have hvi:v.blk-21+21=v.blk:=by omega
    have huk:C1.look D u.blk=zl (zc (zJ h) u.items):=layu.node
    have hvk:C1.look D ((v.blk-21+21:Nat):Int)=zl (zc (zJ h) v.items):=by rw [hvi];exact layv.node
    have hjb:=JT u v
    have hji:=yY u v
    by_cases hsum:(u.items++v.items).length≤6
    ·have M:=ZG bc bd S D C1 m1 R.cln.map ((A++(q,tc)::B).map xJ) (by omega) A.length (X.length+1) hr1 hrl u.blk (v.blk-21) (by rw [e1'];rfl) (by rw [e2',hvi];rfl) gu.1.blk (by omega) (by omega) (zJ h) (bO h) u.items v.items gu.1.items_ok gv.1.items_ok (fF u) (fF v) gu.2.1 gv.2.1 hv1 huk hvk (by omega) _ _ (.inl ⟨hsum,rfl,rfl⟩)
     have hsh:=((R.shr.trans (vT.put D C1 m1 u.blk (zl (zc (zJ h) (u.items++v.items))))).trans (vT.free (R.cln.put (i:=u.blk) (by omega) _) (i:=v.blk-21) (by omega))).trans (vT.put D _ _ b (zl (zc 4 (((A++(q,tc)::B).map xJ).eraseIdx (X.length+1)))))
     rw [show pb++[u.blk]++[]++[b]=pb++[u.blk,b] from by simp,show fb++[]++[v.blk-21+21]++[]=fb++[v.blk] from by simp;omega] at hsh
     have hcl3:=((R.cln.put (i:=u.blk) (by omega) (zl (zc (zJ h) (u.items++v.items)))).free (v.blk-21)).put hst (zl (zc 4 (((A++(q,tc)::B).map xJ).eraseIdx (X.length+1))))
     have l1:=qh C1 u.blk (zl (zc (zJ h) (u.items++v.items)))
     have l2:=fC (C1.put u.blk (zl (zc (zJ h) (u.items++v.items)))) m1 (v.blk-21)
     have l3:=qh ((C1.put u.blk (zl (zc (zJ h) (u.items++v.items)))).free m1 (v.blk-21)) b (zl (zc 4 (((A++(q,tc)::B).map xJ).eraseIdx (X.length+1))))
     have lk:∀j:Nat,j≠b→j≠2→j≠v.blk→(((C1.put u.blk (zl (zc (zJ h) (u.items++v.items)))).free m1 (v.blk-21)).put b (zl (zc 4 (((A++(q,tc)::B).map xJ).eraseIdx (X.length+1))))).look D (j:Nat)=(C1.put u.blk (zl (zc (zJ h) (u.items++v.items)))).look D (j:Nat):=fun j h1 h2 h3=>by
      rw [zQ _ _ _ _ _ (by omega),ux _ _ _ _ _ h2 (by omega)]
     have lb:(((C1.put u.blk (zl (zc (zJ h) (u.items++v.items)))).free m1 (v.blk-21)).put b (zl (zc 4 (((A++(q,tc)::B).map xJ).eraseIdx (X.length+1))))).look D (b:Nat)=zl (zc 4 (((A++(q,tc)::B).map xJ).eraseIdx (X.length+1))):=zZ _ _ _ _
     have lu:∀j:Nat,j≠u.blk→(C1.put u.blk (zl (zc (zJ h) (u.items++v.items)))).look D (j:Nat)=C1.look D (j:Nat):=fun j h1=>zQ _ _ _ _ _ (by omega)
     have luu:(C1.put u.blk (zl (zc (zJ h) (u.items++v.items)))).look D (u.blk:Nat)=zl (zc (zJ h) (u.items++v.items)):=zZ _ _ _ _
     have hel:(((A++(q,tc)::B).map xJ).eraseIdx (X.length+1)).length=(X++(p1,u.join v)::Y).length:=by rw [e3];simp
     have he3:((A++(q,tc)::B).map xJ).eraseIdx (X.length+1)=(X++(p1,u.join v)::Y).map xJ:=by rw [e3];simp [xJ,hjb]
     have hl6:(((A++(q,tc)::B).map xJ).eraseIdx (X.length+1)).length≤6:=by rw [List.length_eraseIdx_of_lt hrl];omega
     have hok3:∀x∈((A++(q,tc)::B).map xJ).eraseIdx (X.length+1),x.Ok:=fun x hx=>hes x (List.mem_of_mem_eraseIdx hx)
     generalize ((A++(q,tc)::B).map xJ).eraseIdx (X.length+1)=es2 at*
     generalize hC2:(C1.put u.blk (zl (zc (zJ h) (u.items++v.items)))).free m1 (v.blk-21)=C2 at*
     generalize hC3:C2.put b (zl (zc 4 es2))=C3 at*
     refine .inl ⟨e,C3,xD m1 (v.blk-21),decide (es2.length<3),pb++[u.blk,b],fb++[v.blk],⟨hcl3,hsh,fun j hj=>?_,fun _=>by simp [Tr.blk],by have:=R.pl;simp;omega,by omega,hme,R.at_,(b,X++(p1,u.join v)::Y),JX g h6' hs0 hAq hB L P hsum,⟨?_,fun c hcm=>?_⟩,gd perm P,fun hf=>.inr ?_⟩,⟨fun w r h0 h1 hcw=>?_⟩⟩
     ·show j∈b::zw (A++(q,tc)::B)
      rcases List.mem_append.1 hj with hj|hj
      ·exact List.mem_cons_of_mem _ (zP hmem (R.sub j hj))
      ·simp only [List.mem_cons,List.not_mem_nil,or_false] at hj
       rcases hj with rfl|rfl
       ·exact List.mem_cons_of_mem _ hmu
       ·exact List.mem_cons_self ..
     ·show C3.look D (b:Nat)=zl (zc 4 ((X++(p1,u.join v)::Y).map xJ))
      rw [lb,he3]
     ·have hcm:c∈X++(p1,u.join v)::Y:=hcm
      have hxy:∀c,c∈X∨c∈Y→c.2.LayV zl (fun j=>C3.look D (j:Nat)):=fun c hcm=>(hlayc c hcm).congr (fun j hj=>by
       have hjm:j∈zw X∨j∈zw Y:=hcm.imp (fun h=>zP h hj) (fun h=>zP h hj)
       have hjn:j∉u.blocks++v.blocks:=hjm.elim (o7 j) (o8 j)
       have hjr:=hrP j (hjm.imp id .inr)
       have hjb':j≠b:=fun e0=>hjm.elim (fun h=>o1 (e0▸h)) (fun h=>o3 (e0▸h))
       show C3.look D (j:Nat)=C1.look D (j:Nat)
       rw [lk j hjb' (by omega) (fun e0=>hjn (e0▸hvb)),lu j (fun e0=>hjn (e0▸hub))])
      rcases List.mem_append.1 hcm with hca|hcb
      ·exact hxy c (.inl hca)
      ·rcases List.mem_cons.1 hcb with rfl|hcb
       ·refine ZM layu layv o5 ?_ (fun j hj h1 h2=>?_)
        ·show C3.look D (u.blk:Nat)=_
         rw [lk u.blk hbu (by omega) huv,luu]
        ·have hjr:=hrP j (.inr (.inl hj))
         show C3.look D (j:Nat)=C1.look D (j:Nat)
         rw [lk j (fun e0=>o2 (e0▸hj)) (by omega) h2,lu j h1]
       ·exact hxy c (.inr hcb)
     ·rw [zr]
      have:¬es2.length<3:=by simpa using hf
      omega
     ·have hrec:=K.below r h0 (by omega)
      rw [←hat] at hrec
      refine(kz w bc bd S T {D with reads:=r} C hcw h0 (by show r≤_;omega) b g.1 _ hes hes4 (by omega) hsrt (by rw [zD];exact hl1) p (4*h+1) (by omega) _ ⟨_,_,_,_,_,rfl⟩ true true C1 A.length hA' hcl hrec (decide (es2.length<3)) true C3 (.inr ⟨rfl,rfl,es2,C2,M.reads r,hok3,hl6,by omega,decide_eq_decide.2 (by omega),hC3.symm⟩)).mono ?_
      rintro x w' ⟨k1,⟨n,T',k2,k3,k4,k5⟩,k6⟩
      exact⟨k1,⟨n,T',k2,by omega,k4,k5⟩,k6⟩
    ·have hj12:(u.items++v.items).length≤12:=by rw [List.length_append];have:=gu.2.1;have:=gv.2.1;simp only at *; omega
     have M:dL bc bd S D C1 ((A++(q,tc)::B).map xJ) A.length (((A++(q,tc)::B).map xJ).set (X.length+1) ⟨((u.items++v.items).getD ((u.items++v.items).length/2) vX).pl,false,0,v.blk⟩) ((C1.put u.blk (zl (zc (zJ h) ((u.items++v.items).take ((u.items++v.items).length/2))))).put v.blk (zl (zc (zJ h) ((u.items++v.items).drop ((u.items++v.items).length/2))))):=
      ZG bc bd S D C1 m1 R.cln.map ((A++(q,tc)::B).map xJ) (by omega) A.length (X.length+1) hr1 hrl u.blk (v.blk-21) (by rw [e1'];rfl) (by rw [e2',hvi];rfl) gu.1.blk (by omega) (by omega) (zJ h) (bO h) u.items v.items gu.1.items_ok gv.1.items_ok (fF u) (fF v) gu.2.1 gv.2.1 hv1 huk hvk (by omega) _ _ (.inr ⟨by omega,by rw [e2'];rfl,by rw [hvi]⟩)
     rw [←hji] at M e4
     have hgp:=(JW (m:=(u.join v).items.length/2) (b:=v.blk) vX (dN gu.1 gv.1 (p:=p2) (by
      have k2:Kids ((X++[(p1,u)])++(p2,v)::Y):=by rw [List.append_assoc];exact kL
      exact k2.mid.2.2.2.2.1) (fun x hx=>by
      have k2:Kids ((X++[(p1,u)])++(p2,v)::Y):=by rw [List.append_assoc];exact kL
      exact k2.mid.2.2.1 x (by rw [zt,zo];simp [hx]))) (by
      have hs2:qX (zF (A++(q,tc')::B)):=by rw [eL];exact hs0.del
      rw [P.eq] at hs2
      exact(kL.pair hs2).2.2.1) (by rw [hji];omega)).2.1
     obtain⟨o,ho,hou,hov⟩:∃o,(o=u.blk∨o=v.blk)∧(u.blk∈pb∨u.blk=o)∧(v.blk∈pb∨v.blk=o):=by
      rcases hupb with h|h
      ·exact⟨v.blk,.inr rfl,.inl h,.inr rfl⟩
      ·exact⟨u.blk,.inl rfl,.inr rfl,.inl h⟩
     have hsh:=((R.shr.trans (vT.put D C1 m1 u.blk (zl (zc (zJ h) ((u.join v).items.take ((u.join v).items.length/2)))))).trans (vT.put D _ m1 v.blk (zl (zc (zJ h) ((u.join v).items.drop ((u.join v).items.length/2)))))).trans (vT.put D _ _ b (zl (zc 4 (((A++(q,tc)::B).map xJ).set (X.length+1) ⟨((u.join v).items.getD ((u.join v).items.length/2) vX).pl,false,0,v.blk⟩))))
     rw [show fb++[]++[]++[]=fb from by simp] at hsh
     have hcl3:=((R.cln.put (i:=u.blk) (by omega) (zl (zc (zJ h) ((u.join v).items.take ((u.join v).items.length/2))))).put (i:=v.blk) (by omega) (zl (zc (zJ h) ((u.join v).items.drop ((u.join v).items.length/2))))).put hst (zl (zc 4 (((A++(q,tc)::B).map xJ).set (X.length+1) ⟨((u.join v).items.getD ((u.join v).items.length/2) vX).pl,false,0,v.blk⟩)))
     have hT:=JY g h6' hs0 hAq hB L P (by omega) vX ((u.items++v.items).length/2) rfl
     rw [←hji] at hT hsum hj12
     have hok3:∀x∈((A++(q,tc)::B).map xJ).set (X.length+1) ⟨((u.join v).items.getD ((u.join v).items.length/2) vX).pl,false,0,v.blk⟩,x.Ok:=fun x hx=>by
      rcases List.mem_or_eq_of_mem_set hx with hx|rfl
      ·exact hes x hx
      ·exact hgp.en gv.1.blk
     have hl6:(((A++(q,tc)::B).map xJ).set (X.length+1) ⟨((u.join v).items.getD ((u.join v).items.length/2) vX).pl,false,0,v.blk⟩).length≤6:=by rw [List.length_set];omega
     have he4:((A++(q,tc)::B).map xJ).set (X.length+1) ⟨((u.join v).items.getD ((u.join v).items.length/2) vX).pl,false,0,v.blk⟩=(X++(p1,(u.join v).cutL ((u.join v).items.length/2))::(((u.join v).items.getD ((u.join v).items.length/2) vX).pl,(u.join v).cutR ((u.join v).items.length/2) v.blk)::Y).map xJ:=by
      rw [e4];simp [xJ,(Yy ((u.join v).items.length/2) v.blk (u.join v)).1,(Yy ((u.join v).items.length/2) v.blk (u.join v)).2,hjb]
     have hpB2:=gg (b:=b) (q':=((u.join v).items.getD ((u.join v).items.length/2) vX).pl) ((u.join v).items.length/2) perm P
     have ll1:=qh C1 u.blk (zl (zc (zJ h) ((u.join v).items.take ((u.join v).items.length/2))))
     have ll2:=qh (C1.put u.blk (zl (zc (zJ h) ((u.join v).items.take ((u.join v).items.length/2))))) v.blk (zl (zc (zJ h) ((u.join v).items.drop ((u.join v).items.length/2))))
     have hcut:=fun (rd:Nat→List Value)=>KB (pg:=zl) (rd:=rd) ((u.join v).items.length/2) v.blk (u:=u.join v)
     generalize (u.join v).items.length/2=m0 at*
     generalize ((u.join v).items.getD m0 vX).pl=q' at*
     generalize ((A++(q,tc)::B).map xJ).set (X.length+1) ⟨q',false,0,v.blk⟩=es2 at*
     have lb:(((C1.put u.blk (zl (zc (zJ h) ((u.join v).items.take m0)))).put v.blk (zl (zc (zJ h) ((u.join v).items.drop m0)))).put b (zl (zc 4 es2))).look D (b:Nat)=zl (zc 4 es2):=zZ _ _ _ _
     have lv:(((C1.put u.blk (zl (zc (zJ h) ((u.join v).items.take m0)))).put v.blk (zl (zc (zJ h) ((u.join v).items.drop m0)))).put b (zl (zc 4 es2))).look D (v.blk:Nat)=zl (zc (zJ h) ((u.join v).items.drop m0)):=by
      rw [zQ _ _ _ _ _ (by omega)];exact zZ _ _ _ _
     have lu:(((C1.put u.blk (zl (zc (zJ h) ((u.join v).items.take m0)))).put v.blk (zl (zc (zJ h) ((u.join v).items.drop m0)))).put b (zl (zc 4 es2))).look D (u.blk:Nat)=zl (zc (zJ h) ((u.join v).items.take m0)):=by
      rw [zQ _ _ _ _ _ (by omega),zQ _ _ _ _ _ (by omega)];exact zZ _ _ _ _
     have lk:∀j:Nat,j≠b→j≠u.blk→j≠v.blk→(((C1.put u.blk (zl (zc (zJ h) ((u.join v).items.take m0)))).put v.blk (zl (zc (zJ h) ((u.join v).items.drop m0)))).put b (zl (zc 4 es2))).look D (j:Nat)=C1.look D (j:Nat):=fun j h1 h2 h3=>by
      rw [zQ _ _ _ _ _ (by omega),zQ _ _ _ _ _ (by omega),zQ _ _ _ _ _ (by omega)]
     have ll3:=qh ((C1.put u.blk (zl (zc (zJ h) ((u.join v).items.take m0)))).put v.blk (zl (zc (zJ h) ((u.join v).items.drop m0)))) b (zl (zc 4 es2))
     have hlen2:es2.length=(X++(p1,(u.join v).cutL m0)::(q',(u.join v).cutR m0 v.blk)::Y).length:=by rw [he4];simp
     generalize hC2:(C1.put u.blk (zl (zc (zJ h) ((u.join v).items.take m0)))).put v.blk (zl (zc (zJ h) ((u.join v).items.drop m0)))=C2 at*
     generalize hC3:C2.put b (zl (zc 4 es2))=C3 at*
     have hsh':vT D C C3 m m1 (pb++[o,b]) fb:=hsh.sub (fun j hj=>.inl (by
      simp only [List.mem_append,List.mem_cons,List.not_mem_nil,or_false] at hj ⊢
      rcases hj with((hj|hj)|hj)|hj
      ·exact .inl hj
      ·rw [hj];exact hou.imp id .inl
      ·rw [hj];exact hov.imp id .inl
      ·exact .inr (.inr hj))) (fun j _ hj=>by
      simp only [List.mem_append,List.mem_cons,List.not_mem_nil,or_false] at hj ⊢
      rcases hj with((hj|hj)|hj)|hj
      ·exact .inl hj
      ·rw [hj];exact hou.imp id .inl
      ·rw [hj];exact hov.imp id .inl
      ·exact .inr (.inr hj))
     refine .inl ⟨e,C3,m1,decide (es2.length<3),pb++[o,b],fb,⟨hcl3,hsh',fun j hj=>?_,fun _=>by simp [Tr.blk],by have:=R.pl;simp;omega,by omega,hme,R.at_,_,hT,⟨?_,fun c hcm=>?_⟩,hpB2,fun hf=>.inr ?_⟩,⟨fun w r h0 h1 hcw=>?_⟩⟩
     ·show j∈b::zw (A++(q,tc)::B)
      rcases List.mem_append.1 hj with hj|hj
      ·exact List.mem_cons_of_mem _ (zP hmem (R.sub j hj))
      ·simp only [List.mem_cons,List.not_mem_nil,or_false] at hj
       rcases hj with rfl|rfl
       ·rcases ho with rfl|rfl
        ·exact List.mem_cons_of_mem _ hmu
        ·exact List.mem_cons_of_mem _ hmv
       ·exact List.mem_cons_self ..
     ·show C3.look D (b:Nat)=zl (zc 4 (List.map xJ _))
      rw [lb,he4]
     ·have hxy:∀c,c∈X∨c∈Y→c.2.LayV zl (fun j=>C3.look D (j:Nat)):=fun c hcm=>(hlayc c hcm).congr (fun j hj=>by
       have hjm:j∈zw X∨j∈zw Y:=hcm.imp (fun h=>zP h hj) (fun h=>zP h hj)
       have hjn:j∉u.blocks++v.blocks:=hjm.elim (o7 j) (o8 j)
       have hjb':j≠b:=fun e0=>hjm.elim (fun h=>o1 (e0▸h)) (fun h=>o3 (e0▸h))
       show C3.look D (j:Nat)=C1.look D (j:Nat)
       exact lk j hjb' (fun e0=>hjn (e0▸hub)) (fun e0=>hjn (e0▸hvb)))
      obtain⟨cl,cr⟩:=hcut (fun j=>C3.look D (j:Nat)) (fun rd' hb' he'=>ZM layu layv o5 (by rw [hjb,hji] at hb';exact hb') (fun j hj h1 h2=>by
       rw [he' j (by rw [hjb];exact h1)]
       exact lk j (fun e0=>o2 (e0▸hj)) h1 h2)) (Xs o5) (by rw [hjb];exact lu) lv
      have hcm':c∈X++(p1,(u.join v).cutL m0)::(q',(u.join v).cutR m0 v.blk)::Y:=hcm
      rcases List.mem_append.1 hcm' with hca|hcb
      ·exact hxy c (.inl hca)
      ·rcases List.mem_cons.1 hcb with rfl|hcb
       ·exact cl
       ·rcases List.mem_cons.1 hcb with rfl|hcb
        ·exact cr
        ·exact hxy c (.inr hcb)
     ·rw [zr]
      have:¬es2.length<3:=by simpa using hf
      omega
     ·have hrec:=K.below r h0 (by omega)
      rw [←hat] at hrec
      refine(kz w bc bd S T {D with reads:=r} C hcw h0 (by show r≤_;omega) b g.1 _ hes hes4 (by omega) hsrt (by rw [zD];exact hl1) p (4*h+1) (by omega) _ ⟨_,_,_,_,_,rfl⟩ true true C1 A.length hA' hcl hrec (decide (es2.length<3)) true C3 (.inr ⟨rfl,rfl,es2,C2,M.reads r,hok3,hl6,by omega,decide_eq_decide.2 (by omega),hC3.symm⟩)).mono ?_
      rintro x w' ⟨k1,⟨n,T',k2,k3,k4,k5⟩,k6⟩
      exact⟨k1,⟨n,T',k2,by omega,k4,k5⟩,k6⟩
  ·refine .inr ⟨fun x hx e0=>?_,⟨fun w r h0 h1 hcw=>?_⟩⟩
   ·have hx:x∈zF (A++(q,tc)::B):=hx
    obtain⟨u1,u2⟩:=kk.unroute hAq hB
    rw [zt,zo] at hx
    rcases List.mem_append.1 hx with hx|hx
    ·exact u1 x hx e0
    ·rcases List.mem_append.1 hx with hx|hx
     ·exact hno x hx e0
     ·exact u2 x hx e0
   ·have hrec:=K.below r h0 (by omega)
    rw [←hat] at hrec
    refine(kz w bc bd S T {D with reads:=r} C hcw h0 (by show r≤_;omega) b g.1 _ hes hes4 (by omega) hsrt (by rw [zD];exact hl1) p (4*h+1) (by omega) _ ⟨_,_,_,_,_,rfl⟩ false false C A.length hA' hcl hrec false false C (.inl ⟨rfl,rfl,rfl,rfl⟩)).mono ?_
    rintro x w' ⟨k1,⟨n,T',k2,k3,k4,k5⟩,k6⟩
    exact⟨k1,⟨n,T',k2,by omega,k4,k5⟩,k6⟩
end prog
namespace prog
open ref
def jX(p k:ByteArray):Bool:=p.data.toList.isPrefixOf k.data.toList
theorem fG:∀(p a b:List UInt8),qk a p=false→qk b a=false→p.isPrefixOf b=true→p.isPrefixOf a=true
 |[],_,_,_,_,_=>rfl
 |_::_,_,[],_,_,h=>by simp at h
 |_::_,[],_::_,h,_,_=>by simp [qk] at h
 |x::p,z::a,y::b,h1,h2,h3=>by
  simp only [List.isPrefixOf_cons_cons,Bool.and_eq_true,beq_iff_eq] at h3 ⊢
  obtain⟨rfl,h3⟩:=h3
  unfold qk at h1 h2
  by_cases e:z=x
  ·subst e
   rw [if_pos rfl] at h1 h2
   exact⟨rfl,fG p a b h1 h2 h3⟩
  ·rw [if_neg e] at h1
   rw [if_neg (Ne.symm e)] at h2
   have h4:¬z<x:=of_decide_eq_false h1
   have h5:¬x<z:=of_decide_eq_false h2
   have h6:z.toNat≠x.toNat:=fun h=>e (UInt8.toNat_inj.1 h)
   rw [UInt8.lt_iff_toNat_lt] at h4 h5
   omega
theorem jD:∀(p a:List UInt8),p.isPrefixOf a=true→qk a p=false
 |[],[],_=>rfl
 |[],_::_,_=>rfl
 |_::_,[],h=>by simp at h
 |x::p,y::a,h=>by
  simp only [List.isPrefixOf_cons_cons,Bool.and_eq_true,beq_iff_eq] at h
  obtain⟨rfl,h⟩:=h
  unfold qk
  rw [if_pos rfl]
  exact jD p a h
theorem Xt{a b c:ByteArray}(h:ql a b=true)(k:ql c b=false):ql a c=true:=by
 by_cases e:c=b
 ·rw [e];exact h
 ·exact xL h (yq e k)
theorem ZP{k:ByteArray}(h:k≠ByteArray.empty):ql ByteArray.empty k=true:=by
 cases hk:ql ByteArray.empty k with
 |true=>rfl
 |false=>
  have:=yq (Ne.symm h) hk
  have e:∀l:List UInt8,qk l []=false:=fun l=>by cases l<;>rfl
  exact absurd this (by show ¬qk k.data.toList []=true;rw [e];simp)
def xj(p k:ByteArray)(n:Int):Pl:=if ql k p=true then ⟨p,9223372036854775807⟩ else ⟨k,n-1⟩
def ZQ(p k:ByteArray)(n:Int)(es:List En):List En:=(yv (xj p k n) es).takeWhile fun x=>jX p x.pl.key
theorem qX.run{p:ByteArray}:∀{l:List En},qX l→(∀x∈l,ql x.pl.key p=false)→l.takeWhile (fun x=>jX p x.pl.key)=l.filter fun x=>jX p x.pl.key
 |[],_,_=>rfl
 |a::l,h,hp=>by
  have h2:=List.pairwise_cons.1 h
  cases ha:jX p a.pl.key with
  |true=>
   have ih:=qX.run (p:=p) (l:=l) h2.2 (fun x hx=>hp x (List.mem_cons_of_mem _ hx))
   simp only [List.takeWhile_cons,List.filter_cons,ha,if_true,ih]
  |false=>
   simp only [List.takeWhile_cons,List.filter_cons,ha,Bool.false_eq_true,if_false]
   symm
   rw [List.filter_eq_nil_iff]
   intro b hb hc
   have hlt:=h2.1 b hb
   have hn:ql b.pl.key a.pl.key=false:=by
    cases hx:ql b.pl.key a.pl.key with
    |false=>rfl
    |true=>
     have:b.pl.lt a.pl=true:=(Pl.lt_iff _ _).2 (.inl hx)
     exact absurd this (Pl.asymm hlt)
   have:=fG p.data.toList a.pl.key.data.toList b.pl.key.data.toList (hp a (List.mem_cons_self ..)) hn hc
   rw [show p.data.toList.isPrefixOf a.pl.key.data.toList=jX p a.pl.key from rfl,ha] at this
   cases this
theorem bQ(x:En)(v:zO)(hv:v.key=x.pl.key∧v.num=x.pl.num)(p k:ByteArray)(n:Int)(hx:x.pl.key≠ByteArray.empty)(hn:x.pl.num<9223372036854775807):yf v p k n=(jX p x.pl.key&& !x.pl.lt (xj p k n)):=by
 unfold yf
 rw [hv.1,hv.2]
 show (jX p x.pl.key&&_)=_
 cases hb:jX p x.pl.key with
 |false=>rfl
 |true=>
  rw [Bool.true_and,Bool.true_and]
  have hpn:ql x.pl.key p=false:=jD _ _ hb
  rw [Bool.eq_iff_iff]
  simp only [Bool.or_eq_true,Bool.and_eq_true,decide_eq_true_eq,Bool.not_eq_true',Bool.eq_false_iff,ne_eq,Pl.lt_iff]
  unfold xj
  by_cases hk:ql k p=true
  ·rw [if_pos hk]
   have h1:ql k x.pl.key=true:=Xt hk hpn
   refine⟨fun _ hc=>?_,fun _=>.inl (.inr h1)⟩
   rcases hc with hc|⟨_,hc⟩
   ·simp only at hc;rw [hpn] at hc;cases hc
   ·simp only at hc;omega
  ·rw [if_neg hk]
   simp only
   constructor
   ·rintro((h|h)|⟨h,h2⟩) hc
    ·subst h
     rcases hc with hc|⟨hc,_⟩
     ·have:=ZP hx
      rw [uC this] at hc;cases hc
     ·exact hx hc
    ·rcases hc with hc|⟨hc,_⟩
     ·rw [uC h] at hc;cases hc
     ·rw [hc,ye] at h;cases h
    ·rcases hc with hc|⟨_,hc⟩
     ·rw [h,ye] at hc;cases hc
     ·omega
   ·intro hc
    by_cases e:x.pl.key=k
    ·refine .inr ⟨e,?_⟩
     have:¬(n-1<x.pl.num):=fun h=>hc (.inr ⟨e,h⟩)
     omega
    ·refine .inl (.inr (yq e ?_))
     cases hl:ql x.pl.key k with
     |false=>rfl
     |true=>exact absurd (.inl hl) hc
theorem uT{es:List En}(h:qX es)(f:En→zO)(hf:∀x,(f x).key=x.pl.key∧(f x).num=x.pl.num)(p k:ByteArray)(n:Int)(hx:∀x∈es,x.pl.key≠ByteArray.empty∧x.pl.num<9223372036854775807):ZQ p k n es=es.filter fun x=>yf (f x) p k n:=by
 have hs:qX (yv (xj p k n) es):=List.Pairwise.filter _ h
 unfold ZQ
 rw [hs.run]
 ·unfold yv
  rw [List.filter_filter]
  refine List.filter_congr (fun x hm=>?_)
  rw [bQ x (f x) (hf x) p k n (hx x hm).1 (hx x hm).2]
 ·intro x hm
  have h2:=(List.mem_filter.1 hm).2
  have h3:¬x.pl.lt (xj p k n)=true:=by simpa using h2
  cases hl:ql x.pl.key p with
  |false=>rfl
  |true=>
   refine absurd ?_ h3
   rw [Pl.lt_iff]
   unfold xj
   by_cases hk:ql k p=true
   ·rw [if_pos hk];exact .inl hl
   ·rw [if_neg hk]
    simp only
    by_cases e:p=k
    ·rw [←e];exact .inl hl
    ·refine .inl (xL hl (yq (Ne.symm e) ?_))
     cases hkp:ql k p with
     |false=>rfl
     |true=>exact absurd hkp hk
theorem ZR{es:List En}(h:qX es)(f:En→zO)(hf:∀x,(f x).key=x.pl.key∧(f x).num=x.pl.num)(vs:List zO)(hv:vs.Perm (es.map f))(p k:ByteArray)(n:Int)(hx:∀x∈es,x.pl.key≠ByteArray.empty∧x.pl.num<9223372036854775807):qz vs p k n ((ZQ p k n es).map f) where
 sorted:=by
  rw [uT h f hf p k n hx,List.pairwise_map]
  refine(List.Pairwise.filter _ h).imp (fun {a b} hab=>?_)
  rw [zO.ahead_iff,(hf a).1,(hf b).1,(hf a).2,(hf b).2]
  exact(Pl.lt_iff _ _).1 hab
 perm:=by
  rw [uT h f hf p k n hx]
  have h1:=hv.filter (fun v=>yf v p k n)
  rw [List.filter_map] at h1
  exact h1.symm
end prog
namespace prog
open Go.ChangeShapes Go.WideShapes Go.ChangeAt Go.RowKit disk ref
open keys (zj zd zA zq)
attribute [local go_sem] Oper.semAt_some
theorem fH(w:World)(a b:ByteArray)(ha:a.size≤9223372036854775807)(hb:b.size≤9223372036854775807):
 Calls Tryz.prog 159 #[.string a,.string b] w fun e w'=>e=.returned (.bool (jX b a))∧w'=w:=by
 by_cases h:b.size≤a.size
 ·go_enter Tryz.func159,Tryz.ntmps159
  go_wp2
  go_ret
  exact⟨zd (v8 a b h),rfl⟩
 ·go_enter Tryz.func159,Tryz.ntmps159
  go_wp2
  go_ret
  exact⟨zd (jM a b (by omega)).symm,rfl⟩
theorem dc(w:World)(a b:ByteArray)(ha:a.size≤9223372036854775807)(hb:b.size≤9223372036854775807):
 Calls Tryz.prog 115 #[.string a,.string b] w fun e w'=>e=.returned (.bool (jX b a))∧w'=w:=by
 go_enter Tryz.func115,Tryz.ntmps115
 go_wp2_with (go_at_call 159;refine(fH w a b ha hb).mono ?_;rintro e w1 ⟨rfl,hw1⟩;rw [hw1];clear hw1 w1)
 go_ret
 exact⟨rfl,rfl⟩
def veV(x:En):List Value:=[.string x.pl.key,.int .i64 x.pl.num,.bool x.mark,.int .i64 (x.size:Int)]
def jE(l:List En):List Value:=(l.map veV).flatten
theorem Q1(l:List En)(x:En):jE (l++[x])=jE l++veV x:=by simp [jE]
theorem Tryz.infoVersion:(Tryz.prog.info? 94).map (fun i=>(i.zero,i.size,i.bytes))=some (some (.agg #[.string ⟨#[]⟩,.int .i64 0,.bool false,.int .i64 0]),4,40):=by kernel_rfl
structure Q5 (B b9:Nat) (m:Nat) (more:Bool) (L:List En) (A:World) (v:Value):Prop where
 at_:A.heap[b9]? =some (.cells #[v,.bool more] 90 (0,0))
 own:A.ownsRow 0 94 4 v L.length (jE L)
 form:∃a c,v=.slice a L.length c
 ge:∀k,v.ownBlock=some k→B≤k
structure Vi (w1:World) (bd:Nat) (S:Nat→Prop) (D:Dk) (b9:Nat) (f:En→Bool) (most:Nat) (r:Int) (pre:List En) (Q:Nat→Prop) (A:World):Prop where
 pg:∃v,Q5 (w1.heap.size+2) b9 most false pre A v∧∀k,Q k↔v.ownBlock=some k
 all:∀x∈pre,f x=true
 len:pre.length≤most
 disk:zh A bd S {D with reads:=r}
 kept:za (fun k=>k=bd∨k=b9∨w1.heap.size≤k) w1 A
 rd:D.reads+1≤r
structure VR (w1:World) (bd:Nat) (S:Nat→Prop) (D:Dk) (b9:Nat) (L:List En) (most:Nat) (c:Code) (r:Int) (A:World):Prop where
 c:c=.exit 0
 pg:∃v,Q5 (w1.heap.size+2) b9 most (decide (most<L.length)) (L.take most) A v
 disk:zh A bd S {D with reads:=r}
 kept:za (fun k=>k=bd∨k=b9∨w1.heap.size≤k) w1 A
 rd:D.reads+1≤r∧r≤D.reads+1000
theorem Q5.kept{B b9 m:Nat}{more:Bool}{L:List En}{A A':World}{v:Value}{Z:Nat→Prop}(h:Q5 B b9 m more L A v)(hk:za Z A A')(h9:¬Z b9)(hZ:∀k,B≤k→¬Z k):Q5 B b9 m more L A' v:=
 ⟨(hk.block _ (lT h.at_) h9).trans h.at_,hk.owns h.own (fun j hj=>hZ j (h.ge j hj)),h.form,h.ge⟩
theorem Vi.by{w1:World}{bd:Nat}{S:Nat→Prop}{D:Dk}{b9:Nat}{f:En→Bool}{most:Nat}{r r':Int}{pre:List En}{Q Z:Nat→Prop}{A B:World}(h:Vi w1 bd S D b9 f most r pre Q A)(hk:za Z A B)(hZ:∀k,Z k→k=bd∨k=w1.heap.size∨k=w1.heap.size+1)(hd:zh B bd S {D with reads:=r' })(hr:r≤r')(h9:b9<w1.heap.size∧b9≠bd)(hbd:bd<w1.heap.size):Vi w1 bd S D b9 f most r' pre Q B:=by
 obtain⟨v,h1,h2⟩:=h.pg
 exact⟨⟨v,h1.kept hk (fun hc=>by have:=hZ _ hc;omega) (fun k hb hc=>by have:=hZ _ hc;omega),h2⟩,h.all,h.len,hd,h.kept.trans hk (fun i hi=>by have:=hZ i hi;exact .inl (by omega)),Int.le_trans h.rd hr⟩
theorem Yz{f:En→Bool}:∀{l:List En},(∀x∈l,f x=true)→l.takeWhile f=l
 |[],_=>rfl
 |a::l,h=>by
  have ih:=Yz (f:=f) (l:=l) (fun x hx=>h x (List.mem_cons_of_mem _ hx))
  simp only [List.takeWhile_cons,h a (List.mem_cons_self ..),if_true,ih]
theorem J0{f:En→Bool}{pre l:List En}{x:En}(h:(pre++[x])<+:l)(ha:∀y∈pre,f y=true)(hx:f x=false):l.takeWhile f=pre:=by
 obtain⟨z,rfl⟩:=h
 rw [List.append_assoc,List.takeWhile_append_of_pos ha]
 simp [hx]
theorem J1{f:En→Bool}{pre l:List En}{x:En}(h:(pre++[x])<+:l)(ha:∀y∈pre,f y=true)(hx:f x=true):pre.length<(l.takeWhile f).length∧(l.takeWhile f).take pre.length=pre:=by
 obtain⟨z,rfl⟩:=h
 have:((pre++[x])++z).takeWhile f=pre++x::z.takeWhile f:=by
  rw [List.append_assoc,List.takeWhile_append_of_pos ha]
  simp [hx]
 rw [this]
 simp
theorem J2(w:World)(bs bd:Nat)(S:Nat→Prop)(D:Dk)(k:Int)(hs:zu w bs k (some bd))(hd:zh w bd S D)(hn:¬S bs)(hr0:0≤D.reads)(hr1:D.reads≤4611686018427360000)(tree n:Nat)(hb:qQ (D.look 1) tree n)(pfx:ByteArray)(hpf:pfx.size≤9223372036854775807)(p:Pl)(most:Nat)(hmost:most≤1000)(es:List En)(bl:List Nat)(hF:qE (fun j=>D.look (j:Nat)) tree es bl)(hbl:bl.length≤979)(hbs:∀j∈bl,21≤j)(hks:∀x∈es,x.pl.key.size≤9223372036854775807)(L:List En)(hL:(yv p es).takeWhile (fun x=>jX pfx x.pl.key)=L):
 Calls Tryz.prog 67 #[.pointer (some ⟨bs,0,none⟩),.string pfx,.agg #[.string p.key,.int .i64 p.num],.int .i64 (most:Int)] w fun e w'=>(∃a c,e=.returned (.agg #[.slice a (L.take most).length c,.bool (decide (most<L.length))])∧w'.ownsRow 0 94 4 (.slice a (L.take most).length c) (L.take most).length (jE (L.take most))∧∀j,(Value.slice a (L.take most).length c).ownBlock=some j→w.heap.size≤j)∧(∃r:Int,D.reads≤r∧r≤D.reads+1000∧zh w' bd S {D with reads:=r })∧za (fun i=>i=bd) w w':=by
 have HS:Hid _:=hs
 have HD:Hid (zh w bd S D):=hd
 have HB:Hid _:=hb
 have HF:Hid (qE (fun j=>D.look (j:Nat)) tree es bl):=hF
 have HBS:Hid (∀j∈bl,21≤j):=hbs
 have HKS:Hid (∀x∈es,x.pl.key.size≤9223372036854775807):=hks
 have HL:Hid ((yv p es).takeWhile (fun x=>jX pfx x.pl.key)=L):=hL
 have hbs:=hs.lt
 have hbd:bd<w.heap.size:=hd.lt bd hd.bdS
 have HSL:Hid (∀j,S j→j<w.heap.size):=hd.lt
 clear hs hd hb hF hbs hks hL
 obtain⟨j0,hi0,hz0,hz1,hz2⟩:=info_parts Tryz.infoVersion
 have HJ0:Hid (Tryz.prog.info? 94=some j0∧j0.zero=some (.agg #[.string ⟨#[]⟩,.int .i64 0,.bool false,.int .i64 0])∧j0.size=4∧j0.bytes=40):=⟨hi0,hz0,hz1,hz2⟩
 clear hi0 hz0 hz1 hz2
 refine q9 Tryz.func67 rfl ?_
 simp only [Tryz.ntmps67,List.size_toArray,List.length_cons,List.length_nil,Nat.reduceAdd,Nat.reduceSub,Array.replicate_succ,Array.replicate_zero,List.push_toArray,List.append_toArray,List.nil_append,List.cons_append]
 go_wp2_with fail
 obtain⟨n1,n2,n3,k3,s3⟩:=kt w (.cells #[.string pfx] 9) (.cells #[.string p.key,.int .i64 p.num] 107) (.cells #[.int .i64 (most:Int)] 3)
 have HN1:Hid _:=n1
 have HN3:Hid _:=n3
 have HK3:Hid _:=k3
 clear n1 n2 n3 k3
 generalize (((w.alloc (.cells #[.string pfx] 9)).alloc (.cells #[.string p.key,.int .i64 p.num] 107)).alloc (.cells #[.int .i64 (most:Int)] 3))=W3 at*
 have HK5:Hid (za (fun _=>False) W3 ((W3.alloc (.cells #[.slice none 0 0,.bool false] 90)).alloc (.cells #[.slice none 0 0,.bool false] 90))):=za.alloc2 _ _ _
 have HN4:Hid (((W3.alloc (.cells #[.slice none 0 0,.bool false] 90)).alloc (.cells #[.slice none 0 0,.bool false] 90)).heap[W3.heap.size]? =some (.cells #[.slice none 0 0,.bool false] 90 (0,0))):=((za.alloc (fun _=>False) _ _).block W3.heap.size (by simp) id).trans (heap_alloc_new W3 _)
 have HN5:Hid (((W3.alloc (.cells #[.slice none 0 0,.bool false] 90)).alloc (.cells #[.slice none 0 0,.bool false] 90)).heap[W3.heap.size+1]? =some (.cells #[.slice none 0 0,.bool false] 90 (0,0))):=heap_alloc2_new W3 _ _
 have hs5:((W3.alloc (.cells #[.slice none 0 0,.bool false] 90)).alloc (.cells #[.slice none 0 0,.bool false] 90)).heap.size=W3.heap.size+2:=by simp
 generalize ((W3.alloc (.cells #[.slice none 0 0,.bool false] 90)).alloc (.cells #[.slice none 0 0,.bool false] 90))=W at*
 have HKW:Hid (za (fun _=>False) w W):=HK3.out.trans HK5.out iL
 refine(vL W bs bd S D k (HS.out.kept HKW.out id) (HD.out.kept HKW.out nF) hn hr0 (by omega) tree n HB.out p).mono ?_
 rintro e w1 ⟨b1,b2,b3,rfl,hbox,hbb,hd1,hk1⟩
 have HBX:Hid _:=hbox
 have HD1:Hid (zh w1 bd S {D with reads:=D.reads+1 }):=hd1
 have HK1:Hid (za (fun i=>i=bd) W w1):=hk1
 have hsz1:=hk1.size
 have HE1:Hid (w1.heap[w.heap.size]? =some (.cells #[.string pfx] 9 (0,0))):=(hk1.block _ (by omega) (by omega)).trans ((HK5.out.block _ (by omega) id).trans HN1.out)
 have HE3:Hid (w1.heap[w.heap.size+2]? =some (.cells #[.int .i64 (most:Int)] 3 (0,0))):=(hk1.block _ (by omega) (by omega)).trans ((HK5.out.block _ (by omega) id).trans HN3.out)
 have HE4:Hid (w1.heap[W3.heap.size]? =some (.cells #[.slice none 0 0,.bool false] 90 (0,0))):=(hk1.block _ (by omega) (by omega)).trans HN4.out
 have HE5:Hid (w1.heap[W3.heap.size+1]? =some (.cells #[.slice none 0 0,.bool false] 90 (0,0))):=(hk1.block _ (by omega) (by omega)).trans HN5.out
 rw [s3] at HE4 HE5
 have HKw1:Hid (za (fun i=>i=bd) w w1):=(HKW.out.mono fE).trans HK1.out iL
 clear hbox hd1 hk1
 go_wp2_with fail
 have HS1:Hid (∀j,S j→j<w1.heap.size):=HD1.out.lt
 have HEND:Hid (∀(A:World) (r:Int) (more:Bool) (T:List En) (va:Option Addr) (vc:Nat) (a:Act),T=L.take most→more=decide (most<L.length)→Q5 (w1.heap.size+2) (w.heap.size+4) most more T A (.slice va T.length vc)→zh A bd S {D with reads:=r}→D.reads≤r→r≤D.reads+1000→za (fun k=>k=bd∨k=w.heap.size+4∨w1.heap.size≤k) w1 A→A.heap[w1.heap.size]? =some (.deferred (some []))→a.defers=[{target:=.collected w1.heap.size,args:=#[] }]→a.tmps.getD 8 undef=.pointer (some ⟨w.heap.size+3,0,none⟩)→
  Zn Tryz.prog Tryz.f67 (fun e w'=>(∃a c,e=.returned (.agg #[.slice a (L.take most).length c,.bool (decide (most<L.length))])∧w'.ownsRow 0 94 4 (.slice a (L.take most).length c) (L.take most).length (jE (L.take most))∧∀j,(Value.slice a (L.take most).length c).ownBlock=some j→w.heap.size≤j)∧(∃r:Int,D.reads≤r∧r≤D.reads+1000∧zh w' bd S {D with reads:=r })∧za (fun i=>i=bd) w w') .ret a ((A.setCell ⟨w.heap.size+3,0,none⟩ (.slice va T.length vc)).setCell ⟨w.heap.size+3,1,none⟩ (.bool more))):=by
  rintro A r more T va vc a rfl rfl hp hd h0 h1 hk hK ha h8
  have hA4:A.heap[w.heap.size+3]? =_:=(hk.block _ (by omega) (by omega)).trans HE4.out
  have hh1:=heap_setCell_same A (w.heap.size+3) 0 _ _ (.slice va (L.take most).length vc) hA4
  have hh2:=heap_setCell_same _ (w.heap.size+3) 1 _ _ (.bool (decide (most<L.length))) hh1
  have kS:za (fun j=>j=w.heap.size+3) A ((A.setCell ⟨w.heap.size+3,0,none⟩ (.slice va (L.take most).length vc)).setCell ⟨w.heap.size+3,1,none⟩ (.bool (decide (most<L.length)))):=(za.setCell (S:=fun j=>j=w.heap.size+3) A ⟨w.heap.size+3,0,none⟩ _ rfl).trans (za.setCell (S:=fun j=>j=w.heap.size+3) _ ⟨w.heap.size+3,1,none⟩ _ rfl) iL
  generalize ((A.setCell ⟨w.heap.size+3,0,none⟩ (.slice va (L.take most).length vc)).setCell ⟨w.heap.size+3,1,none⟩ (.bool (decide (most<L.length))))=Y at*
  have hz:=hk.size
  have hzS:=kS.size
  have hlK:=(lT hK)
  have hKY:=(kS.block _ hlK (by omega)).trans hK
  have kp:za (fun k=>k=w1.heap.size) Y (Y.putObj w1.heap.size (.deferred none)):=za.putObj _ _ _ rfl
  have hh3:=(kp.block _ (by omega) (by omega)).trans hh2
  refine xq ha hKY (results_cell_row Tryz.results67 _ _ (w.heap.size+3) 90 _ (0,0) _ h8 hh3 Tryz.underlying90 rfl (by kernel_rfl)) ⟨⟨va,vc,rfl,kp.owns (kS.owns hp.own (fun j hj e0=>by have:=hp.ge j hj;omega)) (fun j hj e0=>by have:=hp.ge j hj;omega),fun j hj=>by have:=hp.ge j hj;omega⟩,⟨r,h0,h1,(hd.kept kS (fun j hj e0=>by have:=HSL.out j hj;omega)).kept kp (fun j hj e0=>by have:=HSL.out j hj;omega)⟩,?_⟩
  exact((HKw1.out.trans hk (fun j hj=>by
   rcases hj with h|h|h
   ·exact .inl h
   ·exact .inr (by omega)
   ·exact .inr (by omega))).trans kS (fun j hj=>.inr (by omega))).trans kp (fun j hj=>.inr (by omega))
 refine jk (α:=En) (gf:= 190) (lb:=#[.pointer (some ⟨b1,0,none⟩),.pointer (some ⟨b2,0,none⟩),.pointer (some ⟨b3,0,none⟩)]) rfl (enters_of Tryz.func190 (by kernel_rfl) rfl)
  (fun W1 hk hsz=>Zu W1 bd S D b1 b2 b3 tree p (HBX.out.kept hk id id id) es bl HF.out hbl HBS.out (by omega) (D.reads+1) (by omega) (by omega))
  (fun k hk=>by rw [hk];omega) (fun _=>rfl)
  (Vi w1 bd S D (w.heap.size+4) (fun x=>jX pfx x.pl.key) most) (fun c r pre A=>VR w1 bd S D (w.heap.size+4) L most c r A)
  (fun r pre Q A h=>⟨h.disk,fun k hk=>by
   obtain⟨v,h1,h2⟩:=h.pg
   have h3:=(h2 k).1 hk
   have h4:=h1.ge k h3
   have h5:=(h1.own.lt k h3).2
   omega⟩)
  (fun r r' pre Q A B h hr hk hi=>h.by hk (fun k hk=>.inl hk) hi hr (by omega) (by omega))
  (fun r pre Q A B h hk=>h.by hk (fun k hk=>.inr hk) (h.disk.kept hk (fun j hj hc=>by have:=HS1.out j hj;omega)) (Int.le_refl _) (by omega) (by omega))
  (fun c r pre A B h hk=>⟨h.c,by
   obtain⟨v,h1⟩:=h.pg
   exact⟨v,h1.kept hk (by omega) (fun k hb hc=>by omega)⟩,h.disk.kept hk (fun j hj hc=>by have:=HS1.out j hj;omega),h.kept.trans hk (fun i hi=>.inl (.inr (.inr (by omega)))),h.rd⟩)
  ⟨⟨_,⟨HE5.out,World.ownsRow_nil _ 0 94 4,⟨none,0,rfl⟩,fun k hk=>by cases hk⟩,fun k=>by simp [Value.ownBlock]⟩,fun _ h=>(nomatch h),Nat.zero_le _,HD1.out,za.refl _ _,Int.le_refl _⟩
  (fun x a' A=>∃b6,w1.heap.size+1<b6∧A.heap[b6]? =some (.cells (qc x).toArray 109 (0,0))∧a'={tmps:=#[.pointer (some ⟨bs,0,none⟩),.string pfx,.agg #[.string p.key,.int .i64 p.num],.int .i64 (most:Int),undef,.pointer (some ⟨w.heap.size,0,none⟩),.pointer (some ⟨w.heap.size+1,0,none⟩),.pointer (some ⟨w.heap.size+1+1,0,none⟩),.pointer (some ⟨w.heap.size+1+1+1,0,none⟩),.pointer (some ⟨w.heap.size+1+1+1+1,0,none⟩),.pointer (some ⟨b6,0,none⟩),.pointer (some ⟨bs,0,none⟩),.agg #[.string p.key,.int .i64 p.num],.func (.func 190) #[] #[.pointer (some ⟨b1,0,none⟩),.pointer (some ⟨b2,0,none⟩),.pointer (some ⟨b3,0,none⟩)],.agg (qc x).toArray,undef,undef,undef,undef,undef,undef,undef,undef,undef,undef,undef,undef,undef,undef,undef,undef,undef,undef,undef,undef,undef,undef,undef,undef,undef,undef,undef,undef,undef],defers:=[] })
  (fun x a A B h hk=>by
   obtain⟨b6,h1,h2,h3⟩:=h
   exact⟨b6,h1,(hk.block _ (lT h2) (by omega)).trans h2,h3⟩)
  (fun r pre x A B h _=>h) ?assign ?body ?done ?stop
 case assign=>
  intro l r pre x Q A K hi hh hlt hK
  dsimp only [qc]
  gi_wp2
  exact hK _ _ (za.alloc _ _ _) (hi.by (za.alloc (fun _=>False) _ _) (fun _ h=>h.elim) (hi.disk.kept (za.alloc (fun _=>False) _ _) nF) (Int.le_refl _) (by omega) (by omega)) hh ⟨A.heap.size,by omega,heap_alloc_new A _,rfl⟩
 case body=>
  rintro l r pre x Q a' A hi hh ⟨b6,hb6,hbx,rfl⟩ hlt
  obtain⟨v,hv,hq⟩:=hi.pg
  obtain⟨va,vc,rfl⟩:=hv.form
  have HI:Hid (Vi w1 bd S D (w.heap.size+4) (fun x=>jX pfx x.pl.key) most r pre Q A):=hi
  have HV:Hid (Q5 (w1.heap.size+2) (w.heap.size+4) most false pre A (.slice va pre.length vc)):=hv
  have HQ:Hid (∀k,Q k↔(Value.slice va pre.length vc).ownBlock=some k):=hq
  have HX:Hid _:=hbx
  have HPX:Hid ((pre++[x])<+:yv p es):=hh.pre
  have hr2:r≤D.reads+1000:=by have:=hh.le;omega
  have hxs:=HKS.out x (List.mem_filter.1 (hh.pre.subset (by simp))).1
  have hml:=hi.len
  have HA1:Hid (A.heap[w.heap.size]? =_):=(hi.kept.block _ (by omega) (by omega)).trans HE1.out
  have HA3:Hid (A.heap[w.heap.size+2]? =_):=(hi.kept.block _ (by omega) (by omega)).trans HE3.out
  have x0:A.cell? ⟨b6,0,none⟩=some (.string x.pl.key):=cR HX.out rfl
  have x1:A.cell? ⟨b6,1,none⟩=some (.int .i64 x.pl.num):=cR HX.out rfl
  have x2:A.cell? ⟨b6,2,none⟩=some (.bool x.mark):=cR HX.out rfl
  have x3:A.cell? ⟨b6,3,none⟩=some (.int .i64 (x.size:Int)):=cR HX.out rfl
  have y1:A.cell? ⟨w.heap.size,0,none⟩=some (.string pfx):=cR HA1.out rfl
  have y3:A.cell? ⟨w.heap.size+1+1,0,none⟩=some (.int .i64 (most:Int)):=cR HA3.out rfl
  have z0:A.cell? ⟨w.heap.size+1+1+1+1,0,none⟩=some (.slice va pre.length vc):=cR hv.at_ rfl
  have z1:A.cell? ⟨w.heap.size+1+1+1+1,1,none⟩=some (.bool false):=cR hv.at_ rfl
  have zf:=frozen_of_row A (w.heap.size+1+1+1+1) 1 _ _ hv.at_
  have hszA:=hi.kept.size
  clear hi hh hv hq hbx
  gi_wp2_with fail
  refine⟨trivial,rfl,?_⟩
  refine((qW l).calls (dc A x.pl.key pfx hxs hpf)).mono ?_
  rintro e A1 ⟨rfl,hA1⟩
  rw [hA1]
  clear hA1 A1
  cases hbeg:jX pfx x.pl.key with
  |false=>
   have HBG:Hid (jX pfx x.pl.key=false):=hbeg
   clear hbeg
   gi_wp2
   have hst:=J0 HPX.out HI.out.all HBG.out
   rw [HL.out] at hst
   refine⟨za.refl _ _,rfl,⟨.slice va pre.length vc,?_⟩,HI.out.disk,HI.out.kept,HI.out.rd,hr2⟩
   rw [hst,List.take_of_length_le hml,decide_eq_false (by omega)]
   exact HV.out
  |true=>
   have HBG:Hid (jX pfx x.pl.key=true):=hbeg
   clear hbeg
   by_cases hme:pre.length=most
   ·have hmi:((pre.length:Int)==(most:Int))=true:=by rw [hme];simp
    have HME:Hid (pre.length=most):=hme
    clear hme
    gi_wp2
    have hst:=J1 HPX.out HI.out.all HBG.out
    rw [HL.out] at hst
    have kS:=za.setCell (S:=fun j=>j=w.heap.size+4) A ⟨w.heap.size+4,1,none⟩ (.bool true) rfl
    refine⟨kS.mono (fun j hj=>.inl (by omega)),rfl,⟨.slice va pre.length vc,?_⟩,HI.out.disk.kept kS (fun j hj hc=>by have:=HSL.out j hj;omega),HI.out.kept.trans kS (fun j hj=>.inl (.inr (.inl hj))),HI.out.rd,hr2⟩
    rw [←HME.out,hst.2,decide_eq_true hst.1]
    exact⟨heap_setCell_same A (w.heap.size+4) 1 _ _ _ HV.out.at_,kS.owns HV.out.own (fun j hj e0=>by have:=HV.out.ge j hj;omega),⟨va,vc,rfl⟩,HV.out.ge⟩
   ·have hmi:((pre.length:Int)==(most:Int))=false:=beq_false_of_ne (by omega)
    have HKA:Hid (za (fun _=>False) A (A.alloc (.cells #[.string x.pl.key,.int .i64 x.pl.num,.bool x.mark,.int .i64 (x.size:Int)] 94))):=za.alloc _ _ _
    have HBA:Hid ((A.alloc (.cells #[.string x.pl.key,.int .i64 x.pl.num,.bool x.mark,.int .i64 (x.size:Int)] 94)).heap[A.heap.size]? =some (.cells (veV x).toArray 94 (0,0))):=heap_alloc_new A _
    have HVO:Hid (A.ownsRow 0 94 4 (.slice va pre.length vc) pre.length (jE pre)):=HV.out.own
    gi_wp2_with (gi_at_builtin;refine(qW l).append_lies _ rfl _ _ 44 rfl 0 94 j0 (.agg #[.string ⟨#[]⟩,.int .i64 0,.bool false,.int .i64 0]) 4 40 Tryz.underlying44 HJ0.out.1 HJ0.out.2.1 HJ0.out.2.2.1 HJ0.out.2.2.2 rfl (by decide) (.slice va pre.length vc) pre.length (jE pre) rfl (HKA.out.owns HVO.out nF) ⟨A.heap.size,0,none⟩ 1 1 (veV x) rfl rfl (World.news_of_block HBA.out) (by simp [veV,Value.oneCell']) (by decide) (by unfold maxLen;omega) (by omega) (Nat.zero_le _) (A.heap.size+1) (by simp) ?_;intro ga ca wA hown hgrow hor hglt;have HOW:Hid _:=hown;have HOR:Hid ((Value.slice va pre.length vc).ownBlock=some ga∨ga=A.heap.size+1):=hor;have HKG:Hid (za (fun k=>(Value.slice va pre.length vc).ownBlock=some k) (A.alloc (.cells #[.string x.pl.key,.int .i64 x.pl.num,.bool x.mark,.int .i64 (x.size:Int)] 94)) wA):=za.grown hgrow (fun k hk=>hk);have HAX:Hid (wA.heap[w.heap.size+4]? =some (.cells #[.slice va pre.length vc,.bool false] 90 (0,0))):=(HKG.out.block _ (by simp;omega) (fun hc=>by have:=HV.out.ge _ hc;omega)).trans ((HKA.out.block _ (by omega) id).trans HV.out.at_);have cAx:wA.cell? ⟨w.heap.size+1+1+1+1,0,none⟩=some (.slice va pre.length vc):=(cR HAX.out rfl);have fAx:wA.frozen? ⟨w.heap.size+1+1+1+1,0,none⟩=false:=frozen_of_row wA (w.heap.size+4) 0 _ _ HAX.out;clear hown hgrow hor)
    have h5:=heap_setCell_same wA (w.heap.size+4) 0 _ _ (.slice (some ⟨ga,0,none⟩) (pre.length+1) ca) HAX.out
    have kS:=za.setCell (S:=fun j=>j=w.heap.size+4) wA ⟨w.heap.size+4,0,none⟩ (.slice (some ⟨ga,0,none⟩) (pre.length+1) ca) rfl
    have kP:za (fun k=>k=w.heap.size+4∨Q k) A (wA.setCell ⟨w.heap.size+4,0,none⟩ (.slice (some ⟨ga,0,none⟩) (pre.length+1) ca)):=(((HKA.out.mono fE).trans HKG.out (fun k hk=>.inl (.inr ((HQ.out k).2 hk)))).trans kS (fun k hk=>.inl (.inl hk)))
    have hgq:w1.heap.size+2≤ga:=by
     rcases HOR.out with h|h
     ·exact HV.out.ge ga h
     ·omega
    have hlen:(pre++[x]).length=pre.length+1:=by simp
    have hQ2:∀k,Q k→w1.heap.size+2≤k:=fun k hk=>HV.out.ge k ((HQ.out k).1 hk)
    refine⟨kP.mono (fun k hk=>by rcases hk with h|h;exact .inl (by omega);exact .inr h),fun k=>k=ga,⟨⟨.slice (some ⟨ga,0,none⟩) (pre.length+1) ca,⟨h5,?_,⟨some ⟨ga,0,none⟩,ca,by rw [hlen]⟩,fun k hk=>?_⟩,fun k=>?_⟩,fun y hy=>?_,by rw [hlen];omega,HI.out.disk.kept kP (fun j hj hc=>?_),?_,HI.out.rd⟩,fun k hk=>?_⟩
    ·rw [hlen,Q1]
     exact kS.owns HOW.out (fun j hj e0=>by simp [Value.ownBlock] at hj;omega)
    ·simp [Value.ownBlock] at hk;omega
    ·simp [Value.ownBlock];exact eq_comm
    ·rcases List.mem_append.1 hy with hy|hy
     ·exact HI.out.all y hy
     ·rw [List.mem_singleton.1 hy];exact HBG.out
    ·have:=HSL.out j hj
     rcases hc with h|h
     ·omega
     ·have:=hQ2 j h;omega
    ·exact HI.out.kept.trans kP (fun k hk=>by
      rcases hk with h|h
      ·exact .inl (.inr (.inl h))
      ·exact .inl (.inr (.inr (by have:=hQ2 k h;omega))))
    ·rw [hk]
     rcases HOR.out with h|h
     ·exact .inl ((HQ.out ga).2 h)
     ·exact .inr (by omega)
 case done=>
  rintro DD r xs Q A hS hi rfl hK
  obtain⟨v,hv,hq⟩:=hi.pg
  obtain⟨va,vc,rfl⟩:=hv.form
  have hLx:L=xs:=by rw [←HL.out,←hS.1];exact Yz hi.all
  have hr2:=hS.2.1
  have hlen:=hi.len
  have hrd:=hi.rd
  have hA4:A.heap[w.heap.size+3]? =_:=(hi.kept.block _ (by omega) (by omega)).trans HE4.out
  have HFN:Hid (∀a:Act,a.defers=[{target:=.collected w1.heap.size,args:=#[] }]→a.tmps.getD 8 undef=.pointer (some ⟨w.heap.size+3,0,none⟩)→_):=fun a h1 h2=>HEND.out A r false xs va vc a (by rw [hLx,List.take_of_length_le hlen]) (by rw [hLx,decide_eq_false (by omega)]) hv hi.disk (by omega) (by omega) hi.kept hK h1 h2
  have z0:A.cell? ⟨w.heap.size+1+1+1+1,0,none⟩=some (.slice va xs.length vc):=cR hv.at_ rfl
  have z1:A.cell? ⟨w.heap.size+1+1+1+1,1,none⟩=some (.bool false):=cR hv.at_ rfl
  have y0:A.cell? ⟨w.heap.size+1+1+1,0,none⟩=some (.slice none 0 0):=cR hA4 rfl
  have y1:A.cell? ⟨w.heap.size+1+1+1,1,none⟩=some (.bool false):=cR hA4 rfl
  have f0:=frozen_of_row A (w.heap.size+1+1+1) 0 _ _ hA4
  have f1:=frozen_of_row A (w.heap.size+1+1+1) 1 _ _ hA4
  clear hi hS hv hq hK hA4 hLx
  dsimp only
  go_wp2
  exact HFN.out _ rfl rfl
 case stop=>
  rintro DD c r pre A hS hi rfl hK
  obtain⟨v,hv⟩:=hi.pg
  obtain⟨T,hT⟩:∃T,T=L.take most:=⟨_,rfl⟩
  obtain⟨more,hM⟩:∃m,m=decide (most<L.length):=⟨_,rfl⟩
  rw [←hT,←hM] at hv
  obtain⟨va,vc,rfl⟩:=hv.form
  obtain rfl:c=.exit 0:=hi.c
  have hrd:=hi.rd
  have hA4:A.heap[w.heap.size+3]? =_:=(hi.kept.block _ (by omega) (by omega)).trans HE4.out
  have HFN:Hid (∀a:Act,a.defers=[{target:=.collected w1.heap.size,args:=#[] }]→a.tmps.getD 8 undef=.pointer (some ⟨w.heap.size+3,0,none⟩)→_):=fun a h1 h2=>HEND.out A r more T va vc a hT hM hv hi.disk (by omega) (by omega) hi.kept hK h1 h2
  have z0:A.cell? ⟨w.heap.size+1+1+1+1,0,none⟩=some (.slice va T.length vc):=cR hv.at_ rfl
  have z1:A.cell? ⟨w.heap.size+1+1+1+1,1,none⟩=some (.bool more):=cR hv.at_ rfl
  have y0:A.cell? ⟨w.heap.size+1+1+1,0,none⟩=some (.slice none 0 0):=cR hA4 rfl
  have y1:A.cell? ⟨w.heap.size+1+1+1,1,none⟩=some (.bool false):=cR hA4 rfl
  have f0:=frozen_of_row A (w.heap.size+1+1+1) 0 _ _ hA4
  have f1:=frozen_of_row A (w.heap.size+1+1+1) 1 _ _ hA4
  clear hi hS hv hK hA4 hT hM
  dsimp only
  go_wp2
  exact HFN.out _ rfl rfl
end prog
end Go.Proofs.YtcoengihaobddaaGreatDoor
