/- Part 31 of 34 of a proof: Rem9, Fall4 -/
import Derived.Test.YtcoengihaobddaaGreatDoorJk30
set_option maxHeartbeats 8000000
set_option linter.unusedVariables false
set_option linter.unusedSimpArgs false
set_option maxRecDepth 8000
namespace Go.Proofs.YtcoengihaobddaaGreatDoor
namespace prog
open Go.RowKit disk ref
structure VQ {h:Nat} (D:Dk) (t:Tr h) (p:Pl) (C C':Ck) (m m':List UInt8) (e:En) (s:Bool) (pb fb:List Nat):Prop where
 cln:fI D C' m'
 shr:vS D C C' m m' pb fb
 sub:∀j∈pb,j∈t.blocks
 own:s=true→t.blk∈pb
 pl:pb.length≤2*h+1
 few:C'.ws.length≤C.ws.length+4*(h+1)
 mem:e∈t.ents
 at_:e.pl=p
 tree:∃t',fG t p t'∧t'.LayV zl (fun j=>C'.look D (j:Nat))∧(t'.blocks++fb).Perm t.blocks∧(s=false→t'.items.length=t.items.length∨3≤t'.items.length)
theorem fJ:∀{h:Nat} (t:Tr h),zN h=4→∀e∈t.items,e.mark=false∧e.size=0
 |0,_,hk,_,_=>by simp [zN] at hk
 |_+1,t,_,e,he=>by
  obtain⟨c,_,rfl⟩:=List.mem_map.1 he
  exact⟨rfl,rfl⟩
theorem bZ:∀h:Nat,zN h=4∨zN h=5
 |0=>.inr rfl
 |_+1=>.inl rfl
theorem kt.below{bc bd:Nat}{S T:Nat→Prop}{D:Dk}{C:Ck}{h at_:Nat}{p:Pl}{v:List Value}{s ok:Bool}{C':Ck}(k:kt bc bd S T D C h at_ p v s ok C')(r:Int)(h0:0≤r)(h1:r+(4*(h+1):Nat)≤4611686018427370000):
 J5 bc bd S T {D with reads:=r} C at_ p (4*h+1) v s ok C':=
 ⟨fun w0 n0 a b hc=>k.go w0 (r+n0) (by omega) (by omega) hc⟩
theorem ZU:∀{h:Nat} (t:Tr h),t.blocks=t.blk::t.blocks.tail
 |0,_=>rfl
 |_+1,_=>rfl
theorem XI{h:Nat}{u v:Tr h}(hn:(u.blocks++v.blocks).Nodup):(u.join v).blk∉(u.join v).blocks.tail:=by
 have h1:=(List.nodup_append.1 ((jW u v).nodup_iff.2 hn)).1
 rw [ZU,List.nodup_cons] at h1
 exact h1.1
theorem ZV(bc bd:Nat)(S T:Nat→Prop)(D:Dk)(p:Pl):∀(h:Nat) (t:Tr h) (C:Ck) (m:List UInt8),h≤100→t.Good→(0<h→2≤t.items.length)→t.items.length≤6→yg t.ents→t.blocks.Nodup→
 (∀j∈t.blocks,21≤j∧j<1000)→t.LayV zl (fun j=>C.look D (j:Nat))→fI D C m→C.ws.length+4*(h+1)<700→
 (∃e C' m' s pb fb,VQ D t p C C' m m' e s pb fb∧kt bc bd S T D C h t.blk p (qp e) s true C')∨((∀x∈t.ents,x.pl≠p)∧kt bc bd S T D C h t.blk p qo false false C)
 |0,(b,es),C,m,_,g,_,h6,hs,hnd,hrg,hl,hc,hfew=>by
  have h6':es.length≤6:=h6
  have hs':yg es:=hs
  have hl':C.look D b=zl (za 5 es):=hl
  by_cases hx:∃hi:zm es p<es.length,es[zm es p].pl=p
  ·obtain⟨hi,he⟩:=hx
   have hb:=hrg b (List.mem_singleton.2 rfl)
   have hdl:=hs'.erase p hi he
   have hlen:(qO p es).length=es.length-1:=by rw [←hdl,List.length_eraseIdx_of_lt hi]
   refine .inl ⟨es[zm es p],C.put b (zl (za 5 (qO p es))),m,decide ((qO p es).length<3),[b],[],⟨hc.put (by omega) _,vS.put D C m b _,fun j hj=>hj,fun _=>List.mem_singleton.2 rfl,by simp,by have:=qq C b (zl (za 5 (qO p es)));omega,List.getElem_mem hi,he,(b,qO p es),XG g hs' h6' hi he,qg _ _ _ _,by rw [List.append_nil];exact List.Perm.refl _,fun h=>.inr (by show 3≤(qO p es).length;simpa using h)⟩,⟨fun w r h0 h1 hcw=>?_⟩⟩
   refine(ZP w bc bd S T {D with reads:=r} C hcw h0 (by show r≤_;omega) b g.1 es g.2 h6' hs' (by rw [zI];exact hl') p (zm es p) rfl hi he (by omega) (qO p es) hdl (decide ((qO p es).length<3)) (decide_eq_decide.2 (by omega))).mono ?_
   rintro x w' ⟨h1,⟨n,T',h2,h3,h4,h5⟩,h6⟩
   exact⟨h1,⟨n,T',h2,by simpa using h3,h4,h5⟩,h6⟩
  ·refine .inr ⟨(hs'.find p).2 (fun hi he=>hx ⟨hi,he⟩),⟨fun w r h0 h1 hcw=>?_⟩⟩
   refine(ZO w bc bd S T {D with reads:=r} C hcw h0 (by show r≤_;omega) b g.1 es g.2 h6' hs' (by rw [zI];exact hl') p (fun hi he=>hx ⟨hi,he⟩)).mono ?_
   rintro x w' ⟨h1,⟨n,h2,h3,h4⟩,h6⟩
   exact⟨h1,⟨n,T,h2,by simpa using h3,h4,fun _ h=>.inl h⟩,h6.mono iL⟩
 |h+1,(b,cs),C,m,hh,g,h2,h6,hs,hnd,hrg,hl,hc,hfew=>by
  have h2':2≤cs.length:=Nat.le_trans (h2 (by omega)) (Nat.le_of_eq (zs b cs))
  have h6':cs.length≤6:=Nat.le_trans (Nat.le_of_eq (zs b cs).symm) h6
  have kk:Kids cs:=g.kids
  obtain⟨A,q,tc,B,rfl,hA,hAq,hB⟩:=kk.child (fun e0=>by rw [e0] at h2';simp at h2') p
  have hmem:(q,tc)∈A++(q,tc)::B:=by simp
  have hgc:=kk.good (q,tc) hmem
  have hfull:=g.full
  have hnd':(b::(zA A++(tc.blocks++zA B))).Nodup:=by
   have:(b::zA (A++(q,tc)::B)).Nodup:=hnd
   rw [ql,qt] at this;exact this
  obtain⟨n1,n2,n3,n4,n5,n6,n7,n8⟩:=uk hnd'
  have hrg':∀j,j=b∨j∈zA (A++(q,tc)::B)→21≤j∧j<1000:=fun j hj=>hrg j (by
   show j∈b::zA (A++(q,tc)::B)
   exact List.mem_cons.2 hj)
  have hs0:yg (zJ (A++(q,tc)::B)):=hs
  have hs':yg (zJ A++(tc.ents++zJ B)):=by rw [zt,zo] at hs0;exact hs0
  have hsc:yg tc.ents:=(List.pairwise_append.1 (List.pairwise_append.1 hs').2.1).1
  have hl1:C.look D b=zl (za 4 ((A++(q,tc)::B).map xN)):=hl.1
  have hl2:∀c∈A++(q,tc)::B,c.2.LayV zl (fun j=>C.look D (j:Nat)):=hl.2
  have hb:=hrg' b (.inl rfl)
  have hsrt:yg ((A++(q,tc)::B).map xN):=kk.items_srt
  have hes:∀x∈(A++(q,tc)::B).map xN,x.Ok:=g.items_ok
  have hes4:∀x∈(A++(q,tc)::B).map xN,x.mark=false∧x.size=0:=fun x hx=>by
   obtain⟨c,_,rfl⟩:=List.mem_map.1 hx;exact⟨rfl,rfl⟩
  have hlen:((A++(q,tc)::B).map xN).length=(A++(q,tc)::B).length:=by simp
  have hcl:A.length<((A++(q,tc)::B).map xN).length:=by rw [hlen];simp
  have hat:((A++(q,tc)::B).map xN)[A.length].at_=tc.blk:=by simp [xN]
  have hA':zw ((A++(q,tc)::B).map xN) p=A.length:=hA.symm
  have hside:∀(C2:Ck),(∀j:Nat,j∉tc.blocks→j≠b→j≠2→C2.look D j=C.look D j)→∀c,c∈A∨c∈B→c.2.LayV zl (fun j=>C2.look D (j:Nat)):=fun C2 hq c hcm=>by
   have hcm':c∈A++(q,tc)::B:=by rcases hcm with h|h<;>simp [h]
   refine(hl2 c hcm').congr (fun j hj=>?_)
   have hjb:=hrg' j (.inr (zU hcm' hj))
   rcases hcm with hca|hcb
   ·exact hq j (n7 j (zU hca hj)) (fun e0=>n1 (e0▸zU hca hj)) (by omega)
   ·exact hq j (n8 j (zU hcb hj)) (fun e0=>n3 (e0▸zU hcb hj)) (by omega)
  rcases ZV bc bd S T D p h tc C m (by omega) hgc.1 (fun _=>by have:=hfull (q,tc) hmem;simp only at this;omega) hgc.2.1 hsc n5 (fun j hj=>hrg' j (.inr (zU hmem hj))) (hl2 (q,tc) hmem) hc (by omega) with⟨e,C1,m1,s,pb,fb,R,K⟩|⟨hno,K⟩
  ·obtain⟨tc',L,lay,perm,hkeep⟩:=R.tree
   have hfb:∀j∈fb,j∈tc.blocks:=fun j hj=>perm.mem_iff.1 (List.mem_append_right _ hj)
   have htb:∀j∈tc'.blocks,j∈tc.blocks:=fun j hj=>perm.mem_iff.1 (List.mem_append_left _ hj)
   have hme:e∈zJ (A++(q,tc)::B):=j9 hmem R.mem
   have hb1:C1.look D b=C.look D b:=R.shr.look b (fun hj=>n2 (R.sub b hj)) (fun hj=>n2 (hfb b hj)) (by omega)
   have hq1:∀j:Nat,j∉tc.blocks→j≠b→j≠2→C1.look D j=C.look D j:=fun j h1 h2 h3=>R.shr.look j (fun hj=>h1 (R.sub j hj)) (fun hj=>h1 (hfb j hj)) h3
   cases hs1:s with
   |false=>
    rw [hs1] at K R
    have h3c:=hfull (q,tc) hmem
    simp only at h3c
    have h3:3≤tc'.items.length:=by rcases hkeep hs1 with h|h<;>omega
    refine .inl ⟨e,C1,m1,false,pb,fb,⟨R.cln,R.shr,fun j hj=>List.mem_cons_of_mem _ (zU hmem (R.sub j hj)),fun h=>(nomatch h),by have:=R.pl;omega,by have:=R.few;omega,hme,R.at_,(b,A++(q,tc')::B),ZR g h6' hAq hB L h3,⟨?_,fun c hcm=>?_⟩,x7 perm,?_⟩,⟨fun w r h0 h1 hcw=>?_⟩⟩
    ·show C1.look D b=zl (za 4 ((A++(q,tc')::B).map xN))
     rw [hb1,hl1]
     congr 2
     simp [xN,L.blk]
    ·have hcm:c∈A++(q,tc')::B:=hcm
     rcases List.mem_append.1 hcm with hca|hcb
     ·exact hside C1 hq1 c (.inl hca)
     ·rcases List.mem_cons.1 hcb with rfl|hcb
      ·exact lay
      ·exact hside C1 hq1 c (.inr hcb)
    ·exact fun _=>.inl (by rw [zs,zs];simp)
    ·have hrec:=K.below r h0 (by omega)
     rw [←hat] at hrec
     refine(kw w bc bd S T {D with reads:=r} C hcw h0 (by show r≤_;omega) b g.1 _ hes hes4 (by omega) hsrt (by rw [zI];exact hl1) p (4*h+1) (by omega) _ ⟨_,_,_,_,_,rfl⟩ false true C1 A.length hA' hcl hrec false true C1 (.inl ⟨rfl,rfl,rfl,rfl⟩)).mono ?_
     rintro x w' ⟨k1,⟨n,T',k2,k3,k4,k5⟩,k6⟩
     exact⟨k1,⟨n,T',k2,by omega,k4,k5⟩,k6⟩
   |true=>
    rw [hs1] at K R
    have hown:=R.own rfl
    obtain⟨X,Y,p1,p2,u,v,P⟩:=KM A B q tc' (by simpa using h2')
    have hit:=Yh L.blk P
    obtain⟨kL,eL⟩:=kx kk hAq hB L
    have hpB:=x7 (b:=b) (A:=A) (B:=B) (q:=q) perm
    have hndP:(b::zA (X++(p1,u)::(p2,v)::Y)).Nodup:=by
     have:=(List.nodup_append.1 (hpB.nodup_iff.2 hnd)).1
     have h1:(b::zA (A++(q,tc')::B)).Nodup:=this
     rw [P.eq] at h1;exact h1
    have hmP:∀j,j∈zA (X++(p1,u)::(p2,v)::Y)→j∈zA (A++(q,tc)::B):=fun j hj=>by
     have h1:j∈Tr.blocks (h:=h+1) (b,A++(q,tc')::B)++fb:=List.mem_append_left _ (List.mem_cons_of_mem _ (by rw [P.eq];exact hj))
     have h2:j∈b::zA (A++(q,tc)::B):=hpB.mem_iff.1 h1
     rcases List.mem_cons.1 h2 with rfl|h2
     ·exact absurd hj (List.nodup_cons.1 hndP).1
     ·exact h2
    have eP:zA (X++(p1,u)::(p2,v)::Y)=zA X++((u.blocks++v.blocks)++zA Y):=by rw [ql,qt,qt,List.append_assoc]
    have hndQ:=hndP
    rw [eP] at hndQ
    obtain⟨o1,o2,o3,o4,o5,o6,o7,o8⟩:=uk hndQ
    have hrP:∀j,j∈zA X∨j∈u.blocks++v.blocks∨j∈zA Y→21≤j∧j<1000:=fun j hj=>hrg' j (.inr (hmP j (by
     rw [eP,List.mem_append,List.mem_append (s:=u.blocks++v.blocks)];exact hj)))
    rw [P.eq] at kL
    have gu:=kL.good (p1,u) (by simp)
    have gv:=kL.good (p2,v) (by simp)
    have hub:u.blk∈u.blocks++v.blocks:=List.mem_append_left _ u.blk_mem
    have hvb:v.blk∈u.blocks++v.blocks:=List.mem_append_right _ v.blk_mem
    have huv:u.blk≠v.blk:=fun e0=>(List.nodup_append.1 o5).2.2 _ u.blk_mem _ v.blk_mem e0
    have hur:=hrP _ (.inr (.inl hub))
    have hvr:=hrP _ (.inr (.inl hvb))
    have hbu:u.blk≠b:=fun e0=>o2 (e0▸hub)
    have hbv:v.blk≠b:=fun e0=>o2 (e0▸hvb)
    have hlayc:∀c,c∈X∨c∈Y→c.2.LayV zl (fun j=>C1.look D (j:Nat)):=fun c hcm=>hside C1 hq1 c (P.out c hcm)
    have hpair:u.LayV zl (fun j=>C1.look D (j:Nat))∧v.LayV zl (fun j=>C1.look D (j:Nat))∧(u.blk∈pb∨v.blk∈pb)∧u.blk∈zA (A++(q,tc)::B)∧v.blk∈zA (A++(q,tc)::B):=by
     have hm1:=hmP u.blk (by rw [eP];simp [u.blk_mem])
     have hm2:=hmP v.blk (by rw [eP];simp [v.blk_mem])
     rcases P.two with⟨a1,a2⟩|⟨a1,a2⟩
     ·simp only [Prod.mk.injEq] at a2
      obtain⟨rfl,rfl⟩:=a2
      exact⟨hside C1 hq1 (p1,u) (.inl a1),lay,.inr (by rw [L.blk];exact hown),hm1,hm2⟩
     ·simp only [Prod.mk.injEq] at a2
      obtain⟨rfl,rfl⟩:=a2
      exact⟨lay,hside C1 hq1 (p2,v) (.inr a1),.inl (by rw [L.blk];exact hown),hm1,hm2⟩
    obtain⟨layu,layv,hupb,hmu,hmv⟩:=hpair
    have hfewR:=R.few
    have hr1:max A.length 1=X.length+1:=P.at_
    have hst:b≠2:=by omega
    obtain⟨hrl,e1,e2,e3,e4⟩:=KO (z:=⟨((u.items++v.items).getD ((u.items++v.items).length/2) vX).pl,false,0,v.blk⟩) (r:=X.length+1) (by simp) _ hit
    have e1':=e1 (by omega)
    have e2':=e2 hrl
    have hv1:1≤v.items.length:=by
     rcases P.two with⟨_,a2⟩|⟨a1,_⟩
     ·have h3c:=hfull (q,tc) hmem
      have hlo:=L.lo
      simp only [Prod.mk.injEq] at a2 h3c
      rw [a2.2];omega
     ·have:=hfull (p2,v) (by simp [a1]);simp only at this;omega
    have hvi:v.blk-21+21=v.blk:=by omega
    have huk:C1.look D u.blk=zl (za (zN h) u.items):=layu.node
    have hvk:C1.look D ((v.blk-21+21:Nat):Int)=zl (za (zN h) v.items):=by rw [hvi];exact layv.node
    have hjb:=Ka u v
    have hji:=yZ u v
    by_cases hsum:(u.items++v.items).length≤6
    ·have M:=ZN bc bd S D C1 m1 R.cln.map ((A++(q,tc)::B).map xN) (by omega) A.length (X.length+1) hr1 hrl u.blk (v.blk-21) (by rw [e1'];rfl) (by rw [e2',hvi];rfl) gu.1.blk (by omega) (by omega) (zN h) (bZ h) u.items v.items gu.1.items_ok gv.1.items_ok (fJ u) (fJ v) gu.2.1 gv.2.1 hv1 huk hvk (by omega) _ _ (.inl ⟨hsum,rfl,rfl⟩)
     have hsh:=((R.shr.trans (vS.put D C1 m1 u.blk (zl (za (zN h) (u.items++v.items))))).trans (vS.free (R.cln.put (i:=u.blk) (by omega) _) (i:=v.blk-21) (by omega))).trans (vS.put D _ _ b (zl (za 4 (((A++(q,tc)::B).map xN).eraseIdx (X.length+1)))))
     rw [show pb++[u.blk]++[]++[b]=pb++[u.blk,b] from by simp,show fb++[]++[v.blk-21+21]++[]=fb++[v.blk] from by simp;omega] at hsh
     have hcl3:=((R.cln.put (i:=u.blk) (by omega) (zl (za (zN h) (u.items++v.items)))).free (v.blk-21)).put hst (zl (za 4 (((A++(q,tc)::B).map xN).eraseIdx (X.length+1))))
     have l1:=qq C1 u.blk (zl (za (zN h) (u.items++v.items)))
     have l2:=fH (C1.put u.blk (zl (za (zN h) (u.items++v.items)))) m1 (v.blk-21)
     have l3:=qq ((C1.put u.blk (zl (za (zN h) (u.items++v.items)))).free m1 (v.blk-21)) b (zl (za 4 (((A++(q,tc)::B).map xN).eraseIdx (X.length+1))))
     have lk:∀j:Nat,j≠b→j≠2→j≠v.blk→(((C1.put u.blk (zl (za (zN h) (u.items++v.items)))).free m1 (v.blk-21)).put b (zl (za 4 (((A++(q,tc)::B).map xN).eraseIdx (X.length+1))))).look D (j:Nat)=(C1.put u.blk (zl (za (zN h) (u.items++v.items)))).look D (j:Nat):=fun j h1 h2 h3=>by
      rw [zW _ _ _ _ _ (by omega),uw _ _ _ _ _ h2 (by omega)]
     have lb:(((C1.put u.blk (zl (za (zN h) (u.items++v.items)))).free m1 (v.blk-21)).put b (zl (za 4 (((A++(q,tc)::B).map xN).eraseIdx (X.length+1))))).look D (b:Nat)=zl (za 4 (((A++(q,tc)::B).map xN).eraseIdx (X.length+1))):=qg _ _ _ _
     have lu:∀j:Nat,j≠u.blk→(C1.put u.blk (zl (za (zN h) (u.items++v.items)))).look D (j:Nat)=C1.look D (j:Nat):=fun j h1=>zW _ _ _ _ _ (by omega)
     have luu:(C1.put u.blk (zl (za (zN h) (u.items++v.items)))).look D (u.blk:Nat)=zl (za (zN h) (u.items++v.items)):=qg _ _ _ _
     have hel:(((A++(q,tc)::B).map xN).eraseIdx (X.length+1)).length=(X++(p1,u.join v)::Y).length:=by rw [e3];simp
     have he3:((A++(q,tc)::B).map xN).eraseIdx (X.length+1)=(X++(p1,u.join v)::Y).map xN:=by rw [e3];simp [xN,hjb]
     have hl6:(((A++(q,tc)::B).map xN).eraseIdx (X.length+1)).length≤6:=by rw [List.length_eraseIdx_of_lt hrl];omega
     have hok3:∀x∈((A++(q,tc)::B).map xN).eraseIdx (X.length+1),x.Ok:=fun x hx=>hes x (List.mem_of_mem_eraseIdx hx)
     generalize ((A++(q,tc)::B).map xN).eraseIdx (X.length+1)=es2 at*
     generalize hC2:(C1.put u.blk (zl (za (zN h) (u.items++v.items)))).free m1 (v.blk-21)=C2 at*
     generalize hC3:C2.put b (zl (za 4 es2))=C3 at*
     refine .inl ⟨e,C3,xH m1 (v.blk-21),decide (es2.length<3),pb++[u.blk,b],fb++[v.blk],⟨hcl3,hsh,fun j hj=>?_,fun _=>by simp [Tr.blk],by have:=R.pl;simp;omega,by omega,hme,R.at_,(b,X++(p1,u.join v)::Y),Ke g h6' hs0 hAq hB L P hsum,⟨?_,fun c hcm=>?_⟩,u9 perm P,fun hf=>.inr ?_⟩,⟨fun w r h0 h1 hcw=>?_⟩⟩
     ·show j∈b::zA (A++(q,tc)::B)
      rcases List.mem_append.1 hj with hj|hj
      ·exact List.mem_cons_of_mem _ (zU hmem (R.sub j hj))
      ·simp only [List.mem_cons,List.not_mem_nil,or_false] at hj
       rcases hj with rfl|rfl
       ·exact List.mem_cons_of_mem _ hmu
       ·exact List.mem_cons_self ..
     ·show C3.look D (b:Nat)=zl (za 4 ((X++(p1,u.join v)::Y).map xN))
      rw [lb,he3]
     ·have hcm:c∈X++(p1,u.join v)::Y:=hcm
      have hxy:∀c,c∈X∨c∈Y→c.2.LayV zl (fun j=>C3.look D (j:Nat)):=fun c hcm=>(hlayc c hcm).congr (fun j hj=>by
       have hjm:j∈zA X∨j∈zA Y:=hcm.imp (fun h=>zU h hj) (fun h=>zU h hj)
       have hjn:j∉u.blocks++v.blocks:=hjm.elim (o7 j) (o8 j)
       have hjr:=hrP j (hjm.imp id .inr)
       have hjb':j≠b:=fun e0=>hjm.elim (fun h=>o1 (e0▸h)) (fun h=>o3 (e0▸h))
       show C3.look D (j:Nat)=C1.look D (j:Nat)
       rw [lk j hjb' (by omega) (fun e0=>hjn (e0▸hvb)),lu j (fun e0=>hjn (e0▸hub))])
      rcases List.mem_append.1 hcm with hca|hcb
      ·exact hxy c (.inl hca)
      ·rcases List.mem_cons.1 hcb with rfl|hcb
       ·refine ZT layu layv o5 ?_ (fun j hj h1 h2=>?_)
        ·show C3.look D (u.blk:Nat)=_
         rw [lk u.blk hbu (by omega) huv,luu]
        ·have hjr:=hrP j (.inr (.inl hj))
         show C3.look D (j:Nat)=C1.look D (j:Nat)
         rw [lk j (fun e0=>o2 (e0▸hj)) (by omega) h2,lu j h1]
       ·exact hxy c (.inr hcb)
     ·rw [zs]
      have:¬es2.length<3:=by simpa using hf
      omega
     ·have hrec:=K.below r h0 (by omega)
      rw [←hat] at hrec
      refine(kw w bc bd S T {D with reads:=r} C hcw h0 (by show r≤_;omega) b g.1 _ hes hes4 (by omega) hsrt (by rw [zI];exact hl1) p (4*h+1) (by omega) _ ⟨_,_,_,_,_,rfl⟩ true true C1 A.length hA' hcl hrec (decide (es2.length<3)) true C3 (.inr ⟨rfl,rfl,es2,C2,M.reads r,hok3,hl6,by omega,decide_eq_decide.2 (by omega),hC3.symm⟩)).mono ?_
      rintro x w' ⟨k1,⟨n,T',k2,k3,k4,k5⟩,k6⟩
      exact⟨k1,⟨n,T',k2,by omega,k4,k5⟩,k6⟩
    ·have hj12:(u.items++v.items).length≤12:=by rw [List.length_append];have:=gu.2.1;have:=gv.2.1;simp only at *; omega
     have M:dO bc bd S D C1 ((A++(q,tc)::B).map xN) A.length (((A++(q,tc)::B).map xN).set (X.length+1) ⟨((u.items++v.items).getD ((u.items++v.items).length/2) vX).pl,false,0,v.blk⟩) ((C1.put u.blk (zl (za (zN h) ((u.items++v.items).take ((u.items++v.items).length/2))))).put v.blk (zl (za (zN h) ((u.items++v.items).drop ((u.items++v.items).length/2))))):=
      ZN bc bd S D C1 m1 R.cln.map ((A++(q,tc)::B).map xN) (by omega) A.length (X.length+1) hr1 hrl u.blk (v.blk-21) (by rw [e1'];rfl) (by rw [e2',hvi];rfl) gu.1.blk (by omega) (by omega) (zN h) (bZ h) u.items v.items gu.1.items_ok gv.1.items_ok (fJ u) (fJ v) gu.2.1 gv.2.1 hv1 huk hvk (by omega) _ _ (.inr ⟨by omega,by rw [e2'];rfl,by rw [hvi]⟩)
     rw [←hji] at M e4
     have hgp:=(Kd (m:=(u.join v).items.length/2) (b:=v.blk) vX (dQ gu.1 gv.1 (p:=p2) (by
      have k2:Kids ((X++[(p1,u)])++(p2,v)::Y):=by rw [List.append_assoc];exact kL
      exact k2.mid.2.2.2.2.1) (fun x hx=>by
      have k2:Kids ((X++[(p1,u)])++(p2,v)::Y):=by rw [List.append_assoc];exact kL
      exact k2.mid.2.2.1 x (by rw [zt,zo];simp [hx]))) (by
      have hs2:yg (zJ (A++(q,tc')::B)):=by rw [eL];exact hs0.del
      rw [P.eq] at hs2
      exact(kL.pair hs2).2.2.1) (by rw [hji];omega)).2.1
     obtain⟨o,ho,hou,hov⟩:∃o,(o=u.blk∨o=v.blk)∧(u.blk∈pb∨u.blk=o)∧(v.blk∈pb∨v.blk=o):=by
      rcases hupb with h|h
      ·exact⟨v.blk,.inr rfl,.inl h,.inr rfl⟩
      ·exact⟨u.blk,.inl rfl,.inr rfl,.inl h⟩
     have hsh:=((R.shr.trans (vS.put D C1 m1 u.blk (zl (za (zN h) ((u.join v).items.take ((u.join v).items.length/2)))))).trans (vS.put D _ m1 v.blk (zl (za (zN h) ((u.join v).items.drop ((u.join v).items.length/2)))))).trans (vS.put D _ _ b (zl (za 4 (((A++(q,tc)::B).map xN).set (X.length+1) ⟨((u.join v).items.getD ((u.join v).items.length/2) vX).pl,false,0,v.blk⟩))))
     rw [show fb++[]++[]++[]=fb from by simp] at hsh
     have hcl3:=((R.cln.put (i:=u.blk) (by omega) (zl (za (zN h) ((u.join v).items.take ((u.join v).items.length/2))))).put (i:=v.blk) (by omega) (zl (za (zN h) ((u.join v).items.drop ((u.join v).items.length/2))))).put hst (zl (za 4 (((A++(q,tc)::B).map xN).set (X.length+1) ⟨((u.join v).items.getD ((u.join v).items.length/2) vX).pl,false,0,v.blk⟩)))
     have hT:=Kf g h6' hs0 hAq hB L P (by omega) vX ((u.items++v.items).length/2) rfl
     rw [←hji] at hT hsum hj12
     have hok3:∀x∈((A++(q,tc)::B).map xN).set (X.length+1) ⟨((u.join v).items.getD ((u.join v).items.length/2) vX).pl,false,0,v.blk⟩,x.Ok:=fun x hx=>by
      rcases List.mem_or_eq_of_mem_set hx with hx|rfl
      ·exact hes x hx
      ·exact hgp.en gv.1.blk
     have hl6:(((A++(q,tc)::B).map xN).set (X.length+1) ⟨((u.join v).items.getD ((u.join v).items.length/2) vX).pl,false,0,v.blk⟩).length≤6:=by rw [List.length_set];omega
     have he4:((A++(q,tc)::B).map xN).set (X.length+1) ⟨((u.join v).items.getD ((u.join v).items.length/2) vX).pl,false,0,v.blk⟩=(X++(p1,(u.join v).cutL ((u.join v).items.length/2))::(((u.join v).items.getD ((u.join v).items.length/2) vX).pl,(u.join v).cutR ((u.join v).items.length/2) v.blk)::Y).map xN:=by
      rw [e4];simp [xN,(YP ((u.join v).items.length/2) v.blk (u.join v)).1,(YP ((u.join v).items.length/2) v.blk (u.join v)).2,hjb]
     have hpB2:=gc (b:=b) (q':=((u.join v).items.getD ((u.join v).items.length/2) vX).pl) ((u.join v).items.length/2) perm P
     have ll1:=qq C1 u.blk (zl (za (zN h) ((u.join v).items.take ((u.join v).items.length/2))))
     have ll2:=qq (C1.put u.blk (zl (za (zN h) ((u.join v).items.take ((u.join v).items.length/2))))) v.blk (zl (za (zN h) ((u.join v).items.drop ((u.join v).items.length/2))))
     have hcut:=fun (rd:Nat→List Value)=>KN (pg:=zl) (rd:=rd) ((u.join v).items.length/2) v.blk (u:=u.join v)
     generalize (u.join v).items.length/2=m0 at*
     generalize ((u.join v).items.getD m0 vX).pl=q' at*
     generalize ((A++(q,tc)::B).map xN).set (X.length+1) ⟨q',false,0,v.blk⟩=es2 at*
     have lb:(((C1.put u.blk (zl (za (zN h) ((u.join v).items.take m0)))).put v.blk (zl (za (zN h) ((u.join v).items.drop m0)))).put b (zl (za 4 es2))).look D (b:Nat)=zl (za 4 es2):=qg _ _ _ _
     have lv:(((C1.put u.blk (zl (za (zN h) ((u.join v).items.take m0)))).put v.blk (zl (za (zN h) ((u.join v).items.drop m0)))).put b (zl (za 4 es2))).look D (v.blk:Nat)=zl (za (zN h) ((u.join v).items.drop m0)):=by
      rw [zW _ _ _ _ _ (by omega)];exact qg _ _ _ _
     have lu:(((C1.put u.blk (zl (za (zN h) ((u.join v).items.take m0)))).put v.blk (zl (za (zN h) ((u.join v).items.drop m0)))).put b (zl (za 4 es2))).look D (u.blk:Nat)=zl (za (zN h) ((u.join v).items.take m0)):=by
      rw [zW _ _ _ _ _ (by omega),zW _ _ _ _ _ (by omega)];exact qg _ _ _ _
     have lk:∀j:Nat,j≠b→j≠u.blk→j≠v.blk→(((C1.put u.blk (zl (za (zN h) ((u.join v).items.take m0)))).put v.blk (zl (za (zN h) ((u.join v).items.drop m0)))).put b (zl (za 4 es2))).look D (j:Nat)=C1.look D (j:Nat):=fun j h1 h2 h3=>by
      rw [zW _ _ _ _ _ (by omega),zW _ _ _ _ _ (by omega),zW _ _ _ _ _ (by omega)]
     have ll3:=qq ((C1.put u.blk (zl (za (zN h) ((u.join v).items.take m0)))).put v.blk (zl (za (zN h) ((u.join v).items.drop m0)))) b (zl (za 4 es2))
     have hlen2:es2.length=(X++(p1,(u.join v).cutL m0)::(q',(u.join v).cutR m0 v.blk)::Y).length:=by rw [he4];simp
     generalize hC2:(C1.put u.blk (zl (za (zN h) ((u.join v).items.take m0)))).put v.blk (zl (za (zN h) ((u.join v).items.drop m0)))=C2 at*
     generalize hC3:C2.put b (zl (za 4 es2))=C3 at*
     have hsh':vS D C C3 m m1 (pb++[o,b]) fb:=hsh.sub (fun j hj=>.inl (by
      simp only [List.mem_append,List.mem_cons,List.not_mem_nil,or_false] at hj ⊢
      rcases hj with((hj|hj)|hj)|hj
      ·exact .inl hj
      ·rw [hj];exact hou.imp id .inl
      ·rw [hj];exact hov.imp id .inl
      ·exact .inr (.inr hj))) (fun j _ hj=>by
      simp only [List.mem_append,List.mem_cons,List.not_mem_nil,or_false] at hj ⊢
      rcases hj with((hj|hj)|hj)|hj
      ·exact .inl hj
      ·rw [hj];exact hou.imp id .inl
      ·rw [hj];exact hov.imp id .inl
      ·exact .inr (.inr hj))
     refine .inl ⟨e,C3,m1,decide (es2.length<3),pb++[o,b],fb,⟨hcl3,hsh',fun j hj=>?_,fun _=>by simp [Tr.blk],by have:=R.pl;simp;omega,by omega,hme,R.at_,_,hT,⟨?_,fun c hcm=>?_⟩,hpB2,fun hf=>.inr ?_⟩,⟨fun w r h0 h1 hcw=>?_⟩⟩
     ·show j∈b::zA (A++(q,tc)::B)
      rcases List.mem_append.1 hj with hj|hj
      ·exact List.mem_cons_of_mem _ (zU hmem (R.sub j hj))
      ·simp only [List.mem_cons,List.not_mem_nil,or_false] at hj
       rcases hj with rfl|rfl
       ·rcases ho with rfl|rfl
        ·exact List.mem_cons_of_mem _ hmu
        ·exact List.mem_cons_of_mem _ hmv
       ·exact List.mem_cons_self ..
     ·show C3.look D (b:Nat)=zl (za 4 (List.map xN _))
      rw [lb,he4]
     ·have hxy:∀c,c∈X∨c∈Y→c.2.LayV zl (fun j=>C3.look D (j:Nat)):=fun c hcm=>(hlayc c hcm).congr (fun j hj=>by
       have hjm:j∈zA X∨j∈zA Y:=hcm.imp (fun h=>zU h hj) (fun h=>zU h hj)
       have hjn:j∉u.blocks++v.blocks:=hjm.elim (o7 j) (o8 j)
       have hjb':j≠b:=fun e0=>hjm.elim (fun h=>o1 (e0▸h)) (fun h=>o3 (e0▸h))
       show C3.look D (j:Nat)=C1.look D (j:Nat)
       exact lk j hjb' (fun e0=>hjn (e0▸hub)) (fun e0=>hjn (e0▸hvb)))
      obtain⟨cl,cr⟩:=hcut (fun j=>C3.look D (j:Nat)) (fun rd' hb' he'=>ZT layu layv o5 (by rw [hjb,hji] at hb';exact hb') (fun j hj h1 h2=>by
       rw [he' j (by rw [hjb];exact h1)]
       exact lk j (fun e0=>o2 (e0▸hj)) h1 h2)) (XI o5) (by rw [hjb];exact lu) lv
      have hcm':c∈X++(p1,(u.join v).cutL m0)::(q',(u.join v).cutR m0 v.blk)::Y:=hcm
      rcases List.mem_append.1 hcm' with hca|hcb
      ·exact hxy c (.inl hca)
      ·rcases List.mem_cons.1 hcb with rfl|hcb
       ·exact cl
       ·rcases List.mem_cons.1 hcb with rfl|hcb
        ·exact cr
        ·exact hxy c (.inr hcb)
     ·rw [zs]
      have:¬es2.length<3:=by simpa using hf
      omega
     ·have hrec:=K.below r h0 (by omega)
      rw [←hat] at hrec
      refine(kw w bc bd S T {D with reads:=r} C hcw h0 (by show r≤_;omega) b g.1 _ hes hes4 (by omega) hsrt (by rw [zI];exact hl1) p (4*h+1) (by omega) _ ⟨_,_,_,_,_,rfl⟩ true true C1 A.length hA' hcl hrec (decide (es2.length<3)) true C3 (.inr ⟨rfl,rfl,es2,C2,M.reads r,hok3,hl6,by omega,decide_eq_decide.2 (by omega),hC3.symm⟩)).mono ?_
      rintro x w' ⟨k1,⟨n,T',k2,k3,k4,k5⟩,k6⟩
      exact⟨k1,⟨n,T',k2,by omega,k4,k5⟩,k6⟩
  ·refine .inr ⟨fun x hx e0=>?_,⟨fun w r h0 h1 hcw=>?_⟩⟩
   ·have hx:x∈zJ (A++(q,tc)::B):=hx
    obtain⟨u1,u2⟩:=kk.unroute hAq hB
    rw [zt,zo] at hx
    rcases List.mem_append.1 hx with hx|hx
    ·exact u1 x hx e0
    ·rcases List.mem_append.1 hx with hx|hx
     ·exact hno x hx e0
     ·exact u2 x hx e0
   ·have hrec:=K.below r h0 (by omega)
    rw [←hat] at hrec
    refine(kw w bc bd S T {D with reads:=r} C hcw h0 (by show r≤_;omega) b g.1 _ hes hes4 (by omega) hsrt (by rw [zI];exact hl1) p (4*h+1) (by omega) _ ⟨_,_,_,_,_,rfl⟩ false false C A.length hA' hcl hrec false false C (.inl ⟨rfl,rfl,rfl,rfl⟩)).mono ?_
    rintro x w' ⟨k1,⟨n,T',k2,k3,k4,k5⟩,k6⟩
    exact⟨k1,⟨n,T',k2,by omega,k4,k5⟩,k6⟩
end prog
namespace prog
open Go.ChangeShapes Go.WideShapes Go.ChangeAt Go.RowKit disk ref
open keys (ze zd zr zn)
theorem uy{ops:Array Oper}{rest:List Oper}{o:Oper}{a:Act}{w:World}{Q:Exit→Act→World→Prop}(hgd:o.guard=none)(s x:Operand)(ho:o.op=.call {callee:=.builtin .append,args:=#[s,x],argTypes:=#[156, 156] })
 (a':Option Addr) (n c':Nat) (xs:List Value) (hs:a.eval s=.slice a' n c') (hown:w.ownsRow 0 160 129 (.slice a' n c') n xs) (b:Nat) (cs:List Value) (hx:a.eval x=.slice (some ⟨b,0,none⟩) 1 1) (hb:w.heap[b]? =some (.cells cs.toArray 160 (0,0))) (hl:cs.length=129) (h1:∀u∈cs,u.oneCell'=true) (hn:n≤1000)
 (h:∀g c w',w'.ownsRow 0 160 129 (.slice (some ⟨g,0,none⟩) (n+1) c) (n+1) (xs++cs)→w.grownBy w' (Value.slice a' n c').ownBlock→((Value.slice a' n c').ownBlock=some g∨g=w.heap.size)→wpList Tryz.prog ops Q rest (a.put o.dst (.slice (some ⟨g,0,none⟩) (n+1) c)) w'):wpList Tryz.prog ops Q (o::rest) a w:=by
 refine wpList_plain hgd fun K hK=>?_
 obtain⟨i0,hi0,hz0,hz1,hz2⟩:=info_parts Tryz.infoCw
 obtain⟨g,c,w',hr,h2,h3,h4,_⟩:=run_append_lies (P:=Tryz.prog) (w:=w) 156 o.type 0 160 i0 _ 129 136 Tryz.underlying156 hi0 hz0 hz1 hz2 (congrArg (· +1) zF.1) (by omega) (.slice a' n c') n xs hown ⟨b,0,none⟩ 1 1 cs (by rw [hl]) (World.news_of_block hb) h1 (by omega) (by unfold maxLen;omega) (by omega) (Nat.zero_le _) _ rfl
 unfold Oper.wp execOp
 simp only [ho,resolve,invoke,builtin,Sem.run_bind,Sem.run_pure,Result.andThen_ok,List.map_toArray,List.map_cons,List.map_nil,hs,hx,hr]
 exact hK _ _ (h g c w' h2 h3 h4)
structure ZX (W wr:World) (bd:Nat) (S:Nat→Prop) (D:Dk) (ws:List (Nat×List Value)) (k:Nat) (a:Option Addr) (c:Nat):Prop where
 disk:zh wr bd S {D with reads:=D.reads+k}
 row:wr.ownsRow 0 160 129 (.slice a k c) k ((ws.take k).map zM).flatten
 fresh:∀j,(Value.slice a k c).ownBlock=some j→W.heap.size≤j
 kept:Kept (fun j=>j=bd) W wr
theorem ZX.next{W wr w3 w4:World}{bd:Nat}{S:Nat→Prop}{D:Dk}{ws:List (Nat×List Value)}{k:Nat}{a:Option Addr}{c:Nat}(h:ZX W wr bd S D ws k a c)(hk:k<ws.length)(hS:∀j,S j→j<W.heap.size)(hd:zh w3 bd S {D with reads:=D.reads+k+1 })(k3:Kept (fun j=>j=bd) wr w3)(o:Obj){g c2:Nat}
 (hown:w4.ownsRow 0 160 129 (.slice (some ⟨g,0,none⟩) (k+1) c2) (k+1) (((ws.take k).map zM).flatten++zM ws[k])) (hgrow:(w3.alloc o).grownBy w4 (Value.slice a k c).ownBlock) (hat:(Value.slice a k c).ownBlock=some g∨g=(w3.alloc o).heap.size):ZX W w4 bd S D ws (k+1) (some ⟨g,0,none⟩) c2:=by
 have kA:Kept (fun _=>False) w3 (w3.alloc o):=Kept.alloc _ _ _
 have kG:Kept (fun j=>W.heap.size≤j) (w3.alloc o) w4:=Kept.grown hgrow h.fresh
 have k34:Kept (fun j=>W.heap.size≤j) w3 w4:=(kA.mono fE).trans kG iL
 refine⟨?_,?_,fun j hj=>?_,(h.kept.trans k3 iL).trans k34 (fun j hj=>.inr hj)⟩
 ·have:=hd.kept k34 (fun j hj hc=>by have:=hS j hj;omega)
  rw [show D.reads+((k+1:Nat):Int)=D.reads+k+1 from by omega]
  exact this
 ·rw [List.take_succ_eq_append_getElem hk,List.map_append,List.flatten_append]
  simpa using hown
 ·have e:g=j:=by simpa [Value.ownBlock] using hj
  subst e
  rcases hat with h1|h1
  ·exact h.fresh g h1
  ·have h2:=h.kept.size
   have h3:=k3.size
   simp at h1
   omega
theorem ZX.rows{W wr:World}{bd:Nat}{S:Nat→Prop}{D:Dk}{ws:List (Nat×List Value)}{a:Option Addr}{c:Nat}(h:ZX W wr bd S D ws ws.length a c)(hok:∀p∈ws,zy p.2∧p.1<65536)(hf:ws.length≤18):jU wr (fun j=>W.heap.size≤j∧j<wr.heap.size) a ws:=by
 refine⟨hok,?_,by omega⟩
 rcases Nat.eq_zero_or_pos ws.length with h0|h0
 ·exact .inl (List.eq_nil_of_length_eq_zero h0)
 ·have hr:=h.row
  rw [List.take_length] at hr
  rcases hr.2 with⟨_,h1⟩|⟨g,cap',cur,hv,_,hg,_⟩
  ·omega
  ·cases hv
   have hlt:=(lT hg)
   refine .inr ⟨g,rfl,⟨h.fresh g rfl,hlt⟩,hlt,fun k hk=>?_⟩
   rw [show ws.length=(ws.map zM).length from by simp] at hr
   have:=qI hr (fun b hb=>by obtain⟨p,hp,rfl⟩:=List.mem_map.1 hb;simp [zM,(hok p hp).1.1]) k (by simpa using hk)
   simpa [zM] using this
section
attribute [local go_sem ↓] dz dA
attribute [local go_sem] g4 g5
theorem Yi(w:World)(bd:Nat)(S:Nat→Prop)(D:Dk)(h:zh w bd S D)(hfu:zD D.fuse)(hz:(D.fuse==0)=false)(hr0:0≤D.reads)(hr1:D.reads≤4611686018427380000)(ws:List (Nat×List Value))(h0:0<ws.length)(hlen:ws.length≤18)(hok:∀p∈ws,zy p.2∧p.1<65536)(hl:D.flush.look 0=zl (zE ws))(hlog:∀i (hi:i<ws.length),D.flush.look (3+(i:Int))=ws[i].2):
 Calls Tryz.prog 55 #[.pointer (some ⟨bd,0,none⟩)] w fun e w'=>e=.returned (.bool (qC {D.flush with reads:=D.reads+1+(ws.length:Int)} ws).1)∧qK w w' bd S (qC {D.flush with reads:=D.reads+1+(ws.length:Int)} ws).2:=by
 obtain⟨Zb,hZb,hzz⟩:∃Zb:List Value,Zb=zT∧∀w,(zeroValue 154).run Tryz.prog w=.ok (.agg Zb.toArray) w:=⟨zT,rfl,zV Tryz.infoPage⟩
 have HZb:Hid (zy Zb):=by rw [hZb];exact zF
 clear hZb
 have HIp:Hid ((Tryz.prog.info? 154).map (·.size)=some 128):=zS Tryz.infoPage
 have hpo:(zE ws).Ok:=ut (by omega)
 have hcnt:(zE ws).items.length=ws.length:=by simp [zE]
 have HCN:Hid _:=hcnt
 have HH:Hid (zh w bd S D):=h
 have HZ:Hid _:=hz
 have HL:Hid _:=hl
 have HLOG:Hid _:=hlog
 have HOK:Hid _:=hok
 have HPO:Hid (zy (zl (zE ws))):=qP hpo
 have hfr:D.flush.reads=D.reads:=by unfold Dk.flush;split<;>rfl
 have hfp:D.flush.ps=[]:=by unfold Dk.flush;rw [if_neg (by simpa using hz)]
 have HFR:Hid _:=hfr
 have HFP:Hid _:=hfp
 have HP:Hid (zE ws).Ok:=hpo
 have hne:¬((ws.length:Int)=0):=by omega
 clear h hz hl hlog hok hpo hfr hfp hcnt
 go_enter Tryz.func55,Tryz.ntmps55
 go_wp2_with (first
  |(go_at_call 40;refine(yc _ bd S D HH.out hfu).mono ?_;rintro e w2 ⟨rfl,⟨S2,hd2,hS2⟩,hk2⟩;rw [HZ.out];have HD2:Hid (zh w2 bd S2 D.flush):=hd2;have HS2:Hid _:=hS2;have HK2:Hid _:=hk2;clear hd2 hS2 hk2)
  |(go_at_call 81;refine(xy _ bd S2 D.flush HD2.out 0 (by constructor<;>omega) (by rw [HFR.out];exact hr0) (by rw [HFR.out];omega)).mono ?_;rintro e w3 ⟨rfl,hd3,hk3⟩;rw [HL.out];have HD3:Hid (zh w3 bd S2 {D.flush with reads:=D.flush.reads+1 }):=hd3;have HK3:Hid _:=hk3;clear hd3 hk3)
  |(show wpList _ _ _ ({dst:=none,op:=.store _ (.tmp 3) (.tmp 10),type:=_,pos:=_,after:=_,guard:=_}::_) _ _;refine zg rfl 154 (.tmp 3) (.tmp 10) rfl _ _ (zl (zE ws)) (by simp) rfl rfl (by rw [HPO.out.1];exact HIp.out) (by rw [List.size_toArray,HZb.out.1,HPO.out.1]) HPO.out.2 ?_;have HPA:Hid (qu (w3.alloc (.cells (zl (zE ws)).toArray 154)) w3.heap.size (zE ws)):=⟨⟨heap_alloc_new w3 _⟩,HP.out⟩)
  |(go_at_call 82;refine(j7 _ _ _ HPA.out).mono ?_;rintro e w4 ⟨rfl,hw4⟩;rw [hw4,HCN.out];clear hw4 w4))
 have HD0:Hid (zh (w3.alloc (.cells (zl (zE ws)).toArray 154)) bd S2 {D.flush with reads:=D.flush.reads+1 }):=HD3.out.kept (Kept.alloc (fun _=>False) w3 _) nF
 have HK0:Hid (Kept S w (w3.alloc (.cells (zl (zE ws)).toArray 154))):=(HK2.out.trans HK3.out (fun k hk=>.inl (HS2.out k (by rw [hk];exact HD2.out.bdS)))).trans (Kept.alloc _ _ _) iL
 have HSL:Hid (∀j,S2 j→j<w3.heap.size):=HD3.out.lt
 have hbd3:bd<w3.heap.size:=HD3.out.lt bd HD3.out.bdS
 have hsz:(w3.alloc (.cells (zl (zE ws)).toArray 154)).heap.size=w3.heap.size+1:=by simp
 have hs3:=HK3.out.size
 generalize (w3.alloc (.cells (zl (zE ws)).toArray 154))=W at*
 generalize w3.heap.size=b3 at*
 go_loopw [4,14] (fun x t wr=>∃(k:Nat) (a:Option Addr) (c:Nat),k≤ws.length∧t=.int .i64 k∧x=.slice a k c∧ZX W wr bd S2 {D.flush with reads:=D.flush.reads+1} ws k a c) (fun _ t _=>ws.length-(intOf t).toNat)
 case atStart=>
  refine⟨0,none,0,Nat.zero_le _,rfl,rfl,?_,World.ownsRow_nil _ 0 160 129,fun j hj=>(by cases hj),Kept.refl _ _⟩
  have:=HD0.out
  simpa using this
 case round=>
  obtain⟨k,a,c,hk,rfl,rfl,hfin⟩:=hrel
  have HF:Hid _:=hfin
  clear hfin
  by_cases hlt:k<ws.length
  ·have HPR:Hid (qu wr b3 (zE ws)):=HPA.out.kept HF.out.kept (fun hc=>by have e:b3=bd:=hc;omega)
   have HIT:Hid (cQ b3 (zE ws).kind k=.slice (some ⟨b3,4+k*2,none⟩) 2 (124-k*2)):=rfl
   have HNU:Hid (numOf (((zE ws).bytes.drop (4+k*2)).take 2)=ws[k].1):=by
    have h1:=HP.out.item k (by rw [HCN.out];exact hlt)
    have h2:(zE ws).items[k]'(by rw [HCN.out];exact hlt)=bytesOf 2 ws[k].1:=by simp [zE]
    rw [h2] at h1
    have h3:numOf (((zE ws).bytes.drop (4+k*2)).take 2)=numOf (bytesOf 2 ws[k].1):=congrArg numOf h1
    show _=_
    rw [h3]
    exact q9 2 _ (by have:=(HOK.out _ (List.getElem_mem hlt)).2;omega)
   have HLK:Hid (Dk.look {D.flush with reads:=D.flush.reads+1+(k:Int)} (3+(k:Int))=ws[k].2):=HLOG.out k hlt
   have hbl:ws[k].2.length=128:=(HOK.out _ (List.getElem_mem hlt)).1.1
   have HBO:Hid (zy ws[k].2):=(HOK.out _ (List.getElem_mem hlt)).1
   have hnl:ws[k].1<65536:=(HOK.out _ (List.getElem_mem hlt)).2
   have HNX:Hid (∀(w3 w4:World) (o:Obj) (g c2:Nat),zh w3 bd S2 {D.flush with reads:=D.flush.reads+1+(k:Int)+1}→Kept (fun j=>j=bd) wr w3→w4.ownsRow 0 160 129 (.slice (some ⟨g,0,none⟩) (k+1) c2) (k+1) (((ws.take k).map zM).flatten++.int .i64 (ws[k].1:Int)::ws[k].2)→(w3.alloc o).grownBy w4 (Value.slice a k c).ownBlock→((Value.slice a k c).ownBlock=some g∨g=(w3.alloc o).heap.size)→ZX W w4 bd S2 {D.flush with reads:=D.flush.reads+1} ws (k+1) (some ⟨g,0,none⟩) c2):=fun w3 w4 o g c2 h1 h2 h3 h4 h5=>HF.out.next hlt (fun j hj=>by have:=HSL.out j hj;omega) h1 h2 o h3 h4 h5
   generalize hq:ws[k]=q at*
   obtain⟨qi,qb⟩:=q
   clear hq
   simp only at hbl hnl
   go_wp2_with (first
    |(go_at_call 84;refine(cU _ b3 (zE ws) HPR.out k (by rw [HCN.out];exact hlt) (by show 1≤zk 1;decide)).mono ?_;rintro e w5 ⟨rfl,hw5⟩;rw [hw5,HIT.out];clear hw5 w5)
    |(go_at_call 83;refine(ye _ b3 _ _ HPR.out.bs (4+k*2) 2 (124-k*2) qi (by rw [HP.out.len];omega) (by omega) HNU.out (by omega)).mono ?_;rintro e w5 ⟨rfl,hw5⟩;rw [hw5];clear hw5 w5)
    |(go_at_call 81;refine(xy _ bd S2 _ HF.out.disk (3+(k:Int)) (by constructor<;>omega) (by show 0≤D.flush.reads+1+(k:Int);rw [HFR.out];omega) (by show D.flush.reads+1+(k:Int)≤_;rw [HFR.out];omega)).mono ?_;rintro e w5 ⟨rfl,hd5,hk5⟩;rw [HLK.out];have HD5:Hid (zh w5 bd S2 {D.flush with reads:=D.flush.reads+1+(k:Int)+1 }):=hd5;have HK5:Hid (Kept (fun j=>j=bd) wr w5):=hk5;clear hd5 hk5)
    |(refine uy rfl (.tmp 17) (.tmp 26) rfl a k c ((ws.take k).map zM).flatten (by rfl) (by exact(HK5.out.trans (Kept.alloc (fun _=>False) w5 _) fE).owns HF.out.row (fun j hj hc=>by have h1:=HF.out.fresh j hj;have h2:j=bd:=hc;omega)) w5.heap.size (.int .i64 (qi:Int)::qb) (by rfl) (heap_alloc_new w5 _) (by simp [hbl]) (List.forall_mem_cons.2 ⟨rfl,HBO.out.2⟩) (by omega) ?_;intro g c2 w6 hown hgrow hat;have HN:Hid (ZX W w6 bd S2 {D.flush with reads:=D.flush.reads+1} ws (k+1) (some ⟨g,0,none⟩) c2):=HNX.out _ _ _ _ _ HD5.out HK5.out hown hgrow hat;clear hown hgrow hat))
   go_roundw
   case rel=>exact⟨k+1,some ⟨g,0,none⟩,c2,by omega,by go_num,rfl,HN.out⟩
   case measure=>simp [intOf];omega
  ·have hke:k=ws.length:=by omega
   subst hke
   have HFW:Hid _:=HF.out.rows HOK.out hlen
   go_wp2_with (go_at_call 85;refine(fx wr bd S2 _ _ HF.out.disk a c ws HFW.out (fun j hj hc=>by have h1:=HSL.out j hj;have h2:=hc.1;omega) (fun j hj=>hj.2) (xJ hfu) (by show D.flush.ps.length≤_;rw [HFP.out];simp)).mono ?_;rintro e w5 ⟨rfl,ho5⟩;have HO5:Hid _:=ho5;clear ho5)
   go_ret
   have hkW:Kept S w wr:=HK0.out.trans HF.out.kept (fun j hj=>.inl (HS2.out j (by rw [show j=bd from hj];exact HD2.out.bdS)))
   have ho:=qK.trans (D1:=D) (fun j hj=>.inl (HS2.out j hj)) hkW HO5.out
   simp only [HFR.out] at ho ⊢
   exact⟨rfl,ho⟩
end
end prog
end Go.Proofs.YtcoengihaobddaaGreatDoor
