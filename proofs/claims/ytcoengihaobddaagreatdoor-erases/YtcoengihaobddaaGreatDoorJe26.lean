/- Part 26 of 28 of a proof: Rem9 -/
import Derived.Test.YtcoengihaobddaaGreatDoorJe25
import Derived.Test.YtcoengihaobddaaGreatDoorJe17
namespace Go.Proofs.YtcoengihaobddaaGreatDoor.prog
open Go.RowKit disk ref
set_option linter.unusedVariables false
set_option maxRecDepth 8000
structure RemR {h:Nat} (D:Dk) (t:Tr h) (p:Pl) (C C':Ck) (m m':List UInt8) (e:En) (s:Bool) (pb fb:List Nat):Prop where
 cln:Cln D C' m'
 shr:Shr D C C' m m' pb fb
 sub:∀j∈pb,j∈t.blocks
 own:s=true→t.blk∈pb
 pl:pb.length≤2*h+1
 few:C'.ws.length≤C.ws.length+4*(h+1)
 mem:e∈t.ents
 at_:e.pl=p
 tree:∃t',Lost t p t'∧t'.LayV pgV (fun j=>C'.look D (j:Nat))∧(t'.blocks++fb).Perm t.blocks∧(s=false→t'.items.length=t.items.length∨3≤t'.items.length)
theorem items4:∀{h:Nat} (t:Tr h),kindOf h=4→∀e∈t.items,e.mark=false∧e.size=0
 |0,_,hk,_,_=>by simp [kindOf] at hk
 |_+1,t,_,e,he=>by
  obtain ⟨c,_,rfl⟩:=List.mem_map.1 he
  exact ⟨rfl,rfl⟩
theorem kind_is:∀h:Nat,kindOf h=4∨kindOf h=5
 |0=>.inr rfl
 |_+1=>.inl rfl
theorem RemCall.below {bc bd:Nat} {S T:Nat→Prop} {D:Dk} {C:Ck} {h at_:Nat} {p:Pl} {v:List Value} {s ok:Bool} {C':Ck} (k:RemCall bc bd S T D C h at_ p v s ok C') (r:Int) (h0:0≤r) (h1:r+(4*(h+1):Nat)≤4611686018427370000):
 Under bc bd S T {D with reads:=r} C at_ p (4*h+1) v s ok C':=
 ⟨fun w0 n0 a b hc=>k.go w0 (r+n0) (by omega) (by omega) hc⟩
theorem blocks_cons:∀{h:Nat} (t:Tr h),t.blocks=t.blk::t.blocks.tail
 |0,_=>rfl
 |_+1,_=>rfl
theorem join_tail {h:Nat} {u v:Tr h} (hn:(u.blocks++v.blocks).Nodup):(u.join v).blk∉(u.join v).blocks.tail:=by
 have h1:=(List.nodup_append.1 ((join_blocks u v).nodup_iff.2 hn)).1
 rw [blocks_cons,List.nodup_cons] at h1
 exact h1.1
theorem rem_tree (bc bd:Nat) (S T:Nat→Prop) (D:Dk) (p:Pl):∀(h:Nat) (t:Tr h) (C:Ck) (m:List UInt8),h≤100→t.Good→(0<h→2≤t.items.length)→t.items.length≤6→Srt t.ents→t.blocks.Nodup→
 (∀j∈t.blocks,21≤j∧j<1000)→t.LayV pgV (fun j=>C.look D (j:Nat))→Cln D C m→C.ws.length+4*(h+1)<700→
 (∃e C' m' s pb fb,RemR D t p C C' m m' e s pb fb∧RemCall bc bd S T D C h t.blk p (enV e) s true C')∨((∀x∈t.ents,x.pl≠p)∧RemCall bc bd S T D C h t.blk p zeroE false false C)
 |0,(b,es),C,m,_,g,_,h6,hs,hnd,hrg,hl,hc,hfew=>by
  have h6':es.length≤6:=h6
  have hs':Srt es:=hs
  have hl':C.look D b=pgV (nodePg 5 es):=hl
  by_cases hx:∃hi:fromI es p<es.length,es[fromI es p].pl=p
  ·obtain ⟨hi,he⟩:=hx
   have hb:=hrg b (List.mem_singleton.2 rfl)
   have hdl:=hs'.erase p hi he
   have hlen:(delE p es).length=es.length-1:=by rw [←hdl,List.length_eraseIdx_of_lt hi]
   refine .inl ⟨es[fromI es p],C.put b (pgV (nodePg 5 (delE p es))),m,decide ((delE p es).length<3),[b],[],⟨hc.put (by omega) _,Shr.put D C m b _,fun j hj=>hj,fun _=>List.mem_singleton.2 rfl,by simp,by have:=ck_put_len C b (pgV (nodePg 5 (delE p es)));omega,List.getElem_mem hi,he,(b,delE p es),leaf_lost g hs' h6' hi he,look_put_eq _ _ _ _,by rw [List.append_nil];exact List.Perm.refl _,fun h=>.inr (by show 3≤(delE p es).length;simpa using h)⟩,⟨fun w r h0 h1 hcw=>?_⟩⟩
   refine (remove_leaf w bc bd S T {D with reads:=r} C hcw h0 (by show r≤_;omega) b g.1 es g.2 h6' hs' (by rw [look_reads];exact hl') p (fromI es p) rfl hi he (by omega) (delE p es) hdl (decide ((delE p es).length<3)) (decide_eq_decide.2 (by omega))).mono ?_
   rintro x w' ⟨h1,⟨n,T',h2,h3,h4,h5⟩,h6⟩
   exact ⟨h1,⟨n,T',h2,by simpa using h3,h4,h5⟩,h6⟩
  ·refine .inr ⟨(hs'.find p).2 (fun hi he=>hx ⟨hi,he⟩),⟨fun w r h0 h1 hcw=>?_⟩⟩
   refine (remove_none w bc bd S T {D with reads:=r} C hcw h0 (by show r≤_;omega) b g.1 es g.2 h6' hs' (by rw [look_reads];exact hl') p (fun hi he=>hx ⟨hi,he⟩)).mono ?_
   rintro x w' ⟨h1,⟨n,h2,h3,h4⟩,h6⟩
   exact ⟨h1,⟨n,T,h2,by simpa using h3,h4,fun _ h=>.inl h⟩,h6.mono (fun _ h=>.inl h)⟩
 |h+1,(b,cs),C,m,hh,g,h2,h6,hs,hnd,hrg,hl,hc,hfew=>by
  have h2':2≤cs.length:=Nat.le_trans (h2 (by omega)) (Nat.le_of_eq (items_pair b cs))
  have h6':cs.length≤6:=Nat.le_trans (Nat.le_of_eq (items_pair b cs).symm) h6
  have kk:Kids cs:=g.kids
  obtain ⟨A,q,tc,B,rfl,hA,hAq,hB⟩:=kk.child (fun e0=>by rw [e0] at h2';simp at h2') p
  have hmem:(q,tc)∈A++(q,tc)::B:=by simp
  have hgc:=kk.good (q,tc) hmem
  have hfull:=g.full
  have hnd':(b::(flatB A++(tc.blocks++flatB B))).Nodup:=by
   have:(b::flatB (A++(q,tc)::B)).Nodup:=hnd
   rw [flatB_append,flatB_cons] at this;exact this
  obtain ⟨n1,n2,n3,n4,n5,n6,n7,n8⟩:=nodup_mid hnd'
  have hrg':∀j,j=b∨j∈flatB (A++(q,tc)::B)→21≤j∧j<1000:=fun j hj=>hrg j (by
   show j∈b::flatB (A++(q,tc)::B)
   exact List.mem_cons.2 hj)
  have hs0:Srt (flatE (A++(q,tc)::B)):=hs
  have hs':Srt (flatE A++(tc.ents++flatE B)):=by rw [flatE_append,flatE_cons] at hs0;exact hs0
  have hsc:Srt tc.ents:=(List.pairwise_append.1 (List.pairwise_append.1 hs').2.1).1
  have hl1:C.look D b=pgV (nodePg 4 ((A++(q,tc)::B).map itm)):=hl.1
  have hl2:∀c∈A++(q,tc)::B,c.2.LayV pgV (fun j=>C.look D (j:Nat)):=hl.2
  have hb:=hrg' b (.inl rfl)
  have hsrt:Srt ((A++(q,tc)::B).map itm):=kk.items_srt
  have hes:∀x∈(A++(q,tc)::B).map itm,x.Ok:=g.items_ok
  have hes4:∀x∈(A++(q,tc)::B).map itm,x.mark=false∧x.size=0:=fun x hx=>by
   obtain ⟨c,_,rfl⟩:=List.mem_map.1 hx;exact ⟨rfl,rfl⟩
  have hlen:((A++(q,tc)::B).map itm).length=(A++(q,tc)::B).length:=by simp
  have hcl:A.length<((A++(q,tc)::B).map itm).length:=by rw [hlen];simp
  have hat:((A++(q,tc)::B).map itm)[A.length].at_=tc.blk:=by simp [itm]
  have hA':childI ((A++(q,tc)::B).map itm) p=A.length:=hA.symm
  have hside:∀(C2:Ck),(∀j:Nat,j∉tc.blocks→j≠b→j≠2→C2.look D j=C.look D j)→∀c,c∈A∨c∈B→c.2.LayV pgV (fun j=>C2.look D (j:Nat)):=fun C2 hq c hcm=>by
   have hcm':c∈A++(q,tc)::B:=by rcases hcm with h|h<;>simp [h]
   refine (hl2 c hcm').congr (fun j hj=>?_)
   have hjb:=hrg' j (.inr (flatB_mem hcm' hj))
   rcases hcm with hca|hcb
   ·exact hq j (n7 j (flatB_mem hca hj)) (fun e0=>n1 (e0▸flatB_mem hca hj)) (by omega)
   ·exact hq j (n8 j (flatB_mem hcb hj)) (fun e0=>n3 (e0▸flatB_mem hcb hj)) (by omega)
  rcases rem_tree bc bd S T D p h tc C m (by omega) hgc.1 (fun _=>by have:=hfull (q,tc) hmem;simp only at this;omega) hgc.2.1 hsc n5 (fun j hj=>hrg' j (.inr (flatB_mem hmem hj))) (hl2 (q,tc) hmem) hc (by omega) with ⟨e,C1,m1,s,pb,fb,R,K⟩|⟨hno,K⟩
  ·obtain ⟨tc',L,lay,perm,hkeep⟩:=R.tree
   have hfb:∀j∈fb,j∈tc.blocks:=fun j hj=>perm.mem_iff.1 (List.mem_append_right _ hj)
   have htb:∀j∈tc'.blocks,j∈tc.blocks:=fun j hj=>perm.mem_iff.1 (List.mem_append_left _ hj)
   have hme:e∈flatE (A++(q,tc)::B):=flatE_mem hmem R.mem
   have hb1:C1.look D b=C.look D b:=R.shr.look b (fun hj=>n2 (R.sub b hj)) (fun hj=>n2 (hfb b hj)) (by omega)
   have hq1:∀j:Nat,j∉tc.blocks→j≠b→j≠2→C1.look D j=C.look D j:=fun j h1 h2 h3=>R.shr.look j (fun hj=>h1 (R.sub j hj)) (fun hj=>h1 (hfb j hj)) h3
   cases hs1:s with
   |false=>
    rw [hs1] at K R
    have h3c:=hfull (q,tc) hmem
    simp only at h3c
    have h3:3≤tc'.items.length:=by rcases hkeep hs1 with h|h<;>omega
    refine .inl ⟨e,C1,m1,false,pb,fb,⟨R.cln,R.shr,fun j hj=>List.mem_cons_of_mem _ (flatB_mem hmem (R.sub j hj)),fun h=>(nomatch h),by have:=R.pl;omega,by have:=R.few;omega,hme,R.at_,(b,A++(q,tc')::B),branch_lost g h6' hAq hB L h3,⟨?_,fun c hcm=>?_⟩,lost_blocks perm,?_⟩,⟨fun w r h0 h1 hcw=>?_⟩⟩
    ·show C1.look D b=pgV (nodePg 4 ((A++(q,tc')::B).map itm))
     rw [hb1,hl1]
     congr 2
     simp [itm,L.blk]
    ·have hcm:c∈A++(q,tc')::B:=hcm
     rcases List.mem_append.1 hcm with hca|hcb
     ·exact hside C1 hq1 c (.inl hca)
     ·rcases List.mem_cons.1 hcb with rfl|hcb
      ·exact lay
      ·exact hside C1 hq1 c (.inr hcb)
    ·exact fun _=>.inl (by rw [items_pair,items_pair];simp)
    ·have hrec:=K.below r h0 (by omega)
     rw [←hat] at hrec
     refine (remove_br w bc bd S T {D with reads:=r} C hcw h0 (by show r≤_;omega) b g.1 _ hes hes4 (by omega) hsrt (by rw [look_reads];exact hl1) p (4*h+1) (by omega) _ ⟨_,_,_,_,_,rfl⟩ false true C1 A.length hA' hcl hrec false true C1 (.inl ⟨rfl,rfl,rfl,rfl⟩)).mono ?_
     rintro x w' ⟨k1,⟨n,T',k2,k3,k4,k5⟩,k6⟩
     exact ⟨k1,⟨n,T',k2,by omega,k4,k5⟩,k6⟩
   |true=>
    rw [hs1] at K R
    have hown:=R.own rfl
    obtain ⟨X,Y,p1,p2,u,v,P⟩:=pair_of A B q tc' (by simpa using h2')
    have hit:=pair_items L.blk P
    obtain ⟨kL,eL⟩:=kids_lost kk hAq hB L
    have hpB:=lost_blocks (b:=b) (A:=A) (B:=B) (q:=q) perm
    have hndP:(b::flatB (X++(p1,u)::(p2,v)::Y)).Nodup:=by
     have:=(List.nodup_append.1 (hpB.nodup_iff.2 hnd)).1
     have h1:(b::flatB (A++(q,tc')::B)).Nodup:=this
     rw [P.eq] at h1;exact h1
    have hmP:∀j,j∈flatB (X++(p1,u)::(p2,v)::Y)→j∈flatB (A++(q,tc)::B):=fun j hj=>by
     have h1:j∈Tr.blocks (h:=h+1) (b,A++(q,tc')::B)++fb:=List.mem_append_left _ (List.mem_cons_of_mem _ (by rw [P.eq];exact hj))
     have h2:j∈b::flatB (A++(q,tc)::B):=hpB.mem_iff.1 h1
     rcases List.mem_cons.1 h2 with rfl|h2
     ·exact absurd hj (List.nodup_cons.1 hndP).1
     ·exact h2
    have eP:flatB (X++(p1,u)::(p2,v)::Y)=flatB X++((u.blocks++v.blocks)++flatB Y):=by rw [flatB_append,flatB_cons,flatB_cons,List.append_assoc]
    have hndQ:=hndP
    rw [eP] at hndQ
    obtain ⟨o1,o2,o3,o4,o5,o6,o7,o8⟩:=nodup_mid hndQ
    have hrP:∀j,j∈flatB X∨j∈u.blocks++v.blocks∨j∈flatB Y→21≤j∧j<1000:=fun j hj=>hrg' j (.inr (hmP j (by
     rw [eP,List.mem_append,List.mem_append (s:=u.blocks++v.blocks)];exact hj)))
    rw [P.eq] at kL
    have gu:=kL.good (p1,u) (by simp)
    have gv:=kL.good (p2,v) (by simp)
    have hub:u.blk∈u.blocks++v.blocks:=List.mem_append_left _ u.blk_mem
    have hvb:v.blk∈u.blocks++v.blocks:=List.mem_append_right _ v.blk_mem
    have huv:u.blk≠v.blk:=fun e0=>(List.nodup_append.1 o5).2.2 _ u.blk_mem _ v.blk_mem e0
    have hur:=hrP _ (.inr (.inl hub))
    have hvr:=hrP _ (.inr (.inl hvb))
    have hbu:u.blk≠b:=fun e0=>o2 (e0▸hub)
    have hbv:v.blk≠b:=fun e0=>o2 (e0▸hvb)
    have hlayc:∀c,c∈X∨c∈Y→c.2.LayV pgV (fun j=>C1.look D (j:Nat)):=fun c hcm=>hside C1 hq1 c (P.out c hcm)
    have hpair:u.LayV pgV (fun j=>C1.look D (j:Nat))∧v.LayV pgV (fun j=>C1.look D (j:Nat))∧(u.blk∈pb∨v.blk∈pb)∧u.blk∈flatB (A++(q,tc)::B)∧v.blk∈flatB (A++(q,tc)::B):=by
     have hm1:=hmP u.blk (by rw [eP];simp [u.blk_mem])
     have hm2:=hmP v.blk (by rw [eP];simp [v.blk_mem])
     rcases P.two with ⟨a1,a2⟩|⟨a1,a2⟩
     ·simp only [Prod.mk.injEq] at a2
      obtain ⟨rfl,rfl⟩:=a2
      exact ⟨hside C1 hq1 (p1,u) (.inl a1),lay,.inr (by rw [L.blk];exact hown),hm1,hm2⟩
     ·simp only [Prod.mk.injEq] at a2
      obtain ⟨rfl,rfl⟩:=a2
      exact ⟨lay,hside C1 hq1 (p2,v) (.inr a1),.inl (by rw [L.blk];exact hown),hm1,hm2⟩
    obtain ⟨layu,layv,hupb,hmu,hmv⟩:=hpair
    have hfewR:=R.few
    have hr1:max A.length 1=X.length+1:=P.at_
    have hst:b≠2:=by omega
    obtain ⟨hrl,e1,e2,e3,e4⟩:=pair_at (z:=⟨((u.items++v.items).getD ((u.items++v.items).length/2) noE).pl,false,0,v.blk⟩) (r:=X.length+1) (by simp) _ hit
    have e1':=e1 (by omega)
    have e2':=e2 hrl
    have hv1:1≤v.items.length:=by
     rcases P.two with ⟨_,a2⟩|⟨a1,_⟩
     ·have h3c:=hfull (q,tc) hmem
      have hlo:=L.lo
      simp only [Prod.mk.injEq] at a2 h3c
      rw [a2.2];omega
     ·have:=hfull (p2,v) (by simp [a1]);simp only at this;omega
    have hvi:v.blk-21+21=v.blk:=by omega
    have huk:C1.look D u.blk=pgV (nodePg (kindOf h) u.items):=layu.node
    have hvk:C1.look D ((v.blk-21+21:Nat):Int)=pgV (nodePg (kindOf h) v.items):=by rw [hvi];exact layv.node
    have hjb:=join_blk u v
    have hji:=join_items u v
    by_cases hsum:(u.items++v.items).length≤6
    ·have M:=mend_any bc bd S D C1 m1 R.cln.map ((A++(q,tc)::B).map itm) (by omega) A.length (X.length+1) hr1 hrl u.blk (v.blk-21) (by rw [e1'];rfl) (by rw [e2',hvi];rfl) gu.1.blk (by omega) (by omega) (kindOf h) (kind_is h) u.items v.items gu.1.items_ok gv.1.items_ok (items4 u) (items4 v) gu.2.1 gv.2.1 hv1 huk hvk (by omega) _ _ (.inl ⟨hsum,rfl,rfl⟩)
     have hsh:=((R.shr.trans (Shr.put D C1 m1 u.blk (pgV (nodePg (kindOf h) (u.items++v.items))))).trans (Shr.free (R.cln.put (i:=u.blk) (by omega) _) (i:=v.blk-21) (by omega))).trans (Shr.put D _ _ b (pgV (nodePg 4 (((A++(q,tc)::B).map itm).eraseIdx (X.length+1)))))
     rw [show pb++[u.blk]++[]++[b]=pb++[u.blk,b] from by simp,show fb++[]++[v.blk-21+21]++[]=fb++[v.blk] from by simp;omega] at hsh
     have hcl3:=((R.cln.put (i:=u.blk) (by omega) (pgV (nodePg (kindOf h) (u.items++v.items)))).free (v.blk-21)).put hst (pgV (nodePg 4 (((A++(q,tc)::B).map itm).eraseIdx (X.length+1))))
     have l1:=ck_put_len C1 u.blk (pgV (nodePg (kindOf h) (u.items++v.items)))
     have l2:=free_len (C1.put u.blk (pgV (nodePg (kindOf h) (u.items++v.items)))) m1 (v.blk-21)
     have l3:=ck_put_len ((C1.put u.blk (pgV (nodePg (kindOf h) (u.items++v.items)))).free m1 (v.blk-21)) b (pgV (nodePg 4 (((A++(q,tc)::B).map itm).eraseIdx (X.length+1))))
     have lk:∀j:Nat,j≠b→j≠2→j≠v.blk→(((C1.put u.blk (pgV (nodePg (kindOf h) (u.items++v.items)))).free m1 (v.blk-21)).put b (pgV (nodePg 4 (((A++(q,tc)::B).map itm).eraseIdx (X.length+1))))).look D (j:Nat)=(C1.put u.blk (pgV (nodePg (kindOf h) (u.items++v.items)))).look D (j:Nat):=fun j h1 h2 h3=>by
      rw [look_put_ne _ _ _ _ _ (by omega),free_look _ _ _ _ _ h2 (by omega)]
     have lb:(((C1.put u.blk (pgV (nodePg (kindOf h) (u.items++v.items)))).free m1 (v.blk-21)).put b (pgV (nodePg 4 (((A++(q,tc)::B).map itm).eraseIdx (X.length+1))))).look D (b:Nat)=pgV (nodePg 4 (((A++(q,tc)::B).map itm).eraseIdx (X.length+1))):=look_put_eq _ _ _ _
     have lu:∀j:Nat,j≠u.blk→(C1.put u.blk (pgV (nodePg (kindOf h) (u.items++v.items)))).look D (j:Nat)=C1.look D (j:Nat):=fun j h1=>look_put_ne _ _ _ _ _ (by omega)
     have luu:(C1.put u.blk (pgV (nodePg (kindOf h) (u.items++v.items)))).look D (u.blk:Nat)=pgV (nodePg (kindOf h) (u.items++v.items)):=look_put_eq _ _ _ _
     have hel:(((A++(q,tc)::B).map itm).eraseIdx (X.length+1)).length=(X++(p1,u.join v)::Y).length:=by rw [e3];simp
     have he3:((A++(q,tc)::B).map itm).eraseIdx (X.length+1)=(X++(p1,u.join v)::Y).map itm:=by rw [e3];simp [itm,hjb]
     have hl6:(((A++(q,tc)::B).map itm).eraseIdx (X.length+1)).length≤6:=by rw [List.length_eraseIdx_of_lt hrl];omega
     have hok3:∀x∈((A++(q,tc)::B).map itm).eraseIdx (X.length+1),x.Ok:=fun x hx=>hes x (List.mem_of_mem_eraseIdx hx)
     generalize ((A++(q,tc)::B).map itm).eraseIdx (X.length+1)=es2 at*
     generalize hC2:(C1.put u.blk (pgV (nodePg (kindOf h) (u.items++v.items)))).free m1 (v.blk-21)=C2 at*
     generalize hC3:C2.put b (pgV (nodePg 4 es2))=C3 at*
     refine .inl ⟨e,C3,clrB m1 (v.blk-21),decide (es2.length<3),pb++[u.blk,b],fb++[v.blk],⟨hcl3,hsh,fun j hj=>?_,fun _=>by simp [Tr.blk],by have:=R.pl;simp;omega,by omega,hme,R.at_,(b,X++(p1,u.join v)::Y),mend_one g h6' hs0 hAq hB L P hsum,⟨?_,fun c hcm=>?_⟩,mend_one_blocks perm P,fun hf=>.inr ?_⟩,⟨fun w r h0 h1 hcw=>?_⟩⟩
     ·show j∈b::flatB (A++(q,tc)::B)
      rcases List.mem_append.1 hj with hj|hj
      ·exact List.mem_cons_of_mem _ (flatB_mem hmem (R.sub j hj))
      ·simp only [List.mem_cons,List.not_mem_nil,or_false] at hj
       rcases hj with rfl|rfl
       ·exact List.mem_cons_of_mem _ hmu
       ·exact List.mem_cons_self ..
     ·show C3.look D (b:Nat)=pgV (nodePg 4 ((X++(p1,u.join v)::Y).map itm))
      rw [lb,he3]
     ·have hcm:c∈X++(p1,u.join v)::Y:=hcm
      have hxy:∀c,c∈X∨c∈Y→c.2.LayV pgV (fun j=>C3.look D (j:Nat)):=fun c hcm=>(hlayc c hcm).congr (fun j hj=>by
       have hjm:j∈flatB X∨j∈flatB Y:=hcm.imp (fun h=>flatB_mem h hj) (fun h=>flatB_mem h hj)
       have hjn:j∉u.blocks++v.blocks:=hjm.elim (o7 j) (o8 j)
       have hjr:=hrP j (hjm.imp id .inr)
       have hjb':j≠b:=fun e0=>hjm.elim (fun h=>o1 (e0▸h)) (fun h=>o3 (e0▸h))
       show C3.look D (j:Nat)=C1.look D (j:Nat)
       rw [lk j hjb' (by omega) (fun e0=>hjn (e0▸hvb)),lu j (fun e0=>hjn (e0▸hub))])
      rcases List.mem_append.1 hcm with hca|hcb
      ·exact hxy c (.inl hca)
      ·rcases List.mem_cons.1 hcb with rfl|hcb
       ·refine join_lay layu layv o5 ?_ (fun j hj h1 h2=>?_)
        ·show C3.look D (u.blk:Nat)=_
         rw [lk u.blk hbu (by omega) huv,luu]
        ·have hjr:=hrP j (.inr (.inl hj))
         show C3.look D (j:Nat)=C1.look D (j:Nat)
         rw [lk j (fun e0=>o2 (e0▸hj)) (by omega) h2,lu j h1]
       ·exact hxy c (.inr hcb)
     ·rw [items_pair]
      have:¬es2.length<3:=by simpa using hf
      omega
     ·have hrec:=K.below r h0 (by omega)
      rw [←hat] at hrec
      refine (remove_br w bc bd S T {D with reads:=r} C hcw h0 (by show r≤_;omega) b g.1 _ hes hes4 (by omega) hsrt (by rw [look_reads];exact hl1) p (4*h+1) (by omega) _ ⟨_,_,_,_,_,rfl⟩ true true C1 A.length hA' hcl hrec (decide (es2.length<3)) true C3 (.inr ⟨rfl,rfl,es2,C2,M.reads r,hok3,hl6,by omega,decide_eq_decide.2 (by omega),hC3.symm⟩)).mono ?_
      rintro x w' ⟨k1,⟨n,T',k2,k3,k4,k5⟩,k6⟩
      exact ⟨k1,⟨n,T',k2,by omega,k4,k5⟩,k6⟩
    ·have hj12:(u.items++v.items).length≤12:=by rw [List.length_append];have:=gu.2.1;have:=gv.2.1;simp only at *; omega
     have M:MendK bc bd S D C1 ((A++(q,tc)::B).map itm) A.length (((A++(q,tc)::B).map itm).set (X.length+1) ⟨((u.items++v.items).getD ((u.items++v.items).length/2) noE).pl,false,0,v.blk⟩) ((C1.put u.blk (pgV (nodePg (kindOf h) ((u.items++v.items).take ((u.items++v.items).length/2))))).put v.blk (pgV (nodePg (kindOf h) ((u.items++v.items).drop ((u.items++v.items).length/2))))):=
      mend_any bc bd S D C1 m1 R.cln.map ((A++(q,tc)::B).map itm) (by omega) A.length (X.length+1) hr1 hrl u.blk (v.blk-21) (by rw [e1'];rfl) (by rw [e2',hvi];rfl) gu.1.blk (by omega) (by omega) (kindOf h) (kind_is h) u.items v.items gu.1.items_ok gv.1.items_ok (items4 u) (items4 v) gu.2.1 gv.2.1 hv1 huk hvk (by omega) _ _ (.inr ⟨by omega,by rw [e2'];rfl,by rw [hvi]⟩)
     rw [←hji] at M e4
     have hgp:=(cut_at (m:=(u.join v).items.length/2) (b:=v.blk) noE (join_good gu.1 gv.1 (p:=p2) (by
      have k2:Kids ((X++[(p1,u)])++(p2,v)::Y):=by rw [List.append_assoc];exact kL
      exact k2.mid.2.2.2.2.1) (fun x hx=>by
      have k2:Kids ((X++[(p1,u)])++(p2,v)::Y):=by rw [List.append_assoc];exact kL
      exact k2.mid.2.2.1 x (by rw [flatE_append,flatE_cons];simp [hx]))) (by
      have hs2:Srt (flatE (A++(q,tc')::B)):=by rw [eL];exact hs0.del
      rw [P.eq] at hs2
      exact (kL.pair hs2).2.2.1) (by rw [hji];omega)).2.1
     obtain ⟨o,ho,hou,hov⟩:∃o,(o=u.blk∨o=v.blk)∧(u.blk∈pb∨u.blk=o)∧(v.blk∈pb∨v.blk=o):=by
      rcases hupb with h|h
      ·exact ⟨v.blk,.inr rfl,.inl h,.inr rfl⟩
      ·exact ⟨u.blk,.inl rfl,.inr rfl,.inl h⟩
     have hsh:=((R.shr.trans (Shr.put D C1 m1 u.blk (pgV (nodePg (kindOf h) ((u.join v).items.take ((u.join v).items.length/2)))))).trans (Shr.put D _ m1 v.blk (pgV (nodePg (kindOf h) ((u.join v).items.drop ((u.join v).items.length/2)))))).trans (Shr.put D _ _ b (pgV (nodePg 4 (((A++(q,tc)::B).map itm).set (X.length+1) ⟨((u.join v).items.getD ((u.join v).items.length/2) noE).pl,false,0,v.blk⟩))))
     rw [show fb++[]++[]++[]=fb from by simp] at hsh
     have hcl3:=((R.cln.put (i:=u.blk) (by omega) (pgV (nodePg (kindOf h) ((u.join v).items.take ((u.join v).items.length/2))))).put (i:=v.blk) (by omega) (pgV (nodePg (kindOf h) ((u.join v).items.drop ((u.join v).items.length/2))))).put hst (pgV (nodePg 4 (((A++(q,tc)::B).map itm).set (X.length+1) ⟨((u.join v).items.getD ((u.join v).items.length/2) noE).pl,false,0,v.blk⟩)))
     have hT:=mend_two g h6' hs0 hAq hB L P (by omega) noE ((u.items++v.items).length/2) rfl
     rw [←hji] at hT hsum hj12
     have hok3:∀x∈((A++(q,tc)::B).map itm).set (X.length+1) ⟨((u.join v).items.getD ((u.join v).items.length/2) noE).pl,false,0,v.blk⟩,x.Ok:=fun x hx=>by
      rcases List.mem_or_eq_of_mem_set hx with hx|rfl
      ·exact hes x hx
      ·exact hgp.en gv.1.blk
     have hl6:(((A++(q,tc)::B).map itm).set (X.length+1) ⟨((u.join v).items.getD ((u.join v).items.length/2) noE).pl,false,0,v.blk⟩).length≤6:=by rw [List.length_set];omega
     have he4:((A++(q,tc)::B).map itm).set (X.length+1) ⟨((u.join v).items.getD ((u.join v).items.length/2) noE).pl,false,0,v.blk⟩=(X++(p1,(u.join v).cutL ((u.join v).items.length/2))::(((u.join v).items.getD ((u.join v).items.length/2) noE).pl,(u.join v).cutR ((u.join v).items.length/2) v.blk)::Y).map itm:=by
      rw [e4];simp [itm,(cut_blk ((u.join v).items.length/2) v.blk (u.join v)).1,(cut_blk ((u.join v).items.length/2) v.blk (u.join v)).2,hjb]
     have hpB2:=mend_two_blocks (b:=b) (q':=((u.join v).items.getD ((u.join v).items.length/2) noE).pl) ((u.join v).items.length/2) perm P
     have ll1:=ck_put_len C1 u.blk (pgV (nodePg (kindOf h) ((u.join v).items.take ((u.join v).items.length/2))))
     have ll2:=ck_put_len (C1.put u.blk (pgV (nodePg (kindOf h) ((u.join v).items.take ((u.join v).items.length/2))))) v.blk (pgV (nodePg (kindOf h) ((u.join v).items.drop ((u.join v).items.length/2))))
     have hcut:=fun (rd:Nat→List Value)=>cut_lay (pg:=pgV) (rd:=rd) ((u.join v).items.length/2) v.blk (u:=u.join v)
     generalize (u.join v).items.length/2=m0 at*
     generalize ((u.join v).items.getD m0 noE).pl=q' at*
     generalize ((A++(q,tc)::B).map itm).set (X.length+1) ⟨q',false,0,v.blk⟩=es2 at*
     have lb:(((C1.put u.blk (pgV (nodePg (kindOf h) ((u.join v).items.take m0)))).put v.blk (pgV (nodePg (kindOf h) ((u.join v).items.drop m0)))).put b (pgV (nodePg 4 es2))).look D (b:Nat)=pgV (nodePg 4 es2):=look_put_eq _ _ _ _
     have lv:(((C1.put u.blk (pgV (nodePg (kindOf h) ((u.join v).items.take m0)))).put v.blk (pgV (nodePg (kindOf h) ((u.join v).items.drop m0)))).put b (pgV (nodePg 4 es2))).look D (v.blk:Nat)=pgV (nodePg (kindOf h) ((u.join v).items.drop m0)):=by
      rw [look_put_ne _ _ _ _ _ (by omega)];exact look_put_eq _ _ _ _
     have lu:(((C1.put u.blk (pgV (nodePg (kindOf h) ((u.join v).items.take m0)))).put v.blk (pgV (nodePg (kindOf h) ((u.join v).items.drop m0)))).put b (pgV (nodePg 4 es2))).look D (u.blk:Nat)=pgV (nodePg (kindOf h) ((u.join v).items.take m0)):=by
      rw [look_put_ne _ _ _ _ _ (by omega),look_put_ne _ _ _ _ _ (by omega)];exact look_put_eq _ _ _ _
     have lk:∀j:Nat,j≠b→j≠u.blk→j≠v.blk→(((C1.put u.blk (pgV (nodePg (kindOf h) ((u.join v).items.take m0)))).put v.blk (pgV (nodePg (kindOf h) ((u.join v).items.drop m0)))).put b (pgV (nodePg 4 es2))).look D (j:Nat)=C1.look D (j:Nat):=fun j h1 h2 h3=>by
      rw [look_put_ne _ _ _ _ _ (by omega),look_put_ne _ _ _ _ _ (by omega),look_put_ne _ _ _ _ _ (by omega)]
     have ll3:=ck_put_len ((C1.put u.blk (pgV (nodePg (kindOf h) ((u.join v).items.take m0)))).put v.blk (pgV (nodePg (kindOf h) ((u.join v).items.drop m0)))) b (pgV (nodePg 4 es2))
     have hlen2:es2.length=(X++(p1,(u.join v).cutL m0)::(q',(u.join v).cutR m0 v.blk)::Y).length:=by rw [he4];simp
     generalize hC2:(C1.put u.blk (pgV (nodePg (kindOf h) ((u.join v).items.take m0)))).put v.blk (pgV (nodePg (kindOf h) ((u.join v).items.drop m0)))=C2 at*
     generalize hC3:C2.put b (pgV (nodePg 4 es2))=C3 at*
     have hsh':Shr D C C3 m m1 (pb++[o,b]) fb:=hsh.sub (fun j hj=>.inl (by
      simp only [List.mem_append,List.mem_cons,List.not_mem_nil,or_false] at hj ⊢
      rcases hj with ((hj|hj)|hj)|hj
      ·exact .inl hj
      ·rw [hj];exact hou.imp id .inl
      ·rw [hj];exact hov.imp id .inl
      ·exact .inr (.inr hj))) (fun j _ hj=>by
      simp only [List.mem_append,List.mem_cons,List.not_mem_nil,or_false] at hj ⊢
      rcases hj with ((hj|hj)|hj)|hj
      ·exact .inl hj
      ·rw [hj];exact hou.imp id .inl
      ·rw [hj];exact hov.imp id .inl
      ·exact .inr (.inr hj))
     refine .inl ⟨e,C3,m1,decide (es2.length<3),pb++[o,b],fb,⟨hcl3,hsh',fun j hj=>?_,fun _=>by simp [Tr.blk],by have:=R.pl;simp;omega,by omega,hme,R.at_,_,hT,⟨?_,fun c hcm=>?_⟩,hpB2,fun hf=>.inr ?_⟩,⟨fun w r h0 h1 hcw=>?_⟩⟩
     ·show j∈b::flatB (A++(q,tc)::B)
      rcases List.mem_append.1 hj with hj|hj
      ·exact List.mem_cons_of_mem _ (flatB_mem hmem (R.sub j hj))
      ·simp only [List.mem_cons,List.not_mem_nil,or_false] at hj
       rcases hj with rfl|rfl
       ·rcases ho with rfl|rfl
        ·exact List.mem_cons_of_mem _ hmu
        ·exact List.mem_cons_of_mem _ hmv
       ·exact List.mem_cons_self ..
     ·show C3.look D (b:Nat)=pgV (nodePg 4 (List.map itm _))
      rw [lb,he4]
     ·have hxy:∀c,c∈X∨c∈Y→c.2.LayV pgV (fun j=>C3.look D (j:Nat)):=fun c hcm=>(hlayc c hcm).congr (fun j hj=>by
       have hjm:j∈flatB X∨j∈flatB Y:=hcm.imp (fun h=>flatB_mem h hj) (fun h=>flatB_mem h hj)
       have hjn:j∉u.blocks++v.blocks:=hjm.elim (o7 j) (o8 j)
       have hjb':j≠b:=fun e0=>hjm.elim (fun h=>o1 (e0▸h)) (fun h=>o3 (e0▸h))
       show C3.look D (j:Nat)=C1.look D (j:Nat)
       exact lk j hjb' (fun e0=>hjn (e0▸hub)) (fun e0=>hjn (e0▸hvb)))
      obtain ⟨cl,cr⟩:=hcut (fun j=>C3.look D (j:Nat)) (fun rd' hb' he'=>join_lay layu layv o5 (by rw [hjb,hji] at hb';exact hb') (fun j hj h1 h2=>by
       rw [he' j (by rw [hjb];exact h1)]
       exact lk j (fun e0=>o2 (e0▸hj)) h1 h2)) (join_tail o5) (by rw [hjb];exact lu) lv
      have hcm':c∈X++(p1,(u.join v).cutL m0)::(q',(u.join v).cutR m0 v.blk)::Y:=hcm
      rcases List.mem_append.1 hcm' with hca|hcb
      ·exact hxy c (.inl hca)
      ·rcases List.mem_cons.1 hcb with rfl|hcb
       ·exact cl
       ·rcases List.mem_cons.1 hcb with rfl|hcb
        ·exact cr
        ·exact hxy c (.inr hcb)
     ·rw [items_pair]
      have:¬es2.length<3:=by simpa using hf
      omega
     ·have hrec:=K.below r h0 (by omega)
      rw [←hat] at hrec
      refine (remove_br w bc bd S T {D with reads:=r} C hcw h0 (by show r≤_;omega) b g.1 _ hes hes4 (by omega) hsrt (by rw [look_reads];exact hl1) p (4*h+1) (by omega) _ ⟨_,_,_,_,_,rfl⟩ true true C1 A.length hA' hcl hrec (decide (es2.length<3)) true C3 (.inr ⟨rfl,rfl,es2,C2,M.reads r,hok3,hl6,by omega,decide_eq_decide.2 (by omega),hC3.symm⟩)).mono ?_
      rintro x w' ⟨k1,⟨n,T',k2,k3,k4,k5⟩,k6⟩
      exact ⟨k1,⟨n,T',k2,by omega,k4,k5⟩,k6⟩
  ·refine .inr ⟨fun x hx e0=>?_,⟨fun w r h0 h1 hcw=>?_⟩⟩
   ·have hx:x∈flatE (A++(q,tc)::B):=hx
    obtain ⟨u1,u2⟩:=kk.unroute hAq hB
    rw [flatE_append,flatE_cons] at hx
    rcases List.mem_append.1 hx with hx|hx
    ·exact u1 x hx e0
    ·rcases List.mem_append.1 hx with hx|hx
     ·exact hno x hx e0
     ·exact u2 x hx e0
   ·have hrec:=K.below r h0 (by omega)
    rw [←hat] at hrec
    refine (remove_br w bc bd S T {D with reads:=r} C hcw h0 (by show r≤_;omega) b g.1 _ hes hes4 (by omega) hsrt (by rw [look_reads];exact hl1) p (4*h+1) (by omega) _ ⟨_,_,_,_,_,rfl⟩ false false C A.length hA' hcl hrec false false C (.inl ⟨rfl,rfl,rfl,rfl⟩)).mono ?_
    rintro x w' ⟨k1,⟨n,T',k2,k3,k4,k5⟩,k6⟩
    exact ⟨k1,⟨n,T',k2,by omega,k4,k5⟩,k6⟩
end Go.Proofs.YtcoengihaobddaaGreatDoor.prog
