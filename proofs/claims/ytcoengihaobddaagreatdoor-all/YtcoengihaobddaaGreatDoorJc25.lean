/- Part 25 of 36 of a proof: BWrite2, Root2, Log2, Log3, Log4, Log5, Add1 -/
import Derived.Test.YtcoengihaobddaaGreatDoorJc24
set_option maxHeartbeats 8000000
set_option linter.unusedVariables false
set_option linter.unusedSimpArgs false
set_option maxRecDepth 8000
namespace Go.Proofs.YtcoengihaobddaaGreatDoor
open Go.ChangeShapes Go.WideShapes Go.ChangeAt Go.RowKit disk ref
namespace prog
open keys (zh ze zy zs)
attribute [local go_sem] Oper.semAt_some
variable {vs:List Value}
theorem KE(n:World)(g:Nat)(a:Option Addr)(c:Nat)(enc:Nat->Value)(e:Int->List Nat->World->Prop)
 (d:∀r pre A,e r pre A->A.heap[g]? =some (.cells #[.slice a 0 c] 178 (0,0))):
 vQ Tryz.prog 169 #[.pointer (some ⟨g,0,none⟩)] (λi:Nat=>#[.int .i64 (i:Int),enc i]) (λ_=>False) e (λr pre i A=>r=0/\(pre++[i])<+:yR 0) (λr o=>r=0/\o=yR 0) (λ_ _=>True) 0 n:=by
 intro l p q f h j b;have m:PLift (p 0 [] (λ_=>False) n):=⟨b⟩;have k:=d _ _ _ (f _ _ _ _ b).1;have s:n.cell? ⟨g,0,none⟩=some (.slice a 0 c):=cR k rfl;clear f h j b d k;go_enter Tryz.func169,Tryz.ntmps169;go_wp2_with fail;go_loopw [3] (λt wr=>t=.int .i64 (-1)/\wr=n) (λt _=>0)
 case atStart=>exact⟨rfl,rfl⟩
 case round=>
  obtain⟨rfl,rfl⟩:=hrel;go_wp2;go_end0;exact⟨⟨_,rfl⟩,.inl ⟨0,[],λ_=>False,⟨rfl,rfl⟩,m.down⟩⟩
theorem KF(p:World)(e:Nat)(a:Option Addr)(m c:Nat)(vs:List Value)(j:vs.length=m)(q:m<=1000)(enc:Nat->Value)(f:∀i (h:i<vs.length),vs[i]=enc i)(t:∀i,∃a n c,enc i=.slice a n c)(s:0<m->∃g,a=some ⟨g,0,none⟩)(b:Int->List Nat->World->Prop)
 (d:∀r pre A,b r pre A->A.heap[e]? =some (.cells #[.slice a m c] 178 (0,0))/\A.ownsRow 0 35 1 (.slice a m c) m vs)
 (k:∀r pre A B,b r pre A->za (λ_=>False) A B->b r pre B):
 vQ Tryz.prog 169 #[.pointer (some ⟨e,0,none⟩)] (λi:Nat=>#[.int .i64 (i:Int),enc i]) (λ_=>False) b (λr pre i A=>r=0/\(pre++[i])<+:yR m) (λr l=>r=0/\l=yR m) (λ_ _=>True) 0 p:=by
 by_cases o:0<m
 .obtain⟨g,rfl⟩:=s o;exact V1 p e g m c vs j q enc f t b d k
 .obtain rfl:m=0:=by omega
  exact KE p e a c enc b (λr pre A h=>(d r pre A h).1)
theorem Ue{w:World}{e:TypeId}{a:Option Addr}{n c:Nat}(h:w.ownsRow 0 e 1 (.slice a n c) n vs)(i:0<n):∃g,a=some ⟨g,0,none⟩/\g<w.heap.size:=by
 rcases h.2 with⟨_,b⟩|⟨g,f,d,b,_,h2,_⟩;.omega
 .simp only [Value.slice.injEq] at b;exact⟨g,b.1,(lT h2)⟩
theorem GI{w:World}{e:TypeId}{v:Value}{n:Nat}(h:w.ownsRow 0 e 1 v n vs):∀k,v.ownBlock=some k->k<w.heap.size:=by
 intro k a;rcases h.2 with⟨rfl,d⟩|⟨g,c,b,rfl,_,h2,_⟩;.cases a
 .simp [Value.ownBlock] at a;subst a;exact(lT h2)
structure G5 (w1:World) (bc bd:Nat) (S T:Nat->Prop) (D:Dk) (C:Ck) (m:List UInt8) (ls:List (List UInt8)) (b2 b6 bb:Nat) (v:Value) (vs:List Value) (r:Int) (pre:List Nat) (Q:Nat->Prop) (A:World):Prop where
 st:∃(f:Nat) (C1:Ck) (m1:List UInt8) (n:Int) (T1:Nat->Prop),C.body D.bs.length m (ls.drop (ls.length-pre.length))=(f,C1,m1)/\0<=n/\n<=pre.length/\Cw A bc bd S T1 {D with reads:=D.reads+n} C1/\(∀j,T1 j->T j\/w1.heap.size+2<=j)/\A.heap[b6]? =some (.cells #[.int .i64 (f:Int)] 3 (0,0))/\∀k,Q k↔T1 k/\w1.heap.size+2<=k
 len:pre.length<=ls.length
 box:A.heap[b2]? =some (.cells #[.pointer (some ⟨bc,0,none⟩)] 142 (0,0))
 back:A.heap[bb]? =some (.cells #[v] 178 (0,0))/\A.ownsRow 0 35 1 v ls.length vs
 kept:za (λk=>k=bd\/T k\/k=b6\/w1.heap.size<=k) w1 A
 r:r=0
theorem G5.by{a:World}{x bd:Nat}{S T:Nat->Prop}{D:Dk}{C:Ck}{m:List UInt8}{u:List (List UInt8)}{p l o:Nat}{v:Value}{r s:Int}{pre:List Nat}{Q K:Nat->Prop}{A B:World}(h:G5 a x bd S T D C m u p l o v vs r pre Q A)(c:za K A B)(q:∀k,K k->a.heap.size<=k/\k<=a.heap.size+1)(H:s=0)(N:∀k,S k->k<a.heap.size)(G:∀k,T k->k<a.heap.size)(h2:p<a.heap.size)(M:l<a.heap.size)(t:o<a.heap.size)(E:∀k,v.ownBlock=some k->k<a.heap.size):G5 a x bd S T D C m u p l o v vs s pre Q B:=by
 obtain⟨f,J,I,n,z,k1,k2,k3,O,w,y,F⟩:=h.st;have d:∀b,b<a.heap.size->¬K b:=λb t g=>by have:=q b g;omega
 refine⟨⟨f,J,I,n,z,k1,k2,k3,O.kept c (λj e=>d j (N j e)) (λj e g=>?_),w,(c.block _ (lT y) (d _ M)).trans y,F⟩,h.len,(c.block _ (lT h.box) (d _ h2)).trans h.box,⟨(c.block _ (lT h.back.1) (d _ t)).trans h.back.1,c.owns h.back.2 (λj e=>d j (E j e))⟩,h.kept.trans c (λi L=>.inl (.inr (.inr (.inr (q i L).1)))),H⟩;rcases w j e with h|h;.exact d j (G j h) g
 .have:=q j g;omega
section
attribute [local go_sem ↓] jx GC
theorem XM(w:World)(y bd:Nat)(S T:Nat->Prop)(D:Dk)(C:Ck)(h:Cw w y bd S T D C)(m:List UInt8)(ci:qF (C.look D 2) m)(de:0<=D.reads)(da:D.reads<=4611686018427380000)(P:Nat->Prop)(a:Option Addr)(M:Nat)(l:List UInt8)(bL:zL w P a l)(bl:∀j,P j->¬T j)(bA:∀j,P j->j≠bd)(cT:l.length<=300)(cB:l.length<=M)(cg:M<=9223372036854775807)(c5:D.bs.length<=1000)(c4:C.ws.length<600)(bT:Nat)(ck:Ck)(c1:List UInt8)(aB:C.body D.bs.length m (zW l)=(bT,ck,c1)):
 Calls Tryz.prog 75 #[.pointer (some ⟨y,0,none⟩),.slice a l.length M] w λe w'=>e=.returned (.int .i64 (bT:Int))/\(∃(n:Int) (cr:Nat->Prop),0<=n/\n<=3/\Cw w' y bd S cr {D with reads:=D.reads+n} ck/\∀j,cr j->T j\/w.heap.size<=j)/\za (λj=>j=bd\/T j) w w':=by
 have c3:Hid _:=h;have cv:Hid (zL w P a l):=bL;have db:=h.disk.lt bd h.disk.bdS;have X:Hid _:=h.chg.lt;have af:Hid _:=h.disk.lt
 have cq:0<l.length->∃g Z,a=some ⟨g,Z,none⟩:=λap=>by
  rcases bL with s|⟨b,Z,s,_⟩;.rw [s] at ap;simp at ap
  .exact⟨b,Z,s⟩
 change Hid _ at ci bl bA aB cq;clear h bL;refine yC Tryz.func75 rfl ?_;simp only [Tryz.ntmps75,aq,ae,hO,Nat.reduceAdd,Nat.reduceSub,iN,iO,i5,iR,aK,aT];have b2:Hid (((room 6:Nat):Int)=124):=by show ((room 6:Nat):Int)=124;decide
 go_wp2_with (go_at_call 129;refine(j9 _ 6 (by decide)).mono ?_;rintro e c0 ⟨rfl,bC⟩;rw [bC,b2.out];clear bC c0);have cp:Hid (za (λ_=>False) w (w.alloc (.cells #[.pointer (some ⟨y,0,none⟩)] 142))):=za.alloc _ _ _;have bB:Hid ((w.alloc (.cells #[.pointer (some ⟨y,0,none⟩)] 142)).heap[w.heap.size]? =some (.cells #[.pointer (some ⟨y,0,none⟩)] 142 (0,0))):=ac w _;have cd:(w.alloc (.cells #[.pointer (some ⟨y,0,none⟩)] 142)).heap.size=w.heap.size+1:=by simp
 generalize (w.alloc (.cells #[.pointer (some ⟨y,0,none⟩)] 142))=cQ at*;refine(Kx cQ a l.length M).mono ?_;rintro e cz ⟨rfl,bH,bi,V,b6⟩;have a2:Hid _:=bH;have ah:Hid _:=bi;have bz:Hid _:=V;rw [cd] at a2 ah b6;clear bH bi V;go_wp2_with fail;refine(Yf cz _ _ a l.length M cT cB cg cq a2 ah).mono ?_;rintro e d ⟨⟨g,Z,R,O,bu,rfl,L,aF⟩,K⟩;have bD:Hid _:=K;have c9:=K.size;change Hid _ at bu L aF;clear K;go_wp2_with fail;have cu:Hid (za (λ_=>False) d (d.alloc (.cells #[.int .i64 0] 3))):=za.alloc _ _ _;have bw:Hid ((d.alloc (.cells #[.int .i64 0] 3)).heap[d.heap.size]? =some (.cells #[.int .i64 0] 3 (0,0))):=ac d _;have bx:(d.alloc (.cells #[.int .i64 0] 3)).heap.size=d.heap.size+1:=by simp
 generalize (d.alloc (.cells #[.int .i64 0] 3))=cL at*;have bn:(qU l.length).length=(zW l).length:=by rw [yW,kq]
 rw [bn] at L aF ⊢;have dh:(zW l).length<=3:=by rw [yW];omega
 have cw:Hid (∀k,(Value.slice R (zW l).length O).ownBlock=some k->cz.heap.size<=k/\k<d.heap.size):=λk q=>⟨aF k q,GI L k q⟩;clear bn aF;refine(ZT cL (.slice R (zW l).length O) rfl R _ O rfl).mono ?_;rintro e N ⟨rfl,bG,a5,bq⟩;have bF:Hid _:=bG;rw [bx] at bF bq;change Hid _ at a5;clear bG;have ar:Hid _:=cu.trans a5 iL;have an:Hid (za (λ_=>False) w N):=((cp.trans bz iL).trans bD iL).trans ar iL;have bO:Hid _:=(bz.trans bD iL).trans ar iL;have bR:Hid (N.heap[w.heap.size]? =_):=(bO.block _ (by omega) id).trans bB.out;have bS:Hid (N.heap[d.heap.size]? =_):=(a5.block _ (by omega) id).trans bw.out;have aY:Hid _:=ar.owns L nF;clear bB bw L a2 ah;rw [bx];go_wp2_with fail
 have bK:Hid (∀bc,za (λ_=>False) N bc->bc.heap.size=N.heap.size+2->vQ Tryz.prog 169 #[.pointer (some ⟨d.heap.size+1,0,none⟩)] (λi:Nat=>#[.int .i64 (i:Int),yi g Z l.length (i*124)]) (λ_=>False) (λr _ A=>A.heap[d.heap.size+1]? =some (.cells #[.slice R (zW l).length O] 178 (0,0))/\A.ownsRow 0 35 1 (.slice R (zW l).length O) (zW l).length ((qU l.length).map (yi g Z l.length))/\r=0) (λr pre i A=>r=0/\(pre++[i])<+:yR (zW l).length) (λr bN=>r=0/\bN=yR (zW l).length) (λ_ _=>True) 0 bc):=λbc q c7=>
  KF bc (d.heap.size+1) R (zW l).length O ((qU l.length).map (yi g Z l.length)) (by rw [ez,yW,kq]) (by omega) (λi=>yi g Z l.length (i*124)) (λi t=>by simp [qU]) (λi=>⟨_,_,_,rfl⟩) (λap=>by obtain⟨cY,s,_⟩:=Ue aY ap;exact⟨cY,s⟩) _ (λr pre A h=>⟨h.1,h.2.1⟩)
   (λr pre A B h q=>⟨(q.block _ (lT h.1) id).trans h.1,q.owns h.2.1 nF,h.2.2⟩)
 have F:Hid _:=cw.out
 refine kj (α:=Nat) (gf:= 169) (lb:=#[.pointer (some ⟨d.heap.size+1,0,none⟩)]) rfl (enters_of Tryz.func169 (by kernel_rfl) rfl) bK.out
  (λk q=>q.elim) (λ_=>rfl)
  (G5 N y bd S T D C m (zW l) w.heap.size d.heap.size (d.heap.size+1) (.slice R (zW l).length O) ((qU l.length).map (yi g Z l.length))) (λc r pre A=>False)
  (λr pre Q A h=>⟨⟨h.back.1,h.back.2,h.r⟩,λk q=>by
   obtain⟨f,aU,a7,n,U,k1,k2,k3,ao,aQ,aw,aO⟩:=h.st;have s:=(aO k).1 q;have h2:=ao.chg.lt k s.1
   omega⟩)
  (λr dm pre Q A B h dr q t=>h.by q (λk q=>q.elim) t.2.2 (λk q=>by have:=af.out k q;omega) (λk q=>by have:=X.out k q;omega) (by omega) (by omega) (by omega) (λk q=>by have:=F.out k q;omega))
  (λr pre Q A B h q=>h.by q (λk q=>by omega) h.r (λk q=>by have:=af.out k q;omega) (λk q=>by have:=X.out k q;omega) (by omega) (by omega) (by omega) (λk q=>by have:=F.out k q;omega))
  (λc r pre A B h q=>h)
  ⟨⟨0,C,m,0,T,by rw [hO,Nat.sub_zero,lm];rfl,eb _,by simp,by rw [Int.add_zero];exact c3.kept0 an,λj o=>.inl o,bS,λk=>⟨λh=>h.elim,λh=>by have:=X.out k h.1;omega⟩⟩,aj _,bR,⟨bF,aY⟩,za.refl _ _,rfl⟩
  (λz cn A=>cn={tmps:=#[.pointer (some ⟨y,0,none⟩),.slice a l.length M,.pointer (some ⟨w.heap.size,0,none⟩),undef,.int .i64 0,.slice R (zW l).length O,.pointer (some ⟨d.heap.size,0,none⟩),undef,yi g Z l.length (z*124),undef,.slice a l.length M,.int .i64 124,.func (.func 168) #[] #[.pointer (some ⟨w.heap.size+1,0,none⟩),.pointer (some ⟨w.heap.size+1+1,0,none⟩)],.slice R (zW l).length O,.slice R (zW l).length O,.func (.func 169) #[] #[.pointer (some ⟨d.heap.size+1,0,none⟩)],.int .i64 (z:Int),yi g Z l.length (z*124),undef,undef,undef,undef,undef,undef,undef,undef,undef,undef,undef,undef,undef,undef,undef],defers:=[] })
  (λz a A B h q=>h) (λr pre z A B h q=>h) ?assign ?body ?done ?stop
 case assign=>
  intro al r pre z Q A dt t aP cb bb;gi_wp2;exact bb _ _ (za.refl _ _) t aP rfl
 case body=>
  rintro al r pre z Q cn A t aP rfl cb;obtain⟨f,aU,a7,n,U,k1,k2,k3,ao,aQ,aw,aO⟩:=t.st;obtain⟨dq,a8⟩:=aP.2
  have cl:pre.length<(zW l).length:=by have:=congrArg List.length a8;rw [vH] at this;simp at this;omega
  have cE:z=(zW l).length-1-pre.length:=by
   have aX:(yR (zW l).length)[pre.length]? =some z:=by rw [<-a8];simp
   simp only [yR] at aX;rw [List.getElem?_reverse (by simpa using cl),mw,List.getElem?_range (by omega)] at aX;exact(eG aX).symm
  have H:z<(zW l).length:=by omega
  have aM:(zW l).drop ((zW l).length-(pre++[z]).length)=xP l (z*124)::(zW l).drop ((zW l).length-pre.length):=by rw [ag,iq,show (zW l).length-(pre.length+1)=z from by omega,show (zW l).length-pre.length=z+1 from by omega,aI H,gU]
  have aD:z*124<l.length:=by rw [yW] at H;omega
  have ba:=bk (xP l (z*124)) (by rw [<-gU l z H];exact ai _);have aL:=bm ci c5 _ _ _ _ k1;have cy:Hid _:=aL.1;have aH:=aL.2.2;have dc:aU.ws.length<700:=by have:=aL.2.1;have:((zW l).drop ((zW l).length-pre.length)).length<=3:=(by rw [aS];omega);omega
  have b0:Hid (zL A P (some ⟨g,Z+z*124,none⟩) (xP l (z*124))):=by
   have s:=(cv.kept an nF);show zL A P _ _;have ap:=bu.out (by omega);rw [ap] at s;rcases s with s|⟨b,bP,aV,ad,I,Y⟩;.rw [s] at aD;simp at aD
   .cases aV;refine .inr ⟨g,Z+z*124,rfl,ad,ay I t.kept.size,λj o=>?_⟩
    have c6:g<w.heap.size:=by
     rcases cv.out with h2|⟨ds,dn,aR,_,bM,_⟩;.rw [h2] at aD;simp at aD
     .rw [ap] at aR;cases aR;exact bM
    have cA:z*124+j<l.length:=by rw [un (by omega)] at o;omega
    have:=(t.kept.cell (a:=⟨g,Z+(z*124+j),none⟩) I (λu=>by
     rcases u with h|h|h|h;.exact bA g ad h
     .exact bl g ad h
     .have aP:g=d.heap.size:=h;omega
     .have aP:N.heap.size<=g:=h;omega)).trans (Y _ cA)
    rw [lH,this];simp [xP]
  have bI:yi g Z l.length (z*124)=.slice (some ⟨g,Z+z*124,none⟩) (xP l (z*124)).length (xP l (z*124)).length:=by rw [un (by omega)];rfl
  rw [bI];have ab:Hid _:=t;have cj:A.cell? ⟨d.heap.size,0,none⟩=some (.int .i64 (f:Int)):=cR aw rfl;have b4:A.cell? ⟨w.heap.size,0,none⟩=some (.pointer (some ⟨y,0,none⟩)):=cR t.box rfl;have a0:Hid _:=ao;have J:Hid _:=aQ;have bZ:Hid _:=aO;have ca:Hid _:=aw;have b1:Hid _:=k1;have bE:=ba.1;have a6:=ba.2;generalize xP l (z*124)=p at*;generalize Z+z*124=cm at*;have cJ:=t.kept.size;have bs:n<=3:=by omega
  have cc:Hid _:=k3;change Hid _ at aM;clear t aP a8 cE H aL k1 k3 ao aQ aw aO bI ba;obtain⟨bh,bp,dk⟩:∃bh:List Value,bh=zX/\∀w,(zeroValue 154).run Tryz.prog w=.ok (.agg bh.toArray) w:=⟨zX,rfl,zY Tryz.infoPage⟩;have cx:Hid (zT bh):=by rw [bp];exact zH
  have cC:Hid _:=zZ Tryz.infoPage;have a1:Hid _:=yf (Pg.new_ok 6 (by omega));clear bp;gi_wp2_with fail;refine⟨eI,rfl,?_⟩;refine((yt al).calls (jH _ 6 (by decide))).mono ?_;rintro e u1 ⟨rfl,aG⟩;have dg:=aG.size;have cK:=(aG.cell (a:=⟨d.heap.size,0,none⟩) (by show d.heap.size<A.heap.size;omega) id).trans cj;have cP:d.heap.size<u1.heap.size:=by omega
  change Hid _ at aG;gi_wp2_with ((show wpListIn _ _ _ _ _ ({dst:=none,op:=.store _ (.tmp 9) (.tmp 18),type:=_,pos:=_,after:=_,guard:=_}::_) _ _;refine(yt al).store_new rfl 154 (.tmp 9) (.tmp 18) rfl _ _ (zm (Pg.new 6)) (by simp) rfl rfl (by rw [a1.1];exact cC) (by rw [aq,cx.1,a1.1]) a1.2 ?_));refine⟨eI,rfl,?_⟩;have b8:Hid (qR (u1.alloc (.cells (zm (Pg.new 6)).toArray 154)) u1.heap.size (Pg.new 6)):=⟨⟨ac u1 _⟩,Pg.new_ok 6 (by omega)⟩;have ch:Hid (za (λ_=>False) A (u1.alloc (.cells (zm (Pg.new 6)).toArray 154))):=aG.trans (za.alloc _ _ _) iL;have df:(u1.alloc (.cells (zm (Pg.new 6)).toArray 154)).heap.size=u1.heap.size+1:=by simp
  generalize (u1.alloc (.cells (zm (Pg.new 6)).toArray 154))=di at*;clear cK cP;refine((yt al).calls (fH di _ _ b8 f aH)).mono ?_;rintro e u2 ⟨rfl,am,V⟩;have cO:=V.size;change Hid _ at am V;gi_wp2_with fail;refine⟨eI,rfl,?_⟩;have ax:zk ((Pg.new 6).setLink f).kind=1:=rfl;have aC:((Pg.new 6).setLink f).items.length=0:=rfl;refine((yt al).calls (vg u2 u1.heap.size ((Pg.new 6).setLink f) am p.length (by rw [ax,aC];omega) (by rw [aC];omega) (by rw [ax];omega))).mono ?_;rintro e u3 ⟨rfl,av,K⟩;have bY:Hid (vf u1.heap.size ((Pg.new 6).setLink f).kind ((Pg.new 6).setLink f).items.length p.length=.slice (some ⟨u1.heap.size,4,none⟩) p.length 124):=by show vf _ _ _ _=_;simp [vf,ax,aC]
  rw [bY.out];have bW:Hid (za (λi=>i=u1.heap.size) u2 u3):=K;have cS:=K.size;change Hid _ at av;clear K ax aC;have ak:Hid (za (λi=>i=u1.heap.size) A u3):=((ch.mono fE).trans V iL).trans bW iL
  have b7:Hid (zL u3 P (some ⟨g,cm,none⟩) p):=by
   show zL u3 P _ _;rcases b0.out with s|⟨b,bP,aV,ad,I,Y⟩;.rw [s] at bE;simp at bE
   .refine .inr ⟨b,bP,aV,ad,ay I ak.size,λj o=>(ak.cell (a:=⟨b,bP+j,none⟩) I (λu=>?_)).trans (Y j o)⟩;have dd:b=u1.heap.size:=u;omega
  have az:=av.ok.len;obtain⟨u4,cD,bf,be⟩:=U1 u3 u1.heap.size 154 _ av.bs 4 124 p (by rw [az];omega) P g cm p.length b7.out;have G:Hid _:=ak.trans be iL
  have br:qG (((Pg.new 6).setLink f).grown p.length).bytes 4 p=(qp f p).bytes:=by have s:=(am.ok).more_bytes (p.map λb=>[b]) (λv cU=>by obtain⟨b,_,rfl⟩:=au.1 cU;rfl) (by show (0+_)*1<=124;rw [ez];omega);rw [gK,ez] at s;exact s
  rw [br] at bf;have cf:Hid (qR u4 u1.heap.size (qp f p)):=⟨bf,vG aH a6⟩;have cG:=be.size;have aR:=(G.cell (a:=⟨w.heap.size,0,none⟩) (by show w.heap.size<A.heap.size;omega) (by show ¬w.heap.size=u1.heap.size;omega)).trans b4;clear bf be az br cj b4;gi_wp2_with fail;refine⟨eI,rfl,?_⟩;have b3:Hid _:=a0.kept G (λj o u=>by have s:=af.out j o;omega) (λj o u=>by have s:=a0.chg.lt j o;have h2:=u;omega);obtain⟨x,aZ,bV,aJ⟩:∃x aZ bV,aU.take D.bs.length a7=(x,aZ,bV):=⟨_,_,_,rfl⟩;have cF:aZ.ws.length<900:=by have:=uQ aU D.bs.length a7;rw [aJ] at this;simp only at this;omega
  refine((yt al).calls (dW u4 y bd S U {D with reads:=D.reads+n} aU b3 a7 cy (by show 0<=D.reads+n;omega) (by show D.reads+n<=_;omega) (by omega))).mono ?_;rintro e u5 ⟨rfl,⟨cH,ce,cN,cI,aN,aE⟩,E⟩;rw [aJ] at aN ⊢;dsimp only at aN ⊢;change Hid _ at aJ;have cW:=E.size
  have W:∀j,w.heap.size<=j->j<N.heap.size+2->¬(j=bd\/U j):=λj s h2 u=>by
   rcases u with h|h;.omega
   .rcases J j h with h|h;.have:=X.out j h;omega
    .omega
  have a3:Hid (u5.heap[d.heap.size]? =some (.cells #[.int .i64 (f:Int)] 3 (0,0))):=(E.block _ (by omega) (W _ (by omega) (by omega))).trans ((G.block _ (by omega) (by show ¬d.heap.size=u1.heap.size;omega)).trans ca);have ah:Hid (u5.heap[w.heap.size]? =some (.cells #[.pointer (some ⟨y,0,none⟩)] 142 (0,0))):=(E.block _ (by omega) (W _ (by omega) (by omega))).trans ((G.block _ (by omega) (by show ¬w.heap.size=u1.heap.size;omega)).trans ab.box)
  have bJ:¬(u1.heap.size=bd\/U u1.heap.size):=λu=>by
   rcases u with h|h;.omega
   .have:=a0.chg.lt _ h;omega
  have cs:Hid _:=cf.kept E bJ;have dl:u5.cell? ⟨d.heap.size,0,none⟩=some (.int .i64 (f:Int)):=cR a3.out rfl;have dp:u5.frozen? ⟨d.heap.size,0,none⟩=false:=aa u5 d.heap.size 0 _ _ a3.out;change Hid _ at aN aE E W;clear bJ aR;have bt:Hid ((u5.setCell ⟨d.heap.size,0,none⟩ (.int .i64 (x:Int))).heap[d.heap.size]? =some (.cells #[.int .i64 (x:Int)] 3 (0,0))):=heap_setCell_same u5 d.heap.size 0 _ _ (.int .i64 (x:Int)) a3.out;have aA:Hid _:=za.setCell (S:=λj=>j=d.heap.size) u5 ⟨d.heap.size,0,none⟩ (.int .i64 (x:Int)) rfl;have co:(uL (.pointer (some ⟨u1.heap.size,0,none⟩))).run Tryz.prog (u5.setCell ⟨d.heap.size,0,none⟩ (.int .i64 (x:Int)))=.ok (.agg (zm (qp f p)).toArray) (u5.setCell ⟨d.heap.size,0,none⟩ (.int .i64 (x:Int))):=xN _ _ _ _ (zR (cs.kept aA (by show ¬u1.heap.size=d.heap.size;omega)).bs.at_) (yf (vG aH a6)).1;have cX:(u5.setCell ⟨d.heap.size,0,none⟩ (.int .i64 (x:Int))).cell? ⟨w.heap.size,0,none⟩=some (.pointer (some ⟨y,0,none⟩)):=cR (((aA.block _ (by omega) (by show ¬w.heap.size=d.heap.size;omega)).trans ah.out)) rfl;have cZ:(u5.setCell ⟨d.heap.size,0,none⟩ (.int .i64 (x:Int))).cell? ⟨d.heap.size,0,none⟩=some (.int .i64 (x:Int)):=cR bt.out rfl;gi_wp2_with fail;refine⟨eI,rfl,?_⟩;have c8:(u5.setCell ⟨d.heap.size,0,none⟩ (.int .i64 (x:Int))).heap.size=u5.heap.size:=by simp
  generalize (u5.setCell ⟨d.heap.size,0,none⟩ (.int .i64 (x:Int)))=u6 at*
  have a4:Hid (∀j,w.heap.size<=j->j<N.heap.size+2->¬ce j):=λj s h2 u=>by
   rcases aE j u with h|h;.exact W j s h2 (.inr h)
   .omega
  have b9:Hid _:=aN.kept aA (λj o u=>by have s:=af.out j o;omega) (λj o u=>by have h2:=u;exact a4 j (by omega) (by omega) o);refine((yt al).calls (jz u6 y bd S ce _ aZ b9 x _ (yf (vG aH a6)) (by omega))).mono ?_;rintro e u7 ⟨rfl,⟨bQ,bo,bv⟩,aW⟩;change Hid _ at bo bv aW;clear co cX cZ;gi_wp2
  have bg:za (λk=>k=bd\/U k\/k=d.heap.size) A u7:=by
   have aX:za (λk=>k=bd\/U k\/k=d.heap.size) A u4:=za.trans (S':=λi=>i=u1.heap.size) (za.refl _ A) G (λj o=>.inr (by omega));have aR:=aX.trans E (λj o=>.inl (by rcases o with h|h;exact .inl h;exact .inr (.inl h)));have c2:=aR.trans aA (λj o=>.inl (.inr (.inr o)))
   exact c2.trans aW (λj o=>by
    rcases aE j o with h|h;.exact .inl (.inr (.inl h))
    .exact .inr (by omega))
  have bU:∀j,w.heap.size<=j->j<N.heap.size+2->j≠d.heap.size->¬(j=bd\/U j\/j=d.heap.size):=λj s h2 bM u=>by
   rcases u with h|h|h;.exact W j s h2 (.inl h)
   .exact W j s h2 (.inr h)
   .exact bM h
  have bj:∀j,bQ j->U j\/A.heap.size<=j:=λj o=>by
   rcases bv j o with h|h
   .rcases aE j h with h|h;.exact .inl h
    .exact .inr (by omega)
   .exact .inr (by omega)
  have I:=gV (l:=p) b1 aJ.out;refine⟨bg.mono (λk q=>?_),λk=>bQ k/\N.heap.size+2<=k,⟨⟨x,aZ.put x (zm (qp f p)),bV,n+cH,bQ,?_,by omega,?_,?_,λj o=>?_,?_,λk=>Iff.rfl⟩,?_,(bg.block _ (lT ab.box) (bU _ (by omega) (by omega) (by omega))).trans ab.box,⟨(bg.block _ (lT ab.back.1) (bU _ (by omega) (by omega) (by omega))).trans ab.back.1,bg.owns ab.back.2 (λj o=>bU j (by have:=F.out j o;omega) (by have:=F.out j o;omega) (by have:=F.out j o;omega))⟩,ab.kept.trans bg (λj o=>?_),ab.r⟩,λk q=>?_⟩
  .rcases q with h|h|h;.exact .inl (by omega)
   .rcases J k h with h2|h2;.exact .inl (by have:=X.out k h2;omega)
    .exact .inr ((bZ k).2 ⟨h,h2⟩)
   .exact .inl (by omega)
  .rw [aM.out];exact I
  .have:=cc.out;rw [ag,iq];omega
  .have:=bo.out;rw [a9] at this;exact this
  .rcases bj j o with h|h;.exact J j h
   .exact .inr (by omega)
  .exact(aW.block _ (by omega) (a4 _ (by omega) (by omega))).trans bt.out
  .rw [ag,iq];omega
  .rcases o with h|h|h;.exact .inl (.inl h)
   .rcases J j h with h2|h2;.exact .inl (.inr (.inl h2))
    .exact .inl (.inr (.inr (.inr (by omega))))
   .exact .inl (.inr (.inr (.inl h)))
  .rcases bj k q.1 with h|h;.exact .inl ((bZ k).2 ⟨h,q.2⟩)
   .exact .inr h
 case done=>
  rintro cV r bN Q A bX t rfl bb;obtain⟨f,aU,a7,n,U,k1,k2,k3,ao,aQ,aw,aO⟩:=t.st;have H:bN.length=(zW l).length:=by rw [bX.2,vH]
  rw [H,Nat.sub_self,mo,aB.out] at k1;simp only [eS] at k1;obtain⟨rfl,rfl,rfl⟩:=k1;have bs:n<=3:=by omega
  have J:Hid _:=aQ;have b5:Hid _:=t.kept;have cM:Hid _:=bb;have dj:A.cell? ⟨d.heap.size,0,none⟩=some (.int .i64 (bT:Int)):=cR aw rfl;change Hid _ at ao;clear t bX bb k3 aQ aw aO H;dsimp only;go_wp2;have ct:za (λk=>k=d.heap.size+1+1) A (A.putObj (d.heap.size+1+1) (.deferred none)):=za.putObj _ _ _ rfl
  refine jo rfl (by rw [<-bq];exact cM) (results_tmp rfl _ _ _) ⟨rfl,⟨n,k2,bs,U,ao.kept ct (λj o aV=>by have:=af.out j o;omega) (λj o aV=>by
   rcases J j o with h|h;.have:=X.out j h;omega
   .omega),λj o=>(J j o).imp id (λh=>by omega)⟩,?_⟩
  exact((an.mono (S':=λj=>j=bd\/T j) fE).trans b5 (λj o=>by
   rcases o with h|h|h|h;.exact .inl (.inl h)
   .exact .inl (.inr h)
   .exact .inr (by omega)
   .exact .inr (by omega))).trans ct (λj o=>.inr (by omega))
 case stop=>
  rintro cV c r pre A bX t rfl bb;exact t.elim
end
end prog
namespace prog
open keys (zh ze zy zs)
variable {w:World}{ws:List (Nat×List Value)}{D:Dk}{b:List Value}
section
attribute [local go_sem ↓] jx
theorem v5(w:World)(v bd:Nat)(S T:Nat->Prop)(D:Dk)(C:Ck)(h:Cw w v bd S T D C)(b n:Nat)(I:b<65536)(al:n<9223372036854775808)(L:C.ws.length<1000):
 Calls Tryz.prog 77 #[.agg #[.int .i64 (b:Int),.int .i64 (n:Int)],.pointer (some ⟨v,0,none⟩)] w λr w'=>r=.returned (.tuple #[])/\(∃W,Cw w' v bd S W D (C.put 1 (zm (zw b n)))/\∀j,W j->T j\/w.heap.size<=j)/\za T w w':=by
 obtain⟨x,G,ax⟩:∃x:List Value,x=zX/\∀w,(zeroValue 154).run Tryz.prog w=.ok (.agg x.toArray) w:=⟨zX,rfl,zY Tryz.infoPage⟩;have ab:Hid (zT x):=by rw [G];exact zH
 clear G;have ao:Hid _:=zZ Tryz.infoPage;have an:Hid _:=h;have q:Hid _:=yf (Pg.new_ok 2 (by omega));have R:Hid (za (λ_=>False) w (w.alloc (.cells #[.int .i64 (b:Int),.int .i64 (n:Int)] 145))):=za.alloc _ _ _;have X:Hid _:=h.chg.lt;have Y:Hid _:=h.disk.lt;clear h;go_enter Tryz.func77,Tryz.ntmps77
 go_wp2_with (first
  |(go_at_call 131;refine(jH _ 2 (by omega)).mono ?_;rintro r c ⟨rfl,o⟩;have e:c.heap[w.heap.size]? =_:=(o.block w.heap.size (by simp) (λJ=>J)).trans (ac w _);have ar:c.cell? ⟨w.heap.size,0,none⟩=some (.int .i64 (b:Int)):=(cR e rfl);have V:=(lT e);change Hid _ at o e)
  |(show wpList _ _ _ ({dst:=none,op:=.store _ (.tmp 4) (.tmp 5),type:=_,pos:=_,after:=_,guard:=_}::_) _ _;refine zi rfl 154 (.tmp 4) (.tmp 5) rfl _ _ (zm (Pg.new 2)) (by simp) rfl rfl (by rw [q.1];exact ao) (by rw [aq,ab.1,q.1]) q.2 ?_))
 have U:Hid (qR (c.alloc (.cells (zm (Pg.new 2)).toArray 154)) c.heap.size (Pg.new 2)):=⟨⟨ac c _⟩,Pg.new_ok 2 (by omega)⟩;have O:Hid (za (λ_=>False) w (c.alloc (.cells (zm (Pg.new 2)).toArray 154))):=(R.trans o iL).trans (za.alloc _ _ _) iL;have K:Hid ((c.alloc (.cells (zm (Pg.new 2)).toArray 154)).heap[w.heap.size]? =some (.cells #[.int .i64 (b:Int),.int .i64 (n:Int)] 145 (0,0))):=((za.alloc (λ_=>False) c _).block w.heap.size V (λJ=>J)).trans e.out;have au:(c.alloc (.cells (zm (Pg.new 2)).toArray 154)).heap.size=c.heap.size+1:=by simp
 generalize (c.alloc (.cells (zm (Pg.new 2)).toArray 154))=aw at*;refine(fH aw _ _ U b I).mono ?_;rintro r u ⟨rfl,m,k⟩;have am:=k.size;have ae:Hid (u.heap[w.heap.size]? =_):=(k.block _ (by omega) (by omega)).trans K.out;change Hid _ at m k;have ai:u.cell? ⟨w.heap.size,1,none⟩=some (.int .i64 (n:Int)):=cR ae.out rfl;have z:w.heap.size<u.heap.size:=by omega
 have y:¬w.heap.size=c.heap.size:=by omega
 have N:((Pg.new 2).setLink b).kind=2:=rfl;have P:((Pg.new 2).setLink b).items.length=0:=rfl;go_wp2_with fail;have af:Hid _:=m.kept (za.drew (λ_=>False) u) id;have M:Hid (vf c.heap.size ((Pg.new 2).setLink b).kind ((Pg.new 2).setLink b).items.length 1=.slice (some ⟨c.heap.size,4,none⟩) 8 124):=rfl;have F:Hid ((Pg.new 2).setLink b).Ok:=m.ok;have Q:Hid (qG (((Pg.new 2).setLink b).grown 1).bytes 4 (bytesOf 8 n)=(zw b n).bytes):=F.push_over (bytesOf 8 n) (by rw [zP];rfl) (by show (0+1)*8<=124;omega);have ah:Hid ((((Pg.new 2).setLink b).grown 1).bytes.length=128):=(F.grown 1 (by show (0+1)*8<=124;omega) (by show 0+1<=124;omega)).len;clear N P
 go_region_held3 (λw'=>w'.cell? ⟨w.heap.size,1,none⟩=some (.int .i64 (n:Int))) (go_keep) (first
  |(go_at_call 133;refine(vg _ _ _ af 1 (by show (0+1)*8<=124;omega) (by show 0+1<=124;omega) (by show 1<=1*8;omega)).mono ?_;rintro r aA ⟨rfl,B,g⟩;rw [M.out];have ag:=(g.cell (a:=⟨w.heap.size,1,none⟩) z y).trans ai;change Hid _ at B g)
  |(go_at_call 138;refine(qQ _ _ _ _ B.bs 4 8 124 (by rw [ah.out];omega) (by omega) n al).mono ?_;rintro r l ⟨rfl,t,s⟩;rw [Q.out] at t;have Z:Hid (qR l c.heap.size (zw b n)):=⟨t,gW I⟩;have az:=(s.cell (a:=⟨w.heap.size,1,none⟩) (ay z g.size) y).trans ag;change Hid _ at s;clear t))
 have p:Hid (zT (zm (zw b n))):=yf (gW I);have ap:(uL (.pointer (some ⟨c.heap.size,0,none⟩))).run Tryz.prog l=.ok (.agg (zm (zw b n)).toArray) l:=xN _ _ _ _ (zR Z.bs.at_) p.1;have f:Hid (za (λi=>w.heap.size<=i) w l):=((((O.mono fE).trans k (λj d=>.inl (by omega))).trans (za.drew (λ_=>False) u) fE).trans g (λj d=>.inl (by omega))).trans s (λj d=>.inl (by omega));have ad:Hid _:=an.kept f (λj d aa=>by have:=Y.out j d;omega) (λj d aa=>by have:=X.out j d;omega);go_wp2_with (go_at_call 135;refine(jz _ v bd S T D C ad 1 _ p L).mono ?_;rintro r aB ⟨rfl,⟨aj,H,E⟩,A⟩;change Hid _ at H E A);go_end0;have av:=f.size;refine⟨rfl,⟨aj,H,λj d=>(E j d).imp id (λh=>by omega)⟩,?_⟩;have ak:za T w l:=za.trans (S:=T) (S':=λi=>w.heap.size<=i) (za.refl _ w) f (λj d=>.inr d);exact ak.trans A iL
end
structure uY (w:World) (T:Nat->Prop) (a:Option Addr) (ws:List (Nat×List Value)):Prop where
 ok:∀p∈ws,zT p.2/\p.1<65536
 at_:ws=[]\/∃g,a=some ⟨g,0,none⟩/\T g/\g<w.heap.size/\∀k (hk:k<ws.length),w.rangeAt g (k*129) (.int .i64 (ws[k].1:Int)::ws[k].2)
 few:ws.length<=1000
theorem uY.kept{w':World}{T X:Nat->Prop}{a:Option Addr}(h:uY w T a ws)(k:za X w w')(l:∀i,T i->¬X i):uY w' T a ws:=
 ⟨h.ok,h.at_.imp id (λ⟨g,f,h2,b,e⟩=>⟨g,f,h2,ay b k.size,λj c t v d=>(k.cell (a:=⟨g,j*129+t,none⟩) b (l g h2)).trans (e j c t v d)⟩),h.few⟩
theorem qD.rows{i bd:Nat}{T:Nat->Prop}{C:Ck}{a:Option Addr}{f:Nat}(h:qD w i bd T C a f)(b:∀p∈C.ws,p.1<65536):uY w T a C.ws:=by
 refine⟨λp d=>⟨h.ok p d,b p d⟩,?_,h.few⟩;rcases mq C.ws.length with c|c;.exact .inl (aY c)
 .obtain⟨g,rfl⟩:=h.rowAt c;have e:T g:=(h.own g).2 (.inr rfl);exact .inr ⟨g,rfl,e,h.lt g e,λk b=>h.range k b⟩
theorem bq{k:Nat}(a:k<ws.length):qm D (ws.drop k)=if D.writes ws[k].1=true then qm (D.write ws[k].1 ws[k].2) (ws.drop (k+1)) else (false,D):=by
 rw [aI a,qm]
theorem uZ:D.flush.ps.length<=D.ps.length:=by
 unfold Dk.flush;split;.exact aF _
 .simp
theorem bt{a:Int}(b:List Value)(h:D.writes a=false):D.write a b=D:=by
 unfold Dk.writes at h;unfold Dk.write;rw [aw (iF h)]
theorem bu(w:World)(bd:Nat)(S T:Nat->Prop)(D:Dk)(h:zg w bd S D)(a:Option Addr)(ag:Nat)(ws:List (Nat×List Value))(Z:uY w T a ws)(P:∀k,S k->¬T k)(au:∀k,T k->k<w.heap.size)
 (al:zD D.fuse) (aD:D.ps.length<=34359738368):
 Calls Tryz.prog 85 #[.pointer (some ⟨bd,0,none⟩),.slice a ws.length ag] w λe w'=>e=.returned (.bool (qN D ws).1)/\q9 w w' bd S (qN D ws).2:=by
 obtain⟨M,U,aC⟩:∃M:List Value,M=yu/\∀w,(zeroValue 160).run Tryz.prog w=.ok (.agg M.toArray) w:=⟨yu,rfl,zY Tryz.infoCw⟩;have R:Hid (M.length=129):=by rw [U];exact congrArg (· +1) zH.1
 clear U;have y:Hid _:=zZ Tryz.infoCw;have ak:Hid ((Tryz.prog.info? 131).map (·.size)=some 128):=zZ Tryz.infoBlock;have av:Hid (zg w bd S D):=h;have ay:=Z.few;change Hid _ at Z;clear h;go_enter Tryz.func85,Tryz.ntmps85;go_wp2;go_loopw [9] (λt wr=>∃(k:Nat) (D1:Dk),k<=ws.length/\t=.int .i64 k/\qm D ws=qm D1 (ws.drop k)/\q9 w wr bd S D1/\zD D1.fuse/\D1.ps.length<=D.ps.length+k) (λt _=>ws.length-(intOf t).toNat)
 case atStart=>exact⟨0,D,aj _,rfl,rfl,q9.refl av.out,al,by omega⟩
 case round=>
  obtain⟨k,D1,L,rfl,C,K,l,ao⟩:=hrel;obtain⟨⟨S1,Q,v⟩,u⟩:=K;have B:Hid (zg wr bd S1 D1):=Q
  have ap:Hid (∀k,S1 k->¬T k):=λj Y W=>by
   rcases v j Y with af|af;.exact P j af W
   .have:=au j W;omega
  have O:Hid (uY wr T a ws):=Z.kept u (λj Y ax=>P j ax Y);change Hid _ at C v u;clear Q;by_cases x:k<ws.length
  .rcases O.at_ with aq|⟨g,rfl,aA,az,F⟩;.rw [aq] at x;simp at x
   .have ab:Hid (wr.rangeAt g (k*129) (.int .i64 (ws[k].1:Int)::ws[k].2)):=F k x;obtain⟨X,aa⟩:=O.ok _ (ai x);have c:Hid (zT ws[k].2):=X;have N:Hid _:=bq (D:=D1) x;generalize ar:ws[k]=q at*;obtain⟨m,i⟩:=q;clear ar X F;simp only at aa;have A:Hid (za (λ_=>False) wr (wr.alloc (.cells (.int .i64 (m:Int)::i).toArray 160))):=za.alloc _ _ _
    cases V:D1.writes m with
    |true=>
     have s:Hid _:=V
     go_wp2_with (first
      |(show wpList _ _ _ ({dst:=some 12,op:=.load _ _,type:=_,pos:=_,after:=_,guard:=_}::_) _ _;refine wpList_load_mid rfl 160 (.tmp 11) rfl _ _ rfl (.int .i64 (m:Int)::i) _ ab.out Tryz.underlying160 rfl (by rw [ae,c.1];exact y.out) ?_)
      |(show wpList _ _ _ ({dst:=none,op:=.store _ (.tmp 6) (.tmp 12),type:=_,pos:=_,after:=_,guard:=_}::_) _ _;refine zi rfl 160 (.tmp 6) (.tmp 12) rfl _ _ (.int .i64 (m:Int)::i) rfl rfl rfl (by rw [ae,c.1];exact y.out) (by rw [ae,c.1];simpa using R.out) (aQ.2 ⟨rfl,c.2⟩) ?_)
      |(show wpList _ _ _ ({dst:=some 17,op:=.load _ _,type:=_,pos:=_,after:=_,guard:=_}::_) _ _;refine wpList_load_mid rfl 131 (.tmp 16) rfl _ _ rfl i _ (qZ (ac wr _)) Tryz.underlying131 rfl (by rw [c.1];exact ak.out) ?_)
      |(go_at_call 146;refine(yX _ bd S1 D1 (B.kept A.out nF) (m:Int) (by constructor<;>omega) i c.out l (by omega)).mono ?_;rintro e E ⟨rfl,⟨r,b,d⟩,f⟩;rw [s.out];have n:Hid (zg E bd r (D1.write m i)):=b;have p:Hid _:=d;have o:Hid _:=f;clear b d f))
     go_roundw
     case rel=>
      refine⟨k+1,D1.write m i,by omega,by go_num,by rw [C.out,N.out,aB s.out],?_,jA _ _ l,by have:=uU (D:=D1) m i;omega⟩;exact q9.trans (D1:=D1) v.out u.out (q9.kept0 A.out ⟨⟨r,n.out,p.out⟩,o.out⟩)
     case measure=>simp [intOf];omega
    |false=>
     have s:Hid _:=V
     go_wp2_with (first
      |(show wpList _ _ _ ({dst:=some 12,op:=.load _ _,type:=_,pos:=_,after:=_,guard:=_}::_) _ _;refine wpList_load_mid rfl 160 (.tmp 11) rfl _ _ rfl (.int .i64 (m:Int)::i) _ ab.out Tryz.underlying160 rfl (by rw [ae,c.1];exact y.out) ?_)
      |(show wpList _ _ _ ({dst:=none,op:=.store _ (.tmp 6) (.tmp 12),type:=_,pos:=_,after:=_,guard:=_}::_) _ _;refine zi rfl 160 (.tmp 6) (.tmp 12) rfl _ _ (.int .i64 (m:Int)::i) rfl rfl rfl (by rw [ae,c.1];exact y.out) (by rw [ae,c.1];simpa using R.out) (aQ.2 ⟨rfl,c.2⟩) ?_)
      |(show wpList _ _ _ ({dst:=some 17,op:=.load _ _,type:=_,pos:=_,after:=_,guard:=_}::_) _ _;refine wpList_load_mid rfl 131 (.tmp 16) rfl _ _ rfl i _ (qZ (ac wr _)) Tryz.underlying131 rfl (by rw [c.1];exact ak.out) ?_)
      |(go_at_call 146;refine(yX _ bd S1 D1 (B.kept A.out nF) (m:Int) (by constructor<;>omega) i c.out l (by omega)).mono ?_;rintro e E ⟨rfl,⟨r,b,d⟩,f⟩;rw [s.out];have n:Hid (zg E bd r (D1.write m i)):=b;have p:Hid _:=d;have o:Hid _:=f;clear b d f))
     go_ret;have am:qm D ws=(false,D1):=by rw [C.out,N.out,aw (by rw [s.out];simp)]
     have H:qN D ws=(false,D1):=by unfold qN xJ;rw [am];simp
     rw [H];have b:=n.out;rw [bt i s.out] at b;exact⟨rfl,q9.trans (D1:=D1) v.out u.out (q9.kept0 A.out ⟨⟨r,b,p.out⟩,o.out⟩)⟩
  .have ah:Hid (qm D ws=(true,D1)):=by show _=_;rw [C.out,eo (by omega)];rfl
   cases ad:(D1.fuse==0) with
   |false=>
    have I:Hid _:=ad
    go_wp2_with (first
     |(go_at_call 40;refine(yY _ bd S1 D1 B.out l).mono ?_;rintro e E ⟨rfl,⟨r,b,d⟩,f⟩;rw [I.out];have n:Hid (zg E bd r D1.flush):=b;have p:Hid _:=d;have o:Hid _:=f;clear b d f)
     |(go_at_call 131;refine(jH _ 1 (by omega)).mono ?_;rintro e aF ⟨rfl,G⟩;change Hid _ at G)
     |(go_at_call 147;refine(fJ _ bd r D1.flush (n.kept G.out nF) (zm (Pg.new 1)) (yf (Pg.new_ok 1 (by omega))) (jB l) (by have:=uZ (D:=D1);omega)).mono ?_;rintro e aE ⟨rfl,J⟩;change Hid _ at J))
    go_ret
    have H:qN D ws=xv D1.flush jb:=by
     have z:D1.fuse≠0:=by have:=I.out;simpa using this
     unfold qN xJ;rw [ah.out,aB ⟨rfl,z⟩]
    rw [H];exact⟨by simp [jb],q9.trans (D1:=D1) v.out u.out (q9.trans (D1:=D1) (λk L=>.inl (p.out k L)) o.out (q9.kept0 G.out J.out))⟩
   |true=>
    have I:Hid _:=ad;go_wp2_with (go_at_call 40;refine(yY _ bd S1 D1 B.out l).mono ?_;rintro e E ⟨rfl,⟨r,b,d⟩,f⟩;rw [I.out];have n:Hid _:=b;have p:Hid _:=d;have o:Hid _:=f;clear b d f);go_ret;have z:D1.fuse=0:=by have:=I.out;simpa using this
    have H:qN D ws=(false,D1):=by unfold qN xJ;rw [ah.out,aw (by simp [z])]
    have an:D1.flush=D1:=aB z;rw [H];have b:=n.out;rw [an] at b;exact⟨rfl,q9.trans (D1:=D1) v.out u.out ⟨⟨r,b,λk L=>.inl (p.out k L)⟩,o.out⟩⟩
theorem fa(b:ws.length<=62):(zK ws).Ok where
 kind:=by simp [zK]
 link:=by simp [zK]
 wide:=λi a=>by obtain⟨p,_,rfl⟩:=au.1 a;rw [zP];rfl
 fits:=by simp [zK,zk];omega
 few:=by simp [zK];omega
theorem Ym(ws:List (Nat×List Value))(k:Nat)(a:k<ws.length):(zK (ws.take k)).push (bytesOf 2 ws[k].1)=zK (ws.take (k+1)):=by
 unfold zK Pg.push;rw [ao a,eh];rfl
theorem xQ(ws:List (Nat×List Value)):(qh ws).length=ws.length:=by simp [qh]
theorem vK(ws:List (Nat×List Value))(k:Nat)(a:k<ws.length):(qh ws)[k]'(by rw [xQ];exact a)=(3+k,ws[k].2):=by simp [qh]
theorem fc{e wr d:World}{bd b:Nat}{S S1:Nat->Prop}(g:∀k,S k->k<w.heap.size)(l:w.heap.size<=b)(i:e.heap.size=b+1)(k0:za (λ_=>False) w e)(k1:za (λj=>S j\/j=b) e wr)(f:∀j,S1 j->S j\/e.heap.size<=j)(h:q9 wr d bd S1 D):q9 w d bd S D:=by
 refine q9.trans (D1:=D) (S1:=S1) (λj c=>?_) ((k0.mono fE).trans k1 (λj c=>?_)) h
 .rcases f j c with a|a;.exact .inl a
  .right;omega
 .rcases c with a|a;.exact .inl a
  .right;omega
section
attribute [local go_sem ↓] jx
theorem Yn(w:World)(bd:Nat)(S T:Nat->Prop)(D:Dk)(h:zg w bd S D)(a:Option Addr)(aU:Nat)(ws:List (Nat×List Value))(aV:uY w T a ws)(aL:∀k,S k->¬T k)(bb:∀k,T k->k<w.heap.size)
 (a0:zD D.fuse) (bn:D.ps.length<=34359738368) (a4:ws.length<=18):
 Calls Tryz.prog 179 #[.pointer (some ⟨bd,0,none⟩),.slice a ws.length aU] w λe w'=>e=.returned (.bool (qO D ws).1)/\q9 w w' bd S (qO D ws).2:=by
 obtain⟨ag,au,bl⟩:∃ag:List Value,ag=yu/\∀w,(zeroValue 160).run Tryz.prog w=.ok (.agg ag.toArray) w:=⟨yu,rfl,zY Tryz.infoCw⟩;have aM:Hid (ag.length=129):=by rw [au];exact congrArg (· +1) zH.1
 clear au;obtain⟨ak,ax,bo⟩:∃ak:List Value,ak=zX/\∀w,(zeroValue 154).run Tryz.prog w=.ok (.agg ak.toArray) w:=⟨zX,rfl,zY Tryz.infoPage⟩;have aW:Hid (zT ak):=by rw [ax];exact zH
 clear ax;have al:Hid _:=zZ Tryz.infoCw;have aZ:Hid _:=zZ Tryz.infoBlock;have aX:Hid _:=zZ Tryz.infoPage;have aa:Hid _:=yf (Pg.new_ok 1 (by omega));have bg:Hid (zg w bd S D):=h;have N:Hid _:=h.lt;change Hid _ at aV;clear h;go_enter Tryz.func179,Tryz.ntmps179
 go_wp2_with (first
  |(go_at_call 131;refine(jH _ 1 (by omega)).mono ?_;rintro e I ⟨rfl,s⟩;have ap:Hid _:=s;clear s)
  |(show wpList _ _ _ ({dst:=none,op:=.store _ (.tmp 5) (.tmp 8),type:=_,pos:=_,after:=_,guard:=_}::_) _ _;refine zi rfl 154 (.tmp 5) (.tmp 8) rfl _ _ (zm (Pg.new 1)) (by simp) rfl rfl (by rw [aa.1];exact aX.out) (by rw [aq,aW.1,aa.1]) aa.2 ?_))
 have aO:Hid (qR (I.alloc (.cells (zm (Pg.new 1)).toArray 154)) I.heap.size (zK (ws.take 0))):=⟨⟨ac I _⟩,Pg.new_ok 1 (by omega)⟩;have G:Hid (za (λ_=>False) w (I.alloc (.cells (zm (Pg.new 1)).toArray 154))):=ap.trans (za.alloc _ _ _) iL;have U:(I.alloc (.cells (zm (Pg.new 1)).toArray 154)).heap.size=I.heap.size+1:=by simp
 have V:=ap.size;generalize (I.alloc (.cells (zm (Pg.new 1)).toArray 154))=bh at*;generalize I.heap.size=f at*;go_loopw [11] (λt wr=>∃(k:Nat) (D1:Dk) (S1:Nat->Prop),k<=ws.length/\t=.int .i64 k/\qm D (qh ws)=qm D1 ((qh ws).drop k)/\zg wr bd S1 D1/\(∀j,S1 j->S j\/bh.heap.size<=j)/\za (λj=>S j\/j=f) bh wr/\qR wr f (zK (ws.take k))/\zD D1.fuse/\D1.ps.length<=D.ps.length+k) (λt _=>ws.length-(intOf t).toNat)
 case atStart=>exact⟨0,D,S,aj _,rfl,rfl,bg.kept G.out nF,λ_ h=>.inl h,za.refl _ _,aO.out,a0,by omega⟩
 case round=>
  obtain⟨k,D1,S1,aS,rfl,O,ar,B,s,M,o,a7⟩:=hrel;have ad:Hid (zg wr bd S1 D1):=ar;have y:(zK (ws.take k)).items.length=k:=by simp [zK];omega
  have P:Hid (¬S1 f):=λa2=>by
   rcases B f a2 with p|p;.have:=N.out f p;omega
   .omega
  have ao:Hid _:=(aV.kept G.out nF).kept s (λj u ah=>by
   rcases ah with ah|ah;.exact aL j ah u
   .have:=bb j u;omega)
  change Hid _ at O B s M;clear ar;by_cases z:k<ws.length
  .rcases ao.at_ with a9|⟨g,rfl,bk,bj,R⟩;.rw [a9] at z;simp at z
   .have a3:Hid _:=R k z;obtain⟨n,aJ⟩:=ao.ok _ (ai z)
    have am:Hid (qm D1 ((qh ws).drop k)=if D1.writes (3+(k:Int))=true then qm (D1.write (3+(k:Int)) ws[k].2) ((qh ws).drop (k+1)) else (false,D1)):=by
     have:=bq (D:=D1) (ws:=qh ws) (k:=k) (by rw [xQ];exact z);rw [vK ws k z] at this;have bf:((3+k:Nat):Int)=3+(k:Int):=by omega
     simp only [bf] at this;exact this
    have aT:Hid _:=Ym ws k z;generalize ba:ws[k]=q at*;obtain⟨v,l⟩:=q;change Hid _ at n;clear ba R;simp only at aJ;have W:Hid (za (λ_=>False) wr (wr.alloc (.cells (.int .i64 (v:Int)::l).toArray 160))):=za.alloc _ _ _
    go_wp2_with (first
     |(show wpList _ _ _ ({dst:=some 15,op:=.load _ _,type:=_,pos:=_,after:=_,guard:=_}::_) _ _;refine wpList_load_mid rfl 160 (.tmp 14) rfl _ _ rfl (.int .i64 (v:Int)::l) _ a3.out Tryz.underlying160 rfl (by rw [ae,n.1];exact al.out) ?_)
     |(show wpList _ _ _ ({dst:=none,op:=.store _ (.tmp 7) (.tmp 15),type:=_,pos:=_,after:=_,guard:=_}::_) _ _;refine zi rfl 160 (.tmp 7) (.tmp 15) rfl _ _ (.int .i64 (v:Int)::l) rfl rfl rfl (by rw [ae,n.1];exact al.out) (by rw [ae,n.1];simpa using aM.out) (aQ.2 ⟨rfl,n.2⟩) ?_))
    have aC:(wr.alloc (.cells (.int .i64 (v:Int)::l).toArray 160)).cell? ⟨wr.heap.size,0,none⟩=some (.int .i64 (v:Int)):=by simp
    have aE:Hid _:=M.kept W.out (λaG=>aG);have aN:Hid ((wr.alloc (.cells (.int .i64 (v:Int)::l).toArray 160)).heap[wr.heap.size]? =some (.cells (.int .i64 (v:Int)::l).toArray 160 (0,0))):=ac wr _;have bm:=M.bs.lt;have be:(wr.alloc (.cells (.int .i64 (v:Int)::l).toArray 160)).heap.size=wr.heap.size+1:=by simp
    have aI:Hid (vf f (zK (ws.take k)).kind (zK (ws.take k)).items.length 1=.slice (some ⟨f,4+k*2,none⟩) 2 (124-k*2)):=by show vf f (zK (ws.take k)).kind (zK (ws.take k)).items.length 1=_;rw [y];rfl
    have aK:(zK (ws.take k)).items.length*zk (zK (ws.take k)).kind=k*2:=by rw [y];rfl
    generalize (wr.alloc (.cells (.int .i64 (v:Int)::l).toArray 160))=H at*
    go_region_held3 (λw'=>w'.cell? ⟨wr.heap.size,0,none⟩=some (.int .i64 (v:Int))) (go_keep) ((first
     |(go_at_call 133;refine(vg _ f _ (by exact aE.kept (za.drew (λ_=>False) H) (λaG=>aG)) 1 (by rw [y];show (k+1)*2<=124;omega) (by rw [y];omega) (by show 1<=1*2;omega)).mono ?_;rintro e a8 ⟨rfl,Q,L⟩;rw [aI.out];have aF:=(L.cell (a:=⟨wr.heap.size,0,none⟩) (by show wr.heap.size<H.drew.heap.size;have:H.drew.heap.size=H.heap.size:=rfl;omega) (by show ¬wr.heap.size=f;omega)).trans aC;change Hid _ at Q L)
     |(go_at_call 138;refine(qQ _ f _ _ Q.bs (4+k*2) 2 (124-k*2) (by rw [Q.ok.len];omega) (by omega) v (by omega)).mono ?_;rintro e af ⟨rfl,av,ab⟩;have a6:=(ab.cell (a:=⟨wr.heap.size,0,none⟩) (by show wr.heap.size<a8.heap.size;have p:=L.size;have:H.drew.heap.size=H.heap.size:=rfl;omega) (by show ¬wr.heap.size=f;omega)).trans aF;change Hid _ at av ab)))
    have E:za (λi=>i=f) H af:=((za.drew _ H).trans L.out iL).trans ab.out iL
    have aP:Hid (qR af f (zK (ws.take (k+1)))):=by have p:=av.out;have aD:=aE.ok.push_over (bytesOf 2 v) (by rw [zP];rfl) (by rw [y];show (k+1)*2<=124;omega);rw [aK] at aD;rw [aD,aT.out] at p;exact⟨p,fa (by simp;omega)⟩
    have az:Hid _:=(E.block wr.heap.size (by omega) (by show ¬wr.heap.size=f;omega)).trans aN.out;have ay:Hid (zg af bd S1 D1):=(ad.kept W.out nF).kept E (λj u e=>P.out (by rw [<-e];exact u));have F:=(s.trans W.out fE).trans E (λj u=>.inl (.inr u));change Hid _ at F;clear aC E
    cases K:D1.writes (3+(k:Int)) with
    |true=>
     have C:Hid _:=K;clear K
     go_wp2_with (first
      |(show wpList _ _ _ ({dst:=some 24,op:=.load _ _,type:=_,pos:=_,after:=_,guard:=_}::_) _ _;refine wpList_load_mid rfl 131 (.tmp 23) rfl _ _ rfl l _ (qZ az.out) Tryz.underlying131 rfl (by rw [n.1];exact aZ.out) ?_)
      |(go_at_call 146;refine(yX _ bd S1 D1 ay.out (3+(k:Int)) (by constructor<;>omega) l n.out o (by omega)).mono ?_;rintro e bc ⟨rfl,⟨J,b,d⟩,c⟩;rw [C.out];have x:Hid _:=b;have A:Hid _:=d;have r:Hid _:=c;clear b d c))
     go_roundw
     case rel=>
      refine⟨k+1,D1.write (3+(k:Int)) l,J,by omega,by go_num,by rw [O.out,am.out,aB C.out],x.out,λj u=>?_,F.trans r.out (λj u=>?_),aP.kept r.out P.out,jA _ _ o,by have:=uU (D:=D1) (3+(k:Int)) l;omega⟩
      .rcases A.out j u with p|p;.exact B.out j p
       .right;have:=F.size;omega
      .rcases B.out j u with p|p;.exact .inl (.inl p)
       .exact .inr p
     case measure=>simp [intOf];omega
    |false=>
     have C:Hid _:=K;clear K
     go_wp2_with (first
      |(show wpList _ _ _ ({dst:=some 24,op:=.load _ _,type:=_,pos:=_,after:=_,guard:=_}::_) _ _;refine wpList_load_mid rfl 131 (.tmp 23) rfl _ _ rfl l _ (qZ az.out) Tryz.underlying131 rfl (by rw [n.1];exact aZ.out) ?_)
      |(go_at_call 146;refine(yX _ bd S1 D1 ay.out (3+(k:Int)) (by constructor<;>omega) l n.out o (by omega)).mono ?_;rintro e bc ⟨rfl,⟨J,b,d⟩,c⟩;rw [C.out];have x:Hid _:=b;have A:Hid _:=d;have r:Hid _:=c;clear b d c))
     go_ret;have a1:qm D (qh ws)=(false,D1):=by rw [O.out,am.out,aw (by rw [C.out];simp)]
     have X:qO D ws=(false,D1):=by unfold qO xJ;rw [a1];simp
     rw [X];have b:=x.out;rw [bt l C.out] at b;exact⟨rfl,fc N.out V U G.out F.out B.out ⟨⟨J,b,A.out⟩,r.out⟩⟩
  .have aY:Hid (qm D (qh ws)=(true,D1)):=by show _=_;rw [O.out,eo (by rw [xQ];omega)];rfl
   have aR:Hid (qR wr f (zK ws)):=by have:=M.out;rw [an (by omega)] at this;exact this
   have aA:Hid (zT (zm (zK ws))):=yf (fa (by omega))
   cases m:(D1.fuse==0) with
   |false=>
    have Y:Hid _:=m;clear m
    go_wp2_with (first
     |(go_at_call 40;refine(yY _ bd S1 D1 ad.out o).mono ?_;rintro e aH ⟨rfl,⟨J,b,d⟩,c⟩;rw [Y.out];have x:Hid _:=b;have A:Hid _:=d;have r:Hid _:=c;have bi:(uL (.pointer (some ⟨f,0,none⟩))).run Tryz.prog aH=.ok (.agg (zm (zK ws)).toArray) aH:=xN _ _ _ _ (zR (aR.kept c P.out).bs.at_) aA.1;clear b d c)
     |(go_at_call 147;refine(fJ _ bd J D1.flush x.out (zm (zK ws)) aA.out (jB o) (by have:=uZ (D:=D1);omega)).mono ?_;rintro e af ⟨rfl,Z⟩;change Hid _ at Z))
    go_ret
    have X:qO D ws=xv D1.flush (zm (zK ws)):=by
     have m:D1.fuse≠0:=by have:=Y.out;simpa using this
     unfold qO xJ;rw [aY.out,aB ⟨rfl,m⟩]
    rw [X];exact⟨by simp,fc N.out V U G.out s.out B.out (q9.trans (D1:=D1) (λk aS=>.inl (A.out k aS)) r.out Z.out)⟩
   |true=>
    have Y:Hid _:=m;clear m;go_wp2_with (go_at_call 40;refine(yY _ bd S1 D1 ad.out o).mono ?_;rintro e aH ⟨rfl,⟨J,b,d⟩,c⟩;rw [Y.out];have x:Hid _:=b;have A:Hid _:=d;have r:Hid _:=c;clear b d c);go_ret;have m:D1.fuse=0:=by have:=Y.out;simpa using this
    have X:qO D ws=(false,D1):=by unfold qO xJ;rw [aY.out,aw (by simp [m])]
    have a5:D1.flush=D1:=aB m;rw [X];have b:=x.out;rw [a5] at b;exact⟨rfl,fc N.out V U G.out s.out B.out ⟨⟨J,b,λj u=>.inl (A.out j u)⟩,r.out⟩⟩
end
theorem bv:∀(ws:List (Nat×List Value)) (D:Dk),zD D.fuse->zD (qm D ws).2.fuse
 |[],D,h=>h
 |p::ws,D,h=>by
  unfold qm;split;.exact bv ws _ (jA _ _ h)
  .exact h
theorem Yo:∀(ws:List (Nat×List Value)) (D:Dk),(qm D ws).2.ps.length<=D.ps.length+ws.length
 |[],D=>aF _
 |p::ws,D=>by
  unfold qm;split
  .have a:=Yo ws (D.write p.1 p.2);have h2:=uU (D:=D) p.1 p.2;simp only [ae];omega
  .simp only [ae];omega
theorem XN(h:zD D.fuse):zD (xv D b).2.fuse:=by
 unfold xv;split;.exact jB (jA _ _ h)
 .exact h
theorem Uf:(xv D b).2.ps.length<=D.ps.length+1:=by
 unfold xv;split
 .have a:=uZ (D:=D.write 0 b);have h2:=uU (D:=D) 0 b;show (D.write 0 b).flush.ps.length<=_;omega
 .show D.ps.length<=_;omega
theorem XO{r:Bool×Dk}(h:zD r.2.fuse):zD (xJ r b).2.fuse:=by
 unfold xJ;split;.exact XN (jB h)
 .exact h
theorem Ug{r:Bool×Dk}:(xJ r b).2.ps.length<=r.2.ps.length+1:=by
 unfold xJ;split
 .have a:=Uf (D:=r.2.flush) (b:=b);have h2:=uZ (D:=r.2);omega
 .show r.2.ps.length<=_;omega
theorem XP(h:zD D.fuse):zD (qO D ws).2.fuse:=XO (bv _ _ h)
theorem Uh:(qO D ws).2.ps.length<=D.ps.length+ws.length+1:=by
 have a:=Ug (r:=qm D (qh ws)) (b:=zm (zK ws));have h2:=Yo (qh ws) D;rw [xQ] at h2;unfold qO;omega
theorem Yp(w:World)(d bd:Nat)(S T:Nat->Prop)(D:Dk)(C:Ck)(h:Cw w d bd S T D C)(x:∀p∈C.ws,p.1<65536)(z:C.ws.length<=18)(t:zD D.fuse)(N:D.ps.length<=17179869184)(H:(qO D C.ws).1=true):
 Calls Tryz.prog 140 #[.pointer (some ⟨d,0,none⟩)] w λe w'=>e=.returned (.bool (qj D C.ws).1)/\q9 w w' bd S (qj D C.ws).2:=by
 have L:Hid _:=h;obtain⟨a,o,j⟩:=h.chg;have M:=j.c0;have O:=j.c1;have F:Hid _:=j.rows x;have E:Hid _:=j.lt;have q:=j.bcT;have r:=j.lt d q;have m:Hid _:=h.apart;change Hid _ at j;clear h
 .have G:Hid _:=H;clear H;go_enter Tryz.func140,Tryz.ntmps140;go_wp2
  go_region_held3 (λw'=>w'.cell? ⟨d,0,none⟩=some (.pointer (some ⟨bd,0,none⟩))/\w'.cell? ⟨d,1,none⟩=some (.slice a C.ws.length o)) (go_keep) ((first
   |(go_at_call 179;refine(Yn _ bd S T D (by exact L.disk.kept (za.drew (λ_=>False) w) nF) a o C.ws (by exact F.kept (za.drew (λ_=>False) w) nF) m (by exact E) t (by omega) z).mono ?_;rintro e P ⟨rfl,⟨⟨S1,u,i⟩,c⟩⟩;rw [G.out];have n:=(j.kept (za.drew (λ_=>False) w) nF).kept c (λk f B=>m k B f);have y:=n.c0;have A:=n.c1;change Hid _ at u i c;clear n)
   |(go_at_call 85;refine(bu _ bd S1 T (qO D C.ws).2 u a o C.ws ((F.kept (za.drew (λ_=>False) w) nF).kept c (λk f B=>m k B f)) (λk f s=>by rcases i k f with g|g;exact m k g s;have h2:=E.out k s;have:w.drew.heap.size=w.heap.size:=rfl;omega) (λk f=>ay (E k f) c.size) (XP t) (by have:=Uh (D:=D) (ws:=C.ws);omega)).mono ?_;rintro e Q ⟨rfl,l⟩;have I:=(l.kept.cell (a:=⟨d,0,none⟩) (ay r c.size) (λv=>by rcases i d v with g|g;exact m d g q;have:w.drew.heap.size=w.heap.size:=rfl;omega)).trans y;have J:=(l.kept.cell (a:=⟨d,1,none⟩) (ay r c.size) (λv=>by rcases i d v with g|g;exact m d g q;have:w.drew.heap.size=w.heap.size:=rfl;omega)).trans A;change Hid _ at l)))
  go_wp2;go_ret;have K:qj D C.ws=qN (qO D C.ws).2 C.ws:=aB G.out;rw [K];exact⟨rfl,q9.trans (D1:=D) (S1:=S1) (λk f=>i k f) (za.trans (S':=S) (b:=w.drew) kD c iL) l⟩
theorem Yq(w:World)(bd:Nat)(S:Nat->Prop)(D:Dk)(h:zg w bd S D)(i:zD D.fuse)(d:(D.fuse==0)=true):
 Calls Tryz.prog 55 #[.pointer (some ⟨bd,0,none⟩)] w λe w'=>e=.returned (.bool false)/\q9 w w' bd S D:=by
 change Hid _ at h d;go_enter Tryz.func55,Tryz.ntmps55;go_wp2_with (go_at_call 40;refine(yY _ bd S D h i).mono ?_;rintro e n ⟨rfl,⟨j,a,b⟩,c⟩;rw [d.out];have g:Hid _:=a;change Hid _ at b c;clear a);go_ret;have f:D.fuse=0:=by have:=d.out;simpa using this
 have l:D.flush=D:=aB f;have a:=g.out;rw [l] at a;exact⟨rfl,⟨j,a,λk m=>.inl (b k m)⟩,c⟩
theorem Yr(w:World)(bd:Nat)(S:Nat->Prop)(D:Dk)(h:zg w bd S D)(F:zD D.fuse)(v:(D.fuse==0)=false)(x:0<=D.reads)(A:D.reads<=4611686018427387904)(p:Pg)(r:p.Ok)(y:D.flush.look 0=zm p)(B:p.items.length=0):
 Calls Tryz.prog 55 #[.pointer (some ⟨bd,0,none⟩)] w λe w'=>e=.returned (.bool true)/\q9 w w' bd S {D.flush with reads:=D.reads+1}:=by
 obtain⟨g,o,J⟩:∃g:List Value,g=zX/\∀w,(zeroValue 154).run Tryz.prog w=.ok (.agg g.toArray) w:=⟨zX,rfl,zY Tryz.infoPage⟩;have z:Hid (zT g):=by rw [o];exact zH
 clear o;have E:Hid _:=zZ Tryz.infoPage;have G:Hid _:=h;have d:Hid _:=yf r;have u:D.flush.reads=D.reads:=by unfold Dk.flush;split<;>rfl
 have b:Hid _:=u;have I:Hid p.Ok:=r;change Hid _ at v y B;clear h r;go_enter Tryz.func55,Tryz.ntmps55
 go_wp2_with (first
  |(go_at_call 40;refine(yY _ bd S D G F).mono ?_;rintro e H ⟨rfl,⟨f,i,c⟩,j⟩;rw [v.out];have l:Hid (zg H bd f D.flush):=i;change Hid _ at c j;clear i)
  |(go_at_call 81;refine(jr _ bd f D.flush l 0 (by constructor<;>omega) (by rw [b.out];exact x) (by rw [b.out];exact A)).mono ?_;rintro e a ⟨rfl,m,n⟩;rw [y.out];have t:Hid (zg a bd f {D.flush with reads:=D.flush.reads+1 }):=m;change Hid _ at n;clear m)
  |(show wpList _ _ _ ({dst:=none,op:=.store _ (.tmp 3) (.tmp 10),type:=_,pos:=_,after:=_,guard:=_}::_) _ _;refine zi rfl 154 (.tmp 3) (.tmp 10) rfl _ _ (zm p) (by simp) rfl rfl (by rw [d.1];exact E) (by rw [aq,z.1,d.1]) d.2 ?_;have C:Hid (qR (a.alloc (.cells (zm p).toArray 154)) a.heap.size p):=⟨⟨ac a _⟩,I⟩)
  |(go_at_call 82;refine(vA _ _ _ C).mono ?_;rintro e K ⟨rfl,rfl⟩;rw [B.out]))
 go_ret;have s:=t.kept (za.alloc (λ_=>False) a (.cells (zm p).toArray 154)) nF;rw [b.out] at s;refine⟨rfl,⟨f,s,λk q=>.inl (c k q)⟩,(j.trans n (λk q=>.inl (c k (by rw [q];exact l.bdS)))).trans (za.alloc _ _ _) iL⟩
end prog
namespace prog
open Go.MuLone
open keys (zh ze zy zs zq)
theorem Ys(w:World)(bs b bd:Nat)(T:Nat->Prop)(C:Ck)(h:Chg w b bd T C)(c:(C.full||decide (18<C.ws.length))=true):
 Calls Tryz.prog 78 #[.pointer (some ⟨bs,0,none⟩),.pointer (some ⟨b,0,none⟩)] w λe w'=>e=.returned (.int .i64 6)/\w'=w:=by
 change Hid _ at h c;go_enter Tryz.func78,Tryz.ntmps78;go_wp2_with (go_at_call 139;refine(dO w b bd T C h).mono ?_;rintro e d ⟨rfl,a⟩;rw [a,c.out];clear a d);go_ret;exact⟨rfl,rfl⟩
end prog
end Go.Proofs.YtcoengihaobddaaGreatDoor
