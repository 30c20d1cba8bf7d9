/- Part 25 of 36 of a proof: BWrite2, Root2, Log2, Log3, Log4, Log5, Add1 -/
import Derived.Test.YtcoengihaobddaaGreatDoorJb24
set_option maxHeartbeats 8000000
set_option linter.unusedVariables false
set_option linter.unusedSimpArgs false
set_option maxRecDepth 8000
namespace Go.Proofs.YtcoengihaobddaaGreatDoor
open Go.ChangeShapes Go.WideShapes Go.ChangeAt Go.RowKit disk ref
namespace prog
open keys (zh zd zx zq)
attribute [local go_sem] Oper.semAt_some
variable {vs:List Value}
theorem KE(n:World)(g:Nat)(a:Option Addr)(c:Nat)(enc:Nat->Value)(f:Int->List Nat->World->Prop)
 (d:∀r pre A,f r pre A->A.heap[g]? =some (.cells #[.slice a 0 c] 178 (0,0))):
 vO Tryz.prog 169 #[.pointer (some ⟨g,0,none⟩)] (λi:Nat=>#[.int .i64 (i:Int),enc i]) (λ_=>False) f (λr pre i A=>r=0/\(pre++[i])<+:yO 0) (λr o=>r=0/\o=yO 0) (λ_ _=>True) 0 n:=by
 intro l p q e m k b;have h:PLift (p 0 [] (λ_=>False) n):=⟨b⟩;have j:=d _ _ _ (e _ _ _ _ b).1;have s:n.cell? ⟨g,0,none⟩=some (.slice a 0 c):=cR j rfl;clear e m k b d j;go_enter Tryz.func169,Tryz.ntmps169;go_wp2_with fail;go_loopw [3] (λt wr=>t=.int .i64 (-1)/\wr=n) (λt _=>0)
 case atStart=>exact⟨rfl,rfl⟩
 case round=>
  obtain⟨rfl,rfl⟩:=hrel;go_wp2;go_end0;exact⟨⟨_,rfl⟩,.inl ⟨0,[],λ_=>False,⟨rfl,rfl⟩,h.down⟩⟩
theorem KF(s:World)(e:Nat)(a:Option Addr)(m c:Nat)(vs:List Value)(j:vs.length=m)(t:m<=1000)(enc:Nat->Value)(f:∀i (h:i<vs.length),vs[i]=enc i)(l:∀i,∃a n c,enc i=.slice a n c)(p:0<m->∃g,a=some ⟨g,0,none⟩)(b:Int->List Nat->World->Prop)
 (d:∀r pre A,b r pre A->A.heap[e]? =some (.cells #[.slice a m c] 178 (0,0))/\A.ownsRow 0 35 1 (.slice a m c) m vs)
 (k:∀r pre A B,b r pre A->za (λ_=>False) A B->b r pre B):
 vO Tryz.prog 169 #[.pointer (some ⟨e,0,none⟩)] (λi:Nat=>#[.int .i64 (i:Int),enc i]) (λ_=>False) b (λr pre i A=>r=0/\(pre++[i])<+:yO m) (λr o=>r=0/\o=yO m) (λ_ _=>True) 0 s:=by
 by_cases q:0<m
 .obtain⟨g,rfl⟩:=p q;exact V1 s e g m c vs j t enc f l b d k
 .obtain rfl:m=0:=by omega
  exact KE s e a c enc b (λr pre A h=>(d r pre A h).1)
theorem Ue{w:World}{e:TypeId}{a:Option Addr}{n c:Nat}(h:w.ownsRow 0 e 1 (.slice a n c) n vs)(i:0<n):∃g,a=some ⟨g,0,none⟩/\g<w.heap.size:=by
 rcases h.2 with⟨_,b⟩|⟨g,d,f,b,_,h2,_⟩;.omega
 .simp only [Value.slice.injEq] at b;exact⟨g,b.1,(lT h2)⟩
theorem GI{w:World}{e:TypeId}{v:Value}{n:Nat}(h:w.ownsRow 0 e 1 v n vs):∀k,v.ownBlock=some k->k<w.heap.size:=by
 intro k a;rcases h.2 with⟨rfl,d⟩|⟨g,b,c,rfl,_,h2,_⟩;.cases a
 .simp [Value.ownBlock] at a;subst a;exact(lT h2)
structure G5 (w1:World) (bc bd:Nat) (S T:Nat->Prop) (D:Dk) (C:Ck) (m:List UInt8) (ls:List (List UInt8)) (b2 b6 bb:Nat) (v:Value) (vs:List Value) (r:Int) (pre:List Nat) (Q:Nat->Prop) (A:World):Prop where
 st:∃(f:Nat) (C1:Ck) (m1:List UInt8) (n:Int) (T1:Nat->Prop),C.body D.bs.length m (ls.drop (ls.length-pre.length))=(f,C1,m1)/\0<=n/\n<=pre.length/\Cw A bc bd S T1 {D with reads:=D.reads+n} C1/\(∀j,T1 j->T j\/w1.heap.size+2<=j)/\A.heap[b6]? =some (.cells #[.int .i64 (f:Int)] 3 (0,0))/\∀k,Q k↔T1 k/\w1.heap.size+2<=k
 len:pre.length<=ls.length
 box:A.heap[b2]? =some (.cells #[.pointer (some ⟨bc,0,none⟩)] 142 (0,0))
 back:A.heap[bb]? =some (.cells #[v] 178 (0,0))/\A.ownsRow 0 35 1 v ls.length vs
 kept:za (λk=>k=bd\/T k\/k=b6\/w1.heap.size<=k) w1 A
 r:r=0
theorem G5.by{a:World}{w bd:Nat}{S T:Nat->Prop}{D:Dk}{C:Ck}{m:List UInt8}{y:List (List UInt8)}{l o p:Nat}{v:Value}{r s:Int}{pre:List Nat}{Q F:Nat->Prop}{A B:World}(h:G5 a w bd S T D C m y l o p v vs r pre Q A)(d:za F A B)(q:∀k,F k->a.heap.size<=k/\k<=a.heap.size+1)(J:s=0)(N:∀k,S k->k<a.heap.size)(I:∀k,T k->k<a.heap.size)(h2:l<a.heap.size)(H:o<a.heap.size)(t:p<a.heap.size)(K:∀k,v.ownBlock=some k->k<a.heap.size):G5 a w bd S T D C m y l o p v vs s pre Q B:=by
 obtain⟨f,z,E,n,O,k1,k2,k3,M,x,u,G⟩:=h.st;have c:∀b,b<a.heap.size->¬F b:=λb t g=>by have:=q b g;omega
 refine⟨⟨f,z,E,n,O,k1,k2,k3,M.kept d (λj e=>c j (N j e)) (λj e g=>?_),x,(d.block _ (lT u) (c _ H)).trans u,G⟩,h.len,(d.block _ (lT h.box) (c _ h2)).trans h.box,⟨(d.block _ (lT h.back.1) (c _ t)).trans h.back.1,d.owns h.back.2 (λj e=>c j (K j e))⟩,h.kept.trans d (λi L=>.inl (.inr (.inr (.inr (q i L).1)))),J⟩;rcases x j e with h|h;.exact c j (I j h) g
 .have:=q j g;omega
section
attribute [local go_sem ↓] js GC
theorem XM(w:World)(y bd:Nat)(S T:Nat->Prop)(D:Dk)(C:Ck)(h:Cw w y bd S T D C)(m:List UInt8)(cl:qF (C.look D 2) m)(dd:0<=D.reads)(dh:D.reads<=4611686018427380000)(P:Nat->Prop)(a:Option Addr)(I:Nat)(l:List UInt8)(bR:zO w P a l)(bE:∀j,P j->¬T j)(bC:∀j,P j->j≠bd)(cT:l.length<=300)(cx:l.length<=I)(co:I<=9223372036854775807)(cO:D.bs.length<=1000)(c3:C.ws.length<600)(bL:Nat)(cs:Ck)(c0:List UInt8)(aC:C.body D.bs.length m (zV l)=(bL,cs,c0)):
 Calls Tryz.prog 75 #[.pointer (some ⟨y,0,none⟩),.slice a l.length I] w λe w'=>e=.returned (.int .i64 (bL:Int))/\(∃(n:Int) (ce:Nat->Prop),0<=n/\n<=3/\Cw w' y bd S ce {D with reads:=D.reads+n} cs/\∀j,ce j->T j\/w.heap.size<=j)/\za (λj=>j=bd\/T j) w w':=by
 have cY:Hid _:=h;have cg:Hid (zO w P a l):=bR;have dg:=h.disk.lt bd h.disk.bdS;have W:Hid _:=h.chg.lt;have ab:Hid _:=h.disk.lt
 have cr:0<l.length->∃g ah,a=some ⟨g,ah,none⟩:=λav=>by
  rcases bR with s|⟨b,ah,s,_⟩;.rw [s] at av;simp at av
  .exact⟨b,ah,s⟩
 change Hid _ at cl bE bC aC cr;clear h bR;refine yz Tryz.func75 rfl ?_;simp only [Tryz.ntmps75,aq,ae,hO,Nat.reduceAdd,Nat.reduceSub,iN,iO,i5,iR,aK,aT];have cm:Hid (((room 6:Nat):Int)=124):=by show ((room 6:Nat):Int)=124;decide
 go_wp2_with (go_at_call 129;refine(jZ _ 6 (by decide)).mono ?_;rintro e cJ ⟨rfl,bx⟩;rw [bx,cm.out];clear bx cJ);have cA:Hid (za (λ_=>False) w (w.alloc (.cells #[.pointer (some ⟨y,0,none⟩)] 142))):=za.alloc _ _ _;have bz:Hid ((w.alloc (.cells #[.pointer (some ⟨y,0,none⟩)] 142)).heap[w.heap.size]? =some (.cells #[.pointer (some ⟨y,0,none⟩)] 142 (0,0))):=ac w _;have cz:(w.alloc (.cells #[.pointer (some ⟨y,0,none⟩)] 142)).heap.size=w.heap.size+1:=by simp
 generalize (w.alloc (.cells #[.pointer (some ⟨y,0,none⟩)] 142))=cP at*;refine(Kx cP a l.length I).mono ?_;rintro e ci ⟨rfl,bJ,bt,V,cy⟩;have a1:Hid _:=bJ;have af:Hid _:=bt;have br:Hid _:=V;rw [cz] at a1 af cy;clear bJ bt V;go_wp2_with fail;refine(Yf ci _ _ a l.length I cT cx co cr a1 af).mono ?_;rintro e d ⟨⟨g,ah,O,R,bF,rfl,L,aA⟩,H⟩;have bv:Hid _:=H;have db:=H.size;change Hid _ at bF L aA;clear H;go_wp2_with fail;have cv:Hid (za (λ_=>False) d (d.alloc (.cells #[.int .i64 0] 3))):=za.alloc _ _ _;have bk:Hid ((d.alloc (.cells #[.int .i64 0] 3)).heap[d.heap.size]? =some (.cells #[.int .i64 0] 3 (0,0))):=ac d _;have bI:(d.alloc (.cells #[.int .i64 0] 3)).heap.size=d.heap.size+1:=by simp
 generalize (d.alloc (.cells #[.int .i64 0] 3))=cQ at*;have bu:(qS l.length).length=(zV l).length:=by rw [yS,kg]
 rw [bu] at L aA ⊢;have c8:(zV l).length<=3:=by rw [yS];omega
 have cu:Hid (∀k,(Value.slice O (zV l).length R).ownBlock=some k->ci.heap.size<=k/\k<d.heap.size):=λk q=>⟨aA k q,GI L k q⟩;clear bu aA;refine(ZT cQ (.slice O (zV l).length R) rfl O _ R rfl).mono ?_;rintro e K ⟨rfl,bH,aZ,bA⟩;have bl:Hid _:=bH;rw [bI] at bl bA;change Hid _ at aZ;clear bH;have ap:Hid _:=cv.trans aZ iL;have am:Hid (za (λ_=>False) w K):=((cA.trans br iL).trans bv iL).trans ap iL;have bV:Hid _:=(br.trans bv iL).trans ap iL;have bW:Hid (K.heap[w.heap.size]? =_):=(bV.block _ (by omega) id).trans bz.out;have bK:Hid (K.heap[d.heap.size]? =_):=(aZ.block _ (by omega) id).trans bk.out;have bc:Hid _:=ap.owns L nF;clear bz bk L a1 af;rw [bI];go_wp2_with fail
 have bN:Hid (∀a6,za (λ_=>False) K a6->a6.heap.size=K.heap.size+2->vO Tryz.prog 169 #[.pointer (some ⟨d.heap.size+1,0,none⟩)] (λi:Nat=>#[.int .i64 (i:Int),yf g ah l.length (i*124)]) (λ_=>False) (λr _ A=>A.heap[d.heap.size+1]? =some (.cells #[.slice O (zV l).length R] 178 (0,0))/\A.ownsRow 0 35 1 (.slice O (zV l).length R) (zV l).length ((qS l.length).map (yf g ah l.length))/\r=0) (λr pre i A=>r=0/\(pre++[i])<+:yO (zV l).length) (λr bP=>r=0/\bP=yO (zV l).length) (λ_ _=>True) 0 a6):=λa6 q c6=>
  KF a6 (d.heap.size+1) O (zV l).length R ((qS l.length).map (yf g ah l.length)) (by rw [ez,yS,kg]) (by omega) (λi=>yf g ah l.length (i*124)) (λi t=>by simp [qS]) (λi=>⟨_,_,_,rfl⟩) (λav=>by obtain⟨cK,s,_⟩:=Ue bc av;exact⟨cK,s⟩) _ (λr pre A h=>⟨h.1,h.2.1⟩)
   (λr pre A B h q=>⟨(q.block _ (lT h.1) id).trans h.1,q.owns h.2.1 nF,h.2.2⟩)
 have J:Hid _:=cu.out
 refine kf (α:=Nat) (gf:= 169) (lb:=#[.pointer (some ⟨d.heap.size+1,0,none⟩)]) rfl (enters_of Tryz.func169 (by kernel_rfl) rfl) bN.out
  (λk q=>q.elim) (λ_=>rfl)
  (G5 K y bd S T D C m (zV l) w.heap.size d.heap.size (d.heap.size+1) (.slice O (zV l).length R) ((qS l.length).map (yf g ah l.length))) (λc r pre A=>False)
  (λr pre Q A h=>⟨⟨h.back.1,h.back.2,h.r⟩,λk q=>by
   obtain⟨f,aQ,a8,n,U,k1,k2,k3,al,aU,aw,aO⟩:=h.st;have s:=(aO k).1 q;have h2:=al.chg.lt k s.1
   omega⟩)
  (λr dp pre Q A B h dr q t=>h.by q (λk q=>q.elim) t.2.2 (λk q=>by have:=ab.out k q;omega) (λk q=>by have:=W.out k q;omega) (by omega) (by omega) (by omega) (λk q=>by have:=J.out k q;omega))
  (λr pre Q A B h q=>h.by q (λk q=>by omega) h.r (λk q=>by have:=ab.out k q;omega) (λk q=>by have:=W.out k q;omega) (by omega) (by omega) (by omega) (λk q=>by have:=J.out k q;omega))
  (λc r pre A B h q=>h)
  ⟨⟨0,C,m,0,T,by rw [hO,Nat.sub_zero,lm];rfl,eb _,by simp,by rw [Int.add_zero];exact cY.kept0 am,λj o=>.inl o,bK,λk=>⟨λh=>h.elim,λh=>by have:=W.out k h.1;omega⟩⟩,aj _,bW,⟨bl,bc⟩,za.refl _ _,rfl⟩
  (λz cd A=>cd={tmps:=#[.pointer (some ⟨y,0,none⟩),.slice a l.length I,.pointer (some ⟨w.heap.size,0,none⟩),undef,.int .i64 0,.slice O (zV l).length R,.pointer (some ⟨d.heap.size,0,none⟩),undef,yf g ah l.length (z*124),undef,.slice a l.length I,.int .i64 124,.func (.func 168) #[] #[.pointer (some ⟨w.heap.size+1,0,none⟩),.pointer (some ⟨w.heap.size+1+1,0,none⟩)],.slice O (zV l).length R,.slice O (zV l).length R,.func (.func 169) #[] #[.pointer (some ⟨d.heap.size+1,0,none⟩)],.int .i64 (z:Int),yf g ah l.length (z*124),undef,undef,undef,undef,undef,undef,undef,undef,undef,undef,undef,undef,undef,undef,undef],defers:=[] })
  (λz a A B h q=>h) (λr pre z A B h q=>h) ?assign ?body ?done ?stop
 case assign=>
  intro ak r pre z Q A dt t aP cc bb;gi_wp2;exact bb _ _ (za.refl _ _) t aP rfl
 case body=>
  rintro ak r pre z Q cd A t aP rfl cc;obtain⟨f,aQ,a8,n,U,k1,k2,k3,al,aU,aw,aO⟩:=t.st;obtain⟨dl,aY⟩:=aP.2
  have b9:pre.length<(zV l).length:=by have:=congrArg List.length aY;rw [vE] at this;simp at this;omega
  have cM:z=(zV l).length-1-pre.length:=by
   have aX:(yO (zV l).length)[pre.length]? =some z:=by rw [<-aY];simp
   simp only [yO] at aX;rw [List.getElem?_reverse (by simpa using b9),mw,List.getElem?_range (by omega)] at aX;exact(eG aX).symm
  have M:z<(zV l).length:=by omega
  have aD:(zV l).drop ((zV l).length-(pre++[z]).length)=xK l (z*124)::(zV l).drop ((zV l).length-pre.length):=by rw [ag,iq,show (zV l).length-(pre.length+1)=z from by omega,show (zV l).length-pre.length=z+1 from by omega,aI M,gV]
  have aL:z*124<l.length:=by rw [yS] at M;omega
  have a0:=bm (xK l (z*124)) (by rw [<-gV l z M];exact ai _);have aM:=bn cl cO _ _ _ _ k1;have cw:Hid _:=aM.1;have aG:=aM.2.2;have df:aQ.ws.length<700:=by have:=aM.2.1;have:((zV l).drop ((zV l).length-pre.length)).length<=3:=(by rw [aS];omega);omega
  have b3:Hid (zO A P (some ⟨g,ah+z*124,none⟩) (xK l (z*124))):=by
   have s:=(cg.kept am nF);show zO A P _ _;have av:=bF.out (by omega);rw [av] at s;rcases s with s|⟨b,bM,a2,ad,N,Y⟩;.rw [s] at aL;simp at aL
   .cases a2;refine .inr ⟨g,ah+z*124,rfl,ad,ay N t.kept.size,λj o=>?_⟩
    have c9:g<w.heap.size:=by
     rcases cg.out with h2|⟨dn,di,aR,_,bQ,_⟩;.rw [h2] at aL;simp at aL
     .rw [av] at aR;cases aR;exact bQ
    have cn:z*124+j<l.length:=by rw [uk (by omega)] at o;omega
    have:=(t.kept.cell (a:=⟨g,ah+(z*124+j),none⟩) N (λu=>by
     rcases u with h|h|h|h;.exact bC g ad h
     .exact bE g ad h
     .have aP:g=d.heap.size:=h;omega
     .have aP:K.heap.size<=g:=h;omega)).trans (Y _ cn)
    rw [lH,this];simp [xK]
  have bB:yf g ah l.length (z*124)=.slice (some ⟨g,ah+z*124,none⟩) (xK l (z*124)).length (xK l (z*124)).length:=by rw [uk (by omega)];rfl
  rw [bB];have Z:Hid _:=t;have ca:A.cell? ⟨d.heap.size,0,none⟩=some (.int .i64 (f:Int)):=cR aw rfl;have cf:A.cell? ⟨w.heap.size,0,none⟩=some (.pointer (some ⟨y,0,none⟩)):=cR t.box rfl;have be:Hid _:=al;have G:Hid _:=aU;have bZ:Hid _:=aO;have cb:Hid _:=aw;have b5:Hid _:=k1;have bD:=a0.1;have bf:=a0.2;generalize xK l (z*124)=p at*;generalize ah+z*124=b8 at*;have cW:=t.kept.size;have bj:n<=3:=by omega
  have b1:Hid _:=k3;change Hid _ at aD;clear t aP aY cM M aM k1 k3 al aU aw aO bB a0;obtain⟨bh,bo,dm⟩:∃bh:List Value,bh=zW/\∀w,(zeroValue 154).run Tryz.prog w=.ok (.agg bh.toArray) w:=⟨zW,rfl,zX Tryz.infoPage⟩;have b4:Hid (zS bh):=by rw [bo];exact zG
  have cB:Hid _:=zY Tryz.infoPage;have a4:Hid _:=yc (Pg.new_ok 6 (by omega));clear bo;gi_wp2_with fail;refine⟨eI,rfl,?_⟩;refine((yo ak).calls (jD _ 6 (by decide))).mono ?_;rintro e u1 ⟨rfl,aF⟩;have c7:=aF.size;have cS:=(aF.cell (a:=⟨d.heap.size,0,none⟩) (by show d.heap.size<A.heap.size;omega) id).trans ca;have c1:d.heap.size<u1.heap.size:=by omega
  change Hid _ at aF;gi_wp2_with ((show wpListIn _ _ _ _ _ ({dst:=none,op:=.store _ (.tmp 9) (.tmp 18),type:=_,pos:=_,after:=_,guard:=_}::_) _ _;refine(yo ak).store_new rfl 154 (.tmp 9) (.tmp 18) rfl _ _ (zl (Pg.new 6)) (by simp) rfl rfl (by rw [a4.1];exact cB) (by rw [aq,b4.1,a4.1]) a4.2 ?_));refine⟨eI,rfl,?_⟩;have ck:Hid (qP (u1.alloc (.cells (zl (Pg.new 6)).toArray 154)) u1.heap.size (Pg.new 6)):=⟨⟨ac u1 _⟩,Pg.new_ok 6 (by omega)⟩;have cp:Hid (za (λ_=>False) A (u1.alloc (.cells (zl (Pg.new 6)).toArray 154))):=aF.trans (za.alloc _ _ _) iL;have de:(u1.alloc (.cells (zl (Pg.new 6)).toArray 154)).heap.size=u1.heap.size+1:=by simp
  generalize (u1.alloc (.cells (zl (Pg.new 6)).toArray 154))=dj at*;clear cS c1;refine((yo ak).calls (fI dj _ _ ck f aG)).mono ?_;rintro e u2 ⟨rfl,ao,V⟩;have cN:=V.size;change Hid _ at ao V;gi_wp2_with fail;refine⟨eI,rfl,?_⟩;have az:zk ((Pg.new 6).setLink f).kind=1:=rfl;have ax:((Pg.new 6).setLink f).items.length=0:=rfl;refine((yo ak).calls (ve u2 u1.heap.size ((Pg.new 6).setLink f) ao p.length (by rw [az,ax];omega) (by rw [ax];omega) (by rw [az];omega))).mono ?_;rintro e u3 ⟨rfl,ar,H⟩;have cq:Hid (vd u1.heap.size ((Pg.new 6).setLink f).kind ((Pg.new 6).setLink f).items.length p.length=.slice (some ⟨u1.heap.size,4,none⟩) p.length 124):=by show vd _ _ _ _=_;simp [vd,az,ax]
  rw [cq.out];have bT:Hid (za (λi=>i=u1.heap.size) u2 u3):=H;have cE:=H.size;change Hid _ at ar;clear H az ax;have an:Hid (za (λi=>i=u1.heap.size) A u3):=((cp.mono fE).trans V iL).trans bT iL
  have b0:Hid (zO u3 P (some ⟨g,b8,none⟩) p):=by
   show zO u3 P _ _;rcases b3.out with s|⟨b,bM,a2,ad,N,Y⟩;.rw [s] at bD;simp at bD
   .refine .inr ⟨b,bM,a2,ad,ay N an.size,λj o=>(an.cell (a:=⟨b,bM+j,none⟩) N (λu=>?_)).trans (Y j o)⟩;have da:b=u1.heap.size:=u;omega
  have aN:=ar.ok.len;obtain⟨u4,cD,ba,a3⟩:=U1 u3 u1.heap.size 154 _ ar.bs 4 124 p (by rw [aN];omega) P g b8 p.length b0.out;have F:Hid _:=an.trans a3 iL
  have bq:qG (((Pg.new 6).setLink f).grown p.length).bytes 4 p=(qp f p).bytes:=by have s:=(ao.ok).more_bytes (p.map λb=>[b]) (λv cX=>by obtain⟨b,_,rfl⟩:=au.1 cX;rfl) (by show (0+_)*1<=124;rw [ez];omega);rw [gL,ez] at s;exact s
  rw [bq] at ba;have b6:Hid (qP u4 u1.heap.size (qp f p)):=⟨ba,vD aG bf⟩;have cH:=a3.size;have aR:=(F.cell (a:=⟨w.heap.size,0,none⟩) (by show w.heap.size<A.heap.size;omega) (by show ¬w.heap.size=u1.heap.size;omega)).trans cf;clear ba a3 aN bq ca cf;gi_wp2_with fail;refine⟨eI,rfl,?_⟩;have ch:Hid _:=be.kept F (λj o u=>by have s:=ab.out j o;omega) (λj o u=>by have s:=be.chg.lt j o;have h2:=u;omega);obtain⟨x,a5,bO,aH⟩:∃x a5 bO,aQ.take D.bs.length a8=(x,a5,bO):=⟨_,_,_,rfl⟩;have cL:a5.ws.length<900:=by have:=uP aQ D.bs.length a8;rw [aH] at this;simp only at this;omega
  refine((yo ak).calls (dX u4 y bd S U {D with reads:=D.reads+n} aQ ch a8 cw (by show 0<=D.reads+n;omega) (by show D.reads+n<=_;omega) (by omega))).mono ?_;rintro e u5 ⟨rfl,⟨cI,b2,c5,cF,aE,aJ⟩,E⟩;rw [aH] at aE ⊢;dsimp only at aE ⊢;change Hid _ at aH;have cG:=E.size
  have X:∀j,w.heap.size<=j->j<K.heap.size+2->¬(j=bd\/U j):=λj s h2 u=>by
   rcases u with h|h;.omega
   .rcases G j h with h|h;.have:=W.out j h;omega
    .omega
  have a7:Hid (u5.heap[d.heap.size]? =some (.cells #[.int .i64 (f:Int)] 3 (0,0))):=(E.block _ (by omega) (X _ (by omega) (by omega))).trans ((F.block _ (by omega) (by show ¬d.heap.size=u1.heap.size;omega)).trans cb);have af:Hid (u5.heap[w.heap.size]? =some (.cells #[.pointer (some ⟨y,0,none⟩)] 142 (0,0))):=(E.block _ (by omega) (X _ (by omega) (by omega))).trans ((F.block _ (by omega) (by show ¬w.heap.size=u1.heap.size;omega)).trans Z.box)
  have bp:¬(u1.heap.size=bd\/U u1.heap.size):=λu=>by
   rcases u with h|h;.omega
   .have:=be.chg.lt _ h;omega
  have bY:Hid _:=b6.kept E bp;have dq:u5.cell? ⟨d.heap.size,0,none⟩=some (.int .i64 (f:Int)):=cR a7.out rfl;have dk:u5.frozen? ⟨d.heap.size,0,none⟩=false:=aa u5 d.heap.size 0 _ _ a7.out;change Hid _ at aE aJ E X;clear bp aR;have bs:Hid ((u5.setCell ⟨d.heap.size,0,none⟩ (.int .i64 (x:Int))).heap[d.heap.size]? =some (.cells #[.int .i64 (x:Int)] 3 (0,0))):=heap_setCell_same u5 d.heap.size 0 _ _ (.int .i64 (x:Int)) a7.out;have aB:Hid _:=za.setCell (S:=λj=>j=d.heap.size) u5 ⟨d.heap.size,0,none⟩ (.int .i64 (x:Int)) rfl;have ct:(uK (.pointer (some ⟨u1.heap.size,0,none⟩))).run Tryz.prog (u5.setCell ⟨d.heap.size,0,none⟩ (.int .i64 (x:Int)))=.ok (.agg (zl (qp f p)).toArray) (u5.setCell ⟨d.heap.size,0,none⟩ (.int .i64 (x:Int))):=xI _ _ _ _ (zQ (bY.kept aB (by show ¬u1.heap.size=d.heap.size;omega)).bs.at_) (yc (vD aG bf)).1;have c2:(u5.setCell ⟨d.heap.size,0,none⟩ (.int .i64 (x:Int))).cell? ⟨w.heap.size,0,none⟩=some (.pointer (some ⟨y,0,none⟩)):=cR (((aB.block _ (by omega) (by show ¬w.heap.size=d.heap.size;omega)).trans af.out)) rfl;have cU:(u5.setCell ⟨d.heap.size,0,none⟩ (.int .i64 (x:Int))).cell? ⟨d.heap.size,0,none⟩=some (.int .i64 (x:Int)):=cR bs.out rfl;gi_wp2_with fail;refine⟨eI,rfl,?_⟩;have dc:(u5.setCell ⟨d.heap.size,0,none⟩ (.int .i64 (x:Int))).heap.size=u5.heap.size:=by simp
  generalize (u5.setCell ⟨d.heap.size,0,none⟩ (.int .i64 (x:Int)))=u6 at*
  have aV:Hid (∀j,w.heap.size<=j->j<K.heap.size+2->¬b2 j):=λj s h2 u=>by
   rcases aJ j u with h|h;.exact X j s h2 (.inr h)
   .omega
  have cC:Hid _:=aE.kept aB (λj o u=>by have s:=ab.out j o;omega) (λj o u=>by have h2:=u;exact aV j (by omega) (by omega) o);refine((yo ak).calls (ju u6 y bd S b2 _ a5 cC x _ (yc (vD aG bf)) (by omega))).mono ?_;rintro e u7 ⟨rfl,⟨bU,bi,bw⟩,aW⟩;change Hid _ at bi bw aW;clear ct c2 cU;gi_wp2
  have bg:za (λk=>k=bd\/U k\/k=d.heap.size) A u7:=by
   have aX:za (λk=>k=bd\/U k\/k=d.heap.size) A u4:=za.trans (S':=λi=>i=u1.heap.size) (za.refl _ A) F (λj o=>.inr (by omega));have aR:=aX.trans E (λj o=>.inl (by rcases o with h|h;exact .inl h;exact .inr (.inl h)));have cV:=aR.trans aB (λj o=>.inl (.inr (.inr o)))
   exact cV.trans aW (λj o=>by
    rcases aJ j o with h|h;.exact .inl (.inr (.inl h))
    .exact .inr (by omega))
  have bX:∀j,w.heap.size<=j->j<K.heap.size+2->j≠d.heap.size->¬(j=bd\/U j\/j=d.heap.size):=λj s h2 bQ u=>by
   rcases u with h|h|h;.exact X j s h2 (.inl h)
   .exact X j s h2 (.inr h)
   .exact bQ h
  have bG:∀j,bU j->U j\/A.heap.size<=j:=λj o=>by
   rcases bw j o with h|h
   .rcases aJ j h with h|h;.exact .inl h
    .exact .inr (by omega)
   .exact .inr (by omega)
  have N:=gW (l:=p) b5 aH.out;refine⟨bg.mono (λk q=>?_),λk=>bU k/\K.heap.size+2<=k,⟨⟨x,a5.put x (zl (qp f p)),bO,n+cI,bU,?_,by omega,?_,?_,λj o=>?_,?_,λk=>Iff.rfl⟩,?_,(bg.block _ (lT Z.box) (bX _ (by omega) (by omega) (by omega))).trans Z.box,⟨(bg.block _ (lT Z.back.1) (bX _ (by omega) (by omega) (by omega))).trans Z.back.1,bg.owns Z.back.2 (λj o=>bX j (by have:=J.out j o;omega) (by have:=J.out j o;omega) (by have:=J.out j o;omega))⟩,Z.kept.trans bg (λj o=>?_),Z.r⟩,λk q=>?_⟩
  .rcases q with h|h|h;.exact .inl (by omega)
   .rcases G k h with h2|h2;.exact .inl (by have:=W.out k h2;omega)
    .exact .inr ((bZ k).2 ⟨h,h2⟩)
   .exact .inl (by omega)
  .rw [aD.out];exact N
  .have:=b1.out;rw [ag,iq];omega
  .have:=bi.out;rw [a9] at this;exact this
  .rcases bG j o with h|h;.exact G j h
   .exact .inr (by omega)
  .exact(aW.block _ (by omega) (aV _ (by omega) (by omega))).trans bs.out
  .rw [ag,iq];omega
  .rcases o with h|h|h;.exact .inl (.inl h)
   .rcases G j h with h2|h2;.exact .inl (.inr (.inl h2))
    .exact .inl (.inr (.inr (.inr (by omega))))
   .exact .inl (.inr (.inr (.inl h)))
  .rcases bG k q.1 with h|h;.exact .inl ((bZ k).2 ⟨h,q.2⟩)
   .exact .inr h
 case done=>
  rintro cZ r bP Q A bS t rfl bb;obtain⟨f,aQ,a8,n,U,k1,k2,k3,al,aU,aw,aO⟩:=t.st;have M:bP.length=(zV l).length:=by rw [bS.2,vE]
  rw [M,Nat.sub_self,mo,aC.out] at k1;simp only [eS] at k1;obtain⟨rfl,rfl,rfl⟩:=k1;have bj:n<=3:=by omega
  have G:Hid _:=aU;have b7:Hid _:=t.kept;have c4:Hid _:=bb;have ds:A.cell? ⟨d.heap.size,0,none⟩=some (.int .i64 (bL:Int)):=cR aw rfl;change Hid _ at al;clear t bS bb k3 aU aw aO M;dsimp only;go_wp2;have cj:za (λk=>k=d.heap.size+1+1) A (A.putObj (d.heap.size+1+1) (.deferred none)):=za.putObj _ _ _ rfl
  refine jh rfl (by rw [<-bA];exact c4) (results_tmp rfl _ _ _) ⟨rfl,⟨n,k2,bj,U,al.kept cj (λj o a2=>by have:=ab.out j o;omega) (λj o a2=>by
   rcases G j o with h|h;.have:=W.out j h;omega
   .omega),λj o=>(G j o).imp id (λh=>by omega)⟩,?_⟩
  exact((am.mono (S':=λj=>j=bd\/T j) fE).trans b7 (λj o=>by
   rcases o with h|h|h|h;.exact .inl (.inl h)
   .exact .inl (.inr h)
   .exact .inr (by omega)
   .exact .inr (by omega))).trans cj (λj o=>.inr (by omega))
 case stop=>
  rintro cZ c r pre A bS t rfl bb;exact t.elim
end
end prog
namespace prog
open keys (zh zd zx zq)
variable {w:World}{ws:List (Nat×List Value)}{D:Dk}{b:List Value}
section
attribute [local go_sem ↓] js
theorem vX(w:World)(x bd:Nat)(S T:Nat->Prop)(D:Dk)(C:Ck)(h:Cw w x bd S T D C)(b n:Nat)(L:b<65536)(ao:n<9223372036854775808)(I:C.ws.length<1000):
 Calls Tryz.prog 77 #[.agg #[.int .i64 (b:Int),.int .i64 (n:Int)],.pointer (some ⟨x,0,none⟩)] w λr w'=>r=.returned (.tuple #[])/\(∃Z,Cw w' x bd S Z D (C.put 1 (zl (zw b n)))/\∀j,Z j->T j\/w.heap.size<=j)/\za T w w':=by
 obtain⟨v,A,aB⟩:∃v:List Value,v=zW/\∀w,(zeroValue 154).run Tryz.prog w=.ok (.agg v.toArray) w:=⟨zW,rfl,zX Tryz.infoPage⟩;have Q:Hid (zS v):=by rw [A];exact zG
 clear A;have ai:Hid _:=zY Tryz.infoPage;have an:Hid _:=h;have u:Hid _:=yc (Pg.new_ok 2 (by omega));have ad:Hid (za (λ_=>False) w (w.alloc (.cells #[.int .i64 (b:Int),.int .i64 (n:Int)] 145))):=za.alloc _ _ _;have O:Hid _:=h.chg.lt;have Y:Hid _:=h.disk.lt;clear h;go_enter Tryz.func77,Tryz.ntmps77
 go_wp2_with (first
  |(go_at_call 131;refine(jD _ 2 (by omega)).mono ?_;rintro r c ⟨rfl,p⟩;have e:c.heap[w.heap.size]? =_:=(p.block w.heap.size (by simp) (λJ=>J)).trans (ac w _);have av:c.cell? ⟨w.heap.size,0,none⟩=some (.int .i64 (b:Int)):=(cR e rfl);have ab:=(lT e);change Hid _ at p e)
  |(show wpList _ _ _ ({dst:=none,op:=.store _ (.tmp 4) (.tmp 5),type:=_,pos:=_,after:=_,guard:=_}::_) _ _;refine zi rfl 154 (.tmp 4) (.tmp 5) rfl _ _ (zl (Pg.new 2)) (by simp) rfl rfl (by rw [u.1];exact ai) (by rw [aq,Q.1,u.1]) u.2 ?_))
 have M:Hid (qP (c.alloc (.cells (zl (Pg.new 2)).toArray 154)) c.heap.size (Pg.new 2)):=⟨⟨ac c _⟩,Pg.new_ok 2 (by omega)⟩;have N:Hid (za (λ_=>False) w (c.alloc (.cells (zl (Pg.new 2)).toArray 154))):=(ad.trans p iL).trans (za.alloc _ _ _) iL;have K:Hid ((c.alloc (.cells (zl (Pg.new 2)).toArray 154)).heap[w.heap.size]? =some (.cells #[.int .i64 (b:Int),.int .i64 (n:Int)] 145 (0,0))):=((za.alloc (λ_=>False) c _).block w.heap.size ab (λJ=>J)).trans e.out;have ar:(c.alloc (.cells (zl (Pg.new 2)).toArray 154)).heap.size=c.heap.size+1:=by simp
 generalize (c.alloc (.cells (zl (Pg.new 2)).toArray 154))=ax at*;refine(fI ax _ _ M b L).mono ?_;rintro r t ⟨rfl,q,g⟩;have ah:=g.size;have R:Hid (t.heap[w.heap.size]? =_):=(g.block _ (by omega) (by omega)).trans K.out;change Hid _ at q g;have al:t.cell? ⟨w.heap.size,1,none⟩=some (.int .i64 (n:Int)):=cR R.out rfl;have y:w.heap.size<t.heap.size:=by omega
 have F:¬w.heap.size=c.heap.size:=by omega
 have P:((Pg.new 2).setLink b).kind=2:=rfl;have X:((Pg.new 2).setLink b).items.length=0:=rfl;go_wp2_with fail;have ae:Hid _:=q.kept (za.drew (λ_=>False) t) id;have V:Hid (vd c.heap.size ((Pg.new 2).setLink b).kind ((Pg.new 2).setLink b).items.length 1=.slice (some ⟨c.heap.size,4,none⟩) 8 124):=rfl;have B:Hid ((Pg.new 2).setLink b).Ok:=q.ok;have W:Hid (qG (((Pg.new 2).setLink b).grown 1).bytes 4 (bytesOf 8 n)=(zw b n).bytes):=B.push_over (bytesOf 8 n) (by rw [zP];rfl) (by show (0+1)*8<=124;omega);have ag:Hid ((((Pg.new 2).setLink b).grown 1).bytes.length=128):=(B.grown 1 (by show (0+1)*8<=124;omega) (by show 0+1<=124;omega)).len;clear P X
 go_region_held3 (λw'=>w'.cell? ⟨w.heap.size,1,none⟩=some (.int .i64 (n:Int))) (go_keep) (first
  |(go_at_call 133;refine(ve _ _ _ ae 1 (by show (0+1)*8<=124;omega) (by show 0+1<=124;omega) (by show 1<=1*8;omega)).mono ?_;rintro r aw ⟨rfl,H,k⟩;rw [V.out];have ak:=(k.cell (a:=⟨w.heap.size,1,none⟩) y F).trans al;change Hid _ at H k)
  |(go_at_call 138;refine(qO _ _ _ _ H.bs 4 8 124 (by rw [ag.out];omega) (by omega) n ao).mono ?_;rintro r o ⟨rfl,l,s⟩;rw [W.out] at l;have U:Hid (qP o c.heap.size (zw b n)):=⟨l,gX L⟩;have az:=(s.cell (a:=⟨w.heap.size,1,none⟩) (ay y k.size) F).trans ak;change Hid _ at s;clear l))
 have m:Hid (zS (zl (zw b n))):=yc (gX L);have au:(uK (.pointer (some ⟨c.heap.size,0,none⟩))).run Tryz.prog o=.ok (.agg (zl (zw b n)).toArray) o:=xI _ _ _ _ (zQ U.bs.at_) m.1;have f:Hid (za (λi=>w.heap.size<=i) w o):=((((N.mono fE).trans g (λj d=>.inl (by omega))).trans (za.drew (λ_=>False) t) fE).trans k (λj d=>.inl (by omega))).trans s (λj d=>.inl (by omega));have aa:Hid _:=an.kept f (λj d af=>by have:=Y.out j d;omega) (λj d af=>by have:=O.out j d;omega);go_wp2_with (go_at_call 135;refine(ju _ x bd S T D C aa 1 _ m I).mono ?_;rintro r aA ⟨rfl,⟨aj,z,G⟩,E⟩;change Hid _ at z G E);go_end0;have ap:=f.size;refine⟨rfl,⟨aj,z,λj d=>(G j d).imp id (λh=>by omega)⟩,?_⟩;have am:za T w o:=za.trans (S:=T) (S':=λi=>w.heap.size<=i) (za.refl _ w) f (λj d=>.inr d);exact am.trans E iL
end
structure uX (w:World) (T:Nat->Prop) (a:Option Addr) (ws:List (Nat×List Value)):Prop where
 ok:∀p∈ws,zS p.2/\p.1<65536
 at_:ws=[]\/∃g,a=some ⟨g,0,none⟩/\T g/\g<w.heap.size/\∀k (hk:k<ws.length),w.rangeAt g (k*129) (.int .i64 (ws[k].1:Int)::ws[k].2)
 few:ws.length<=1000
theorem uX.kept{w':World}{T X:Nat->Prop}{a:Option Addr}(h:uX w T a ws)(k:za X w w')(f:∀i,T i->¬X i):uX w' T a ws:=
 ⟨h.ok,h.at_.imp id (λ⟨g,e,h2,b,c⟩=>⟨g,e,h2,ay b k.size,λj l t v d=>(k.cell (a:=⟨g,j*129+t,none⟩) b (f g h2)).trans (c j l t v d)⟩),h.few⟩
theorem qC.rows{i bd:Nat}{T:Nat->Prop}{C:Ck}{a:Option Addr}{d:Nat}(h:qC w i bd T C a d)(c:∀p∈C.ws,p.1<65536):uX w T a C.ws:=by
 refine⟨λp e=>⟨h.ok p e,c p e⟩,?_,h.few⟩;rcases mq C.ws.length with b|b;.exact .inl (aY b)
 .obtain⟨g,rfl⟩:=h.rowAt b;have f:T g:=(h.own g).2 (.inr rfl);exact .inr ⟨g,rfl,f,h.lt g f,λk c=>h.range k c⟩
theorem bt{k:Nat}(a:k<ws.length):qm D (ws.drop k)=if D.writes ws[k].1=true then qm (D.write ws[k].1 ws[k].2) (ws.drop (k+1)) else (false,D):=by
 rw [aI a,qm]
theorem uY:D.flush.ps.length<=D.ps.length:=by
 unfold Dk.flush;split;.exact aF _
 .simp
theorem bu{a:Int}(b:List Value)(h:D.writes a=false):D.write a b=D:=by
 unfold Dk.writes at h;unfold Dk.write;rw [aw (iF h)]
theorem bv(w:World)(bd:Nat)(S T:Nat->Prop)(D:Dk)(h:zg w bd S D)(a:Option Addr)(af:Nat)(ws:List (Nat×List Value))(Y:uX w T a ws)(O:∀k,S k->¬T k)(an:∀k,T k->k<w.heap.size)
 (aa:zD D.fuse) (aD:D.ps.length<=34359738368):
 Calls Tryz.prog 85 #[.pointer (some ⟨bd,0,none⟩),.slice a ws.length af] w λe w'=>e=.returned (.bool (qL D ws).1)/\qZ w w' bd S (qL D ws).2:=by
 obtain⟨M,P,aA⟩:∃M:List Value,M=yq/\∀w,(zeroValue 160).run Tryz.prog w=.ok (.agg M.toArray) w:=⟨yq,rfl,zX Tryz.infoCw⟩;have V:Hid (M.length=129):=by rw [P];exact congrArg (· +1) zG.1
 clear P;have y:Hid _:=zY Tryz.infoCw;have ab:Hid ((Tryz.prog.info? 131).map (·.size)=some 128):=zY Tryz.infoBlock;have ar:Hid (zg w bd S D):=h;have ax:=Y.few;change Hid _ at Y;clear h;go_enter Tryz.func85,Tryz.ntmps85;go_wp2;go_loopw [9] (λt wr=>∃(k:Nat) (D1:Dk),k<=ws.length/\t=.int .i64 k/\qm D ws=qm D1 (ws.drop k)/\qZ w wr bd S D1/\zD D1.fuse/\D1.ps.length<=D.ps.length+k) (λt _=>ws.length-(intOf t).toNat)
 case atStart=>exact⟨0,D,aj _,rfl,rfl,qZ.refl ar.out,aa,by omega⟩
 case round=>
  obtain⟨k,D1,L,rfl,A,K,l,am⟩:=hrel;obtain⟨⟨S1,X,s⟩,v⟩:=K;have B:Hid (zg wr bd S1 D1):=X
  have av:Hid (∀k,S1 k->¬T k):=λj Z Q=>by
   rcases s j Z with ah|ah;.exact O j ah Q
   .have:=an j Q;omega
  have W:Hid (uX wr T a ws):=Y.kept v (λj Z ap=>O j ap Z);change Hid _ at A s v;clear X;by_cases x:k<ws.length
  .rcases W.at_ with au|⟨g,rfl,az,aC,F⟩;.rw [au] at x;simp at x
   .have ad:Hid (wr.rangeAt g (k*129) (.int .i64 (ws[k].1:Int)::ws[k].2)):=F k x;obtain⟨R,ag⟩:=W.ok _ (ai x);have c:Hid (zS ws[k].2):=R;have N:Hid _:=bt (D:=D1) x;generalize ao:ws[k]=q at*;obtain⟨m,i⟩:=q;clear ao R F;simp only at ag;have z:Hid (za (λ_=>False) wr (wr.alloc (.cells (.int .i64 (m:Int)::i).toArray 160))):=za.alloc _ _ _
    cases U:D1.writes m with
    |true=>
     have u:Hid _:=U
     go_wp2_with (first
      |(show wpList _ _ _ ({dst:=some 12,op:=.load _ _,type:=_,pos:=_,after:=_,guard:=_}::_) _ _;refine wpList_load_mid rfl 160 (.tmp 11) rfl _ _ rfl (.int .i64 (m:Int)::i) _ ad.out Tryz.underlying160 rfl (by rw [ae,c.1];exact y.out) ?_)
      |(show wpList _ _ _ ({dst:=none,op:=.store _ (.tmp 6) (.tmp 12),type:=_,pos:=_,after:=_,guard:=_}::_) _ _;refine zi rfl 160 (.tmp 6) (.tmp 12) rfl _ _ (.int .i64 (m:Int)::i) rfl rfl rfl (by rw [ae,c.1];exact y.out) (by rw [ae,c.1];simpa using V.out) (aQ.2 ⟨rfl,c.2⟩) ?_)
      |(show wpList _ _ _ ({dst:=some 17,op:=.load _ _,type:=_,pos:=_,after:=_,guard:=_}::_) _ _;refine wpList_load_mid rfl 131 (.tmp 16) rfl _ _ rfl i _ (qX (ac wr _)) Tryz.underlying131 rfl (by rw [c.1];exact ab.out) ?_)
      |(go_at_call 146;refine(yT _ bd S1 D1 (B.kept z.out nF) (m:Int) (by constructor<;>omega) i c.out l (by omega)).mono ?_;rintro e E ⟨rfl,⟨r,b,f⟩,d⟩;rw [u.out];have n:Hid (zg E bd r (D1.write m i)):=b;have o:Hid _:=f;have p:Hid _:=d;clear b f d))
     go_roundw
     case rel=>
      refine⟨k+1,D1.write m i,by omega,by go_num,by rw [A.out,N.out,aB u.out],?_,jv _ _ l,by have:=uT (D:=D1) m i;omega⟩;exact qZ.trans (D1:=D1) s.out v.out (qZ.kept0 z.out ⟨⟨r,n.out,o.out⟩,p.out⟩)
     case measure=>simp [intOf];omega
    |false=>
     have u:Hid _:=U
     go_wp2_with (first
      |(show wpList _ _ _ ({dst:=some 12,op:=.load _ _,type:=_,pos:=_,after:=_,guard:=_}::_) _ _;refine wpList_load_mid rfl 160 (.tmp 11) rfl _ _ rfl (.int .i64 (m:Int)::i) _ ad.out Tryz.underlying160 rfl (by rw [ae,c.1];exact y.out) ?_)
      |(show wpList _ _ _ ({dst:=none,op:=.store _ (.tmp 6) (.tmp 12),type:=_,pos:=_,after:=_,guard:=_}::_) _ _;refine zi rfl 160 (.tmp 6) (.tmp 12) rfl _ _ (.int .i64 (m:Int)::i) rfl rfl rfl (by rw [ae,c.1];exact y.out) (by rw [ae,c.1];simpa using V.out) (aQ.2 ⟨rfl,c.2⟩) ?_)
      |(show wpList _ _ _ ({dst:=some 17,op:=.load _ _,type:=_,pos:=_,after:=_,guard:=_}::_) _ _;refine wpList_load_mid rfl 131 (.tmp 16) rfl _ _ rfl i _ (qX (ac wr _)) Tryz.underlying131 rfl (by rw [c.1];exact ab.out) ?_)
      |(go_at_call 146;refine(yT _ bd S1 D1 (B.kept z.out nF) (m:Int) (by constructor<;>omega) i c.out l (by omega)).mono ?_;rintro e E ⟨rfl,⟨r,b,f⟩,d⟩;rw [u.out];have n:Hid (zg E bd r (D1.write m i)):=b;have o:Hid _:=f;have p:Hid _:=d;clear b f d))
     go_ret;have ay:qm D ws=(false,D1):=by rw [A.out,N.out,aw (by rw [u.out];simp)]
     have I:qL D ws=(false,D1):=by unfold qL xD;rw [ay];simp
     rw [I];have b:=n.out;rw [bu i u.out] at b;exact⟨rfl,qZ.trans (D1:=D1) s.out v.out (qZ.kept0 z.out ⟨⟨r,b,o.out⟩,p.out⟩)⟩
  .have ak:Hid (qm D ws=(true,D1)):=by show _=_;rw [A.out,eo (by omega)];rfl
   cases al:(D1.fuse==0) with
   |false=>
    have J:Hid _:=al
    go_wp2_with (first
     |(go_at_call 40;refine(yU _ bd S1 D1 B.out l).mono ?_;rintro e E ⟨rfl,⟨r,b,f⟩,d⟩;rw [J.out];have n:Hid (zg E bd r D1.flush):=b;have o:Hid _:=f;have p:Hid _:=d;clear b f d)
     |(go_at_call 131;refine(jD _ 1 (by omega)).mono ?_;rintro e aE ⟨rfl,G⟩;change Hid _ at G)
     |(go_at_call 147;refine(fK _ bd r D1.flush (n.kept G.out nF) (zl (Pg.new 1)) (yc (Pg.new_ok 1 (by omega))) (jw l) (by have:=uY (D:=D1);omega)).mono ?_;rintro e aF ⟨rfl,H⟩;change Hid _ at H))
    go_ret
    have I:qL D ws=xn D1.flush xY:=by
     have C:D1.fuse≠0:=by have:=J.out;simpa using this
     unfold qL xD;rw [ak.out,aB ⟨rfl,C⟩]
    rw [I];exact⟨by simp [xY],qZ.trans (D1:=D1) s.out v.out (qZ.trans (D1:=D1) (λk L=>.inl (o.out k L)) p.out (qZ.kept0 G.out H.out))⟩
   |true=>
    have J:Hid _:=al;go_wp2_with (go_at_call 40;refine(yU _ bd S1 D1 B.out l).mono ?_;rintro e E ⟨rfl,⟨r,b,f⟩,d⟩;rw [J.out];have n:Hid _:=b;have o:Hid _:=f;have p:Hid _:=d;clear b f d);go_ret;have C:D1.fuse=0:=by have:=J.out;simpa using this
    have I:qL D ws=(false,D1):=by unfold qL xD;rw [ak.out,aw (by simp [C])]
    have aq:D1.flush=D1:=aB C;rw [I];have b:=n.out;rw [aq] at b;exact⟨rfl,qZ.trans (D1:=D1) s.out v.out ⟨⟨r,b,λk L=>.inl (o.out k L)⟩,p.out⟩⟩
theorem fc(b:ws.length<=62):(zK ws).Ok where
 kind:=by simp [zK]
 link:=by simp [zK]
 wide:=λi a=>by obtain⟨p,_,rfl⟩:=au.1 a;rw [zP];rfl
 fits:=by simp [zK,zk];omega
 few:=by simp [zK];omega
theorem Ym(ws:List (Nat×List Value))(k:Nat)(a:k<ws.length):(zK (ws.take k)).push (bytesOf 2 ws[k].1)=zK (ws.take (k+1)):=by
 unfold zK Pg.push;rw [ao a,eh];rfl
theorem xL(ws:List (Nat×List Value)):(qh ws).length=ws.length:=by simp [qh]
theorem vH(ws:List (Nat×List Value))(k:Nat)(a:k<ws.length):(qh ws)[k]'(by rw [xL];exact a)=(3+k,ws[k].2):=by simp [qh]
theorem fe{e wr d:World}{bd b:Nat}{S S1:Nat->Prop}(g:∀k,S k->k<w.heap.size)(l:w.heap.size<=b)(i:e.heap.size=b+1)(k0:za (λ_=>False) w e)(k1:za (λj=>S j\/j=b) e wr)(f:∀j,S1 j->S j\/e.heap.size<=j)(h:qZ wr d bd S1 D):qZ w d bd S D:=by
 refine qZ.trans (D1:=D) (S1:=S1) (λj c=>?_) ((k0.mono fE).trans k1 (λj c=>?_)) h
 .rcases f j c with a|a;.exact .inl a
  .right;omega
 .rcases c with a|a;.exact .inl a
  .right;omega
section
attribute [local go_sem ↓] js
theorem Yn(w:World)(bd:Nat)(S T:Nat->Prop)(D:Dk)(h:zg w bd S D)(a:Option Addr)(aS:Nat)(ws:List (Nat×List Value))(aX:uX w T a ws)(aN:∀k,S k->¬T k)(a3:∀k,T k->k<w.heap.size)
 (aI:zD D.fuse) (bm:D.ps.length<=34359738368) (a8:ws.length<=18):
 Calls Tryz.prog 179 #[.pointer (some ⟨bd,0,none⟩),.slice a ws.length aS] w λe w'=>e=.returned (.bool (qM D ws).1)/\qZ w w' bd S (qM D ws).2:=by
 obtain⟨ak,ao,bi⟩:∃ak:List Value,ak=yq/\∀w,(zeroValue 160).run Tryz.prog w=.ok (.agg ak.toArray) w:=⟨yq,rfl,zX Tryz.infoCw⟩;have aW:Hid (ak.length=129):=by rw [ao];exact congrArg (· +1) zG.1
 clear ao;obtain⟨ah,ay,bo⟩:∃ah:List Value,ah=zW/\∀w,(zeroValue 154).run Tryz.prog w=.ok (.agg ah.toArray) w:=⟨zW,rfl,zX Tryz.infoPage⟩;have aO:Hid (zS ah):=by rw [ay];exact zG
 clear ay;have ap:Hid _:=zY Tryz.infoCw;have aL:Hid _:=zY Tryz.infoBlock;have aV:Hid _:=zY Tryz.infoPage;have Z:Hid _:=yc (Pg.new_ok 1 (by omega));have ba:Hid (zg w bd S D):=h;have N:Hid _:=h.lt;change Hid _ at aX;clear h;go_enter Tryz.func179,Tryz.ntmps179
 go_wp2_with (first
  |(go_at_call 131;refine(jD _ 1 (by omega)).mono ?_;rintro e G ⟨rfl,r⟩;have au:Hid _:=r;clear r)
  |(show wpList _ _ _ ({dst:=none,op:=.store _ (.tmp 5) (.tmp 8),type:=_,pos:=_,after:=_,guard:=_}::_) _ _;refine zi rfl 154 (.tmp 5) (.tmp 8) rfl _ _ (zl (Pg.new 1)) (by simp) rfl rfl (by rw [Z.1];exact aV.out) (by rw [aq,aO.1,Z.1]) Z.2 ?_))
 have aK:Hid (qP (G.alloc (.cells (zl (Pg.new 1)).toArray 154)) G.heap.size (zK (ws.take 0))):=⟨⟨ac G _⟩,Pg.new_ok 1 (by omega)⟩;have I:Hid (za (λ_=>False) w (G.alloc (.cells (zl (Pg.new 1)).toArray 154))):=au.trans (za.alloc _ _ _) iL;have R:(G.alloc (.cells (zl (Pg.new 1)).toArray 154)).heap.size=G.heap.size+1:=by simp
 have aa:=au.size;generalize (G.alloc (.cells (zl (Pg.new 1)).toArray 154))=bk at*;generalize G.heap.size=d at*;go_loopw [11] (λt wr=>∃(k:Nat) (D1:Dk) (S1:Nat->Prop),k<=ws.length/\t=.int .i64 k/\qm D (qh ws)=qm D1 ((qh ws).drop k)/\zg wr bd S1 D1/\(∀j,S1 j->S j\/bk.heap.size<=j)/\za (λj=>S j\/j=d) bk wr/\qP wr d (zK (ws.take k))/\zD D1.fuse/\D1.ps.length<=D.ps.length+k) (λt _=>ws.length-(intOf t).toNat)
 case atStart=>exact⟨0,D,S,aj _,rfl,rfl,ba.kept I.out nF,λ_ h=>.inl h,za.refl _ _,aK.out,aI,by omega⟩
 case round=>
  obtain⟨k,D1,S1,aM,rfl,M,aE,x,r,K,o,a1⟩:=hrel;have ab:Hid (zg wr bd S1 D1):=aE;have y:(zK (ws.take k)).items.length=k:=by simp [zK];omega
  have Q:Hid (¬S1 d):=λa4=>by
   rcases x d a4 with p|p;.have:=N.out d p;omega
   .omega
  have aD:Hid _:=(aX.kept I.out nF).kept r (λj v ag=>by
   rcases ag with ag|ag;.exact aN j ag v
   .have:=a3 j v;omega)
  change Hid _ at M x r K;clear aE;by_cases A:k<ws.length
  .rcases aD.at_ with bc|⟨g,rfl,bh,bj,P⟩;.rw [bc] at A;simp at A
   .have a5:Hid _:=P k A;obtain⟨m,aT⟩:=aD.ok _ (ai A)
    have am:Hid (qm D1 ((qh ws).drop k)=if D1.writes (3+(k:Int))=true then qm (D1.write (3+(k:Int)) ws[k].2) ((qh ws).drop (k+1)) else (false,D1)):=by
     have:=bt (D:=D1) (ws:=qh ws) (k:=k) (by rw [xL];exact A);rw [vH ws k A] at this;have a7:((3+k:Nat):Int)=3+(k:Int):=by omega
     simp only [a7] at this;exact this
    have a0:Hid _:=Ym ws k A;generalize a6:ws[k]=q at*;obtain⟨u,l⟩:=q;change Hid _ at m;clear a6 P;simp only at aT;have U:Hid (za (λ_=>False) wr (wr.alloc (.cells (.int .i64 (u:Int)::l).toArray 160))):=za.alloc _ _ _
    go_wp2_with (first
     |(show wpList _ _ _ ({dst:=some 15,op:=.load _ _,type:=_,pos:=_,after:=_,guard:=_}::_) _ _;refine wpList_load_mid rfl 160 (.tmp 14) rfl _ _ rfl (.int .i64 (u:Int)::l) _ a5.out Tryz.underlying160 rfl (by rw [ae,m.1];exact ap.out) ?_)
     |(show wpList _ _ _ ({dst:=none,op:=.store _ (.tmp 7) (.tmp 15),type:=_,pos:=_,after:=_,guard:=_}::_) _ _;refine zi rfl 160 (.tmp 7) (.tmp 15) rfl _ _ (.int .i64 (u:Int)::l) rfl rfl rfl (by rw [ae,m.1];exact ap.out) (by rw [ae,m.1];simpa using aW.out) (aQ.2 ⟨rfl,m.2⟩) ?_))
    have av:(wr.alloc (.cells (.int .i64 (u:Int)::l).toArray 160)).cell? ⟨wr.heap.size,0,none⟩=some (.int .i64 (u:Int)):=by simp
    have az:Hid _:=K.kept U.out (λaF=>aF);have aZ:Hid ((wr.alloc (.cells (.int .i64 (u:Int)::l).toArray 160)).heap[wr.heap.size]? =some (.cells (.int .i64 (u:Int)::l).toArray 160 (0,0))):=ac wr _;have bn:=K.bs.lt;have bb:(wr.alloc (.cells (.int .i64 (u:Int)::l).toArray 160)).heap.size=wr.heap.size+1:=by simp
    have aP:Hid (vd d (zK (ws.take k)).kind (zK (ws.take k)).items.length 1=.slice (some ⟨d,4+k*2,none⟩) 2 (124-k*2)):=by show vd d (zK (ws.take k)).kind (zK (ws.take k)).items.length 1=_;rw [y];rfl
    have aU:(zK (ws.take k)).items.length*zk (zK (ws.take k)).kind=k*2:=by rw [y];rfl
    generalize (wr.alloc (.cells (.int .i64 (u:Int)::l).toArray 160))=H at*
    go_region_held3 (λw'=>w'.cell? ⟨wr.heap.size,0,none⟩=some (.int .i64 (u:Int))) (go_keep) ((first
     |(go_at_call 133;refine(ve _ d _ (by exact az.kept (za.drew (λ_=>False) H) (λaF=>aF)) 1 (by rw [y];show (k+1)*2<=124;omega) (by rw [y];omega) (by show 1<=1*2;omega)).mono ?_;rintro e a2 ⟨rfl,ad,L⟩;rw [aP.out];have aH:=(L.cell (a:=⟨wr.heap.size,0,none⟩) (by show wr.heap.size<H.drew.heap.size;have:H.drew.heap.size=H.heap.size:=rfl;omega) (by show ¬wr.heap.size=d;omega)).trans av;change Hid _ at ad L)
     |(go_at_call 138;refine(qO _ d _ _ ad.bs (4+k*2) 2 (124-k*2) (by rw [ad.ok.len];omega) (by omega) u (by omega)).mono ?_;rintro e af ⟨rfl,aA,Y⟩;have bg:=(Y.cell (a:=⟨wr.heap.size,0,none⟩) (by show wr.heap.size<a2.heap.size;have p:=L.size;have:H.drew.heap.size=H.heap.size:=rfl;omega) (by show ¬wr.heap.size=d;omega)).trans aH;change Hid _ at aA Y)))
    have E:za (λi=>i=d) H af:=((za.drew _ H).trans L.out iL).trans Y.out iL
    have aJ:Hid (qP af d (zK (ws.take (k+1)))):=by have p:=aA.out;have aC:=az.ok.push_over (bytesOf 2 u) (by rw [zP];rfl) (by rw [y];show (k+1)*2<=124;omega);rw [aU] at aC;rw [aC,a0.out] at p;exact⟨p,fc (by simp;omega)⟩
    have ar:Hid _:=(E.block wr.heap.size (by omega) (by show ¬wr.heap.size=d;omega)).trans aZ.out;have al:Hid (zg af bd S1 D1):=(ab.kept U.out nF).kept E (λj v e=>Q.out (by rw [<-e];exact v));have F:=(r.trans U.out fE).trans E (λj v=>.inl (.inr v));change Hid _ at F;clear av E
    cases O:D1.writes (3+(k:Int)) with
    |true=>
     have C:Hid _:=O;clear O
     go_wp2_with (first
      |(show wpList _ _ _ ({dst:=some 24,op:=.load _ _,type:=_,pos:=_,after:=_,guard:=_}::_) _ _;refine wpList_load_mid rfl 131 (.tmp 23) rfl _ _ rfl l _ (qX ar.out) Tryz.underlying131 rfl (by rw [m.1];exact aL.out) ?_)
      |(go_at_call 146;refine(yT _ bd S1 D1 al.out (3+(k:Int)) (by constructor<;>omega) l m.out o (by omega)).mono ?_;rintro e bf ⟨rfl,⟨J,b,f⟩,c⟩;rw [C.out];have z:Hid _:=b;have B:Hid _:=f;have s:Hid _:=c;clear b f c))
     go_roundw
     case rel=>
      refine⟨k+1,D1.write (3+(k:Int)) l,J,by omega,by go_num,by rw [M.out,am.out,aB C.out],z.out,λj v=>?_,F.trans s.out (λj v=>?_),aJ.kept s.out Q.out,jv _ _ o,by have:=uT (D:=D1) (3+(k:Int)) l;omega⟩
      .rcases B.out j v with p|p;.exact x.out j p
       .right;have:=F.size;omega
      .rcases x.out j v with p|p;.exact .inl (.inl p)
       .exact .inr p
     case measure=>simp [intOf];omega
    |false=>
     have C:Hid _:=O;clear O
     go_wp2_with (first
      |(show wpList _ _ _ ({dst:=some 24,op:=.load _ _,type:=_,pos:=_,after:=_,guard:=_}::_) _ _;refine wpList_load_mid rfl 131 (.tmp 23) rfl _ _ rfl l _ (qX ar.out) Tryz.underlying131 rfl (by rw [m.1];exact aL.out) ?_)
      |(go_at_call 146;refine(yT _ bd S1 D1 al.out (3+(k:Int)) (by constructor<;>omega) l m.out o (by omega)).mono ?_;rintro e bf ⟨rfl,⟨J,b,f⟩,c⟩;rw [C.out];have z:Hid _:=b;have B:Hid _:=f;have s:Hid _:=c;clear b f c))
     go_ret;have be:qm D (qh ws)=(false,D1):=by rw [M.out,am.out,aw (by rw [C.out];simp)]
     have W:qM D ws=(false,D1):=by unfold qM xD;rw [be];simp
     rw [W];have b:=z.out;rw [bu l C.out] at b;exact⟨rfl,fe N.out aa R I.out F.out x.out ⟨⟨J,b,B.out⟩,s.out⟩⟩
  .have aY:Hid (qm D (qh ws)=(true,D1)):=by show _=_;rw [M.out,eo (by rw [xL];omega)];rfl
   have aR:Hid (qP wr d (zK ws)):=by have:=K.out;rw [an (by omega)] at this;exact this
   have ax:Hid (zS (zl (zK ws))):=yc (fc (by omega))
   cases n:(D1.fuse==0) with
   |false=>
    have X:Hid _:=n;clear n
    go_wp2_with (first
     |(go_at_call 40;refine(yU _ bd S1 D1 ab.out o).mono ?_;rintro e aG ⟨rfl,⟨J,b,f⟩,c⟩;rw [X.out];have z:Hid _:=b;have B:Hid _:=f;have s:Hid _:=c;have bl:(uK (.pointer (some ⟨d,0,none⟩))).run Tryz.prog aG=.ok (.agg (zl (zK ws)).toArray) aG:=xI _ _ _ _ (zQ (aR.kept c Q.out).bs.at_) ax.1;clear b f c)
     |(go_at_call 147;refine(fK _ bd J D1.flush z.out (zl (zK ws)) ax.out (jw o) (by have:=uY (D:=D1);omega)).mono ?_;rintro e af ⟨rfl,V⟩;change Hid _ at V))
    go_ret
    have W:qM D ws=xn D1.flush (zl (zK ws)):=by
     have n:D1.fuse≠0:=by have:=X.out;simpa using this
     unfold qM xD;rw [aY.out,aB ⟨rfl,n⟩]
    rw [W];exact⟨by simp,fe N.out aa R I.out r.out x.out (qZ.trans (D1:=D1) (λk aM=>.inl (B.out k aM)) s.out V.out)⟩
   |true=>
    have X:Hid _:=n;clear n;go_wp2_with (go_at_call 40;refine(yU _ bd S1 D1 ab.out o).mono ?_;rintro e aG ⟨rfl,⟨J,b,f⟩,c⟩;rw [X.out];have z:Hid _:=b;have B:Hid _:=f;have s:Hid _:=c;clear b f c);go_ret;have n:D1.fuse=0:=by have:=X.out;simpa using this
    have W:qM D ws=(false,D1):=by unfold qM xD;rw [aY.out,aw (by simp [n])]
    have a9:D1.flush=D1:=aB n;rw [W];have b:=z.out;rw [a9] at b;exact⟨rfl,fe N.out aa R I.out r.out x.out ⟨⟨J,b,λj v=>.inl (B.out j v)⟩,s.out⟩⟩
end
theorem bw:∀(ws:List (Nat×List Value)) (D:Dk),zD D.fuse->zD (qm D ws).2.fuse
 |[],D,h=>h
 |p::ws,D,h=>by
  unfold qm;split;.exact bw ws _ (jv _ _ h)
  .exact h
theorem Yo:∀(ws:List (Nat×List Value)) (D:Dk),(qm D ws).2.ps.length<=D.ps.length+ws.length
 |[],D=>aF _
 |p::ws,D=>by
  unfold qm;split
  .have a:=Yo ws (D.write p.1 p.2);have h2:=uT (D:=D) p.1 p.2;simp only [ae];omega
  .simp only [ae];omega
theorem XN(h:zD D.fuse):zD (xn D b).2.fuse:=by
 unfold xn;split;.exact jw (jv _ _ h)
 .exact h
theorem Uf:(xn D b).2.ps.length<=D.ps.length+1:=by
 unfold xn;split
 .have a:=uY (D:=D.write 0 b);have h2:=uT (D:=D) 0 b;show (D.write 0 b).flush.ps.length<=_;omega
 .show D.ps.length<=_;omega
theorem XO{r:Bool×Dk}(h:zD r.2.fuse):zD (xD r b).2.fuse:=by
 unfold xD;split;.exact XN (jw h)
 .exact h
theorem Ug{r:Bool×Dk}:(xD r b).2.ps.length<=r.2.ps.length+1:=by
 unfold xD;split
 .have a:=Uf (D:=r.2.flush) (b:=b);have h2:=uY (D:=r.2);omega
 .show r.2.ps.length<=_;omega
theorem XP(h:zD D.fuse):zD (qM D ws).2.fuse:=XO (bw _ _ h)
theorem Uh:(qM D ws).2.ps.length<=D.ps.length+ws.length+1:=by
 have a:=Ug (r:=qm D (qh ws)) (b:=zl (zK ws));have h2:=Yo (qh ws) D;rw [xL] at h2;unfold qM;omega
theorem Yp(w:World)(d bd:Nat)(S T:Nat->Prop)(D:Dk)(C:Ck)(h:Cw w d bd S T D C)(x:∀p∈C.ws,p.1<65536)(v:C.ws.length<=18)(r:zD D.fuse)(M:D.ps.length<=17179869184)(F:(qM D C.ws).1=true):
 Calls Tryz.prog 140 #[.pointer (some ⟨d,0,none⟩)] w λe w'=>e=.returned (.bool (qj D C.ws).1)/\qZ w w' bd S (qj D C.ws).2:=by
 have J:Hid _:=h;obtain⟨a,n,j⟩:=h.chg;have O:=j.c0;have N:=j.c1;have G:Hid _:=j.rows x;have B:Hid _:=j.lt;have o:=j.bcT;have s:=j.lt d o;have m:Hid _:=h.apart;change Hid _ at j;clear h
 .have H:Hid _:=F;clear F;go_enter Tryz.func140,Tryz.ntmps140;go_wp2
  go_region_held3 (λw'=>w'.cell? ⟨d,0,none⟩=some (.pointer (some ⟨bd,0,none⟩))/\w'.cell? ⟨d,1,none⟩=some (.slice a C.ws.length n)) (go_keep) ((first
   |(go_at_call 179;refine(Yn _ bd S T D (by exact J.disk.kept (za.drew (λ_=>False) w) nF) a n C.ws (by exact G.kept (za.drew (λ_=>False) w) nF) m (by exact B) r (by omega) v).mono ?_;rintro e P ⟨rfl,⟨⟨S1,u,i⟩,c⟩⟩;rw [H.out];have q:=(j.kept (za.drew (λ_=>False) w) nF).kept c (λk f E=>m k E f);have y:=q.c0;have z:=q.c1;change Hid _ at u i c;clear q)
   |(go_at_call 85;refine(bv _ bd S1 T (qM D C.ws).2 u a n C.ws ((G.kept (za.drew (λ_=>False) w) nF).kept c (λk f E=>m k E f)) (λk f t=>by rcases i k f with g|g;exact m k g t;have h2:=B.out k t;have:w.drew.heap.size=w.heap.size:=rfl;omega) (λk f=>ay (B k f) c.size) (XP r) (by have:=Uh (D:=D) (ws:=C.ws);omega)).mono ?_;rintro e Q ⟨rfl,l⟩;have I:=(l.kept.cell (a:=⟨d,0,none⟩) (ay s c.size) (λA=>by rcases i d A with g|g;exact m d g o;have:w.drew.heap.size=w.heap.size:=rfl;omega)).trans y;have L:=(l.kept.cell (a:=⟨d,1,none⟩) (ay s c.size) (λA=>by rcases i d A with g|g;exact m d g o;have:w.drew.heap.size=w.heap.size:=rfl;omega)).trans z;change Hid _ at l)))
  go_wp2;go_ret;have K:qj D C.ws=qL (qM D C.ws).2 C.ws:=aB H.out;rw [K];exact⟨rfl,qZ.trans (D1:=D) (S1:=S1) (λk f=>i k f) (za.trans (S':=S) (b:=w.drew) kD c iL) l⟩
theorem Yq(w:World)(bd:Nat)(S:Nat->Prop)(D:Dk)(h:zg w bd S D)(f:zD D.fuse)(d:(D.fuse==0)=true):
 Calls Tryz.prog 55 #[.pointer (some ⟨bd,0,none⟩)] w λe w'=>e=.returned (.bool false)/\qZ w w' bd S D:=by
 change Hid _ at h d;go_enter Tryz.func55,Tryz.ntmps55;go_wp2_with (go_at_call 40;refine(yU _ bd S D h f).mono ?_;rintro e n ⟨rfl,⟨l,a,b⟩,c⟩;rw [d.out];have g:Hid _:=a;change Hid _ at b c;clear a);go_ret;have i:D.fuse=0:=by have:=d.out;simpa using this
 have j:D.flush=D:=aB i;have a:=g.out;rw [j] at a;exact⟨rfl,⟨l,a,λk m=>.inl (b k m)⟩,c⟩
theorem Yr(w:World)(bd:Nat)(S:Nat->Prop)(D:Dk)(h:zg w bd S D)(s:zD D.fuse)(E:(D.fuse==0)=false)(F:0<=D.reads)(C:D.reads<=4611686018427387904)(p:Pg)(r:p.Ok)(A:D.flush.look 0=zl p)(t:p.items.length=0):
 Calls Tryz.prog 55 #[.pointer (some ⟨bd,0,none⟩)] w λe w'=>e=.returned (.bool true)/\qZ w w' bd S {D.flush with reads:=D.reads+1}:=by
 obtain⟨f,j,J⟩:∃f:List Value,f=zW/\∀w,(zeroValue 154).run Tryz.prog w=.ok (.agg f.toArray) w:=⟨zW,rfl,zX Tryz.infoPage⟩;have y:Hid (zS f):=by rw [j];exact zG
 clear j;have v:Hid _:=zY Tryz.infoPage;have G:Hid _:=h;have c:Hid _:=yc r;have x:D.flush.reads=D.reads:=by unfold Dk.flush;split<;>rfl
 have a:Hid _:=x;have H:Hid p.Ok:=r;change Hid _ at E A t;clear h r;go_enter Tryz.func55,Tryz.ntmps55
 go_wp2_with (first
  |(go_at_call 40;refine(yU _ bd S D G s).mono ?_;rintro e I ⟨rfl,⟨g,n,d⟩,l⟩;rw [E.out];have o:Hid (zg I bd g D.flush):=n;change Hid _ at d l;clear n)
  |(go_at_call 81;refine(jk _ bd g D.flush o 0 (by constructor<;>omega) (by rw [a.out];exact F) (by rw [a.out];exact C)).mono ?_;rintro e b ⟨rfl,i,m⟩;rw [A.out];have z:Hid (zg b bd g {D.flush with reads:=D.flush.reads+1 }):=i;change Hid _ at m;clear i)
  |(show wpList _ _ _ ({dst:=none,op:=.store _ (.tmp 3) (.tmp 10),type:=_,pos:=_,after:=_,guard:=_}::_) _ _;refine zi rfl 154 (.tmp 3) (.tmp 10) rfl _ _ (zl p) (by simp) rfl rfl (by rw [c.1];exact v) (by rw [aq,y.1,c.1]) c.2 ?_;have B:Hid (qP (b.alloc (.cells (zl p).toArray 154)) b.heap.size p):=⟨⟨ac b _⟩,H⟩)
  |(go_at_call 82;refine(vx _ _ _ B).mono ?_;rintro e K ⟨rfl,rfl⟩;rw [t.out]))
 go_ret;have u:=z.kept (za.alloc (λ_=>False) b (.cells (zl p).toArray 154)) nF;rw [a.out] at u;refine⟨rfl,⟨g,u,λk q=>.inl (d k q)⟩,(l.trans m (λk q=>.inl (d k (by rw [q];exact o.bdS)))).trans (za.alloc _ _ _) iL⟩
end prog
namespace prog
open Go.MuLone
open keys (zh zd zx zq zp)
theorem Ys(w:World)(bs b bd:Nat)(T:Nat->Prop)(C:Ck)(h:Chg w b bd T C)(c:(C.full||decide (18<C.ws.length))=true):
 Calls Tryz.prog 78 #[.pointer (some ⟨bs,0,none⟩),.pointer (some ⟨b,0,none⟩)] w λe w'=>e=.returned (.int .i64 6)/\w'=w:=by
 change Hid _ at h c;go_enter Tryz.func78,Tryz.ntmps78;go_wp2_with (go_at_call 139;refine(dP w b bd T C h).mono ?_;rintro e d ⟨rfl,a⟩;rw [a,c.out];clear a d);go_ret;exact⟨rfl,rfl⟩
end prog
end Go.Proofs.YtcoengihaobddaaGreatDoor
