/- Part 15 of 50 of a proof: BWrite2, Log2, Log3, Log4, Log5, Add1, At2 -/
import Derived.Test.YtcoengihaobddaaGreatDoorJe14
set_option maxHeartbeats 8000000
set_option linter.unusedVariables false
set_option linter.unusedSimpArgs false
set_option maxRecDepth 8000
namespace Go.Proofs.YtcoengihaobddaaGreatDoor
open Go.ChangeShapes Go.WideShapes Go.ChangeAt Go.RowKit disk ref
namespace prog
open keys (zg zd zq zl)
attribute [local go_sem] Oper.semAt_some
variable {vs:List Value}
theorem Uj(n:World)(g:Nat)(a:Option Addr)(c:Nat)(enc:Nat->Value)(e:Int->List Nat->World->Prop)
 (d:∀r pre A,e r pre A->A.heap[g]? =some (.cells #[.slice a 0 c] 178 (0,0))):
 gi Tryz.prog 169 #[.pointer (some ⟨g,0,none⟩)] (λi:Nat=>#[.int .i64 (i:Int),enc i]) (λ_=>False) e (λr pre i A=>r=0/\(pre++[i])<+:xl 0) (λr o=>r=0/\o=xl 0) (λ_ _=>True) 0 n:=by
 intro l p q f h j b;have m:PLift (p 0 [] (λ_=>False) n):=⟨b⟩;have k:=d _ _ _ (f _ _ _ _ b).1;have s:n.cell? ⟨g,0,none⟩=some (.slice a 0 c):=cR k rfl;clear f h j b d k;go_enter Tryz.func169,Tryz.ntmps169;go_wp2_with fail;go_loopw [3] (λt wr=>t=.int .i64 (-1)/\wr=n) (λt _=>0)
 case atStart=>exact⟨rfl,rfl⟩
 case round=>
  obtain⟨rfl,rfl⟩:=hrel;go_wp2;go_end0;exact⟨⟨_,rfl⟩,.inl ⟨0,[],λ_=>False,⟨rfl,rfl⟩,m.down⟩⟩
theorem Uk(p:World)(e:Nat)(a:Option Addr)(m c:Nat)(vs:List Value)(j:vs.length=m)(q:m<=1000)(enc:Nat->Value)(f:∀i (h:i<vs.length),vs[i]=enc i)(t:∀i,∃a n c,enc i=.slice a n c)(s:0<m->∃g,a=some ⟨g,0,none⟩)(b:Int->List Nat->World->Prop)
 (d:∀r pre A,b r pre A->A.heap[e]? =some (.cells #[.slice a m c] 178 (0,0))/\A.ownsRow 0 35 1 (.slice a m c) m vs)
 (k:∀r pre A B,b r pre A->Kept (λ_=>False) A B->b r pre B):
 gi Tryz.prog 169 #[.pointer (some ⟨e,0,none⟩)] (λi:Nat=>#[.int .i64 (i:Int),enc i]) (λ_=>False) b (λr pre i A=>r=0/\(pre++[i])<+:xl m) (λr l=>r=0/\l=xl m) (λ_ _=>True) 0 p:=by
 by_cases o:0<m
 .obtain⟨g,rfl⟩:=s o;exact GB p e g m c vs j q enc f t b d k
 .obtain rfl:m=0:=by omega
  exact Uj p e a c enc b (λr pre A h=>(d r pre A h).1)
theorem GU{w:World}{e:TypeId}{a:Option Addr}{n c:Nat}(h:w.ownsRow 0 e 1 (.slice a n c) n vs)(i:0<n):∃g,a=some ⟨g,0,none⟩/\g<w.heap.size:=by
 rcases h.2 with⟨_,b⟩|⟨g,cap,f,b,_,d,_⟩;.omega
 .simp only [Value.slice.injEq] at b;exact⟨g,b.1,(lT d)⟩
theorem BW{w:World}{e:TypeId}{v:Value}{n:Nat}(h:w.ownsRow 0 e 1 v n vs):∀k,v.ownBlock=some k->k<w.heap.size:=by
 intro k a;rcases h.2 with⟨rfl,d⟩|⟨g,cap,c,rfl,_,b,_⟩;.cases a
 .simp [Value.ownBlock] at a;subst a;exact(lT b)
structure Wo (w1:World) (bc bd:Nat) (S T:Nat->Prop) (D:Dk) (C:Ck) (m:List UInt8) (ls:List (List UInt8)) (b2 b6 bb:Nat) (v:Value) (vs:List Value) (r:Int) (pre:List Nat) (Q:Nat->Prop) (A:World):Prop where
 st:∃(f:Nat) (C1:Ck) (m1:List UInt8) (n:Int) (T1:Nat->Prop),C.body D.bs.length m (ls.drop (ls.length-pre.length))=(f,C1,m1)/\0<=n/\n<=pre.length/\Cw A bc bd S T1 {D with reads:=D.reads+n} C1/\(∀j,T1 j->T j\/w1.heap.size+2<=j)/\A.heap[b6]? =some (.cells #[.int .i64 (f:Int)] 3 (0,0))/\∀k,Q k↔T1 k/\w1.heap.size+2<=k
 len:pre.length<=ls.length
 box:A.heap[b2]? =some (.cells #[.pointer (some ⟨bc,0,none⟩)] 142 (0,0))
 back:A.heap[bb]? =some (.cells #[v] 178 (0,0))/\A.ownsRow 0 35 1 v ls.length vs
 kept:Kept (λk=>k=bd\/T k\/k=b6\/w1.heap.size<=k) w1 A
 r:r=0
theorem Wo.by{a:World}{x bd:Nat}{S T:Nat->Prop}{D:Dk}{C:Ck}{m:List UInt8}{u:List (List UInt8)}{p l o:Nat}{v:Value}{r s:Int}{pre:List Nat}{Q L:Nat->Prop}{A B:World}(h:Wo a x bd S T D C m u p l o v vs r pre Q A)(c:Kept L A B)(q:∀k,L k->a.heap.size<=k/\k<=a.heap.size+1)(I:s=0)(O:∀k,S k->k<a.heap.size)(H:∀k,T k->k<a.heap.size)(z:p<a.heap.size)(N:l<a.heap.size)(t:o<a.heap.size)(F:∀k,v.ownBlock=some k->k<a.heap.size):Wo a x bd S T D C m u p l o v vs s pre Q B:=by
 obtain⟨f,K,J,n,E,k1,k2,k3,P,w,y,G⟩:=h.st;have d:∀b,b<a.heap.size->¬L b:=λb t g=>by have:=q b g;omega
 refine⟨⟨f,K,J,n,E,k1,k2,k3,P.kept c (λj e=>d j (O j e)) (λj e g=>?_),w,(c.block _ (lT y) (d _ N)).trans y,G⟩,h.len,(c.block _ (lT h.box) (d _ z)).trans h.box,⟨(c.block _ (lT h.back.1) (d _ t)).trans h.back.1,c.owns h.back.2 (λj e=>d j (F j e))⟩,h.kept.trans c (λi M=>.inl (.inr (.inr (.inr (q i M).1)))),I⟩;rcases w j e with h|h;.exact d j (H j h) g
 .have:=q j g;omega
section
attribute [local go_sem ↓] kh BQ
theorem Ka(w:World)(z bd:Nat)(S T:Nat->Prop)(D:Dk)(C:Ck)(h:Cw w z bd S T D C)(m:List UInt8)(cf:qP (C.look D 2) m)(de:0<=D.reads)(c9:D.reads<=4611686018427380000)(P:Nat->Prop)(a:Option Addr)(cap:Nat)(l:List UInt8)(bI:zu w P a l)(bj:∀j,P j->¬T j)(bw:∀j,P j->j≠bd)(cT:l.length<=300)(cy:l.length<=cap)(cd:cap<=9223372036854775807)(c4:D.bs.length<=1000)(c3:C.ws.length<600)(bQ:Nat)(ch:Ck)(c0:List UInt8)(aA:C.body D.bs.length m (zZ l)=(bQ,ch,c0)):
 Calls Tryz.prog 75 #[.pointer (some ⟨z,0,none⟩),.slice a l.length cap] w λe w'=>e=.returned (.int .i64 (bQ:Int))/\(∃(n:Int) (co:Nat->Prop),0<=n/\n<=3/\Cw w' z bd S co {D with reads:=D.reads+n} ch/\∀j,co j->T j\/w.heap.size<=j)/\Kept (λj=>j=bd\/T j) w w':=by
 have c2:Hid _:=h;have cs:Hid (zu w P a l):=bI;have da:=h.disk.lt bd h.disk.bdS;have X:Hid _:=h.chg.lt;have ad:Hid _:=h.disk.lt
 have cn:0<l.length->∃g Z,a=some ⟨g,Z,none⟩:=λao=>by
  rcases bI with s|⟨b,Z,s,_⟩;.rw [s] at ao;simp at ao
  .exact⟨b,Z,s⟩
 change Hid _ at cf bj bw aA cn;clear h bI;refine yT Tryz.func75 rfl ?_;simp only [Tryz.ntmps75,aw,ae,ix,Nat.reduceAdd,Nat.reduceSub,iX,iY,lp,i7,aH,a9];have bZ:Hid (((room 6:Nat):Int)=124):=by show ((room 6:Nat):Int)=124;decide
 go_wp2_with (go_at_call 129;refine(vo _ 6 (by decide)).mono ?_;rintro e w0 ⟨rfl,bz⟩;rw [bz,bZ.out];clear bz w0);have cm:Hid (Kept (λ_=>False) w (w.alloc (.cells #[.pointer (some ⟨z,0,none⟩)] 142))):=Kept.alloc _ _ _;have bx:Hid ((w.alloc (.cells #[.pointer (some ⟨z,0,none⟩)] 142)).heap[w.heap.size]? =some (.cells #[.pointer (some ⟨z,0,none⟩)] 142 (0,0))):=heap_alloc_new w _;have ca:(w.alloc (.cells #[.pointer (some ⟨z,0,none⟩)] 142)).heap.size=w.heap.size+1:=by simp
 generalize (w.alloc (.cells #[.pointer (some ⟨z,0,none⟩)] 142))=cQ at*;refine(VX cQ a l.length cap).mono ?_;rintro e cw ⟨rfl,bE,bh,V,b3⟩;have a1:Hid _:=bE;have af:Hid _:=bh;have bv:Hid _:=V;rw [ca] at a1 af b3;clear bE bh V;go_wp2_with fail;refine(Xu cw _ _ a l.length cap cT cy cd cn a1 af).mono ?_;rintro e d ⟨⟨g,Z,R,O,br,rfl,M,aE⟩,L⟩;have bA:Hid _:=L;have c8:=L.size;change Hid _ at br M aE;clear L;go_wp2_with fail;have cr:Hid (Kept (λ_=>False) d (d.alloc (.cells #[.int .i64 0] 3))):=Kept.alloc _ _ _;have bt:Hid ((d.alloc (.cells #[.int .i64 0] 3)).heap[d.heap.size]? =some (.cells #[.int .i64 0] 3 (0,0))):=heap_alloc_new d _;have bu:(d.alloc (.cells #[.int .i64 0] 3)).heap.size=d.heap.size+1:=by simp
 generalize (d.alloc (.cells #[.int .i64 0] 3))=cJ at*;have bk:(yh l.length).length=(zZ l).length:=by rw [xu,vy]
 rw [bk] at M aE ⊢;have dh:(zZ l).length<=3:=by rw [xu];omega
 have ct:Hid (∀k,(Value.slice R (zZ l).length O).ownBlock=some k->cw.heap.size<=k/\k<d.heap.size):=λk q=>⟨aE k q,BW M k q⟩;clear bk aE;refine(QV cJ (.slice R (zZ l).length O) rfl R _ O rfl).mono ?_;rintro e N ⟨rfl,bD,a4,bn⟩;have bC:Hid _:=bD;rw [bu] at bC bn;change Hid _ at a4;clear bD;have ap:Hid _:=cr.trans a4 iL;have am:Hid (Kept (λ_=>False) w N):=((cm.trans bv iL).trans bA iL).trans ap iL;have bL:Hid _:=(bv.trans bA iL).trans ap iL;have bO:Hid (N.heap[w.heap.size]? =_):=(bL.block _ (by omega) id).trans bx.out;have bP:Hid (N.heap[d.heap.size]? =_):=(a4.block _ (by omega) id).trans bt.out;have aX:Hid _:=ap.owns M nF;clear bx bt M a1 af;rw [bu];go_wp2_with fail
 have bH:Hid (∀bb,Kept (λ_=>False) N bb->bb.heap.size=N.heap.size+2->gi Tryz.prog 169 #[.pointer (some ⟨d.heap.size+1,0,none⟩)] (λi:Nat=>#[.int .i64 (i:Int),yA g Z l.length (i*124)]) (λ_=>False) (λr _ A=>A.heap[d.heap.size+1]? =some (.cells #[.slice R (zZ l).length O] 178 (0,0))/\A.ownsRow 0 35 1 (.slice R (zZ l).length O) (zZ l).length ((yh l.length).map (yA g Z l.length))/\r=0) (λr pre i A=>r=0/\(pre++[i])<+:xl (zZ l).length) (λr bK=>r=0/\bK=xl (zZ l).length) (λ_ _=>True) 0 bb):=λbb q c6=>
  Uk bb (d.heap.size+1) R (zZ l).length O ((yh l.length).map (yA g Z l.length)) (by rw [eF,xu,vy]) (by omega) (λi=>yA g Z l.length (i*124)) (λi t=>by simp [yh]) (λi=>⟨_,_,_,rfl⟩) (λao=>by obtain⟨cY,s,_⟩:=GU aX ao;exact⟨cY,s⟩) _ (λr pre A h=>⟨h.1,h.2.1⟩)
   (λr pre A B h q=>⟨(q.block _ (lT h.1) id).trans h.1,q.owns h.2.1 nF,h.2.2⟩)
 have G:Hid _:=ct.out
 refine vx (α:=Nat) (gf:= 169) (lb:=#[.pointer (some ⟨d.heap.size+1,0,none⟩)]) rfl (enters_of Tryz.func169 (by kernel_rfl) rfl) bH.out
  (λk q=>q.elim) (λ_=>rfl)
  (Wo N z bd S T D C m (zZ l) w.heap.size d.heap.size (d.heap.size+1) (.slice R (zZ l).length O) ((yh l.length).map (yA g Z l.length))) (λc r pre A=>False)
  (λr pre Q A h=>⟨⟨h.back.1,h.back.2,h.r⟩,λk q=>by
   obtain⟨f,aS,a6,n,U,k1,k2,k3,an,aQ,ar,aO⟩:=h.st;have s:=(aO k).1 q;have x:=an.chg.lt k s.1
   omega⟩)
  (λr dp pre Q A B h dt q t=>h.by q (λk q=>q.elim) t.2.2 (λk q=>by have:=ad.out k q;omega) (λk q=>by have:=X.out k q;omega) (by omega) (by omega) (by omega) (λk q=>by have:=G.out k q;omega))
  (λr pre Q A B h q=>h.by q (λk q=>by omega) h.r (λk q=>by have:=ad.out k q;omega) (λk q=>by have:=X.out k q;omega) (by omega) (by omega) (by omega) (λk q=>by have:=G.out k q;omega))
  (λc r pre A B h q=>h)
  ⟨⟨0,C,m,0,T,by rw [ix,Nat.sub_zero,lA];rfl,eD _,by simp,by rw [Int.add_zero];exact c2.kept0 am,λj o=>.inl o,bP,λk=>⟨λh=>h.elim,λh=>by have:=X.out k h.1;omega⟩⟩,ai _,bO,⟨bC,aX⟩,Kept.refl _ _,rfl⟩
  (λE ck A=>ck={tmps:=#[.pointer (some ⟨z,0,none⟩),.slice a l.length cap,.pointer (some ⟨w.heap.size,0,none⟩),undef,.int .i64 0,.slice R (zZ l).length O,.pointer (some ⟨d.heap.size,0,none⟩),undef,yA g Z l.length (E*124),undef,.slice a l.length cap,.int .i64 124,.func (.func 168) #[] #[.pointer (some ⟨w.heap.size+1,0,none⟩),.pointer (some ⟨w.heap.size+1+1,0,none⟩)],.slice R (zZ l).length O,.slice R (zZ l).length O,.func (.func 169) #[] #[.pointer (some ⟨d.heap.size+1,0,none⟩)],.int .i64 (E:Int),yA g Z l.length (E*124),undef,undef,undef,undef,undef,undef,undef,undef,undef,undef,undef,undef,undef,undef,undef],defers:=[] })
  (λE a A B h q=>h) (λr pre E A B h q=>h) ?assign ?body ?done ?stop
 case assign=>
  intro ak r pre E Q A dv t aP b8 ba;gi_wp2;exact ba _ _ (Kept.refl _ _) t aP rfl
 case body=>
  rintro ak r pre E Q ck A t aP rfl b8;obtain⟨f,aS,a6,n,U,k1,k2,k3,an,aQ,ar,aO⟩:=t.st;obtain⟨ds,a7⟩:=aP.2
  have ci:pre.length<(zZ l).length:=by have:=et List.length a7;rw [uP] at this;simp at this;omega
  have cB:E=(zZ l).length-1-pre.length:=by
   have aW:(xl (zZ l).length)[pre.length]? =some E:=by rw [<-a7];simp
   simp only [xl] at aW;rw [List.getElem?_reverse (by simpa using ci),i3,List.getElem?_range (by omega)] at aW;exact(aK aW).symm
  have I:E<(zZ l).length:=by omega
  have aM:(zZ l).drop ((zZ l).length-(pre++[E]).length)=jy l (E*124)::(zZ l).drop ((zZ l).length-pre.length):=by rw [ah,iG,show (zZ l).length-(pre.length+1)=E from by omega,show (zZ l).length-pre.length=E+1 from by omega,aL I,dl]
  have aC:E*124<l.length:=by rw [xu] at I;omega
  have a8:=cO (jy l (E*124)) (by rw [<-dl l E I];exact ag _);have aJ:=cP cf c4 _ _ _ _ k1;have cv:Hid _:=aJ.1;have aG:=aJ.2.2;have dc:aS.ws.length<700:=by have:=aJ.2.1;have:((zZ l).drop ((zZ l).length-pre.length)).length<=3:=(by rw [aU];omega);omega
  have bX:Hid (zu A P (some ⟨g,Z+E*124,none⟩) (jy l (E*124))):=by
   have s:=(cs.kept am nF);show zu A P _ _;have ao:=br.out (by omega);rw [ao] at s;rcases s with s|⟨b,bM,aT,ac,J,Y⟩;.rw [s] at aC;simp at aC
   .cases aT;refine .inr ⟨g,Z+E*124,rfl,ac,au J t.kept.size,λj o=>?_⟩
    have c5:g<w.heap.size:=by
     rcases cs.out with x|⟨du,dq,aR,_,bJ,_⟩;.rw [x] at aC;simp at aC
     .rw [ao] at aR;cases aR;exact bJ
    have cx:E*124+j<l.length:=by rw [gN (by omega)] at o;omega
    have:=(t.kept.cell (a:=⟨g,Z+(E*124+j),none⟩) J (λu=>by
     rcases u with h|h|h|h;.exact bw g ac h
     .exact bj g ac h
     .have aP:g=d.heap.size:=h;omega
     .have aP:N.heap.size<=g:=h;omega)).trans (Y _ cx)
    rw [lF,this];simp [jy]
  have bF:yA g Z l.length (E*124)=.slice (some ⟨g,Z+E*124,none⟩) (jy l (E*124)).length (jy l (E*124)).length:=by rw [gN (by omega)];rfl
  rw [bF];have ab:Hid _:=t;have cg:A.cell? ⟨d.heap.size,0,none⟩=some (.int .i64 (f:Int)):=cR ar rfl;have b1:A.cell? ⟨w.heap.size,0,none⟩=some (.pointer (some ⟨z,0,none⟩)):=cR t.box rfl;have aZ:Hid _:=an;have K:Hid _:=aQ;have bW:Hid _:=aO;have b7:Hid _:=ar;have bY:Hid _:=k1;have bB:=a8.1;have a5:=a8.2;generalize jy l (E*124)=p at*;generalize Z+E*124=cj at*;have cH:=t.kept.size;have bp:n<=3:=by omega
  have b9:Hid _:=k3;change Hid _ at aM;clear t aP a7 cB I aJ k1 k3 an aQ ar aO bF a8;obtain⟨bg,bm,dk⟩:∃bg:List Value,bg=z9/\∀w,(zeroValue 154).run Tryz.prog w=.ok (.agg bg.toArray) w:=⟨z9,rfl,qa Tryz.infoPage⟩;have cu:Hid (zW bg):=by rw [bm];exact zI
  have cz:Hid _:=qc Tryz.infoPage;have a0:Hid _:=yv (Pg.new_ok 6 (by omega));clear bm;gi_wp2_with fail;refine⟨eR,rfl,?_⟩;refine((yK ak).calls (jU _ 6 (by decide))).mono ?_;rintro e u1 ⟨rfl,aF⟩;have dg:=aF.size;have cI:=(aF.cell (a:=⟨d.heap.size,0,none⟩) (by show d.heap.size<A.heap.size;omega) id).trans cg;have cN:d.heap.size<u1.heap.size:=by omega
  change Hid _ at aF;gi_wp2_with ((show wpListIn _ _ _ _ _ ({dst:=none,op:=.store _ (.tmp 9) (.tmp 18),type:=_,pos:=_,after:=_,guard:=_}::_) _ _;refine(yK ak).store_new rfl 154 (.tmp 9) (.tmp 18) rfl _ _ (zo (Pg.new 6)) (by simp) rfl rfl (by rw [a0.1];exact cz) (by rw [aw,cu.1,a0.1]) a0.2 ?_));refine⟨eR,rfl,?_⟩;have b5:Hid (yd (u1.alloc (.cells (zo (Pg.new 6)).toArray 154)) u1.heap.size (Pg.new 6)):=⟨⟨heap_alloc_new u1 _⟩,Pg.new_ok 6 (by omega)⟩;have ce:Hid (Kept (λ_=>False) A (u1.alloc (.cells (zo (Pg.new 6)).toArray 154))):=aF.trans (Kept.alloc _ _ _) iL;have df:(u1.alloc (.cells (zo (Pg.new 6)).toArray 154)).heap.size=u1.heap.size+1:=by simp
  generalize (u1.alloc (.cells (zo (Pg.new 6)).toArray 154))=di at*;clear cI cN;refine((yK ak).calls (dQ di _ _ b5 f aG)).mono ?_;rintro e u2 ⟨rfl,al,V⟩;have cM:=V.size;change Hid _ at al V;gi_wp2_with fail;refine⟨eR,rfl,?_⟩;have ax:zm ((Pg.new 6).setLink f).kind=1:=rfl;have aB:((Pg.new 6).setLink f).items.length=0:=rfl;refine((yK ak).calls (v7 u2 u1.heap.size ((Pg.new 6).setLink f) al p.length (by rw [ax,aB];omega) (by rw [aB];omega) (by rw [ax];omega))).mono ?_;rintro e u3 ⟨rfl,aq,L⟩;have bV:Hid (v6 u1.heap.size ((Pg.new 6).setLink f).kind ((Pg.new 6).setLink f).items.length p.length=.slice (some ⟨u1.heap.size,4,none⟩) p.length 124):=by show v6 _ _ _ _=_;simp [v6,ax,aB]
  rw [bV.out];have bT:Hid (Kept (λi=>i=u1.heap.size) u2 u3):=L;have cS:=L.size;change Hid _ at aq;clear L ax aB;have aj:Hid (Kept (λi=>i=u1.heap.size) A u3):=((ce.mono fE).trans V iL).trans bT iL
  have b4:Hid (zu u3 P (some ⟨g,cj,none⟩) p):=by
   show zu u3 P _ _;rcases bX.out with s|⟨b,bM,aT,ac,J,Y⟩;.rw [s] at bB;simp at bB
   .refine .inr ⟨b,bM,aT,ac,au J aj.size,λj o=>(aj.cell (a:=⟨b,bM+j,none⟩) J (λu=>?_)).trans (Y j o)⟩;have dd:b=u1.heap.size:=u;omega
  have ay:=aq.ok.len;obtain⟨u4,cA,be,bc⟩:=DX u3 u1.heap.size 154 _ aq.bs 4 124 p (by rw [ay];omega) P g cj p.length b4.out;have H:Hid _:=aj.trans bc iL
  have bo:qS (((Pg.new 6).setLink f).grown p.length).bytes 4 p=(qC f p).bytes:=by have s:=(al.ok).more_bytes (p.map λb=>[b]) (λv cU=>by obtain⟨b,_,rfl⟩:=av.1 cU;rfl) (by show (0+_)*1<=124;rw [eF];omega);rw [db,eF] at s;exact s
  rw [bo] at be;have cc:Hid (yd u4 u1.heap.size (qC f p)):=⟨be,uO aG a5⟩;have cD:=bc.size;have aR:=(H.cell (a:=⟨w.heap.size,0,none⟩) (by show w.heap.size<A.heap.size;omega) (by show ¬w.heap.size=u1.heap.size;omega)).trans b1;clear be bc ay bo cg b1;gi_wp2_with fail;refine⟨eR,rfl,?_⟩;have b0:Hid _:=aZ.kept H (λj o u=>by have s:=ad.out j o;omega) (λj o u=>by have s:=aZ.chg.lt j o;have x:=u;omega);obtain⟨y,aY,bS,aI⟩:∃y aY bS,aS.take D.bs.length a6=(y,aY,bS):=⟨_,_,_,rfl⟩;have cC:aY.ws.length<900:=by have:=fk aS D.bs.length a6;rw [aI] at this;simp only at this;omega
  refine((yK ak).calls (cG u4 z bd S U {D with reads:=D.reads+n} aS b0 a6 cv (by show 0<=D.reads+n;omega) (by show D.reads+n<=_;omega) (by omega))).mono ?_;rintro e u5 ⟨rfl,⟨cE,cb,cL,cF,aN,aD⟩,F⟩;rw [aI] at aN ⊢;dsimp only at aN ⊢;change Hid _ at aI;have cW:=F.size
  have W:∀j,w.heap.size<=j->j<N.heap.size+2->¬(j=bd\/U j):=λj s x u=>by
   rcases u with h|h;.omega
   .rcases K j h with h|h;.have:=X.out j h;omega
    .omega
  have a2:Hid (u5.heap[d.heap.size]? =some (.cells #[.int .i64 (f:Int)] 3 (0,0))):=(F.block _ (by omega) (W _ (by omega) (by omega))).trans ((H.block _ (by omega) (by show ¬d.heap.size=u1.heap.size;omega)).trans b7);have af:Hid (u5.heap[w.heap.size]? =some (.cells #[.pointer (some ⟨z,0,none⟩)] 142 (0,0))):=(F.block _ (by omega) (W _ (by omega) (by omega))).trans ((H.block _ (by omega) (by show ¬w.heap.size=u1.heap.size;omega)).trans ab.box)
  have bG:¬(u1.heap.size=bd\/U u1.heap.size):=λu=>by
   rcases u with h|h;.omega
   .have:=aZ.chg.lt _ h;omega
  have cp:Hid _:=cc.kept F bG;have dn:u5.cell? ⟨d.heap.size,0,none⟩=some (.int .i64 (f:Int)):=cR a2.out rfl;have dr:u5.frozen? ⟨d.heap.size,0,none⟩=false:=aa u5 d.heap.size 0 _ _ a2.out;change Hid _ at aN aD F W;clear bG aR;have bq:Hid ((u5.setCell ⟨d.heap.size,0,none⟩ (.int .i64 (y:Int))).heap[d.heap.size]? =some (.cells #[.int .i64 (y:Int)] 3 (0,0))):=heap_setCell_same u5 d.heap.size 0 _ _ (.int .i64 (y:Int)) a2.out;have az:Hid _:=Kept.setCell (S:=λj=>j=d.heap.size) u5 ⟨d.heap.size,0,none⟩ (.int .i64 (y:Int)) rfl;have cl:(fe (.pointer (some ⟨u1.heap.size,0,none⟩))).run Tryz.prog (u5.setCell ⟨d.heap.size,0,none⟩ (.int .i64 (y:Int)))=.ok (.agg (zo (qC f p)).toArray) (u5.setCell ⟨d.heap.size,0,none⟩ (.int .i64 (y:Int))):=jw _ _ _ _ (zU (cp.kept az (by show ¬u1.heap.size=d.heap.size;omega)).bs.at_) (yv (uO aG a5)).1;have cX:(u5.setCell ⟨d.heap.size,0,none⟩ (.int .i64 (y:Int))).cell? ⟨w.heap.size,0,none⟩=some (.pointer (some ⟨z,0,none⟩)):=cR (((az.block _ (by omega) (by show ¬w.heap.size=d.heap.size;omega)).trans af.out)) rfl;have cZ:(u5.setCell ⟨d.heap.size,0,none⟩ (.int .i64 (y:Int))).cell? ⟨d.heap.size,0,none⟩=some (.int .i64 (y:Int)):=cR bq.out rfl;gi_wp2_with fail;refine⟨eR,rfl,?_⟩;have c7:(u5.setCell ⟨d.heap.size,0,none⟩ (.int .i64 (y:Int))).heap.size=u5.heap.size:=by simp
  generalize (u5.setCell ⟨d.heap.size,0,none⟩ (.int .i64 (y:Int)))=u6 at*
  have a3:Hid (∀j,w.heap.size<=j->j<N.heap.size+2->¬cb j):=λj s x u=>by
   rcases aD j u with h|h;.exact W j s x (.inr h)
   .omega
  have b6:Hid _:=aN.kept az (λj o u=>by have s:=ad.out j o;omega) (λj o u=>by have x:=u;exact a3 j (by omega) (by omega) o);refine((yK ak).calls (kj u6 z bd S cb _ aY b6 y _ (yv (uO aG a5)) (by omega))).mono ?_;rintro e u7 ⟨rfl,⟨bN,bl,bs⟩,aV⟩;change Hid _ at bl bs aV;clear cl cX cZ;gi_wp2
  have bf:Kept (λk=>k=bd\/U k\/k=d.heap.size) A u7:=by
   have aW:Kept (λk=>k=bd\/U k\/k=d.heap.size) A u4:=Kept.trans (S':=λi=>i=u1.heap.size) (Kept.refl _ A) H (λj o=>.inr (by omega));have aR:=aW.trans F (λj o=>.inl (by rcases o with h|h;exact .inl h;exact .inr (.inl h)));have c1:=aR.trans az (λj o=>.inl (.inr (.inr o)))
   exact c1.trans aV (λj o=>by
    rcases aD j o with h|h;.exact .inl (.inr (.inl h))
    .exact .inr (by omega))
  have bR:∀j,w.heap.size<=j->j<N.heap.size+2->j≠d.heap.size->¬(j=bd\/U j\/j=d.heap.size):=λj s x bJ u=>by
   rcases u with h|h|h;.exact W j s x (.inl h)
   .exact W j s x (.inr h)
   .exact bJ h
  have bi:∀j,bN j->U j\/A.heap.size<=j:=λj o=>by
   rcases bs j o with h|h
   .rcases aD j h with h|h;.exact .inl h
    .exact .inr (by omega)
   .exact .inr (by omega)
  have J:=dm (l:=p) bY aI.out;refine⟨bf.mono (λk q=>?_),λk=>bN k/\N.heap.size+2<=k,⟨⟨y,aY.put y (zo (qC f p)),bS,n+cE,bN,?_,by omega,?_,?_,λj o=>?_,?_,λk=>Iff.rfl⟩,?_,(bf.block _ (lT ab.box) (bR _ (by omega) (by omega) (by omega))).trans ab.box,⟨(bf.block _ (lT ab.back.1) (bR _ (by omega) (by omega) (by omega))).trans ab.back.1,bf.owns ab.back.2 (λj o=>bR j (by have:=G.out j o;omega) (by have:=G.out j o;omega) (by have:=G.out j o;omega))⟩,ab.kept.trans bf (λj o=>?_),ab.r⟩,λk q=>?_⟩
  .rcases q with h|h|h;.exact .inl (by omega)
   .rcases K k h with x|x;.exact .inl (by have:=X.out k x;omega)
    .exact .inr ((bW k).2 ⟨h,x⟩)
   .exact .inl (by omega)
  .rw [aM.out];exact J
  .have:=b9.out;rw [ah,iG];omega
  .have:=bl.out;rw [eG] at this;exact this
  .rcases bi j o with h|h;.exact K j h
   .exact .inr (by omega)
  .exact(aV.block _ (by omega) (a3 _ (by omega) (by omega))).trans bq.out
  .rw [ah,iG];omega
  .rcases o with h|h|h;.exact .inl (.inl h)
   .rcases K j h with x|x;.exact .inl (.inr (.inl x))
    .exact .inl (.inr (.inr (.inr (by omega))))
   .exact .inl (.inr (.inr (.inl h)))
  .rcases bi k q.1 with h|h;.exact .inl ((bW k).2 ⟨h,q.2⟩)
   .exact .inr h
 case done=>
  rintro cV r bK Q A bU t rfl ba;obtain⟨f,aS,a6,n,U,k1,k2,k3,an,aQ,ar,aO⟩:=t.st;have I:bK.length=(zZ l).length:=by rw [bU.2,uP]
  rw [I,Nat.sub_self,mh,aA.out] at k1;simp only [eK] at k1;obtain⟨rfl,rfl,rfl⟩:=k1;have bp:n<=3:=by omega
  have K:Hid _:=aQ;have b2:Hid _:=t.kept;have cK:Hid _:=ba;have dj:A.cell? ⟨d.heap.size,0,none⟩=some (.int .i64 (bQ:Int)):=cR ar rfl;change Hid _ at an;clear t bU ba k3 aQ ar aO I;dsimp only;go_wp2;have cq:Kept (λk=>k=d.heap.size+1+1) A (A.putObj (d.heap.size+1+1) (.deferred none)):=Kept.putObj _ _ _ rfl
  refine j8 rfl (by rw [<-bn];exact cK) (results_tmp rfl _ _ _) ⟨rfl,⟨n,k2,bp,U,an.kept cq (λj o aT=>by have:=ad.out j o;omega) (λj o aT=>by
   rcases K j o with h|h;.have:=X.out j h;omega
   .omega),λj o=>(K j o).imp id (λh=>by omega)⟩,?_⟩
  exact((am.mono (S':=λj=>j=bd\/T j) fE).trans b2 (λj o=>by
   rcases o with h|h|h|h;.exact .inl (.inl h)
   .exact .inl (.inr h)
   .exact .inr (by omega)
   .exact .inr (by omega))).trans cq (λj o=>.inr (by omega))
 case stop=>
  rintro cV c r pre A bU t rfl ba;exact t.elim
end
end prog
namespace prog
open keys (zg zd zq zl)
variable {w:World}{ws:List (Nat×List Value)}{D:Dk}{b:List Value}
structure fC (w:World) (T:Nat->Prop) (a:Option Addr) (ws:List (Nat×List Value)):Prop where
 ok:∀p∈ws,zW p.2/\p.1<65536
 at_:ws=[]\/∃g,a=some ⟨g,0,none⟩/\T g/\g<w.heap.size/\∀k (hk:k<ws.length),w.rangeAt g (k*129) (.int .i64 (ws[k].1:Int)::ws[k].2)
 few:ws.length<=1000
theorem fC.kept{w':World}{T X:Nat->Prop}{a:Option Addr}(h:fC w T a ws)(k:Kept X w w')(m:∀i,T i->¬X i):fC w' T a ws:=
 ⟨h.ok,h.at_.imp id (λ⟨g,l,b,c,f⟩=>⟨g,l,b,au c k.size,λj d t v e=>(k.cell (a:=⟨g,j*129+t,none⟩) c (m g b)).trans (f j d t v e)⟩),h.few⟩
theorem qO.rows{f bd:Nat}{T:Nat->Prop}{C:Ck}{a:Option Addr}{cap:Nat}(h:qO w f bd T C a cap)(b:∀p∈C.ws,p.1<65536):fC w T a C.ws:=by
 refine⟨λp d=>⟨h.ok p d,b p d⟩,?_,h.few⟩;rcases mL C.ws.length with c|c;.exact .inl (ed c)
 .obtain⟨g,rfl⟩:=h.rowAt c;have e:T g:=(h.own g).2 (.inr rfl);exact .inr ⟨g,rfl,e,h.lt g e,λk b=>h.range k b⟩
theorem cZ{k:Nat}(a:k<ws.length):qv D (ws.drop k)=if D.writes ws[k].1=true then qv (D.write ws[k].1 ws[k].2) (ws.drop (k+1)) else (false,D):=by
 rw [aL a,qv]
theorem fD:D.flush.ps.length<=D.ps.length:=by
 unfold Dk.flush;split;.exact aC _
 .simp
theorem Za{a:Int}(b:List Value)(h:D.writes a=false):D.write a b=D:=by
 unfold Dk.writes at h;unfold Dk.write;rw [az (iS h)]
theorem Zc(w:World)(bd:Nat)(S T:Nat->Prop)(D:Dk)(h:ze w bd S D)(a:Option Addr)(cap:Nat)(ws:List (Nat×List Value))(Z:fC w T a ws)(P:∀k,S k->¬T k)(aq:∀k,T k->k<w.heap.size)
 (aj:zs D.fuse) (aA:D.ps.length<=34359738368):
 Calls Tryz.prog 85 #[.pointer (some ⟨bd,0,none⟩),.slice a ws.length cap] w λe w'=>e=.returned (.bool (q8 D ws).1)/\yq w w' bd S (q8 D ws).2:=by
 obtain⟨M,U,ay⟩:∃M:List Value,M=yN/\∀w,(zeroValue 160).run Tryz.prog w=.ok (.agg M.toArray) w:=⟨yN,rfl,qa Tryz.infoCw⟩;have R:Hid (M.length=129):=by rw [U];exact et (· +1) zI.1
 clear U;have y:Hid _:=qc Tryz.infoCw;have ah:Hid ((Tryz.prog.info? 131).map (·.size)=some 128):=qc Tryz.infoBlock;have ar:Hid (ze w bd S D):=h;have av:=Z.few;change Hid _ at Z;clear h;go_enter Tryz.func85,Tryz.ntmps85;go_wp2;go_loopw [9] (λt wr=>∃(k:Nat) (D1:Dk),k<=ws.length/\t=.int .i64 k/\qv D ws=qv D1 (ws.drop k)/\yq w wr bd S D1/\zs D1.fuse/\D1.ps.length<=D.ps.length+k) (λt _=>ws.length-(intOf t).toNat)
 case atStart=>exact⟨0,D,ai _,rfl,rfl,yq.refl ar.out,aj,by omega⟩
 case round=>
  obtain⟨k,D1,L,rfl,C,K,l,am⟩:=hrel;obtain⟨⟨S1,Q,v⟩,u⟩:=K;have B:Hid (ze wr bd S1 D1):=Q
  have an:Hid (∀k,S1 k->¬T k):=λj Y W=>by
   rcases v j Y with ad|ad;.exact P j ad W
   .have:=aq j W;omega
  have O:Hid (fC wr T a ws):=Z.kept u (λj Y au=>P j au Y);change Hid _ at C v u;clear Q;by_cases x:k<ws.length
  .rcases O.at_ with ao|⟨g,rfl,ax,aw,F⟩;.rw [ao] at x;simp at x
   .have ab:Hid (wr.rangeAt g (k*129) (.int .i64 (ws[k].1:Int)::ws[k].2)):=F k x;obtain⟨X,aa⟩:=O.ok _ (ag x);have c:Hid (zW ws[k].2):=X;have N:Hid _:=cZ (D:=D1) x;generalize ap:ws[k]=q at*;obtain⟨m,i⟩:=q;clear ap X F;simp only at aa;have A:Hid (Kept (λ_=>False) wr (wr.alloc (.cells (.int .i64 (m:Int)::i).toArray 160))):=Kept.alloc _ _ _
    cases V:D1.writes m with
    |true=>
     have s:Hid _:=V
     go_wp2_with (first
      |(show wpList _ _ _ ({dst:=some 12,op:=.load _ _,type:=_,pos:=_,after:=_,guard:=_}::_) _ _;refine wpList_load_mid rfl 160 (.tmp 11) rfl _ _ rfl (.int .i64 (m:Int)::i) _ ab.out Tryz.underlying160 rfl (by rw [ae,c.1];exact y.out) ?_)
      |(show wpList _ _ _ ({dst:=none,op:=.store _ (.tmp 6) (.tmp 12),type:=_,pos:=_,after:=_,guard:=_}::_) _ _;refine zi rfl 160 (.tmp 6) (.tmp 12) rfl _ _ (.int .i64 (m:Int)::i) rfl rfl rfl (by rw [ae,c.1];exact y.out) (by rw [ae,c.1];simpa using R.out) (aZ.2 ⟨rfl,c.2⟩) ?_)
      |(show wpList _ _ _ ({dst:=some 17,op:=.load _ _,type:=_,pos:=_,after:=_,guard:=_}::_) _ _;refine wpList_load_mid rfl 131 (.tmp 16) rfl _ _ rfl i _ (yn (heap_alloc_new wr _)) Tryz.underlying131 rfl (by rw [c.1];exact ah.out) ?_)
      |(go_at_call 146;refine(xA _ bd S1 D1 (B.kept A.out nF) (m:Int) (by constructor<;>omega) i c.out l (by omega)).mono ?_;rintro e E ⟨rfl,⟨r,b,d⟩,f⟩;rw [s.out];have n:Hid (ze E bd r (D1.write m i)):=b;have p:Hid _:=d;have o:Hid _:=f;clear b d f))
     go_roundw
     case rel=>
      refine⟨k+1,D1.write m i,by omega,by go_num,by rw [C.out,N.out,aB s.out],?_,kw _ _ l,by have:=fp (D:=D1) m i;omega⟩;exact yq.trans (D1:=D1) v.out u.out (yq.kept0 A.out ⟨⟨r,n.out,p.out⟩,o.out⟩)
     case measure=>simp [intOf];omega
    |false=>
     have s:Hid _:=V
     go_wp2_with (first
      |(show wpList _ _ _ ({dst:=some 12,op:=.load _ _,type:=_,pos:=_,after:=_,guard:=_}::_) _ _;refine wpList_load_mid rfl 160 (.tmp 11) rfl _ _ rfl (.int .i64 (m:Int)::i) _ ab.out Tryz.underlying160 rfl (by rw [ae,c.1];exact y.out) ?_)
      |(show wpList _ _ _ ({dst:=none,op:=.store _ (.tmp 6) (.tmp 12),type:=_,pos:=_,after:=_,guard:=_}::_) _ _;refine zi rfl 160 (.tmp 6) (.tmp 12) rfl _ _ (.int .i64 (m:Int)::i) rfl rfl rfl (by rw [ae,c.1];exact y.out) (by rw [ae,c.1];simpa using R.out) (aZ.2 ⟨rfl,c.2⟩) ?_)
      |(show wpList _ _ _ ({dst:=some 17,op:=.load _ _,type:=_,pos:=_,after:=_,guard:=_}::_) _ _;refine wpList_load_mid rfl 131 (.tmp 16) rfl _ _ rfl i _ (yn (heap_alloc_new wr _)) Tryz.underlying131 rfl (by rw [c.1];exact ah.out) ?_)
      |(go_at_call 146;refine(xA _ bd S1 D1 (B.kept A.out nF) (m:Int) (by constructor<;>omega) i c.out l (by omega)).mono ?_;rintro e E ⟨rfl,⟨r,b,d⟩,f⟩;rw [s.out];have n:Hid (ze E bd r (D1.write m i)):=b;have p:Hid _:=d;have o:Hid _:=f;clear b d f))
     go_ret;have ak:qv D ws=(false,D1):=by rw [C.out,N.out,az (by rw [s.out];simp)]
     have H:q8 D ws=(false,D1):=by unfold q8 jt;rw [ak];simp
     rw [H];have b:=n.out;rw [Za i s.out] at b;exact⟨rfl,yq.trans (D1:=D1) v.out u.out (yq.kept0 A.out ⟨⟨r,b,p.out⟩,o.out⟩)⟩
  .have af:Hid (qv D ws=(true,D1)):=by show _=_;rw [C.out,eb (by omega)];rfl
   cases ac:(D1.fuse==0) with
   |false=>
    have I:Hid _:=ac
    go_wp2_with (first
     |(go_at_call 40;refine(yS _ bd S1 D1 B.out l).mono ?_;rintro e E ⟨rfl,⟨r,b,d⟩,f⟩;rw [I.out];have n:Hid (ze E bd r D1.flush):=b;have p:Hid _:=d;have o:Hid _:=f;clear b d f)
     |(go_at_call 131;refine(jU _ 1 (by omega)).mono ?_;rintro e aD ⟨rfl,G⟩;change Hid _ at G)
     |(go_at_call 147;refine(dS _ bd r D1.flush (n.kept G.out nF) (zo (Pg.new 1)) (yv (Pg.new_ok 1 (by omega))) (kx l) (by have:=fD (D:=D1);omega)).mono ?_;rintro e aC ⟨rfl,J⟩;change Hid _ at J))
    go_ret
    have H:q8 D ws=je D1.flush jN:=by
     have z:D1.fuse≠0:=by have:=I.out;simpa using this
     unfold q8 jt;rw [af.out,aB ⟨rfl,z⟩]
    rw [H];exact⟨by simp [jN],yq.trans (D1:=D1) v.out u.out (yq.trans (D1:=D1) (λk L=>.inl (p.out k L)) o.out (yq.kept0 G.out J.out))⟩
   |true=>
    have I:Hid _:=ac;go_wp2_with (go_at_call 40;refine(yS _ bd S1 D1 B.out l).mono ?_;rintro e E ⟨rfl,⟨r,b,d⟩,f⟩;rw [I.out];have n:Hid _:=b;have p:Hid _:=d;have o:Hid _:=f;clear b d f);go_ret;have z:D1.fuse=0:=by have:=I.out;simpa using this
    have H:q8 D ws=(false,D1):=by unfold q8 jt;rw [af.out,az (by simp [z])]
    have al:D1.flush=D1:=aB z;rw [H];have b:=n.out;rw [al] at b;exact⟨rfl,yq.trans (D1:=D1) v.out u.out ⟨⟨r,b,λk L=>.inl (p.out k L)⟩,o.out⟩⟩
theorem dy(b:ws.length<=62):(zN ws).Ok where
 kind:=by simp [zN]
 link:=by simp [zN]
 wide:=λi a=>by obtain⟨p,_,rfl⟩:=av.1 a;rw [zT];rfl
 fits:=by simp [zN,zm];omega
 few:=by simp [zN];omega
theorem XG(ws:List (Nat×List Value))(k:Nat)(a:k<ws.length):(zN (ws.take k)).push (bytesOf 2 ws[k].1)=zN (ws.take (k+1)):=by
 unfold zN Pg.push;rw [ar a,eh];rfl
theorem jA(ws:List (Nat×List Value)):(qn ws).length=ws.length:=by simp [qn]
theorem uT(ws:List (Nat×List Value))(k:Nat)(a:k<ws.length):(qn ws)[k]'(by rw [jA];exact a)=(3+k,ws[k].2):=by simp [qn]
theorem dz{e wr d:World}{bd b:Nat}{S S1:Nat->Prop}(g:∀k,S k->k<w.heap.size)(l:w.heap.size<=b)(i:e.heap.size=b+1)(k0:Kept (λ_=>False) w e)(k1:Kept (λj=>S j\/j=b) e wr)(f:∀j,S1 j->S j\/e.heap.size<=j)(h:yq wr d bd S1 D):yq w d bd S D:=by
 refine yq.trans (D1:=D) (S1:=S1) (λj c=>?_) ((k0.mono fE).trans k1 (λj c=>?_)) h
 .rcases f j c with a|a;.exact .inl a
  .right;omega
 .rcases c with a|a;.exact .inl a
  .right;omega
section
attribute [local go_sem ↓] kh
theorem XH(w:World)(bd:Nat)(S T:Nat->Prop)(D:Dk)(h:ze w bd S D)(a:Option Addr)(cap:Nat)(ws:List (Nat×List Value))(aS:fC w T a ws)(aK:∀k,S k->¬T k)(a9:∀k,T k->k<w.heap.size)
 (aX:zs D.fuse) (bl:D.ps.length<=34359738368) (a2:ws.length<=18):
 Calls Tryz.prog 179 #[.pointer (some ⟨bd,0,none⟩),.slice a ws.length cap] w λe w'=>e=.returned (.bool (yb D ws).1)/\yq w w' bd S (yb D ws).2:=by
 obtain⟨af,aq,bj⟩:∃af:List Value,af=yN/\∀w,(zeroValue 160).run Tryz.prog w=.ok (.agg af.toArray) w:=⟨yN,rfl,qa Tryz.infoCw⟩;have aL:Hid (af.length=129):=by rw [aq];exact et (· +1) zI.1
 clear aq;obtain⟨aj,au,bm⟩:∃aj:List Value,aj=z9/\∀w,(zeroValue 154).run Tryz.prog w=.ok (.agg aj.toArray) w:=⟨z9,rfl,qa Tryz.infoPage⟩;have aT:Hid (zW aj):=by rw [au];exact zI
 clear au;have ak:Hid _:=qc Tryz.infoCw;have aW:Hid _:=qc Tryz.infoBlock;have aU:Hid _:=qc Tryz.infoPage;have aa:Hid _:=yv (Pg.new_ok 1 (by omega));have be:Hid (ze w bd S D):=h;have N:Hid _:=h.lt;change Hid _ at aS;clear h;go_enter Tryz.func179,Tryz.ntmps179
 go_wp2_with (first
  |(go_at_call 131;refine(jU _ 1 (by omega)).mono ?_;rintro e I ⟨rfl,s⟩;have an:Hid _:=s;clear s)
  |(show wpList _ _ _ ({dst:=none,op:=.store _ (.tmp 5) (.tmp 8),type:=_,pos:=_,after:=_,guard:=_}::_) _ _;refine zi rfl 154 (.tmp 5) (.tmp 8) rfl _ _ (zo (Pg.new 1)) (by simp) rfl rfl (by rw [aa.1];exact aU.out) (by rw [aw,aT.1,aa.1]) aa.2 ?_))
 have aN:Hid (yd (I.alloc (.cells (zo (Pg.new 1)).toArray 154)) I.heap.size (zN (ws.take 0))):=⟨⟨heap_alloc_new I _⟩,Pg.new_ok 1 (by omega)⟩;have G:Hid (Kept (λ_=>False) w (I.alloc (.cells (zo (Pg.new 1)).toArray 154))):=an.trans (Kept.alloc _ _ _) iL;have U:(I.alloc (.cells (zo (Pg.new 1)).toArray 154)).heap.size=I.heap.size+1:=by simp
 have V:=an.size;generalize (I.alloc (.cells (zo (Pg.new 1)).toArray 154))=bf at*;generalize I.heap.size=f at*;go_loopw [11] (λt wr=>∃(k:Nat) (D1:Dk) (S1:Nat->Prop),k<=ws.length/\t=.int .i64 k/\qv D (qn ws)=qv D1 ((qn ws).drop k)/\ze wr bd S1 D1/\(∀j,S1 j->S j\/bf.heap.size<=j)/\Kept (λj=>S j\/j=f) bf wr/\yd wr f (zN (ws.take k))/\zs D1.fuse/\D1.ps.length<=D.ps.length+k) (λt _=>ws.length-(intOf t).toNat)
 case atStart=>exact⟨0,D,S,ai _,rfl,rfl,be.kept G.out nF,λ_ h=>.inl h,Kept.refl _ _,aN.out,aX,by omega⟩
 case round=>
  obtain⟨k,D1,S1,aQ,rfl,O,ap,B,s,M,o,a5⟩:=hrel;have ac:Hid (ze wr bd S1 D1):=ap;have y:(zN (ws.take k)).items.length=k:=by simp [zN];omega
  have P:Hid (¬S1 f):=λa0=>by
   rcases B f a0 with p|p;.have:=N.out f p;omega
   .omega
  have am:Hid _:=(aS.kept G.out nF).kept s (λj u ah=>by
   rcases ah with ah|ah;.exact aK j ah u
   .have:=a9 j u;omega)
  change Hid _ at O B s M;clear ap;by_cases z:k<ws.length
  .rcases am.at_ with a7|⟨g,rfl,bi,bh,R⟩;.rw [a7] at z;simp at z
   .have a1:Hid _:=R k z;obtain⟨n,aI⟩:=am.ok _ (ag z)
    have al:Hid (qv D1 ((qn ws).drop k)=if D1.writes (3+(k:Int))=true then qv (D1.write (3+(k:Int)) ws[k].2) ((qn ws).drop (k+1)) else (false,D1)):=by
     have:=cZ (D:=D1) (ws:=qn ws) (k:=k) (by rw [jA];exact z);rw [uT ws k z] at this;have bc:((3+k:Nat):Int)=3+(k:Int):=by omega
     simp only [bc] at this;exact this
    have aR:Hid _:=XG ws k z;generalize a8:ws[k]=q at*;obtain⟨v,l⟩:=q;change Hid _ at n;clear a8 R;simp only at aI;have W:Hid (Kept (λ_=>False) wr (wr.alloc (.cells (.int .i64 (v:Int)::l).toArray 160))):=Kept.alloc _ _ _
    go_wp2_with (first
     |(show wpList _ _ _ ({dst:=some 15,op:=.load _ _,type:=_,pos:=_,after:=_,guard:=_}::_) _ _;refine wpList_load_mid rfl 160 (.tmp 14) rfl _ _ rfl (.int .i64 (v:Int)::l) _ a1.out Tryz.underlying160 rfl (by rw [ae,n.1];exact ak.out) ?_)
     |(show wpList _ _ _ ({dst:=none,op:=.store _ (.tmp 7) (.tmp 15),type:=_,pos:=_,after:=_,guard:=_}::_) _ _;refine zi rfl 160 (.tmp 7) (.tmp 15) rfl _ _ (.int .i64 (v:Int)::l) rfl rfl rfl (by rw [ae,n.1];exact ak.out) (by rw [ae,n.1];simpa using aL.out) (aZ.2 ⟨rfl,n.2⟩) ?_))
    have aA:(wr.alloc (.cells (.int .i64 (v:Int)::l).toArray 160)).cell? ⟨wr.heap.size,0,none⟩=some (.int .i64 (v:Int)):=by simp
    have aD:Hid _:=M.kept W.out (λaF=>aF);have aM:Hid ((wr.alloc (.cells (.int .i64 (v:Int)::l).toArray 160)).heap[wr.heap.size]? =some (.cells (.int .i64 (v:Int)::l).toArray 160 (0,0))):=heap_alloc_new wr _;have bk:=M.bs.lt;have bb:(wr.alloc (.cells (.int .i64 (v:Int)::l).toArray 160)).heap.size=wr.heap.size+1:=by simp
    have aH:Hid (v6 f (zN (ws.take k)).kind (zN (ws.take k)).items.length 1=.slice (some ⟨f,4+k*2,none⟩) 2 (124-k*2)):=by show v6 f (zN (ws.take k)).kind (zN (ws.take k)).items.length 1=_;rw [y];rfl
    have aJ:(zN (ws.take k)).items.length*zm (zN (ws.take k)).kind=k*2:=by rw [y];rfl
    generalize (wr.alloc (.cells (.int .i64 (v:Int)::l).toArray 160))=H at*
    go_region_held3 (λw'=>w'.cell? ⟨wr.heap.size,0,none⟩=some (.int .i64 (v:Int))) (go_keep) ((first
     |(go_at_call 133;refine(v7 _ f _ (by exact aD.kept (Kept.drew (λ_=>False) H) (λaF=>aF)) 1 (by rw [y];show (k+1)*2<=124;omega) (by rw [y];omega) (by show 1<=1*2;omega)).mono ?_;rintro e a6 ⟨rfl,Q,L⟩;rw [aH.out];have aE:=(L.cell (a:=⟨wr.heap.size,0,none⟩) (by show wr.heap.size<H.drew.heap.size;have:H.drew.heap.size=H.heap.size:=rfl;omega) (by show ¬wr.heap.size=f;omega)).trans aA;change Hid _ at Q L)
     |(go_at_call 138;refine(yc _ f _ _ Q.bs (4+k*2) 2 (124-k*2) (by rw [Q.ok.len];omega) (by omega) v (by omega)).mono ?_;rintro e ad ⟨rfl,ar,ab⟩;have a4:=(ab.cell (a:=⟨wr.heap.size,0,none⟩) (by show wr.heap.size<a6.heap.size;have p:=L.size;have:H.drew.heap.size=H.heap.size:=rfl;omega) (by show ¬wr.heap.size=f;omega)).trans aE;change Hid _ at ar ab)))
    have E:Kept (λi=>i=f) H ad:=((Kept.drew _ H).trans L.out iL).trans ab.out iL
    have aO:Hid (yd ad f (zN (ws.take (k+1)))):=by have p:=ar.out;have aC:=aD.ok.push_over (bytesOf 2 v) (by rw [zT];rfl) (by rw [y];show (k+1)*2<=124;omega);rw [aJ] at aC;rw [aC,aR.out] at p;exact⟨p,dy (by simp;omega)⟩
    have ax:Hid _:=(E.block wr.heap.size (by omega) (by show ¬wr.heap.size=f;omega)).trans aM.out;have av:Hid (ze ad bd S1 D1):=(ac.kept W.out nF).kept E (λj u e=>P.out (by rw [<-e];exact u));have F:=(s.trans W.out fE).trans E (λj u=>.inl (.inr u));change Hid _ at F;clear aA E
    cases K:D1.writes (3+(k:Int)) with
    |true=>
     have C:Hid _:=K;clear K
     go_wp2_with (first
      |(show wpList _ _ _ ({dst:=some 24,op:=.load _ _,type:=_,pos:=_,after:=_,guard:=_}::_) _ _;refine wpList_load_mid rfl 131 (.tmp 23) rfl _ _ rfl l _ (yn ax.out) Tryz.underlying131 rfl (by rw [n.1];exact aW.out) ?_)
      |(go_at_call 146;refine(xA _ bd S1 D1 av.out (3+(k:Int)) (by constructor<;>omega) l n.out o (by omega)).mono ?_;rintro e ba ⟨rfl,⟨J,b,d⟩,c⟩;rw [C.out];have x:Hid _:=b;have A:Hid _:=d;have r:Hid _:=c;clear b d c))
     go_roundw
     case rel=>
      refine⟨k+1,D1.write (3+(k:Int)) l,J,by omega,by go_num,by rw [O.out,al.out,aB C.out],x.out,λj u=>?_,F.trans r.out (λj u=>?_),aO.kept r.out P.out,kw _ _ o,by have:=fp (D:=D1) (3+(k:Int)) l;omega⟩
      .rcases A.out j u with p|p;.exact B.out j p
       .right;have:=F.size;omega
      .rcases B.out j u with p|p;.exact .inl (.inl p)
       .exact .inr p
     case measure=>simp [intOf];omega
    |false=>
     have C:Hid _:=K;clear K
     go_wp2_with (first
      |(show wpList _ _ _ ({dst:=some 24,op:=.load _ _,type:=_,pos:=_,after:=_,guard:=_}::_) _ _;refine wpList_load_mid rfl 131 (.tmp 23) rfl _ _ rfl l _ (yn ax.out) Tryz.underlying131 rfl (by rw [n.1];exact aW.out) ?_)
      |(go_at_call 146;refine(xA _ bd S1 D1 av.out (3+(k:Int)) (by constructor<;>omega) l n.out o (by omega)).mono ?_;rintro e ba ⟨rfl,⟨J,b,d⟩,c⟩;rw [C.out];have x:Hid _:=b;have A:Hid _:=d;have r:Hid _:=c;clear b d c))
     go_ret;have aY:qv D (qn ws)=(false,D1):=by rw [O.out,al.out,az (by rw [C.out];simp)]
     have X:yb D ws=(false,D1):=by unfold yb jt;rw [aY];simp
     rw [X];have b:=x.out;rw [Za l C.out] at b;exact⟨rfl,dz N.out V U G.out F.out B.out ⟨⟨J,b,A.out⟩,r.out⟩⟩
  .have aV:Hid (qv D (qn ws)=(true,D1)):=by show _=_;rw [O.out,eb (by rw [jA];omega)];rfl
   have aP:Hid (yd wr f (zN ws)):=by have:=M.out;rw [ao (by omega)] at this;exact this
   have ay:Hid (zW (zo (zN ws))):=yv (dy (by omega))
   cases m:(D1.fuse==0) with
   |false=>
    have Y:Hid _:=m;clear m
    go_wp2_with (first
     |(go_at_call 40;refine(yS _ bd S1 D1 ac.out o).mono ?_;rintro e aG ⟨rfl,⟨J,b,d⟩,c⟩;rw [Y.out];have x:Hid _:=b;have A:Hid _:=d;have r:Hid _:=c;have bg:(fe (.pointer (some ⟨f,0,none⟩))).run Tryz.prog aG=.ok (.agg (zo (zN ws)).toArray) aG:=jw _ _ _ _ (zU (aP.kept c P.out).bs.at_) ay.1;clear b d c)
     |(go_at_call 147;refine(dS _ bd J D1.flush x.out (zo (zN ws)) ay.out (kx o) (by have:=fD (D:=D1);omega)).mono ?_;rintro e ad ⟨rfl,Z⟩;change Hid _ at Z))
    go_ret
    have X:yb D ws=je D1.flush (zo (zN ws)):=by
     have m:D1.fuse≠0:=by have:=Y.out;simpa using this
     unfold yb jt;rw [aV.out,aB ⟨rfl,m⟩]
    rw [X];exact⟨by simp,dz N.out V U G.out s.out B.out (yq.trans (D1:=D1) (λk aQ=>.inl (A.out k aQ)) r.out Z.out)⟩
   |true=>
    have Y:Hid _:=m;clear m;go_wp2_with (go_at_call 40;refine(yS _ bd S1 D1 ac.out o).mono ?_;rintro e aG ⟨rfl,⟨J,b,d⟩,c⟩;rw [Y.out];have x:Hid _:=b;have A:Hid _:=d;have r:Hid _:=c;clear b d c);go_ret;have m:D1.fuse=0:=by have:=Y.out;simpa using this
    have X:yb D ws=(false,D1):=by unfold yb jt;rw [aV.out,az (by simp [m])]
    have a3:D1.flush=D1:=aB m;rw [X];have b:=x.out;rw [a3] at b;exact⟨rfl,dz N.out V U G.out s.out B.out ⟨⟨J,b,λj u=>.inl (A.out j u)⟩,r.out⟩⟩
end
theorem Zd:∀(ws:List (Nat×List Value)) (D:Dk),zs D.fuse->zs (qv D ws).2.fuse
 |[],D,h=>h
 |p::ws,D,h=>by
  unfold qv;split;.exact Zd ws _ (kw _ _ h)
  .exact h
theorem XI:∀(ws:List (Nat×List Value)) (D:Dk),(qv D ws).2.ps.length<=D.ps.length+ws.length
 |[],D=>aC _
 |p::ws,D=>by
  unfold qv;split
  .have a:=XI ws (D.write p.1 p.2);have b:=fp (D:=D) p.1 p.2;simp only [ae];omega
  .simp only [ae];omega
theorem Kb(h:zs D.fuse):zs (je D b).2.fuse:=by
 unfold je;split;.exact kx (kw _ _ h)
 .exact h
theorem GV:(je D b).2.ps.length<=D.ps.length+1:=by
 unfold je;split
 .have a:=fD (D:=D.write 0 b);have c:=fp (D:=D) 0 b;show (D.write 0 b).flush.ps.length<=_;omega
 .show D.ps.length<=_;omega
theorem Kc{r:Bool×Dk}(h:zs r.2.fuse):zs (jt r b).2.fuse:=by
 unfold jt;split;.exact Kb (kx h)
 .exact h
theorem GW{r:Bool×Dk}:(jt r b).2.ps.length<=r.2.ps.length+1:=by
 unfold jt;split
 .have a:=GV (D:=r.2.flush) (b:=b);have c:=fD (D:=r.2);omega
 .show r.2.ps.length<=_;omega
theorem Kd(h:zs D.fuse):zs (yb D ws).2.fuse:=Kc (Zd _ _ h)
theorem GX:(yb D ws).2.ps.length<=D.ps.length+ws.length+1:=by
 have c:=GW (r:=qv D (qn ws)) (b:=zo (zN ws));have a:=XI (qn ws) D;rw [jA] at a;unfold yb;omega
theorem XJ(w:World)(d bd:Nat)(S T:Nat->Prop)(D:Dk)(C:Ck)(h:Cw w d bd S T D C)(v:∀p∈C.ws,p.1<65536)(y:C.ws.length<=18)(s:zs D.fuse)(M:D.ps.length<=17179869184)(G:(yb D C.ws).1=true):
 Calls Tryz.prog 140 #[.pointer (some ⟨d,0,none⟩)] w λe w'=>e=.returned (.bool (qp D C.ws).1)/\yq w w' bd S (qp D C.ws).2:=by
 have K:Hid _:=h;obtain⟨a,cap,j⟩:=h.chg;have L:=j.c0;have N:=j.c1;have E:Hid _:=j.rows v;have B:Hid _:=j.lt;have o:=j.bcT;have q:=j.lt d o;have m:Hid _:=h.apart;change Hid _ at j;clear h
 .have F:Hid _:=G;clear G;go_enter Tryz.func140,Tryz.ntmps140;go_wp2
  go_region_held3 (λw'=>w'.cell? ⟨d,0,none⟩=some (.pointer (some ⟨bd,0,none⟩))/\w'.cell? ⟨d,1,none⟩=some (.slice a C.ws.length cap)) (go_keep) ((first
   |(go_at_call 179;refine(XH _ bd S T D (by exact K.disk.kept (Kept.drew (λ_=>False) w) nF) a cap C.ws (by exact E.kept (Kept.drew (λ_=>False) w) nF) m (by exact B) s (by omega) y).mono ?_;rintro e O ⟨rfl,⟨⟨S1,t,i⟩,c⟩⟩;rw [F.out];have n:=(j.kept (Kept.drew (λ_=>False) w) nF).kept c (λk f A=>m k A f);have x:=n.c0;have z:=n.c1;change Hid _ at t i c;clear n)
   |(go_at_call 85;refine(Zc _ bd S1 T (yb D C.ws).2 t a cap C.ws ((E.kept (Kept.drew (λ_=>False) w) nF).kept c (λk f A=>m k A f)) (λk f r=>by rcases i k f with g|g;exact m k g r;have P:=B.out k r;have:w.drew.heap.size=w.heap.size:=rfl;omega) (λk f=>au (B k f) c.size) (Kd s) (by have:=GX (D:=D) (ws:=C.ws);omega)).mono ?_;rintro e Q ⟨rfl,l⟩;have H:=(l.kept.cell (a:=⟨d,0,none⟩) (au q c.size) (λu=>by rcases i d u with g|g;exact m d g o;have:w.drew.heap.size=w.heap.size:=rfl;omega)).trans x;have I:=(l.kept.cell (a:=⟨d,1,none⟩) (au q c.size) (λu=>by rcases i d u with g|g;exact m d g o;have:w.drew.heap.size=w.heap.size:=rfl;omega)).trans z;change Hid _ at l)))
  go_wp2;go_ret;have J:qp D C.ws=q8 (yb D C.ws).2 C.ws:=aB F.out;rw [J];exact⟨rfl,yq.trans (D1:=D) (S1:=S1) (λk f=>i k f) (Kept.trans (S':=S) (b:=w.drew) kD c iL) l⟩
theorem XK(w:World)(bd:Nat)(S:Nat->Prop)(D:Dk)(h:ze w bd S D)(i:zs D.fuse)(d:(D.fuse==0)=true):
 Calls Tryz.prog 55 #[.pointer (some ⟨bd,0,none⟩)] w λe w'=>e=.returned (.bool false)/\yq w w' bd S D:=by
 change Hid _ at h d;go_enter Tryz.func55,Tryz.ntmps55;go_wp2_with (go_at_call 40;refine(yS _ bd S D h i).mono ?_;rintro e n ⟨rfl,⟨j,a,b⟩,c⟩;rw [d.out];have g:Hid _:=a;change Hid _ at b c;clear a);go_ret;have f:D.fuse=0:=by have:=d.out;simpa using this
 have l:D.flush=D:=aB f;have a:=g.out;rw [l] at a;exact⟨rfl,⟨j,a,λk m=>.inl (b k m)⟩,c⟩
theorem dX(w:World)(bd:Nat)(S:Nat->Prop)(D:Dk)(h:ze w bd S D)(F:zs D.fuse)(v:(D.fuse==0)=false)(x:0<=D.reads)(A:D.reads<=4611686018427387904)(p:Pg)(r:p.Ok)(y:D.flush.look 0=zo p)(B:p.items.length=0):
 Calls Tryz.prog 55 #[.pointer (some ⟨bd,0,none⟩)] w λe w'=>e=.returned (.bool true)/\yq w w' bd S {D.flush with reads:=D.reads+1}:=by
 obtain⟨g,o,J⟩:∃g:List Value,g=z9/\∀w,(zeroValue 154).run Tryz.prog w=.ok (.agg g.toArray) w:=⟨z9,rfl,qa Tryz.infoPage⟩;have z:Hid (zW g):=by rw [o];exact zI
 clear o;have E:Hid _:=qc Tryz.infoPage;have G:Hid _:=h;have d:Hid _:=yv r;have u:D.flush.reads=D.reads:=by unfold Dk.flush;split<;>rfl
 have b:Hid _:=u;have I:Hid p.Ok:=r;change Hid _ at v y B;clear h r;go_enter Tryz.func55,Tryz.ntmps55
 go_wp2_with (first
  |(go_at_call 40;refine(yS _ bd S D G F).mono ?_;rintro e H ⟨rfl,⟨f,i,c⟩,j⟩;rw [v.out];have l:Hid (ze H bd f D.flush):=i;change Hid _ at c j;clear i)
  |(go_at_call 81;refine(kg _ bd f D.flush l 0 (by constructor<;>omega) (by rw [b.out];exact x) (by rw [b.out];exact A)).mono ?_;rintro e a ⟨rfl,m,n⟩;rw [y.out];have t:Hid (ze a bd f {D.flush with reads:=D.flush.reads+1 }):=m;change Hid _ at n;clear m)
  |(show wpList _ _ _ ({dst:=none,op:=.store _ (.tmp 3) (.tmp 10),type:=_,pos:=_,after:=_,guard:=_}::_) _ _;refine zi rfl 154 (.tmp 3) (.tmp 10) rfl _ _ (zo p) (by simp) rfl rfl (by rw [d.1];exact E) (by rw [aw,z.1,d.1]) d.2 ?_;have C:Hid (yd (a.alloc (.cells (zo p).toArray 154)) a.heap.size p):=⟨⟨heap_alloc_new a _⟩,I⟩)
  |(go_at_call 82;refine(uI _ _ _ C).mono ?_;rintro e K ⟨rfl,rfl⟩;rw [B.out]))
 go_ret;have s:=t.kept (Kept.alloc (λ_=>False) a (.cells (zo p).toArray 154)) nF;rw [b.out] at s;refine⟨rfl,⟨f,s,λk q=>.inl (c k q)⟩,(j.trans n (λk q=>.inl (c k (by rw [q];exact l.bdS)))).trans (Kept.alloc _ _ _) iL⟩
end prog
namespace prog
open Go.MuLone
open keys (zg zd zq zl zh)
theorem XL(w:World)(bs b bd:Nat)(T:Nat->Prop)(C:Ck)(h:Chg w b bd T C)(c:(C.full||decide (18<C.ws.length))=true):
 Calls Tryz.prog 78 #[.pointer (some ⟨bs,0,none⟩),.pointer (some ⟨b,0,none⟩)] w λe w'=>e=.returned (.int .i64 6)/\w'=w:=by
 change Hid _ at h c;go_enter Tryz.func78,Tryz.ntmps78;go_wp2_with (go_at_call 139;refine(cy w b bd T C h).mono ?_;rintro e d ⟨rfl,a⟩;rw [a,c.out];clear a d);go_ret;exact⟨rfl,rfl⟩
theorem Be(w:World)(bs bd:Nat)(S:Nat->Prop)(D:Dk)(ae:zt w bs 0 (some bd))(A:ze w bd S D)(J:¬S bs)(an:0<=D.reads)(aN:D.reads<=4611686018427350000)(q n:Nat)(ak:yi (D.look 1) q n)(b:ByteArray)(c:Int)(aE:b.size<=maxLen)(x:zh b.data.toList=true)(ad:List En)(I:List Nat)(hF:yo (λj=>D.look (j:Nat)) q ad I)(ag:I.length<=979)(hbs:∀j∈I,21<=j)(d:En)(am:(xn ⟨b,c⟩ ad).head? =some d)(F:BE b c (some d)=true)
 (ps:List zv) (U:xE (λj=>D.look (j:Nat)) ps) (Y:(ps.map zv.at_).Nodup) (R:jf ps=d.at_) (l:List UInt8) (ao:(ps.map zv.l).flatten=l) (P:l.length=d.size) (ai:d.size<=300) (aX:ps.length<=10):
 Calls Tryz.prog 42 #[.pointer (some ⟨bs,0,none⟩),.string b,.int .i64 c] w λe w'=>(∃a cap,e=.returned (.tuple #[.slice a l.length cap,.int .i64 0])/\w'.ownsRow 0 5 1 (.slice a l.length cap) l.length (l.map qk)/\∀k,(Value.slice a l.length cap).ownBlock=some k->w.heap.size<=k)/\zt w' bs 0 (some bd)/\(∃r:Int,D.reads<=r/\r<=D.reads+14+ps.length/\ze w' bd S {D with reads:=r })/\Kept (λk=>k=bd\/k=bs) w w':=by
 have aJ:Hid (ze w bd S D):=A;have aO:=A.lt bd A.bdS;have aK:=ae.lt;have M:bs≠bd:=λe=>J (by rw [e];exact A.bdS);have ap:Hid (∀j,S j->j≠bs):=λj z e=>J (by rw [<-e];exact z)
 have al:Hid (∀w',zt w' bs 1 (some bd)->ze w' bd S D->Calls Tryz.prog 66 #[.pointer (some ⟨bs,0,none⟩),.agg #[.string b,.int .i64 c]] w' λe o=>e=.returned (.tuple #[.agg (jP (some d)).toArray,.bool true])/\(∃r:Int,D.reads<=r/\r<=D.reads+14/\ze o bd S {D with reads:=r })/\Kept (λi=>i=bd) w' o):=λw' ac aa=>by have:=dx w' bs bd S D 1 ac aa J an (by omega) q n ak ⟨b,c⟩ ad I hF ag hbs;rw [am] at this;exact this
 have E:Hid (∀w' (r:Int),zt w' bs 1 (some bd)->ze w' bd S {D with reads:=r}->0<=r->r<=4611686018427360000->Calls Tryz.prog 51 #[.pointer (some ⟨bs,0,none⟩),.agg (qE d).toArray] w' λaU o=>(∃a cap,aU=.returned (.slice a l.length cap)/\o.ownsRow 0 5 1 (.slice a l.length cap) l.length (l.map qk)/\∀j,(Value.slice a l.length cap).ownBlock=some j->w'.heap.size<=j)/\(∃ab:Int,r<=ab/\ab<=r+ps.length/\ze o bd S {D with reads:=ab })/\Kept (λi=>i=bd) w' o):=λw' r ac aa aA ay=>vA w' bs bd S {D with reads:=r} 1 ac aa J aA ay d ps U Y R l ao P ai (by omega);change Hid _ at ae x F;clear A ak hF hbs am U Y R ao P;have Q:jP (some d)=[.string d.pl.key,.int .i64 d.pl.num,.bool d.mark,.int .i64 (d.size:Int),.int .i64 (d.at_:Int)]:=rfl;change Hid _ at Q
 have aC:d.pl.key=b/\d.pl.num=c/\d.mark=false:=by have:=F.out;simp [BE] at this;exact⟨this.1.1,this.1.2,this.2⟩
 obtain⟨X,L,V⟩:=aC;go_enter_defers Tryz.func42,Tryz.ntmps42
 go_wp2_with (first
  |(go_at_call 47;refine(qj ae).mono ?_;rintro e g ⟨rfl,s,W⟩;have y:Hid (Kept (λk=>k=bs) w g):=W;have aT:=s.c2;change Hid _ at s;clear W)
  |(go_at_call 49;refine(keys.qu b g aE).mono ?_;rintro e m ⟨rfl,O⟩;rw [O,x.out];clear O m))
 have u:Hid (Kept (λ_=>False) g (g.alloc (.cells #[.string b,.int .i64 c] 107))):=Kept.alloc _ _ _;have ah:Hid ((g.alloc (.cells #[.string b,.int .i64 c] 107)).heap[g.heap.size]? =some (.cells #[.string b,.int .i64 c] 107 (0,0))):=heap_alloc_new g _;have aP:(g.alloc (.cells #[.string b,.int .i64 c] 107)).heap.size=g.heap.size+1:=by simp
 generalize (g.alloc (.cells #[.string b,.int .i64 c] 107))=aG at*;have aQ:=y.size;refine(al aG (s.kept u id) ((aJ.kept y ap).kept u nF)).mono ?_;rintro e m ⟨rfl,⟨af,aD,aH,K⟩,p⟩;have aj:Hid (ze m bd S {D with reads:=af }):=K;have aL:=p.size;have Z:Hid (m.heap[g.heap.size]? =_):=(p.block _ (by omega) (by omega)).trans ah.out;change Hid _ at p;clear K;rw [Q.out];have t:Hid (Kept (λ_=>False) m (m.alloc (.cells #[.string d.pl.key,.int .i64 d.pl.num,.bool d.mark,.int .i64 (d.size:Int),.int .i64 (d.at_:Int)] 109))):=Kept.alloc _ _ _;have av:(m.alloc (.cells #[.string d.pl.key,.int .i64 d.pl.num,.bool d.mark,.int .i64 (d.size:Int),.int .i64 (d.at_:Int)] 109)).heap.size=m.heap.size+1:=by simp
 have aV:m.cell? ⟨g.heap.size,0,none⟩=some (.string b):=cR Z.out rfl;have aW:m.cell? ⟨g.heap.size,1,none⟩=some (.int .i64 c):=cR Z.out rfl;have aw:g.heap.size<m.heap.size:=by omega
 have aM:(d.pl.key.toList==b.toList)=true:=by rw [X];simp
 have aR:(d.pl.num==c)=true:=by rw [L];simp
 change Hid _ at X L;have H:Hid _:=((s.kept u id).kept p M).kept t id;have N:Hid (ze (m.alloc (.cells #[.string d.pl.key,.int .i64 d.pl.num,.bool d.mark,.int .i64 (d.size:Int),.int .i64 (d.at_:Int)] 109)) bd S {D with reads:=af }):=aj.kept t nF;rw [V] at t H N av ⊢;unfold qE at E;rw [V] at E;go_wp2_with fail;refine(E _ af H N (by omega) (by omega)).mono ?_;rintro e ax ⟨⟨aF,az,rfl,B,C⟩,⟨au,aI,aB,T⟩,G⟩;have aq:Hid (ze ax bd S {D with reads:=au }):=T;change Hid _ at B C G;clear T;go_wp2;refine leaves_cons (f:= 48) (args:=#[.pointer (some ⟨bs,0,none⟩)]) (by simp) (by simp [go_sem]) ?_;refine(qh (H.kept G M)).mono ?_;rintro e u' aY ⟨rfl,rfl,ar,v⟩;refine⟨_,results_tmp2 rfl _ _ _,⟨aF,az,rfl,v.owns B (λj z aS=>by have:=C.out j z;omega),λj z=>by have:=C.out j z;omega⟩,ar,⟨au,by omega,by omega,aq.kept v ap⟩,?_⟩;exact(((((y.mono (S':=λk=>k=bd\/k=bs) (λ_ h=>.inr h)).trans u fE).trans p (λ_ h=>.inl (.inl h))).trans t fE).trans G (λ_ h=>.inl (.inl h))).trans v (λ_ h=>.inl (.inr h))
end prog
end Go.Proofs.YtcoengihaobddaaGreatDoor
