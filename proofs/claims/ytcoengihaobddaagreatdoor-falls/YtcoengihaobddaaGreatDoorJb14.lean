/- Part 14 of 36 of a proof: Law20, Find12, Find13, Top1 -/
import Derived.Test.YtcoengihaobddaaGreatDoorJb13
import Derived.Deep.Slices
import Derived.ChangeArms
import Derived.SizedLaws
set_option maxHeartbeats 8000000
set_option linter.unusedVariables false
set_option linter.unusedSimpArgs false
set_option maxRecDepth 8000
namespace Go.Proofs.YtcoengihaobddaaGreatDoor
namespace law
open Go.ChangeShapes Go.WideShapes Go.ChangeAt Go.RowKit disk ref book
open keys (zh zd zx zq zp)
variable {W1 w2:World}{v0:Value}{more:Bool}
def uD(bo f box q:Nat)(od:xg):Nat->Value
 |0=>.pointer (some ⟨bo,0,none⟩)
 |1=>.pointer (some ⟨bo,0,none⟩)
 |2=>.pointer (some ⟨bo,f,none⟩)
 |3=>.pointer (some ⟨q,0,none⟩)
 |4=>.pointer (some ⟨box,5,none⟩)
 |5=>.string od.P
 |6=>.pointer (some ⟨box,4,none⟩)
 |7=>.string od.S
 |8=>.pointer (some ⟨box,2,none⟩)
 |9=>.int .i64 od.B
 |10=>.pointer (some ⟨box,3,none⟩)
 |_=>.int .i64 od.C
structure vw (M:ze) (X R:Nat->Prop) (bo bs bd:Nat) (h:qg) (D:Dk) (S:Nat->Prop) (V:qE) (od:xg) (cc:Int) (W1:World) (v0 v1 c:Value) (w2:World) (D2:Dk) (S2:Nat->Prop) (more:Bool):Prop where
 v1:v1=.bool more
 c:c=.int .i64 cc
 aft:yR M W1 w2 bd bs S S2 D D2 1000
 ask:gB M w2 bs bd h D D2 V
 pg:Vn W1 w2 S2 V.vs od.P od.S od.B od.C v0 more cc
 bb:X bs/\¬S bs/\¬R bs/\bs≠bo
theorem Qz.laid{h o:World}{L:List zB}{m:Int}{c:Int}{b:Nat}(i:Qz W1 w2 L m v0 more c)(k1:za (λ_=>False) h W1)(t:h.heap.size<=b)(r:b<W1.heap.size\/w2.heap.size<=b)(n:za (λk=>k=b) w2 o):
 Qz h o L m v0 more c/\∀j,v0.ownBlock=some j->j≠b:=by
 have s:=k1.size
 have d:∀j,v0.ownBlock=some j->j≠b:=λj a=>by
  by_cases f:c=0
  .obtain⟨_,l,p,e,g,h2⟩:=i.yes f;rw [e] at a;have v:=h2 j a;have u:=(g.lt j a).2;omega
  .rw [(i.no f).1] at a;cases a
 refine⟨⟨(k1.trans i.kept iL).trans n (λk w=>.inr (by omega)),λf=>?_,i.no⟩,d⟩;obtain⟨q,l,p,e,g,h2⟩:=i.yes f;exact⟨q,l,p,e,n.owns g (λj a=>by rw [e] at d;exact d j a),λj a=>by have:=h2 j a;omega⟩
theorem Qz.form{w w':World}{L:List zB}{m:Int}{c:Int}(d:Qz w w' L m v0 more c):∃a n k,v0=.slice a n k:=by
 by_cases b:c=0
 .obtain⟨_,f,g,e,_⟩:=d.yes b;exact⟨_,_,_,e⟩
 .exact⟨_,_,_,(d.no b).1⟩
theorem vw.form{M:ze}{X p:Nat->Prop}{bo bs bd:Nat}{h:qg}{D:Dk}{S:Nat->Prop}{V:qE}{f:xg}{b:Int}{j c:Value}{g:Dk}{i:Nat->Prop}(l:vw M X p bo bs bd h D S V f b W1 v0 j c w2 g i more):∃a n k,v0=.slice a n k:=by
 by_cases d:b=0
 .obtain⟨L,_,⟨_,m,o,e,_⟩,_⟩:=l.pg.yes d;exact⟨_,_,_,e⟩
 .exact⟨_,_,_,(l.pg.no d).1⟩
theorem vw.laid{M:ze}{X K:Nat->Prop}{bo bs bd:Nat}{h:qg}{D:Dk}{S:Nat->Prop}{V:qE}{u:xg}{o:Int}{p w:World}{C c:Value}{z:Dk}{t:Nat->Prop}{b:Nat}(f:vw M X K bo bs bd h D S V u o W1 v0 C c w2 z t more)(A:∀k,X k->k<p.heap.size)(H:∀k,S k->X k)(k1:za (λ_=>False) p W1)(I:p.heap.size<=b)(x:b<W1.heap.size\/w2.heap.size<=b)(i:za (λk=>k=b) w2 w):
 vw M X K bo bs bd h D S V u o p v0 C c w z t more/\∀j,v0.ownBlock=some j->j≠b:=by
 have J:=k1.size
 have y:¬t b:=λd=>by
  rcases x with g|g
  .rcases f.aft.foot b d with h2|h2;.have:=A _ (H _ h2);omega
   .omega
  .have:=f.aft.disk.lt b d;omega
 have hbs:¬bs=b:=λe=>by have:=A bs f.bb.1;omega
 have q:∀j,o=0->v0.ownBlock=some j->W1.heap.size<=j/\j≠b:=λj d a=>by obtain⟨L,_,⟨_,v,B,e,g,h2⟩,_⟩:=f.pg.yes d;rw [e] at a;have s:=h2 j a;have N:=(g.lt j a).2;exact⟨s,by omega⟩
 have m:∀j,v0.ownBlock=some j->j≠b:=λj a=>by
  by_cases d:o=0;.exact(q j d a).2
  .rw [(f.pg.no d).1] at a;cases a
 refine⟨⟨f.v1,f.c,⟨f.aft.disk.kept i (λk n e=>y (by rw [<-e];exact n)),λk n=>(f.aft.foot k n).imp id (λh=>by omega),((k1.mono fE).trans f.aft.kept iL).trans i (λk n=>.inr (by omega)),f.aft.reads0,f.aft.reads1,f.aft.size,f.aft.fuse⟩,?_,⟨λd=>?_,f.pg.no⟩,f.bb⟩,m⟩
 .cases f.ask with
  |shut r l E=>exact .shut r (M.sto_kept _ _ _ _ _ l i hbs) E
  |live r l live=>exact .live r (M.sto_kept _ _ _ _ _ l i hbs) live
 .obtain⟨L,G,⟨F,v,B,e,g,h2⟩,s⟩:=f.pg.yes d;exact⟨L,G,⟨F,v,B,e,i.owns g (λj a=>by rw [e] at m;exact m j a),λj a=>by have:=h2 j a;omega⟩,s⟩
theorem Xk(M:ze)(A:xy M)(w:World)(X:Nat->Prop)(bo t:Nat)(h:qg)(bd:Nat)(D:Dk)(S bm:Nat->Prop)(aA:Nat)(V:qE)(ag:Int)(n:yt M w X bo t h bd D S bm aA V ag)(dt:t<=2199023255552)(bs:Nat)(hbs:h.s=qz bs)
 (d:xg) (Q:Nat->Prop) (an:d.Ok w Q) (cQ:∀k,Q k->¬X k/\k<w.heap.size) (a1:d.kind=7)
 (W:Nat) (bJ:Value) (F H:Nat->Prop) (a b:Option Addr) (a9 bx:Nat) (bp vs:List xU) (B:xq w W bJ F H a b a9 bx bp vs) (dm:vs.length<=t) (U:∀k,X k->¬F k/\¬H k/\k≠W):
 Calls Tryz.prog 63 #[.pointer (some ⟨W,0,none⟩),.pointer (some ⟨bo,0,none⟩),.agg #[.int .i64 d.kind,.int .i64 d.A,.int .i64 d.B,.int .i64 d.C,.string d.S,.string d.P,.slice d.la d.l.length d.lc,.slice d.ka d.ks.length d.kc]] w λe w'=>Vp M w w' X bo t W bJ F H a a9 bp vs e:=by
 have aw:=n.xlt;have k0:za (λ_=>False) w (w.alloc (.cells #[.int .i64 d.kind,.int .i64 d.A,.int .i64 d.B,.int .i64 d.C,.string d.S,.string d.P,.slice d.la d.l.length d.lc,.slice d.ka d.ks.length d.kc] 81)):=za.alloc _ _ _;have aq:xc (w.alloc (.cells #[.int .i64 d.kind,.int .i64 d.A,.int .i64 d.B,.int .i64 d.C,.string d.S,.string d.P,.slice d.la d.l.length d.lc,.slice d.ka d.ks.length d.kc] 81)) w.heap.size d:=⟨ac w _⟩;have bC:=an.kept k0 nF;have u:=n.kept k0 nF;have Z:w.heap.size<(w.alloc (.cells #[.int .i64 d.kind,.int .i64 d.A,.int .i64 d.B,.int .i64 d.C,.string d.S,.string d.P,.slice d.la d.l.length d.lc,.slice d.ka d.ks.length d.kc] 81)).heap.size:=by simp
 have b2:=u.head.c0;rw [u.hd] at b2;unfold qz at b2;have bG:=u.head.c1;rw [hbs] at bG;unfold qz at bG;have cy:=aq.c4;have cu:=aq.c2;have cS:=aq.c3;have cV:=aq.c5;have dj:=aq.c0.trans (congrArg (λk=>some (Value.int .i64 k)) a1);have c8:=aw bo n.bX;have cn:=n.good.few;change Hid _ at aq bC u n an cQ hbs aw k0 B U Z;clear a1;generalize dk:w.alloc (.cells #[.int .i64 d.kind,.int .i64 d.A,.int .i64 d.B,.int .i64 d.C,.string d.S,.string d.P,.slice d.la d.l.length d.lc,.slice d.ka d.ks.length d.kc] 81)=af at*;go_enter Tryz.func63,Tryz.ntmps63;go_wp2_with fail;obtain⟨c7,cZ,cp,cT,b0⟩:=u.disk;refine(qD _ bd S D c7 cZ cp cT b0).mono ?_;rintro e cd ⟨rfl,aQ⟩;rw [aQ];clear aQ cd b0;go_wp2_with fail
 have aj:∀o,za (λ_=>False) af o->o.cell? ⟨bo,1,none⟩=some (.pointer (some ⟨bs,0,none⟩))/\o.cell? ⟨w.heap.size,5,none⟩=some (.string d.P)/\o.cell? ⟨w.heap.size,4,none⟩=some (.string d.S)/\o.cell? ⟨w.heap.size,2,none⟩=some (.int .i64 d.B)/\o.cell? ⟨w.heap.size,3,none⟩=some (.int .i64 d.C):=λo k=>by have y:=Z.out;exact⟨(k.cell (a:=⟨bo,1,none⟩) (show bo<af.heap.size by omega) id).trans bG,(k.cell (a:=⟨w.heap.size,5,none⟩) y id).trans cV,(k.cell (a:=⟨w.heap.size,4,none⟩) y id).trans cy,(k.cell (a:=⟨w.heap.size,2,none⟩) y id).trans cu,(k.cell (a:=⟨w.heap.size,3,none⟩) y id).trans cS⟩
 have cD:Hid (X bs):=by
  cases n.st with
  |live bk aL ck=>have e:bk=bs:=(by have s:=hbs.out;rw [aL] at s;unfold qz at s;simpa using s);rw [<-e];exact ck
  |shut bk aL ck=>have e:bk=bs:=(by have s:=hbs.out;rw [aL] at s;unfold qz at s;simpa using s);rw [<-e];exact ck
  |gone aL=>have s:=hbs.out;rw [aL] at s;cases s
 have bN:∀k,(S k\/k=bs)->k<af.heap.size:=λk l=>u.xlt k (l.elim (u.sX k) (λe=>by rw [e];exact cD));have cL:Hid (∀k,(S k\/k=bs)->k<af.heap.size):=bN;clear bN;refine xf (by kernel_rfl) (by kernel_rfl) (λL aX o=>∃x:Nat->Value,aX={tmps:=#[.pointer (some ⟨W,0,none⟩),.pointer (some ⟨bo,0,none⟩),.agg #[.int .i64 d.kind,.int .i64 d.A,.int .i64 d.B,.int .i64 d.C,.string d.S,.string d.P,.slice d.la d.l.length d.lc,.slice d.ka d.ks.length d.kc],undef,undef,.pointer (some ⟨w.heap.size,0,none⟩),.bool false,.int .i64 D.reads,undef,undef,undef,undef,undef,undef,undef,undef,undef,undef,undef,undef,undef,undef,x 16,x 18,undef,undef,undef,.pointer (some ⟨bo,0,none⟩),.pointer (some ⟨bo,0,none⟩),.pointer (some ⟨bo,0,none⟩),.pointer (some ⟨bd,0,none⟩),.int .i64 D.reads,.pointer (some ⟨w.heap.size,0,none⟩),.int .i64 7,.bool false,.bool false,undef,undef,undef,undef,undef,undef,undef,undef,undef,undef,undef,undef,undef,undef,undef,undef,undef,undef,undef,undef,undef,undef,undef,undef,undef,undef,undef,undef,undef,undef,undef,undef,undef,undef,undef,undef,undef,undef,undef,undef,undef,undef,undef,undef,undef,undef,undef,undef,undef,undef,undef,undef,undef,undef,undef,undef,undef,undef,undef,undef,undef,undef,undef,undef,undef,undef,undef,undef,undef,.bool false,.bool false,undef,undef,undef,undef,undef,undef,undef,undef,undef,undef,undef,undef,undef,undef,undef,undef,undef,undef,undef,undef,undef,undef,undef,undef,undef,undef,undef,undef,undef,undef,undef,undef,undef,undef,undef,undef,undef,undef,undef,undef,undef,undef,undef,undef,undef,undef,undef,undef,undef,undef,undef,undef,undef,undef,undef,undef,undef,undef,undef,undef,undef,undef,x 13,x 0,x 1,x 2,x 3,x 4,x 5,x 6,x 7,x 8,x 9,x 10,x 11,x 12,x 14,x 15,undef,undef,undef,undef,undef,undef,undef,undef,undef,undef,undef,undef,undef,undef,undef,undef,undef,undef,undef,undef,undef,undef,undef,undef,undef,undef,undef,undef,undef,undef,undef,undef,undef,undef,undef,undef,undef,undef,undef,undef,undef,undef,undef,undef,undef,undef,undef,undef,undef,undef],defers:=[]}/\qV af 90 (uD bo 1 w.heap.size bs d) (λW1 v0 ap c w2=>∃ao ab more,vw M X bm bo bs bd h D S V d (ys h.shut (qH d.P d.S d.B d.C)) W1 v0 ap c w2 ao ab more) L x o) ?_ ?_ ?_;.exact⟨λ_=>undef,rfl,qV.start _⟩
 .rintro L aX o i ds bw ak f ⟨x,rfl,g⟩;have aV:i<19:=(lT bw);rcases (by omega:(i=0\/i=1\/i=2\/i=4\/i=6\/i=8\/i=10)\/(i=3\/i=5\/i=7\/i=9\/i=11)\/i=12\/i=13\/i=14\/i=15\/i=16\/i=17\/i=18) with(rfl|rfl|rfl|rfl|rfl|rfl|rfl)|(rfl|rfl|rfl|rfl|rfl)|rfl|rfl|rfl|rfl|rfl|rfl|rfl;all_goals (have a6:=eG bw;subst a6)
  iterate 7
   .first|have e:=g.pv 0 (by decide) (f ⟨0,.data⟩ ⟨.head _⟩ rfl)|have e:=g.pv 1 (by decide) (f ⟨1,.data⟩ ⟨.head _⟩ rfl)|have e:=g
    (try simp only [uD] at e)
    refine wpOp_step rfl (λR p=>?_)
    (try simp only [e])
    go_simp;exact p _ _ ⟨_,(by first|simp [uD,e]|simp [uD]),g.pure _ (by decide)⟩
  iterate 5
   .obtain⟨cl,cw,c1,db,c0⟩:=aj o (g.early (g.l12 ak)).1
    first|have e:=g.pv 2 (by decide) (f ⟨2,.data⟩ ⟨.head _⟩ rfl)|have e:=g.pv 4 (by decide) (f ⟨4,.data⟩ ⟨.head _⟩ rfl)|have e:=g.pv 6 (by decide) (f ⟨6,.data⟩ ⟨.head _⟩ rfl)|have e:=g.pv 8 (by decide) (f ⟨8,.data⟩ ⟨.head _⟩ rfl)|have e:=g.pv 10 (by decide) (f ⟨10,.data⟩ ⟨.head _⟩ rfl)
    simp only [uD] at e;refine wpOp_step rfl (λR p=>?_)
    (try simp only [e])
    go_simp;exact p _ _ ⟨_,(by first|simp [uD,e]|simp [uD]),g.pure _ (by decide)⟩
  .have bt:L 3=true:=(f ⟨3,.data⟩ (by simp) rfl);have bz:x 3=.pointer (some ⟨bs,0,none⟩):=g.pv 3 (by omega) bt;have bi:L 5=true:=(f ⟨5,.data⟩ (by simp) rfl);have a5:x 5=.string d.P:=g.pv 5 (by omega) bi;have bA:L 7=true:=(f ⟨7,.data⟩ (by simp) rfl);have bD:x 7=.string d.S:=g.pv 7 (by omega) bA;have bF:L 9=true:=(f ⟨9,.data⟩ (by simp) rfl);have bb:x 9=.int .i64 d.B:=g.pv 9 (by omega) bF;have aK:L 11=true:=(f ⟨11,.data⟩ (by simp) rfl);have aO:x 11=.int .i64 d.C:=g.pv 11 (by omega) aK;have aN:=(g.early ak).1;refine wpOp_step rfl (λR p=>?_);simp only [bz,a5,bD,bb,aO];go_simp;refine(Vo M A o X bo t h bd D S bm aA V ag (u.kept aN nF) (by omega) bs hbs d.P d.S an.out.P an.out.S d.B d.C an.out.B an.out.C).mono ?_;rintro e w2 ⟨ao,ab,v0,more,rfl,al,ca,cG,cH⟩;exact p _ _ ⟨λj=>if j=12 then .tuple #[.agg #[v0,.bool more],.int .i64 (ys h.shut (qH d.P d.S d.B d.C))] else x j,by simp [bz,a5,bD,bb,aO],g.call ak v0 (.bool more) _ w2 (λk=>S k\/k=bs) cL al.kept ⟨ao,ab,more,rfl,rfl,al,ca,cG,cH⟩ ⟨bt,bi,bA,bF,aK⟩⟩
  .have bl:L 12=true:=(f ⟨12,.data⟩ (by simp) rfl);refine wpOp_step rfl (λR p=>?_);go_simp;exact p _ _ ⟨λj=>if j=13 then x 12 else x j,by simp,g.part13 bl ak⟩
  .have C:L 13=true:=(f ⟨13,.data⟩ (by simp) rfl);have z:=g.t12 C;obtain⟨W1,w2,v0,ap,c,q⟩:=g.late z;have G:=q.x13 C;refine wpOp_step rfl (λR p=>?_);simp only [G];go_simp;exact p _ _ ⟨λj=>if j=14 then .agg #[v0,ap] else x j,by simp [G],g.part14 z _ (λ_ _ _ _ _ q'=>by have s:=q'.x13 C;rw [G] at s;simp at s;rw [s.1.1,s.1.2])⟩
  .have C:L 13=true:=(f ⟨13,.data⟩ (by simp) rfl);have z:=g.t12 C;obtain⟨W1,w2,v0,ap,c,q⟩:=g.late z;have G:=q.x13 C;refine wpOp_step rfl (λR p=>?_);simp only [G];go_simp;exact p _ _ ⟨λj=>if j=15 then c else x j,by simp [G],g.part15 z _ (λ_ _ _ _ _ q'=>by have s:=q'.x13 C;rw [G] at s;simp at s;exact s.2)⟩
  .refine wpOp_step rfl (λR p=>?_);go_simp;exact p _ _ ⟨λj=>if j=16 then .pointer (some ⟨o.heap.size,0,none⟩) else x j,by simp,g.make ak _ _⟩
  .have a7:L 16=true:=(f ⟨16,.data⟩ (by simp) rfl);have aS:L 14=true:=(f ⟨14,.data⟩ (by simp) rfl);have z:=g.t12 aS;obtain⟨b,v0,ap,P,ah,⟨u0,u1,aI⟩,⟨_,_,_,ae⟩,bH⟩:=g.lay z a7 ak;obtain⟨ao,ab,more,ae⟩:=ae;obtain⟨I,a4,J,rfl⟩:=ae.form;obtain rfl:=ae.v1;clear ae;have ah:=ah aS;have da:o.cell? ⟨b,0,none⟩=some u0:=cR aI rfl;have cl:o.cell? ⟨b,1,none⟩=some u1:=cR aI rfl;have c3:=aa o b 0 _ _ aI;have cY:=aa o b 1 _ _ aI;refine wpOp_step rfl (λR p=>?_);simp only [P,ah];go_simp;exact p _ _ ⟨λj=>if j=17 then undef else x j,by simp [P,ah],bH undef⟩
  .have aP:L 15=true:=(f ⟨15,.data⟩ (by simp) rfl);have z:=g.t12 aP;refine wpOp_step rfl (λR p=>?_);go_simp;exact p _ _ ⟨λj=>if j=18 then x 15 else x j,by simp,g.part18 z _ (λ_ _ _ _ _ q=>q.x15 aP)⟩
 .rintro L aX O E ⟨x,rfl,g⟩;obtain⟨W1,w2,v0,ap,c,q⟩:=g.late (E 12 (by decide));obtain⟨ao,ab,more,ba⟩:=q.post;obtain⟨N,P,cP,br,bU,u0,u1,aJ,cv⟩:=q.yes (E 16 (by decide));obtain⟨rfl,rfl⟩:=cv (E 17 (by decide));have au:=q.x18 (E 18 (by decide));obtain⟨K,bI⟩:=ba.laid u.xlt u.sX q.k1 cP br bU;rw [K.c] at au;rw [P,au];have cb:=(lT aJ);clear aj g E ba br bU P au q;obtain⟨I,a4,J,rfl⟩:=K.form;obtain rfl:=K.v1;have al:yR M af.drew O bd bs S ab D ao 1000:=⟨K.aft.disk,K.aft.foot,⟨K.aft.kept.os,K.aft.kept.tape,K.aft.kept.output,K.aft.kept.size,K.aft.kept.block⟩,K.aft.reads0,K.aft.reads1,K.aft.size,K.aft.fuse⟩;have ar:Hid (KW w.heap.size O bo h bd ao ab bm aA V ag d Q):=gz u aw aq bC cQ Z al K.bb;have am:Hid (yR M af.drew O bd bs S ab D ao 1000):=al;have bj:Hid (gB M O bs bd h D ao V):=K.ask;have b4:Hid (Vn af O ab V.vs d.P d.S d.B d.C (.slice I a4 J) more (ys h.shut (qH d.P d.S d.B d.C))):=K.pg;have ax:Hid (X bs/\¬S bs/\¬bm bs/\bs≠bo):=K.bb;have cg:Hid (∀j,(Value.slice I a4 J).ownBlock=some j->j≠N):=bI;have b9:Hid (O.heap[N]? =some (.cells #[.slice I a4 J,.bool more] 90 (0,0))):=aJ;obtain⟨aT,bY⟩:∃aT,yw V.vs d.P d.S d.B aT:=⟨_,fw V.vs n.good.apart d.P d.S d.B⟩;have bO:Hid (yw V.vs d.P d.S d.B aT):=bY
  have cs:Hid (∀v∈V.vs,v.key.size<=9223372036854775807):=λv dg=>by
   have s:=n.good.key v dg;unfold zp at s;simp only [aW,aR] at s;have dr:v.key.data.toList.length=v.key.size:=by simp
   omega
  have bV:Hid (∀k,bm k->k<O.heap.size):=λk l=>by have:=aw.out k (n.rX k l).1;have:=Z.out;omega
  generalize b7:ys h.shut (qH d.P d.S d.B d.C)=bu at*;have b5:Hid (ys h.shut (qH d.P d.S d.B d.C)=bu):=b7;have bL:=ar.head.c2;rw [n.his] at bL;unfold qz at bL;have cE:=ar.box.c2;have cX:=ar.box.c3;have ct:=ar.box.c4;have cI:=ar.box.c5
  have aj:∀o,za (λ_=>False) O o->o.cell? ⟨bo,2,none⟩=some (.pointer (some ⟨aA,0,none⟩))/\o.cell? ⟨w.heap.size,5,none⟩=some (.string d.P)/\o.cell? ⟨w.heap.size,4,none⟩=some (.string d.S)/\o.cell? ⟨w.heap.size,2,none⟩=some (.int .i64 d.B)/\o.cell? ⟨w.heap.size,3,none⟩=some (.int .i64 d.C):=λo k=>by
   have y:=Z.out;have h2:w.heap.size<O.heap.size:=by omega
   exact⟨(k.cell (a:=⟨bo,2,none⟩) (show bo<O.heap.size by omega) id).trans bL,(k.cell (a:=⟨w.heap.size,5,none⟩) h2 id).trans cI,(k.cell (a:=⟨w.heap.size,4,none⟩) h2 id).trans ct,(k.cell (a:=⟨w.heap.size,2,none⟩) h2 id).trans cE,(k.cell (a:=⟨w.heap.size,3,none⟩) h2 id).trans cX⟩
  clear K al bI aJ bY b7 bL cE cX ct cI;go_wp2_with fail;refine xf (by kernel_rfl) (by kernel_rfl) (λL aX o=>∃Y:Nat->Value,aX={tmps:=#[.pointer (some ⟨W,0,none⟩),.pointer (some ⟨bo,0,none⟩),.agg #[.int .i64 d.kind,.int .i64 d.A,.int .i64 d.B,.int .i64 d.C,.string d.S,.string d.P,.slice d.la d.l.length d.lc,.slice d.ka d.ks.length d.kc],undef,undef,.pointer (some ⟨w.heap.size,0,none⟩),.bool false,.int .i64 D.reads,undef,undef,undef,undef,undef,undef,undef,undef,undef,undef,undef,undef,undef,undef,.pointer (some ⟨N,0,none⟩),.int .i64 bu,Y 16,Y 18,undef,.pointer (some ⟨bo,0,none⟩),.pointer (some ⟨bo,0,none⟩),.pointer (some ⟨bo,0,none⟩),.pointer (some ⟨bd,0,none⟩),.int .i64 D.reads,.pointer (some ⟨w.heap.size,0,none⟩),.int .i64 7,.bool false,.bool false,undef,undef,undef,undef,undef,undef,undef,undef,undef,undef,undef,undef,undef,undef,undef,undef,undef,undef,undef,undef,undef,undef,undef,undef,undef,undef,undef,undef,undef,undef,undef,undef,undef,undef,undef,undef,undef,undef,undef,undef,undef,undef,undef,undef,undef,undef,undef,undef,undef,undef,undef,undef,undef,undef,undef,undef,undef,undef,undef,undef,undef,undef,undef,undef,undef,undef,undef,undef,undef,.bool false,.bool false,undef,undef,undef,undef,undef,undef,undef,undef,undef,undef,undef,undef,undef,undef,undef,undef,undef,undef,undef,undef,undef,undef,undef,undef,undef,undef,undef,undef,undef,undef,undef,undef,undef,undef,undef,undef,undef,undef,undef,undef,undef,undef,undef,undef,undef,undef,undef,undef,undef,undef,undef,undef,undef,undef,undef,undef,undef,undef,undef,undef,undef,undef,x 13,x 0,x 1,x 2,x 3,x 4,x 5,x 6,x 7,x 8,x 9,x 10,x 11,x 12,x 14,x 15,Y 13,Y 0,Y 1,Y 2,Y 3,Y 4,Y 5,Y 6,Y 7,Y 8,Y 9,Y 10,Y 11,Y 12,Y 14,Y 15,undef,undef,undef,undef,undef,undef,undef,undef,undef,undef,undef,undef,undef,undef,undef,undef,undef,undef,undef,undef,undef,undef,undef,undef,undef,undef,undef,undef,undef,undef,undef,undef,undef,undef],defers:=[]}/\qV O 90 (uD bo 2 w.heap.size aA d) (λW1 v0 ap c w2=>∃r,ap=.bool r/\c=.int .i64 (qH d.P d.S d.B d.C)/\Qz W1 w2 aT d.C v0 r (qH d.P d.S d.B d.C)) L Y o) ?_ ?_ ?_;.exact⟨λ_=>undef,rfl,qV.start _⟩
  .rintro L aX o i ds bw ak f ⟨Y,rfl,g⟩;have aV:i<19:=(lT bw);rcases (by omega:(i=0\/i=1\/i=2\/i=4\/i=6\/i=8\/i=10)\/(i=3\/i=5\/i=7\/i=9\/i=11)\/i=12\/i=13\/i=14\/i=15\/i=16\/i=17\/i=18) with(rfl|rfl|rfl|rfl|rfl|rfl|rfl)|(rfl|rfl|rfl|rfl|rfl)|rfl|rfl|rfl|rfl|rfl|rfl|rfl;all_goals (have a6:=eG bw;subst a6)
   iterate 7
    .first|have e:=g.pv 0 (by decide) (f ⟨0,.data⟩ ⟨.head _⟩ rfl)|have e:=g.pv 1 (by decide) (f ⟨1,.data⟩ ⟨.head _⟩ rfl)|have e:=g
     (try simp only [uD] at e)
     refine wpOp_step rfl (λR p=>?_)
     (try simp only [e])
     go_simp;exact p _ _ ⟨_,(by first|simp [uD,e]|simp [uD]),g.pure _ (by decide)⟩
   iterate 5
    .obtain⟨cl,cw,c1,db,c0⟩:=aj o (g.early (g.l12 ak)).1
     first|have e:=g.pv 2 (by decide) (f ⟨2,.data⟩ ⟨.head _⟩ rfl)|have e:=g.pv 4 (by decide) (f ⟨4,.data⟩ ⟨.head _⟩ rfl)|have e:=g.pv 6 (by decide) (f ⟨6,.data⟩ ⟨.head _⟩ rfl)|have e:=g.pv 8 (by decide) (f ⟨8,.data⟩ ⟨.head _⟩ rfl)|have e:=g.pv 10 (by decide) (f ⟨10,.data⟩ ⟨.head _⟩ rfl)
     simp only [uD] at e;refine wpOp_step rfl (λR p=>?_)
     (try simp only [e])
     go_simp;exact p _ _ ⟨_,(by first|simp [uD,e]|simp [uD]),g.pure _ (by decide)⟩
   .have bt:L 3=true:=(f ⟨3,.data⟩ (by simp) rfl);have bz:Y 3=.pointer (some ⟨aA,0,none⟩):=g.pv 3 (by omega) bt;have bi:L 5=true:=(f ⟨5,.data⟩ (by simp) rfl);have a5:Y 5=.string d.P:=g.pv 5 (by omega) bi;have bA:L 7=true:=(f ⟨7,.data⟩ (by simp) rfl);have bD:Y 7=.string d.S:=g.pv 7 (by omega) bA;have bF:L 9=true:=(f ⟨9,.data⟩ (by simp) rfl);have bb:Y 9=.int .i64 d.B:=g.pv 9 (by omega) bF;have aK:L 11=true:=(f ⟨11,.data⟩ (by simp) rfl);have aO:Y 11=.int .i64 d.C:=g.pv 11 (by omega) aK;have aN:=(g.early ak).1;refine wpOp_step rfl (λR p=>?_);simp only [bz,a5,bD,bb,aO];go_simp;refine(J9 o bm bm aA V.vs ag (ar.ref.kept aN nF nF) (λk l=>ay (bV k l) aN.size) (λk l=>ay (bV k l) aN.size) n.good.apart cn cs d.P d.S d.B d.C an.out.P an.out.S aT bO).mono ?_;rintro e w2 ⟨cj,r,rfl,ai⟩;exact p _ _ ⟨λj=>if j=12 then .tuple #[.agg #[cj,.bool r],.int .i64 (qH d.P d.S d.B d.C)] else Y j,by simp [bz,a5,bD,bb,aO],g.call ak cj (.bool r) _ w2 (λ_=>False) fE ai.kept ⟨r,rfl,rfl,ai⟩ ⟨bt,bi,bA,bF,aK⟩⟩
   .have bl:L 12=true:=(f ⟨12,.data⟩ (by simp) rfl);refine wpOp_step rfl (λR p=>?_);go_simp;exact p _ _ ⟨λj=>if j=13 then Y 12 else Y j,by simp,g.part13 bl ak⟩
   .have C:L 13=true:=(f ⟨13,.data⟩ (by simp) rfl);have z:=g.t12 C;obtain⟨W1,w2,v0,ap,c,q⟩:=g.late z;have G:=q.x13 C;refine wpOp_step rfl (λR p=>?_);simp only [G];go_simp;exact p _ _ ⟨λj=>if j=14 then .agg #[v0,ap] else Y j,by simp [G],g.part14 z _ (λ_ _ _ _ _ q'=>by have s:=q'.x13 C;rw [G] at s;simp at s;rw [s.1.1,s.1.2])⟩
   .have C:L 13=true:=(f ⟨13,.data⟩ (by simp) rfl);have z:=g.t12 C;obtain⟨W1,w2,v0,ap,c,q⟩:=g.late z;have G:=q.x13 C;refine wpOp_step rfl (λR p=>?_);simp only [G];go_simp;exact p _ _ ⟨λj=>if j=15 then c else Y j,by simp [G],g.part15 z _ (λ_ _ _ _ _ q'=>by have s:=q'.x13 C;rw [G] at s;simp at s;exact s.2)⟩
   .refine wpOp_step rfl (λR p=>?_);go_simp;exact p _ _ ⟨λj=>if j=16 then .pointer (some ⟨o.heap.size,0,none⟩) else Y j,by simp,g.make ak _ _⟩
   .have a7:L 16=true:=(f ⟨16,.data⟩ (by simp) rfl);have aS:L 14=true:=(f ⟨14,.data⟩ (by simp) rfl);have z:=g.t12 aS;obtain⟨b,v0,ap,P,ah,⟨u0,u1,aI⟩,⟨_,_,_,ae⟩,bH⟩:=g.lay z a7 ak;obtain⟨r,rfl,_,ae⟩:=ae;obtain⟨aD,a2,aF,rfl⟩:=ae.form;clear ae;have ah:=ah aS;have da:o.cell? ⟨b,0,none⟩=some u0:=cR aI rfl;have cl:o.cell? ⟨b,1,none⟩=some u1:=cR aI rfl;have c3:=aa o b 0 _ _ aI;have cY:=aa o b 1 _ _ aI;refine wpOp_step rfl (λR p=>?_);simp only [P,ah];go_simp;exact p _ _ ⟨λj=>if j=17 then undef else Y j,by simp [P,ah],bH undef⟩
   .have aP:L 15=true:=(f ⟨15,.data⟩ (by simp) rfl);have z:=g.t12 aP;refine wpOp_step rfl (λR p=>?_);go_simp;exact p _ _ ⟨λj=>if j=18 then Y 15 else Y j,by simp,g.part18 z _ (λ_ _ _ _ _ q=>q.x15 aP)⟩
  .rintro L aX ad E ⟨Y,rfl,g⟩;obtain⟨dn,dp,cj,dy,cw,bc⟩:=g.late (E 12 (by decide));obtain⟨r,cB,b3,bB⟩:=bc.post;obtain⟨cf,P,cz,bn,bQ,u0,u1,aH,cO⟩:=bc.yes (E 16 (by decide));obtain⟨rfl,rfl⟩:=cO (E 17 (by decide));have au:=bc.x18 (E 18 (by decide));obtain⟨ai,ce⟩:=bB.laid bc.k1 cz bn bQ;rw [b3] at au;rw [P,au];obtain⟨aD,a2,aF,rfl⟩:=ai.form;subst cB;have de:=(lT aH);have cq:Hid (Qz O ad aT d.C (.slice aD a2 aF) r (qH d.P d.S d.B d.C)):=ai;have bg:Hid (ad.heap[cf]? =some (.cells #[.slice aD a2 aF,.bool r] 90 (0,0))):=aH;have bf:Hid (ad.heap[N]? =some (.cells #[.slice I a4 J,.bool more] 90 (0,0))):=(ai.kept.block _ cb id).trans b9.out;have co:Hid (KW w.heap.size ad bo h bd ao ab bm aA V ag d Q):=ar.kept ai.kept fE;have av:Hid (za (λ_=>False) O ad):=ai.kept;clear aj g E bB bn bQ P au bc b3 ai ce aH;have aU:za (λk=>S k\/k=bs) w O:=((k0.mono fE).trans (za.drew _ af) iL).trans am.kept iL;have bK:Hid (za (λk=>S k\/k=bs) w O):=aU
   have a3:Hid (xq ad W bJ F H a b a9 bx bp vs):=(B.kept aU (λi aV m=>by
    rcases m with m|m;.exact(U i (n.sX i m)).1 aV
    .exact(U i (by rw [m];exact ax.1)).1 aV) (λi aV m=>by
    rcases m with m|m;.exact(U i (n.sX i m)).2.1 aV
    .exact(U i (by rw [m];exact ax.1)).2.1 aV) (λm=>by
    rcases m with m|m;.exact(U W (n.sX W m)).2.2 rfl
    .exact(U bs ax.1).2.2 m.symm)).kept av nF nF (λaY=>aY)
   have bS:∀k,(X k\/ab k)->¬F k/\¬H k/\k≠W:=λk l=>by
    rcases l with l|l;.exact U k l
    .rcases am.foot k l with y|y;.exact U k (n.sX k y)
     .have h2:af.heap.size<=k:=y;have cJ:=Z.out;exact⟨λm=>by have:=B.flt k m;omega,λm=>by have:=B.hlt k m;omega,λm=>by have:=B.head.lt;omega⟩
   have aB:Hid (∀k,(X k\/ab k)->¬F k/\¬H k/\k≠W):=bS
   have b8:Hid (∀k,(X k\/ab k)->X k\/w.heap.size<=k):=λk l=>by
    rcases l with l|l;.exact .inl l
    .rcases am.foot k l with y|y;.exact .inl (n.sX k y)
     .have h2:af.heap.size<=k:=y;have cJ:=Z.out;exact .inr (by omega)
   have bT:Hid (za (λ_=>False) w af.drew):=k0.trans (za.drew _ af) iL;clear aU bS;go_wp2_with fail;refine(kV _ bo h (by exact co.head) _).mono ?_;rintro e cd ⟨rfl,aQ⟩;rw [aQ,b5.out];clear aQ cd;have c4:ad.cell? ⟨N,0,none⟩=some (.slice I a4 J):=cR bf.out rfl;have dw:ad.cell? ⟨N,1,none⟩=some (.bool more):=cR bf.out rfl;have dx:ad.cell? ⟨cf,0,none⟩=some (.slice aD a2 aF):=cR bg.out rfl;have du:ad.cell? ⟨cf,1,none⟩=some (.bool r):=cR bg.out rfl;by_cases m:bu=0
   .obtain⟨cc,bZ,⟨a0,dv,k1,bv,b6,bP⟩,bq⟩:=b4.yes m;have bh:=ua (b5.trans m);obtain⟨bX,dq,k2,cU,bR,cA⟩:=cq.yes bh;obtain rfl:cc=aT:=bZ.unique bO (eR _);obtain⟨dh,df⟩:=dF bh;have cF:r=more:=by rw [a0,bX]
    subst cF;have c5:(cc.take d.C.toNat).length<=50:=by rw [aC];omega
    cases bv;cases cU;clear a0 bX bZ;generalize cc.take d.C.toNat=T at*;have b1:Hid (ad.ownsRow 0 94 4 (.slice I T.length J) T.length (qq T)):=av.owns b6 nF;have cM:Hid (ad.ownsRow 0 94 4 (.slice aD T.length aF) T.length (qq T)):=bR
    have aM:Hid (∀k,(Value.slice I T.length J).ownBlock=some k->w.heap.size<k/\¬ab k):=λk l=>by have y:=bP k l;have cJ:=Z.out;exact⟨by omega,bq k l⟩
    have dd:(bu !=0)=false:=by simpa using m
    clear b6 bR bP cA bq m bh;go_wp2_with fail;refine(ci ad I aD J aF T r (by omega) b1 cM).mono ?_;rintro e az ⟨rfl,aG⟩;have cN:Hid (za (λ_=>False) ad az):=aG;have ch:Hid (xq az.drew W bJ F H a b a9 bx bp vs):=(a3.kept aG nF nF (λaY=>aY)).kept (za.drew (λ_=>False) az) nF nF (λaY=>aY);have cr:Hid (az.drew.ownsRow 0 94 4 (.slice I T.length J) T.length (qq T)):=(za.drew (λ_=>False) az).owns (aG.owns b1 nF) nF;have c9:=aG.size;have dc:az.cell? ⟨N,0,none⟩=some (.slice I T.length J):=(aG.cell (a:=⟨N,0,none⟩) (show N<ad.heap.size by omega) id).trans c4;have cm:N<az.heap.size:=by omega
    have di:w.heap.size<N:=by have:=Z.out;omega
    have cW:Hid (∀k,(Value.slice I T.length J).ownBlock=some k->¬F k/\¬H k/\k≠W):=λk l=>by have y:=(aM k l).1;exact⟨λm=>by have:=B.flt k m;omega,λm=>by have:=B.hlt k m;omega,λm=>by have:=B.head.lt;omega⟩
    have cC:Hid (¬(H N\/(Value.slice I T.length J).ownBlock=some N\/N=W)):=λm=>by
     rcases m with m|m|m;.have:=B.hlt N m;omega
     .exact cg N m rfl
     .have:=B.head.lt;omega
    clear aG;go_wp2_with fail;go_region_held3 (λw'=>w'.cell? ⟨N,0,none⟩=some (.slice I T.length J)) (go_keep) ((go_at_call 110;refine(jc az.drew W bJ F H (λk=>(Value.slice I T.length J).ownBlock=some k) a b a9 bx bp vs ch (by omega) I T.length J (qq T) cr (by omega) (λk l=>l) cW).mono ?_;rintro e bM ⟨rfl,⟨c2,cK,cx,c6,bE,dl,be⟩,aE⟩;have bW:Hid (za (λk=>H k\/(Value.slice I T.length J).ownBlock=some k\/k=W) az bM):=⟨aE.os,aE.tape,aE.output,aE.size,aE.block⟩;have dz:bM.cell? ⟨N,0,none⟩=some (.slice I T.length J):=(bW.cell (a:=⟨N,0,none⟩) cm cC).trans dc;change Hid _ at bE be;clear aE));go_wp2;go_ret;have aZ:=aw.out;have a8:za (λk=>H k\/(Value.slice I T.length J).ownBlock=some k\/k=W) O bM:=((av.mono fE).trans cN fE).trans bW iL;refine⟨rfl,⟨_,c6,c2,cK,cx,jV M w af.drew O bM X bo t h bd D ao S ab bm aA V ag n bs hbs bT (lh Z) am ax bj _ a8 (λk l=>?_),bE,by omega,b8,λk l=>?_,λk l=>⟨(aB k l).1,λaY=>?_,(aB k l).2.2⟩⟩,(bK.mono (λk l=>.inl (l.elim (n.sX k) (λe=>by rw [e];exact ax.1)))).trans a8 (λk l=>?_)⟩
    .rcases l with l|l|l;.exact⟨λm=>(U k m).2.1 l,λm=>(aB k (.inr m)).2.1 l⟩
     .have y:=aM.out k l;exact⟨λm=>by have:=aZ k m;omega,y.2⟩
     .exact⟨λm=>(U k m).2.2 l,λm=>(aB k (.inr m)).2.2 l⟩
    .rcases be k l with y|y|y;.exact .inl y
     .have:=(aM k y).1;exact .inr (by omega)
     .have h2:az.heap.size<=k:=y;exact .inr (by omega)
    .rcases be k aY with y|y|y;.exact(aB k l).2.1 y
     .have h2:=aM.out k y;rcases l with l|l;.have:=aZ k l;omega
      .exact h2.2 l
     .have h2:az.heap.size<=k:=y;rcases l with l|l;.have:=aZ k l;omega
      .have:=am.disk.lt k l;omega
    .rcases l with l|l|l;.exact .inl (.inr (.inl l))
     .have:=(aM k l).1;exact .inr (by omega)
     .exact .inl (.inr (.inr l))
   .obtain⟨bv,a0⟩:=b4.no m;cases bv;subst a0;have dd:(bu !=0)=true:=by simpa using m
    clear m;go_wp2;go_ret
    exact⟨rfl,⟨_,H,b,bx,vs,jV M w af.drew O ad X bo t h bd D ao S ab bm aA V ag n bs hbs bT (lh Z) am ax bj (λ_=>False) av fE,a3,by omega,b8,λk l=>.inl l,aB⟩,
     (bK.mono (λk l=>.inl (l.elim (n.sX k) (λe=>by rw [e];exact ax.1)))).trans av fE⟩
end law
namespace law
open Go.ChangeShapes Go.WideShapes Go.ChangeAt Go.RowKit disk ref book
open keys (zh zd zx zq zp)
variable {M N:ze}
structure Ka (M:ze):Prop where
 opn:q8 M
 put:xk M
 get:gy M
 at_:cI M
 del:gA M
 era:jU M
 list:xy M
theorem Kb(b:ByteArray)(a:b.size<=maxLen)(w:World):Calls Tryz.prog 57 #[.string b] w λe w'=>e=.returned (.bool true)/\w'=w:=by
 go_enter Tryz.func57,Tryz.ntmps57
 go_wp2_with (first
  |(go_at_call 89;refine(keys.cE _ _ a).mono ?_;rintro e w' ⟨rfl,rfl⟩)
  |(go_at_call 90;refine(keys.up _ _ a).mono ?_;rintro e w' ⟨rfl,rfl⟩))
 go_ret;exact⟨by simp,rfl⟩
theorem Vw(A:Ka M)(ax:q8 N)(aA:xk N)(aw:Vh M N)(w:World)(n J t:Nat)(f:List (Nat×(Nat->Prop)))(aE:Option Addr)(aF:Nat)(F H:Nat->Prop)(a b:Option Addr)(Z Y:Nat)(U vs:List xU)(p:qt M w n J t f aE aF F H a b Z Y U vs)(ag:n<=w.heap.size)(E:t<=2199023255552)
 (c:xg) (Q:Nat->Prop) (P:c.Ok w Q) (af:∀k,Q k->k<n) (O:1<=c.kind/\c.kind<=12):
 Calls Tryz.prog 37 #[.pointer (some ⟨J,0,none⟩),.agg #[.int .i64 c.kind,.int .i64 c.A,.int .i64 c.B,.int .i64 c.C,.string c.S,.string c.P,.slice c.la c.l.length c.lc,.slice c.ka c.ks.length c.kc]] w λe w'=>e=.returned (.bool true)/\ja M w' n J (t+1)/\za (λk=>n<=k) w w':=by
 have k0:za (λ_=>False) w (w.alloc (.cells #[.int .i64 c.kind,.int .i64 c.A,.int .i64 c.B,.int .i64 c.C,.string c.S,.string c.P,.slice c.la c.l.length c.lc,.slice c.ka c.ks.length c.kc] 81)):=za.alloc _ _ _;have s:xc (w.alloc (.cells #[.int .i64 c.kind,.int .i64 c.A,.int .i64 c.B,.int .i64 c.C,.string c.S,.string c.P,.slice c.la c.l.length c.lc,.slice c.ka c.ks.length c.kc] 81)) w.heap.size c:=⟨ac w _⟩;have aI:=s.c0;have aW:=s.c1;have aQ:=s.c2;have aT:=s.c3;have aV:=s.c4;have aU:=s.c5;have aO:=s.c6;have aS:=s.c7;have C:=p.kept0 k0;have K:=P.kept k0 nF;have ad:n<=(w.alloc (.cells #[.int .i64 c.kind,.int .i64 c.A,.int .i64 c.B,.int .i64 c.C,.string c.S,.string c.P,.slice c.la c.l.length c.lc,.slice c.ka c.ks.length c.kc] 81)).heap.size:=aD ag k0.size;have aN:=C.book.head.c.1;have aK:=p.fewO;have aa:=P.A;have ar:=p.fewV;have ak:=p.fewE;have aq:=P.S;change Hid _ at C K s k0 p af ad O aa;clear P;generalize aR:w.alloc (.cells #[.int .i64 c.kind,.int .i64 c.A,.int .i64 c.B,.int .i64 c.C,.string c.S,.string c.P,.slice c.la c.l.length c.lc,.slice c.ka c.ks.length c.kc] 81)=I at*;have az:c.kind=1\/c.kind=12\/c.kind=2\/c.kind=3\/c.kind=4\/c.kind=5\/c.kind=6\/c.kind=7\/c.kind=8\/c.kind=9\/c.kind=10\/c.kind=11:=by have:=O.out;omega
 rcases az with d|d|d|d|d|d|d|d|d|d|d|d
 .have aj:(c.kind==1)=true:=by rw [d];rfl
  clear d;go_enter Tryz.func37,Tryz.ntmps37;go_wp2_with fail;refine(Xh A.opn ax aA A.list aw _ n J t f aE aF F H a b Z Y U vs C ad E c Q K af).mono ?_;rintro e w2 ⟨rfl,h2,u⟩;have X:Hid _:=h2;have ab:Hid _:=u;clear h2 u;go_wp2;go_ret;exact⟨rfl,X,(k0.mono fE).trans ab iL⟩
 .have aj:(c.kind==1)=false:=by rw [d];rfl
  have am:(c.kind==12)=true:=by rw [d];rfl
  clear d;go_enter Tryz.func37,Tryz.ntmps37;go_wp2_with fail;refine(Kb c.S aq I).mono ?_;rintro e w2 ⟨rfl,ai⟩;rw [ai];clear ai w2;go_wp2;go_ret;exact⟨rfl,p.idle k0⟩
 all_goals
  have aj:(c.kind==1)=false:=by rw [d];rfl
  have am:(c.kind==12)=false:=by rw [d];rfl
  have aM:decide (c.kind<2)=false:=by rw [d];rfl
  have aJ:decide (11<c.kind)=false:=by rw [d];rfl
  first
   |have aC:decide (8<=c.kind)=false:=by rw [d];rfl
   |have aC:decide (8<=c.kind)=true:=by rw [d];rfl
  first
   |have ao:(c.kind==2)=true:=by rw [d];rfl
   |have ao:(c.kind==2)=false:=by rw [d];rfl
  first
   |have an:(c.kind==3)=true:=by rw [d];rfl
   |have an:(c.kind==3)=false:=by rw [d];rfl
  first
   |have al:(c.kind==4)=true:=by rw [d];rfl
   |have al:(c.kind==4)=false:=by rw [d];rfl
  change Hid _ at d;by_cases aG:f.length=0
  .have ay:((f.length:Int)==0)=true:=by simp [aG]
   go_enter Tryz.func37,Tryz.ntmps37;go_wp2;go_ret;exact⟨rfl,p.idle k0⟩
  .have ay:((f.length:Int)==0)=false:=by simpa using aG
   obtain⟨g,rfl⟩:=C.rowAt (by omega);go_enter Tryz.func37,Tryz.ntmps37;go_wp2_with fail;obtain⟨i,aL,ah⟩:=Je c.A f.length aa (by omega) (by omega);have l:i<f.length:=by omega
   have aX:=C.rowCell i l;change Hid _ at ah;go_quiet ((go_at_call 58;exact Calls.quiet_of_same (ah _)));obtain⟨h,bd,D,S,ap,L,V,o,B⟩:=C.one i l;have R:=B.kept (T:=λ_=>False) (w':=I.drewN nq) kD nF;have ae:=B.head.c1;have y:Hid (yt M (I.drewN nq) f[i].2 f[i].1 t h bd D S ap L V o):=R;have m:Hid _:=C.kept0 (w':=I.drewN nq) kD;have r:Hid _:=K.kept (T:=λ_=>False) (w':=I.drewN nq) kD nF;have q:n<=(I.drewN nq).heap.size:=ad.out;have v:∀k,Q k->¬f[i].2 k/\k<(I.drewN nq).heap.size:=λk au=>⟨λaH=>by have:=af.out k au;have:=C.bX i l k aH;omega,by have:=af.out k au;omega⟩;have W:za (λk=>n<=k) w (I.drewN nq):=(k0.mono fE).trans (S':=λ_=>False) kD fE;change Hid _ at v W;clear R
   have aB:(∃bs,h.s=qz bs)\/h.s=.pointer none:=by
    cases B.st with
    |live bs x=>exact .inl ⟨bs,x⟩
    |shut bs x=>exact .inl ⟨bs,x⟩
    |gone x=>exact .inr x
   clear B;by_cases aP:8<=c.kind
   .first
     |(exfalso;have av:=d.out;omega)
     |(go_wp2_with fail
       refine(Xg A.opn ax aA A.list aw y E c Q r v (by have av:=d.out;omega)).mono ?_;rintro e w2 j;obtain⟨G,h2,u⟩:=m.stepped q i l j;subst G;have X:Hid _:=h2;have ab:Hid _:=u;clear h2 u j;go_wp2;go_ret
       exact⟨rfl,X,W.trans ab iL⟩)
   first
    |(exfalso;have av:=d.out;omega)
    |skip
   all_goals
    rcases aB with⟨bs,x⟩|x
    .have z:Hid _:=x;rw [x] at ae;unfold qz at ae;clear x;go_wp2_with fail
     first
      |(go_at_call 60;refine(UJ M A.put _ f[i].2 f[i].1 t h bd D S ap L V o y E bs z c Q r v).mono ?_;rintro e w2 j;obtain⟨G,h2,u⟩:=m.stepped q i l j)
      |(go_at_call 61;refine(Qs M A.del _ f[i].2 f[i].1 t h bd D S ap L V o y E bs z c Q r v).mono ?_;rintro e w2 j;obtain⟨G,h2,u⟩:=m.stepped q i l j)
      |(go_at_call 62;refine(Xb M A.era _ f[i].2 f[i].1 t h bd D S ap L V o y E bs z c Q r v).mono ?_;rintro e w2 j;obtain⟨G,h2,u⟩:=m.stepped q i l j)
      |(go_at_call 63;refine(J8 M A.get _ f[i].2 f[i].1 t h bd D S ap L V o y E bs z c Q r v d J _ F H a b Z Y U vs m.book ak (m.sep i l)).mono ?_;rintro e w2 j;obtain⟨G,h2,u⟩:=m.asked q i l j)
      |(go_at_call 63;refine(Vi M A.at_ _ f[i].2 f[i].1 t h bd D S ap L V o y E bs z c Q r v d J _ F H a b Z Y U vs m.book ak (m.sep i l)).mono ?_;rintro e w2 j;obtain⟨G,h2,u⟩:=m.asked q i l j)
      |(go_at_call 63;refine(Xk M A.list _ f[i].2 f[i].1 t h bd D S ap L V o y E bs z c Q r v d J _ F H a b Z Y U vs m.book ar (m.sep i l)).mono ?_;rintro e w2 j;obtain⟨G,h2,u⟩:=m.askedV q i l j)
     subst G;have X:Hid _:=h2;have ab:Hid _:=u;clear h2 u j;go_wp2;go_ret;exact⟨rfl,X,W.trans ab iL⟩
    .rw [x] at ae;clear x;go_wp2;go_ret;exact⟨rfl,p.idle (k0.trans (S':=λ_=>False) kD iL)⟩
def Gm(M:ze)(kl:List Int):Prop:=∀(w:World) (base bp t:Nat) (od:xg),ja M w base bp t->base<=w.heap.size->t<=2199023255552->od.Ok w (λk=>k<base)->od.kind∈kl->
 Calls Tryz.prog 37 #[.pointer (some ⟨bp,0,none⟩),.agg #[.int .i64 od.kind,.int .i64 od.A,.int .i64 od.B,.int .i64 od.C,.string od.S,.string od.P,.slice od.la od.l.length od.lc,.slice od.ka od.ks.length od.kc]] w λe w'=>e=.returned (.bool true)/\ja M w' base bp (t+1)/\za (λk=>base<=k) w w'
theorem cN(A:Ka M)(i:q8 N)(x:xk N)(y:Vh M N)(g:List Int)(q:∀k∈g,1<=k/\k<=12):Gm M g:=by
 intro w d o t n m c s h e;obtain⟨f,l,v,F,H,a,b,u,r,j,vs,p⟩:=m;exact Vw A i x y w d o t f l v F H a b u r j vs p c s n _ h (λk e=>e) (q _ e)
theorem QA(w:World)(a:Option Addr)(n d h o:Nat)(b:List Int)(l:uC w h b)(m:(8:Int)∈b)(r:b.length<=100):
 Calls Tryz.prog 36 #[.slice a n d,.slice (some ⟨h,0,none⟩) b.length o] w λe w'=>e=.returned (.slice a n d)/\w'=w:=by
 obtain⟨p,u,i⟩:=ed m;have f:Hid (b[p]=8):=i;change Hid _ at l;clear i;go_enter Tryz.func36,Tryz.ntmps36;go_wp2;go_loop [5] (λt=>∃j:Nat,j<=p/\t=.int .i64 j) (λt=>b.length-(intOf t).toNat)
 case atStart=>exact⟨0,aj _,rfl⟩
 case round=>
  obtain⟨j,v,rfl⟩:=hrel;have k:j<b.length:=by omega
  have q:=l.cell j k;by_cases c:b[j]=8
  .have g:(b[j]==8)=true:=by simp [c]
   clear c;go_wp2;go_ret;exact⟨rfl,rfl⟩
  .have g:(b[j]==8)=false:=by simpa using c
   have s:j≠p:=λe=>c (by subst e;exact f);clear c;go_wp2;go_round
   case rel=>exact⟨j+1,by omega,by go_num⟩
   case measure=>simp [intOf];omega
theorem dG(M:ze)(w:World)(Q:Nat->Prop)(E:∀k,Q k->k<w.heap.size)(a:Option Addr)(L:Nat)(l:List xg)(h:kC w Q a l)(aF:l.length<=1256584717449)(U ax:Nat)(m:List Int)(C:uC w U m)(ap:(8:Int)∈m)(ar:m.length<=100)(D:Gm M m):
 Calls Tryz.prog 13 #[.slice a l.length L,.slice (some ⟨U,0,none⟩) m.length ax] w λe w'=>e=.returned (.bool true)/\za (λ_=>False) w w':=by
 have al:Hid _:=h;have V:Hid _:=C;change Hid _ at ap E;clear h C;go_enter Tryz.func13,Tryz.ntmps13;go_wp2_with fail;refine(QA w a l.length L U ax m V ap ar).mono ?_;rintro e aB ⟨rfl,O⟩;rw [O];clear O aB;have N:=Xj M w;change Hid _ at N;have K:=za.alloc (λ_=>False) w (.cells #[.slice none 0 0,.slice none 0 0,.slice none 0 0] 79);change Hid _ at K;go_wp2;go_loopw [6] (λt wr=>∃k:Nat,k<=l.length/\t=.int .i64 k/\ja M wr w.heap.size w.heap.size k/\za (λk=>w.heap.size<=k) w wr) (λt _=>l.length-(intOf t).toNat)
 case atStart=>exact⟨0,aj _,rfl,N,K.mono fE⟩
 case round=>
  obtain⟨k,C,rfl,aq,c⟩:=hrel;have ac:Hid (ja M wr w.heap.size w.heap.size k):=aq;have av:=c.size;change Hid _ at c;clear aq;by_cases P:k<l.length
  .obtain⟨g,B,rfl,aO,ag,G⟩:=al.each k P
   have I:l[k].Ok wr (λk=>k<w.heap.size):=by
    have o:=(al.ok k P).kept c (λi x az=>by have:=E.out i x;omega)
    exact⟨o.kind,o.A,o.B,o.C,o.S,o.P,o.l.mono (λi x _=>E i x),o.len,o.klen,λj au=>by
     obtain⟨S,aL,aD,aM,aE,aK⟩:=o.ks j au
     exact⟨S,aL,aD,E S aM,aE,aK⟩⟩
   have d:∀j v,l[k].cells[j]? =some v->wr.cell? ⟨g,B+k*8+j,none⟩=some v:=λj v aH=>(c.cell (a:=⟨g,B+k*8+j,none⟩) ag (by show ¬w.heap.size<=g;omega)).trans (G j v aH);have T:=V.kept c (λaz=>by have:=V.lt;omega);generalize l[k]=f at*;have aS:wr.cell? ⟨g,B+k*8,none⟩=some (.int .i64 f.kind):=d 0 _ rfl;have aR:wr.cell? ⟨g,B+k*8+1,none⟩=some (.int .i64 f.A):=d 1 _ rfl;have a0:wr.cell? ⟨g,B+k*8+2,none⟩=some (.int .i64 f.B):=d 2 _ rfl;have aT:wr.cell? ⟨g,B+k*8+3,none⟩=some (.int .i64 f.C):=d 3 _ rfl;have aX:wr.cell? ⟨g,B+k*8+4,none⟩=some (.string f.S):=d 4 _ rfl;have aY:wr.cell? ⟨g,B+k*8+5,none⟩=some (.string f.P):=d 5 _ rfl;have aU:wr.cell? ⟨g,B+k*8+6,none⟩=some (.slice f.la f.l.length f.lc):=d 6 _ rfl;have aZ:wr.cell? ⟨g,B+k*8+7,none⟩=some (.slice f.ka f.ks.length f.kc):=d 7 _ rfl;change Hid _ at I T;clear d G;go_wp2;go_loopw [7,8] (λb t aC=>∃j:Nat,j<=m.length/\t=.int .i64 j/\b=.bool (Gl m j f.kind)/\∃n,aC=wr.drewN n) (λ_ t _=>m.length-(intOf t).toNat)
   case atStart=>exact⟨0,aj _,rfl,rfl,0,rfl⟩
   case round=>
    obtain⟨j,au,rfl,rfl,n,rfl⟩:=hrel;by_cases A:j<m.length
    .have aP:=T.cell j A;have ao:Hid _:=Vl m j A f.kind;cases q:Gl m j f.kind
     .have W:Hid _:=q;clear q;go_wp2;go_quiet (fail);go_wp2;go_roundw
      case rel=>exact⟨j+1,by omega,by go_num,by rw [ao.out,W.out,Bool.false_or],_,rfl⟩
      case measure=>simp [intOf];omega
     .have W:Hid _:=q;clear q;go_wp2;go_quiet (fail);go_wp2;go_roundw
      case rel=>exact⟨j+1,by omega,by go_num,by rw [ao.out,W.out,Bool.true_or],_,rfl⟩
      case measure=>simp [intOf];omega
    .have aw:j=m.length:=by omega
     have p:za (λ_=>False) wr (wr.drewN n):=kD;change Hid _ at p;cases q:Gl m j f.kind
     .clear q;go_wp2;obtain⟨u,ah,an,F,H,am,X,ae,ad,Y,vs,s⟩:=ac.out;have GR:=s.idle p.out;go_roundw
      case rel=>exact⟨k+1,by omega,by go_num,GR.1,c.trans GR.2 iL⟩
      case measure=>simp [intOf];omega
     .have y:f.kind∈m:=UN (by rw [<-aw];exact q);change Hid _ at y;clear q aw;obtain⟨u,ah,an,F,H,am,X,ae,ad,Y,vs,s⟩:=ac.out;have ai:Hid (ja M (wr.drewN n) w.heap.size w.heap.size k):=⟨u,ah,an,F,H,am,X,ae,ad,Y,vs,s.kept0 p⟩;clear s;go_wp2_with fail;refine(D _ _ _ _ f ai (by exact av) (by omega) (by exact I.kept p nF) y).mono ?_;rintro e aV ⟨rfl,aJ,R⟩;obtain⟨ay,aQ,aN,F',aI,aG,aA,af,aa,ab,ak,r⟩:=aJ;change Hid _ at r R;go_wp2_with fail;refine(JY _ _ _ F' aI aG aA af aa ab ak r.book).mono ?_;rintro e aW ⟨rfl,J,z⟩;have Z:Hid _:=r.whole J z;change Hid _ at z;clear J;go_wp2;go_roundw
      case rel=>exact⟨k+1,by omega,by go_num,⟨_,_,_,_,_,_,_,_,_,_,_,Z⟩,((c.trans p fE).trans R iL).trans z (λi x=>.inl (r.bF i x))⟩
      case measure=>simp [intOf];omega
  .go_wp2;go_ret;exact⟨rfl,(za.refl (λ_=>False) w).trans c (λk C=>.inr (by omega))⟩
theorem Kc(A:Ka M)(i:q8 N)(l:xk N)(m:Vh M N)(w:World)(Q:Nat->Prop)(g:∀k,Q k->k<w.heap.size)(a:Option Addr)(d:Nat)(b:List xg)(h:kC w Q a b)(f:b.length<=1256584717449):
 Calls Tryz.prog 6 #[.slice a b.length d] w λe w'=>e=.returned (.bool true)/\za (λ_=>False) w w':=by
 have j:Hid _:=h;have n:Hid _:=cN A i l m [1,2,3,4,5,6,7,8,9,10,11] (by decide);change Hid _ at g;clear h;go_enter Tryz.func6,Tryz.ntmps6;go_wp2_with fail;refine(dG M _ Q (λk c=>by have:=g.out k c;simp;omega) a d b (j.kept (za.alloc (λ_=>False) w _) nF) f w.heap.size 11 [1,2,3,4,5,6,7,8,9,10,11] ⟨ac w _⟩ (by decide) (by decide) n).mono ?_;rintro e w2 ⟨rfl,c⟩;change Hid _ at c;go_wp2;go_ret;exact⟨rfl,(za.alloc _ w _).trans c iL⟩
theorem Kd(A:Ka M)(i:q8 N)(l:xk N)(m:Vh M N)(w:World)(Q:Nat->Prop)(g:∀k,Q k->k<w.heap.size)(a:Option Addr)(d:Nat)(b:List xg)(h:kC w Q a b)(f:b.length<=1256584717449):
 Calls Tryz.prog 7 #[.slice a b.length d] w λe w'=>e=.returned (.bool true)/\za (λ_=>False) w w':=by
 have j:Hid _:=h;have n:Hid _:=cN A i l m [1,2,3,4,5,6,7,8,9,10,11,12] (by decide);change Hid _ at g;clear h;go_enter Tryz.func7,Tryz.ntmps7;go_wp2_with fail;refine(dG M _ Q (λk c=>by have:=g.out k c;simp;omega) a d b (j.kept (za.alloc (λ_=>False) w _) nF) f w.heap.size 12 [1,2,3,4,5,6,7,8,9,10,11,12] ⟨ac w _⟩ (by decide) (by decide) n).mono ?_;rintro e w2 ⟨rfl,c⟩;change Hid _ at c;go_wp2;go_ret;exact⟨rfl,(za.alloc _ w _).trans c iL⟩
end law
namespace law
open Go.RowKit disk ref book Go.Deep
theorem UQ:Tryz.prog.cellsOf 5=1:=by kernel_rfl
theorem Ke:Tryz.prog.cellsOf 4=1:=by kernel_rfl
theorem uE:Tryz.prog.cellsOf 3=1:=by kernel_rfl
theorem QB:Tryz.prog.cellsOf 9=1:=by kernel_rfl
theorem Vx:Tryz.prog.cellsOf 35=1:=by kernel_rfl
theorem Xl:Tryz.prog.cellsOf 39=1:=by kernel_rfl
theorem Jg:Tryz.prog.cellsOf 81=8:=by kernel_rfl
theorem UR:Tryz.prog.bytesOf 5=1:=by kernel_rfl
theorem Kf:Tryz.prog.bytesOf 4=1:=by kernel_rfl
theorem US:Tryz.prog.bytesOf 81=112:=by kernel_rfl
theorem QC{w:World}{a:Addr}{v:Value}(h:w.cell? a=some v):a.block<w.heap.size:=by
 unfold World.cell? at h
 cases b:w.heap[a.block]? with
 |none=>rw [b] at h;simp at h
 |some c=>exact(lT b)
section
variable {H:Type} {enc:TypeId×Value->H} {W:World} {fuel:Nat} {cs:List Value} {x:DataW H×List MemPlace}
theorem QD{a:Addr}{m:Nat}{V:Nat->Value}(h:∀i,i<m->W.cell? (a.add i)=some (V i))(j:0<m):∃b d,a=⟨b,d,none⟩/\b<W.heap.size/\∀i,i<m->W.cell? ⟨b,d+i,none⟩=some (V i):=by
 obtain⟨b,d,g⟩:=a;have c:=h 0 j;have e:g=none:=by simpa [Addr.add] using World.cell?_spot c
 subst e;refine⟨b,d,rfl,?_,λi f=>?_⟩;.have:=QC c;simpa [Addr.add] using this
 .have:=h i f;rw [eO] at this;exact this
theorem Vy(h:DataW.trod enc Tryz.prog W 0 (λ_=>true) true fuel 35 cs=some x):∃a l c,cs=[.slice a l.length c]/\zO W (λk=>k<W.heap.size) a l/\(l.length=0\/∃s y,x.1=.slice s y/\s.length=l.length)/\l.length<=c:=by
 rcases open_slice1 Tryz.underlying35 UQ h with⟨rfl,rfl⟩|⟨a,d,c,m,n,V,D,Pl,rfl,_,r,G,o,rfl,f⟩;.exact⟨none,[],0,rfl,.inl rfl,.inl rfl,aF _⟩
 .have B:d<=m:=by rw [o];simpa using r
  obtain⟨z,t⟩:=choose_lt (α:=Nat) (n:=m) (p:=λi k=>V i=.int .u8 (k:Int)/\k<256) (λi e=>by
   obtain⟨k,g,_,w⟩:=DataW.trod_int Tryz.underlying5 (f i e).2;simp only [eH,and_true] at g
   have J:0<=k/\k<256:=by
    have E:IntKind.u8.min<=k/\k<=IntKind.u8.max:=by simpa only [Lit.wf,aW,aR] using w
    have F:IntKind.u8.min=0:=by decide
    have I:IntKind.u8.max=255:=by decide
    omega
   exact⟨k.toNat,by rw [g];congr 1;omega,by omega⟩)
  refine⟨some a,(List.range d).map λi=>UInt8.ofNat (z i),c,by simp,?_,.inr ⟨_,_,rfl,by simp⟩,by simpa using r⟩;by_cases v:d=0;.subst v;exact .inl rfl
  .obtain⟨b,H,rfl,q,u⟩:=QD (λi e=>(f i e).1) (by omega:0<m);refine .inr ⟨b,H,rfl,q,q,λj A=>?_⟩;have C:j<d:=by simpa using A
   rw [u j (by omega),(t j (by omega)).1];have:=(t j (by omega)).2;simp;omega
theorem Xm(h:DataW.trod enc Tryz.prog W 0 (λ_=>true) true fuel 39 cs=some x):∃a ks c,cs=[.slice a (ks:List Bool).length c]/\(∀j,j<ks.length->∃e s,a=some ⟨e,s,none⟩/\e<W.heap.size/\e<W.heap.size/\W.cell? ⟨e,s+j,none⟩=some (.bool (ks.getD j false)))/\(ks.length=0\/∃t A,x.1=.slice t A/\t.length=ks.length):=by
 rcases open_slice1 Tryz.underlying39 Ke h with⟨rfl,rfl⟩|⟨a,d,c,m,n,V,D,Pl,rfl,_,v,E,r,rfl,o⟩;.exact⟨none,[],0,rfl,λj f=>by simp at f,.inl rfl⟩
 .have B:d<=m:=by rw [r];simpa using v
  obtain⟨z,y⟩:=choose_lt (α:=Bool) (n:=m) (p:=λi k=>V i=.bool k) (λi g=>by
   obtain⟨k,q,_⟩:=DataW.trod_bool Tryz.underlying4 (o i g).2;simp only [eH,and_true] at q
   exact⟨k,q⟩)
  refine⟨some a,(List.range d).map z,c,by simp,λj f=>?_,.inr ⟨_,_,rfl,by simp⟩⟩;have u:j<d:=by simpa using f
  obtain⟨b,C,rfl,l,w⟩:=QD (λi g=>(o i g).1) (by omega:0<m);refine⟨b,C,rfl,l,l,?_⟩;rw [w j (by omega),y j (by omega)];simp [u]
theorem uF{t:TypeId}(c:Tryz.prog.underlying t=some (.int .i64))(h:DataW.trod enc Tryz.prog W 0 (λ_=>true) true fuel t cs=some x):∃k,cs=[.int .i64 k]/\zD k:=by
 obtain⟨k,b,_,a⟩:=DataW.trod_int c h;refine⟨k,b,?_⟩;have f:IntKind.i64.min<=k/\k<=IntKind.i64.max:=by simpa only [Lit.wf,aW,aR] using a
 have e:IntKind.i64.min= -9223372036854775808:=by decide
 have d:IntKind.i64.max=9223372036854775807:=by decide
 unfold zD;omega
theorem UT(h:DataW.trod enc Tryz.prog W 0 (λ_=>true) true fuel 81 cs=some x)(y:(x.1.weights Tryz.prog 81).all (· <=reachBytes)=true):∃ae:xg,cs=ae.cells/\ae.Ok W (λk=>k<W.heap.size):=by
 obtain⟨I,n,rfl,u,c,v,b⟩:=DataW.trod_struct Tryz.underlying81 h;rw [Jg] at c
 match cs,c with
 |[c0,c1,c2,c3,c4,c5,c6,c7],_=>
  match I,v with
  |[x0,x1,x2,x3,x4,x5,x6,x7],_=>
   have N:DataW.trod enc Tryz.prog W 0 (λ_=>true) true n 3 [c0]=some x0:=by have a:DataW.trod enc Tryz.prog W 0 (λ_=>true) true n 3 (List.take (Tryz.prog.cellsOf 3) (List.drop 0 [c0,c1,c2,c3,c4,c5,c6,c7]))=some x0:=b 0 _ rfl;rw [uE] at a;exact a
   have C:DataW.trod enc Tryz.prog W 0 (λ_=>true) true n 3 [c1]=some x1:=by have a:DataW.trod enc Tryz.prog W 0 (λ_=>true) true n 3 (List.take (Tryz.prog.cellsOf 3) (List.drop 1 [c0,c1,c2,c3,c4,c5,c6,c7]))=some x1:=b 1 _ rfl;rw [uE] at a;exact a
   have Q:DataW.trod enc Tryz.prog W 0 (λ_=>true) true n 3 [c2]=some x2:=by have a:DataW.trod enc Tryz.prog W 0 (λ_=>true) true n 3 (List.take (Tryz.prog.cellsOf 3) (List.drop 2 [c0,c1,c2,c3,c4,c5,c6,c7]))=some x2:=b 2 _ rfl;rw [uE] at a;exact a
   have P:DataW.trod enc Tryz.prog W 0 (λ_=>true) true n 3 [c3]=some x3:=by have a:DataW.trod enc Tryz.prog W 0 (λ_=>true) true n 3 (List.take (Tryz.prog.cellsOf 3) (List.drop 3 [c0,c1,c2,c3,c4,c5,c6,c7]))=some x3:=b 3 _ rfl;rw [uE] at a;exact a
   have D:DataW.trod enc Tryz.prog W 0 (λ_=>true) true n 9 [c4]=some x4:=by have a:DataW.trod enc Tryz.prog W 0 (λ_=>true) true n 9 (List.take (Tryz.prog.cellsOf 9) (List.drop 4 [c0,c1,c2,c3,c4,c5,c6,c7]))=some x4:=b 4 _ rfl;rw [QB] at a;exact a
   have X:DataW.trod enc Tryz.prog W 0 (λ_=>true) true n 9 [c5]=some x5:=by have a:DataW.trod enc Tryz.prog W 0 (λ_=>true) true n 9 (List.take (Tryz.prog.cellsOf 9) (List.drop 5 [c0,c1,c2,c3,c4,c5,c6,c7]))=some x5:=b 5 _ rfl;rw [QB] at a;exact a
   have Z:DataW.trod enc Tryz.prog W 0 (λ_=>true) true n 35 [c6]=some x6:=by have a:DataW.trod enc Tryz.prog W 0 (λ_=>true) true n 35 (List.take (Tryz.prog.cellsOf 35) (List.drop 6 [c0,c1,c2,c3,c4,c5,c6,c7]))=some x6:=b 6 _ rfl;rw [Vx] at a;exact a
   have T:DataW.trod enc Tryz.prog W 0 (λ_=>true) true n 39 [c7]=some x7:=by have a:DataW.trod enc Tryz.prog W 0 (λ_=>true) true n 39 (List.take (Tryz.prog.cellsOf 39) (List.drop 7 [c0,c1,c2,c3,c4,c5,c6,c7]))=some x7:=b 7 _ rfl;rw [Xl] at a;exact a
   clear b h;obtain⟨k0,q,aa⟩:=uF Tryz.underlying3 N;obtain⟨k1,l,Y⟩:=uF Tryz.underlying3 C;obtain⟨k2,f,ab⟩:=uF Tryz.underlying3 Q;obtain⟨k3,A,ad⟩:=uF Tryz.underlying3 P;obtain⟨S,z, -, H⟩:=DataW.trod_string Tryz.underlying9 D;obtain⟨B,g, -, J⟩:=DataW.trod_string Tryz.underlying9 X;obtain⟨L,p,V,r,E,O,_⟩:=Vy Z;obtain⟨F,m,K,o,ac,G⟩:=Xm T;simp only [eH,and_true] at q l f A z g r o;subst q l f A z g r o;rw [u] at y
   have d:(DataW.weightsEach Tryz.prog [3, 3, 3, 3, 9, 9, 35, 39] [x0.1,x1.1,x2.1,x3.1,x4.1,x5.1,x6.1,x7.1]).all (· <=reachBytes)=true:=by
    have e:DataW.weights Tryz.prog 81 (.agg [x0.1,x1.1,x2.1,x3.1,x4.1,x5.1,x6.1,x7.1])=DataW.weightsEach Tryz.prog [3, 3, 3, 3, 9, 9, 35, 39] [x0.1,x1.1,x2.1,x3.1,x4.1,x5.1,x6.1,x7.1]:=by unfold DataW.weights;rw [Tryz.underlying81];rfl
    rw [<-e];exact y
   have i:p.length<=140737488355326:=by
    rcases O with h|⟨U,M,h,R⟩;.omega
    .have:=sized_slice d (j:=6) (t:= 35) rfl (by rw [<-h];rfl) Tryz.underlying35;rw [UR] at this;have w:reachBytes=140737488351232:=by decide
     omega
   have s:m.length<=140737488355326:=by
    rcases G with h|⟨U,M,h,R⟩;.omega
    .have:=sized_slice d (j:=7) (t:= 39) rfl (by rw [<-h];rfl) Tryz.underlying39;rw [Kf] at this;have w:reachBytes=140737488351232:=by decide
     omega
   exact⟨⟨k0,k1,k2,k3,S,B,L,p,V,F,m,K⟩,rfl,aa,Y,ab,ad,H,J,E,i,s,ac⟩
theorem fG{H:Type}{P:Program}{e:TypeId}{n:Nat}:∀(l:List (DataW H)),∀d∈l,n∈d.weights P e->n∈DataW.weightsAll P e l
 |d0::l,d,a,hn=>by
  unfold DataW.weightsAll;rcases ar.1 a with rfl|a;.exact af _ hn
  .exact av _ (fG l d a hn)
theorem fH{K:Option Addr}{c A:Nat}(h:DataW.trod enc Tryz.prog W 0 (λ_=>true) true fuel 22 [.slice K c A]=some x)(s:(x.1.weights Tryz.prog 22).all (· <=reachBytes)=true):∃r:List xg,r.length=c/\kC W (λk=>k<W.heap.size) K r/\r.length<=1256584717449:=by
 rcases open_slice Tryz.underlying22 h with⟨q,rfl⟩|⟨a,O,X,m,n,D,Pl,q,_,V,ac,E,rfl,N⟩
 .simp only [eH,Value.slice.injEq,and_true] at q;obtain⟨rfl,rfl,rfl⟩:=q;exact⟨[],rfl,⟨λi l=>by simp at l,λi l=>by simp at l⟩,by simp⟩
 .simp only [eH,Value.slice.injEq,and_true] at q;obtain⟨rfl,rfl,rfl⟩:=q;have Y:c<=m:=by rw [E];simpa using V
  have F:(((List.range c).map D).length+((List.range (m-c)).map λj=>D (c+j)).length)*Tryz.prog.bytesOf 81<=reachBytes/\∀d∈(List.range c).map D,(d.weights Tryz.prog 81).all (· <=reachBytes)=true:=by unfold DataW.weights at s;rw [Tryz.underlying22] at s;simp only [List.all_cons,List.all_append,aW,aR] at s;refine⟨s.1,λd P=>iD.2 (λk Q=>?_)⟩;exact iD.1 s.2.1 k (fG _ d P Q)
  obtain⟨S,J⟩:=F;rw [US,ez,ez,mw,mw] at S;have aa:reachBytes=140737488351232:=by decide
  obtain⟨g,z⟩:=choose_lt (α:=Option xg) (n:=c) (p:=λi T=>∃f:xg,T=some f/\W.cells? 0 (a.add (i*8)) 8=some f.cells/\f.Ok W (λk=>k<W.heap.size)) (λi l=>by
   obtain⟨ab,e,h2⟩:=N i (by omega);rw [Jg] at e;obtain⟨f,rfl,H⟩:=UT h2 (J _ (au.2 ⟨i,List.mem_range.2 l,rfl⟩))
   exact⟨some f,f,rfl,e,H⟩)
  let dflt:xg:=⟨0,0,0,0,ByteArray.empty,ByteArray.empty,none,[],0,none,[],0⟩;refine⟨(List.range c).map λi=>(g i).getD dflt,by simp,⟨λi l=>?_,λi l=>?_⟩,by simp;omega⟩
  .have o:i<c:=by simpa using l
   obtain⟨f,y,B,M⟩:=z i o;have w:=(World.cells?_some B).2.2;obtain⟨b,T,R⟩:=a;have I:=w 0 (by omega)
   have G:R=none:=by obtain⟨Z,_,L,_⟩:=z 0 (by omega);have e:=(World.cells?_some L).2.2 0 (by omega);have h2:=World.cell?_spot e;simpa [Addr.add] using h2
   subst G
   have u:b<W.heap.size:=by have e:=I;rw [add_add,eO] at e;exact QC e
   refine⟨b,T,rfl,u,u,λj v C=>?_⟩
   have t:f.cells[j]? =some v:=by rw [ia,List.getElem_range,y] at C;exact C
   have U:j<8:=by have:=(et.1 t).1;simpa [xg.cells] using this
   have e:=w j U;rw [add_add,eO,t] at e;rw [lH];exact e
  .have o:i<c:=by simpa using l
   obtain⟨f,y,B,M⟩:=z i o;rw [ia,List.getElem_range,y];exact M
end
end law
end Go.Proofs.YtcoengihaobddaaGreatDoor
