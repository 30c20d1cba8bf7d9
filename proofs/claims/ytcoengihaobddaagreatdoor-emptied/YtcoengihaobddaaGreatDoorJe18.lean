/- Part 18 of 50 of a proof: Law5, Law6, Law8, Play, Law9 -/
import Derived.Test.YtcoengihaobddaaGreatDoorJe17
set_option maxHeartbeats 8000000
set_option linter.unusedVariables false
set_option linter.unusedSimpArgs false
set_option maxRecDepth 8000
namespace Go.Proofs.YtcoengihaobddaaGreatDoor
namespace law
open Go.ChangeShapes Go.WideShapes Go.ChangeAt Go.RowKit disk ref book
open keys (zg zd zq zl zh)
variable {w:World}{b:Nat}{o:yC}
structure xj (w:World) (b:Nat) (o:yC):Prop where
 at_:w.heap[b]? =some (.cells #[.int .i64 o.kind,.int .i64 o.A,.int .i64 o.B,.int .i64 o.C,.string o.S,.string o.P,.slice o.la o.l.length o.lc,.slice o.ka o.ks.length o.kc] 81 (0,0))
theorem xj.lt(h:xj w b o):b<w.heap.size:=(lT h.at_)
theorem xj.kept{w':World}{T:Nat->Prop}(h:xj w b o)(k:Kept T w w')(a:¬T b):xj w' b o:=⟨(k.block b h.lt a).trans h.at_⟩
theorem xj.c0(h:xj w b o):w.cell? ⟨b,0,none⟩=some (.int .i64 o.kind):=cR h.at_ rfl
theorem xj.c1(h:xj w b o):w.cell? ⟨b,1,none⟩=some (.int .i64 o.A):=cR h.at_ rfl
theorem xj.c2(h:xj w b o):w.cell? ⟨b,2,none⟩=some (.int .i64 o.B):=cR h.at_ rfl
theorem xj.c3(h:xj w b o):w.cell? ⟨b,3,none⟩=some (.int .i64 o.C):=cR h.at_ rfl
theorem xj.c4(h:xj w b o):w.cell? ⟨b,4,none⟩=some (.string o.S):=cR h.at_ rfl
theorem xj.c5(h:xj w b o):w.cell? ⟨b,5,none⟩=some (.string o.P):=cR h.at_ rfl
theorem xj.c6(h:xj w b o):w.cell? ⟨b,6,none⟩=some (.slice o.la o.l.length o.lc):=cR h.at_ rfl
theorem xj.c7(h:xj w b o):w.cell? ⟨b,7,none⟩=some (.slice o.ka o.ks.length o.kc):=cR h.at_ rfl
structure UT (B:Nat) (wx:World) (bo:Nat) (h:qm) (bd:Nat) (D2:Dk) (S2 R:Nat->Prop) (ib:Nat) (V:zP) (last:Int) (od:yC) (Q:Nat->Prop):Prop where
 head:zE wx bo h
 disk:ze wx bd S2 D2
 ref:qo wx R R ib V.vs last
 box:xj wx B od
 op:od.Ok wx Q
 lt:B<wx.heap.size
 hbo:bo<B
 hR:∀k,R k->k<B
 hQ:∀k,Q k->k<B
 hSb:¬S2 bo
theorem UT.kept{B:Nat}{j wy:World}{bo:Nat}{h:qm}{bd:Nat}{l:Dk}{e n:Nat->Prop}{f:Nat}{V:zP}{d:Int}{g:yC}{Q T:Nat->Prop}(m:UT B j bo h bd l e n f V d g Q)(k:Kept T j wy)(c:∀k,T k->B<k/\¬e k):UT B wy bo h bd l e n f V d g Q:=
 ⟨m.head.kept k (λa=>by have:=(c _ a).1;have:=m.hbo;omega),m.disk.kept k (λi b a=>(c i a).2 b),m.ref.kept k (λi b a=>by have:=(c i a).1;have:=m.hR i b;omega) (λi b a=>by have:=(c i a).1;have:=m.hR i b;omega),
  m.box.kept k (λa=>by have:=(c _ a).1;omega),m.op.kept k (λi b a=>by have:=(c i a).1;have:=m.hQ i b;omega),au m.lt k.size,m.hbo,m.hR,m.hQ,m.hSb⟩
theorem dC{M:za}{b r:World}{X:Nat->Prop}{bo t:Nat}{h:qm}{bd:Nat}{D x:Dk}{S y B:Nat->Prop}{z:Nat}{V:zP}{g:Int}{q:yC}{Q:Nat->Prop}{bs:Nat}{p:Int}(o:yY M b X bo t h bd D S B z V g)(l:∀k,X k->k<w.heap.size)(A:xj b w.heap.size q)(u:q.Ok b Q)(m:∀k,Q k->¬X k/\k<w.heap.size)(C:w.heap.size<b.heap.size)
 (f:xx M b.drew r bd bs S y D x p) (c:X bs/\¬S bs/\¬B bs/\bs≠bo):UT w.heap.size r bo h bd x y B z V g q Q:=by
 have j:Kept (λk=>S k\/k=bs) b r:=(Kept.drew _ b).trans f.kept iL;have s:=l bo o.bX;refine⟨o.head.kept j (λa=>a.elim o.bS (λe=>c.2.2.2 e.symm)),f.disk,o.ref.kept j (λi d a=>?_) (λi d a=>?_),A.kept j (λa=>?_),u.kept j (λi d a=>?_),au C j.size,s,λk n=>l k (o.rX k n).1,λk n=>(m k n).2,λa=>?_⟩
 .rcases a with a|a;.exact(o.rX i d).2.1 a
  .exact c.2.2.1 (by rw [<-a];exact d)
 .rcases a with a|a;.exact(o.rX i d).2.1 a
  .exact c.2.2.1 (by rw [<-a];exact d)
 .rcases a with a|a;.have:=l _ (o.sX _ a);omega
  .have:=l _ c.1;omega
 .rcases a with a|a;.exact(m i d).1 (o.sX i a)
  .exact(m i d).1 (by rw [a];exact c.1)
 .rcases f.foot bo a with v|v;.exact o.bS v
  .have E:b.drew.heap.size=b.heap.size:=rfl;omega
theorem uU(M:za)(A:qx M)(w:World)(X:Nat->Prop)(bo t:Nat)(h:qm)(bd:Nat)(D:Dk)(S aw:Nat->Prop)(ai:Nat)(V:zP)(j:Int)(f:yY M w X bo t h bd D S aw ai V j)(bT:t<=2199023255552)(bs:Nat)(hbs:h.s=yp bs)
 (a:yC) (Q:Nat->Prop) (an:a.Ok w Q) (bk:∀k,Q k->¬X k/\k<w.heap.size):
 Calls Tryz.prog 60 #[.pointer (some ⟨bo,0,none⟩),.agg #[.int .i64 a.kind,.int .i64 a.A,.int .i64 a.B,.int .i64 a.C,.string a.S,.string a.P,.slice a.la a.l.length a.lc,.slice a.ka a.ks.length a.kc]] w λe w'=>Stepped M w w' X bo t e:=by
 have s:=f.xlt;have k0:Kept (λ_=>False) w (w.alloc (.cells #[.int .i64 a.kind,.int .i64 a.A,.int .i64 a.B,.int .i64 a.C,.string a.S,.string a.P,.slice a.la a.l.length a.lc,.slice a.ka a.ks.length a.kc] 81)):=Kept.alloc _ _ _;have a4:xj (w.alloc (.cells #[.int .i64 a.kind,.int .i64 a.A,.int .i64 a.B,.int .i64 a.C,.string a.S,.string a.P,.slice a.la a.l.length a.lc,.slice a.ka a.ks.length a.kc] 81)) w.heap.size a:=⟨heap_alloc_new w _⟩;have av:=an.kept k0 nF;have aA:=f.kept k0 nF;have R:=an.len;have bD:=s bo f.bX;change Hid _ at a4 av aA f an bk hbs s k0;go_enter Tryz.func60,Tryz.ntmps60;go_wp2_with fail;refine(G5 _ Q a.la a.lc a.l av.l R).mono ?_;rintro e F ⟨ap,af,rfl,ba,L⟩;have i:=aA.kept L nF;have aC:=a4.kept L (λbC=>bC);have ak:=i.head.c0;rw [i.hd] at ak;unfold yp at ak;have bb:=i.head.c1;rw [hbs.out] at bb;unfold yp at bb;have aH:=aC.c4;have x:jS F (w.heap.size+1) a.la a.l ap af:=by simpa using ba
 change Hid _ at x;change Hid _ at i aC L;clear ba;go_wp2_with fail;obtain⟨bJ,bE,bt,bq,a2⟩:=i.disk;refine(ya _ bd S D bJ bE bt bq a2).mono ?_;rintro e ab ⟨rfl,q⟩;rw [q];clear q ab a2;go_wp2_with fail;have aQ:=aC.lt;have bm:Hid _:=av.kept L nF;go_region_held3 (λw'=>w'.cell? ⟨bo,1,none⟩=some (.pointer (some ⟨bs,0,none⟩))/\w'.cell? ⟨w.heap.size,4,none⟩=some (.string a.S)) (go_keep) ((go_at_call 27;refine(Bi M A _ X bo t h bd D S aw ai V j (by exact i.kept (Kept.drew (λ_=>False) F) nF) (by omega) bs hbs a.S an.out.S ap af a.l (λk=>w.heap.size+1<=k) (by exact(jS.bytes x).kept (Kept.drew (λ_=>False) F) nF) (λk d b=>by have:=s.out k b;omega) (by omega) (jS.cap x).1 (jS.cap x).2).mono ?_;rintro e au ⟨aO,aa,c,n,rfl,l,W,aX,a9,a3,a8,aU⟩;have ay:Hid _:=(⟨a9,a3,a8,aU⟩:X bs/\¬S bs/\¬aw bs/\bs≠bo);change Hid _ at l W aX;clear a9 a3 a8 aU;have N:Hid _:=dC i s aC bm bk aQ l ay.out;have aW:=N.head.c1;rw [hbs.out] at aW;unfold yp at aW;have bG:=N.box.c4))
 all_goals
  have aI:=N.out;have y:∀k,aa k->k<w.heap.size\/F.heap.size<=k:=λk d=>(l.foot k d).imp (λh=>s k (i.sX k h)) (λh=>h);have U:∀k,aa k->k<au.heap.size:=λk d=>l.disk.lt k d
  have ag:∀g,(Value.slice ap a.l.length af).ownBlock=some g->w.heap.size<g/\g<F.heap.size:=λg aD=>by
   rcases x.out with⟨_,_,J,_⟩|⟨bW,bU,_,J,bV,bw⟩;.rw [J] at aD;cases aD
   .rw [J] at aD;simp [Value.ownBlock] at aD;obtain⟨_,bO,bI,_⟩:=bw;have:=(lT bI);omega
  have aS:jS au (w.heap.size+1) a.la a.l ap af:=jS.kept x ((Kept.drew _ F).trans l.kept iL) (λg aD b=>by
   have J:=ag g aD;rcases b with b|b;.have:=s.out g (i.sX g b);omega
   .have:=s.out _ ay.1;omega)
  have bF:F.heap.size<=au.heap.size:=l.kept.size;have ak:=aI.head.c0;rw [i.hd] at ak;unfold yp at ak;have aZ:=aI.box.c6;have bf:Hid (jS au (w.heap.size+1) a.la a.l ap af):=aS;change Hid _ at y U ag;clear aI aS;go_wp2_with fail;obtain⟨br,bu,bi,bg,aE⟩:=N.disk;refine(ya _ bd aa aO br bu bi bg aE).mono ?_;rintro e ab ⟨rfl,q⟩;rw [q];clear q ab aE;go_wp2_with fail;refine(Yo _ Q (w.heap.size+1) a.la a.lc a.l N.op.l R ap af bf (λk d=>by have:=(bk k d).2;omega)).mono ?_;rintro e B ⟨rfl,am⟩
  have O:=N.kept am (λk d=>by
   have J:=ag.out k d
   exact⟨J.1,λb=>by have:=y.out k b;omega⟩)
  have bM:=am.size;have aZ:=O.box.c6;have aH:=O.box.c4;have a5:=O.head.c2;rw [i.his] at a5;unfold yp at a5;change Hid _ at O am;go_wp2_with fail;refine(QW _ a.S an.out.S a.la a.l.length a.lc).mono ?_;rintro e ab ⟨rfl,q⟩;rw [q];clear q ab;generalize ad:ue (zh a.S.data.toList) a.l.length=Z at*;change Hid _ at ad;have aY:=f.good.few;go_wp2_with fail;refine(cT _ aw aw ai V.vs j O.ref (by omega)).mono ?_;rintro e bH ⟨rfl,a6,aq⟩;have K:=O.kept aq fE;have bS:=aq.size;have aZ:=K.box.c6;have aH:=K.box.c4;have bp:Hid (qo bH (λk=>B.heap.size<=k) aw B.heap.size V.vs j):=a6;change Hid _ at K aq;clear a6;go_wp2_with fail;refine(QZ _ (λk=>B.heap.size<=k) aw Q B.heap.size V.vs j bp (λk d b=>by have:=K.hR k b;omega) (by omega) a.S n false a.la a.lc a.l K.op.l (by omega)).mono ?_;rintro e a1 ⟨rfl,aL,al⟩;have r:=K.kept al (λk d=>⟨by have bn:=d;omega,λb=>by have:=U.out k b;have bn:=d;omega⟩);have bQ:=al.size;have aZ:=r.box.c6;have aH:=r.box.c4;change Hid _ at r aL al;have aV:=f.told0;have E:=f.died0;have bP:=f.tt;go_wp2_with fail;refine(fx _ bo h r.head ai f.his aw aw V.vs j r.ref n aV (by omega) E (by omega)).mono ?_;rintro e ab ⟨rfl,bX,q⟩;rw [q];clear q ab;have bN:=f.last0;have bB:=f.n0t;have bK:=l.reads0;have bx:=l.reads1
  have ax:c=0->Q8 n j h.told h.died=true:=λb=>by have:=aX.out;rw [aB b] at this;unfold Q8;exact aG (by omega)
  have Y:c≠0->n=0:=λb=>by have:=aX.out;rw [az b] at this;exact this
  generalize Q8 n j h.told h.died=bR at*;have ac:=λbv bA bL=>W.case l.size (.pointer (some ⟨B.heap.size,0,none⟩)) (max j n) a.S 0 false bv bA bL;change Hid _ at ac;have a7:(qd a.l.length:Int)<=1125899906842624:=by unfold qd;omega
  by_cases b:c=0
  .have bz:(c !=0)=false:=by simpa using b
   have a0:=ax b;subst a0;clear b ax Y;go_wp2_with fail
   go_region_held3 (λw'=>w'.cell? ⟨w.heap.size,4,none⟩=some (.string a.S)/\w'.cell? ⟨w.heap.size,6,none⟩=some (.slice a.la a.l.length a.lc)) (go_keep) ((first
    |(go_at_call 98;refine(yL _ _ (by omega) (by omega)).mono ?_;rintro e ab ⟨rfl,rfl⟩)
    |(go_at_call 99;refine(Q5 _ Q a.la a.lc a.l (by exact(r.kept (T:=λ_=>False) kD fE).op.l) R).mono ?_;rintro e C ⟨I,z,rfl,u,p,v⟩;have H:Hid (Kept (λ_=>False) a1 C):=⟨p.os,p.tape,p.output,p.size,p.block⟩;have aP:Hid (C.ownsRow 0 5 1 (.slice I a.l.length z) a.l.length (a.l.map qk)):=u;have aJ:Hid (∀k,(Value.slice I a.l.length z).ownBlock=some k->a1.heap.size<=k):=v;have m:Hid _:=r.kept H fE;have be:=m.box.c4;have bc:=m.box.c6;have ae:Hid _:=qo.kept aL H nF nF;clear u p v;obtain⟨aM,aj⟩:=ac.out I a.l.length z;have ar:Hid _:=aj;clear aj)
    |(go_at_call 97;refine(jI _ bo h (by exact(m.kept (T:=λ_=>False) kD fE).head) bd f.hd aa aO (by exact(m.kept (T:=λ_=>False) kD fE).disk) ai f.his aw aw V.vs j (by exact(m.kept (T:=λ_=>False) kD fE).ref) aY f.good.body c Z _ (by omega) (by have:=a7;omega) B.heap.size a.S 0 false I a.l.length z _ _ _ _ (by exact qo.kept (T:=λ_=>False) ae kD nF nF) (by omega) r.hSb E (by omega) aM (by exact ar)).mono ?_;rintro e P ⟨rfl,ah,ao,o⟩;have aK:Hid _:=ah;have aN:Hid _:=ao;have G:Hid (Kept (λk=>k=bo\/aa k) C P):=⟨o.os,o.tape,o.output,o.size,o.block⟩;have bj:P.cell? ⟨w.heap.size,4,none⟩=some (.string a.S):=(m.box.kept G (λb=>b.elim (λe=>by omega) (λb=>by have:=y.out _ b;omega))).c4;have bl:P.cell? ⟨w.heap.size,6,none⟩=some (.slice a.la a.l.length a.lc):=(m.box.kept G (λb=>b.elim (λe=>by omega) (λb=>by have:=y.out _ b;omega))).c6;clear ah ao o)))
   go_wp2;go_ret;have aF:Kept (λk=>(Value.slice ap a.l.length af).ownBlock=some k\/B.heap.size<=k) au C:=(((am.mono iL).trans aq fE).trans al (λk d=>.inl (.inr d))).trans H fE
   have aT:=fG M w F.drew au C P X bo t h bd D aO S aa aw ai V j f bs hbs ((k0.trans L iL).trans (Kept.drew _ F) iL) aQ l ay a.S false a.l Z c (λaR bh=>by
    have:=ad.out;rw [bh,vN,aR] at this
    simp [ue] at this) (qd a.l.length) (by unfold qd;omega) W n aX _ aF (λk d=>by
    rcases d with d|d
    .have J:=ag.out k d;exact⟨J.1,λb=>by have:=y.out k b;omega⟩
    .exact⟨by omega,λb=>by have:=U.out k b;omega⟩) G B.heap.size I z aM aK aN ar _ _ ae (λk d=>by rcases d with d|d<;>omega) (λk d=>d.imp id (λd=>by omega)) (zu.of_own 5 aP rfl _ (λk d=>by have:=aJ.out k d;omega))
   exact⟨zd (aG (by omega)),aT.1,aT.2⟩
  .have bz:(c !=0)=true:=by simpa using b
   have a0:=Y b;have bY:(n==0)=true:=by simpa using a0
   clear b ax Y a0;go_wp2_with fail
   go_region_held3 (λw'=>w'.cell? ⟨w.heap.size,4,none⟩=some (.string a.S)/\w'.cell? ⟨w.heap.size,6,none⟩=some (.slice a.la a.l.length a.lc)) (go_keep) ((first
    |(go_at_call 98;refine(yL _ _ (by omega) (by omega)).mono ?_;rintro e ab ⟨rfl,rfl⟩)
    |(go_at_call 99;refine(Q5 _ Q a.la a.lc a.l (by exact(r.kept (T:=λ_=>False) kD fE).op.l) R).mono ?_;rintro e C ⟨I,z,rfl,u,p,v⟩;have H:Hid (Kept (λ_=>False) a1 C):=⟨p.os,p.tape,p.output,p.size,p.block⟩;have aP:Hid (C.ownsRow 0 5 1 (.slice I a.l.length z) a.l.length (a.l.map qk)):=u;have aJ:Hid (∀k,(Value.slice I a.l.length z).ownBlock=some k->a1.heap.size<=k):=v;have m:Hid _:=r.kept H fE;have be:=m.box.c4;have bc:=m.box.c6;have ae:Hid _:=qo.kept aL H nF nF;clear u p v;obtain⟨aM,aj⟩:=ac.out I a.l.length z;have ar:Hid _:=aj;clear aj)
    |(go_at_call 97;refine(jI _ bo h (by exact(m.kept (T:=λ_=>False) kD fE).head) bd f.hd aa aO (by exact(m.kept (T:=λ_=>False) kD fE).disk) ai f.his aw aw V.vs j (by exact(m.kept (T:=λ_=>False) kD fE).ref) aY f.good.body c Z _ (by omega) (by have:=a7;omega) B.heap.size a.S 0 false I a.l.length z _ _ _ _ (by exact qo.kept (T:=λ_=>False) ae kD nF nF) (by omega) r.hSb E (by omega) aM (by exact ar)).mono ?_;rintro e P ⟨rfl,ah,ao,o⟩;have aK:Hid _:=ah;have aN:Hid _:=ao;have G:Hid (Kept (λk=>k=bo\/aa k) C P):=⟨o.os,o.tape,o.output,o.size,o.block⟩;have bj:P.cell? ⟨w.heap.size,4,none⟩=some (.string a.S):=(m.box.kept G (λb=>b.elim (λe=>by omega) (λb=>by have:=y.out _ b;omega))).c4;have bl:P.cell? ⟨w.heap.size,6,none⟩=some (.slice a.la a.l.length a.lc):=(m.box.kept G (λb=>b.elim (λe=>by omega) (λb=>by have:=y.out _ b;omega))).c6;clear ah ao o)))
   go_wp2;go_ret;have aF:Kept (λk=>(Value.slice ap a.l.length af).ownBlock=some k\/B.heap.size<=k) au C:=(((am.mono iL).trans aq fE).trans al (λk d=>.inl (.inr d))).trans H fE
   have aT:=fG M w F.drew au C P X bo t h bd D aO S aa aw ai V j f bs hbs ((k0.trans L iL).trans (Kept.drew _ F) iL) aQ l ay a.S false a.l Z c (λaR bh=>by
    have:=ad.out;rw [bh,vN,aR] at this
    simp [ue] at this) (qd a.l.length) (by unfold qd;omega) W n aX _ aF (λk d=>by
    rcases d with d|d
    .have J:=ag.out k d;exact⟨J.1,λb=>by have:=y.out k b;omega⟩
    .exact⟨by omega,λb=>by have:=U.out k b;omega⟩) G B.heap.size I z aM aK aN ar _ _ ae (λk d=>by rcases d with d|d<;>omega) (λk d=>d.imp id (λd=>by omega)) (zu.of_own 5 aP rfl _ (λk d=>by have:=aJ.out k d;omega))
   exact⟨zd (aG (by omega)),aT.1,aT.2⟩
end law
namespace law
open Go.RowKit disk ref book
open keys (zh)
variable {M:za}{w':World}{bs bd:Nat}{h:qm}{D D':Dk}{V:zP}
structure xY(M:za)(w':World)(bs bd:Nat)(h:qm)(D D':Dk)(V:zP):Prop where
 or_:(h.shut=true/\M.Sto w' bs none/\D'={D with reads:=D'.reads })\/h.shut=false/\M.Sto w' bs (some bd)/\M.Live D' V
theorem xY.shut(b:h.shut=true)(a:M.Sto w' bs none)(c:D'={D with reads:=D'.reads }):xY M w' bs bd h D D' V:=⟨.inl ⟨b,a,c⟩⟩
theorem xY.live(c:h.shut=false)(b:M.Sto w' bs (some bd))(a:M.Live D' V):xY M w' bs bd h D D' V:=⟨.inr ⟨c,b,a⟩⟩
theorem xY.elim{motive:xY M w' bs bd h D D' V->Prop}(shut:∀hs sto hD,motive (.shut hs sto hD))(live:∀hs sto live,motive (.live hs sto live))(t:xY M w' bs bd h D D' V):motive t:=by
 rcases t with⟨⟨a,b,d⟩|⟨a,b,d⟩⟩;.exact shut a b d
 .exact live a b d
structure Told (w w':World) (S':Nat->Prop) (o:Option zw) (x:Value) (c:Int):Prop where
 yes:c=0->∃u a cap,o=some u/\x=.slice a u.body.length cap/\w'.ownsRow 0 5 1 (.slice a u.body.length cap) u.body.length (u.body.map qk)/\∀k,(Value.slice a u.body.length cap).ownBlock=some k->w.heap.size<=k/\¬S' k
 no:c≠0->∃a cap,x=.slice a 0 cap
theorem Qx(k:Bool)(o:Option zw):yH true (yF k o)=if k=true then 8 else 2:=by
 cases k with
 |false=>rfl
 |true=>
  cases o with
  |none=>rfl
  |some v=>show (if cond v.mark (5:Int) 0=0\/cond v.mark (5:Int) 0=5 then (8:Int) else cond v.mark 5 0)=8;cases v.mark<;>rfl
theorem XS{w:World}{S':Nat->Prop}{o:Option zw}{e:Value}{c:Int}(h:OutIs w w' o e c)(g:∀k,e.ownBlock=some k->¬S' k):Told w w' S' o e c:=
 ⟨λl=>by
  obtain⟨u,i,a,cap,d,j,f⟩:=h.1 l
  exact⟨u,a,cap,i,d,j,λk b=>⟨f k b,g k (by rw [d];exact b)⟩⟩,h.2⟩
theorem Bj(M:za)(A:jp M)(w:World)(X:Nat->Prop)(bo t:Nat)(h:qm)(bd:Nat)(D:Dk)(S J:Nat->Prop)(G:Nat)(V:zP)(r:Int)(o:yY M w X bo t h bd D S J G V r)(N:t<=4398046511104)(bs:Nat)(hbs:h.s=yp bs)
 (b:ByteArray) (g:b.size<=maxLen):
 Calls Tryz.prog 26 #[.pointer (some ⟨bs,0,none⟩),.string b] w λe w'=>∃D' S' B n,e=.returned (.tuple #[B,.int .i64 n,.int .i64 (yH h.shut (yF (zh b.data.toList) (zO V.vs b)))])/\xx M w w' bd bs S S' D D'/\
  xY M w' bs bd h D D' V/\Told w w' S' (zO V.vs b) B (yH h.shut (yF (zh b.data.toList) (zO V.vs b)))/\(yH h.shut (yF (zh b.data.toList) (zO V.vs b))≠0->n=0)/\
  (∀u,yH h.shut (yF (zh b.data.toList) (zO V.vs b))=0->zO V.vs b=some u->n=u.num)/\X bs/\¬S bs/\¬J bs/\bs≠bo:=by
 have L:=o.n0t;have K:=o.tt
 cases o.st using yj.elim with
 |live f d s l z x j shut mb live=>
  have e:f=bs:=by rw [d] at hbs;unfold yp at hbs;simpa using hbs
  subst e;refine(A.live w bd f S D V b ⟨o.disk,l,j,live,o.fu,o.reads0,by have:=o.reads1;omega,by omega⟩ g).mono ?_;rintro e w' ⟨D',B,n,S',v,c,p,C,F,I,E⟩;rw [shut];exact⟨D',S',B,n,v,⟨c.disk,c.foot,c.kept,c.reads0,c.reads1,c.size,c.fuse⟩,.live shut c.sto p,XS C F,I,E,s,l,z,x⟩
 |shut f d s l z x j shut y=>
  have e:f=bs:=by rw [d] at hbs;unfold yp at hbs;simpa using hbs
  subst e;refine(A.shut w f b j g).mono ?_;rintro e w' ⟨a,cap,v,c,p⟩;rw [shut,Qx];have q:¬((if zh b.data.toList=true then (8:Int) else 2)=0):=by split<;>omega
  exact⟨D,S,_,0,v,⟨o.disk.kept p (λi H m=>l (by rw [<-m];exact H)),λk g=>.inl g,p.mono (λk g=>.inr g),by omega,by omega,rfl,o.fu⟩,.shut shut c rfl,⟨λm=>absurd m q,λ_=>⟨a,cap,rfl⟩⟩,λ_=>rfl,λu m=>absurd m q,s,l,z,x⟩
 |gone d y=>rw [d] at hbs;cases hbs
theorem BY(M:za)(A:yU M)(w:World)(X:Nat->Prop)(bo t:Nat)(h:qm)(bd:Nat)(D:Dk)(S H:Nat->Prop)(F:Nat)(V:zP)(p:Int)(o:yY M w X bo t h bd D S H F V p)(K:t<=4398046511104)(bs:Nat)(hbs:h.s=yp bs)
 (b:ByteArray) (j:b.size<=maxLen) (c:Int) (v:zs c):
 Calls Tryz.prog 42 #[.pointer (some ⟨bs,0,none⟩),.string b,.int .i64 c] w λe w'=>∃D' S' B,e=.returned (.tuple #[B,.int .i64 (yH h.shut (yF (zh b.data.toList) (qK V.vs b c)))])/\xx M w w' bd bs S S' D D'/\
  xY M w' bs bd h D D' V/\Told w w' S' (qK V.vs b c) B (yH h.shut (yF (zh b.data.toList) (qK V.vs b c)))/\X bs/\¬S bs/\¬H bs/\bs≠bo:=by
 have J:=o.n0t;have I:=o.tt
 cases o.st using yj.elim with
 |live g f q m x u l shut mb live=>
  have e:g=bs:=by rw [f] at hbs;unfold yp at hbs;simpa using hbs
  subst e;refine(A.live w bd g S D V b c ⟨o.disk,m,l,live,o.fu,o.reads0,by have:=o.reads1;omega,by omega⟩ j v).mono ?_;rintro e w' ⟨D',B,S',r,d,n,C,E⟩;rw [shut];exact⟨D',S',B,r,⟨d.disk,d.foot,d.kept,d.reads0,d.reads1,d.size,d.fuse⟩,.live shut d.sto n,XS C E,q,m,x,u⟩
 |shut g f q m x u l shut s=>
  have e:g=bs:=by rw [f] at hbs;unfold yp at hbs;simpa using hbs
  subst e;refine(A.shut w g b c l j).mono ?_;rintro e w' ⟨a,cap,r,d,n⟩;rw [shut,Qx];have z:¬((if zh b.data.toList=true then (8:Int) else 2)=0):=by split<;>omega
  exact⟨D,S,_,r,⟨o.disk.kept n (λi G y=>m (by rw [<-y];exact G)),λk j=>.inl j,n.mono (λk j=>.inr j),by omega,by omega,rfl,o.fu⟩,.shut shut d rfl,⟨λy=>absurd y z,λ_=>⟨a,cap,rfl⟩⟩,q,m,x,u⟩
 |gone f s=>rw [f] at hbs;cases hbs
theorem vD(M:za)(w F p O:World)(X:Nat->Prop)(bo t:Nat)(h:qm)(bd:Nat)(D R:Dk)(S m Q:Nat->Prop)(ac:Nat)(V:zP)(r:Int)(a:yY M w X bo t h bd D S Q ac V r)(bs:Nat)(hbs:h.s=yp bs)
 (an:Kept (λ_=>False) w F) (aq:w.heap.size<=F.heap.size) {z:Int} (d:xx M F p bd bs S m D R z) (f:X bs/\¬S bs/\¬Q bs/\bs≠bo) (W:xY M p bs bd h D R V) (T:Nat->Prop) (l:Kept T p O) (G:∀k,T k->¬X k/\¬m k) (ae:z<=1000:=by decide):
 One M O (λk=>X k\/m k) bo (t+1):=by
 have E:=a.xlt;have au:=E bo a.bX;have ao:=E bs f.1;have U:∀k,m k->k<p.heap.size:=λk b=>d.disk.lt k b;have u:∀k,m k->S k\/F.heap.size<=k:=d.foot;have am:=d.kept.size;have ag:=l.size
 have N:¬m bo:=λc=>by
  rcases u bo c with o|o;.exact a.bS o
  .omega
 have x:¬m bs:=λc=>by
  rcases u bs c with o|o;.exact f.2.1 o
  .omega
 have P:∀k,Q k->k<w.heap.size:=λk b=>E k (a.rX k b).1
 have Z:∀k,Q k->¬m k:=λk b c=>by
  have o:=P k b;rcases u k c with aa|aa;.exact(a.rX k b).2.1 aa
  .omega
 have v:∀k,Q k->¬(S k\/k=bs):=λk b c=>by
  rcases c with c|c;.exact(a.rX k b).2.1 c
  .exact f.2.2.1 (by rw [<-c];exact b)
 have C:∀k,Q k->¬T k:=λk b c=>(G k c).1 (a.rX k b).1;have n:Kept (λk=>S k\/k=bs) w p:=(an.mono fE).trans d.kept iL;have ar:=a.reads1;have ap:=a.reads0;have ak:=d.reads0;have ai:=d.reads1;have ad:=d.size;have al:=a.big;have y:∀q,M.Sto p bs q->M.Sto O bs q:=λq aj=>M.sto_kept _ _ _ _ _ aj l (λc=>(G bs c).1 f.1)
 refine⟨h,bd,R,m,Q,ac,V,r,(a.head.kept n (λc=>c.elim a.bS (λe=>f.2.2.2 e.symm))).kept l (λc=>(G bo c).1 a.bX),a.hd,a.his,d.disk.kept l (λi ah c=>(G i c).2 ah),
  (a.ref.kept n v v).kept l C C,λk b=>.inr b,λk b=>⟨.inl (a.rX k b).1,Z k b,(a.rX k b).2.2⟩,.inl a.bX,N,λk b=>?_,a.last0,a.lastv,a.told0,a.died0,a.n0t,lU a.tt (by omega),by omega,by omega,d.fuse,a.good,by omega,?_⟩
 .rcases b with b|b;.have:=E k b;have:=n.size;omega
  .have:=U k b;omega
 .cases W using xY.elim with
  |live A B live=>
   have ab:h.mb=.pointer none:=by
    cases a.st using yj.elim with
    |live I j J K H L s g mb=>exact mb
    |gone j=>rw [j] at hbs;cases hbs
    |shut I j J K H L s g=>rw [A] at g;cases g
   exact .live bs hbs (.inl f.1) x f.2.2.1 f.2.2.2 (y _ B) A ab live
  |shut A B af=>
   cases a.st using yj.elim with
   |live _ _ _ _ _ _ _ shut=>rw [A] at shut;cases shut
   |gone j=>rw [j] at hbs;cases hbs
   |shut I j J K H L s g Y=>
    exact .shut bs hbs (.inl f.1) x f.2.2.1 f.2.2.2 (y _ B) A (((Y.kept n v).kept l C).reads af)
theorem gT{s:Bool}{c:Int}(h:yH s c=0):c=0:=by
 cases s with
 |false=>exact h
 |true=>
  have a:(if c=0\/c=5 then (8:Int) else c)=0:=h;by_cases b:c=0\/c=5;.rw [aB b] at a;omega
  .rw [az b] at a;exact a
structure G7 (M:za) (w w':World) (X:Nat->Prop) (bo t bp:Nat) (lv:Value) (F H:Nat->Prop) (b:Option Addr) (cb:Nat) (es vs:List js) (e:Ending):Prop where
 ret:e=.returned (.bool true)
 st:∃X' F' a' ca' es',One M w' X' bo (t+1)/\jh w' bp lv F' H a' b ca' cb es' vs/\es'.length<=es.length+1/\(∀k,X' k->X k\/w.heap.size<=k)/\(∀k,F' k->F k\/w.heap.size<=k)/\∀k,X' k->¬F' k/\¬H k/\k≠bp
 kept:Kept (λk=>X k\/F k\/k=bp) w w'
end law
namespace law
open Go.ChangeShapes Go.WideShapes Go.ChangeAt Go.RowKit disk ref book
open keys (zg zd zq zl zh)
theorem G8(M:za)(A:yU M)(w:World)(X:Nat->Prop)(bo t:Nat)(h:qm)(bd:Nat)(D:Dk)(S av:Nat->Prop)(ad:Nat)(V:zP)(B:Int)(j:yY M w X bo t h bd D S av ad V B)(br:t<=2199023255552)(bs:Nat)(hbs:h.s=yp bs)
 (d:yC) (Q:Nat->Prop) (O:d.Ok w Q) (aX:∀k,Q k->¬X k/\k<w.heap.size) (ab:d.kind=6)
 (bp:Nat) (ay:Value) (F H:Nat->Prop) (a b:Option Addr) (ca cb:Nat) (es vs:List js) (o:jh w bp ay F H a b ca cb es vs) (bj:es.length<=t) (q:∀k,X k->¬F k/\¬H k/\k≠bp):
 Calls Tryz.prog 63 #[.pointer (some ⟨bp,0,none⟩),.pointer (some ⟨bo,0,none⟩),.agg #[.int .i64 d.kind,.int .i64 d.A,.int .i64 d.B,.int .i64 d.C,.string d.S,.string d.P,.slice d.la d.l.length d.lc,.slice d.ka d.ks.length d.kc]] w λe w'=>G7 M w w' X bo t bp ay F H b cb es vs e:=by
 have L:=j.xlt;have k0:Kept (λ_=>False) w (w.alloc (.cells #[.int .i64 d.kind,.int .i64 d.A,.int .i64 d.B,.int .i64 d.C,.string d.S,.string d.P,.slice d.la d.l.length d.lc,.slice d.ka d.ks.length d.kc] 81)):=Kept.alloc _ _ _;have P:xj (w.alloc (.cells #[.int .i64 d.kind,.int .i64 d.A,.int .i64 d.B,.int .i64 d.C,.string d.S,.string d.P,.slice d.la d.l.length d.lc,.slice d.ka d.ks.length d.kc] 81)) w.heap.size d:=⟨heap_alloc_new w _⟩;have af:=O.kept k0 nF;have n:=j.kept k0 nF;have v:w.heap.size<(w.alloc (.cells #[.int .i64 d.kind,.int .i64 d.A,.int .i64 d.B,.int .i64 d.C,.string d.S,.string d.P,.slice d.la d.l.length d.lc,.slice d.ka d.ks.length d.kc] 81)).heap.size:=by simp
 have N:=n.head.c0;rw [n.hd] at N;unfold yp at N;have aK:=n.head.c1;rw [hbs] at aK;unfold yp at aK;have bk:=P.c4;have bq:=P.c2;have bm:=P.c0.trans (et (λk=>some (Value.int .i64 k)) ab);have be:=j.good.few;change Hid _ at P af n j O aX hbs L k0 o q v;clear ab;generalize bh:w.alloc (.cells #[.int .i64 d.kind,.int .i64 d.A,.int .i64 d.B,.int .i64 d.C,.string d.S,.string d.P,.slice d.la d.l.length d.lc,.slice d.ka d.ks.length d.kc] 81)=w0 at*;go_enter Tryz.func63,Tryz.ntmps63;go_wp2_with fail;obtain⟨a8,ba,aW,aU,aB⟩:=n.disk;refine(ya _ bd S D a8 ba aW aU aB).mono ?_;rintro e R ⟨rfl,p⟩;rw [p];clear p R aB;go_wp2_with fail;go_region_held3 (λw'=>w'.cell? ⟨bo,1,none⟩=some (.pointer (some ⟨bs,0,none⟩))/\w'.cell? ⟨w.heap.size,4,none⟩=some (.string d.S)/\w'.cell? ⟨w.heap.size,2,none⟩=some (.int .i64 d.B)) (go_keep) ((go_at_call 42;refine(BY M A _ X bo t h bd D S av ad V B (by exact n.kept (Kept.drew (λ_=>False) w0) nF) (by omega) bs hbs d.S O.out.S d.B O.out.B).mono ?_;rintro e x ⟨aw,K,bv,rfl,ae,Y,I,aE,aF,aD,aq⟩;have m:Hid (xx M w0.drew x bd bs S K D aw):=ae;have z:Hid _:=(⟨aE,aF,aD,aq⟩:X bs/\¬S bs/\¬av bs/\bs≠bo);change Hid _ at Y I;clear ae aE aF aD aq;have y:Hid _:=dC n L P af aX v m z.out;have au:=y.head.c1;rw [hbs.out] at au;unfold yp at au;have bf:=y.box.c4;have a5:=y.box.c2));have N:=y.head.c0;rw [j.hd] at N;unfold yp at N;have aI:=y.head.c2;rw [j.his] at aI;unfold yp at aI;have aT:∀k,K k->k<w.heap.size\/w0.heap.size<=k:=λk f=>(m.foot k f).imp (λh=>L k (n.sX k h)) (λh=>h);have ah:∀k,K k->k<x.heap.size:=λk f=>m.disk.lt k f;have bc:w0.heap.size<=x.heap.size:=m.kept.size;change Hid _ at aT ah;generalize am:yH h.shut (yF (zh d.S.data.toList) (qK V.vs d.S d.B))=c at*;change Hid _ at am;go_wp2_with fail;obtain⟨a0,a3,aO,aN,ag⟩:=y.disk;refine(ya _ bd K aw a0 a3 aO aN ag).mono ?_;rintro e R ⟨rfl,p⟩;rw [p];clear p R ag;go_wp2_with fail;go_region_held3 (λw'=>w'.cell? ⟨bo,2,none⟩=some (.pointer (some ⟨ad,0,none⟩))/\w'.cell? ⟨w.heap.size,4,none⟩=some (.string d.S)/\w'.cell? ⟨w.heap.size,2,none⟩=some (.int .i64 d.B)) (go_keep) ((go_at_call 107;refine(BS _ av av ad V.vs B (by exact(y.kept (Kept.drew (λ_=>False) x) fE).ref) (by omega) d.S O.out.S d.B).mono ?_;rintro e R ⟨⟨bu,rfl,aA⟩,p⟩;subst p;have a2:Hid (jO _ _ _ _ _):=aA;clear aA));have G:Kept (λ_=>False) x x.drew:=kD;have aZ:Hid _:=y.kept G fE;have J:Kept (λk=>S k\/k=bs) w x:=((k0.mono fE).trans (Kept.drew _ w0) iL).trans m.kept iL
 have W:jh x.drew bp ay F H a b ca cb es vs:=(o.kept J (λi aj g=>by
  rcases g with g|g;.exact(q i (j.sX i g)).1 aj
  .exact(q i (by rw [g];exact z.1)).1 aj) (λi aj g=>by
  rcases g with g|g;.exact(q i (j.sX i g)).2.1 aj
  .exact(q i (by rw [g];exact z.1)).2.1 aj) (λg=>by
  rcases g with g|g;.exact(q bp (j.sX bp g)).2.2 rfl
  .exact(q bs z.1).2.2 g.symm)).kept G nF nF (λap=>ap)
 have C:∀k,(X k\/K k)->¬F k/\¬H k/\k≠bp:=λk f=>by
  rcases f with f|f;.exact q k f
  .rcases m.foot k f with l|l;.exact q k (j.sX k l)
   .have ac:w0.heap.size<=k:=l;have ax:=v.out;exact⟨λg=>by have:=o.flt k g;omega,λg=>by have:=o.hlt k g;omega,λg=>by have:=o.head.lt;omega⟩
 have ao:∀k,(X k\/K k)->X k\/w.heap.size<=k:=λk f=>by
  rcases f with f|f;.exact .inl f
  .rcases m.foot k f with l|l;.exact .inl (j.sX k l)
   .have ac:w0.heap.size<=k:=l;have ax:=v.out;exact .inr (by omega)
 have a9:=m.reads0;have a6:=m.reads1;change Hid _ at G J W C ao;go_wp2_with fail;refine(ug _ bo h (by exact aZ.head) _).mono ?_;rintro e R ⟨rfl,p⟩;rw [p,am.out];clear p R;have al:Kept (λ_=>False) w w0.drew:=k0.trans (Kept.drew _ w0) iL;change Hid _ at al;by_cases g:c=0
 .obtain⟨u,aa,s,aL,aM,ak,Z⟩:=I.yes g;have aH:=gT (am.trans g);obtain⟨u',aV,aP,an,aQ,aJ⟩:=a2.1 aH;have a7:u'=u:=by rw [aL] at an;cases an;rfl
  subst a7;have bg:u'.body.length<=300:=j.good.body u' (jv aL).2.2;have az:Hid (x.ownsRow 0 5 1 (.slice aa u'.body.length s) u'.body.length (u'.body.map qk)):=ak;have a1:Hid (zu _ av aV u'.body):=aJ;have bl:(c !=0)=false:=by simpa using g
  subst aM aQ;change Hid _ at Z;clear aL ak aH an aJ g;go_wp2_with fail;refine(gy _ (λk=>w0.heap.size<=k) av aa aV s aP u'.body (by exact(zu.of_own 5 az rfl _ (λk f=>(Z k f).1)).kept G nF) (by exact zu.kept a1 (T:=λ_=>False) kD nF) (by omega)).mono ?_;rintro e R ⟨rfl,bn,p⟩;rw [p];clear p R;go_wp2_with fail
  have r:∀k,(Value.slice aa u'.body.length s).ownBlock=some k->w.heap.size<k/\¬K k:=λk f=>by have l:=Z.out k f;have ac:w0.heap.size<=k:=l.1;have ax:=v.out;exact⟨by omega,l.2⟩
  change Hid _ at r
  refine(Qr _ bp ay F H (λk=>(Value.slice aa u'.body.length s).ownBlock=some k) a b ca cb es vs (by exact W.kept (T:=λ_=>False) kD nF nF (λap=>ap)) (by omega) aa u'.body.length s (u'.body.map qk) (by exact Kept.owns (S:=λ_=>False) kD az nF) (by omega) (λk f=>f) (λk f=>by
   have l:=(r k f).1
   exact⟨λg=>by have:=o.flt k g;omega,λg=>by have:=o.hlt k g;omega,λg=>by have:=o.head.lt;omega⟩)).mono ?_
  rintro e aR ⟨rfl,⟨a4,aY,aS,bb,ar,bi,ai⟩,E⟩;have aC:Hid (Kept (λk=>F k\/(Value.slice aa u'.body.length s).ownBlock=some k\/k=bp) x aR):=⟨E.os,E.tape,E.output,E.size,E.block⟩;change Hid _ at ar ai;clear E;go_wp2;go_ret;have U:=L.out;refine⟨zd (aG (by omega)),⟨_,bb,a4,aY,aS,vD M w w0.drew x aR X bo t h bd D aw S K av ad V B j bs hbs al (ly v) m z Y _ aC (λk f=>?_),ar,by omega,ao,λk f=>?_,λk f=>⟨λap=>?_,(C k f).2.1,(C k f).2.2⟩⟩,(J.mono (λk f=>.inl (f.elim (j.sX k) (λe=>by rw [e];exact z.1)))).trans aC (λk f=>?_)⟩
  .rcases f with f|f|f;.exact⟨λg=>(q k g).1 f,λg=>(C k (.inr g)).1 f⟩
   .have l:=r.out k f;exact⟨λg=>by have:=U k g;omega,l.2⟩
   .exact⟨λg=>(q k g).2.2 f,λg=>(C k (.inr g)).2.2 f⟩
  .rcases ai k f with l|l|l;.exact .inl l
   .have:=(r k l).1;exact .inr (by omega)
   .have ac:x.heap.size<=k:=l;have ax:=v.out;exact .inr (by omega)
  .rcases ai k ap with l|l|l;.exact(C k f).1 l
   .have ac:=r.out k l;rcases f with f|f;.have:=U k f;omega
    .exact ac.2 f
   .have ac:x.heap.size<=k:=l;have ax:=v.out;rcases f with f|f;.have:=U k f;omega
    .have:=ah.out k f;omega
  .rcases f with f|f|f;.exact .inl (.inr (.inl f))
   .have:=(r k f).1;exact .inr (by omega)
   .exact .inl (.inr (.inr f))
 .obtain⟨aa,s,aM⟩:=I.no g;have bt:(c !=0)=true:=by simpa using g
  subst aM;clear g;go_wp2;go_ret
  exact⟨rfl,⟨_,F,a,ca,es,vD M w w0.drew x _ X bo t h bd D aw S K av ad V B j bs hbs al (ly v) m z Y (λ_=>False) G fE,W,by omega,ao,λk f=>.inl f,C⟩,
   (J.mono (λk f=>.inl (f.elim (j.sX k) (λe=>by rw [e];exact z.1)))).trans G fE⟩
end law
namespace law
open Go.RowKit disk ref book
variable {M:za}{w w':World}{t base bp lc ca cb:Nat}{ones:List (Nat×(Nat->Prop))}{la a b:Option Addr}{F H:Nat->Prop}{es vs:List js}
structure qt (M:za) (w:World) (base bp t:Nat) (ones:List (Nat×(Nat->Prop))) (la:Option Addr) (lc:Nat) (F H:Nat->Prop) (a b:Option Addr) (ca cb:Nat) (es vs:List js):Prop where
 row:w.ownsRow 0 120 1 (.slice la ones.length lc) ones.length (ones.map λo=>yp o.1)
 book:jh w bp (.slice la ones.length lc) F H a b ca cb es vs
 one:∀i (hi:i<ones.length),One M w ones[i].2 ones[i].1 t
 apart:∀i j (hi:i<ones.length) (hj:j<ones.length),i≠j->∀k,ones[i].2 k->¬ones[j].2 k
 sep:∀i (hi:i<ones.length) k,ones[i].2 k->¬F k/\¬H k/\k≠bp
 rsep:∀i (hi:i<ones.length) k,ones[i].2 k->(Value.slice la ones.length lc).ownBlock≠some k
 rowF:∀k,(Value.slice la ones.length lc).ownBlock=some k->¬F k/\¬H k/\k≠bp/\base<=k
 bX:∀i (hi:i<ones.length) k,ones[i].2 k->base<=k
 bF:∀k,F k->base<=k
 bH:∀k,H k->base<=k
 bP:base<=bp
 fewE:es.length<=t
 fewV:vs.length<=t
 fewO:ones.length<=t
def ju(M:za)(w:World)(base bp t:Nat):Prop:=∃ones la lc F H a b ca cb es vs,qt M w base bp t ones la lc F H a b ca cb es vs
theorem One.lt{X:Nat->Prop}{bo:Nat}(o:One M w X bo t):∀k,X k->k<w.heap.size:=by
 obtain⟨h,bd,D,S,c,b,V,a,o⟩:=o;exact o.xlt
theorem qt.moved{E:Nat}(p:qt M w base bp t ones la lc F H a b ca cb es vs)(T:base<=w.heap.size)(i:Nat)(z:i<ones.length)(U:t<=E){u F':Nat->Prop}{P:Option Addr}{I:Nat}{C:List js}(K:One M w' u ones[i].1 E)(G:jh w' bp (.slice la ones.length lc) F' H P b I cb C vs)(R:C.length<=E)(A:∀k,u k->ones[i].2 k\/w.heap.size<=k)(B:∀k,F' k->F k\/w.heap.size<=k)(N:∀k,u k->¬F' k/\¬H k/\k≠bp)(v:Kept (λk=>ones[i].2 k\/F k\/k=bp) w w'):ju M w' base bp E/\Kept (λk=>base<=k) w w':=by
 have x:∀j (l:j<ones.length) k,ones[j].2 k->k<w.heap.size:=λj l=>(p.one j l).lt;have D:∀k,(Value.slice la ones.length lc).ownBlock=some k->k<w.heap.size:=λk v=>(p.row.lt k v).2
 have m:∀j (l:j<(ones.set i (ones[i].1,u)).length),(j=i/\(ones.set i (ones[i].1,u))[j]=(ones[i].1,u))\/(∃d:j<ones.length,j≠i/\(ones.set i (ones[i].1,u))[j]=ones[j]):=λj l=>by
  by_cases g:j=i;.subst g;exact .inl ⟨rfl,by simp⟩
  .exact .inr ⟨by simpa using l,g,List.getElem_set_ne (iK g) _⟩
 have s:(ones.set i (ones[i].1,u)).length=ones.length:=eQ ..;refine⟨⟨ones.set i (ones[i].1,u),la,lc,F',H,P,b,I,cb,C,vs,?_,?_,λj l=>?_,λj k l q O r f=>?_,λj l r f=>?_,λj l r f=>?_,λk q=>?_,λj l r f=>?_,λk q=>?_,p.bH,p.bP,?_,?_,?_⟩,⟨v.os,v.tape,v.output,v.size,λk n L=>v.block k n (λc=>L ?_)⟩⟩
 .rw [s]
  have g:(ones.set i (ones[i].1,u)).map (λo=>yp o.1)=ones.map λo=>yp o.1:=by
   rw [mf];apply mT (by simp);intro j e J;simp only [mY,ig];split
   next h=>subst h;rfl
   next=>rfl
  rw [g]
  exact v.owns p.row (λk n c=>by
   have e:=p.rowF k n;rcases c with c|c|c;.exact p.rsep i z k c n
   .exact e.1 c
   .exact e.2.2.1 c)
 .rw [s];exact G
 .rcases m j l with⟨g,h⟩|⟨d,g,h⟩;.subst g;rw [h];exact K
  .rw [h];refine((p.one j d).kept v (λk n c=>?_)).later U;rcases c with c|c|c;.exact p.apart i j z d (iK g) k c n
   .exact(p.sep j d k n).1 c
   .exact(p.sep j d k n).2.2 c
 .rcases m j l with⟨g,h⟩|⟨d,g,h⟩<;>rcases m k q with⟨Q,S⟩|⟨y,Q,S⟩<;>rw [h] at f<;>rw [S]
  .omega
  .intro c;rcases A r f with e|e;.exact p.apart i k z y (iK Q) r e c
   .have:=x k y r c;omega
  .intro c;rcases A r c with e|e;.exact p.apart j i d z g r f e
   .have:=x j d r f;omega
  .exact p.apart j k d y O r f
 .rcases m j l with⟨g,h⟩|⟨d,g,h⟩<;>rw [h] at f
  .exact N r f
  .refine⟨λc=>?_,(p.sep j d r f).2.1,(p.sep j d r f).2.2⟩;rcases B r c with e|e;.exact(p.sep j d r f).1 e
   .have:=x j d r f;omega
 .rw [s];intro c;rcases m j l with⟨g,h⟩|⟨d,g,h⟩<;>rw [h] at f
  .rcases A r f with e|e;.exact p.rsep i z r e c
   .have:=D r c;omega
  .exact p.rsep j d r f c
 .rw [s] at q;have e:=p.rowF k q;refine⟨λc=>?_,e.2⟩;rcases B k c with J|J;.exact e.1 J
  .have:=D k q;omega
 .rcases m j l with⟨g,h⟩|⟨d,g,h⟩<;>rw [h] at f
  .rcases A r f with e|e;.exact p.bX i z r e
   .omega
  .exact p.bX j d r f
 .rcases B k q with e|e;.exact p.bF k e
  .omega
 .exact R
 .have:=p.fewV;omega
 .rw [s];have:=p.fewO;omega
 .rcases c with c|c|c;.exact p.bX i z k c
  .exact p.bF k c
  .rw [c];exact p.bP
theorem qt.asked(p:qt M w base bp t ones la lc F H a b ca cb es vs)(c:base<=w.heap.size)(i:Nat)(m:i<ones.length)
 {e:Ending} (s:G7 M w w' ones[i].2 ones[i].1 t bp (.slice la ones.length lc) F H b cb es vs e):e=.returned (.bool true)/\ju M w' base bp (t+1)/\Kept (λk=>base<=k) w w':=by
 obtain⟨f,⟨u,F',v,q,r,g,d,o,l,h,j⟩,n⟩:=s;exact⟨f,p.moved c i m (Nat.le_succ t) g d (by have:=p.fewE;omega) l h j n⟩
theorem qt.stepped(p:qt M w base bp t ones la lc F H a b ca cb es vs)(g:base<=w.heap.size)(i:Nat)(f:i<ones.length)
 {e:Ending} (s:Stepped M w w' ones[i].2 ones[i].1 t e):e=.returned (.bool true)/\ju M w' base bp (t+1)/\Kept (λk=>base<=k) w w':=by
 obtain⟨m,j,h⟩:=s.one;refine p.asked g i f ⟨s.ret,⟨m,F,a,ca,es,j,p.book.kept s.kept (λk d c=>(p.sep i f k c).1 d) (λk d c=>(p.sep i f k c).2.1 d) (λc=>(p.sep i f bp c).2.2 rfl),by omega,h,λk d=>.inl d,λk d=>?_⟩,s.kept.mono (λk d=>.inl d)⟩;rcases h k d with l|l;.exact p.sep i f k l
 .exact⟨λc=>by have:=p.book.flt k c;omega,λc=>by have:=p.book.hlt k c;omega,λc=>by have:=p.book.head.lt;omega⟩
theorem qt.idle(p:qt M w base bp t ones la lc F H a b ca cb es vs)(k:Kept (λ_=>False) w w'):ju M w' base bp (t+1)/\Kept (λk=>base<=k) w w':=
 ⟨⟨ones,la,lc,F,H,a,b,ca,cb,es,vs,k.owns p.row nF,p.book.kept k nF nF (λc=>c),λi d=>((p.one i d).kept k nF).later (by omega),p.apart,p.sep,p.rsep,p.rowF,p.bX,p.bF,p.bH,p.bP,by have:=p.fewE;omega,by have:=p.fewV;omega,by have:=p.fewO;omega⟩,k.mono fE⟩
theorem qt.push{A:World}(p:qt M w base bp t ones la lc F H a b ca cb es vs)(T:base<=w.heap.size)(bo:Nat)(X:Nat->Prop)(g c:Nat)
 (K:A.ownsRow 0 120 1 (.slice (some ⟨g,0,none⟩) (ones.length+1) c) (ones.length+1) (ones.map (λo=>yp o.1)++[yp bo])) (L:Kept (λk=>(Value.slice la ones.length lc).ownBlock=some k) w A) (G:(Value.slice la ones.length lc).ownBlock=some g\/w.heap.size<=g)
 (N:One M A X bo (t+1)) (C:∀k,X k->w.heap.size<=k/\k≠g):
 qt M (A.setCell ⟨bp,0,none⟩ (.slice (some ⟨g,0,none⟩) (ones.length+1) c)) base bp (t+1) (ones++[(bo,X)]) (some ⟨g,0,none⟩) c F H a b ca cb es vs/\Kept (λk=>base<=k) w (A.setCell ⟨bp,0,none⟩ (.slice (some ⟨g,0,none⟩) (ones.length+1) c)):=by
 have z:=Kept.setCell (S:=λk=>k=bp) A ⟨bp,0,none⟩ (.slice (some ⟨g,0,none⟩) (ones.length+1) c) rfl;have V:=p.book.head.lt;have B:∀j (q:j<ones.length) k,ones[j].2 k->k<w.heap.size:=λj q=>(p.one j q).lt;have r:(ones++[(bo,X)]).length=ones.length+1:=by simp
 have I:=p.book.flt;have E:=p.book.hlt
 have J:¬F g/\¬H g/\g≠bp/\base<=g:=by
  rcases G with u|u;.exact p.rowF g u
  .exact⟨λd=>by have:=I g d;omega,λd=>by have:=E g d;omega,by omega,by omega⟩
 have l:∀i (v:i<(ones++[(bo,X)]).length),(∃U:i<ones.length,(ones++[(bo,X)])[i]=ones[i])\/(i=ones.length/\(ones++[(bo,X)])[i]=(bo,X)):=λi v=>by
  by_cases u:i<ones.length;.exact .inl ⟨u,ie u⟩
  .right;have s:i=ones.length:=by omega
   subst s;exact⟨rfl,by simp⟩
 have f:=p.book.kept L (λk m d=>(p.rowF k d).1 m) (λk m d=>(p.rowF k d).2.1 m) (λd=>(p.rowF bp d).2.2.1 rfl)
 refine⟨⟨?_,?_,λj q=>?_,λj k q x P y h=>?_,λj q y h=>?_,λj q y h=>?_,λk x=>?_,λj q y h=>?_,p.bF,p.bH,p.bP,by have:=p.fewE;omega,by have:=p.fewV;omega,by rw [r];have:=p.fewO;omega⟩,
  ((L.mono (λk m=>(p.rowF k m).2.2.2)).trans z (λk m=>.inl (by rw [m];exact p.bP)))⟩
 .rw [r,eh];exact z.owns K (λk m s=>by simp [Value.ownBlock] at m;have:=J.2.2.1;omega)
 .rw [r];have Q:yG (A.setCell ⟨bp,0,none⟩ (.slice (some ⟨g,0,none⟩) (ones.length+1) c)) bp (.slice (some ⟨g,0,none⟩) (ones.length+1) c) (.slice a es.length ca) (.slice b vs.length cb):=⟨by rw [heap_setCell_same A bp 0 _ _ _ f.head.head];rfl⟩;exact⟨Q,f.bytes.kept z (λi v s=>f.fbp (by rw [<-s];exact v)),f.rows.kept z (λi v s=>f.hbp (by rw [<-s];exact v)),f.fbp,f.hbp,f.apart,f.few,f.few2,λi v=>au (f.flt i v) z.size,λi v=>au (f.hlt i v) z.size⟩
 .rcases l j q with⟨e,n⟩|⟨s,n⟩<;>rw [n]
  .exact(((p.one j e).kept L (λk m d=>p.rsep j e k m d)).kept z (λk m d=>(p.sep j e k m).2.2 d)).later (by omega)
  .exact N.kept z (λk m d=>by have:=(C k m).1;omega)
 .rcases l j q with⟨e,n⟩|⟨s,n⟩<;>rcases l k x with⟨D,R⟩|⟨O,R⟩<;>rw [n] at h<;>rw [R]
  .exact p.apart j k e D P y h
  .intro d;have:=(C y d).1;have:=B j e y h;omega
  .intro d;have:=(C y h).1;have:=B k D y d;omega
  .omega
 .rcases l j q with⟨e,n⟩|⟨s,n⟩<;>rw [n] at h
  .exact p.sep j e y h
  .have u:=(C y h).1;exact⟨λd=>by have:=I y d;omega,λd=>by have:=E y d;omega,by omega⟩
 .rw [r];simp only [Value.ownBlock,ne_eq,iA];intro O;rcases l j q with⟨e,n⟩|⟨s,n⟩<;>rw [n] at h
  .rcases G with u|u;.exact p.rsep j e y h (by rw [<-O];exact u)
   .have:=B j e y h;omega
  .exact(C y h).2 O.symm
 .rw [r] at x;simp only [Value.ownBlock,iA] at x;rw [<-x];exact J
 .rcases l j q with⟨e,n⟩|⟨s,n⟩<;>rw [n] at h
  .exact p.bX j e y h
  .have:=(C y h).1;omega
end law
namespace law
open Go.ChangeShapes Go.WideShapes Go.ChangeAt Go.RowKit disk ref book
open keys (zg zd zq zl zh)
theorem Tryz.infoPone:(Tryz.prog.info? 120).map (λi=>(i.zero,i.size,i.bytes))=some (some (.pointer none),1,8):=by kernel_rfl
theorem bI(w:World)(a b c:Obj):(((w.alloc a).alloc b).alloc c).heap[w.heap.size+1+1]? =some c:=by
 have:=heap_alloc_new ((w.alloc a).alloc b) c;simpa using this
theorem kT(S:Nat->Prop)(w:World)(a b c:Obj):Kept S w (((w.alloc a).alloc b).alloc c):=((Kept.alloc S w a).trans (Kept.alloc S _ b) iL).trans (Kept.alloc S _ c) iL
def Qy(c n:Int):Int:=if c<0 then (-(c+1)).tmod n else c.tmod n
theorem G9(c n:Int)(a:0<n):0<=Qy c n/\Qy c n<n:=by
 unfold Qy;split;.exact⟨Int.tmod_nonneg n (by omega),Int.tmod_lt_of_pos _ a⟩
 .exact⟨Int.tmod_nonneg n (by omega),Int.tmod_lt_of_pos _ a⟩
theorem yV(w:World)(c n:Int)(g:zs c)(l:0<n)(i:n<=9223372036854775807):
 Calls Tryz.prog 58 #[.int .i64 c,.int .i64 n] w λe w'=>e=.returned (.int .i64 (Qy c n))/\w'=w:=by
 obtain⟨k,j⟩:=g;by_cases h:c<0
 .have a:Qy c n=(-(c+1)).tmod n:=aB h;have d:(-(c+1)).tmod n= -((c+1).tmod n):=Int.neg_tmod ..;have b:Hid _:=a;have f:Hid _:=d;clear a d;go_enter Tryz.func58,Tryz.ntmps58;go_wp2;go_ret;exact⟨zg (by rw [b.out];first|rfl|rw [f.out]),rfl⟩
 .have a:Qy c n=c.tmod n:=az h;have d:c.tmod n=c%n:=lZ (by omega);have b:Hid _:=a;have f:Hid _:=d;clear a d;go_enter Tryz.func58,Tryz.ntmps58;go_wp2;go_ret;exact⟨zg (by rw [b.out];first|rfl|rw [f.out]),rfl⟩
theorem uV(c n:Int)(g:zs c)(b:0<n)(a:n<=9223372036854775807):∃i:Nat,(i:Int)<n/\∀w,Calls Tryz.prog 58 #[.int .i64 c,.int .i64 n] w λe w'=>e=.returned (.int .i64 (i:Int))/\w'=w:=by
 obtain⟨d,h⟩:=G9 c n b;obtain⟨i,f⟩:=lE d;exact⟨i,by omega,λw=>by rw [<-f];exact yV w c n g b a⟩
def bJ(bd bs rb:Nat):qm:=⟨yp bd,yp bs,yp rb,.pointer none,.string ByteArray.empty,.int .i64 0,.bool false,.slice none 0 0,0,0,false⟩
theorem Bk(M:za)(J a A:World)(bd bs B:Nat)(f T:Nat->Prop)(e:Dk)(o:Obj)(t:Nat)(u:ze a bd f e)(s:¬f bs)(n:M.Sto a bs (some bd))(d:M.Live e ⟨[],0⟩)(x:0<=e.reads)(I:e.reads<=2000)(C:M.Fu e.fuse)
 (l:Kept T (((a.alloc (.cells #[.slice none 0 0,.int .i64 0] 164)).alloc (.cells (bJ bd bs a.heap.size).cells 125)).alloc o) A) (h:∀k,T k->k<B) (F:∀k,f k->B<=k) (hbs:B<=bs) (K:B<=a.heap.size):
 One M A (λk=>f k\/k=bs\/k=a.heap.size\/k=a.heap.size+1) (a.heap.size+1) (t+1):=by
 have k3:=kT T a (.cells #[.slice none 0 0,.int .i64 0] 164) (.cells (bJ bd bs a.heap.size).cells 125) o;have m:=k3.trans l iL;have H:=M.sto_lt _ _ _ n;have g:∀k,f k->k<a.heap.size:=λk b=>u.lt k b
 have z:(((a.alloc (.cells #[.slice none 0 0,.int .i64 0] 164)).alloc (.cells (bJ bd bs a.heap.size).cells 125)).alloc o).heap[a.heap.size]? =some (.cells #[.slice none 0 0,.int .i64 0] 164 (0,0)):=by have r:=(Kept.alloc (λ_=>False) ((a.alloc (.cells #[.slice none 0 0,.int .i64 0] 164)).alloc (.cells (bJ bd bs a.heap.size).cells 125)) o).block a.heap.size (by simp;omega) (λj=>j);have D:=(Kept.alloc (λ_=>False) (a.alloc (.cells #[.slice none 0 0,.int .i64 0] 164)) (.cells (bJ bd bs a.heap.size).cells 125)).block a.heap.size (by simp) (λj=>j);rw [r,D];exact heap_alloc_new a _
 have y:(((a.alloc (.cells #[.slice none 0 0,.int .i64 0] 164)).alloc (.cells (bJ bd bs a.heap.size).cells 125)).alloc o).heap[a.heap.size+1]? =some (.cells (bJ bd bs a.heap.size).cells 125 (0,0)):=by have r:=(Kept.alloc (λ_=>False) ((a.alloc (.cells #[.slice none 0 0,.int .i64 0] 164)).alloc (.cells (bJ bd bs a.heap.size).cells 125)) o).block (a.heap.size+1) (by simp) (λj=>j);rw [r];have:=heap_alloc_new (a.alloc (.cells #[.slice none 0 0,.int .i64 0] 164)) (.cells (bJ bd bs a.heap.size).cells 125);simpa using this
 have G:=l.size;have w:(((a.alloc (.cells #[.slice none 0 0,.int .i64 0] 164)).alloc (.cells (bJ bd bs a.heap.size).cells 125)).alloc o).heap.size=a.heap.size+3:=by simp
 have p:qo (((a.alloc (.cells #[.slice none 0 0,.int .i64 0] 164)).alloc (.cells (bJ bd bs a.heap.size).cells 125)).alloc o) (λk=>k=a.heap.size) (λk=>k=a.heap.size) a.heap.size [] 0:=
  ⟨none,0,[],z,aP _ _ _ _,xD.nil _ _,rfl,λk b=>(by cases b),by simp [Value.ownBlock]⟩
 refine⟨bJ bd bs a.heap.size,bd,e,f,λk=>k=a.heap.size,a.heap.size,⟨[],0⟩,0,⟨(l.block _ (by rw [w];omega) (λc=>by have:=h _ c;omega)).trans y⟩,rfl,rfl,u.kept m (λi q c=>by have:=h i c;have:=F i q;omega),
  p.kept l (λi q c=>by have:=h i c;omega) (λi q c=>by have:=h i c;omega),λk b=>.inl b,λk b=>⟨.inr (.inr (.inl b)),λc=>by have:=g k c;omega,by omega⟩,.inr (.inr (.inr rfl)),λc=>by have:=g _ c;omega,λk b=>?_,eD _,λv E=>(by cases E),eD _,eD _,eD _,?_,x,by omega,C,d.good,d.big,
  .live bs rfl (.inr (.inl rfl)) s (by omega) (by omega) (M.sto_kept _ _ _ _ _ n m (λc=>by have:=h _ c;omega)) rfl rfl d⟩
 .rcases b with b|b|b|b;.have:=g k b;omega
  .omega
  .omega
  .omega
 .show (0:Int)+0<=((t+1:Nat):Int);omega
theorem XT(M:za)(A:zL M)(an:∀f,M.Fu f->f≠0)(w:World)(base bp t:Nat)(ones:List (Nat×(Nat->Prop)))(la:Option Addr)(lc:Nat)(F H:Nat->Prop)(a b:Option Addr)(ca cb:Nat)(es vs:List js)(p:qt M w base bp t ones la lc F H a b ca cb es vs)(aa:base<=w.heap.size)(aU:t<=2199023255552)
 (c:yC) (Q:Nat->Prop) (al:c.Ok w Q) (aW:c.C<=0):
 Calls Tryz.prog 56 #[.pointer (some ⟨bp,0,none⟩),.agg #[.int .i64 c.kind,.int .i64 c.A,.int .i64 c.B,.int .i64 c.C,.string c.S,.string c.P,.slice c.la c.l.length c.lc,.slice c.ka c.ks.length c.kc]] w λe w'=>e=.returned (.bool true)/\ju M w' base bp (t+1)/\Kept (λk=>base<=k) w w':=by
 have k0:Kept (λ_=>False) w (w.alloc (.cells #[.int .i64 c.kind,.int .i64 c.A,.int .i64 c.B,.int .i64 c.C,.string c.S,.string c.P,.slice c.la c.l.length c.lc,.slice c.ka c.ks.length c.kc] 81)):=Kept.alloc _ _ _;have X:xj (w.alloc (.cells #[.int .i64 c.kind,.int .i64 c.A,.int .i64 c.B,.int .i64 c.C,.string c.S,.string c.P,.slice c.la c.l.length c.lc,.slice c.ka c.ks.length c.kc] 81)) w.heap.size c:=⟨heap_alloc_new w _⟩;have aS:=X.c2;have C:(w.alloc (.cells #[.int .i64 c.kind,.int .i64 c.A,.int .i64 c.B,.int .i64 c.C,.string c.S,.string c.P,.slice c.la c.l.length c.lc,.slice c.ka c.ks.length c.kc] 81)).heap.size=w.heap.size+1:=by simp
 change Hid _ at X al p k0 an C;generalize aL:w.alloc (.cells #[.int .i64 c.kind,.int .i64 c.A,.int .i64 c.B,.int .i64 c.C,.string c.S,.string c.P,.slice c.la c.l.length c.lc,.slice c.ka c.ks.length c.kc] 81)=w0 at*;go_enter Tryz.func56,Tryz.ntmps56;go_wp2_with fail;refine(jU _ c.B al.out.B).mono ?_;rintro e aH ⟨rfl,B,r⟩;rw [C.out] at B ⊢;have ap:=X.kept r (λq=>q);have aM:=ap.c3;change Hid _ at B r ap;by_cases ag:jd c.B<64
 .go_wp2_with fail;refine(A.small _ _ _ _ B (by simpa [Dk.fresh] using ag)).mono ?_;rintro e s ⟨rfl,ad,aj⟩;change Hid _ at ad aj;obtain⟨Z,ac,G,E,u⟩:=ad.out;have I:Hid _:=u;clear u;go_wp2_with fail;refine(ke _ _ _ _ Z ac G E I).mono ?_;rintro e Y ⟨rfl,l⟩;rw [l];clear l Y;have aO:(((Dk.fresh (jd c.B)).bs.length:Nat):Int)<64:=by simp [Dk.fresh];omega
  generalize (Dk.fresh (jd c.B)).bs.length=aV at*;go_wp2;go_ret;exact⟨rfl,p.idle ((k0.trans r iL).trans aj iL)⟩
 .go_wp2_with fail
  have v:M.Could (Dk.fresh (jd c.B)) (λaT=>aT=⟨[],0⟩):=by
   have ab:jd c.B<=1000:=by unfold jd;split<;>omega
   exact⟨by simp [Dk.fresh],by simp [Dk.fresh];omega,λks=>⟨_,rfl,M.zeros (jd c.B) (by omega) ab⟩⟩
  refine(A.big _ _ _ _ _ B v M.fu_neg (by simp [Dk.fresh]) (by simp [Dk.fresh])).mono ?_;rintro e s ⟨L,aD,i,ar⟩;rcases ar with⟨bs,V,rfl,hbs,T,y,rfl,J⟩|⟨_,U,_⟩
  .have n:=(k0.trans r iL).trans i.kept (λk d=>.inr (by rcases d with d|d<;>omega));have ax:=(p.book.head.kept n (λq=>q)).c.1;have U:=(p.book.head.kept n (λq=>q)).c.2.2.2 0;have N:=(p.book.head.kept n (λq=>q)).lt;have ae:L.bs.length=jd c.B:=by have:=i.size;simpa [Dk.fresh] using this
   have au:0<=L.reads:=by have:=i.reads0;simpa [Dk.fresh] using this
   have aG:L.reads<=2*L.bs.length:=by have:=i.reads1;rw [ae];simpa [Dk.fresh] using this
   have aJ:=i.disk.ok.few;have aN:(64:Int)<=L.bs.length:=by omega
   have z:=n.owns p.row nF;have m:Hid _:=i;have ao:Hid _:=(⟨hbs,T⟩:_/\_);obtain⟨W,ah,ak,am,af⟩:=qU Tryz.infoPone;have K:Hid (Tryz.prog.info? 120=some W/\W.zero=some (.pointer none)/\W.size=1/\W.bytes=8):=⟨ah,ak,am,af⟩;have aQ:=p.fewO;change Hid _ at z n J y;clear ah ak am af i hbs T ae v ag;obtain⟨Z,ac,G,E,u⟩:=m.disk;have I:Hid _:=u;clear u
   go_wp2_with (first
    |(go_at_call 54;refine(ke _ _ _ _ Z ac G E I).mono ?_;rintro e Y ⟨rfl,l⟩;rw [l];clear l Y)
    |(go_at_call 86;refine(ya _ _ _ _ Z ac G E I).mono ?_;rintro e Y ⟨rfl,l⟩;rw [l];clear l Y)
    |(refine wpList_append_lies _ rfl (.tmp 52) (.tmp 54) 73 rfl 0 120 W _ 1 8 Tryz.underlying73 K.1 K.2.1 K.2.2.1 K.2.2.2 rfl (by omega) (.slice la ones.length lc) ones.length (ones.map λo=>yp o.1) (by rfl) (by exact World.ownsRow.alloc (World.ownsRow.alloc (World.ownsRow.alloc z _) _) _) ⟨s.heap.size+1+1,0,none⟩ 1 1 [yp (s.heap.size+1)] (by rfl) (by rfl) (by exact World.news_of_block (bI s _ _ _)) (by simp [Value.oneCell',yp]) (by omega) (by unfold maxLen;omega) (by omega) (ai _) _ rfl ?_;intro g aI aw D j x aF;have aP:aw.cell? ⟨bp,0,none⟩=some (.slice la ones.length lc):=(j.cell_far ⟨bp,0,none⟩ (by simp;omega) (λe=>(p.rowF bp e.symm).2.2.1 rfl)).trans (((kT (λ_=>False) s _ _ _).cell (a:=⟨bp,0,none⟩) N (λq=>q)).trans ax);have aR:aw.frozen? ⟨bp,0,none⟩=false:=(j.frozen_far ⟨bp,0,none⟩ (by simp;omega) (λe=>(p.rowF bp e.symm).2.2.1 rfl)).trans (((kT (λ_=>False) s _ _ _).frozen (a:=⟨bp,0,none⟩) N (λq=>q)).trans U);change Hid _ at D j x))
   go_ret
   have O:∀k,aD k->w.heap.size<=k:=λk d=>by
    have ab:=r.size;have aE:=C.out;rcases m.foot k d with P|P;.rcases P with P|P<;>omega
    .omega
   have aK:=M.sto_lt _ _ _ y.out;have av:w.heap.size<=bs:=by have ab:=r.size;have aE:=C.out;have P:=ao.1;omega
   have aB:=n.size;have R:∀k,(Value.slice la ones.length lc).ownBlock=some k->k<w.heap.size:=λk d=>(p.row.lt k d).2;have ay:=Kept.grown (S:=λk=>(Value.slice la ones.length lc).ownBlock=some k) j (λk d=>d);have aA:=Bk M aH s aw _ bs w.heap.size aD _ L _ t m.disk ao.2 y J au (by omega) m.fuse ay R O av aB
   refine⟨rfl,(λ(h:_/\_)=>⟨⟨_,_,_,_,_,_,_,_,_,_,_,h.1⟩,h.2⟩) (p.push aa (s.heap.size+1) _ g aI D ((n.mono fE).trans ((kT _ s _ _ _).trans ay iL) iL) (x.imp id (λaz=>by simp at az;omega)) aA (λk d=>by
    have aC:k≠g:=λaz=>by
     rcases x.out with aq|aq
     .have ab:=R g aq;rcases d with d|d|d|d;.have:=O k d;omega
      .omega
      .omega
      .omega
     .simp at aq;rcases d with d|d|d|d;.have:=m.disk.lt k d;omega
      .omega
      .omega
      .omega
    refine⟨?_,aC⟩;rcases d with d|d|d|d;.exact O k d
    .omega
    .omega
    .omega))⟩
  .exact absurd U (an _ i.fuse)
end law
end Go.Proofs.YtcoengihaobddaaGreatDoor
