/- Part 7 of 36 of a proof: Law5, Law15, Law14, Law6, Law17 -/
import Derived.Test.YtcoengihaobddaaGreatDoorJc06
set_option maxHeartbeats 8000000
set_option linter.unusedVariables false
set_option linter.unusedSimpArgs false
set_option maxRecDepth 8000
namespace Go.Proofs.YtcoengihaobddaaGreatDoor
namespace law
open Go.ChangeShapes Go.WideShapes Go.ChangeAt Go.RowKit disk ref book
open keys (zh ze zy zs zq)
variable {w:World}{b:Nat}{o:xk}
structure xg (w:World) (b:Nat) (o:xk):Prop where
 at_:w.heap[b]? =some (.cells #[.int .i64 o.kind,.int .i64 o.A,.int .i64 o.B,.int .i64 o.C,.string o.S,.string o.P,.slice o.la o.l.length o.lc,.slice o.ka o.ks.length o.kc] 81 (0,0))
theorem xg.lt(h:xg w b o):b<w.heap.size:=(lT h.at_)
theorem xg.kept{w':World}{T:Nat->Prop}(h:xg w b o)(k:za T w w')(a:¬T b):xg w' b o:=⟨(k.block b h.lt a).trans h.at_⟩
theorem xg.c0(h:xg w b o):w.cell? ⟨b,0,none⟩=some (.int .i64 o.kind):=cR h.at_ rfl
theorem xg.c1(h:xg w b o):w.cell? ⟨b,1,none⟩=some (.int .i64 o.A):=cR h.at_ rfl
theorem xg.c2(h:xg w b o):w.cell? ⟨b,2,none⟩=some (.int .i64 o.B):=cR h.at_ rfl
theorem xg.c3(h:xg w b o):w.cell? ⟨b,3,none⟩=some (.int .i64 o.C):=cR h.at_ rfl
theorem xg.c4(h:xg w b o):w.cell? ⟨b,4,none⟩=some (.string o.S):=cR h.at_ rfl
theorem xg.c5(h:xg w b o):w.cell? ⟨b,5,none⟩=some (.string o.P):=cR h.at_ rfl
theorem xg.c6(h:xg w b o):w.cell? ⟨b,6,none⟩=some (.slice o.la o.l.length o.lc):=cR h.at_ rfl
theorem xg.c7(h:xg w b o):w.cell? ⟨b,7,none⟩=some (.slice o.ka o.ks.length o.kc):=cR h.at_ rfl
structure KW (B:Nat) (wx:World) (bo:Nat) (h:zQ) (bd:Nat) (D2:Dk) (S2 R:Nat->Prop) (ib:Nat) (V:qq) (last:Int) (od:xk) (Q:Nat->Prop):Prop where
 head:zp wx bo h
 disk:zg wx bd S2 D2
 ref:zG wx R R ib V.vs last
 box:xg wx B od
 op:od.Ok wx Q
 lt:B<wx.heap.size
 hbo:bo<B
 hR:∀k,R k->k<B
 hQ:∀k,Q k->k<B
 hSb:¬S2 bo
theorem KW.kept{B:Nat}{j wy:World}{bo:Nat}{h:zQ}{bd:Nat}{l:Dk}{e n:Nat->Prop}{f:Nat}{V:qq}{d:Int}{g:xk}{Q T:Nat->Prop}(m:KW B j bo h bd l e n f V d g Q)(k:za T j wy)(c:∀k,T k->B<k/\¬e k):KW B wy bo h bd l e n f V d g Q:=
 ⟨m.head.kept k (λa=>by have:=(c _ a).1;have:=m.hbo;omega),m.disk.kept k (λi b a=>(c i a).2 b),m.ref.kept k (λi b a=>by have:=(c i a).1;have:=m.hR i b;omega) (λi b a=>by have:=(c i a).1;have:=m.hR i b;omega),
  m.box.kept k (λa=>by have:=(c _ a).1;omega),m.op.kept k (λi b a=>by have:=(c i a).1;have:=m.hQ i b;omega),ay m.lt k.size,m.hbo,m.hR,m.hQ,m.hSb⟩
theorem gA{M:zd}{b r:World}{X:Nat->Prop}{bo t:Nat}{h:zQ}{bd:Nat}{D x:Dk}{S y B:Nat->Prop}{z:Nat}{V:qq}{g:Int}{q:xk}{Q:Nat->Prop}{bs:Nat}{p:Int}(o:yw M b X bo t h bd D S B z V g)(l:∀k,X k->k<w.heap.size)(A:xg b w.heap.size q)(u:q.Ok b Q)(m:∀k,Q k->¬X k/\k<w.heap.size)(C:w.heap.size<b.heap.size)
 (f:yV M b.drew r bd bs S y D x p) (c:X bs/\¬S bs/\¬B bs/\bs≠bo):KW w.heap.size r bo h bd x y B z V g q Q:=by
 have j:za (λk=>S k\/k=bs) b r:=(za.drew _ b).trans f.kept iL;have s:=l bo o.bX;refine⟨o.head.kept j (λa=>a.elim o.bS (λe=>c.2.2.2 e.symm)),f.disk,o.ref.kept j (λi d a=>?_) (λi d a=>?_),A.kept j (λa=>?_),u.kept j (λi d a=>?_),ay C j.size,s,λk n=>l k (o.rX k n).1,λk n=>(m k n).2,λa=>?_⟩
 .rcases a with a|a;.exact(o.rX i d).2.1 a
  .exact c.2.2.1 (by rw [<-a];exact d)
 .rcases a with a|a;.exact(o.rX i d).2.1 a
  .exact c.2.2.1 (by rw [<-a];exact d)
 .rcases a with a|a;.have:=l _ (o.sX _ a);omega
  .have:=l _ c.1;omega
 .rcases a with a|a;.exact(m i d).1 (o.sX i a)
  .exact(m i d).1 (by rw [a];exact c.1)
 .rcases f.foot bo a with v|v;.exact o.bS v
  .have h2:b.drew.heap.size=b.heap.size:=rfl;omega
theorem UJ(M:zd)(A:xo M)(w:World)(X:Nat->Prop)(bo t:Nat)(h:zQ)(bd:Nat)(D:Dk)(S ay:Nat->Prop)(aj:Nat)(V:qq)(j:Int)(f:yw M w X bo t h bd D S ay aj V j)(bT:t<=2199023255552)(bs:Nat)(hbs:h.s=qu bs)
 (a:xk) (Q:Nat->Prop) (ao:a.Ok w Q) (bk:∀k,Q k->¬X k/\k<w.heap.size):
 Calls Tryz.prog 60 #[.pointer (some ⟨bo,0,none⟩),.agg #[.int .i64 a.kind,.int .i64 a.A,.int .i64 a.B,.int .i64 a.C,.string a.S,.string a.P,.slice a.la a.l.length a.lc,.slice a.ka a.ks.length a.kc]] w λe w'=>Stepped M w w' X bo t e:=by
 have s:=f.xlt;have k0:za (λ_=>False) w (w.alloc (.cells #[.int .i64 a.kind,.int .i64 a.A,.int .i64 a.B,.int .i64 a.C,.string a.S,.string a.P,.slice a.la a.l.length a.lc,.slice a.ka a.ks.length a.kc] 81)):=za.alloc _ _ _;have a4:xg (w.alloc (.cells #[.int .i64 a.kind,.int .i64 a.A,.int .i64 a.B,.int .i64 a.C,.string a.S,.string a.P,.slice a.la a.l.length a.lc,.slice a.ka a.ks.length a.kc] 81)) w.heap.size a:=⟨ac w _⟩;have ax:=ao.kept k0 nF;have aC:=f.kept k0 nF;have R:=ao.len;have bD:=s bo f.bX;change Hid _ at a4 ax aC f ao bk hbs s k0;go_enter Tryz.func60,Tryz.ntmps60;go_wp2_with fail;refine(Vd _ Q a.la a.lc a.l ax.l R).mono ?_;rintro e F ⟨aq,ag,rfl,ba,L⟩;have i:=aC.kept L nF;have aD:=a4.kept L (λbC=>bC);have al:=i.head.c0;rw [i.hd] at al;unfold qu at al;have bb:=i.head.c1;rw [hbs.out] at bb;unfold qu at bb;have aH:=aD.c4;have x:je F (w.heap.size+1) a.la a.l aq ag:=by simpa using ba
 change Hid _ at x;change Hid _ at i aD L;clear ba;go_wp2_with fail;obtain⟨bJ,bE,bt,bq,a2⟩:=i.disk;refine(qE _ bd S D bJ bE bt bq a2).mono ?_;rintro e ab ⟨rfl,q⟩;rw [q];clear q ab a2;go_wp2_with fail;have aQ:=aD.lt;have bm:Hid _:=ax.kept L nF;go_region_held3 (λw'=>w'.cell? ⟨bo,1,none⟩=some (.pointer (some ⟨bs,0,none⟩))/\w'.cell? ⟨w.heap.size,4,none⟩=some (.string a.S)) (go_keep) ((go_at_call 27;refine(UI M A _ X bo t h bd D S ay aj V j (by exact i.kept (za.drew (λ_=>False) F) nF) (by omega) bs hbs a.S ao.out.S aq ag a.l (λk=>w.heap.size+1<=k) (by exact(je.bytes x).kept (za.drew (λ_=>False) F) nF) (λk d b=>by have:=s.out k b;omega) (by omega) (je.cap x).1 (je.cap x).2).mono ?_;rintro e av ⟨aO,aa,c,n,rfl,l,W,aX,a9,a3,a8,aU⟩;have aA:Hid _:=(⟨a9,a3,a8,aU⟩:X bs/\¬S bs/\¬ay bs/\bs≠bo);change Hid _ at l W aX;clear a9 a3 a8 aU;have N:Hid _:=gA i s aD bm bk aQ l aA.out;have aW:=N.head.c1;rw [hbs.out] at aW;unfold qu at aW;have bG:=N.box.c4))
 all_goals
  have aI:=N.out;have y:∀k,aa k->k<w.heap.size\/F.heap.size<=k:=λk d=>(l.foot k d).imp (λh=>s k (i.sX k h)) (λh=>h);have U:∀k,aa k->k<av.heap.size:=λk d=>l.disk.lt k d
  have ah:∀g,(Value.slice aq a.l.length ag).ownBlock=some g->w.heap.size<g/\g<F.heap.size:=λg aE=>by
   rcases x.out with⟨_,_,J,_⟩|⟨bV,bU,_,J,h2,bw⟩;.rw [J] at aE;cases aE
   .rw [J] at aE;simp [Value.ownBlock] at aE;obtain⟨_,bO,bI,_⟩:=bw;have:=(lT bI);omega
  have aS:je av (w.heap.size+1) a.la a.l aq ag:=je.kept x ((za.drew _ F).trans l.kept iL) (λg aE b=>by
   have J:=ah g aE;rcases b with b|b;.have:=s.out g (i.sX g b);omega
   .have:=s.out _ aA.1;omega)
  have bF:F.heap.size<=av.heap.size:=l.kept.size;have al:=aI.head.c0;rw [i.hd] at al;unfold qu at al;have aZ:=aI.box.c6;have bf:Hid (je av (w.heap.size+1) a.la a.l aq ag):=aS;change Hid _ at y U ah;clear aI aS;go_wp2_with fail;obtain⟨br,bu,bi,bg,aF⟩:=N.disk;refine(qE _ bd aa aO br bu bi bg aF).mono ?_;rintro e ab ⟨rfl,q⟩;rw [q];clear q ab aF;go_wp2_with fail;refine(ZF _ Q (w.heap.size+1) a.la a.lc a.l N.op.l R aq ag bf (λk d=>by have:=(bk k d).2;omega)).mono ?_;rintro e B ⟨rfl,an⟩
  have O:=N.kept an (λk d=>by
   have J:=ah.out k d
   exact⟨J.1,λb=>by have:=y.out k b;omega⟩)
  have bM:=an.size;have aZ:=O.box.c6;have aH:=O.box.c4;have a5:=O.head.c2;rw [i.his] at a5;unfold qu at a5;change Hid _ at O an;go_wp2_with fail;refine(Zt _ a.S ao.out.S a.la a.l.length a.lc).mono ?_;rintro e ab ⟨rfl,q⟩;rw [q];clear q ab;generalize ae:fR (zq a.S.data.toList) a.l.length=Z at*;change Hid _ at ae;have aY:=f.good.few;go_wp2_with fail;refine(uy _ ay ay aj V.vs j O.ref (by omega)).mono ?_;rintro e bH ⟨rfl,a6,ar⟩;have K:=O.kept ar fE;have bS:=ar.size;have aZ:=K.box.c6;have aH:=K.box.c4;have bp:Hid (zG bH (λk=>B.heap.size<=k) ay B.heap.size V.vs j):=a6;change Hid _ at K ar;clear a6;go_wp2_with fail;refine(di _ (λk=>B.heap.size<=k) ay Q B.heap.size V.vs j bp (λk d b=>by have:=K.hR k b;omega) (by omega) a.S n false a.la a.lc a.l K.op.l (by omega)).mono ?_;rintro e a1 ⟨rfl,aM,am⟩;have r:=K.kept am (λk d=>⟨by have bn:=d;omega,λb=>by have:=U.out k b;have bn:=d;omega⟩);have bQ:=am.size;have aZ:=r.box.c6;have aH:=r.box.c4;change Hid _ at r aM am;have aV:=f.told0;have E:=f.died0;have bP:=f.tt;go_wp2_with fail;refine(uA _ bo h r.head aj f.his ay ay V.vs j r.ref n aV (by omega) E (by omega)).mono ?_;rintro e ab ⟨rfl,bW,q⟩;rw [q];clear q ab;have bN:=f.last0;have bB:=f.n0t;have bK:=l.reads0;have bx:=l.reads1
  have az:c=0->ZA n j h.told h.died=true:=λb=>by have:=aX.out;rw [aB b] at this;unfold ZA;exact aJ (by omega)
  have Y:c≠0->n=0:=λb=>by have:=aX.out;rw [aw b] at this;exact this
  generalize ZA n j h.told h.died=bR at*;have ad:=λbv bA bL=>W.case l.size (.pointer (some ⟨B.heap.size,0,none⟩)) (max j n) a.S 0 false bv bA bL;change Hid _ at ad;have a7:(yP a.l.length:Int)<=1125899906842624:=by unfold yP;omega
  by_cases b:c=0
  .have bz:(c !=0)=false:=by simpa using b
   have a0:=az b;subst a0;clear b az Y;go_wp2_with fail
   go_region_held3 (λw'=>w'.cell? ⟨w.heap.size,4,none⟩=some (.string a.S)/\w'.cell? ⟨w.heap.size,6,none⟩=some (.slice a.la a.l.length a.lc)) (go_keep) ((first
    |(go_at_call 98;refine(xK _ _ (by omega) (by omega)).mono ?_;rintro e ab ⟨rfl,rfl⟩)
    |(go_at_call 99;refine(Zx _ Q a.la a.lc a.l (by exact(r.kept (T:=λ_=>False) kD fE).op.l) R).mono ?_;rintro e C ⟨I,z,rfl,u,p,v⟩;have H:Hid (za (λ_=>False) a1 C):=⟨p.os,p.tape,p.output,p.size,p.block⟩;have aP:Hid (C.ownsRow 0 5 1 (.slice I a.l.length z) a.l.length (a.l.map qA)):=u;have aK:Hid (∀k,(Value.slice I a.l.length z).ownBlock=some k->a1.heap.size<=k):=v;have m:Hid _:=r.kept H fE;have be:=m.box.c4;have bc:=m.box.c6;have af:Hid _:=zG.kept aM H nF nF;clear u p v;obtain⟨h',ak⟩:=ad.out I a.l.length z;have au:Hid _:=ak;clear ak)
    |(go_at_call 97;refine(xT _ bo h (by exact(m.kept (T:=λ_=>False) kD fE).head) bd f.hd aa aO (by exact(m.kept (T:=λ_=>False) kD fE).disk) aj f.his ay ay V.vs j (by exact(m.kept (T:=λ_=>False) kD fE).ref) aY f.good.body c Z _ (by omega) (by have:=a7;omega) B.heap.size a.S 0 false I a.l.length z _ _ _ _ (by exact zG.kept (T:=λ_=>False) af kD nF nF) (by omega) r.hSb E (by omega) h' (by exact au)).mono ?_;rintro e P ⟨rfl,ai,ap,o⟩;have aL:Hid _:=ai;have aN:Hid _:=ap;have G:Hid (za (λk=>k=bo\/aa k) C P):=⟨o.os,o.tape,o.output,o.size,o.block⟩;have bj:P.cell? ⟨w.heap.size,4,none⟩=some (.string a.S):=(m.box.kept G (λb=>b.elim (λe=>by omega) (λb=>by have:=y.out _ b;omega))).c4;have bl:P.cell? ⟨w.heap.size,6,none⟩=some (.slice a.la a.l.length a.lc):=(m.box.kept G (λb=>b.elim (λe=>by omega) (λb=>by have:=y.out _ b;omega))).c6;clear ai ap o)))
   go_wp2;go_ret;have aG:za (λk=>(Value.slice aq a.l.length ag).ownBlock=some k\/B.heap.size<=k) av C:=(((an.mono iL).trans ar fE).trans am (λk d=>.inl (.inr d))).trans H fE
   have aT:=uB M w F.drew av C P X bo t h bd D aO S aa ay aj V j f bs hbs ((k0.trans L iL).trans (za.drew _ F) iL) aQ l aA a.S false a.l Z c (λaR bh=>by
    have:=ae.out;rw [bh,kF,aR] at this
    simp [fR] at this) (yP a.l.length) (by unfold yP;omega) W n aX _ aG (λk d=>by
    rcases d with d|d
    .have J:=ah.out k d;exact⟨J.1,λb=>by have:=y.out k b;omega⟩
    .exact⟨by omega,λb=>by have:=U.out k b;omega⟩) G B.heap.size I z h' aL aN au _ _ af (λk d=>by rcases d with d|d<;>omega) (λk d=>d.imp id (λd=>by omega)) (zL.of_own 5 aP rfl _ (λk d=>by have:=aK.out k d;omega))
   exact⟨ze (aJ (by omega)),aT.1,aT.2⟩
  .have bz:(c !=0)=true:=by simpa using b
   have a0:=Y b;have bX:(n==0)=true:=by simpa using a0
   clear b az Y a0;go_wp2_with fail
   go_region_held3 (λw'=>w'.cell? ⟨w.heap.size,4,none⟩=some (.string a.S)/\w'.cell? ⟨w.heap.size,6,none⟩=some (.slice a.la a.l.length a.lc)) (go_keep) ((first
    |(go_at_call 98;refine(xK _ _ (by omega) (by omega)).mono ?_;rintro e ab ⟨rfl,rfl⟩)
    |(go_at_call 99;refine(Zx _ Q a.la a.lc a.l (by exact(r.kept (T:=λ_=>False) kD fE).op.l) R).mono ?_;rintro e C ⟨I,z,rfl,u,p,v⟩;have H:Hid (za (λ_=>False) a1 C):=⟨p.os,p.tape,p.output,p.size,p.block⟩;have aP:Hid (C.ownsRow 0 5 1 (.slice I a.l.length z) a.l.length (a.l.map qA)):=u;have aK:Hid (∀k,(Value.slice I a.l.length z).ownBlock=some k->a1.heap.size<=k):=v;have m:Hid _:=r.kept H fE;have be:=m.box.c4;have bc:=m.box.c6;have af:Hid _:=zG.kept aM H nF nF;clear u p v;obtain⟨h',ak⟩:=ad.out I a.l.length z;have au:Hid _:=ak;clear ak)
    |(go_at_call 97;refine(xT _ bo h (by exact(m.kept (T:=λ_=>False) kD fE).head) bd f.hd aa aO (by exact(m.kept (T:=λ_=>False) kD fE).disk) aj f.his ay ay V.vs j (by exact(m.kept (T:=λ_=>False) kD fE).ref) aY f.good.body c Z _ (by omega) (by have:=a7;omega) B.heap.size a.S 0 false I a.l.length z _ _ _ _ (by exact zG.kept (T:=λ_=>False) af kD nF nF) (by omega) r.hSb E (by omega) h' (by exact au)).mono ?_;rintro e P ⟨rfl,ai,ap,o⟩;have aL:Hid _:=ai;have aN:Hid _:=ap;have G:Hid (za (λk=>k=bo\/aa k) C P):=⟨o.os,o.tape,o.output,o.size,o.block⟩;have bj:P.cell? ⟨w.heap.size,4,none⟩=some (.string a.S):=(m.box.kept G (λb=>b.elim (λe=>by omega) (λb=>by have:=y.out _ b;omega))).c4;have bl:P.cell? ⟨w.heap.size,6,none⟩=some (.slice a.la a.l.length a.lc):=(m.box.kept G (λb=>b.elim (λe=>by omega) (λb=>by have:=y.out _ b;omega))).c6;clear ai ap o)))
   go_wp2;go_ret;have aG:za (λk=>(Value.slice aq a.l.length ag).ownBlock=some k\/B.heap.size<=k) av C:=(((an.mono iL).trans ar fE).trans am (λk d=>.inl (.inr d))).trans H fE
   have aT:=uB M w F.drew av C P X bo t h bd D aO S aa ay aj V j f bs hbs ((k0.trans L iL).trans (za.drew _ F) iL) aQ l aA a.S false a.l Z c (λaR bh=>by
    have:=ae.out;rw [bh,kF,aR] at this
    simp [fR] at this) (yP a.l.length) (by unfold yP;omega) W n aX _ aG (λk d=>by
    rcases d with d|d
    .have J:=ah.out k d;exact⟨J.1,λb=>by have:=y.out k b;omega⟩
    .exact⟨by omega,λb=>by have:=U.out k b;omega⟩) G B.heap.size I z h' aL aN au _ _ af (λk d=>by rcases d with d|d<;>omega) (λk d=>d.imp id (λd=>by omega)) (zL.of_own 5 aP rfl _ (λk d=>by have:=aK.out k d;omega))
   exact⟨ze (aJ (by omega)),aT.1,aT.2⟩
structure jY (M:zd):Prop where
 live:∀(w:World) (bd bs:Nat) (S:Nat->Prop) (D:Dk) (V:qq) (key:ByteArray) (num:Int),xI M w bd bs S D V->key.size<=maxLen->zD num->
  Calls Tryz.prog 31 #[.pointer (some ⟨bs,0,none⟩),.string key,.int .i64 num] w λe w'=>∃D' S' c q,e=.returned (.int .i64 c)/\bY M w w' bd bs S S' D D' 40 q/\
   Chg M D D' V (V.sub key num) bd (Y5 (zq key.data.toList) (yl V.vs key num)) c 0 q
 shut:∀(w:World) (bs:Nat) (key:ByteArray) (num:Int),M.Sto w bs none->key.size<=maxLen->
  Calls Tryz.prog 31 #[.pointer (some ⟨bs,0,none⟩),.string key,.int .i64 num] w λe w'=>e=.returned (.int .i64 (if zq key.data.toList=true then 8 else 2))/\M.Sto w' bs none/\za (λk=>k=bs) w w'
theorem J1(k:Bool)(o:Option zB):yo true (Y5 k o)=if k=true then 8 else 2:=by cases k<;>cases o<;>rfl
theorem J2(M:zd)(A:jY M)(w:World)(X:Nat->Prop)(bo t:Nat)(h:zQ)(bd:Nat)(D:Dk)(S B:Nat->Prop)(x:Nat)(V:qq)(n:Int)(o:yw M w X bo t h bd D S B x V n)(F:t<=4398046511104)(bs:Nat)(hbs:h.s=qu bs)
 (a:ByteArray) (g:a.size<=maxLen) (b:Int) (u:zD b):
 Calls Tryz.prog 31 #[.pointer (some ⟨bs,0,none⟩),.string a,.int .i64 b] w λe w'=>∃D' S' c,e=.returned (.int .i64 c)/\yV M w w' bd bs S S' D D'/\
  yU M w' bs bd h D D' V (V.sub a b) (Y5 (zq a.data.toList) (yl V.vs a b)) c 0/\X bs/\¬S bs/\¬B bs/\bs≠bo:=by
 have E:=o.n0t;have C:=o.tt
 cases o.st using qI.elim with
 |live f d p l v s j shut mb live=>
  have e:f=bs:=by rw [d] at hbs;unfold qu at hbs;simpa using hbs
  subst e;refine(A.live w bd f S D V a b ⟨o.disk,l,j,live,o.fu,o.reads0,by have:=o.reads1;omega,by omega⟩ g u).mono ?_;rintro e w' ⟨D',S',c,q,r,h2,m⟩;exact⟨D',S',c,r,⟨h2.disk,h2.foot,h2.kept,h2.reads0,h2.reads1,h2.size,h2.fuse⟩,.live q shut h2.sto m,p,l,v,s⟩
 |shut f d p l v s j shut torn=>
  have e:f=bs:=by rw [d] at hbs;unfold qu at hbs;simpa using hbs
  subst e;refine(A.shut w f a b j g).mono ?_;rintro e w' ⟨r,h2,m⟩;exact⟨D,S,_,r,⟨o.disk.kept m (λi y z=>l (by rw [<-z];exact y)),λk g=>.inl g,m.mono (λk g=>.inr g),by omega,by omega,rfl,o.fu⟩,.shut shut h2 (J1 _ _).symm rfl,p,l,v,s⟩
 |gone d torn=>rw [d] at hbs;cases hbs
theorem fB:∀(vs:List zB) (k:ByteArray) (n:Int),jp vs->(∃v∈vs,v.key=k/\v.num=n)->(ym vs k n).length+1=vs.length
 |[],k,n,_,⟨v,b,_⟩=>by cases b
 |u::vs,k,n,ha,⟨v,b,h1,h2⟩=>by
  unfold jp at ha;rw [aL] at ha;unfold ym;rw [eX];by_cases a:u.key=k/\u.num=n
  .have c:(!(decide (u.key=k)&&decide (u.num=n)))=false:=by simp [a.1,a.2]
   rw [c];simp only [lS,if_false,ae,Nat.add_right_cancel_iff];rw [eU.2];intro g h;have:=ha.1 g h;have e:¬(g.key=k/\g.num=n):=λf=>this ⟨a.1.trans f.1.symm,a.2.trans f.2.symm⟩;rw [iy,i4];simp only [ne_eq,aW,aR];exact e
  .have c:(!(decide (u.key=k)&&decide (u.num=n)))=true:=by
    rw [iy,i4];simp only [ne_eq,aW,aR];exact a
   rw [c,aB rfl]
   have d:v∈vs:=by
    rcases ar.1 b with rfl|b;.exact absurd ⟨h1,h2⟩ a
    .exact b
   have:=fB vs k n ha.2 ⟨v,d,h1,h2⟩;unfold ym at this;simp only [ae];omega
theorem Xa(M:zd)(w aL P aB j:World)(X:Nat->Prop)(bo t:Nat)(h:zQ)(bd:Nat)(D I:Dk)(S B ay:Nat->Prop)(aN:Nat)(V:qq)(l:Int)(a:yw M w X bo t h bd D S ay aN V l)(bs:Nat)(hbs:h.s=qu bs)
 (aQ:za (λ_=>False) w aL) (bf:w.heap.size<aL.heap.size) (g:yV M aL P bd bs S B D I) (i:X bs/\¬S bs/\¬ay bs/\bs≠bo) (z:ByteArray) (s:Int) (W c:Int) (aC:W=0->∃v∈V.vs,v.key=z/\v.num=s)
 (aK:yU M P bs bd h D I V (V.sub z s) W c 0) (T:Nat->Prop) (L:za T P aB) (aM:∀k,T k->w.heap.size<k/\¬B k) (E:za (λk=>k=bo\/B k) aB j)
 (ad:Nat) (h':zQ) (au:zp j bo h') (aZ:∃A,zg j bd A I/\∀k,A k->B k) (O:qL h I V.vs c W 0 (qu ad) l ByteArray.empty 0 false none 0 0 h')
 (a0 aT:Nat->Prop) (aY:zG aB a0 aT ad (ym V.vs z s) l) (aR:∀k,a0 k->P.heap.size<=k) (aX:∀k,aT k->ay k\/P.heap.size<=k):
 (∃X',One M j X' bo (t+1)/\∀k,X' k->X k\/w.heap.size<=k)/\za X w j:=by
 have az:=a.xlt;have bh:=az bo a.bX;have bc:=az bs i.1;have aj:∀k,B k->k<P.heap.size:=λk b=>g.disk.lt k b;have J:=g.foot;have bb:=g.kept.size;have a6:=L.size;have a4:=E.size
 have aJ:¬B bo:=λd=>by
  rcases J bo d with f|f;.exact a.bS f
  .omega
 have an:¬B bs:=λd=>by
  rcases J bs d with f|f;.exact i.2.1 f
  .omega
 have ai:∀k,ay k->k<w.heap.size:=λk b=>az k (a.rX k b).1
 have aP:∀k,ay k->¬B k:=λk b d=>by
  have f:=ai k b;rcases J k d with h2|h2;.exact(a.rX k b).2.1 h2
  .omega
 obtain⟨A,u,aa⟩:=aZ
 have aV:=(((aQ.mono fE).trans g.kept (λk b=>b.elim (λf=>.inl (a.sX k f)) (λf=>.inl (by rw [f];exact i.1)))).trans L (λk b=>.inr (by have:=(aM k b).1;omega))).trans E (λk b=>by
  rcases b with rfl|b;.exact .inl a.bX
  .rcases J k b with f|f;.exact .inl (a.sX k f)
   .exact .inr (by omega))
 refine⟨⟨λk=>X k\/(w.heap.size<=k/\k<j.heap.size),?_,λk b=>b.imp id (λh=>h.1)⟩,aV⟩
 have ak:∀k,ay k->¬(S k\/k=bs):=λk b d=>by
  rcases d with d|d;.exact(a.rX k b).2.1 d
  .exact i.2.2.1 (by rw [<-d];exact b)
 have Q:∀k,ay k->¬T k:=λk b d=>by have:=(aM k d).1;have:=ai k b;omega
 have H:∀k,ay k->¬(k=bo\/B k):=λk b d=>d.elim (a.rX k b).2.2 (aP k b);let R':Nat->Prop:=λk=>ay k\/(P.heap.size<=k/\k<aB.heap.size);have ar:∀k,ay k->k<j.heap.size->R' k:=λk b _=>.inl b;have ag:=((((a.ref.kept aQ nF nF).kept g.kept ak ak).kept L Q Q).kept E H H).mono ar ar
 have p:∀k,R' k->¬(k=bo\/B k):=λk b d=>by
  rcases b with b|b;.exact H k b d
  .rcases d with d|d;.omega
   .have:=aj k d;omega
 have ac:=(aY.mono (F':=R') (G':=R') (λk b ap=>.inr ⟨aR k b,ap⟩) (λk b ap=>(aX k b).imp id (λh=>⟨h,ap⟩))).kept E p p
 have ao:∀k,R' k->(X k\/(w.heap.size<=k/\k<j.heap.size))/\¬A k/\k≠bo:=λk b=>by
  refine⟨?_,λd=>p k b (.inr (aa k d)),λd=>p k b (.inl d)⟩;rcases b with b|b;.exact .inl (a.rX k b).1
  .exact .inr ⟨by omega,by omega⟩
 have m:¬R' bs:=λd=>by
  rcases d with d|d;.exact i.2.2.1 d
  .omega
 have y:∀q,M.Sto P bs q->M.Sto j bs q:=λq a7=>M.sto_kept _ _ _ _ _ (M.sto_kept _ _ _ _ _ a7 L (λd=>by have:=(aM bs d).1;omega)) E (λd=>d.elim i.2.2.2 an)
 have ax:∀k,A k->X k\/(w.heap.size<=k/\k<j.heap.size):=λk b=>by
  have f:=aa k b;rcases J k f with h2|h2;.exact .inl (a.sX k h2)
  .exact .inr ⟨by omega,by have:=aj k f;omega⟩
 have Y:∀k,(X k\/(w.heap.size<=k/\k<j.heap.size))->k<j.heap.size:=λk b=>by
  rcases b with b|b;.have:=az k b;omega
  .exact b.2
 have af:¬A bo:=λd=>aJ (aa bo d);have r:¬A bs:=λd=>an (aa bs d);have aU:=a.tt;have be:=a.reads0;have bg:=a.reads1;have a9:=g.reads0;have a5:=g.reads1;have ae:=a.last0;have aq:=a.n0t;have G:=a.told0;have ab:=a.died0;have a1:=g.size;have ba:=a.big;have a3:=a.good.n0;have am:=a.hd;have aF:=a.his
 have Z:h'=h->qI M j (λk=>X k\/(w.heap.size<=k/\k<j.heap.size)) A R' bo bd h I V l->One M j (λk=>X k\/(w.heap.size<=k/\k<j.heap.size)) bo (t+1):=λe st=>by subst e;exact⟨h',bd,I,A,R',aN,V,l,au,am,aF,u,ag,ax,ao,.inl a.bX,af,Y,ae,a.lastv,G,ab,aq,by omega,by omega,by omega,g.fuse,a.good,by omega,st⟩
 cases aK using yU.elim with
 |shut n F d a2=>
  have e:h'=h:=by
   cases O using qL.elim with
   |shut=>rfl
   |wanted=>rfl
   |space f=>simp [n] at f
   |ok f=>rw [n] at f;cases f
   |dead f=>rw [n] at f;cases f
  refine Z e ?_
  cases a.st using qI.elim with
  |live _ _ _ _ _ _ _ shut=>rw [n] at shut;cases shut
  |gone C=>rw [C] at hbs;cases hbs
  |shut aE C aG aH aD aI ah o torn=>
   exact .shut bs hbs (.inl i.1) r m i.2.2.2 (y _ F) n ((((((torn.kept aQ nF).kept g.kept ak).kept L Q).kept E H).mono ar).reads a2)
 |live q n F aS=>
  have aW:=a.st
  have av:h.mb=.pointer none:=by
   cases aW using qI.elim with
   |live aE C aG aH aD aI ah o mb=>exact mb
   |gone C=>rw [C] at hbs;cases hbs
   |shut aE C aG aH aD aI ah o=>rw [n] at o;cases o
  rcases aS.is with⟨f,h2,U,R⟩|⟨f,h2,U,R⟩|⟨f,h2,U,R,_⟩|⟨f,h2,U,R,a8⟩
  .subst U
   have e:h'=h:=by
    cases O using qL.elim with
    |shut=>rfl
    |wanted=>rfl
    |space=>rfl
    |ok _ x=>exact absurd x f
    |dead _ x=>exact absurd x f
   exact Z e (.live bs hbs (.inl i.1) r m i.2.2.2 (y _ F) n av R)
  .subst U
   have e:h'={h with is:=qu ad}:=by
    cases O using qL.elim with
    |shut K=>rw [n] at K;cases K
    |wanted _ x=>exact absurd f x
    |space _ _ N=>omega
    |ok=>unfold zQ.okd;rw [aw (by omega)]
    |dead _ _ N=>omega
   have aA:=R.good;have aO:∀v,v∈(V.sub z s).vs->v∈V.vs:=λv al=>(ei.1 al).1;subst e;exact⟨_,bd,I,A,R',ad,V.sub z s,l,au,am,rfl,u,ac,ax,ao,.inl a.bX,af,Y,ae,λv al=>a.lastv v (aO v al),G,ab,aq,lC aU (by omega),by omega,by omega,g.fuse,aA,by omega,.live bs hbs (.inl i.1) r m i.2.2.2 (y _ F) n av R⟩
  .subst U
   have e:h'=h:=by
    cases O using qL.elim with
    |shut=>rfl
    |wanted=>rfl
    |space=>rfl
    |ok _ _ N=>omega
    |dead _ _ N=>omega
   exact Z e (.live bs hbs (.inl i.1) r m i.2.2.2 (y _ F) n av R)
  .subst U
   have e:h'={h with shut:=true,mb:=qu ad,k0:=.string ByteArray.empty,k1:=.int .i64 0,k2:=.bool false,k3:=.slice none 0 0,died:=h.died+1}:=by
    cases O using qL.elim with
    |shut K=>rw [n] at K;cases K
    |wanted _ x=>exact absurd f x
    |space _ _ N=>omega
    |ok _ _ N=>omega
    |dead=>rfl
   subst e
   refine⟨_,bd,I,A,R',aN,V,l,au,am,aF,u,ag,ax,ao,.inl a.bX,af,Y,ae,a.lastv,G,?_,?_,?_,by omega,by omega,g.fuse,a.good,by omega,
    .shut bs hbs (.inl i.1) r m i.2.2.2 (y _ F) rfl (.erase ad (ym V.vs z s) 0 false none 0 0 rfl rfl rfl rfl rfl ac (fB V.vs z s a.good.apart (aC f)) (λv al=>(ei.1 al).1) a8)⟩
   .show 0<=h.died+1;omega
   .show V.n0<=h.told+(h.died+1);omega
   .show h.told+(h.died+1)<=((t+1:Nat):Int);omega
theorem Xb(M:zd)(A:jY M)(w:World)(X:Nat->Prop)(bo t:Nat)(h:zQ)(bd:Nat)(D:Dk)(S G:Nat->Prop)(B:Nat)(V:qq)(f:Int)(b:yw M w X bo t h bd D S G B V f)(ba:t<=2199023255552)(bs:Nat)(hbs:h.s=qu bs)
 (a:xk) (Q:Nat->Prop) (u:a.Ok w Q) (aK:∀k,Q k->¬X k/\k<w.heap.size):
 Calls Tryz.prog 62 #[.pointer (some ⟨bo,0,none⟩),.agg #[.int .i64 a.kind,.int .i64 a.A,.int .i64 a.B,.int .i64 a.C,.string a.S,.string a.P,.slice a.la a.l.length a.lc,.slice a.ka a.ks.length a.kc]] w λe w'=>Stepped M w w' X bo t e:=by
 have q:=b.xlt;have k0:za (λ_=>False) w (w.alloc (.cells #[.int .i64 a.kind,.int .i64 a.A,.int .i64 a.B,.int .i64 a.C,.string a.S,.string a.P,.slice a.la a.l.length a.lc,.slice a.ka a.ks.length a.kc] 81)):=za.alloc _ _ _;have E:xg (w.alloc (.cells #[.int .i64 a.kind,.int .i64 a.A,.int .i64 a.B,.int .i64 a.C,.string a.S,.string a.P,.slice a.la a.l.length a.lc,.slice a.ka a.ks.length a.kc] 81)) w.heap.size a:=⟨ac w _⟩;have T:=u.kept k0 nF;have d:=b.kept k0 nF;have W:w.heap.size<(w.alloc (.cells #[.int .i64 a.kind,.int .i64 a.A,.int .i64 a.B,.int .i64 a.C,.string a.S,.string a.P,.slice a.la a.l.length a.lc,.slice a.ka a.ks.length a.kc] 81)).heap.size:=by simp
 have r:=d.head.c0;rw [d.hd] at r;unfold qu at r;have aw:=d.head.c1;rw [hbs] at aw;unfold qu at aw;have a8:=E.c4;have a9:=E.c2;have aV:=q bo b.bX;have R:Hid _:=W;have aA:=b.good.few;change Hid _ at E T d b u aK hbs q k0;clear W;generalize a5:w.alloc (.cells #[.int .i64 a.kind,.int .i64 a.A,.int .i64 a.B,.int .i64 a.C,.string a.S,.string a.P,.slice a.la a.l.length a.lc,.slice a.ka a.ks.length a.kc] 81)=J at*;go_enter Tryz.func62,Tryz.ntmps62;go_wp2_with fail;obtain⟨aS,aY,aH,aF,al⟩:=d.disk;refine(qE _ bd S D aS aY aH aF al).mono ?_;rintro e ai ⟨rfl,m⟩;rw [m];clear m ai al;go_wp2_with fail;go_region_held3 (λw'=>w'.cell? ⟨bo,1,none⟩=some (.pointer (some ⟨bs,0,none⟩))/\w'.cell? ⟨w.heap.size,4,none⟩=some (.string a.S)/\w'.cell? ⟨w.heap.size,2,none⟩=some (.int .i64 a.B)) (go_keep) ((go_at_call 31;refine(J2 M A _ X bo t h bd D S G B V f (by exact d.kept (za.drew (λ_=>False) J) nF) (by omega) bs hbs a.S u.out.S a.B u.out.B).mono ?_;rintro e o ⟨ah,I,c,rfl,N,z,ap,au,an,ad⟩;have j:Hid (yV M J.drew o bd bs S I D ah):=N;have ar:Hid _:=(⟨ap,au,an,ad⟩:X bs/\¬S bs/\¬G bs/\bs≠bo);change Hid _ at z;clear N ap au an ad;have l:Hid _:=gA d q E T aK R j ar.out;have ae:=l.head.c1;rw [hbs.out] at ae;unfold qu at ae;have a2:=l.box.c4;have aQ:=l.box.c2));have r:=l.head.c0;rw [b.hd] at r;unfold qu at r;have x:=l.head.c2;rw [b.his] at x;unfold qu at x;have aC:∀k,I k->k<w.heap.size\/J.heap.size<=k:=λk g=>(j.foot k g).imp (λh=>q k (d.sX k h)) (λh=>h);have y:∀k,I k->k<o.heap.size:=λk g=>j.disk.lt k g;have aZ:J.heap.size<=o.heap.size:=j.kept.size;have W:=R.out;change Hid _ at aC y;go_wp2_with fail;obtain⟨aL,aN,az,ay,U⟩:=l.disk;refine(qE _ bd I ah aL aN az ay U).mono ?_;rintro e ai ⟨rfl,m⟩;rw [m];clear m ai U;go_wp2_with fail;go_region_held3 (λw'=>w'.cell? ⟨bo,2,none⟩=some (.pointer (some ⟨B,0,none⟩))/\w'.cell? ⟨w.heap.size,4,none⟩=some (.string a.S)/\w'.cell? ⟨w.heap.size,2,none⟩=some (.int .i64 a.B)) (go_keep) ((go_at_call 101;refine(dx _ G G B V.vs f (by exact(l.kept (za.drew (λ_=>False) o) fE).ref) (by omega) a.S u.out.S a.B).mono ?_;rintro e ai ⟨rfl,m⟩;subst m));generalize C:Y5 (zq a.S.data.toList) (yl V.vs a.S a.B)=aa at*;change Hid _ at C;have Y:za (λ_=>False) o o.drew:=kD;have ab:Hid _:=l.kept Y fE;have a4:o.heap.size=o.drew.heap.size:=rfl;change Hid _ at Y;generalize o.drew=p at*;have x:=ab.head.c2;rw [b.his] at x;unfold qu at x;go_wp2_with fail;refine(uy _ G G B V.vs f ab.ref (by omega)).mono ?_;rintro e ag ⟨rfl,am,F⟩;have n:=ab.kept F fE;have a6:=F.size;have aT:=n.box.c4;have a1:=n.box.c2;have aD:Hid (zG ag (λk=>p.heap.size<=k) G p.heap.size V.vs f):=am;change Hid _ at n F;clear am;go_wp2_with fail;have O:zG ag (λk=>p.heap.size<=k/\k<ag.heap.size) G p.heap.size V.vs f:=zG.mono aD (λi ax aP=>⟨ax,aP⟩) (λi ax _=>ax);refine(Y7 _ (λk=>p.heap.size<=k/\k<ag.heap.size) G p.heap.size V.vs f O (λk g Z=>by have:=n.hR k Z;omega) (λk g=>g.2) (λk g=>by have:=n.hR k g;have:=n.lt;omega) (by omega) a.S a.B).mono ?_;rintro e a0 ⟨rfl,L,P⟩;have s:=n.kept P (λk g=>⟨by have aB:=g.1;omega,λZ=>by have:=y.out k Z;have aB:=g.1;omega⟩);change Hid _ at s L P;have K:=b.died0;have aM:=b.told0;have a7:=b.tt;have aX:=j.reads0;have aR:=j.reads1;obtain⟨h',af⟩:=z.case j.size (.pointer (some ⟨p.heap.size,0,none⟩)) f ByteArray.empty 0 false none 0 0;change Hid _ at af;clear O;go_wp2_with fail;refine(xT _ bo h s.head bd b.hd I ah s.disk B b.his G G V.vs f s.ref aA b.good.body c aa 0 (by omega) (by omega) p.heap.size ByteArray.empty 0 false none 0 0 _ _ _ _ L (by omega) s.hSb K (by omega) h' af).mono ?_;rintro e aO ⟨rfl,av,aq,aj⟩;change Hid _ at av aq aj;go_wp2;go_ret;have aE:=(((Y.mono fE).trans F fE)).trans P (λk g=>.inl g.1)
 have aI:=Xa M w J.drew o a0 aO X bo t h bd D ah S I G B V f b bs hbs (k0.trans (za.drew _ J) iL) R j ar a.S a.B aa c (λaG=>by
  have H:=C.out;rw [aG] at H;cases ak:zq a.S.data.toList;.rw [ak] at H;simp [Y5] at H
  .rw [ak] at H
   cases ao:yl V.vs a.S a.B with
   |none=>rw [ao] at H;simp [Y5] at H
   |some v=>obtain⟨aW,aU,a3⟩:=jU ao;exact⟨v,a3,aW,aU⟩) z _ aE (λk g=>⟨by omega,λZ=>by have:=y.out k Z;omega⟩) aj p.heap.size h' av aq af _ _ L (λk g=>by rcases g with g|g<;>omega) (λk g=>.inl g)
 exact⟨ze (aJ (by omega)),aI.1,aI.2⟩
structure dC (M:zd):Prop where
 live:∀(w:World) (bd bs:Nat) (S:Nat->Prop) (D:Dk) (V:qq) (key:ByteArray),xI M w bd bs S D V->key.size<=maxLen->
  Calls Tryz.prog 30 #[.pointer (some ⟨bs,0,none⟩),.string key] w λe w'=>∃D' S' c n q,e=.returned (.tuple #[.int .i64 n,.int .i64 c])/\bY M w w' bd bs S S' D D' 40 q/\
   Chg M D D' V (V.add key true []) bd (qT (zq key.data.toList) (vV V.vs key)) c 1 q/\n=if c=0 then V.n0+1 else 0
 shut:∀(w:World) (bs:Nat) (key:ByteArray),M.Sto w bs none->key.size<=maxLen->
  Calls Tryz.prog 30 #[.pointer (some ⟨bs,0,none⟩),.string key] w λe w'=>e=.returned (.tuple #[.int .i64 0,.int .i64 (if zq key.data.toList=true then 8 else 2)])/\M.Sto w' bs none/\za (λk=>k=bs) w w'
theorem J3(k b:Bool):yo true (qT k b)=if k=true then 8 else 2:=by cases k<;>cases b<;>rfl
theorem Xc(M:zd)(A:dC M)(w:World)(X:Nat->Prop)(bo t:Nat)(h:zQ)(bd:Nat)(D:Dk)(S B:Nat->Prop)(x:Nat)(V:qq)(m:Int)(o:yw M w X bo t h bd D S B x V m)(F:t<=4398046511104)(bs:Nat)(hbs:h.s=qu bs)
 (a:ByteArray) (f:a.size<=maxLen):
 Calls Tryz.prog 30 #[.pointer (some ⟨bs,0,none⟩),.string a] w λe w'=>∃D' S' c n,e=.returned (.tuple #[.int .i64 n,.int .i64 c])/\yV M w w' bd bs S S' D D'/\
  yU M w' bs bd h D D' V (V.add a true []) (qT (zq a.data.toList) (vV V.vs a)) c 1/\n=(if c=0 then V.n0+1 else 0)/\X bs/\¬S bs/\¬B bs/\bs≠bo:=by
 have E:=o.n0t;have C:=o.tt
 cases o.st using qI.elim with
 |live d b p j u s g shut mb live=>
  have e:d=bs:=by rw [b] at hbs;unfold qu at hbs;simpa using hbs
  subst e;refine(A.live w bd d S D V a ⟨o.disk,j,g,live,o.fu,o.reads0,by have:=o.reads1;omega,by omega⟩ f).mono ?_;rintro e w' ⟨D',S',c,n,q,r,h2,l,v⟩;exact⟨D',S',c,n,r,⟨h2.disk,h2.foot,h2.kept,h2.reads0,h2.reads1,h2.size,h2.fuse⟩,.live q shut h2.sto l,v,p,j,u,s⟩
 |shut d b p j u s g shut torn=>
  have e:d=bs:=by rw [b] at hbs;unfold qu at hbs;simpa using hbs
  subst e;refine(A.shut w d a g f).mono ?_;rintro e w' ⟨r,h2,l⟩;refine⟨D,S,_,0,r,⟨o.disk.kept l (λi y z=>j (by rw [<-z];exact y)),λk f=>.inl f,l.mono (λk f=>.inr f),by omega,by omega,rfl,o.fu⟩,.shut shut h2 (J3 _ _).symm rfl,?_,p,j,u,s⟩;rw [aw];split<;>omega
 |gone b torn=>rw [b] at hbs;cases hbs
theorem Qs(M:zd)(A:dC M)(w:World)(X:Nat->Prop)(bo t:Nat)(h:zQ)(bd:Nat)(D:Dk)(S J:Nat->Prop)(u:Nat)(V:qq)(d:Int)(b:yw M w X bo t h bd D S J u V d)(bh:t<=2199023255552)(bs:Nat)(hbs:h.s=qu bs)
 (a:xk) (Q:Nat->Prop) (af:a.Ok w Q) (aU:∀k,Q k->¬X k/\k<w.heap.size):
 Calls Tryz.prog 61 #[.pointer (some ⟨bo,0,none⟩),.agg #[.int .i64 a.kind,.int .i64 a.A,.int .i64 a.B,.int .i64 a.C,.string a.S,.string a.P,.slice a.la a.l.length a.lc,.slice a.ka a.ks.length a.kc]] w λe w'=>Stepped M w w' X bo t e:=by
 have G:=b.xlt;have k0:za (λ_=>False) w (w.alloc (.cells #[.int .i64 a.kind,.int .i64 a.A,.int .i64 a.B,.int .i64 a.C,.string a.S,.string a.P,.slice a.la a.l.length a.lc,.slice a.ka a.ks.length a.kc] 81)):=za.alloc _ _ _;have au:xg (w.alloc (.cells #[.int .i64 a.kind,.int .i64 a.A,.int .i64 a.B,.int .i64 a.C,.string a.S,.string a.P,.slice a.la a.l.length a.lc,.slice a.ka a.ks.length a.kc] 81)) w.heap.size a:=⟨ac w _⟩;have ai:=af.kept k0 nF;have j:=b.kept k0 nF;have am:w.heap.size<(w.alloc (.cells #[.int .i64 a.kind,.int .i64 a.A,.int .i64 a.B,.int .i64 a.C,.string a.S,.string a.P,.slice a.la a.l.length a.lc,.slice a.ka a.ks.length a.kc] 81)).heap.size:=by simp
 have I:=j.head.c0;rw [j.hd] at I;unfold qu at I;have aK:=j.head.c1;rw [hbs] at aK;unfold qu at aK;have bf:=au.c4;have a3:=G bo b.bX;have ab:Hid _:=am;have aC:=b.good.few;change Hid _ at au ai j b af aU hbs G k0;clear am;generalize bb:w.alloc (.cells #[.int .i64 a.kind,.int .i64 a.A,.int .i64 a.B,.int .i64 a.C,.string a.S,.string a.P,.slice a.la a.l.length a.lc,.slice a.ka a.ks.length a.kc] 81)=R at*;go_enter Tryz.func61,Tryz.ntmps61;go_wp2_with fail;obtain⟨a0,a5,aT,aS,aE⟩:=j.disk;refine(qE _ bd S D a0 a5 aT aS aE).mono ?_;rintro e W ⟨rfl,o⟩;rw [o];clear o W aE;go_wp2_with fail;go_region_held3 (λw'=>w'.cell? ⟨bo,1,none⟩=some (.pointer (some ⟨bs,0,none⟩))/\w'.cell? ⟨w.heap.size,4,none⟩=some (.string a.S)) (go_keep) ((go_at_call 30;refine(Xc M A _ X bo t h bd D S J u V d (by exact j.kept (za.drew (λ_=>False) R) nF) (by omega) bs hbs a.S af.out.S).mono ?_;rintro e r ⟨ag,s,c,n,rfl,ah,z,aA,aH,aI,aG,av⟩;have m:Hid (yV M R.drew r bd bs S s D ag):=ah;have aq:Hid _:=(⟨aH,aI,aG,av⟩:X bs/\¬S bs/\¬J bs/\bs≠bo);change Hid _ at z aA;clear ah aH aI aG av;have q:Hid _:=gA j G au ai aU ab m aq.out;have az:=q.head.c1;rw [hbs.out] at az;unfold qu at az;have a7:=q.box.c4));have I:=q.head.c0;rw [b.hd] at I;unfold qu at I;have P:=q.head.c2;rw [b.his] at P;unfold qu at P;have al:∀k,s k->k<w.heap.size\/R.heap.size<=k:=λk f=>(m.foot k f).imp (λh=>G k (j.sX k h)) (λh=>h);have y:∀k,s k->k<r.heap.size:=λk f=>m.disk.lt k f;have a6:R.heap.size<=r.heap.size:=m.kept.size;have am:=ab.out;change Hid _ at al y;go_wp2_with fail;obtain⟨aV,aW,aN,aL,aj⟩:=q.disk;refine(qE _ bd s ag aV aW aN aL aj).mono ?_;rintro e W ⟨rfl,o⟩;rw [o];clear o W aj;go_wp2_with fail;go_region_held3 (λw'=>w'.cell? ⟨bo,2,none⟩=some (.pointer (some ⟨u,0,none⟩))/\w'.cell? ⟨w.heap.size,4,none⟩=some (.string a.S)) (go_keep) ((go_at_call 100;refine(fS _ J J u V.vs d (by exact(q.kept (za.drew (λ_=>False) r) fE).ref) (by omega) a.S af.out.S).mono ?_;rintro e W ⟨rfl,aP,rfl⟩));generalize F:qT (zq a.S.data.toList) (vV V.vs a.S)=E at*;change Hid _ at F;have ae:za (λ_=>False) r (r.drewN (1+aP)):=kD;have ar:Hid _:=q.kept ae fE;have a9:r.heap.size=(r.drewN (1+aP)).heap.size:=rfl;change Hid _ at ae;generalize r.drewN (1+aP)=C at*;have P:=ar.head.c2;rw [b.his] at P;unfold qu at P;go_wp2_with fail;refine(uy _ J J u V.vs d ar.ref (by omega)).mono ?_;rintro e aX ⟨rfl,aF,N⟩;have ad:=ar.kept N fE;have bc:=N.size;have a1:=ad.box.c4;have aR:Hid (zG aX (λk=>C.heap.size<=k) J C.heap.size V.vs d):=aF;change Hid _ at ad N;clear aF;go_wp2_with fail;refine(di _ (λk=>C.heap.size<=k) J Q C.heap.size V.vs d aR (λk f g=>by have:=ad.hR k g;omega) (by omega) a.S n true none 0 [] (.inl rfl) (by simp)).mono ?_;rintro e v ⟨rfl,H,aa⟩;have i:=ad.kept aa (λk f=>⟨by have aQ:=f;omega,λg=>by have:=y.out k g;have aQ:=f;omega⟩);have a8:=i.box.c4;change Hid _ at i H aa;have ax:=b.told0;have p:=b.died0;have be:=b.tt;go_wp2_with fail;refine(uA _ bo h i.head u b.his J J V.vs d i.ref n ax (by omega) p (by omega)).mono ?_;rintro e W ⟨rfl,x,o⟩;rw [o];clear o W;have ba:=b.last0;have a2:=b.n0t;have a4:=m.reads0;have aY:=m.reads1
 have Z:c=0->ZA n d h.told h.died=true:=λg=>by have:=aA.out;rw [aB g] at this;unfold ZA;exact aJ (by omega)
 have B:c≠0->n=0:=λg=>by have:=aA.out;rw [aw g] at this;exact this
 generalize ZA n d h.told h.died=bg at*;obtain⟨h',U⟩:=z.case m.size (.pointer (some ⟨C.heap.size,0,none⟩)) (max d n) a.S 0 true none 0 0;change Hid _ at U;by_cases g:c=0
 .have aZ:(c !=0)=false:=by simpa using g
  have aD:=Z g;subst aD;clear g Z B;go_wp2_with fail
  go_region_held3 (λw'=>w'.cell? ⟨w.heap.size,4,none⟩=some (.string a.S)) (go_keep) ((first
   |(go_at_call 98;refine(xK _ _ (by omega) (by omega)).mono ?_;rintro e W ⟨rfl,rfl⟩)
   |(go_at_call 97;refine(xT _ bo h (by exact(KW.kept (wy:=v.drewN (x+1)) i (T:=λ_=>False) kD fE).head) bd b.hd s ag (by exact(KW.kept (wy:=v.drewN (x+1)) i (T:=λ_=>False) kD fE).disk) u b.his J J V.vs d (by exact(KW.kept (wy:=v.drewN (x+1)) i (T:=λ_=>False) kD fE).ref) aC b.good.body c E _ (by omega) (by decide) C.heap.size a.S 0 true none 0 0 _ _ _ _ (by exact zG.kept (T:=λ_=>False) H kD nF nF) (by omega) i.hSb p (by omega) h' (by exact U)).mono ?_;rintro e Y ⟨rfl,O,L,l⟩;have ay:Hid _:=O;have ak:Hid _:=L;have K:Hid (za (λk=>k=bo\/s k) v Y):=⟨l.os,l.tape,l.output,l.size,l.block⟩;have aO:Y.cell? ⟨w.heap.size,4,none⟩=some (.string a.S):=(i.box.kept K (λg=>g.elim (λe=>by omega) (λg=>by have:=al.out _ g;omega))).c4;clear O L l)))
  go_wp2;go_ret;have an:=(((ae.mono fE).trans N fE)).trans aa (λk f=>.inl f)
  have ap:=uB M w R.drew r v Y X bo t h bd D ag S s J u V d b bs hbs (k0.trans (za.drew _ R) iL) ab m aq a.S true [] E c (λao aM=>by
   have:=F.out;rw [aM,kF,ao] at this
   simp [qT] at this) 1 (by omega) z n aA _ an (λk f=>⟨by omega,λg=>by have:=y.out k g;omega⟩) K C.heap.size none 0 h' ay ak U _ _ H (λk f=>by rcases f with f|f<;>omega) (λk f=>f.imp id (λf=>by omega)) (.inl rfl)
  exact⟨ze (aJ (by omega)),ap.1,ap.2⟩
 .have aZ:(c !=0)=true:=by simpa using g
  have aD:=B g;have bi:(n==0)=true:=by simpa using aD
  clear g Z B aD;go_wp2_with fail
  go_region_held3 (λw'=>w'.cell? ⟨w.heap.size,4,none⟩=some (.string a.S)) (go_keep) ((first
   |(go_at_call 98;refine(xK _ _ (by omega) (by omega)).mono ?_;rintro e W ⟨rfl,rfl⟩)
   |(go_at_call 97;refine(xT _ bo h (by exact(KW.kept (wy:=v.drewN (x+1)) i (T:=λ_=>False) kD fE).head) bd b.hd s ag (by exact(KW.kept (wy:=v.drewN (x+1)) i (T:=λ_=>False) kD fE).disk) u b.his J J V.vs d (by exact(KW.kept (wy:=v.drewN (x+1)) i (T:=λ_=>False) kD fE).ref) aC b.good.body c E _ (by omega) (by decide) C.heap.size a.S 0 true none 0 0 _ _ _ _ (by exact zG.kept (T:=λ_=>False) H kD nF nF) (by omega) i.hSb p (by omega) h' (by exact U)).mono ?_;rintro e Y ⟨rfl,O,L,l⟩;have ay:Hid _:=O;have ak:Hid _:=L;have K:Hid (za (λk=>k=bo\/s k) v Y):=⟨l.os,l.tape,l.output,l.size,l.block⟩;have aO:Y.cell? ⟨w.heap.size,4,none⟩=some (.string a.S):=(i.box.kept K (λg=>g.elim (λe=>by omega) (λg=>by have:=al.out _ g;omega))).c4;clear O L l)))
  go_wp2;go_ret;have an:=(((ae.mono fE).trans N fE)).trans aa (λk f=>.inl f)
  have ap:=uB M w R.drew r v Y X bo t h bd D ag S s J u V d b bs hbs (k0.trans (za.drew _ R) iL) ab m aq a.S true [] E c (λao aM=>by
   have:=F.out;rw [aM,kF,ao] at this
   simp [qT] at this) 1 (by omega) z n aA _ an (λk f=>⟨by omega,λg=>by have:=y.out k g;omega⟩) K C.heap.size none 0 h' ay ak U _ _ H (λk f=>by rcases f with f|f<;>omega) (λk f=>f.imp id (λf=>by omega)) (.inl rfl)
  exact⟨ze (aJ (by omega)),ap.1,ap.2⟩
end law
namespace law
open Go.RowKit disk ref book
open keys (zq)
variable {M:zd}{w':World}{bs bd:Nat}{h:zQ}{D D':Dk}{V:qq}
structure xq(M:zd)(w':World)(bs bd:Nat)(h:zQ)(D D':Dk)(V:qq):Prop where
 or_:(h.shut=true/\M.Sto w' bs none/\D'={D with reads:=D'.reads })\/h.shut=false/\M.Sto w' bs (some bd)/\M.Live D' V
theorem xq.shut(b:h.shut=true)(a:M.Sto w' bs none)(c:D'={D with reads:=D'.reads }):xq M w' bs bd h D D' V:=⟨.inl ⟨b,a,c⟩⟩
theorem xq.live(c:h.shut=false)(b:M.Sto w' bs (some bd))(a:M.Live D' V):xq M w' bs bd h D D' V:=⟨.inr ⟨c,b,a⟩⟩
theorem xq.elim{motive:xq M w' bs bd h D D' V->Prop}(shut:∀hs sto hD,motive (.shut hs sto hD))(live:∀hs sto live,motive (.live hs sto live))(t:xq M w' bs bd h D D' V):motive t:=by
 rcases t with⟨⟨a,b,d⟩|⟨a,b,d⟩⟩;.exact shut a b d
 .exact live a b d
structure Told (w w':World) (S':Nat->Prop) (o:Option zB) (x:Value) (c:Int):Prop where
 yes:c=0->∃u a cap,o=some u/\x=.slice a u.body.length cap/\w'.ownsRow 0 5 1 (.slice a u.body.length cap) u.body.length (u.body.map qA)/\∀k,(Value.slice a u.body.length cap).ownBlock=some k->w.heap.size<=k/\¬S' k
 no:c≠0->∃a cap,x=.slice a 0 cap
theorem cJ(k:Bool)(o:Option zB):yo true (yG k o)=if k=true then 8 else 2:=by
 cases k with
 |false=>rfl
 |true=>
  cases o with
  |none=>rfl
  |some v=>show (if cond v.mark (5:Int) 0=0\/cond v.mark (5:Int) 0=5 then (8:Int) else cond v.mark 5 0)=8;cases v.mark<;>rfl
theorem Qt{w:World}{S':Nat->Prop}{o:Option zB}{e:Value}{c:Int}(h:OutIs w w' o e c)(g:∀k,e.ownBlock=some k->¬S' k):Told w w' S' o e c:=
 ⟨λl=>by
  obtain⟨u,i,a,d,h2,j,f⟩:=h.1 l
  exact⟨u,a,d,i,h2,j,λk b=>⟨f k b,g k (by rw [h2];exact b)⟩⟩,h.2⟩
theorem UK(M:zd)(A:gz M)(w:World)(X:Nat->Prop)(bo t:Nat)(h:zQ)(bd:Nat)(D:Dk)(S I:Nat->Prop)(F:Nat)(V:qq)(q:Int)(o:yw M w X bo t h bd D S I F V q)(L:t<=4398046511104)(bs:Nat)(hbs:h.s=qu bs)
 (b:ByteArray) (f:b.size<=maxLen):
 Calls Tryz.prog 26 #[.pointer (some ⟨bs,0,none⟩),.string b] w λe w'=>∃D' S' z n,e=.returned (.tuple #[z,.int .i64 n,.int .i64 (yo h.shut (yG (zq b.data.toList) (qe V.vs b)))])/\yV M w w' bd bs S S' D D'/\
  xq M w' bs bd h D D' V/\Told w w' S' (qe V.vs b) z (yo h.shut (yG (zq b.data.toList) (qe V.vs b)))/\(yo h.shut (yG (zq b.data.toList) (qe V.vs b))≠0->n=0)/\
  (∀u,yo h.shut (yG (zq b.data.toList) (qe V.vs b))=0->qe V.vs b=some u->n=u.num)/\X bs/\¬S bs/\¬I bs/\bs≠bo:=by
 have K:=o.n0t;have J:=o.tt
 cases o.st using qI.elim with
 |live d c r j x v g shut mb live=>
  have e:d=bs:=by rw [c] at hbs;unfold qu at hbs;simpa using hbs
  subst e;refine(A.live w bd d S D V b ⟨o.disk,j,g,live,o.fu,o.reads0,by have:=o.reads1;omega,by omega⟩ f).mono ?_;rintro e w' ⟨D',z,n,S',s,h2,m,B,E,H,C⟩;rw [shut];exact⟨D',S',z,n,s,⟨h2.disk,h2.foot,h2.kept,h2.reads0,h2.reads1,h2.size,h2.fuse⟩,.live shut h2.sto m,Qt B E,H,C,r,j,x,v⟩
 |shut d c r j x v g shut torn=>
  have e:d=bs:=by rw [c] at hbs;unfold qu at hbs;simpa using hbs
  subst e;refine(A.shut w d b g f).mono ?_;rintro e w' ⟨a,y,s,h2,m⟩;rw [shut,cJ];have p:¬((if zq b.data.toList=true then (8:Int) else 2)=0):=by split<;>omega
  exact⟨D,S,_,0,s,⟨o.disk.kept m (λi G l=>j (by rw [<-l];exact G)),λk f=>.inl f,m.mono (λk f=>.inr f),by omega,by omega,rfl,o.fu⟩,.shut shut h2 rfl,⟨λl=>absurd l p,λ_=>⟨a,y,rfl⟩⟩,λ_=>rfl,λu l=>absurd l p,r,j,x,v⟩
 |gone c torn=>rw [c] at hbs;cases hbs
theorem Gu(M:zd)(A:cI M)(w:World)(X:Nat->Prop)(bo t:Nat)(h:zQ)(bd:Nat)(D:Dk)(S G:Nat->Prop)(E:Nat)(V:qq)(n:Int)(o:yw M w X bo t h bd D S G E V n)(J:t<=4398046511104)(bs:Nat)(hbs:h.s=qu bs)
 (b:ByteArray) (g:b.size<=maxLen) (c:Int) (s:zD c):
 Calls Tryz.prog 42 #[.pointer (some ⟨bs,0,none⟩),.string b,.int .i64 c] w λe w'=>∃D' S' z,e=.returned (.tuple #[z,.int .i64 (yo h.shut (yG (zq b.data.toList) (yl V.vs b c)))])/\yV M w w' bd bs S S' D D'/\
  xq M w' bs bd h D D' V/\Told w w' S' (yl V.vs b c) z (yo h.shut (yG (zq b.data.toList) (yl V.vs b c)))/\X bs/\¬S bs/\¬G bs/\bs≠bo:=by
 have I:=o.n0t;have H:=o.tt
 cases o.st using qI.elim with
 |live f d p l u r j shut mb live=>
  have e:f=bs:=by rw [d] at hbs;unfold qu at hbs;simpa using hbs
  subst e;refine(A.live w bd f S D V b c ⟨o.disk,l,j,live,o.fu,o.reads0,by have:=o.reads1;omega,by omega⟩ g s).mono ?_;rintro e w' ⟨D',z,S',q,h2,m,B,C⟩;rw [shut];exact⟨D',S',z,q,⟨h2.disk,h2.foot,h2.kept,h2.reads0,h2.reads1,h2.size,h2.fuse⟩,.live shut h2.sto m,Qt B C,p,l,u,r⟩
 |shut f d p l u r j shut torn=>
  have e:f=bs:=by rw [d] at hbs;unfold qu at hbs;simpa using hbs
  subst e;refine(A.shut w f b c j g).mono ?_;rintro e w' ⟨a,y,q,h2,m⟩;rw [shut,cJ];have x:¬((if zq b.data.toList=true then (8:Int) else 2)=0):=by split<;>omega
  exact⟨D,S,_,q,⟨o.disk.kept m (λi F v=>l (by rw [<-v];exact F)),λk g=>.inl g,m.mono (λk g=>.inr g),by omega,by omega,rfl,o.fu⟩,.shut shut h2 rfl,⟨λv=>absurd v x,λ_=>⟨a,y,rfl⟩⟩,p,l,u,r⟩
 |gone d torn=>rw [d] at hbs;cases hbs
theorem jZ(M:zd)(w F p O:World)(X:Nat->Prop)(bo t:Nat)(h:zQ)(bd:Nat)(D R:Dk)(S m Q:Nat->Prop)(aa:Nat)(V:qq)(r:Int)(a:yw M w X bo t h bd D S Q aa V r)(bs:Nat)(hbs:h.s=qu bs)
 (al:za (λ_=>False) w F) (ao:w.heap.size<=F.heap.size) {z:Int} (d:yV M F p bd bs S m D R z) (f:X bs/\¬S bs/\¬Q bs/\bs≠bo) (W:xq M p bs bd h D R V) (T:Nat->Prop) (l:za T p O) (G:∀k,T k->¬X k/\¬m k) (ac:z<=1000:=by decide):
 One M O (λk=>X k\/m k) bo (t+1):=by
 have E:=a.xlt;have aq:=E bo a.bX;have am:=E bs f.1;have U:∀k,m k->k<p.heap.size:=λk b=>d.disk.lt k b;have u:∀k,m k->S k\/F.heap.size<=k:=d.foot;have ak:=d.kept.size;have ae:=l.size
 have N:¬m bo:=λc=>by
  rcases u bo c with o|o;.exact a.bS o
  .omega
 have x:¬m bs:=λc=>by
  rcases u bs c with o|o;.exact f.2.1 o
  .omega
 have P:∀k,Q k->k<w.heap.size:=λk b=>E k (a.rX k b).1
 have Y:∀k,Q k->¬m k:=λk b c=>by
  have o:=P k b;rcases u k c with h2|h2;.exact(a.rX k b).2.1 h2
  .omega
 have v:∀k,Q k->¬(S k\/k=bs):=λk b c=>by
  rcases c with c|c;.exact(a.rX k b).2.1 c
  .exact f.2.2.1 (by rw [<-c];exact b)
 have C:∀k,Q k->¬T k:=λk b c=>(G k c).1 (a.rX k b).1;have n:za (λk=>S k\/k=bs) w p:=(al.mono fE).trans d.kept iL;have ap:=a.reads1;have an:=a.reads0;have ai:=d.reads0;have ag:=d.reads1;have ab:=d.size;have aj:=a.big;have y:∀q,M.Sto p bs q->M.Sto O bs q:=λq ah=>M.sto_kept _ _ _ _ _ ah l (λc=>(G bs c).1 f.1)
 refine⟨h,bd,R,m,Q,aa,V,r,(a.head.kept n (λc=>c.elim a.bS (λe=>f.2.2.2 e.symm))).kept l (λc=>(G bo c).1 a.bX),a.hd,a.his,d.disk.kept l (λi af c=>(G i c).2 af),
  (a.ref.kept n v v).kept l C C,λk b=>.inr b,λk b=>⟨.inl (a.rX k b).1,Y k b,(a.rX k b).2.2⟩,.inl a.bX,N,λk b=>?_,a.last0,a.lastv,a.told0,a.died0,a.n0t,lC a.tt (by omega),by omega,by omega,d.fuse,a.good,by omega,?_⟩
 .rcases b with b|b;.have:=E k b;have:=n.size;omega
  .have:=U k b;omega
 .cases W using xq.elim with
  |live A B live=>
   have Z:h.mb=.pointer none:=by
    cases a.st using qI.elim with
    |live I j J K H L s g mb=>exact mb
    |gone j=>rw [j] at hbs;cases hbs
    |shut I j J K H L s g=>rw [A] at g;cases g
   exact .live bs hbs (.inl f.1) x f.2.2.1 f.2.2.2 (y _ B) A Z live
  |shut A B ad=>
   cases a.st using qI.elim with
   |live _ _ _ _ _ _ _ shut=>rw [A] at shut;cases shut
   |gone j=>rw [j] at hbs;cases hbs
   |shut I j J K H L s g torn=>
    exact .shut bs hbs (.inl f.1) x f.2.2.1 f.2.2.2 (y _ B) A (((torn.kept n v).kept l C).reads ad)
theorem ud{s:Bool}{c:Int}(h:yo s c=0):c=0:=by
 cases s with
 |false=>exact h
 |true=>
  have h2:(if c=0\/c=5 then (8:Int) else c)=0:=h;by_cases a:c=0\/c=5;.rw [aB a] at h2;omega
  .rw [aw a] at h2;exact h2
structure Ve (M:zd) (w w':World) (X:Nat->Prop) (bo t bp:Nat) (lv:Value) (F H:Nat->Prop) (b:Option Addr) (cb:Nat) (es vs:List xZ) (e:Ending):Prop where
 ret:e=.returned (.bool true)
 st:∃X' F' a' ca' es',One M w' X' bo (t+1)/\xx w' bp lv F' H a' b ca' cb es' vs/\es'.length<=es.length+1/\(∀k,X' k->X k\/w.heap.size<=k)/\(∀k,F' k->F k\/w.heap.size<=k)/\∀k,X' k->¬F' k/\¬H k/\k≠bp
 kept:za (λk=>X k\/F k\/k=bp) w w'
def ZG(v:zB):List Value:=[.string v.key,.int .i64 v.num,.bool v.mark,.int .i64 (v.body.length:Int)]
def qr(l:List zB):List Value:=(l.map ZG).flatten
structure gB (w w':World) (L:List zB) (m:Nat) (x:Value) (more:Bool):Prop where
 more:more=decide (m<L.length)
 at_:∃a c,x=.slice a (L.take m).length c/\w'.ownsRow 0 94 4 (.slice a (L.take m).length c) (L.take m).length (qr (L.take m))/\∀k,(Value.slice a (L.take m).length c).ownBlock=some k->w.heap.size<=k
structure xD (M:zd):Prop where
 live:∀(w:World) (bd bs:Nat) (S:Nat->Prop) (D:Dk) (V:qq) (p k:ByteArray) (n m:Int),xI M w bd bs S D V->p.size<=maxLen->k.size<=maxLen->zD n->zD m->
  Calls Tryz.prog 45 #[.pointer (some ⟨bs,0,none⟩),.string p,.string k,.int .i64 n,.int .i64 m] w λe w'=>∃D' S' x more,e=.returned (.tuple #[.agg #[x,.bool more],.int .i64 (qH p k n m)])/\bY M w w' bd bs S S' D D' 1000 (some bd)/\M.Live D' V/\
   (qH p k n m=0->∃L,yz V.vs p k n L/\gB w w' L m.toNat x more)/\(qH p k n m≠0->x=.slice none 0 0/\more=false)/\∀j,x.ownBlock=some j->¬S' j
 shut:∀(w:World) (bs:Nat) (p k:ByteArray) (n m:Int),M.Sto w bs none->p.size<=maxLen->k.size<=maxLen->
  Calls Tryz.prog 45 #[.pointer (some ⟨bs,0,none⟩),.string p,.string k,.int .i64 n,.int .i64 m] w λe w'=>e=.returned (.tuple #[.agg #[.slice none 0 0,.bool false],.int .i64 (yo true (qH p k n m))])/\M.Sto w' bs none/\za (λk=>k=bs) w w'
end law
end Go.Proofs.YtcoengihaobddaaGreatDoor
