/- Part 7 of 36 of a proof: Law5, Law15, Law14, Law6, Law17 -/
import Derived.Test.YtcoengihaobddaaGreatDoorJb06
set_option maxHeartbeats 8000000
set_option linter.unusedVariables false
set_option linter.unusedSimpArgs false
set_option maxRecDepth 8000
namespace Go.Proofs.YtcoengihaobddaaGreatDoor
namespace law
open Go.ChangeShapes Go.WideShapes Go.ChangeAt Go.RowKit disk ref book
open keys (zh zd zx zq zp)
variable {w:World}{b:Nat}{o:xg}
structure xc (w:World) (b:Nat) (o:xg):Prop where
 at_:w.heap[b]? =some (.cells #[.int .i64 o.kind,.int .i64 o.A,.int .i64 o.B,.int .i64 o.C,.string o.S,.string o.P,.slice o.la o.l.length o.lc,.slice o.ka o.ks.length o.kc] 81 (0,0))
theorem xc.lt(h:xc w b o):b<w.heap.size:=(lT h.at_)
theorem xc.kept{w':World}{T:Nat->Prop}(h:xc w b o)(k:za T w w')(a:¬T b):xc w' b o:=⟨(k.block b h.lt a).trans h.at_⟩
theorem xc.c0(h:xc w b o):w.cell? ⟨b,0,none⟩=some (.int .i64 o.kind):=cR h.at_ rfl
theorem xc.c1(h:xc w b o):w.cell? ⟨b,1,none⟩=some (.int .i64 o.A):=cR h.at_ rfl
theorem xc.c2(h:xc w b o):w.cell? ⟨b,2,none⟩=some (.int .i64 o.B):=cR h.at_ rfl
theorem xc.c3(h:xc w b o):w.cell? ⟨b,3,none⟩=some (.int .i64 o.C):=cR h.at_ rfl
theorem xc.c4(h:xc w b o):w.cell? ⟨b,4,none⟩=some (.string o.S):=cR h.at_ rfl
theorem xc.c5(h:xc w b o):w.cell? ⟨b,5,none⟩=some (.string o.P):=cR h.at_ rfl
theorem xc.c6(h:xc w b o):w.cell? ⟨b,6,none⟩=some (.slice o.la o.l.length o.lc):=cR h.at_ rfl
theorem xc.c7(h:xc w b o):w.cell? ⟨b,7,none⟩=some (.slice o.ka o.ks.length o.kc):=cR h.at_ rfl
structure KW (B:Nat) (wx:World) (bo:Nat) (h:qg) (bd:Nat) (D2:Dk) (S2 R:Nat->Prop) (ib:Nat) (V:qE) (last:Int) (od:xg) (Q:Nat->Prop):Prop where
 head:zo wx bo h
 disk:zg wx bd S2 D2
 ref:zJ wx R R ib V.vs last
 box:xc wx B od
 op:od.Ok wx Q
 lt:B<wx.heap.size
 hbo:bo<B
 hR:∀k,R k->k<B
 hQ:∀k,Q k->k<B
 hSb:¬S2 bo
theorem KW.kept{B:Nat}{l wy:World}{bo:Nat}{h:qg}{bd:Nat}{g:Dk}{e n:Nat->Prop}{j:Nat}{V:qE}{d:Int}{f:xg}{Q T:Nat->Prop}(m:KW B l bo h bd g e n j V d f Q)(k:za T l wy)(c:∀k,T k->B<k/\¬e k):KW B wy bo h bd g e n j V d f Q:=
 ⟨m.head.kept k (λa=>by have:=(c _ a).1;have:=m.hbo;omega),m.disk.kept k (λi b a=>(c i a).2 b),m.ref.kept k (λi b a=>by have:=(c i a).1;have:=m.hR i b;omega) (λi b a=>by have:=(c i a).1;have:=m.hR i b;omega),
  m.box.kept k (λa=>by have:=(c _ a).1;omega),m.op.kept k (λi b a=>by have:=(c i a).1;have:=m.hQ i b;omega),ay m.lt k.size,m.hbo,m.hR,m.hQ,m.hSb⟩
theorem gz{E:ze}{b q:World}{X:Nat->Prop}{bo t:Nat}{h:qg}{bd:Nat}{D x:Dk}{S v B:Nat->Prop}{y:Nat}{V:qE}{j:Int}{m:xg}{Q:Nat->Prop}{bs:Nat}{r:Int}(o:yt E b X bo t h bd D S B y V j)(l:∀k,X k->k<w.heap.size)(C:xc b w.heap.size m)(u:m.Ok b Q)(n:∀k,Q k->¬X k/\k<w.heap.size)(A:w.heap.size<b.heap.size)
 (f:yR E b.drew q bd bs S v D x r) (c:X bs/\¬S bs/\¬B bs/\bs≠bo):KW w.heap.size q bo h bd x v B y V j m Q:=by
 have g:za (λk=>S k\/k=bs) b q:=(za.drew _ b).trans f.kept iL;have z:=l bo o.bX;refine⟨o.head.kept g (λa=>a.elim o.bS (λe=>c.2.2.2 e.symm)),f.disk,o.ref.kept g (λi d a=>?_) (λi d a=>?_),C.kept g (λa=>?_),u.kept g (λi d a=>?_),ay A g.size,z,λk p=>l k (o.rX k p).1,λk p=>(n k p).2,λa=>?_⟩
 .rcases a with a|a;.exact(o.rX i d).2.1 a
  .exact c.2.2.1 (by rw [<-a];exact d)
 .rcases a with a|a;.exact(o.rX i d).2.1 a
  .exact c.2.2.1 (by rw [<-a];exact d)
 .rcases a with a|a;.have:=l _ (o.sX _ a);omega
  .have:=l _ c.1;omega
 .rcases a with a|a;.exact(n i d).1 (o.sX i a)
  .exact(n i d).1 (by rw [a];exact c.1)
 .rcases f.foot bo a with s|s;.exact o.bS s
  .have h2:b.drew.heap.size=b.heap.size:=rfl;omega
theorem UJ(bm:ze)(A:xk bm)(w:World)(X:Nat->Prop)(bo t:Nat)(h:qg)(bd:Nat)(D:Dk)(S av:Nat->Prop)(al:Nat)(V:qE)(j:Int)(f:yt bm w X bo t h bd D S av al V j)(bT:t<=2199023255552)(bs:Nat)(hbs:h.s=qz bs)
 (a:xg) (Q:Nat->Prop) (ah:a.Ok w Q) (bi:∀k,Q k->¬X k/\k<w.heap.size):
 Calls Tryz.prog 60 #[.pointer (some ⟨bo,0,none⟩),.agg #[.int .i64 a.kind,.int .i64 a.A,.int .i64 a.B,.int .i64 a.C,.string a.S,.string a.P,.slice a.la a.l.length a.lc,.slice a.ka a.ks.length a.kc]] w λe w'=>Stepped bm w w' X bo t e:=by
 have s:=f.xlt;have k0:za (λ_=>False) w (w.alloc (.cells #[.int .i64 a.kind,.int .i64 a.A,.int .i64 a.B,.int .i64 a.C,.string a.S,.string a.P,.slice a.la a.l.length a.lc,.slice a.ka a.ks.length a.kc] 81)):=za.alloc _ _ _;have a1:xc (w.alloc (.cells #[.int .i64 a.kind,.int .i64 a.A,.int .i64 a.B,.int .i64 a.C,.string a.S,.string a.P,.slice a.la a.l.length a.lc,.slice a.ka a.ks.length a.kc] 81)) w.heap.size a:=⟨ac w _⟩;have ay:=ah.kept k0 nF;have az:=f.kept k0 nF;have R:=ah.len;have bC:=s bo f.bX;change Hid _ at a1 ay az f ah bi hbs s k0;go_enter Tryz.func60,Tryz.ntmps60;go_wp2_with fail;refine(Vd _ Q a.la a.lc a.l ay.l R).mono ?_;rintro e z ⟨ae,au,rfl,ba,N⟩;have i:=az.kept N nF;have aA:=a1.kept N (λbD=>bD);have an:=i.head.c0;rw [i.hd] at an;unfold qz at an;have a7:=i.head.c1;rw [hbs.out] at a7;unfold qz at a7;have aM:=aA.c4;have x:x9 z (w.heap.size+1) a.la a.l ae au:=by simpa using ba
 change Hid _ at x;change Hid _ at i aA N;clear ba;go_wp2_with fail;obtain⟨bA,bw,bp,bu,a4⟩:=i.disk;refine(qD _ bd S D bA bw bp bu a4).mono ?_;rintro e P ⟨rfl,q⟩;rw [q];clear q P a4;go_wp2_with fail;have aX:=aA.lt;have bl:Hid _:=ay.kept N nF;go_region_held3 (λw'=>w'.cell? ⟨bo,1,none⟩=some (.pointer (some ⟨bs,0,none⟩))/\w'.cell? ⟨w.heap.size,4,none⟩=some (.string a.S)) (go_keep) ((go_at_call 27;refine(UI bm A _ X bo t h bd D S av al V j (by exact i.kept (za.drew (λ_=>False) z) nF) (by omega) bs hbs a.S ah.out.S ae au a.l (λk=>w.heap.size+1<=k) (by exact(x9.bytes x).kept (za.drew (λ_=>False) z) nF) (λk d b=>by have:=s.out k b;omega) (by omega) (x9.cap x).1 (x9.cap x).2).mono ?_;rintro e ak ⟨aL,O,c,n,rfl,l,ad,aY,a2,a8,a3,aT⟩;have aC:Hid _:=(⟨a2,a8,a3,aT⟩:X bs/\¬S bs/\¬av bs/\bs≠bo);change Hid _ at l ad aY;clear a2 a8 a3 aT;have L:Hid _:=gz i s aA bl bi aX l aC.out;have aF:=L.head.c1;rw [hbs.out] at aF;unfold qz at aF;have bv:=L.box.c4))
 all_goals
  have aN:=L.out;have y:∀k,O k->k<w.heap.size\/z.heap.size<=k:=λk d=>(l.foot k d).imp (λh=>s k (i.sX k h)) (λh=>h);have ab:∀k,O k->k<ak.heap.size:=λk d=>l.disk.lt k d
  have ar:∀g,(Value.slice ae a.l.length au).ownBlock=some g->w.heap.size<g/\g<z.heap.size:=λg aD=>by
   rcases x.out with⟨_,_,J,_⟩|⟨bW,bX,_,J,h2,bH⟩;.rw [J] at aD;cases aD
   .rw [J] at aD;simp [Value.ownBlock] at aD;obtain⟨_,bQ,bE,_⟩:=bH;have:=(lT bE);omega
  have aU:x9 ak (w.heap.size+1) a.la a.l ae au:=x9.kept x ((za.drew _ z).trans l.kept iL) (λg aD b=>by
   have J:=ar g aD;rcases b with b|b;.have:=s.out g (i.sX g b);omega
   .have:=s.out _ aC.1;omega)
  have bG:z.heap.size<=ak.heap.size:=l.kept.size;have an:=aN.head.c0;rw [i.hd] at an;unfold qz at an;have aG:=aN.box.c6;have be:Hid (x9 ak (w.heap.size+1) a.la a.l ae au):=aU;change Hid _ at y ab ar;clear aN aU;go_wp2_with fail;obtain⟨br,bn,bk,bc,aV⟩:=L.disk;refine(qD _ bd O aL br bn bk bc aV).mono ?_;rintro e P ⟨rfl,q⟩;rw [q];clear q P aV;go_wp2_with fail;refine(ZF _ Q (w.heap.size+1) a.la a.lc a.l L.op.l R ae au be (λk d=>by have:=(bi k d).2;omega)).mono ?_;rintro e E ⟨rfl,af⟩
  have K:=L.kept af (λk d=>by
   have J:=ar.out k d
   exact⟨J.1,λb=>by have:=y.out k b;omega⟩)
  have bS:=af.size;have aG:=K.box.c6;have aM:=K.box.c4;have a5:=K.head.c2;rw [i.his] at a5;unfold qz at a5;change Hid _ at K af;go_wp2_with fail;refine(Zt _ a.S ah.out.S a.la a.l.length a.lc).mono ?_;rintro e P ⟨rfl,q⟩;rw [q];clear q P;generalize Y:fS (zp a.S.data.toList) a.l.length=aa at*;change Hid _ at Y;have aW:=f.good.few;go_wp2_with fail;refine(ux _ av av al V.vs j K.ref (by omega)).mono ?_;rintro e bz ⟨rfl,a9,aj⟩;have M:=K.kept aj fE;have bR:=aj.size;have aG:=M.box.c6;have aM:=M.box.c4;have bt:Hid (zJ bz (λk=>E.heap.size<=k) av E.heap.size V.vs j):=a9;change Hid _ at M aj;clear a9;go_wp2_with fail;refine(dj _ (λk=>E.heap.size<=k) av Q E.heap.size V.vs j bt (λk d b=>by have:=M.hR k b;omega) (by omega) a.S n false a.la a.lc a.l M.op.l (by omega)).mono ?_;rintro e aZ ⟨rfl,aQ,ai⟩;have r:=M.kept ai (λk d=>⟨by have bq:=d;omega,λb=>by have:=ab.out k b;have bq:=d;omega⟩);have bO:=ai.size;have aG:=r.box.c6;have aM:=r.box.c4;change Hid _ at r aQ ai;have aH:=f.told0;have H:=f.died0;have bN:=f.tt;go_wp2_with fail;refine(uz _ bo h r.head al f.his av av V.vs j r.ref n aH (by omega) H (by omega)).mono ?_;rintro e P ⟨rfl,bV,q⟩;rw [q];clear q P;have bP:=f.last0;have bJ:=f.n0t;have bx:=l.reads0;have bK:=l.reads1
  have ax:c=0->ZA n j h.told h.died=true:=λb=>by have:=aY.out;rw [aB b] at this;unfold ZA;exact aJ (by omega)
  have W:c≠0->n=0:=λb=>by have:=aY.out;rw [aw b] at this;exact this
  generalize ZA n j h.told h.died=bM at*;have U:=λbF bI bL=>ad.case l.size (.pointer (some ⟨E.heap.size,0,none⟩)) (max j n) a.S 0 false bF bI bL;change Hid _ at U;have a6:(yM a.l.length:Int)<=1125899906842624:=by unfold yM;omega
  by_cases b:c=0
  .have bB:(c !=0)=false:=by simpa using b
   have a0:=ax b;subst a0;clear b ax W;go_wp2_with fail
   go_region_held3 (λw'=>w'.cell? ⟨w.heap.size,4,none⟩=some (.string a.S)/\w'.cell? ⟨w.heap.size,6,none⟩=some (.slice a.la a.l.length a.lc)) (go_keep) ((first
    |(go_at_call 98;refine(xE _ _ (by omega) (by omega)).mono ?_;rintro e P ⟨rfl,rfl⟩)
    |(go_at_call 99;refine(Zx _ Q a.la a.lc a.l (by exact(r.kept (T:=λ_=>False) kD fE).op.l) R).mono ?_;rintro e I ⟨B,F,rfl,u,p,v⟩;have G:Hid (za (λ_=>False) aZ I):=⟨p.os,p.tape,p.output,p.size,p.block⟩;have aE:Hid (I.ownsRow 0 5 1 (.slice B a.l.length F) a.l.length (a.l.map qy)):=u;have aP:Hid (∀k,(Value.slice B a.l.length F).ownBlock=some k->aZ.heap.size<=k):=v;have m:Hid _:=r.kept G fE;have bb:=m.box.c4;have bj:=m.box.c6;have ao:Hid _:=zJ.kept aQ G nF nF;clear u p v;obtain⟨h',ag⟩:=U.out B a.l.length F;have ap:Hid _:=ag;clear ag)
    |(go_at_call 97;refine(xN _ bo h (by exact(m.kept (T:=λ_=>False) kD fE).head) bd f.hd O aL (by exact(m.kept (T:=λ_=>False) kD fE).disk) al f.his av av V.vs j (by exact(m.kept (T:=λ_=>False) kD fE).ref) aW f.good.body c aa _ (by omega) (by have:=a6;omega) E.heap.size a.S 0 false B a.l.length F _ _ _ _ (by exact zJ.kept (T:=λ_=>False) ao kD nF nF) (by omega) r.hSb H (by omega) h' (by exact ap)).mono ?_;rintro e Z ⟨rfl,aq,am,o⟩;have aS:Hid _:=aq;have aR:Hid _:=am;have C:Hid (za (λk=>k=bo\/O k) I Z):=⟨o.os,o.tape,o.output,o.size,o.block⟩;have bh:Z.cell? ⟨w.heap.size,4,none⟩=some (.string a.S):=(m.box.kept C (λb=>b.elim (λe=>by omega) (λb=>by have:=y.out _ b;omega))).c4;have bf:Z.cell? ⟨w.heap.size,6,none⟩=some (.slice a.la a.l.length a.lc):=(m.box.kept C (λb=>b.elim (λe=>by omega) (λb=>by have:=y.out _ b;omega))).c6;clear aq am o)))
   go_wp2;go_ret;have aK:za (λk=>(Value.slice ae a.l.length au).ownBlock=some k\/E.heap.size<=k) ak I:=(((af.mono iL).trans aj fE).trans ai (λk d=>.inl (.inr d))).trans G fE
   have aI:=uA bm w z.drew ak I Z X bo t h bd D aL S O av al V j f bs hbs ((k0.trans N iL).trans (za.drew _ z) iL) aX l aC a.S false a.l aa c (λaO bg=>by
    have:=Y.out;rw [bg,kB,aO] at this
    simp [fS] at this) (yM a.l.length) (by unfold yM;omega) ad n aY _ aK (λk d=>by
    rcases d with d|d
    .have J:=ar.out k d;exact⟨J.1,λb=>by have:=y.out k b;omega⟩
    .exact⟨by omega,λb=>by have:=ab.out k b;omega⟩) C E.heap.size B F h' aS aR ap _ _ ao (λk d=>by rcases d with d|d<;>omega) (λk d=>d.imp id (λd=>by omega)) (zO.of_own 5 aE rfl _ (λk d=>by have:=aP.out k d;omega))
   exact⟨zd (aJ (by omega)),aI.1,aI.2⟩
  .have bB:(c !=0)=true:=by simpa using b
   have a0:=W b;have bU:(n==0)=true:=by simpa using a0
   clear b ax W a0;go_wp2_with fail
   go_region_held3 (λw'=>w'.cell? ⟨w.heap.size,4,none⟩=some (.string a.S)/\w'.cell? ⟨w.heap.size,6,none⟩=some (.slice a.la a.l.length a.lc)) (go_keep) ((first
    |(go_at_call 98;refine(xE _ _ (by omega) (by omega)).mono ?_;rintro e P ⟨rfl,rfl⟩)
    |(go_at_call 99;refine(Zx _ Q a.la a.lc a.l (by exact(r.kept (T:=λ_=>False) kD fE).op.l) R).mono ?_;rintro e I ⟨B,F,rfl,u,p,v⟩;have G:Hid (za (λ_=>False) aZ I):=⟨p.os,p.tape,p.output,p.size,p.block⟩;have aE:Hid (I.ownsRow 0 5 1 (.slice B a.l.length F) a.l.length (a.l.map qy)):=u;have aP:Hid (∀k,(Value.slice B a.l.length F).ownBlock=some k->aZ.heap.size<=k):=v;have m:Hid _:=r.kept G fE;have bb:=m.box.c4;have bj:=m.box.c6;have ao:Hid _:=zJ.kept aQ G nF nF;clear u p v;obtain⟨h',ag⟩:=U.out B a.l.length F;have ap:Hid _:=ag;clear ag)
    |(go_at_call 97;refine(xN _ bo h (by exact(m.kept (T:=λ_=>False) kD fE).head) bd f.hd O aL (by exact(m.kept (T:=λ_=>False) kD fE).disk) al f.his av av V.vs j (by exact(m.kept (T:=λ_=>False) kD fE).ref) aW f.good.body c aa _ (by omega) (by have:=a6;omega) E.heap.size a.S 0 false B a.l.length F _ _ _ _ (by exact zJ.kept (T:=λ_=>False) ao kD nF nF) (by omega) r.hSb H (by omega) h' (by exact ap)).mono ?_;rintro e Z ⟨rfl,aq,am,o⟩;have aS:Hid _:=aq;have aR:Hid _:=am;have C:Hid (za (λk=>k=bo\/O k) I Z):=⟨o.os,o.tape,o.output,o.size,o.block⟩;have bh:Z.cell? ⟨w.heap.size,4,none⟩=some (.string a.S):=(m.box.kept C (λb=>b.elim (λe=>by omega) (λb=>by have:=y.out _ b;omega))).c4;have bf:Z.cell? ⟨w.heap.size,6,none⟩=some (.slice a.la a.l.length a.lc):=(m.box.kept C (λb=>b.elim (λe=>by omega) (λb=>by have:=y.out _ b;omega))).c6;clear aq am o)))
   go_wp2;go_ret;have aK:za (λk=>(Value.slice ae a.l.length au).ownBlock=some k\/E.heap.size<=k) ak I:=(((af.mono iL).trans aj fE).trans ai (λk d=>.inl (.inr d))).trans G fE
   have aI:=uA bm w z.drew ak I Z X bo t h bd D aL S O av al V j f bs hbs ((k0.trans N iL).trans (za.drew _ z) iL) aX l aC a.S false a.l aa c (λaO bg=>by
    have:=Y.out;rw [bg,kB,aO] at this
    simp [fS] at this) (yM a.l.length) (by unfold yM;omega) ad n aY _ aK (λk d=>by
    rcases d with d|d
    .have J:=ar.out k d;exact⟨J.1,λb=>by have:=y.out k b;omega⟩
    .exact⟨by omega,λb=>by have:=ab.out k b;omega⟩) C E.heap.size B F h' aS aR ap _ _ ao (λk d=>by rcases d with d|d<;>omega) (λk d=>d.imp id (λd=>by omega)) (zO.of_own 5 aE rfl _ (λk d=>by have:=aP.out k d;omega))
   exact⟨zd (aJ (by omega)),aI.1,aI.2⟩
structure jU (M:ze):Prop where
 live:∀(w:World) (bd bs:Nat) (S:Nat->Prop) (D:Dk) (V:qE) (key:ByteArray) (num:Int),xw M w bd bs S D V->key.size<=maxLen->zD num->
  Calls Tryz.prog 31 #[.pointer (some ⟨bs,0,none⟩),.string key,.int .i64 num] w λe w'=>∃D' S' c q,e=.returned (.int .i64 c)/\dC M w w' bd bs S S' D D' 40 q/\
   Chg M D D' V (V.sub key num) bd (Y5 (zp key.data.toList) (yi V.vs key num)) c 0 q
 shut:∀(w:World) (bs:Nat) (key:ByteArray) (num:Int),M.Sto w bs none->key.size<=maxLen->
  Calls Tryz.prog 31 #[.pointer (some ⟨bs,0,none⟩),.string key,.int .i64 num] w λe w'=>e=.returned (.int .i64 (if zp key.data.toList=true then 8 else 2))/\M.Sto w' bs none/\za (λk=>k=bs) w w'
theorem J1(k:Bool)(o:Option zB):ys true (Y5 k o)=if k=true then 8 else 2:=by cases k<;>cases o<;>rfl
theorem J2(x:ze)(A:jU x)(w:World)(X:Nat->Prop)(bo t:Nat)(h:qg)(bd:Nat)(D:Dk)(S F:Nat->Prop)(B:Nat)(V:qE)(v:Int)(o:yt x w X bo t h bd D S F B V v)(G:t<=4398046511104)(bs:Nat)(hbs:h.s=qz bs)
 (a:ByteArray) (g:a.size<=maxLen) (b:Int) (p:zD b):
 Calls Tryz.prog 31 #[.pointer (some ⟨bs,0,none⟩),.string a,.int .i64 b] w λe w'=>∃D' S' c,e=.returned (.int .i64 c)/\yR x w w' bd bs S S' D D'/\
  v9 x w' bs bd h D D' V (V.sub a b) (Y5 (zp a.data.toList) (yi V.vs a b)) c 0/\X bs/\¬S bs/\¬F bs/\bs≠bo:=by
 have E:=o.n0t;have C:=o.tt
 cases o.st with
 |live f d s l r u j shut mb live=>
  have e:f=bs:=by rw [d] at hbs;unfold qz at hbs;simpa using hbs
  subst e;refine(A.live w bd f S D V a b ⟨o.disk,l,j,live,o.fu,o.reads0,by have:=o.reads1;omega,by omega⟩ g p).mono ?_;rintro e w' ⟨D',S',c,q,n,h2,m⟩;exact⟨D',S',c,n,⟨h2.disk,h2.foot,h2.kept,h2.reads0,h2.reads1,h2.size,h2.fuse⟩,.live q shut h2.sto m,s,l,r,u⟩
 |shut f d s l r u j shut torn=>
  have e:f=bs:=by rw [d] at hbs;unfold qz at hbs;simpa using hbs
  subst e;refine(A.shut w f a b j g).mono ?_;rintro e w' ⟨n,h2,m⟩;exact⟨D,S,_,n,⟨o.disk.kept m (λi z y=>l (by rw [<-y];exact z)),λk g=>.inl g,m.mono (λk g=>.inr g),by omega,by omega,rfl,o.fu⟩,.shut shut h2 (J1 _ _).symm rfl,s,l,r,u⟩
 |gone d torn=>rw [d] at hbs;cases hbs
theorem fC:∀(vs:List zB) (k:ByteArray) (n:Int),ji vs->(∃v∈vs,v.key=k/\v.num=n)->(yj vs k n).length+1=vs.length
 |[],k,n,_,⟨v,b,_⟩=>by cases b
 |u::vs,k,n,ha,⟨v,b,h1,h2⟩=>by
  unfold ji at ha;rw [aL] at ha;unfold yj;rw [eX];by_cases a:u.key=k/\u.num=n
  .have c:(!(decide (u.key=k)&&decide (u.num=n)))=false:=by simp [a.1,a.2]
   rw [c];simp only [lS,if_false,ae,Nat.add_right_cancel_iff];rw [eU.2];intro h g;have:=ha.1 h g;have f:¬(h.key=k/\h.num=n):=λd=>this ⟨a.1.trans d.1.symm,a.2.trans d.2.symm⟩;rw [iy,i4];simp only [ne_eq,aW,aR];exact f
  .have c:(!(decide (u.key=k)&&decide (u.num=n)))=true:=by
    rw [iy,i4];simp only [ne_eq,aW,aR];exact a
   rw [c,aB rfl]
   have e:v∈vs:=by
    rcases ar.1 b with rfl|b;.exact absurd ⟨h1,h2⟩ a
    .exact b
   have:=fC vs k n ha.2 ⟨v,e,h1,h2⟩;unfold yj at this;simp only [ae];omega
theorem Xa(av:ze)(w aJ O aB j:World)(X:Nat->Prop)(bo t:Nat)(h:qg)(bd:Nat)(D N:Dk)(S B ax:Nat->Prop)(aP:Nat)(V:qE)(l:Int)(a:yt av w X bo t h bd D S ax aP V l)(bs:Nat)(hbs:h.s=qz bs)
 (aO:za (λ_=>False) w aJ) (be:w.heap.size<aJ.heap.size) (g:yR av aJ O bd bs S B D N) (i:X bs/\¬S bs/\¬ax bs/\bs≠bo) (y:ByteArray) (z:Int) (want c:Int) (az:want=0->∃v∈V.vs,v.key=y/\v.num=z)
 (aN:v9 av O bs bd h D N V (V.sub y z) want c 0) (T:Nat->Prop) (L:za T O aB) (aI:∀k,T k->w.heap.size<k/\¬B k) (E:za (λk=>k=bo\/B k) aB j)
 (ab:Nat) (h':qg) (ag:zo j bo h') (aQ:∃r,zg j bd r N/\∀k,r k->B k) (I:kz h N V.vs c want 0 (qz ab) l ByteArray.empty 0 false none 0 0 h')
 (aR aV:Nat->Prop) (aT:zJ aB aR aV ab (yj V.vs y z) l) (aX:∀k,aR k->O.heap.size<=k) (aW:∀k,aV k->ax k\/O.heap.size<=k):
 (∃X',One av j X' bo (t+1)/\∀k,X' k->X k\/w.heap.size<=k)/\za X w j:=by
 have ay:=a.xlt;have bc:=ay bo a.bX;have a8:=ay bs i.1;have ar:∀k,B k->k<O.heap.size:=λk b=>g.disk.lt k b;have K:=g.foot;have a2:=g.kept.size;have a1:=L.size;have a3:=E.size
 have aK:¬B bo:=λd=>by
  rcases K bo d with f|f;.exact a.bS f
  .omega
 have ac:¬B bs:=λd=>by
  rcases K bs d with f|f;.exact i.2.1 f
  .omega
 have aj:∀k,ax k->k<w.heap.size:=λk b=>ay k (a.rX k b).1
 have aM:∀k,ax k->¬B k:=λk b d=>by
  have f:=aj k b;rcases K k d with h2|h2;.exact(a.rX k b).2.1 h2
  .omega
 obtain⟨r,s,aa⟩:=aQ
 have aU:=(((aO.mono fE).trans g.kept (λk b=>b.elim (λf=>.inl (a.sX k f)) (λf=>.inl (by rw [f];exact i.1)))).trans L (λk b=>.inr (by have:=(aI k b).1;omega))).trans E (λk b=>by
  rcases b with rfl|b;.exact .inl a.bX
  .rcases K k b with f|f;.exact .inl (a.sX k f)
   .exact .inr (by omega))
 refine⟨⟨λk=>X k\/(w.heap.size<=k/\k<j.heap.size),?_,λk b=>b.imp id (λh=>h.1)⟩,aU⟩
 have ap:∀k,ax k->¬(S k\/k=bs):=λk b d=>by
  rcases d with d|d;.exact(a.rX k b).2.1 d
  .exact i.2.2.1 (by rw [<-d];exact b)
 have U:∀k,ax k->¬T k:=λk b d=>by have:=(aI k d).1;have:=aj k b;omega
 have G:∀k,ax k->¬(k=bo\/B k):=λk b d=>d.elim (a.rX k b).2.2 (aM k b);let R':Nat->Prop:=λk=>ax k\/(O.heap.size<=k/\k<aB.heap.size);have af:∀k,ax k->k<j.heap.size->R' k:=λk b _=>.inl b;have am:=((((a.ref.kept aO nF nF).kept g.kept ap ap).kept L U U).kept E G G).mono af af
 have o:∀k,R' k->¬(k=bo\/B k):=λk b d=>by
  rcases b with b|b;.exact G k b d
  .rcases d with d|d;.omega
   .have:=ar k d;omega
 have Z:=(aT.mono (F':=R') (G':=R') (λk b aq=>.inr ⟨aX k b,aq⟩) (λk b aq=>(aW k b).imp id (λh=>⟨h,aq⟩))).kept E o o
 have ad:∀k,R' k->(X k\/(w.heap.size<=k/\k<j.heap.size))/\¬r k/\k≠bo:=λk b=>by
  refine⟨?_,λd=>o k b (.inr (aa k d)),λd=>o k b (.inl d)⟩;rcases b with b|b;.exact .inl (a.rX k b).1
  .exact .inr ⟨by omega,by omega⟩
 have m:¬R' bs:=λd=>by
  rcases d with d|d;.exact i.2.2.1 d
  .omega
 have u:∀q,av.Sto O bs q->av.Sto j bs q:=λq a6=>av.sto_kept _ _ _ _ _ (av.sto_kept _ _ _ _ _ a6 L (λd=>by have:=(aI bs d).1;omega)) E (λd=>d.elim i.2.2.2 ac)
 have al:∀k,r k->X k\/(w.heap.size<=k/\k<j.heap.size):=λk b=>by
  have f:=aa k b;rcases K k f with h2|h2;.exact .inl (a.sX k h2)
  .exact .inr ⟨by omega,by have:=ar k f;omega⟩
 have Q:∀k,(X k\/(w.heap.size<=k/\k<j.heap.size))->k<j.heap.size:=λk b=>by
  rcases b with b|b;.have:=ay k b;omega
  .exact b.2
 have ah:¬r bo:=λd=>aK (aa bo d);have x:¬r bs:=λd=>ac (aa bs d);have aY:=a.tt;have bg:=a.reads0;have bf:=a.reads1;have a4:=g.reads0;have bb:=g.reads1;have ae:=a.last0;have ao:=a.n0t;have H:=a.told0;have Y:=a.died0;have a0:=g.size;have a7:=a.big;have a5:=a.good.n0;have ai:=a.hd;have aC:=a.his
 have R:h'=h->kI av j (λk=>X k\/(w.heap.size<=k/\k<j.heap.size)) r R' bo bd h N V l->One av j (λk=>X k\/(w.heap.size<=k/\k<j.heap.size)) bo (t+1):=λe st=>by subst e;exact⟨h',bd,N,r,R',aP,V,l,ag,ai,aC,s,am,al,ad,.inl a.bX,ah,Q,ae,a.lastv,H,Y,ao,by omega,by omega,by omega,g.fuse,a.good,by omega,st⟩
 cases aN with
 |shut n C d ba=>
  have e:h'=h:=by
   cases I with
   |shut=>rfl
   |want=>rfl
   |space f=>simp [n] at f
   |ok f=>rw [n] at f;cases f
   |dead f=>rw [n] at f;cases f
  refine R e ?_
  cases a.st with
  |live _ _ _ _ _ _ _ shut=>rw [n] at shut;cases shut
  |gone F=>rw [F] at hbs;cases hbs
  |shut aF F aE aH aG aD au p torn=>
   exact .shut bs hbs (.inl i.1) x m i.2.2.2 (u _ C) n ((((((torn.kept aO nF).kept g.kept ap).kept L U).kept E G).mono af).reads ba)
 |live q n C aZ=>
  have aS:=a.st
  have ak:h.mb=.pointer none:=by
   cases aS with
   |live aF F aE aH aG aD au p mb=>exact mb
   |gone F=>rw [F] at hbs;cases hbs
   |shut aF F aE aH aG aD au p=>rw [n] at p;cases p
  rcases aZ.is with⟨f,h2,P,W⟩|⟨f,h2,P,W⟩|⟨f,h2,P,W,_⟩|⟨f,h2,P,W,a9⟩
  .subst P
   have e:h'=h:=by
    cases I with
    |shut=>rfl
    |want=>rfl
    |space=>rfl
    |ok _ A=>exact absurd A f
    |dead _ A=>exact absurd A f
   exact R e (.live bs hbs (.inl i.1) x m i.2.2.2 (u _ C) n ak W)
  .subst P
   have e:h'={h with is:=qz ab}:=by
    cases I with
    |shut M=>rw [n] at M;cases M
    |want _ A=>exact absurd f A
    |space _ _ J=>omega
    |ok=>unfold qg.okd;rw [aw (by omega)]
    |dead _ _ J=>omega
   have aA:=W.good;have aL:∀v,v∈(V.sub y z).vs->v∈V.vs:=λv an=>(ei.1 an).1;subst e;exact⟨_,bd,N,r,R',ab,V.sub y z,l,ag,ai,rfl,s,Z,al,ad,.inl a.bX,ah,Q,ae,λv an=>a.lastv v (aL v an),H,Y,ao,lC aY (by omega),by omega,by omega,g.fuse,aA,by omega,.live bs hbs (.inl i.1) x m i.2.2.2 (u _ C) n ak W⟩
  .subst P
   have e:h'=h:=by
    cases I with
    |shut=>rfl
    |want=>rfl
    |space=>rfl
    |ok _ _ J=>omega
    |dead _ _ J=>omega
   exact R e (.live bs hbs (.inl i.1) x m i.2.2.2 (u _ C) n ak W)
  .subst P
   have e:h'={h with shut:=true,mb:=qz ab,k0:=.string ByteArray.empty,k1:=.int .i64 0,k2:=.bool false,k3:=.slice none 0 0,died:=h.died+1}:=by
    cases I with
    |shut M=>rw [n] at M;cases M
    |want _ A=>exact absurd f A
    |space _ _ J=>omega
    |ok _ _ J=>omega
    |dead=>rfl
   subst e
   refine⟨_,bd,N,r,R',aP,V,l,ag,ai,aC,s,am,al,ad,.inl a.bX,ah,Q,ae,a.lastv,H,?_,?_,?_,by omega,by omega,g.fuse,a.good,by omega,
    .shut bs hbs (.inl i.1) x m i.2.2.2 (u _ C) rfl (.erase ab (yj V.vs y z) 0 false none 0 0 rfl rfl rfl rfl rfl Z (fC V.vs y z a.good.apart (az f)) (λv an=>(ei.1 an).1) a9)⟩
   .show 0<=h.died+1;omega
   .show V.n0<=h.told+(h.died+1);omega
   .show h.told+(h.died+1)<=((t+1:Nat):Int);omega
theorem Xb(aA:ze)(A:jU aA)(w:World)(X:Nat->Prop)(bo t:Nat)(h:qg)(bd:Nat)(D:Dk)(S J:Nat->Prop)(B:Nat)(V:qE)(f:Int)(b:yt aA w X bo t h bd D S J B V f)(ba:t<=2199023255552)(bs:Nat)(hbs:h.s=qz bs)
 (a:xg) (Q:Nat->Prop) (u:a.Ok w Q) (aI:∀k,Q k->¬X k/\k<w.heap.size):
 Calls Tryz.prog 62 #[.pointer (some ⟨bo,0,none⟩),.agg #[.int .i64 a.kind,.int .i64 a.A,.int .i64 a.B,.int .i64 a.C,.string a.S,.string a.P,.slice a.la a.l.length a.lc,.slice a.ka a.ks.length a.kc]] w λe w'=>Stepped aA w w' X bo t e:=by
 have q:=b.xlt;have k0:za (λ_=>False) w (w.alloc (.cells #[.int .i64 a.kind,.int .i64 a.A,.int .i64 a.B,.int .i64 a.C,.string a.S,.string a.P,.slice a.la a.l.length a.lc,.slice a.ka a.ks.length a.kc] 81)):=za.alloc _ _ _;have C:xc (w.alloc (.cells #[.int .i64 a.kind,.int .i64 a.A,.int .i64 a.B,.int .i64 a.C,.string a.S,.string a.P,.slice a.la a.l.length a.lc,.slice a.ka a.ks.length a.kc] 81)) w.heap.size a:=⟨ac w _⟩;have W:=u.kept k0 nF;have d:=b.kept k0 nF;have ae:w.heap.size<(w.alloc (.cells #[.int .i64 a.kind,.int .i64 a.A,.int .i64 a.B,.int .i64 a.C,.string a.S,.string a.P,.slice a.la a.l.length a.lc,.slice a.ka a.ks.length a.kc] 81)).heap.size:=by simp
 have r:=d.head.c0;rw [d.hd] at r;unfold qz at r;have aq:=d.head.c1;rw [hbs] at aq;unfold qz at aq;have a8:=C.c4;have a4:=C.c2;have aZ:=q bo b.bX;have K:Hid _:=ae;have ay:=b.good.few;change Hid _ at C W d b u aI hbs q k0;clear ae;generalize a5:w.alloc (.cells #[.int .i64 a.kind,.int .i64 a.A,.int .i64 a.B,.int .i64 a.C,.string a.S,.string a.P,.slice a.la a.l.length a.lc,.slice a.ka a.ks.length a.kc] 81)=I at*;go_enter Tryz.func62,Tryz.ntmps62;go_wp2_with fail;obtain⟨aX,aQ,aD,aL,aj⟩:=d.disk;refine(qD _ bd S D aX aQ aD aL aj).mono ?_;rintro e ag ⟨rfl,m⟩;rw [m];clear m ag aj;go_wp2_with fail;go_region_held3 (λw'=>w'.cell? ⟨bo,1,none⟩=some (.pointer (some ⟨bs,0,none⟩))/\w'.cell? ⟨w.heap.size,4,none⟩=some (.string a.S)/\w'.cell? ⟨w.heap.size,2,none⟩=some (.int .i64 a.B)) (go_keep) ((go_at_call 31;refine(J2 aA A _ X bo t h bd D S J B V f (by exact d.kept (za.drew (λ_=>False) I) nF) (by omega) bs hbs a.S u.out.S a.B u.out.B).mono ?_;rintro e o ⟨ah,G,c,rfl,ad,z,an,au,ap,U⟩;have j:Hid (yR aA I.drew o bd bs S G D ah):=ad;have ar:Hid _:=(⟨an,au,ap,U⟩:X bs/\¬S bs/\¬J bs/\bs≠bo);change Hid _ at z;clear ad an au ap U;have l:Hid _:=gz d q C W aI K j ar.out;have R:=l.head.c1;rw [hbs.out] at R;unfold qz at R;have aP:=l.box.c4;have a1:=l.box.c2));have r:=l.head.c0;rw [b.hd] at r;unfold qz at r;have s:=l.head.c2;rw [b.his] at s;unfold qz at s;have aM:∀k,G k->k<w.heap.size\/I.heap.size<=k:=λk g=>(j.foot k g).imp (λh=>q k (d.sX k h)) (λh=>h);have y:∀k,G k->k<o.heap.size:=λk g=>j.disk.lt k g;have aO:I.heap.size<=o.heap.size:=j.kept.size;have ae:=K.out;change Hid _ at aM y;go_wp2_with fail;obtain⟨aF,aB,az,aw,ab⟩:=l.disk;refine(qD _ bd G ah aF aB az aw ab).mono ?_;rintro e ag ⟨rfl,m⟩;rw [m];clear m ag ab;go_wp2_with fail;go_region_held3 (λw'=>w'.cell? ⟨bo,2,none⟩=some (.pointer (some ⟨B,0,none⟩))/\w'.cell? ⟨w.heap.size,4,none⟩=some (.string a.S)/\w'.cell? ⟨w.heap.size,2,none⟩=some (.int .i64 a.B)) (go_keep) ((go_at_call 101;refine(dy _ J J B V.vs f (by exact(l.kept (za.drew (λ_=>False) o) fE).ref) (by omega) a.S u.out.S a.B).mono ?_;rintro e ag ⟨rfl,m⟩;subst m));generalize E:Y5 (zp a.S.data.toList) (yi V.vs a.S a.B)=Z at*;change Hid _ at E;have M:za (λ_=>False) o o.drew:=kD;have O:Hid _:=l.kept M fE;have a9:o.heap.size=o.drew.heap.size:=rfl;change Hid _ at M;generalize o.drew=p at*;have s:=O.head.c2;rw [b.his] at s;unfold qz at s;go_wp2_with fail;refine(ux _ J J B V.vs f O.ref (by omega)).mono ?_;rintro e af ⟨rfl,av,F⟩;have n:=O.kept F fE;have a7:=F.size;have aU:=n.box.c4;have aT:=n.box.c2;have aH:Hid (zJ af (λk=>p.heap.size<=k) J p.heap.size V.vs f):=av;change Hid _ at n F;clear av;go_wp2_with fail;have P:zJ af (λk=>p.heap.size<=k/\k<af.heap.size) J p.heap.size V.vs f:=zJ.mono aH (λi ax aS=>⟨ax,aS⟩) (λi ax _=>ax);refine(Y7 _ (λk=>p.heap.size<=k/\k<af.heap.size) J p.heap.size V.vs f P (λk g L=>by have:=n.hR k L;omega) (λk g=>g.2) (λk g=>by have:=n.hR k g;have:=n.lt;omega) (by omega) a.S a.B).mono ?_;rintro e a0 ⟨rfl,N,aa⟩;have x:=n.kept aa (λk g=>⟨by have aE:=g.1;omega,λL=>by have:=y.out k L;have aE:=g.1;omega⟩);change Hid _ at x N aa;have Y:=b.died0;have aG:=b.told0;have a6:=b.tt;have aR:=j.reads0;have a2:=j.reads1;obtain⟨h',T⟩:=z.case j.size (.pointer (some ⟨p.heap.size,0,none⟩)) f ByteArray.empty 0 false none 0 0;change Hid _ at T;clear P;go_wp2_with fail;refine(xN _ bo h x.head bd b.hd G ah x.disk B b.his J J V.vs f x.ref ay b.good.body c Z 0 (by omega) (by omega) p.heap.size ByteArray.empty 0 false none 0 0 _ _ _ _ N (by omega) x.hSb Y (by omega) h' T).mono ?_;rintro e aY ⟨rfl,al,ai,ao⟩;change Hid _ at al ai ao;go_wp2;go_ret;have aN:=(((M.mono fE).trans F fE)).trans aa (λk g=>.inl g.1)
 have aK:=Xa aA w I.drew o a0 aY X bo t h bd D ah S G J B V f b bs hbs (k0.trans (za.drew _ I) iL) K j ar a.S a.B Z c (λaC=>by
  have H:=E.out;rw [aC] at H;cases am:zp a.S.data.toList;.rw [am] at H;simp [Y5] at H
  .rw [am] at H
   cases ak:yi V.vs a.S a.B with
   |none=>rw [ak] at H;simp [Y5] at H
   |some v=>obtain⟨aV,a3,aW⟩:=jQ ak;exact⟨v,aW,aV,a3⟩) z _ aN (λk g=>⟨by omega,λL=>by have:=y.out k L;omega⟩) ao p.heap.size h' al ai T _ _ N (λk g=>by rcases g with g|g<;>omega) (λk g=>.inl g)
 exact⟨zd (aJ (by omega)),aK.1,aK.2⟩
structure gA (M:ze):Prop where
 live:∀(w:World) (bd bs:Nat) (S:Nat->Prop) (D:Dk) (V:qE) (key:ByteArray),xw M w bd bs S D V->key.size<=maxLen->
  Calls Tryz.prog 30 #[.pointer (some ⟨bs,0,none⟩),.string key] w λe w'=>∃D' S' c n q,e=.returned (.tuple #[.int .i64 n,.int .i64 c])/\dC M w w' bd bs S S' D D' 40 q/\
   Chg M D D' V (V.add key true []) bd (qR (zp key.data.toList) (vT V.vs key)) c 1 q/\n=if c=0 then V.n0+1 else 0
 shut:∀(w:World) (bs:Nat) (key:ByteArray),M.Sto w bs none->key.size<=maxLen->
  Calls Tryz.prog 30 #[.pointer (some ⟨bs,0,none⟩),.string key] w λe w'=>e=.returned (.tuple #[.int .i64 0,.int .i64 (if zp key.data.toList=true then 8 else 2)])/\M.Sto w' bs none/\za (λk=>k=bs) w w'
theorem J3(k b:Bool):ys true (qR k b)=if k=true then 8 else 2:=by cases k<;>cases b<;>rfl
theorem Xc(v:ze)(A:gA v)(w:World)(X:Nat->Prop)(bo t:Nat)(h:qg)(bd:Nat)(D:Dk)(S F:Nat->Prop)(z:Nat)(V:qE)(u:Int)(o:yt v w X bo t h bd D S F z V u)(G:t<=4398046511104)(bs:Nat)(hbs:h.s=qz bs)
 (a:ByteArray) (f:a.size<=maxLen):
 Calls Tryz.prog 30 #[.pointer (some ⟨bs,0,none⟩),.string a] w λe w'=>∃D' S' c n,e=.returned (.tuple #[.int .i64 n,.int .i64 c])/\yR v w w' bd bs S S' D D'/\
  v9 v w' bs bd h D D' V (V.add a true []) (qR (zp a.data.toList) (vT V.vs a)) c 1/\n=(if c=0 then V.n0+1 else 0)/\X bs/\¬S bs/\¬F bs/\bs≠bo:=by
 have E:=o.n0t;have C:=o.tt
 cases o.st with
 |live d b r j p s g shut mb live=>
  have e:d=bs:=by rw [b] at hbs;unfold qz at hbs;simpa using hbs
  subst e;refine(A.live w bd d S D V a ⟨o.disk,j,g,live,o.fu,o.reads0,by have:=o.reads1;omega,by omega⟩ f).mono ?_;rintro e w' ⟨D',S',c,n,q,m,h2,l,B⟩;exact⟨D',S',c,n,m,⟨h2.disk,h2.foot,h2.kept,h2.reads0,h2.reads1,h2.size,h2.fuse⟩,.live q shut h2.sto l,B,r,j,p,s⟩
 |shut d b r j p s g shut torn=>
  have e:d=bs:=by rw [b] at hbs;unfold qz at hbs;simpa using hbs
  subst e;refine(A.shut w d a g f).mono ?_;rintro e w' ⟨m,h2,l⟩;refine⟨D,S,_,0,m,⟨o.disk.kept l (λi y x=>j (by rw [<-x];exact y)),λk f=>.inl f,l.mono (λk f=>.inr f),by omega,by omega,rfl,o.fu⟩,.shut shut h2 (J3 _ _).symm rfl,?_,r,j,p,s⟩;rw [aw];split<;>omega
 |gone b torn=>rw [b] at hbs;cases hbs
theorem Qs(aN:ze)(A:gA aN)(w:World)(X:Nat->Prop)(bo t:Nat)(h:qg)(bd:Nat)(D:Dk)(S U:Nat->Prop)(v:Nat)(V:qE)(d:Int)(b:yt aN w X bo t h bd D S U v V d)(bh:t<=2199023255552)(bs:Nat)(hbs:h.s=qz bs)
 (a:xg) (Q:Nat->Prop) (ad:a.Ok w Q) (aV:∀k,Q k->¬X k/\k<w.heap.size):
 Calls Tryz.prog 61 #[.pointer (some ⟨bo,0,none⟩),.agg #[.int .i64 a.kind,.int .i64 a.A,.int .i64 a.B,.int .i64 a.C,.string a.S,.string a.P,.slice a.la a.l.length a.lc,.slice a.ka a.ks.length a.kc]] w λe w'=>Stepped aN w w' X bo t e:=by
 have C:=b.xlt;have k0:za (λ_=>False) w (w.alloc (.cells #[.int .i64 a.kind,.int .i64 a.A,.int .i64 a.B,.int .i64 a.C,.string a.S,.string a.P,.slice a.la a.l.length a.lc,.slice a.ka a.ks.length a.kc] 81)):=za.alloc _ _ _;have aj:xc (w.alloc (.cells #[.int .i64 a.kind,.int .i64 a.A,.int .i64 a.B,.int .i64 a.C,.string a.S,.string a.P,.slice a.la a.l.length a.lc,.slice a.ka a.ks.length a.kc] 81)) w.heap.size a:=⟨ac w _⟩;have ap:=ad.kept k0 nF;have i:=b.kept k0 nF;have az:w.heap.size<(w.alloc (.cells #[.int .i64 a.kind,.int .i64 a.A,.int .i64 a.B,.int .i64 a.C,.string a.S,.string a.P,.slice a.la a.l.length a.lc,.slice a.ka a.ks.length a.kc] 81)).heap.size:=by simp
 have I:=i.head.c0;rw [i.hd] at I;unfold qz at I;have aG:=i.head.c1;rw [hbs] at aG;unfold qz at aG;have bf:=aj.c4;have a6:=C bo b.bX;have Z:Hid _:=az;have ar:=b.good.few;change Hid _ at aj ap i b ad aV hbs C k0;clear az;generalize bb:w.alloc (.cells #[.int .i64 a.kind,.int .i64 a.A,.int .i64 a.B,.int .i64 a.C,.string a.S,.string a.P,.slice a.la a.l.length a.lc,.slice a.ka a.ks.length a.kc] 81)=P at*;go_enter Tryz.func61,Tryz.ntmps61;go_wp2_with fail;obtain⟨a3,aZ,aR,aW,aD⟩:=i.disk;refine(qD _ bd S D a3 aZ aR aW aD).mono ?_;rintro e N ⟨rfl,o⟩;rw [o];clear o N aD;go_wp2_with fail;go_region_held3 (λw'=>w'.cell? ⟨bo,1,none⟩=some (.pointer (some ⟨bs,0,none⟩))/\w'.cell? ⟨w.heap.size,4,none⟩=some (.string a.S)) (go_keep) ((go_at_call 30;refine(Xc aN A _ X bo t h bd D S U v V d (by exact i.kept (za.drew (λ_=>False) P) nF) (by omega) bs hbs a.S ad.out.S).mono ?_;rintro e r ⟨af,s,c,n,rfl,ay,G,aA,aE,aH,aF,am⟩;have m:Hid (yR aN P.drew r bd bs S s D af):=ay;have au:Hid _:=(⟨aE,aH,aF,am⟩:X bs/\¬S bs/\¬U bs/\bs≠bo);change Hid _ at G aA;clear ay aE aH aF am;have p:Hid _:=gz i C aj ap aV Z m au.out;have ai:=p.head.c1;rw [hbs.out] at ai;unfold qz at ai;have aY:=p.box.c4));have I:=p.head.c0;rw [b.hd] at I;unfold qz at I;have K:=p.head.c2;rw [b.his] at K;unfold qz at K;have av:∀k,s k->k<w.heap.size\/P.heap.size<=k:=λk f=>(m.foot k f).imp (λh=>C k (i.sX k h)) (λh=>h);have F:∀k,s k->k<r.heap.size:=λk f=>m.disk.lt k f;have aX:P.heap.size<=r.heap.size:=m.kept.size;have az:=Z.out;change Hid _ at av F;go_wp2_with fail;obtain⟨aT,aQ,aO,aK,aq⟩:=p.disk;refine(qD _ bd s af aT aQ aO aK aq).mono ?_;rintro e N ⟨rfl,o⟩;rw [o];clear o N aq;go_wp2_with fail;go_region_held3 (λw'=>w'.cell? ⟨bo,2,none⟩=some (.pointer (some ⟨v,0,none⟩))/\w'.cell? ⟨w.heap.size,4,none⟩=some (.string a.S)) (go_keep) ((go_at_call 100;refine(fT _ U U v V.vs d (by exact(p.kept (za.drew (λ_=>False) r) fE).ref) (by omega) a.S ad.out.S).mono ?_;rintro e N ⟨rfl,aP,rfl⟩));generalize B:qR (zp a.S.data.toList) (vT V.vs a.S)=E at*;change Hid _ at B;have aa:za (λ_=>False) r (r.drewN (1+aP)):=kD;have ah:Hid _:=p.kept aa fE;have bg:r.heap.size=(r.drewN (1+aP)).heap.size:=rfl;change Hid _ at aa;generalize r.drewN (1+aP)=y at*;have K:=ah.head.c2;rw [b.his] at K;unfold qz at K;go_wp2_with fail;refine(ux _ U U v V.vs d ah.ref (by omega)).mono ?_;rintro e a1 ⟨rfl,aI,O⟩;have ab:=ah.kept O fE;have be:=O.size;have a2:=ab.box.c4;have aU:Hid (zJ a1 (λk=>y.heap.size<=k) U y.heap.size V.vs d):=aI;change Hid _ at ab O;clear aI;go_wp2_with fail;refine(dj _ (λk=>y.heap.size<=k) U Q y.heap.size V.vs d aU (λk f g=>by have:=ab.hR k g;omega) (by omega) a.S n true none 0 [] (.inl rfl) (by simp)).mono ?_;rintro e u ⟨rfl,J,ae⟩;have j:=ab.kept ae (λk f=>⟨by have aS:=f;omega,λg=>by have:=F.out k g;have aS:=f;omega⟩);have a7:=j.box.c4;change Hid _ at j J ae;have an:=b.told0;have q:=b.died0;have bc:=b.tt;go_wp2_with fail;refine(uz _ bo h j.head v b.his U U V.vs d j.ref n an (by omega) q (by omega)).mono ?_;rintro e N ⟨rfl,x,o⟩;rw [o];clear o N;have a9:=b.last0;have a4:=b.n0t;have a0:=m.reads0;have a8:=m.reads1
 have W:c=0->ZA n d h.told h.died=true:=λg=>by have:=aA.out;rw [aB g] at this;unfold ZA;exact aJ (by omega)
 have z:c≠0->n=0:=λg=>by have:=aA.out;rw [aw g] at this;exact this
 generalize ZA n d h.told h.died=ba at*;obtain⟨h',L⟩:=G.case m.size (.pointer (some ⟨y.heap.size,0,none⟩)) (max d n) a.S 0 true none 0 0;change Hid _ at L;by_cases g:c=0
 .have a5:(c !=0)=false:=by simpa using g
  have aC:=W g;subst aC;clear g W z;go_wp2_with fail
  go_region_held3 (λw'=>w'.cell? ⟨w.heap.size,4,none⟩=some (.string a.S)) (go_keep) ((first
   |(go_at_call 98;refine(xE _ _ (by omega) (by omega)).mono ?_;rintro e N ⟨rfl,rfl⟩)
   |(go_at_call 97;refine(xN _ bo h (by exact(KW.kept (wy:=u.drewN (x+1)) j (T:=λ_=>False) kD fE).head) bd b.hd s af (by exact(KW.kept (wy:=u.drewN (x+1)) j (T:=λ_=>False) kD fE).disk) v b.his U U V.vs d (by exact(KW.kept (wy:=u.drewN (x+1)) j (T:=λ_=>False) kD fE).ref) ar b.good.body c E _ (by omega) (by decide) y.heap.size a.S 0 true none 0 0 _ _ _ _ (by exact zJ.kept (T:=λ_=>False) J kD nF nF) (by omega) j.hSb q (by omega) h' (by exact L)).mono ?_;rintro e Y ⟨rfl,M,H,l⟩;have al:Hid _:=M;have ak:Hid _:=H;have R:Hid (za (λk=>k=bo\/s k) u Y):=⟨l.os,l.tape,l.output,l.size,l.block⟩;have aM:Y.cell? ⟨w.heap.size,4,none⟩=some (.string a.S):=(j.box.kept R (λg=>g.elim (λe=>by omega) (λg=>by have:=av.out _ g;omega))).c4;clear M H l)))
  go_wp2;go_ret;have ax:=(((aa.mono fE).trans O fE)).trans ae (λk f=>.inl f)
  have ao:=uA aN w P.drew r u Y X bo t h bd D af S s U v V d b bs hbs (k0.trans (za.drew _ P) iL) Z m au a.S true [] E c (λag aL=>by
   have:=B.out;rw [aL,kB,ag] at this
   simp [qR] at this) 1 (by omega) G n aA _ ax (λk f=>⟨by omega,λg=>by have:=F.out k g;omega⟩) R y.heap.size none 0 h' al ak L _ _ J (λk f=>by rcases f with f|f<;>omega) (λk f=>f.imp id (λf=>by omega)) (.inl rfl)
  exact⟨zd (aJ (by omega)),ao.1,ao.2⟩
 .have a5:(c !=0)=true:=by simpa using g
  have aC:=z g;have bi:(n==0)=true:=by simpa using aC
  clear g W z aC;go_wp2_with fail
  go_region_held3 (λw'=>w'.cell? ⟨w.heap.size,4,none⟩=some (.string a.S)) (go_keep) ((first
   |(go_at_call 98;refine(xE _ _ (by omega) (by omega)).mono ?_;rintro e N ⟨rfl,rfl⟩)
   |(go_at_call 97;refine(xN _ bo h (by exact(KW.kept (wy:=u.drewN (x+1)) j (T:=λ_=>False) kD fE).head) bd b.hd s af (by exact(KW.kept (wy:=u.drewN (x+1)) j (T:=λ_=>False) kD fE).disk) v b.his U U V.vs d (by exact(KW.kept (wy:=u.drewN (x+1)) j (T:=λ_=>False) kD fE).ref) ar b.good.body c E _ (by omega) (by decide) y.heap.size a.S 0 true none 0 0 _ _ _ _ (by exact zJ.kept (T:=λ_=>False) J kD nF nF) (by omega) j.hSb q (by omega) h' (by exact L)).mono ?_;rintro e Y ⟨rfl,M,H,l⟩;have al:Hid _:=M;have ak:Hid _:=H;have R:Hid (za (λk=>k=bo\/s k) u Y):=⟨l.os,l.tape,l.output,l.size,l.block⟩;have aM:Y.cell? ⟨w.heap.size,4,none⟩=some (.string a.S):=(j.box.kept R (λg=>g.elim (λe=>by omega) (λg=>by have:=av.out _ g;omega))).c4;clear M H l)))
  go_wp2;go_ret;have ax:=(((aa.mono fE).trans O fE)).trans ae (λk f=>.inl f)
  have ao:=uA aN w P.drew r u Y X bo t h bd D af S s U v V d b bs hbs (k0.trans (za.drew _ P) iL) Z m au a.S true [] E c (λag aL=>by
   have:=B.out;rw [aL,kB,ag] at this
   simp [qR] at this) 1 (by omega) G n aA _ ax (λk f=>⟨by omega,λg=>by have:=F.out k g;omega⟩) R y.heap.size none 0 h' al ak L _ _ J (λk f=>by rcases f with f|f<;>omega) (λk f=>f.imp id (λf=>by omega)) (.inl rfl)
  exact⟨zd (aJ (by omega)),ao.1,ao.2⟩
end law
namespace law
open Go.RowKit disk ref book
open keys (zp)
inductive gB (M:ze) (w':World) (bs bd:Nat) (h:qg) (D D':Dk) (V:qE):Prop
 |shut (hs:h.shut=true) (sto:M.Sto w' bs none) (hD:D'={D with reads:=D'.reads })
 |live (hs:h.shut=false) (sto:M.Sto w' bs (some bd)) (live:M.Live D' V)
structure Told (w w':World) (S':Nat->Prop) (o:Option zB) (x:Value) (c:Int):Prop where
 yes:c=0->∃u a cap,o=some u/\x=.slice a u.body.length cap/\w'.ownsRow 0 5 1 (.slice a u.body.length cap) u.body.length (u.body.map qy)/\∀k,(Value.slice a u.body.length cap).ownBlock=some k->w.heap.size<=k/\¬S' k
 no:c≠0->∃a cap,x=.slice a 0 cap
theorem cJ(k:Bool)(o:Option zB):ys true (yD k o)=if k=true then 8 else 2:=by
 cases k with
 |false=>rfl
 |true=>
  cases o with
  |none=>rfl
  |some v=>show (if cond v.mark (5:Int) 0=0\/cond v.mark (5:Int) 0=5 then (8:Int) else cond v.mark 5 0)=8;cases v.mark<;>rfl
theorem Qt{w w':World}{S':Nat->Prop}{o:Option zB}{j:Value}{c:Int}(h:OutIs w w' o j c)(g:∀k,j.ownBlock=some k->¬S' k):Told w w' S' o j c:=
 ⟨λe=>by
  obtain⟨u,i,a,b,h2,l,f⟩:=h.1 e
  exact⟨u,a,b,i,h2,l,λk d=>⟨f k d,g k (by rw [h2];exact d)⟩⟩,h.2⟩
theorem UK(B:ze)(A:gy B)(w:World)(X:Nat->Prop)(bo t:Nat)(h:qg)(bd:Nat)(D:Dk)(S L:Nat->Prop)(H:Nat)(V:qE)(x:Int)(o:yt B w X bo t h bd D S L H V x)(M:t<=4398046511104)(bs:Nat)(hbs:h.s=qz bs)
 (b:ByteArray) (f:b.size<=maxLen):
 Calls Tryz.prog 26 #[.pointer (some ⟨bs,0,none⟩),.string b] w λe w'=>∃D' S' z n,e=.returned (.tuple #[z,.int .i64 n,.int .i64 (ys h.shut (yD (zp b.data.toList) (qd V.vs b)))])/\yR B w w' bd bs S S' D D'/\
  gB B w' bs bd h D D' V/\Told w w' S' (qd V.vs b) z (ys h.shut (yD (zp b.data.toList) (qd V.vs b)))/\(ys h.shut (yD (zp b.data.toList) (qd V.vs b))≠0->n=0)/\
  (∀u,ys h.shut (yD (zp b.data.toList) (qd V.vs b))=0->qd V.vs b=some u->n=u.num)/\X bs/\¬S bs/\¬L bs/\bs≠bo:=by
 have K:=o.n0t;have J:=o.tt
 cases o.st with
 |live d c s l r v g shut mb live=>
  have e:d=bs:=by rw [c] at hbs;unfold qz at hbs;simpa using hbs
  subst e;refine(A.live w bd d S D V b ⟨o.disk,l,g,live,o.fu,o.reads0,by have:=o.reads1;omega,by omega⟩ f).mono ?_;rintro e w' ⟨D',z,n,S',q,h2,m,I,C,E,G⟩;rw [shut];exact⟨D',S',z,n,q,⟨h2.disk,h2.foot,h2.kept,h2.reads0,h2.reads1,h2.size,h2.fuse⟩,.live shut h2.sto m,Qt I C,E,G,s,l,r,v⟩
 |shut d c s l r v g shut torn=>
  have e:d=bs:=by rw [c] at hbs;unfold qz at hbs;simpa using hbs
  subst e;refine(A.shut w d b g f).mono ?_;rintro e w' ⟨a,y,q,h2,m⟩;rw [shut,cJ];have p:¬((if zp b.data.toList=true then (8:Int) else 2)=0):=by split<;>omega
  exact⟨D,S,_,0,q,⟨o.disk.kept m (λi F j=>l (by rw [<-j];exact F)),λk f=>.inl f,m.mono (λk f=>.inr f),by omega,by omega,rfl,o.fu⟩,.shut shut h2 rfl,⟨λj=>absurd j p,λ_=>⟨a,y,rfl⟩⟩,λ_=>rfl,λu j=>absurd j p,s,l,r,v⟩
 |gone c torn=>rw [c] at hbs;cases hbs
theorem Gu(z:ze)(A:cI z)(w:World)(X:Nat->Prop)(bo t:Nat)(h:qg)(bd:Nat)(D:Dk)(S J:Nat->Prop)(F:Nat)(V:qE)(v:Int)(o:yt z w X bo t h bd D S J F V v)(K:t<=4398046511104)(bs:Nat)(hbs:h.s=qz bs)
 (b:ByteArray) (g:b.size<=maxLen) (c:Int) (q:zD c):
 Calls Tryz.prog 42 #[.pointer (some ⟨bs,0,none⟩),.string b,.int .i64 c] w λe w'=>∃D' S' B,e=.returned (.tuple #[B,.int .i64 (ys h.shut (yD (zp b.data.toList) (yi V.vs b c)))])/\yR z w w' bd bs S S' D D'/\
  gB z w' bs bd h D D' V/\Told w w' S' (yi V.vs b c) B (ys h.shut (yD (zp b.data.toList) (yi V.vs b c)))/\X bs/\¬S bs/\¬J bs/\bs≠bo:=by
 have I:=o.n0t;have H:=o.tt
 cases o.st with
 |live f d s l r u j shut mb live=>
  have e:f=bs:=by rw [d] at hbs;unfold qz at hbs;simpa using hbs
  subst e;refine(A.live w bd f S D V b c ⟨o.disk,l,j,live,o.fu,o.reads0,by have:=o.reads1;omega,by omega⟩ g q).mono ?_;rintro e w' ⟨D',B,S',n,h2,m,G,C⟩;rw [shut];exact⟨D',S',B,n,⟨h2.disk,h2.foot,h2.kept,h2.reads0,h2.reads1,h2.size,h2.fuse⟩,.live shut h2.sto m,Qt G C,s,l,r,u⟩
 |shut f d s l r u j shut torn=>
  have e:f=bs:=by rw [d] at hbs;unfold qz at hbs;simpa using hbs
  subst e;refine(A.shut w f b c j g).mono ?_;rintro e w' ⟨a,x,n,h2,m⟩;rw [shut,cJ];have y:¬((if zp b.data.toList=true then (8:Int) else 2)=0):=by split<;>omega
  exact⟨D,S,_,n,⟨o.disk.kept m (λi E p=>l (by rw [<-p];exact E)),λk g=>.inl g,m.mono (λk g=>.inr g),by omega,by omega,rfl,o.fu⟩,.shut shut h2 rfl,⟨λp=>absurd p y,λ_=>⟨a,x,rfl⟩⟩,s,l,r,u⟩
 |gone d torn=>rw [d] at hbs;cases hbs
theorem jV(P:ze)(w F p Q:World)(X:Nat->Prop)(bo t:Nat)(h:qg)(bd:Nat)(D W:Dk)(S m Y:Nat->Prop)(aa:Nat)(V:qE)(x:Int)(a:yt P w X bo t h bd D S Y aa V x)(bs:Nat)(hbs:h.s=qz bs)
 (al:za (λ_=>False) w F) (ao:w.heap.size<=F.heap.size) {y:Int} (d:yR P F p bd bs S m D W y) (f:X bs/\¬S bs/\¬Y bs/\bs≠bo) (N:gB P p bs bd h D W V) (T:Nat->Prop) (l:za T p Q) (E:∀k,T k->¬X k/\¬m k) (ab:y<=1000:=by decide):
 One P Q (λk=>X k\/m k) bo (t+1):=by
 have G:=a.xlt;have an:=G bo a.bX;have aj:=G bs f.1;have U:∀k,m k->k<p.heap.size:=λk b=>d.disk.lt k b;have C:∀k,m k->S k\/F.heap.size<=k:=d.foot;have ad:=d.kept.size;have ae:=l.size
 have M:¬m bo:=λc=>by
  rcases C bo c with o|o;.exact a.bS o
  .omega
 have u:¬m bs:=λc=>by
  rcases C bs c with o|o;.exact f.2.1 o
  .omega
 have O:∀k,Y k->k<w.heap.size:=λk b=>G k (a.rX k b).1
 have R:∀k,Y k->¬m k:=λk b c=>by
  have o:=O k b;rcases C k c with h2|h2;.exact(a.rX k b).2.1 h2
  .omega
 have A:∀k,Y k->¬(S k\/k=bs):=λk b c=>by
  rcases c with c|c;.exact(a.rX k b).2.1 c
  .exact f.2.2.1 (by rw [<-c];exact b)
 have r:∀k,Y k->¬T k:=λk b c=>(E k c).1 (a.rX k b).1;have n:za (λk=>S k\/k=bs) w p:=(al.mono fE).trans d.kept iL;have ap:=a.reads1;have aq:=a.reads0;have af:=d.reads0;have am:=d.reads1;have ac:=d.size;have ah:=a.big;have v:∀q,P.Sto p bs q->P.Sto Q bs q:=λq ag=>P.sto_kept _ _ _ _ _ ag l (λc=>(E bs c).1 f.1)
 refine⟨h,bd,W,m,Y,aa,V,x,(a.head.kept n (λc=>c.elim a.bS (λe=>f.2.2.2 e.symm))).kept l (λc=>(E bo c).1 a.bX),a.hd,a.his,d.disk.kept l (λi ai c=>(E i c).2 ai),
  (a.ref.kept n A A).kept l r r,λk b=>.inr b,λk b=>⟨.inl (a.rX k b).1,R k b,(a.rX k b).2.2⟩,.inl a.bX,M,λk b=>?_,a.last0,a.lastv,a.told0,a.died0,a.n0t,lC a.tt (by omega),by omega,by omega,d.fuse,a.good,by omega,?_⟩
 .rcases b with b|b;.have:=G k b;have:=n.size;omega
  .have:=U k b;omega
 .cases N with
  |live z s live=>
   have Z:h.mb=.pointer none:=by
    cases a.st with
    |live J j I L K H B g mb=>exact mb
    |gone j=>rw [j] at hbs;cases hbs
    |shut J j I L K H B g=>rw [z] at g;cases g
   exact .live bs hbs (.inl f.1) u f.2.2.1 f.2.2.2 (v _ s) z Z live
  |shut z s ak=>
   cases a.st with
   |live _ _ _ _ _ _ _ shut=>rw [z] at shut;cases shut
   |gone j=>rw [j] at hbs;cases hbs
   |shut J j I L K H B g torn=>
    exact .shut bs hbs (.inl f.1) u f.2.2.1 f.2.2.2 (v _ s) z (((torn.kept n A).kept l r).reads ak)
theorem ua{s:Bool}{c:Int}(h:ys s c=0):c=0:=by
 cases s with
 |false=>exact h
 |true=>
  have h2:(if c=0\/c=5 then (8:Int) else c)=0:=h;by_cases a:c=0\/c=5;.rw [aB a] at h2;omega
  .rw [aw a] at h2;exact h2
structure Ve (M:ze) (w w':World) (X:Nat->Prop) (bo t bp:Nat) (lv:Value) (F H:Nat->Prop) (b:Option Addr) (cb:Nat) (es vs:List xU) (e:Ending):Prop where
 ret:e=.returned (.bool true)
 st:∃X' F' a' ca' es',One M w' X' bo (t+1)/\xq w' bp lv F' H a' b ca' cb es' vs/\es'.length<=es.length+1/\(∀k,X' k->X k\/w.heap.size<=k)/\(∀k,F' k->F k\/w.heap.size<=k)/\∀k,X' k->¬F' k/\¬H k/\k≠bp
 kept:za (λk=>X k\/F k\/k=bp) w w'
def ZG(v:zB):List Value:=[.string v.key,.int .i64 v.num,.bool v.mark,.int .i64 (v.body.length:Int)]
def qq(l:List zB):List Value:=(l.map ZG).flatten
structure gC (w w':World) (L:List zB) (m:Nat) (x:Value) (more:Bool):Prop where
 more:more=decide (m<L.length)
 at_:∃a c,x=.slice a (L.take m).length c/\w'.ownsRow 0 94 4 (.slice a (L.take m).length c) (L.take m).length (qq (L.take m))/\∀k,(Value.slice a (L.take m).length c).ownBlock=some k->w.heap.size<=k
structure xy (M:ze):Prop where
 live:∀(w:World) (bd bs:Nat) (S:Nat->Prop) (D:Dk) (V:qE) (p k:ByteArray) (n m:Int),xw M w bd bs S D V->p.size<=maxLen->k.size<=maxLen->zD n->zD m->
  Calls Tryz.prog 45 #[.pointer (some ⟨bs,0,none⟩),.string p,.string k,.int .i64 n,.int .i64 m] w λe w'=>∃D' S' x more,e=.returned (.tuple #[.agg #[x,.bool more],.int .i64 (qH p k n m)])/\dC M w w' bd bs S S' D D' 1000 (some bd)/\M.Live D' V/\
   (qH p k n m=0->∃L,yw V.vs p k n L/\gC w w' L m.toNat x more)/\(qH p k n m≠0->x=.slice none 0 0/\more=false)/\∀j,x.ownBlock=some j->¬S' j
 shut:∀(w:World) (bs:Nat) (p k:ByteArray) (n m:Int),M.Sto w bs none->p.size<=maxLen->k.size<=maxLen->
  Calls Tryz.prog 45 #[.pointer (some ⟨bs,0,none⟩),.string p,.string k,.int .i64 n,.int .i64 m] w λe w'=>e=.returned (.tuple #[.agg #[.slice none 0 0,.bool false],.int .i64 (ys true (qH p k n m))])/\M.Sto w' bs none/\za (λk=>k=bs) w w'
end law
end Go.Proofs.YtcoengihaobddaaGreatDoor
