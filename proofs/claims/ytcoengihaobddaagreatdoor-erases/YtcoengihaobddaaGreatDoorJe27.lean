/- Part 27 of 50 of a proof: Law15, Law14 -/
import Derived.Test.YtcoengihaobddaaGreatDoorJe18
set_option maxHeartbeats 8000000
set_option linter.unusedVariables false
set_option linter.unusedSimpArgs false
set_option maxRecDepth 8000
namespace Go.Proofs.YtcoengihaobddaaGreatDoor
namespace law
open Go.ChangeShapes Go.WideShapes Go.ChangeAt Go.RowKit disk ref book
open keys (zg zd zq zl zh)
structure qr (M:za):Prop where
 live:∀(w:World) (bd bs:Nat) (S:Nat->Prop) (D:Dk) (V:zP) (key:ByteArray) (num:Int),zD M w bd bs S D V->key.size<=maxLen->zs num->
  Calls Tryz.prog 31 #[.pointer (some ⟨bs,0,none⟩),.string key,.int .i64 num] w λe w'=>∃D' S' c q,e=.returned (.int .i64 c)/\xm M w w' bd bs S S' D D' 40 q/\
   Chg M D D' V (V.sub key num) bd (QX (zh key.data.toList) (qK V.vs key num)) c 0 q
 shut:∀(w:World) (bs:Nat) (key:ByteArray) (num:Int),M.Sto w bs none->key.size<=maxLen->
  Calls Tryz.prog 31 #[.pointer (some ⟨bs,0,none⟩),.string key,.int .i64 num] w λe w'=>e=.returned (.int .i64 (if zh key.data.toList=true then 8 else 2))/\M.Sto w' bs none/\Kept (λk=>k=bs) w w'
theorem Ux(k:Bool)(a:Option zw):yH true (QX k a)=if k=true then 8 else 2:=by cases k<;>cases a<;>rfl
theorem Uy(M:za)(A:qr M)(w:World)(X:Nat->Prop)(bo t:Nat)(h:qm)(bd:Nat)(D:Dk)(S F:Nat->Prop)(B:Nat)(V:zP)(r:Int)(n:yY M w X bo t h bd D S F B V r)(I:t<=4398046511104)(bs:Nat)(hbs:h.s=yp bs)
 (a:ByteArray) (j:a.size<=maxLen) (d:Int) (y:zs d):
 Calls Tryz.prog 31 #[.pointer (some ⟨bs,0,none⟩),.string a,.int .i64 d] w λe w'=>∃p S' c,e=.returned (.int .i64 c)/\xx M w w' bd bs S S' D p/\
  xw M w' bs bd h D p V (V.sub a d) (QX (zh a.data.toList) (qK V.vs a d)) c 0/\X bs/\¬S bs/\¬F bs/\bs≠bo:=by
 have H:=n.n0t;have G:=n.tt
 cases n.st using yj.elim with
 |live g f s m z x l shut mb live=>
  have e:g=bs:=by rw [f] at hbs;unfold yp at hbs;simpa using hbs
  subst e;refine(A.live w bd g S D V a d ⟨n.disk,m,l,live,n.fu,n.reads0,by have:=n.reads1;omega,by omega⟩ j y).mono ?_;rintro e w' ⟨p,S',c,q,u,b,o⟩;exact⟨p,S',c,u,⟨b.disk,b.foot,b.kept,b.reads0,b.reads1,b.size,b.fuse⟩,.live q shut b.sto o,s,m,z,x⟩
 |shut g f s m z x l shut v=>
  have e:g=bs:=by rw [f] at hbs;unfold yp at hbs;simpa using hbs
  subst e;refine(A.shut w g a d l j).mono ?_;rintro e w' ⟨u,b,o⟩;exact⟨D,S,_,u,⟨n.disk.kept o (λi C E=>m (by rw [<-E];exact C)),λk j=>.inl j,o.mono (λk j=>.inr j),by omega,by omega,rfl,n.fu⟩,.shut shut b (Ux _ _).symm rfl,s,m,z,x⟩
 |gone f v=>rw [f] at hbs;cases hbs
theorem bg:∀(vs:List zw) (k:ByteArray) (n:Int),xt vs->(∃v∈vs,v.key=k/\v.num=n)->(qF vs k n).length+1=vs.length
 |[],k,n,_,⟨v,b,_⟩=>by cases b
 |u::vs,k,n,ha,⟨v,b,h1,h2⟩=>by
  unfold xt at ha;rw [aR] at ha;unfold qF;rw [hE];by_cases a:u.key=k/\u.num=n
  .have c:(!(decide (u.key=k)&&decide (u.num=n)))=false:=by simp [a.1,a.2]
   rw [c];simp only [lI,if_false,ae,Nat.add_right_cancel_iff];rw [eT.2];intro g h;have:=ha.1 g h;have e:¬(g.key=k/\g.num=n):=λf=>this ⟨a.1.trans f.1.symm,a.2.trans f.2.symm⟩;rw [ij,iM];simp only [ne_eq,aS,aO];exact e
  .have c:(!(decide (u.key=k)&&decide (u.num=n)))=true:=by
    rw [ij,iM];simp only [ne_eq,aS,aO];exact a
   rw [c,aB rfl]
   have d:v∈vs:=by
    rcases aq.1 b with rfl|b;.exact absurd ⟨h1,h2⟩ a
    .exact b
   have:=bg vs k n ha.2 ⟨v,d,h1,h2⟩;unfold qF at this;simp only [ae];omega
theorem Kt(M:za)(w aN R aD j:World)(X:Nat->Prop)(bo t:Nat)(h:qm)(bd:Nat)(D K:Dk)(S B aA:Nat->Prop)(aQ:Nat)(V:zP)(l:Int)(a:yY M w X bo t h bd D S aA aQ V l)(bs:Nat)(hbs:h.s=yp bs)
 (aT:Kept (λ_=>False) w aN) (bk:w.heap.size<aN.heap.size) (g:xx M aN R bd bs S B D K) (i:X bs/\¬S bs/\¬aA bs/\bs≠bo) (z:ByteArray) (s:Int) (Z c:Int) (aE:Z=0->∃v∈V.vs,v.key=z/\v.num=s)
 (aM:xw M R bs bd h D K V (V.sub z s) Z c 0) (T:Nat->Prop) (O:Kept T R aD) (aO:∀k,T k->w.heap.size<k/\¬B k) (E:Kept (λk=>k=bo\/B k) aD j)
 (af:Nat) (H:qm) (aw:zE j bo H) (a3:∃A,ze j bd A K/\∀k,A k->B k) (Q:qY h K V.vs c Z 0 (yp af) l ByteArray.empty 0 false none 0 0 H)
 (a4 aX:Nat->Prop) (a2:qo aD a4 aX af (qF V.vs z s) l) (aU:∀k,a4 k->R.heap.size<=k) (a1:∀k,aX k->aA k\/R.heap.size<=k):
 (∃aV,One M j aV bo (t+1)/\∀k,aV k->X k\/w.heap.size<=k)/\Kept X w j:=by
 have aB:=a.xlt;have bm:=aB bo a.bX;have bi:=aB bs i.1;have al:∀k,B k->k<R.heap.size:=λk b=>g.disk.lt k b;have L:=g.foot;have bh:=g.kept.size;have ba:=O.size;have a8:=E.size
 have aL:¬B bo:=λd=>by
  rcases L bo d with f|f;.exact a.bS f
  .omega
 have ap:¬B bs:=λd=>by
  rcases L bs d with f|f;.exact i.2.1 f
  .omega
 have ak:∀k,aA k->k<w.heap.size:=λk b=>aB k (a.rX k b).1
 have aS:∀k,aA k->¬B k:=λk b d=>by
  have f:=ak k b;rcases L k d with G|G;.exact(a.rX k b).2.1 G
  .omega
 obtain⟨A,u,ac⟩:=a3
 have aZ:=(((aT.mono fE).trans g.kept (λk b=>b.elim (λf=>.inl (a.sX k f)) (λf=>.inl (by rw [f];exact i.1)))).trans O (λk b=>.inr (by have:=(aO k b).1;omega))).trans E (λk b=>by
  rcases b with rfl|b;.exact .inl a.bX
  .rcases L k b with f|f;.exact .inl (a.sX k f)
   .exact .inr (by omega))
 refine⟨⟨λk=>X k\/(w.heap.size<=k/\k<j.heap.size),?_,λk b=>b.imp id (λh=>h.1)⟩,aZ⟩
 have am:∀k,aA k->¬(S k\/k=bs):=λk b d=>by
  rcases d with d|d;.exact(a.rX k b).2.1 d
  .exact i.2.2.1 (by rw [<-d];exact b)
 have U:∀k,aA k->¬T k:=λk b d=>by have:=(aO k d).1;have:=ak k b;omega
 have J:∀k,aA k->¬(k=bo\/B k):=λk b d=>d.elim (a.rX k b).2.2 (aS k b);let R':Nat->Prop:=λk=>aA k\/(R.heap.size<=k/\k<aD.heap.size);have av:∀k,aA k->k<j.heap.size->R' k:=λk b _=>.inl b;have ai:=((((a.ref.kept aT nF nF).kept g.kept am am).kept O U U).kept E J J).mono av av
 have p:∀k,R' k->¬(k=bo\/B k):=λk b d=>by
  rcases b with b|b;.exact J k b d
  .rcases d with d|d;.omega
   .have:=al k d;omega
 have ae:=(a2.mono (F':=R') (G':=R') (λk b ar=>.inr ⟨aU k b,ar⟩) (λk b ar=>(a1 k b).imp id (λh=>⟨h,ar⟩))).kept E p p
 have aq:∀k,R' k->(X k\/(w.heap.size<=k/\k<j.heap.size))/\¬A k/\k≠bo:=λk b=>by
  refine⟨?_,λd=>p k b (.inr (ac k d)),λd=>p k b (.inl d)⟩;rcases b with b|b;.exact .inl (a.rX k b).1
  .exact .inr ⟨by omega,by omega⟩
 have m:¬R' bs:=λd=>by
  rcases d with d|d;.exact i.2.2.1 d
  .omega
 have y:∀q,M.Sto R bs q->M.Sto j bs q:=λq bb=>M.sto_kept _ _ _ _ _ (M.sto_kept _ _ _ _ _ bb O (λd=>by have:=(aO bs d).1;omega)) E (λd=>d.elim i.2.2.2 ap)
 have ay:∀k,A k->X k\/(w.heap.size<=k/\k<j.heap.size):=λk b=>by
  have f:=ac k b;rcases L k f with G|G;.exact .inl (a.sX k G)
  .exact .inr ⟨by omega,by have:=al k f;omega⟩
 have aa:∀k,(X k\/(w.heap.size<=k/\k<j.heap.size))->k<j.heap.size:=λk b=>by
  rcases b with b|b;.have:=aB k b;omega
  .exact b.2
 have ah:¬A bo:=λd=>aL (ac bo d);have r:¬A bs:=λd=>ap (ac bs d);have aY:=a.tt;have bj:=a.reads0;have bl:=a.reads1;have be:=g.reads0;have a9:=g.reads1;have ag:=a.last0;have au:=a.n0t;have I:=a.told0;have ad:=a.died0;have a5:=g.size;have bf:=a.big;have a7:=a.good.n0;have ao:=a.hd;have aH:=a.his
 have ab:H=h->yj M j (λk=>X k\/(w.heap.size<=k/\k<j.heap.size)) A R' bo bd h K V l->One M j (λk=>X k\/(w.heap.size<=k/\k<j.heap.size)) bo (t+1):=λe st=>by subst e;exact⟨H,bd,K,A,R',aQ,V,l,aw,ao,aH,u,ai,ay,aq,.inl a.bX,ah,aa,ag,a.lastv,I,ad,au,by omega,by omega,by omega,g.fuse,a.good,by omega,st⟩
 cases aM using xw.elim with
 |shut n F d a6=>
  have e:H=h:=by
   cases Q using qY.elim with
   |shut=>rfl
   |wanted=>rfl
   |space f=>simp [n] at f
   |ok f=>rw [n] at f;cases f
   |dead f=>rw [n] at f;cases f
  refine ab e ?_
  cases a.st using yj.elim with
  |live _ _ _ _ _ _ _ shut=>rw [n] at shut;cases shut
  |gone C=>rw [C] at hbs;cases hbs
  |shut aG C aI aJ aF aK aj o aP=>
   exact .shut bs hbs (.inl i.1) r m i.2.2.2 (y _ F) n ((((((aP.kept aT nF).kept g.kept am).kept O U).kept E J).mono av).reads a6)
 |live q n F aW=>
  have a0:=a.st
  have ax:h.mb=.pointer none:=by
   cases a0 using yj.elim with
   |live aG C aI aJ aF aK aj o mb=>exact mb
   |gone C=>rw [C] at hbs;cases hbs
   |shut aG C aI aJ aF aK aj o=>rw [n] at o;cases o
  rcases aW.is with⟨f,G,Y,W⟩|⟨f,G,Y,W⟩|⟨f,G,Y,W,_⟩|⟨f,G,Y,W,bc⟩
  .subst Y
   have e:H=h:=by
    cases Q using qY.elim with
    |shut=>rfl
    |wanted=>rfl
    |space=>rfl
    |ok _ x=>exact absurd x f
    |dead _ x=>exact absurd x f
   exact ab e (.live bs hbs (.inl i.1) r m i.2.2.2 (y _ F) n ax W)
  .subst Y
   have e:H={h with is:=yp af}:=by
    cases Q using qY.elim with
    |shut N=>rw [n] at N;cases N
    |wanted _ x=>exact absurd f x
    |space _ _ P=>omega
    |ok=>unfold qm.okd;rw [az (by omega)]
    |dead _ _ P=>omega
   have aC:=W.good;have aR:∀v,v∈(V.sub z s).vs->v∈V.vs:=λv an=>(eA.1 an).1;subst e;exact⟨_,bd,K,A,R',af,V.sub z s,l,aw,ao,rfl,u,ae,ay,aq,.inl a.bX,ah,aa,ag,λv an=>a.lastv v (aR v an),I,ad,au,lU aY (by omega),by omega,by omega,g.fuse,aC,by omega,.live bs hbs (.inl i.1) r m i.2.2.2 (y _ F) n ax W⟩
  .subst Y
   have e:H=h:=by
    cases Q using qY.elim with
    |shut=>rfl
    |wanted=>rfl
    |space=>rfl
    |ok _ _ P=>omega
    |dead _ _ P=>omega
   exact ab e (.live bs hbs (.inl i.1) r m i.2.2.2 (y _ F) n ax W)
  .subst Y
   have e:H={h with shut:=true,mb:=yp af,k0:=.string ByteArray.empty,k1:=.int .i64 0,k2:=.bool false,k3:=.slice none 0 0,died:=h.died+1}:=by
    cases Q using qY.elim with
    |shut N=>rw [n] at N;cases N
    |wanted _ x=>exact absurd f x
    |space _ _ P=>omega
    |ok _ _ P=>omega
    |dead=>rfl
   subst e
   refine⟨_,bd,K,A,R',aQ,V,l,aw,ao,aH,u,ai,ay,aq,.inl a.bX,ah,aa,ag,a.lastv,I,?_,?_,?_,by omega,by omega,g.fuse,a.good,by omega,
    .shut bs hbs (.inl i.1) r m i.2.2.2 (y _ F) rfl (.erase af (qF V.vs z s) 0 false none 0 0 rfl rfl rfl rfl rfl ae (bg V.vs z s a.good.apart (aE f)) (λv an=>(eA.1 an).1) bc)⟩
   .show 0<=h.died+1;omega
   .show V.n0<=h.told+(h.died+1);omega
   .show h.told+(h.died+1)<=((t+1:Nat):Int);omega
theorem ZA(M:za)(A:qr M)(w:World)(X:Nat->Prop)(bo t:Nat)(h:qm)(bd:Nat)(D:Dk)(S G:Nat->Prop)(B:Nat)(V:zP)(f:Int)(b:yY M w X bo t h bd D S G B V f)(a9:t<=2199023255552)(bs:Nat)(hbs:h.s=yp bs)
 (a:yC) (Q:Nat->Prop) (u:a.Ok w Q) (aJ:∀k,Q k->¬X k/\k<w.heap.size):
 Calls Tryz.prog 62 #[.pointer (some ⟨bo,0,none⟩),.agg #[.int .i64 a.kind,.int .i64 a.A,.int .i64 a.B,.int .i64 a.C,.string a.S,.string a.P,.slice a.la a.l.length a.lc,.slice a.ka a.ks.length a.kc]] w λe w'=>Stepped M w w' X bo t e:=by
 have q:=b.xlt;have k0:Kept (λ_=>False) w (w.alloc (.cells #[.int .i64 a.kind,.int .i64 a.A,.int .i64 a.B,.int .i64 a.C,.string a.S,.string a.P,.slice a.la a.l.length a.lc,.slice a.ka a.ks.length a.kc] 81)):=Kept.alloc _ _ _;have E:xj (w.alloc (.cells #[.int .i64 a.kind,.int .i64 a.A,.int .i64 a.B,.int .i64 a.C,.string a.S,.string a.P,.slice a.la a.l.length a.lc,.slice a.ka a.ks.length a.kc] 81)) w.heap.size a:=⟨heap_alloc_new w _⟩;have R:=u.kept k0 nF;have d:=b.kept k0 nF;have U:w.heap.size<(w.alloc (.cells #[.int .i64 a.kind,.int .i64 a.A,.int .i64 a.B,.int .i64 a.C,.string a.S,.string a.P,.slice a.la a.l.length a.lc,.slice a.ka a.ks.length a.kc] 81)).heap.size:=by simp
 have r:=d.head.c0;rw [d.hd] at r;unfold yp at r;have au:=d.head.c1;rw [hbs] at au;unfold yp at au;have a7:=E.c4;have a8:=E.c2;have aU:=q bo b.bX;have P:Hid _:=U;have ay:=b.good.few;change Hid _ at E R d b u aJ hbs q k0;clear U;generalize a4:w.alloc (.cells #[.int .i64 a.kind,.int .i64 a.A,.int .i64 a.B,.int .i64 a.C,.string a.S,.string a.P,.slice a.la a.l.length a.lc,.slice a.ka a.ks.length a.kc] 81)=w0 at*;go_enter Tryz.func62,Tryz.ntmps62;go_wp2_with fail;obtain⟨aR,aX,aH,aE,aj⟩:=d.disk;refine(ya _ bd S D aR aX aH aE aj).mono ?_;rintro e ag ⟨rfl,m⟩;rw [m];clear m ag aj;go_wp2_with fail;go_region_held3 (λw'=>w'.cell? ⟨bo,1,none⟩=some (.pointer (some ⟨bs,0,none⟩))/\w'.cell? ⟨w.heap.size,4,none⟩=some (.string a.S)/\w'.cell? ⟨w.heap.size,2,none⟩=some (.int .i64 a.B)) (go_keep) ((go_at_call 31;refine(Uy M A _ X bo t h bd D S G B V f (by exact d.kept (Kept.drew (λ_=>False) w0) nF) (by omega) bs hbs a.S u.out.S a.B u.out.B).mono ?_;rintro e o ⟨af,I,c,rfl,L,z,an,aq,al,ab⟩;have j:Hid (xx M w0.drew o bd bs S I D af):=L;have ap:Hid _:=(⟨an,aq,al,ab⟩:X bs/\¬S bs/\¬G bs/\bs≠bo);change Hid _ at z;clear L an aq al ab;have l:Hid _:=dC d q E R aJ P j ap.out;have ac:=l.head.c1;rw [hbs.out] at ac;unfold yp at ac;have a1:=l.box.c4;have aP:=l.box.c2));have r:=l.head.c0;rw [b.hd] at r;unfold yp at r;have x:=l.head.c2;rw [b.his] at x;unfold yp at x;have aB:∀k,I k->k<w.heap.size\/w0.heap.size<=k:=λk g=>(j.foot k g).imp (λh=>q k (d.sX k h)) (λh=>h);have y:∀k,I k->k<o.heap.size:=λk g=>j.disk.lt k g;have aY:w0.heap.size<=o.heap.size:=j.kept.size;have U:=P.out;change Hid _ at aB y;go_wp2_with fail;obtain⟨aK,aM,ax,aw,T⟩:=l.disk;refine(ya _ bd I af aK aM ax aw T).mono ?_;rintro e ag ⟨rfl,m⟩;rw [m];clear m ag T;go_wp2_with fail;go_region_held3 (λw'=>w'.cell? ⟨bo,2,none⟩=some (.pointer (some ⟨B,0,none⟩))/\w'.cell? ⟨w.heap.size,4,none⟩=some (.string a.S)/\w'.cell? ⟨w.heap.size,2,none⟩=some (.int .i64 a.B)) (go_keep) ((go_at_call 101;refine(cS _ G G B V.vs f (by exact(l.kept (Kept.drew (λ_=>False) o) fE).ref) (by omega) a.S u.out.S a.B).mono ?_;rintro e ag ⟨rfl,m⟩;subst m));generalize C:QX (zh a.S.data.toList) (qK V.vs a.S a.B)=Z at*;change Hid _ at C;have W:Kept (λ_=>False) o o.drew:=kD;have aa:Hid _:=l.kept W fE;have a3:o.heap.size=o.drew.heap.size:=rfl;change Hid _ at W;generalize o.drew=p at*;have x:=aa.head.c2;rw [b.his] at x;unfold yp at x;go_wp2_with fail;refine(cT _ G G B V.vs f aa.ref (by omega)).mono ?_;rintro e ae ⟨rfl,ak,F⟩;have n:=aa.kept F fE;have a5:=F.size;have aS:=n.box.c4;have a0:=n.box.c2;have aC:Hid (qo ae (λk=>p.heap.size<=k) G p.heap.size V.vs f):=ak;change Hid _ at n F;clear ak;go_wp2_with fail;have N:qo ae (λk=>p.heap.size<=k/\k<ae.heap.size) G p.heap.size V.vs f:=qo.mono aC (λi av aO=>⟨av,aO⟩) (λi av _=>av);refine(J4 _ (λk=>p.heap.size<=k/\k<ae.heap.size) G p.heap.size V.vs f N (λk g Y=>by have:=n.hR k Y;omega) (λk g=>g.2) (λk g=>by have:=n.hR k g;have:=n.lt;omega) (by omega) a.S a.B).mono ?_;rintro e aZ ⟨rfl,K,O⟩;have s:=n.kept O (λk g=>⟨by have az:=g.1;omega,λY=>by have:=y.out k Y;have az:=g.1;omega⟩);change Hid _ at s K O;have J:=b.died0;have aL:=b.told0;have a6:=b.tt;have aW:=j.reads0;have aQ:=j.reads1;obtain⟨aA,ad⟩:=z.case j.size (.pointer (some ⟨p.heap.size,0,none⟩)) f ByteArray.empty 0 false none 0 0;change Hid _ at ad;clear N;go_wp2_with fail;refine(jI _ bo h s.head bd b.hd I af s.disk B b.his G G V.vs f s.ref ay b.good.body c Z 0 (by omega) (by omega) p.heap.size ByteArray.empty 0 false none 0 0 _ _ _ _ K (by omega) s.hSb J (by omega) aA ad).mono ?_;rintro e aN ⟨rfl,ar,ao,ah⟩;change Hid _ at ar ao ah;go_wp2;go_ret;have aD:=(((W.mono fE).trans F fE)).trans O (λk g=>.inl g.1)
 have aI:=Kt M w w0.drew o aZ aN X bo t h bd D af S I G B V f b bs hbs (k0.trans (Kept.drew _ w0) iL) P j ap a.S a.B Z c (λaF=>by
  have H:=C.out;rw [aF] at H;cases ai:zh a.S.data.toList;.rw [ai] at H;simp [QX] at H
  .rw [ai] at H
   cases am:qK V.vs a.S a.B with
   |none=>rw [am] at H;simp [QX] at H
   |some v=>obtain⟨aV,aT,a2⟩:=jv am;exact⟨v,a2,aV,aT⟩) z _ aD (λk g=>⟨by omega,λY=>by have:=y.out k Y;omega⟩) ah p.heap.size aA ar ao ad _ _ K (λk g=>by rcases g with g|g<;>omega) (λk g=>.inl g)
 exact⟨zd (aG (by omega)),aI.1,aI.2⟩
structure x8 (M:za):Prop where
 live:∀(w:World) (bd bs:Nat) (S:Nat->Prop) (D:Dk) (V:zP) (key:ByteArray),zD M w bd bs S D V->key.size<=maxLen->
  Calls Tryz.prog 30 #[.pointer (some ⟨bs,0,none⟩),.string key] w λe w'=>∃D' S' c n q,e=.returned (.tuple #[.int .i64 n,.int .i64 c])/\xm M w w' bd bs S S' D D' 40 q/\
   Chg M D D' V (V.add key true []) bd (ye (zh key.data.toList) (kB V.vs key)) c 1 q/\n=if c=0 then V.n0+1 else 0
 shut:∀(w:World) (bs:Nat) (key:ByteArray),M.Sto w bs none->key.size<=maxLen->
  Calls Tryz.prog 30 #[.pointer (some ⟨bs,0,none⟩),.string key] w λe w'=>e=.returned (.tuple #[.int .i64 0,.int .i64 (if zh key.data.toList=true then 8 else 2)])/\M.Sto w' bs none/\Kept (λk=>k=bs) w w'
theorem Uz(k b:Bool):yH true (ye k b)=if k=true then 8 else 2:=by cases k<;>cases b<;>rfl
theorem Ku(M:za)(A:x8 M)(w:World)(X:Nat->Prop)(bo t:Nat)(h:qm)(bd:Nat)(D:Dk)(S F:Nat->Prop)(B:Nat)(V:zP)(r:Int)(m:yY M w X bo t h bd D S F B V r)(I:t<=4398046511104)(bs:Nat)(hbs:h.s=yp bs)
 (a:ByteArray) (g:a.size<=maxLen):
 Calls Tryz.prog 30 #[.pointer (some ⟨bs,0,none⟩),.string a] w λe w'=>∃p S' c n,e=.returned (.tuple #[.int .i64 n,.int .i64 c])/\xx M w w' bd bs S S' D p/\
  xw M w' bs bd h D p V (V.add a true []) (ye (zh a.data.toList) (kB V.vs a)) c 1/\n=(if c=0 then V.n0+1 else 0)/\X bs/\¬S bs/\¬F bs/\bs≠bo:=by
 have H:=m.n0t;have G:=m.tt
 cases m.st using yj.elim with
 |live f d s l y v j shut mb live=>
  have e:f=bs:=by rw [d] at hbs;unfold yp at hbs;simpa using hbs
  subst e;refine(A.live w bd f S D V a ⟨m.disk,l,j,live,m.fu,m.reads0,by have:=m.reads1;omega,by omega⟩ g).mono ?_;rintro e w' ⟨p,S',c,n,q,u,b,o,z⟩;exact⟨p,S',c,n,u,⟨b.disk,b.foot,b.kept,b.reads0,b.reads1,b.size,b.fuse⟩,.live q shut b.sto o,z,s,l,y,v⟩
 |shut f d s l y v j shut x=>
  have e:f=bs:=by rw [d] at hbs;unfold yp at hbs;simpa using hbs
  subst e;refine(A.shut w f a j g).mono ?_;rintro e w' ⟨u,b,o⟩;refine⟨D,S,_,0,u,⟨m.disk.kept o (λi C E=>l (by rw [<-E];exact C)),λk g=>.inl g,o.mono (λk g=>.inr g),by omega,by omega,rfl,m.fu⟩,.shut shut b (Uz _ _).symm rfl,?_,s,l,y,v⟩;rw [az];split<;>omega
 |gone d x=>rw [d] at hbs;cases hbs
theorem bh(M:za)(A:x8 M)(w:World)(X:Nat->Prop)(bo t:Nat)(h:qm)(bd:Nat)(D:Dk)(S J:Nat->Prop)(u:Nat)(V:zP)(d:Int)(b:yY M w X bo t h bd D S J u V d)(bg:t<=2199023255552)(bs:Nat)(hbs:h.s=yp bs)
 (a:yC) (Q:Nat->Prop) (ad:a.Ok w Q) (aT:∀k,Q k->¬X k/\k<w.heap.size):
 Calls Tryz.prog 61 #[.pointer (some ⟨bo,0,none⟩),.agg #[.int .i64 a.kind,.int .i64 a.A,.int .i64 a.B,.int .i64 a.C,.string a.S,.string a.P,.slice a.la a.l.length a.lc,.slice a.ka a.ks.length a.kc]] w λe w'=>Stepped M w w' X bo t e:=by
 have G:=b.xlt;have k0:Kept (λ_=>False) w (w.alloc (.cells #[.int .i64 a.kind,.int .i64 a.A,.int .i64 a.B,.int .i64 a.C,.string a.S,.string a.P,.slice a.la a.l.length a.lc,.slice a.ka a.ks.length a.kc] 81)):=Kept.alloc _ _ _;have aq:xj (w.alloc (.cells #[.int .i64 a.kind,.int .i64 a.A,.int .i64 a.B,.int .i64 a.C,.string a.S,.string a.P,.slice a.la a.l.length a.lc,.slice a.ka a.ks.length a.kc] 81)) w.heap.size a:=⟨heap_alloc_new w _⟩;have ag:=ad.kept k0 nF;have j:=b.kept k0 nF;have ak:w.heap.size<(w.alloc (.cells #[.int .i64 a.kind,.int .i64 a.A,.int .i64 a.B,.int .i64 a.C,.string a.S,.string a.P,.slice a.la a.l.length a.lc,.slice a.ka a.ks.length a.kc] 81)).heap.size:=by simp
 have I:=j.head.c0;rw [j.hd] at I;unfold yp at I;have aJ:=j.head.c1;rw [hbs] at aJ;unfold yp at aJ;have be:=aq.c4;have a2:=G bo b.bX;have aa:Hid _:=ak;have ay:=b.good.few;change Hid _ at aq ag j b ad aT hbs G k0;clear ak;generalize ba:w.alloc (.cells #[.int .i64 a.kind,.int .i64 a.A,.int .i64 a.B,.int .i64 a.C,.string a.S,.string a.P,.slice a.la a.l.length a.lc,.slice a.ka a.ks.length a.kc] 81)=w0 at*;go_enter Tryz.func61,Tryz.ntmps61;go_wp2_with fail;obtain⟨aZ,a4,aS,aR,aD⟩:=j.disk;refine(ya _ bd S D aZ a4 aS aR aD).mono ?_;rintro e U ⟨rfl,o⟩;rw [o];clear o U aD;go_wp2_with fail;go_region_held3 (λw'=>w'.cell? ⟨bo,1,none⟩=some (.pointer (some ⟨bs,0,none⟩))/\w'.cell? ⟨w.heap.size,4,none⟩=some (.string a.S)) (go_keep) ((go_at_call 30;refine(Ku M A _ X bo t h bd D S J u V d (by exact j.kept (Kept.drew (λ_=>False) w0) nF) (by omega) bs hbs a.S ad.out.S).mono ?_;rintro e r ⟨ae,s,c,n,rfl,af,z,ax,aH,aI,aF,ar⟩;have m:Hid (xx M w0.drew r bd bs S s D ae):=af;have ao:Hid _:=(⟨aH,aI,aF,ar⟩:X bs/\¬S bs/\¬J bs/\bs≠bo);change Hid _ at z ax;clear af aH aI aF ar;have q:Hid _:=dC j G aq ag aT aa m ao.out;have aw:=q.head.c1;rw [hbs.out] at aw;unfold yp at aw;have a6:=q.box.c4));have I:=q.head.c0;rw [b.hd] at I;unfold yp at I;have P:=q.head.c2;rw [b.his] at P;unfold yp at P;have aj:∀k,s k->k<w.heap.size\/w0.heap.size<=k:=λk f=>(m.foot k f).imp (λh=>G k (j.sX k h)) (λh=>h);have y:∀k,s k->k<r.heap.size:=λk f=>m.disk.lt k f;have a5:w0.heap.size<=r.heap.size:=m.kept.size;have ak:=aa.out;change Hid _ at aj y;go_wp2_with fail;obtain⟨aU,aV,aM,aK,ah⟩:=q.disk;refine(ya _ bd s ae aU aV aM aK ah).mono ?_;rintro e U ⟨rfl,o⟩;rw [o];clear o U ah;go_wp2_with fail;go_region_held3 (λw'=>w'.cell? ⟨bo,2,none⟩=some (.pointer (some ⟨u,0,none⟩))/\w'.cell? ⟨w.heap.size,4,none⟩=some (.string a.S)) (go_keep) ((go_at_call 100;refine(bG _ J J u V.vs d (by exact(q.kept (Kept.drew (λ_=>False) r) fE).ref) (by omega) a.S ad.out.S).mono ?_;rintro e U ⟨rfl,aO,rfl⟩));generalize F:ye (zh a.S.data.toList) (kB V.vs a.S)=E at*;change Hid _ at F;have ac:Kept (λ_=>False) r (r.drewN (1+aO)):=kD;have ap:Hid _:=q.kept ac fE;have a8:r.heap.size=(r.drewN (1+aO)).heap.size:=rfl;change Hid _ at ac;generalize r.drewN (1+aO)=C at*;have P:=ap.head.c2;rw [b.his] at P;unfold yp at P;go_wp2_with fail;refine(cT _ J J u V.vs d ap.ref (by omega)).mono ?_;rintro e aW ⟨rfl,aE,N⟩;have ab:=ap.kept N fE;have bb:=N.size;have a0:=ab.box.c4;have aQ:Hid (qo aW (λk=>C.heap.size<=k) J C.heap.size V.vs d):=aE;change Hid _ at ab N;clear aE;go_wp2_with fail;refine(QZ _ (λk=>C.heap.size<=k) J Q C.heap.size V.vs d aQ (λk f g=>by have:=ab.hR k g;omega) (by omega) a.S n true none 0 [] (.inl rfl) (by simp)).mono ?_;rintro e v ⟨rfl,H,Z⟩;have i:=ab.kept Z (λk f=>⟨by have aP:=f;omega,λg=>by have:=y.out k g;have aP:=f;omega⟩);have a7:=i.box.c4;change Hid _ at i H Z;have au:=b.told0;have p:=b.died0;have bc:=b.tt;go_wp2_with fail;refine(fx _ bo h i.head u b.his J J V.vs d i.ref n au (by omega) p (by omega)).mono ?_;rintro e U ⟨rfl,x,o⟩;rw [o];clear o U;have a9:=b.last0;have a1:=b.n0t;have a3:=m.reads0;have aX:=m.reads1
 have Y:c=0->Q8 n d h.told h.died=true:=λg=>by have:=ax.out;rw [aB g] at this;unfold Q8;exact aG (by omega)
 have B:c≠0->n=0:=λg=>by have:=ax.out;rw [az g] at this;exact this
 generalize Q8 n d h.told h.died=bf at*;obtain⟨aA,R⟩:=z.case m.size (.pointer (some ⟨C.heap.size,0,none⟩)) (max d n) a.S 0 true none 0 0;change Hid _ at R;by_cases g:c=0
 .have aY:(c !=0)=false:=by simpa using g
  have aC:=Y g;subst aC;clear g Y B;go_wp2_with fail
  go_region_held3 (λw'=>w'.cell? ⟨w.heap.size,4,none⟩=some (.string a.S)) (go_keep) ((first
   |(go_at_call 98;refine(yL _ _ (by omega) (by omega)).mono ?_;rintro e U ⟨rfl,rfl⟩)
   |(go_at_call 97;refine(jI _ bo h (by exact(UT.kept (wy:=v.drewN (x+1)) i (T:=λ_=>False) kD fE).head) bd b.hd s ae (by exact(UT.kept (wy:=v.drewN (x+1)) i (T:=λ_=>False) kD fE).disk) u b.his J J V.vs d (by exact(UT.kept (wy:=v.drewN (x+1)) i (T:=λ_=>False) kD fE).ref) ay b.good.body c E _ (by omega) (by decide) C.heap.size a.S 0 true none 0 0 _ _ _ _ (by exact qo.kept (T:=λ_=>False) H kD nF nF) (by omega) i.hSb p (by omega) aA (by exact R)).mono ?_;rintro e W ⟨rfl,O,L,l⟩;have av:Hid _:=O;have ai:Hid _:=L;have K:Hid (Kept (λk=>k=bo\/s k) v W):=⟨l.os,l.tape,l.output,l.size,l.block⟩;have aN:W.cell? ⟨w.heap.size,4,none⟩=some (.string a.S):=(i.box.kept K (λg=>g.elim (λe=>by omega) (λg=>by have:=aj.out _ g;omega))).c4;clear O L l)))
  go_wp2;go_ret;have al:=(((ac.mono fE).trans N fE)).trans Z (λk f=>.inl f)
  have an:=fG M w w0.drew r v W X bo t h bd D ae S s J u V d b bs hbs (k0.trans (Kept.drew _ w0) iL) aa m ao a.S true [] E c (λam aL=>by
   have:=F.out;rw [aL,vN,am] at this
   simp [ye] at this) 1 (by omega) z n ax _ al (λk f=>⟨by omega,λg=>by have:=y.out k g;omega⟩) K C.heap.size none 0 aA av ai R _ _ H (λk f=>by rcases f with f|f<;>omega) (λk f=>f.imp id (λf=>by omega)) (.inl rfl)
  exact⟨zd (aG (by omega)),an.1,an.2⟩
 .have aY:(c !=0)=true:=by simpa using g
  have aC:=B g;have bi:(n==0)=true:=by simpa using aC
  clear g Y B aC;go_wp2_with fail
  go_region_held3 (λw'=>w'.cell? ⟨w.heap.size,4,none⟩=some (.string a.S)) (go_keep) ((first
   |(go_at_call 98;refine(yL _ _ (by omega) (by omega)).mono ?_;rintro e U ⟨rfl,rfl⟩)
   |(go_at_call 97;refine(jI _ bo h (by exact(UT.kept (wy:=v.drewN (x+1)) i (T:=λ_=>False) kD fE).head) bd b.hd s ae (by exact(UT.kept (wy:=v.drewN (x+1)) i (T:=λ_=>False) kD fE).disk) u b.his J J V.vs d (by exact(UT.kept (wy:=v.drewN (x+1)) i (T:=λ_=>False) kD fE).ref) ay b.good.body c E _ (by omega) (by decide) C.heap.size a.S 0 true none 0 0 _ _ _ _ (by exact qo.kept (T:=λ_=>False) H kD nF nF) (by omega) i.hSb p (by omega) aA (by exact R)).mono ?_;rintro e W ⟨rfl,O,L,l⟩;have av:Hid _:=O;have ai:Hid _:=L;have K:Hid (Kept (λk=>k=bo\/s k) v W):=⟨l.os,l.tape,l.output,l.size,l.block⟩;have aN:W.cell? ⟨w.heap.size,4,none⟩=some (.string a.S):=(i.box.kept K (λg=>g.elim (λe=>by omega) (λg=>by have:=aj.out _ g;omega))).c4;clear O L l)))
  go_wp2;go_ret;have al:=(((ac.mono fE).trans N fE)).trans Z (λk f=>.inl f)
  have an:=fG M w w0.drew r v W X bo t h bd D ae S s J u V d b bs hbs (k0.trans (Kept.drew _ w0) iL) aa m ao a.S true [] E c (λam aL=>by
   have:=F.out;rw [aL,vN,am] at this
   simp [ye] at this) 1 (by omega) z n ax _ al (λk f=>⟨by omega,λg=>by have:=y.out k g;omega⟩) K C.heap.size none 0 aA av ai R _ _ H (λk f=>by rcases f with f|f<;>omega) (λk f=>f.imp id (λf=>by omega)) (.inl rfl)
  exact⟨zd (aG (by omega)),an.1,an.2⟩
end law
end Go.Proofs.YtcoengihaobddaaGreatDoor
