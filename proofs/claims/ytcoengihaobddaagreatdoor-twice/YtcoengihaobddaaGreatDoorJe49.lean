/- Proved: for all changes that are put on a new disk, a store that is opened again, without a fall or with one, is the same (the law Twice answers true), and what is handed in reads as it did; no condition. The card ties the listed tables to the program's text (a pruned copy of the project: see the seat's page). -/
import Derived.Test.YtcoengihaobddaaGreatDoorJe43
import Derived.Test.YtcoengihaobddaaGreatDoorJe34
import Derived.Test.YtcoengihaobddaaGreatDoorCards
import Derived.Test.YtcoengihaobddaaGreatDoorTie
import Derived.Deep.DeepHandedRow
import Derived.Deep.DeepWitnessRowRef
import Derived.Lib.LaidIn
import Derived.Lib.LaidU8
import Derived.WideKeyArgs
set_option maxHeartbeats 8000000
set_option linter.unusedVariables false
set_option linter.unusedSimpArgs false
set_option maxRecDepth 8000
namespace Go.Proofs.YtcoengihaobddaaGreatDoor
namespace keep
open Go.ChangeShapes Go.WideShapes Go.ChangeAt Go.RowKit disk ref book
open law (zP za zL qx yg yU zD xm zJ)
open keys (zg zd zq zl zh)
section
variable {M:za} {w0 w w':World} {bp bd bs bs':Nat} {O:Obj} {S S' T:Nat->Prop} {D D':Dk} {V V':zP} {most:Int} {a:Option Addr} {cap:Nat} {cs:List (List Value)} {G:Nat->Prop} {vs:List zw}
theorem jb.move{e:TypeId}{a n:Nat}{v:Value}{b:List Value}(h:jb w S bs e a v n b)(k:Kept T w w')(d:∀k,v.ownBlock=some k->¬T k)(c:∀k,v.ownBlock=some k->¬S' k/\k≠bs'):jb w' S' bs' e a v n b:=⟨k.owns h.row d,c⟩
theorem yZ.move(h:yZ w S bs a cap cs G vs)(k:Kept T w w')(d:∀k,((Value.slice a vs.length cap).ownBlock=some k\/G k)->¬T k)(c:∀k,((Value.slice a vs.length cap).ownBlock=some k\/G k)->¬S' k/\k≠bs'):yZ w' S' bs' a cap cs G vs:=
 ⟨h.row.move k (λi b=>d i (.inl b)) (λi b=>c i (.inl b)),h.told.kept k (λi b=>d i (.inr b)),λi b=>⟨(c i (.inr b)).1,(c i (.inr b)).2,au (h.far i b).2.2 k.size⟩⟩
theorem ZL(A:yg M)(h:xH M w0 w bp bd bs O S D V)(o:D.reads<=1000000000000)(i:V.vs.length<=1000)(m:Nat)(p:1<=m)(n:m<=50):
 Calls Tryz.prog 20 #[.pointer (some ⟨bs,0,none⟩),.string ⟨#[]⟩,.int .i64 (m:Int)] w λe w'=>∃S' D' a c g,e=.returned (.tuple #[.slice a g.length c,.bool true])/\xm M w w' bd bs S S' D D' 2000000 (some bd)/\xH M w0 w' bp bd bs O S' D' V/\D'.reads<=D.reads+2000000/\qB V.vs ByteArray.empty ByteArray.empty 0 g/\jb w' S' bs 94 4 (.slice a g.length c) g.length (zJ g)/\∀k,(Value.slice a g.length c).ownBlock=some k->w.heap.size<=k:=by
 refine(jC M A w bd bs S D V h.fore ⟨#[]⟩ (.inl rfl) (by decide) m p n i o).mono ?_;rintro e w' ⟨D',S',a,c,g,rfl,f,l,q,j,b⟩;exact⟨S',D',a,c,g,rfl,f,h.aft f l (by have:=f.reads1;omega) h.fore.few,f.reads1,q,⟨j,λk d=>⟨(b k d).2,by have:=(b k d).1;have:=h.bs_lt;omega⟩⟩,λk d=>(b k d).1⟩
end
set_option maxRecDepth 60000 in
theorem UR(M:za)(a7:zL M)(ca:qx M)(b5:yU M)(bc:yg M)(be:∀f,M.Fu f->f≠0)(w:World)(Q:Nat->Prop)(bR:∀k,Q k->k<w.heap.size)(a:Option Addr)(cap:Nat)(C:List bn)(h:Qa w Q a C)(a5:C.length<=2000000000000)
 (aC:Option Addr) (bX:Nat) (ks:List Bool) (aY:uC w Q aC ks) (bN:ks.length<=140737488355326):
 Calls Tryz.prog 12 #[.slice a C.length cap,.slice aC ks.length bX] w λe w'=>e=.returned (.bool true)/\Kept (λ_=>False) w w':=by
 have cc:Hid (Qa w Q a C):=h;have a4:Hid (∀k,Q k->k<w.heap.size):=bR;have bm:Hid (uC w Q aC ks):=aY;clear h bR aY;go_enter Tryz.func12,Tryz.ntmps12;go_wp2_with fail;refine(gW M a7 ca be _ Q a4.out a cap C cc.out a5).mono ?_;rintro e aE ⟨X,bp,D,V,rfl,⟨bd,bs,S,j,c,p,G',l⟩,u,aw,a6,aT⟩;have ah:=l.sit aw a6;have x:yZ aE S bs j c p G' V.vs:=⟨⟨l.row,λk b=>⟨(l.rS k b).1,(l.rS k b).2.1⟩⟩,l.told,λk b=>⟨(l.gS k b).1,(l.gS k b).2.1,l.xlt k (l.xG k b)⟩⟩;have N:Hid (∀k,((Value.slice j V.vs.length c).ownBlock=some k\/G' k)->k≠bp/\k<aE.heap.size):=λk b=>b.elim (λh=>⟨(l.rS k h).2.2,l.xlt k (l.xr k h)⟩) (λh=>⟨(l.gS k h).2.2.1,l.xlt k (l.xG k h)⟩);have bz:Hid (w.heap.size<=bp):=a6 bp l.xp;have cz:=u.reads;have cj:=yM V.vs;have cB:=u.weight;have cq:=u.n0;have bE:Hid (∀v∈V.vs,v.mark=false):=aT;have aJ:Hid (xH M w aE bp bd bs (yI (.pointer (some ⟨bd,0,none⟩)) (.pointer (some ⟨bs,0,none⟩)) (.slice j V.vs.length c) V.n0) S D V):=ah;have bZ:Hid (yZ aE S bs j c p G' V.vs):=x;have bQ:V.vs.length<=473:=by omega
 have cy:=l.lt;obtain⟨_,cC,cn,_,cp,_⟩:=jD aJ.out.head;have ci:=aw.size;clear l aw a6 u aT ah x;go_wp2_with fail;refine(ZL bc aJ.out (by omega) (by omega) 7 (by omega) (by omega)).mono ?_;rintro e g ⟨an,H,J,E,aB,rfl,az,y,cf,bg,am,R⟩;have A:Hid (xH M w g bp bd bs (yI (.pointer (some ⟨bd,0,none⟩)) (.pointer (some ⟨bs,0,none⟩)) (.slice j V.vs.length c) V.n0) an H V):=y;have bJ:Hid (qB V.vs ByteArray.empty ByteArray.empty 0 aB):=bg;have bM:Hid (jb g an bs 94 4 (.slice J aB.length E) aB.length (zJ aB)):=am;have U:Hid (∀k,(Value.slice J aB.length E).ownBlock=some k->k≠bp/\k<g.heap.size):=λk b=>⟨by have:=R k b;omega,(am.row.lt k b).2⟩;have bF:Hid (yZ g an bs j c p G' V.vs):=bZ.out.aft az;have cx:aB.length<=473:=by rw [(qB.all bg).length_eq];exact bQ
 obtain⟨b8,_,_,_,_,bb⟩:=jD y.head;have ch:=az.kept.size;have bH:H.ps.length<=68719476736:=by rw [y.fore.live.ps];simp
 obtain⟨bL,bx,bU,bI,aZ⟩:=y.fore.disk;have bj:Hid (zn g bd an H bL bx bU bI):=aZ;clear az y bg am R aZ;go_wp2_with fail;refine(QY g bd an H bL bx bU bI bj.out bH).mono ?_;rintro e z ⟨rfl,⟨ba,aI,aM⟩,aa⟩;have ax:z.heap[bp]? =_:=(aa.block bp (by omega) (λb4=>b4)).trans A.out.head;obtain⟨b2,_,_,_,_,av⟩:=jD ax;have b6:=av 0;have bt:Hid (z.heap[bp]? =some (yI (.pointer (some ⟨bd,0,none⟩)) (.pointer (some ⟨bs,0,none⟩)) (.slice j V.vs.length c) V.n0)):=ax;have bq:Hid (ze z g.heap.size ba {H with reads:=0 }):=aI;have T:Hid (∀k,ba k->g.heap.size<=k):=aM;have bK:Hid (Kept (λ_=>False) g z):=aa;have cw:=aa.size;clear ax aI aM aa bb av;go_wp2_with fail;have aU:(z.setCell ⟨bp,0,none⟩ (.pointer (some ⟨g.heap.size,0,none⟩))).heap[bp]? =some (yI (.pointer (some ⟨g.heap.size,0,none⟩)) (.pointer (some ⟨bs,0,none⟩)) (.slice j V.vs.length c) V.n0):=heap_setCell_same z bp 0 _ _ _ bt.out;have O:=Kept.setCell (S:=λk=>k=bp) z ⟨bp,0,none⟩ (.pointer (some ⟨g.heap.size,0,none⟩)) rfl;generalize z.setCell ⟨bp,0,none⟩ (.pointer (some ⟨g.heap.size,0,none⟩))=bC at*;have aW:ze bC g.heap.size ba {H with reads:=0}:=bq.out.kept O (λk b e=>by have:=T.out k b;have cE:k=bp:=e;omega);have cg:=O.size;have bS:Hid (Kept (λk=>k=bp) g bC):=(bK.out.mono fE).trans O (λk b=>.inl b);refine(Jt a7 be aW (QL A.out.fore.live) (by exact A.out.fore.fuse) (by show (0:Int)<=0;omega) (by show (0:Int)<=_;omega) (by exact A.out.size) (by omega)).mono ?_;rintro e ae ⟨q,ai,a3,rfl,aG,b7,aN,Y,ct,br⟩;have r:∀k,ai k->g.heap.size<=k:=λk b=>(aN k b).elim (T.out k) (λh=>by omega);have aP:ae.heap[bp]? =_:=(Y.block bp (by omega) (λi=>by have:=T.out bp i;omega)).trans aU;have cr:=Y.size;have L:Kept (λk=>k=bp\/g.heap.size<=k) g ae:=(bS.out.mono iL).trans Y (λk b=>.inl (.inr (T.out k b)));have ak:w.heap.size<=bp:=bz.out
 have ab:xH M w ae bp g.heap.size q (yI (.pointer (some ⟨g.heap.size,0,none⟩)) (.pointer (some ⟨bs,0,none⟩)) (.slice j V.vs.length c) V.n0) ai a3 V:=
  ⟨aG,aP,λb=>by have:=r bp b;omega,by omega,λk b=>by have:=r k b;omega,by omega,A.out.kept.trans L (λk b=>.inl (b.elim (λe=>by rw [e];exact ak) (λh=>by omega))),br⟩
 have bw:Hid (xH M w ae bp g.heap.size q (yI (.pointer (some ⟨g.heap.size,0,none⟩)) (.pointer (some ⟨bs,0,none⟩)) (.slice j V.vs.length c) V.n0) ai a3 V):=ab;have bl:Hid (jb ae ai q 94 4 (.slice J aB.length E) aB.length (zJ aB)):=bM.out.move L (λk b i=>by have:=U.out k b;omega) (λk b=>by have:=U.out k b;exact⟨λi=>by have:=r k i;omega,by omega⟩);have bi:Hid (yZ ae ai q j c p G' V.vs):=bF.out.move L (λk b i=>by have:=N.out k b;omega) (λk b=>by have:=N.out k b;exact⟨λi=>by have:=r k i;omega,by omega⟩);have b3:a3.reads<=2000:=by have e:({H with reads:=0}:Dk).reads=0:=rfl;omega
 have bu:Hid (w.heap.size<=bp):=ak;clear aU aW aG aN Y r aP L ab O ak;go_wp2_with fail;refine(ZL bc bw.out (by omega) (by omega) 50 (by omega) (by omega)).mono ?_;rintro e aj ⟨aD,cd,K,G,o,rfl,ac,aL,cl,aF,ap,W⟩;obtain rfl:o=aB:=aF.unique bJ.out (eN _);have m:Hid (xH M w aj bp g.heap.size q (yI (.pointer (some ⟨g.heap.size,0,none⟩)) (.pointer (some ⟨bs,0,none⟩)) (.slice j V.vs.length c) V.n0) aD cd V):=aL;have aV:Hid (jb aj aD q 94 4 (.slice J o.length E) o.length (zJ o)):=bl.out.aft ac;have aS:Hid (jb aj aD q 94 4 (.slice K o.length G) o.length (zJ o)):=ap;have aO:Hid (∀k,(Value.slice K o.length G).ownBlock=some k->k≠bp/\k<aj.heap.size):=λk b=>⟨by have:=W k b;omega,(ap.row.lt k b).2⟩;have af:Hid (yZ aj aD q j c p G' V.vs):=bi.out.aft ac;have ce:=ac.kept.size;clear ac aL aF ap W;go_wp2_with fail;refine(KE a7 be _ _ _ m.out.head m.out.fore.disk m.out.fore.live m.out.pS m.out.size (by omega) Q aC bX ks (bm.out.kept m.out.kept (λk b i=>by have:=a4.out k b;omega)) (λk b i=>by have:=a4.out k b;have:=m.out.low k i;omega) bN).mono ?_;rintro e ag ⟨rfl,n,d,aA,bv,al,aK,cb,t,s,ck,bB⟩;have cA:=s.size
 have Z:xH M w ag bp n d (yI (.pointer (some ⟨n,0,none⟩)) (.pointer (some ⟨d,0,none⟩)) (.slice j V.vs.length c) V.n0) aA bv V:=
  ⟨aK,al,λb=>by have:=t bp b;omega,by omega,λk b=>by have:=t k b;have:=m.out.kept.size;omega,by have:=m.out.kept.size;omega,m.out.kept.trans s (λk b=>.inl (b.elim (m.out.low k) (λe=>by rw [e];exact bu.out))),bB⟩
 have bW:Hid (xH M w ag bp n d (yI (.pointer (some ⟨n,0,none⟩)) (.pointer (some ⟨d,0,none⟩)) (.slice j V.vs.length c) V.n0) aA bv V):=Z;have bD:Hid (jb ag aA d 94 4 (.slice J o.length E) o.length (zJ o)):=aV.out.move s (λk b i=>i.elim (aV.out.far k b).1 (U.out k b).1) (λk b=>by have:=U.out k b;exact⟨λi=>by have:=t k i;omega,by omega⟩);have bA:Hid (jb ag aA d 94 4 (.slice K o.length G) o.length (zJ o)):=aS.out.move s (λk b i=>i.elim (aS.out.far k b).1 (aO.out k b).1) (λk b=>by have:=aO.out k b;exact⟨λi=>by have:=t k i;omega,by omega⟩);have bk:Hid (yZ ag aA d j c p G' V.vs):=af.out.move s (λk b i=>i.elim (b.elim (λh=>(af.out.row.far k h).1) (λh=>(af.out.far k h).1)) (N.out k b).1) (λk b=>by have:=N.out k b;exact⟨λi=>by have:=t k i;omega,by omega⟩);obtain⟨_,b1,_,_,b9,_⟩:=jD al;clear al aK t s Z;go_wp2_with fail;refine(ZL bc bW.out (by omega) (by omega) 3 (by omega) (by omega)).mono ?_;rintro e I ⟨ad,a8,a1,a9,B,rfl,P,aR,cm,aX,a0,_⟩;obtain rfl:B=o:=aX.unique bJ.out (eN _);have bO:Hid (xH M w I bp n d (yI (.pointer (some ⟨n,0,none⟩)) (.pointer (some ⟨d,0,none⟩)) (.slice j V.vs.length c) V.n0) ad a8 V):=aR;have b0:Hid (Row I J E B):=(bD.out.aft P).row;have aQ:Hid (Row I K G B):=(bA.out.aft P).row;have bP:Hid (Row I a1 a9 B):=a0.row;have bo:Hid (yZ I ad d j c p G' V.vs):=bk.out.aft P;clear P aR aX a0;go_wp2_with fail;refine(vI I J K E G B (by omega) b0.out aQ.out).mono ?_;rintro e F ⟨rfl,cD,aH⟩;have ay:Kept (λ_=>False) I F:=by rw [aH];exact kD
 have bV:Hid (xH M w F bp n d (yI (.pointer (some ⟨n,0,none⟩)) (.pointer (some ⟨d,0,none⟩)) (.slice j V.vs.length c) V.n0) ad a8 V):=bO.out.keep ay;have bG:Hid (Row F K G B):=aQ.out.kept ay nF;have bY:Hid (Row F a1 a9 B):=bP.out.kept ay nF;have bT:Hid (yZ F ad d j c p G' V.vs):=bo.out.keep ay;clear aH ay;go_wp2_with fail;refine(vI F K a1 G a9 B (by omega) bG.out bY.out).mono ?_;rintro e au ⟨rfl,cu,ao⟩;have aq:Kept (λ_=>False) F au:=by rw [ao];exact kD
 have a2:Hid (xH M w au bp n d (yI (.pointer (some ⟨n,0,none⟩)) (.pointer (some ⟨d,0,none⟩)) (.slice j V.vs.length c) V.n0) ad a8 V):=bV.out.keep aq;have bf:Hid (yZ au ad d j c p G' V.vs):=bT.out.keep aq;clear ao aq;go_wp2_with fail;refine(UM b5 _ a2.out bf.out (by omega) (by omega) bE.out).mono ?_;rintro e cv ⟨rfl,co,cs,ar⟩;have bh:Hid _:=ar.end;clear ar;go_wp2;go_ret;exact⟨rfl,bh.out⟩
end keep
namespace keep
open Go.RowKit disk ref book Go.Deep law
theorem KO{p:Type}{enc:TypeId×Value->p}{m:World}{f:Nat}{r:DataW p×List MemPlace}{g:Option Addr}{d cap:Nat}(h:DataW.trod enc Tryz.prog m 0 (λ_=>true) true f 39 [.slice g d cap]=some r)(b:(r.1.weights Tryz.prog 39).all (· <=reachBytes)=true):∃l:List Bool,d=l.length/\uC m (λk=>k<m.heap.size) g l/\l.length<=140737488355326:=by
 obtain⟨a,l,c,e,j,n⟩:=gU h;simp only [ee,Value.slice.injEq,and_true] at e;obtain⟨rfl,rfl,rfl⟩:=e;refine⟨l,rfl,j,?_⟩;rcases n with u|⟨v,s,o,t⟩;.omega
 .rw [o] at b;unfold DataW.weights at b;rw [Tryz.underlying39] at b;simp only [mA,lH,aS,aO] at b;have i:=b.1;rw [dD] at i;have q:reachBytes=140737488351232:=by decide
  omega
end keep
namespace twice
open Go.ChangeShapes Go.WideShapes Go.ChangeAt Go.RowKit
open disk ref law keep
theorem own:ownKnob Tryz.prog.godebug=none:=by kernel_rfl
theorem qL:laidOutB Tryz.prog=true:=by kernel_rfl
theorem walk(d:World)(a:Option Addr)(cap:Nat)(b:List bn)(h:Qa d (λk=>k<d.heap.size) a b)(i:b.length<=2000000000000)(g:Option Addr)(m:Nat)(c:List Bool)(l:uC d (λk=>k<d.heap.size) g c)(j:c.length<=140737488355326):
 Calls Tryz.prog 12 #[.slice a b.length cap,.slice g c.length m] d λe w'=>e=.returned (.bool true)/\Kept (λ_=>False) d w':=
 UR prog.GZ prog.kF prog.vM prog.Yl prog.uw (λf n=>by have l:f= -1:=n;omega) d (λk=>k<d.heap.size) (λ_ h=>h) a cap b h i g m c l j
set_option maxRecDepth 100000 in
theorem yw(au:Type)(enc:TypeId×Value->au)(m:World)(u:Nat)(args:Array Value)(y E:List (DataW au))(k:List MemPlace)
 (d:∀(j:Nat) t v,Tryz.f12.params[j]? =some t->args[j]? =some v->Value.okWide Tryz.prog m .any u t v)
 (x:DataW.Whole enc Tryz.prog Tryz.f12.params.toList Rows.twiceSpec.vars false m args.toList y E k)
 (a:(DataW.weightsEach Tryz.prog (Tryz.f12.params.toList++(OpenSpec.ofChange Rows.twiceSpec).bare.plain.varTypes Tryz.prog) (y++E)).all (· <=reachBytes)=true):
 Calls Tryz.prog 12 args m λe o=>∃v,e=.returned v/\Rows.twiceSpec.post enc Tryz.prog Tryz.f12 false true false false m args v o:=by
 have r:=x;have g:=λp aj=>x.lt p aj;obtain⟨p,q,s,ab,rfl,aw,av⟩:=x;have Q:DataW.TrodAll enc Tryz.prog m 0 (λ_=>true) true Tryz.f12.params.toList args.toList y p:=s;rw [Tryz.params12] at Q d a;obtain⟨M,ar,I,ap,C,ax,U,rfl,rfl,G,W⟩:=trodAll_cons Q;obtain⟨F,ao,O,aq,z,ay,rfl,rfl,rfl,J,ag⟩:=trodAll_cons W;obtain⟨rfl,rfl,rfl⟩:=trodAll_nil ag;obtain rfl:args=#[M,F]:=by cases args;simp_all
 obtain⟨rfl,rfl⟩:=trodVars_none ab;obtain⟨Y,ak,ad,rfl⟩:=okWide_slice Tryz.underlying26 (d 0 26 M rfl rfl);obtain⟨am,al,ai,rfl⟩:=okWide_slice Tryz.underlying39 (d 1 39 F rfl rfl);have u0:=G;obtain⟨S,N⟩:=G;have L:(I.weights Tryz.prog 26).all (· <=reachBytes)=true:=aQ.2 (λn B=>aQ.1 a n (DataW.weights_mem_each (j:=0) rfl rfl n B));obtain⟨H,rfl,A,X⟩:=uA N L;have u1:=J;obtain⟨T,R⟩:=J;have K:(O.weights Tryz.prog 39).all (· <=reachBytes)=true:=aQ.2 (λn B=>aQ.1 a n (DataW.weights_mem_each (j:=1) rfl rfl n B));obtain⟨an,Z,ae,V⟩:=KO R K;subst Z;clear s;simp only [aM] at r g;refine(walk m Y ad H A X am ai an ae V).mono λe o ⟨aa,ah⟩=>?_;subst aa;have l:Below m.heap.size m o:=ah.below fE (aC _)
 have f:∀i∈C++(z),m.sameAt o i:=λi c=>by
  have D:=g i c
  cases i with
  |cell b az=>exact ik (w:=m) (l.block b D)
  |map b=>exact l.block b D
 refine⟨_,rfl,[I,O],[],C++(z),[],C++(z),[],r,?_,?_,rfl,l.frame _,λh=>by cases h⟩;.exact trodAll_mk1 (shut_bool Tryz.underlying4 _)
 .exact trodAll_mk2 (WideElems.Trod_stays (P:=Tryz.prog) qL (by kernel_rfl) (aN (by kernel_rfl)) u0 (λi c=>f i (ac _ c)) (λi c=>by simpa using g i (ac _ c))) (WideElems.Trod_stays (P:=Tryz.prog) qL (by kernel_rfl) (aN (by kernel_rfl)) u1 (λi c=>f i (af _ c)) (λi c=>by simpa using g i (af _ c)))
def zy(w0:World):World:=
 let put (h:Array Obj) (g:Nat) (cs:Array Value):Array Obj:=h.modify g fun
  |.cells _ t frozen=>.cells cs t frozen
  |o=>o
 let h1:=put w0.heap 1 (Lib.firstTab.map λz=>Value.int .u8 z).toArray
 let h2:=put h1 2 ((List.range 16).flatMap λi=>[Value.int .u8 (Lib.accLo i),Value.int .u8 (Lib.accHi i)]).toArray
 {w0 with heap:=h2}
theorem yx(a:Os)(args:Array Value):laidMet Tryz.prog Rows.twiceRow.laid ((zy (World.holding Tryz.prog a ⟨#[],#[],[]⟩)).forCall (λ_ _=>0) ⟨#[],args,[]⟩).memory:=
 (LaidIn.of_run (l:=[("unicode/utf8.acceptRanges",Rows.laid_unicode_utf8_acceptRanges),("unicode/utf8.first",Rows.laid_unicode_utf8_first)]) [2,1] 8 (by kernel_rfl) (by kernel_rfl) (by kernel_rfl) (by kernel_rfl)).met
theorem qJ(b:Os){g:Type}(enc:TypeId×Value->g):
 (OpenSpec.ofChange Rows.twiceSpec).preRow enc Tryz.prog Tryz.f12 Rows.twiceRow.domain false Rows.twiceRow.laid ((zy (World.holding Tryz.prog b ⟨#[],#[],[]⟩)).forCall (λ_ _=>0) ⟨#[],#[.slice none 0 0,.slice none 0 0],[]⟩).memory #[.slice none 0 0,.slice none 0 0]:=by
 have c:(DataW.whole enc Tryz.prog ((zy (World.holding Tryz.prog b ⟨#[],#[],[]⟩)).forCall (λ_ _=>0) ⟨#[],#[.slice none 0 0,.slice none 0 0],[]⟩).memory Tryz.f12.params.toList Rows.twiceSpec.vars false #[Value.slice none 0 0,Value.slice none 0 0].toList 8).map (λf=>(f.1,f.2.1))=
  some ([.nil,.nil],[]):=by kernel_rfl
 obtain⟨⟨h,j,i⟩,e,a⟩:=io.1 c;simp only [eK] at a;obtain⟨rfl,rfl⟩:=a;exact OpenSpec.preRow_of_cond 8 e (by kernel_rfl) (λk d=>by cases d) (by kernel_rfl) (yx b _)
set_option maxRecDepth 100000 in
theorem xZ(d:Os)(a:d.Started)(j:Type)(enc:TypeId×Value->j)(F:Stop.Interp):
 ReturnsInHanded {} Tryz.checked d 12 .any ((OpenSpec.ofChange Rows.twiceSpec).preRow enc Tryz.prog Tryz.f12 Rows.twiceRow.domain false Rows.twiceRow.laid) (((OpenSpec.ofChange Rows.twiceSpec).at F).post enc Tryz.prog Tryz.f12 false true false false):=by
 refine returnsInHanded_of_row (C:=Tryz.checked) (s:=OpenSpec.ofChange Rows.twiceSpec) own a (by kernel_rfl) Tryz.func12
  (witness_row_at (enc:=enc) (C:=Tryz.checked) false (zy (World.holding Tryz.prog d ⟨#[],#[],[]⟩)) #[.slice none 0 0,.slice none 0 0] rfl (by kernel_rfl) (by kernel_rfl) (by kernel_rfl) (qJ d enc)) ?_
 intro k f args i h c e g _ _ b l _ _;exact yw j enc k f args i h c e g b
theorem gV:Rows.TwiceSaid:=
 OpenClaim.holds_of_cond 12 Tryz.f12 rfl rfl rfl rfl rfl rfl rfl ⟨rfl,rfl,rfl,rfl,rfl⟩ rfl rfl rfl rfl rfl (by kernel_rfl) Tryz.func12 (by kernel_rfl)
  (aN (by kernel_rfl)) (by unfold Func.isWrapper;first|(rw [aB (by decide+kernel)];kernel_rfl)|(rw [az (by decide+kernel)];exact⟨rfl,rfl⟩))
  (λb a c enc _ F=>by rw [OpenClaim.pre_eq_preRow];exact xZ b a c enc F)
theorem plain(f:FuncId)(fn:Func)(d:Tryz.pinned.checked.prog.funcNamed "cairn/cairnkeep.Twice" =some f)(b:Tryz.pinned.checked.prog.funcs[f]? =some fn):
 false=Tryz.pinned.checked.prog.looks []/\∀(j:Nat) t,fn.params[j]? =some t->Tryz.pinned.checked.prog.wantsStandIn t=false:=by
 obtain rfl:f= 12:=aK ((show Tryz.prog.funcNamed "cairn/cairnkeep.Twice" =some 12 by kernel_rfl).symm.trans d) |>.symm;obtain rfl:fn=Tryz.f12:=(aK (Tryz.func12.symm.trans b)).symm;refine⟨by kernel_rfl,λj t c=>?_⟩;rw [Tryz.params12] at c;have a:t= 26\/t= 39:=by simpa using iu c
 rcases a with rfl|rfl;.exact(show Tryz.prog.wantsStandIn 26=false by kernel_rfl)
 .exact(show Tryz.prog.wantsStandIn 39=false by kernel_rfl)
theorem card:Rows.TwiceCardSaid:=
 Claim7.holds_tied_plain_at .later [] _ _ _ _ gV (λ_ h=>by cases h) (by kernel_rfl) (λ_ h=>by cases h) twice_row_tie rfl ⟨rfl,rfl⟩ (by kernel_rfl) rfl plain (by kernel_rfl)
end twice
theorem twice_holds:Rows.TwiceCardSaid:=twice.card
end Go.Proofs.YtcoengihaobddaaGreatDoor
