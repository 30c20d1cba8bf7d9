/- Proved: for all changes that are put on a new disk, a version or a marker that is put and erased leaves all as it was (the law Undone answers true), and what is handed in reads as it did; no condition. The card ties the listed tables to the program's text (a pruned copy of the project: see the seat's page). -/
import Derived.Test.YtcoengihaobddaaGreatDoorJe41
import Derived.Test.YtcoengihaobddaaGreatDoorJe28
import Derived.Test.YtcoengihaobddaaGreatDoorJe34
import Derived.Test.YtcoengihaobddaaGreatDoorJe29
import Derived.Test.YtcoengihaobddaaGreatDoorCards
import Derived.Test.YtcoengihaobddaaGreatDoorTie
import Derived.Deep.DeepHandedRow
import Derived.Deep.DeepWitnessRowRef
import Derived.Lib.LaidIn
import Derived.Lib.LaidU8
import Derived.WideKeyArgs
set_option maxHeartbeats 8000000
set_option linter.unusedVariables false
set_option linter.unusedSimpArgs false
set_option maxRecDepth 8000
namespace Go.Proofs.YtcoengihaobddaaGreatDoor
namespace keep
open Go.ChangeShapes Go.WideShapes Go.ChangeAt Go.RowKit disk ref book
open law (zP za zL qx yg jp x8 qr zD xm Chg zJ)
open keys (zg zd zq zl zh)
variable {V:zP}
theorem DM{V':zP}(h:V'.vs=V.vs)(a:ByteArray):vj V' a=vj V a/\gm V' a=gm V a/\fQ V' a=fQ V a:=by unfold vj gm fQ;rw [h];exact⟨rfl,rfl,rfl⟩
theorem B5(h:law.Good V)(a:ByteArray):gm V a<=V.n0:=by
 unfold gm;have c:=h.n0;split
 .next u b=>
  have:=(h.num u (jc b).2.1).2;split<;>omega
 .exact c
theorem BB(h:law.Good V)(a:ByteArray):(vj V a).length<=300:=by
 unfold vj;split
 .next u b=>
  have:=h.body u (jc b).2.1;split;.simp
  .exact this
 .simp
theorem Vw(h:law.Good V)(b:ByteArray)(a:Bool)(l:List UInt8):vj (V.add b a l) b=(if a then [] else l)/\gm (V.add b a l) b=(if a then 0 else V.n0+1)/\fQ (V.add b a l) b=if a then 5 else 0:=by
 unfold vj gm fQ;rw [ZG h];cases a<;>exact⟨rfl,rfl,rfl⟩
set_option maxRecDepth 60000 in
theorem KN(M:za)(du:zL M)(c1:qx M)(a9:jp M)(dy:x8 M)(dc:qr M)(cS:yg M)(aW:∀f,M.Fu f->f≠0)(w:World)(Q:Nat->Prop)(ch:∀k,Q k->k<w.heap.size)(a:Option Addr)(cap:Nat)(P:List bn)(h:Qa w Q a P)(bP:P.length<=2000000000000)(j:Int)(N:zs j)
 (a7:Option Addr) (bb:Nat) (l:List UInt8) (cI:zu w Q a7 l) (dE:l.length<=140737488355326) (cD:l.length<=bb):
 Calls Tryz.prog 10 #[.slice a P.length cap,.int .i64 j,.slice a7 l.length bb] w λe w'=>e=.returned (.bool true)/\Kept (λ_=>False) w w':=by
 have dM:Hid (Qa w Q a P):=h;have dn:Hid (∀k,Q k->k<w.heap.size):=ch;have bh:Hid (∀w',Kept (λk=>w.heap.size<=k) w w'->Calls Tryz.prog 28 #[.slice a7 l.length bb] w' λe bx=>∃aX cf,e=.returned (.slice aX (l.take 300).length cf)/\bx.ownsRow 0 5 1 (.slice aX (l.take 300).length cf) (l.take 300).length ((l.take 300).map qk)/\Kept (λ_=>False) w' bx/\∀k,(Value.slice aX (l.take 300).length cf).ownBlock=some k->w'.heap.size<=k):=λw' k=>vA w' Q a7 bb l (cI.kept k (λi dH cD=>by have:=ch i dH;omega)) dE cD;have cJ:Hid (∀aA,Calls Tryz.prog 21 #[.int .i64 j,.int .i64 12] aA λe w'=>e=.returned (.int .i64 (qX j 12:Int))/\w'=aA):=λaA=>yV aA j 12 N (by omega) (by omega);have ct:qX j 12<12:=by have:=xy j 12 (by omega);omega
 have dp:(l.take 300).length<=300:=by rw [ay];omega
 generalize l.take 300=B at*;generalize qX j 12=aV at*;obtain⟨b,bi,bl,ee⟩:=vH aV ct;have q:Hid (kK[aV]? =some (.string b)/\zh b.data.toList=true):=⟨bi,bl⟩;have dr:(aV:Int)<12:=by omega
 clear h ch N cI bi bl;go_enter Tryz.func10,Tryz.ntmps10;go_wp2_with fail;refine(gW M du c1 aW _ Q dn.out a cap P dM.out bP).mono ?_;rintro e c8 ⟨X,d,D,V,rfl,⟨bd,bs,S,aX,bX,dU,G',aQ⟩,H,bA,cy,cM⟩;obtain⟨cT,dl,br,bu,bC,d6,cR⟩:=aQ.c;have ec:=H.reads;have dY:=yM V.vs;have eg:=H.weight;have d7:=H.n0;have ax:Hid (law.Good V):=aQ.fore.live.good;have Y:=aQ.sit bA cy;generalize Vt bd bs (.slice aX V.vs.length bX) V.n0=F at*
 have cv:∀(aA:World),aA.heap[d]? =some F->aA.cell? ⟨d,1,none⟩=some (.pointer (some ⟨bs,0,none⟩)):=λaA db=>by have e:(some F:Option Obj)=_:=(Y.head).symm.trans aQ.head;rw [aK e] at db;exact(ak aA d 1 _ _ _ db).trans rfl
 have x:Hid (∀(aA:World),aA.heap[d]? =some F->aA.cell? ⟨d,1,none⟩=some (.pointer (some ⟨bs,0,none⟩))):=cv;have cs:Hid (xH M w c8 d bd bs F S D V):=Y;have da:V.vs.length<=473:=by omega
 clear aQ bA cy cT dl br bu bC cR H cM Y cv;go_wp2_with fail;refine(ux _).mono ?_;rintro e bf ⟨rfl,bm,aR⟩;have bo:Hid (xH M w bf d bd bs F S D V):=cs.out.keep bm;have dX:bf.cell? ⟨c8.heap.size,aV,none⟩=some (.string b):=(ak bf _ aV _ _ _ aR).trans q.out.1;have br:=x.out bf bo.out.head;clear bm aR;go_wp2_with (go_at_call 21;refine(cJ.out _).mono ?_;rintro e ab ⟨rfl,J⟩;rw [J];clear J ab);refine(Js cS bo.out (by omega) (by omega) 50 (by omega) (by omega)).mono ?_;rintro e bW ⟨cN,dJ,t,r,o,rfl,_,aB,d5,az,bD⟩;have cK:Hid (xH M w bW d bd bs F cN dJ V):=aB;have dF:Hid (qB V.vs ByteArray.empty ByteArray.empty 0 o):=az;have dg:Hid (jb bW cN bs 94 4 (.slice t o.length r) o.length (zJ o)):=bD;have ea:o.length<=473:=by rw [(qB.all az).length_eq];exact da
 have bu:=x.out bW aB.head;clear aB az bD;go_wp2_with fail;refine(bZ a9 cK.out (by omega) b q.out.2).mono ?_;rintro e G ⟨be,cz,s,u,rfl,bk,aY,ed,bB⟩;have dV:=B5 ax.out b;have c3:Hid (∀V':zP,V'.vs=V.vs->vj V' b=vj V b/\gm V' b=gm V b/\fQ V' b=fQ V b):=λV' dI=>DM dI b;have dZ:(vj V b).length<=300:=BB ax.out b;generalize vj V b=p at*;generalize gm V b=bc at*;generalize fQ V b=cx at*;have an:Hid (xH M w G d bd bs F be cz V):=aY;have cV:Hid (jb G be bs 94 4 (.slice t o.length r) o.length (zJ o)):=dg.out.aft bk;have cQ:Hid (bY G be bs s u p):=bB;have d3:=x.out G aY.head;clear bk aY bB;go_wp2_with fail;obtain⟨m,bj⟩:∃n,n=V.n0+1:=⟨_,rfl⟩;obtain⟨g,bI⟩:∃n,n=m+1:=⟨_,rfl⟩;have K:Hid (m=V.n0+1):=bj;have aM:Hid (g=m+1):=bI;have dL:bc<m/\m<g/\0<=m/\g<=2000:=by have:=ax.out.n0;omega
 clear bj bI
 go_region_held3 (λw'=>w'.cell? ⟨d,1,none⟩=some (.pointer (some ⟨bs,0,none⟩))) (go_keep) ((first
  |(go_at_call 28;refine(bh.out _ (by exact(an.out.keep (Kept.drew (λ_=>False) G)).kept)).mono ?_;rintro e a3 ⟨b8,ck,rfl,aG,C,bp⟩;have ai:Kept (λ_=>False) G a3:=⟨C.os,C.tape,C.output,C.size,C.block⟩;have cC:Hid (a3.ownsRow 0 5 1 (.slice b8 B.length ck) B.length (B.map qk)):=aG;have bw:Hid (Kept (λ_=>False) G a3):=ai;have c4:Hid (∀k,(Value.slice b8 B.length ck).ownBlock=some k->G.heap.size<=k):=bp;have ap:=YB aG;have bt:Hid (xH M w a3 d bd bs F be cz V):=an.out.keep ai;have bC:=x.out a3 bt.out.head;clear aG C bp ai)
  |(go_at_call 27;refine(Vu c1 aW bt.out (by omega) (by omega) (by omega) b q.out.2 (λk=>G.heap.size<=k) b8 ck B (zu.of_own 5 cC.out rfl _ (λk cG=>c4.out k cG)) (λk cG=>⟨λdS=>by have:=an.out.fore.disk.lt k dS;omega,λe=>by have:=an.out.bs_lt;omega⟩) dp ap.1 (by have:=ap.2;unfold maxLen at this;omega)).mono ?_;rintro e a8 ⟨bQ,dO,rfl,a1,aI,d1⟩;have bq:Hid (xH M w a8 d bd bs F bQ dO (V.add b false B)):=aI;have cZ:Hid (jb a8 bQ bs 94 4 (.slice t o.length r) o.length (zJ o)):=(cV.out.keep bw.out).aft a1;have co:Hid (bY a8 bQ bs s u p):=(cQ.out.keep bw.out).aft a1;have dq:=x.out a8 aI.head;rw [<-K.out];clear a1 aI)))
 have bK:Hid (law.Good (V.add b false B)):=bq.out.fore.live.good;have am:=Vw ax.out b false B;have a6:=Vw bK.out b true [];have c5:Hid (weight (V.add b false B).vs=weight V.vs+qd B.length):=ja V b false B;have T:Hid ((V.add b false B).n0=m/\(∀v∈(V.add b false B).vs,v.num<=(V.add b false B).n0)):=⟨K.out.symm,λv ca=>(bK.out.num v ca).2⟩
 have dk:Hid (kB (V.add b false B).vs b=false):=by show kB _ _=false;unfold kB;rw [ZG ax.out]
 have cU:Hid (∀v∈V.vs,v.num<=V.n0):=λv ca=>(ax.out.num v ca).2
 have cA:Hid ((V.add b false B).sub b m=⟨V.vs,m⟩):=by show (V.add b false B).sub b m=⟨V.vs,m⟩;rw [K.out];exact Vv cU.out b false B
 have c2:Hid (∃v∈(V.add b false B).vs,v.key=b/\v.num=m):=⟨⟨b,V.n0+1,false,B⟩,af _ (aD.2 rfl),rfl,K.out.symm⟩;have dT:Hid ((V.add b false B).vs=V.vs++[⟨b,V.n0+1,false,B⟩]):=rfl;generalize V.add b false B=c at*;simp only [lI,if_false] at am;simp only [if_true] at a6;rw [K.out.symm] at am;have aL:Hid (vj c b=B/\gm c b=m/\fQ c b=0):=am;have aJ:Hid (vj (c.add b true []) b=[]/\gm (c.add b true []) b=0/\fQ (c.add b true []) b=5):=a6;have eh:qd B.length<=4:=by unfold qd;omega
 have dm:weight c.vs<=477:=by rw [c5.out];omega
 have dP:c.n0<=10000:=by rw [T.out.1];omega
 clear am a6;go_wp2_with fail;refine(bZ a9 bq.out (by omega) b q.out.2).mono ?_;rw [aL.out.1,aL.out.2.1,aL.out.2.2];rintro e aE ⟨z,b2,bN,cj,rfl,aO,bz,d0,bv⟩;have bJ:Hid (xH M w aE d bd bs F z b2 c):=bz;have cW:Hid (jb aE z bs 94 4 (.slice t o.length r) o.length (zJ o)):=cZ.out.aft aO;have cr:Hid (bY aE z bs s u p):=co.out.aft aO;have c0:Hid (bY aE z bs bN cj B):=bv;clear aO bz bv;go_wp2_with fail;refine(bh.out aE bJ.out.kept).mono ?_;rintro e ae ⟨cp,dw,rfl,bg,O,cF⟩;have c9:Hid (xH M w ae d bd bs F z b2 c):=bJ.out.keep O;have c6:Hid (jb ae z bs 94 4 (.slice t o.length r) o.length (zJ o)):=cW.out.keep O;have cE:Hid (bY ae z bs s u p):=cr.out.keep O;have cO:Hid (bY ae z bs bN cj B):=c0.out.keep O;have cL:Hid (zu ae (λ_=>True) cp B):=zu.of_own 5 bg rfl _ (λ_ _=>eR);clear bg O cF;go_wp2_with fail;refine(uy ae (λ_=>True) (λ_=>True) bN cp cj dw B cO.out.bytes cL.out (by omega)).mono ?_;rintro e ab ⟨rfl,ej,J⟩;have ba:Kept (λ_=>False) ae ab:=by rw [J];exact kD
 have bH:Hid (xH M w ab d bd bs F z b2 c):=c9.out.keep ba;have di:Hid (jb ab z bs 94 4 (.slice t o.length r) o.length (zJ o)):=c6.out.keep ba;have dd:Hid (bY ab z bs s u p):=cE.out.keep ba;have d4:=x.out ab bH.out.head;have eb:decide (m<=bc)=false:=decide_eq_false (by omega);have d8:decide (g<=m)=false:=decide_eq_false (by omega);have dR:(m !=m)=false:=by simp
 clear J ba;go_wp2_with fail;refine(Bz dy aW bH.out (by omega) (by omega) (by omega) b q.out.2 dk.out).mono ?_;rw [T.out.1,<-aM.out];rintro e av ⟨aU,dj,rfl,ag,W,dK⟩;have bM:Hid (xH M w av d bd bs F aU dj (c.add b true [])):=W;have cl:Hid (jb av aU bs 94 4 (.slice t o.length r) o.length (zJ o)):=di.out.aft ag;have b5:Hid (bY av aU bs s u p):=dd.out.aft ag;have dG:=x.out av W.head;have cw:Hid (weight (c.add b true []).vs=weight c.vs+qd 0):=ja c b true [];have dh:Hid (∃v∈(c.add b true []).vs,v.key=b/\v.num=g):=⟨⟨b,c.n0+1,true,[]⟩,af _ (aD.2 rfl),rfl,by show c.n0+1=g;rw [T.out.1,aM.out]⟩
 have cY:Hid ((c.add b true []).sub b g=⟨c.vs,g⟩):=by show (c.add b true []).sub b g=⟨c.vs,g⟩;have:=Vv T.out.2 b true [];rw [T.out.1,<-aM.out] at this;exact this
 have dt:(c.add b true []).n0<=10001:=by show c.n0+1<=10001;omega
 generalize c.add b true []=cX at*;have dN:weight cX.vs<=478:=by rw [cw.out];unfold qd;omega
 clear ag W;go_wp2_with fail;refine(bZ a9 bM.out (by omega) b q.out.2).mono ?_;rw [aJ.out.1,aJ.out.2.1,aJ.out.2.2];rintro e ao ⟨aS,cP,d2,ef,rfl,aj,ad,ds,_⟩;have cc:Hid (xH M w ao d bd bs F aS cP cX):=ad;have ce:Hid (jb ao aS bs 94 4 (.slice t o.length r) o.length (zJ o)):=cl.out.aft aj;have b4:Hid (bY ao aS bs s u p):=b5.out.aft aj;have dA:=x.out ao ad.head;clear aj ad;go_wp2_with fail;refine(YE dc aW cc.out (by omega) (by omega) (by omega) b q.out.2 g ⟨by omega,by omega⟩ dh.out).mono ?_;rw [cY.out];rintro e aw ⟨a2,cB,rfl,al,ah,dz⟩;have b1:Hid (xH M w aw d bd bs F a2 cB ⟨c.vs,g⟩):=ah;have cg:Hid (jb aw a2 bs 94 4 (.slice t o.length r) o.length (zJ o)):=ce.out.aft al;have b6:Hid (bY aw a2 bs s u p):=b4.out.aft al;have dQ:=x.out aw ah.head
 have cq:Hid ((⟨c.vs,g⟩:zP).sub b m=⟨V.vs,g⟩):=by show (⟨qF c.vs b m,g⟩:zP)=⟨V.vs,g⟩;have:=cA.out;have e:qF c.vs b m=V.vs:=et zP.vs this;rw [e]
 clear al ah;go_wp2_with fail;refine(YE dc aW b1.out (by omega) (by show g<=_;omega) (by show weight c.vs<=_;omega) b q.out.2 m ⟨by omega,by omega⟩ c2.out).mono ?_;rw [cq.out];rintro e ar ⟨aZ,cH,rfl,ac,aa,dx⟩;have bV:Hid (xH M w ar d bd bs F aZ cH ⟨V.vs,g⟩):=aa;have b3:Hid (jb ar aZ bs 94 4 (.slice t o.length r) o.length (zJ o)):=cg.out.aft ac;have b0:Hid (bY ar aZ bs s u p):=b6.out.aft ac;have dC:=x.out ar aa.head;clear ac aa;go_wp2_with fail;refine(Js cS bV.out (by omega) (by show V.vs.length<=_;omega) 50 (by omega) (by omega)).mono ?_;rintro e R ⟨au,de,aF,aC,A,rfl,U,Z,dD,az,aH⟩;obtain rfl:A=o:=az.unique dF.out (eN _);have cn:Hid (xH M w R d bd bs F au de ⟨V.vs,g⟩):=Z;have bO:Hid (jb R au bs 94 4 (.slice t A.length r) A.length (zJ A)):=b3.out.aft U;have b9:Hid (jb R au bs 94 4 (.slice aF A.length aC) A.length (zJ A)):=aH;have cb:Hid (bY R au bs s u p):=b0.out.aft U;have dB:=x.out R Z.head;clear U Z az aH;go_wp2_with fail;refine(bZ a9 cn.out (by omega) b q.out.2).mono ?_;obtain⟨df,c7,cu⟩:=c3.out ⟨V.vs,g⟩ rfl;rw [df,c7,cu];rintro e y ⟨L,a5,a4,bE,rfl,I,aP,dv,a0⟩;have cm:Hid (xH M w y d bd bs F L a5 ⟨V.vs,g⟩):=aP;have bU:Hid (Row y t r A):=(bO.out.aft I).row;have bR:Hid (Row y aF aC A):=(b9.out.aft I).row;have bT:Hid (bY y L bs s u p):=cb.out.aft I;have cd:Hid (bY y L bs a4 bE p):=a0;clear I aP a0 df c7 cu;go_wp2_with fail;refine(vI y t aF r aC A (by omega) bU.out bR.out).mono ?_;rintro e E ⟨rfl,dW,aN⟩;have aq:Kept (λ_=>False) y E:=by rw [aN];exact kD
 have bS:Hid (xH M w E d bd bs F L a5 ⟨V.vs,g⟩):=cm.out.keep aq;have ci:Hid (zu E (λ_=>True) s p):=(bT.out.keep aq).bytes;have b7:Hid (zu E (λ_=>True) a4 p):=(cd.out.keep aq).bytes;clear aN aq;go_wp2_with fail;refine(uy E (λ_=>True) (λ_=>True) s a4 u bE p ci.out b7.out (by omega)).mono ?_;rintro e bF ⟨rfl,d9,aT⟩;have bG:Kept (λ_=>False) E bF:=by rw [aT];exact kD
 have bL:Hid (xH M w bF d bd bs F L a5 ⟨V.vs,g⟩):=bS.out.keep bG;have ei:(cx==cx)=true:=by simp
 have aR:(bc==bc)=true:=by simp
 clear aT bG;go_wp2;go_ret;exact⟨rfl,bL.out.end⟩
end keep
namespace undone
open Go.ChangeShapes Go.WideShapes Go.ChangeAt Go.RowKit
open disk ref law keep
theorem own:ownKnob Tryz.prog.godebug=none:=by kernel_rfl
theorem qL:laidOutB Tryz.prog=true:=by kernel_rfl
theorem walk(d:World)(a:Option Addr)(cap:Nat)(b:List bn)(h:Qa d (λk=>k<d.heap.size) a b)(l:b.length<=2000000000000)(j:Int)(o:zs j)(i:Option Addr)(g:Nat)(c:List UInt8)(q:zu d (λk=>k<d.heap.size) i c)(n:c.length<=140737488355326)(m:c.length<=g):
 Calls Tryz.prog 10 #[.slice a b.length cap,.int .i64 j,.slice i c.length g] d λe w'=>e=.returned (.bool true)/\Kept (λ_=>False) d w':=
 KN prog.GZ prog.kF prog.vM prog.Yk prog.Yx prog.uZ prog.uw (λf p=>by have o:f= -1:=p;omega) d (λk=>k<d.heap.size) (λ_ h=>h) a cap b h l j o i g c q n m
set_option maxRecDepth 100000 in
theorem yw(aI:Type)(enc:TypeId×Value->aI)(m:World)(x:Nat)(args:Array Value)(z H:List (DataW aI))(k:List MemPlace)
 (f:∀(j:Nat) t v,Tryz.f10.params[j]? =some t->args[j]? =some v->Value.okWide Tryz.prog m .any x t v)
 (y:DataW.Whole enc Tryz.prog Tryz.f10.params.toList Rows.undoneSpec.vars false m args.toList z H k)
 (c:(DataW.weightsEach Tryz.prog (Tryz.f10.params.toList++(OpenSpec.ofChange Rows.undoneSpec).bare.plain.varTypes Tryz.prog) (z++H)).all (· <=reachBytes)=true):
 Calls Tryz.prog 10 args m λe o=>∃v,e=.returned v/\Rows.undoneSpec.post enc Tryz.prog Tryz.f10 false true false false m args v o:=by
 have r:=y;have g:=λp av=>y.lt p av;obtain⟨p,q,s,an,rfl,aK,aJ⟩:=y;have U:DataW.TrodAll enc Tryz.prog m 0 (λ_=>true) true Tryz.f10.params.toList args.toList z p:=s;rw [Tryz.params10] at U f c;obtain⟨R,aF,L,aD,D,aO,ab,rfl,rfl,J,ad⟩:=trodAll_cons U;obtain⟨I,aB,au,aE,A,aP,rfl,rfl,rfl,M,ap⟩:=trodAll_cons ad;obtain⟨N,aH,E,aG,u,aL,rfl,rfl,rfl,S,ay⟩:=trodAll_cons ap;obtain⟨rfl,rfl,rfl⟩:=trodAll_nil ay;obtain rfl:args=#[R,I,N]:=by cases args;simp_all
 obtain⟨rfl,rfl⟩:=trodVars_none an;obtain⟨aj,aw,ao,rfl⟩:=okWide_slice Tryz.underlying26 (f 0 26 R rfl rfl);obtain⟨X,rfl⟩:=okWide_int Tryz.underlying3 (f 1 3 I rfl rfl);obtain⟨am,ae,ah,rfl⟩:=okWide_slice Tryz.underlying35 (f 2 35 N rfl rfl);have u0:=J;obtain⟨Y,T⟩:=J;have Q:(L.weights Tryz.prog 26).all (· <=reachBytes)=true:=aQ.2 (λn C=>aQ.1 c n (DataW.weights_mem_each (j:=0) rfl rfl n C));obtain⟨K,rfl,B,ai⟩:=uA T Q;have u1:=M;obtain⟨aa,W⟩:=M;obtain⟨k1,ak,O⟩:=y9 Tryz.underlying3 W;obtain rfl:X=k1:=by injection ak with e;injection e
 have u2:=S;obtain⟨Z,V⟩:=S;have G:(E.weights Tryz.prog 35).all (· <=reachBytes)=true:=aQ.2 (λn C=>aQ.1 c n (DataW.weights_mem_each (j:=2) rfl rfl n C));obtain⟨az,ag,ax,ar,aA⟩:=DJ V G;subst ag;clear s;simp only [aM] at r g;refine(walk m aj ao K B ai X O am ah az ax ar aA).mono λe o ⟨al,aq⟩=>?_;subst al;have l:Below m.heap.size m o:=aq.below fE (aC _)
 have d:∀i∈D++(A++(u)),m.sameAt o i:=λi a=>by
  have F:=g i a
  cases i with
  |cell b aR=>exact ik (w:=m) (l.block b F)
  |map b=>exact l.block b F
 refine⟨_,rfl,[L,au,E],[],D++(A++(u)),[],D++(A++(u)),[],r,?_,?_,rfl,l.frame _,λh=>by cases h⟩;.exact trodAll_mk1 (shut_bool Tryz.underlying4 _)
 .exact trodAll_mk3 (WideElems.Trod_stays (P:=Tryz.prog) qL (by kernel_rfl) (aN (by kernel_rfl)) u0 (λi a=>d i (ac _ a)) (λi a=>by simpa using g i (ac _ a))) (WideElems.Trod_stays (P:=Tryz.prog) qL (by kernel_rfl) (aN (by kernel_rfl)) u1 (λi a=>d i (af _ (ac _ a))) (λi a=>by simpa using g i (af _ (ac _ a)))) (WideElems.Trod_stays (P:=Tryz.prog) qL (by kernel_rfl) (aN (by kernel_rfl)) u2 (λi a=>d i (af _ (af _ a))) (λi a=>by simpa using g i (af _ (af _ a))))
def zy(w0:World):World:=
 let put (h:Array Obj) (g:Nat) (cs:Array Value):Array Obj:=h.modify g fun
  |.cells _ t frozen=>.cells cs t frozen
  |o=>o
 let h1:=put w0.heap 1 (Lib.firstTab.map λz=>Value.int .u8 z).toArray
 let h2:=put h1 2 ((List.range 16).flatMap λi=>[Value.int .u8 (Lib.accLo i),Value.int .u8 (Lib.accHi i)]).toArray
 {w0 with heap:=h2}
theorem yx(a:Os)(args:Array Value):laidMet Tryz.prog Rows.undoneRow.laid ((zy (World.holding Tryz.prog a ⟨#[],#[],[]⟩)).forCall (λ_ _=>0) ⟨#[],args,[]⟩).memory:=
 (LaidIn.of_run (l:=[("unicode/utf8.acceptRanges",Rows.laid_unicode_utf8_acceptRanges),("unicode/utf8.first",Rows.laid_unicode_utf8_first)]) [2,1] 8 (by kernel_rfl) (by kernel_rfl) (by kernel_rfl) (by kernel_rfl)).met
theorem qJ(b:Os){g:Type}(enc:TypeId×Value->g):
 (OpenSpec.ofChange Rows.undoneSpec).preRow enc Tryz.prog Tryz.f10 Rows.undoneRow.domain false Rows.undoneRow.laid ((zy (World.holding Tryz.prog b ⟨#[],#[],[]⟩)).forCall (λ_ _=>0) ⟨#[],#[.slice none 0 0,.int .i64 0,.slice none 0 0],[]⟩).memory #[.slice none 0 0,.int .i64 0,.slice none 0 0]:=by
 have c:(DataW.whole enc Tryz.prog ((zy (World.holding Tryz.prog b ⟨#[],#[],[]⟩)).forCall (λ_ _=>0) ⟨#[],#[.slice none 0 0,.int .i64 0,.slice none 0 0],[]⟩).memory Tryz.f10.params.toList Rows.undoneSpec.vars false #[Value.slice none 0 0,Value.int .i64 0,Value.slice none 0 0].toList 8).map (λf=>(f.1,f.2.1))=
  some ([.nil,.lit (.int .i64 0),.nil],[]):=by kernel_rfl
 obtain⟨⟨h,j,i⟩,e,a⟩:=io.1 c;simp only [eK] at a;obtain⟨rfl,rfl⟩:=a;exact OpenSpec.preRow_of_cond 8 e (by kernel_rfl) (λk d=>by cases d) (by kernel_rfl) (yx b _)
set_option maxRecDepth 100000 in
theorem xZ(d:Os)(a:d.Started)(j:Type)(enc:TypeId×Value->j)(F:Stop.Interp):
 ReturnsInHanded {} Tryz.checked d 10 .any ((OpenSpec.ofChange Rows.undoneSpec).preRow enc Tryz.prog Tryz.f10 Rows.undoneRow.domain false Rows.undoneRow.laid) (((OpenSpec.ofChange Rows.undoneSpec).at F).post enc Tryz.prog Tryz.f10 false true false false):=by
 refine returnsInHanded_of_row (C:=Tryz.checked) (s:=OpenSpec.ofChange Rows.undoneSpec) own a (by kernel_rfl) Tryz.func10
  (witness_row_at (enc:=enc) (C:=Tryz.checked) false (zy (World.holding Tryz.prog d ⟨#[],#[],[]⟩)) #[.slice none 0 0,.int .i64 0,.slice none 0 0] rfl (by kernel_rfl) (by kernel_rfl) (by kernel_rfl) (qJ d enc)) ?_
 intro k f args i h c e g _ _ b l _ _;exact yw j enc k f args i h c e g b
theorem gV:Rows.UndoneSaid:=
 OpenClaim.holds_of_cond 10 Tryz.f10 rfl rfl rfl rfl rfl rfl rfl ⟨rfl,rfl,rfl,rfl,rfl⟩ rfl rfl rfl rfl rfl (by kernel_rfl) Tryz.func10 (by kernel_rfl)
  (aN (by kernel_rfl)) (by unfold Func.isWrapper;first|(rw [aB (by decide+kernel)];kernel_rfl)|(rw [az (by decide+kernel)];exact⟨rfl,rfl⟩))
  (λb a c enc _ F=>by rw [OpenClaim.pre_eq_preRow];exact xZ b a c enc F)
theorem plain(f:FuncId)(fn:Func)(d:Tryz.pinned.checked.prog.funcNamed "cairn/cairnkeep.Undone" =some f)(b:Tryz.pinned.checked.prog.funcs[f]? =some fn):
 false=Tryz.pinned.checked.prog.looks []/\∀(j:Nat) t,fn.params[j]? =some t->Tryz.pinned.checked.prog.wantsStandIn t=false:=by
 obtain rfl:f= 10:=aK ((show Tryz.prog.funcNamed "cairn/cairnkeep.Undone" =some 10 by kernel_rfl).symm.trans d) |>.symm;obtain rfl:fn=Tryz.f10:=(aK (Tryz.func10.symm.trans b)).symm;refine⟨by kernel_rfl,λj t c=>?_⟩;rw [Tryz.params10] at c;have a:t= 26\/t= 3\/t= 35:=by simpa using iu c
 rcases a with rfl|rfl|rfl;.exact(show Tryz.prog.wantsStandIn 26=false by kernel_rfl)
 .exact(show Tryz.prog.wantsStandIn 3=false by kernel_rfl)
 .exact(show Tryz.prog.wantsStandIn 35=false by kernel_rfl)
theorem card:Rows.UndoneCardSaid:=
 Claim7.holds_tied_plain_at .later [] _ _ _ _ gV (λ_ h=>by cases h) (by kernel_rfl) (λ_ h=>by cases h) undone_row_tie rfl ⟨rfl,rfl⟩ (by kernel_rfl) rfl plain (by kernel_rfl)
end undone
theorem undone_holds:Rows.UndoneCardSaid:=undone.card
end Go.Proofs.YtcoengihaobddaaGreatDoor
