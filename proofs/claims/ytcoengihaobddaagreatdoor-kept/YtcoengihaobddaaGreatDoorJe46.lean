/- Proved: whatever changes are made on a new disk, whenever it dies in their midst and whatever of what was not flushed lasts: what was answered for is there, byte by byte, under its number, till it is erased, numbers rise, and a store can always be opened (the law Kept answers true), and what is handed in reads as it did; no condition. The card ties the listed tables to the program's text (a pruned copy of the project: see the seat's page). -/
import Derived.Test.YtcoengihaobddaaGreatDoorJe45
import Derived.Test.YtcoengihaobddaaGreatDoorJe28
import Derived.Test.YtcoengihaobddaaGreatDoorJe38
import Derived.Lib.SlBytesConst
import Derived.Test.YtcoengihaobddaaGreatDoorCards
import Derived.Test.YtcoengihaobddaaGreatDoorTie
import Derived.Deep.DeepHandedRow
import Derived.Deep.DeepWitnessRowRef
import Derived.Lib.LaidIn
import Derived.Lib.LaidU8
import Derived.WideKeyArgs
set_option maxHeartbeats 8000000
set_option linter.unusedVariables false
set_option linter.unusedSimpArgs false
set_option maxRecDepth 8000
namespace Go.Proofs.YtcoengihaobddaaGreatDoor
namespace keep
open Go.ChangeShapes Go.WideShapes Go.ChangeAt Go.RowKit disk ref book
open law (zP za zL qx qr yU zD xm J6 Uc OutIs)
open keys (zg zd zq zl zh)
section
variable {M N:za} {w w':World} {X:Nat->Prop} {bp n:Nat} {D:Dk} {V U:zP} {vs:List zw} {last:Int} {lost:Nat}
theorem fS.hold(h:fS U vs last (-1) lost):y6 U vs last lost:=by
 rcases h with⟨_,h⟩|⟨i,e,_⟩;.exact h
 .omega
theorem ZJ(A:zL N)(o:Wn M N)(h:qy M w X bp D V vs last (-1) lost)(d:yW V D vs last lost n)(t:n<=1000000000000000):
 Calls Tryz.prog 16 #[.pointer (some ⟨bp,0,none⟩),.slice none 0 0] w λe w'=>e=.returned (.tuple #[])/\∃c b V',qy M w' c bp b V' vs last (-1) lost/\y6 V' vs last lost/\V'.n0<=(n:Int)/\b.reads<=2000/\b.bs.length=1000/\Kept X w w'/\∀k,c k->X k\/w.heap.size<=k:=by
 obtain⟨bd,bs,S,a,cap,u,v,h,F⟩:=h;refine(QM A o h F.disk n (by omega) (vQ F.live.could (λU s=>by rw [s];exact⟨.inl ⟨rfl,d.hold⟩,d.n0⟩)) d.size (λ_=>False) none 0 [] (λj l=>by simp at l) fE (by simp)).mono ?_;rintro e w' ⟨rfl,c,b,V',p,f,g,m,r,i,q⟩;exact⟨rfl,c,b,V',p,f.hold,g,m,r,i,q⟩
theorem ZK(A:yU M)(h:qy M w X bp D V vs last (-1) lost)(b:y6 V vs last lost)(g:V.n0<=1000000000000000000)(f:D.reads<=1000000000000000000)(d:vs.length<=6000):
 Calls Tryz.prog 17 #[.pointer (some ⟨bp,0,none⟩)] w λe w'=>e=.returned (.bool true)/\∃c a,qy M w' c bp a V vs last (-1) lost/\a.reads<=D.reads+40*(vs.length:Int)/\a.bs.length=D.bs.length/\Kept X w w'/\∀k,c k->X k\/w.heap.size<=k:=
 ZH A h (by
  obtain⟨_,_,_,_,_,_,_,_,F⟩:=h
  exact b.fine F.live.good g) (.inl ⟨rfl,b⟩) f d
def gp:List UInt8:=[111,110,101]
def xL:ByteArray:=⟨#[102,105,114,115,116]⟩
theorem KM:zh xL.data.toList=true:=by decide
structure gr (w wr:World) (X:Nat->Prop):Prop where
 x:∀k,X k->w.heap.size<=k
 kept:Kept (λk=>w.heap.size<=k) w wr
theorem gr.on{b:Nat->Prop}{wr w':World}(h:gr w wr X)(k:Kept X wr w')(c:∀k,b k->X k\/wr.heap.size<=k):gr w w' b:=
 ⟨λi a=>(c i a).elim (h.x i) (λg=>aF h.kept.size g),h.kept.trans k (λi a=>.inl (h.x i a))⟩
theorem gr.end{wr:World}(h:gr w wr X):Kept (λ_=>False) w wr:=⟨h.kept.os,h.kept.tape,h.kept.output,h.kept.size,λk a _=>h.kept.block k a (by omega)⟩
set_option maxRecDepth 60000 in
theorem DL(Z:zL N)(bQ:qx N)(bJ:qx M)(bK:qr M)(aG:yU M)(y:Wn M N)(w:World)(Q:Nat->Prop)(bc:∀k,Q k->k<w.heap.size)(a:Option Addr)(cap:Nat)(d:List bn)(h:Qa w Q a d)(bq:d.length<=2000000000000):
 Calls Tryz.prog 8 #[.slice a d.length cap] w λe w'=>e=.returned (.bool true)/\Kept (λ_=>False) w w':=by
 have bi:Hid (Qa w Q a d):=h;have aE:Hid (∀k,Q k->k<w.heap.size):=bc;clear h bc;go_enter Tryz.func8,Tryz.ntmps8;go_wp2_with fail;refine(uz N Z y.none _).mono ?_;rintro e f ⟨m,bp,bd,bs,S,D,rfl,aa,R,aA,bT⟩;have A:Hid (yk N f m bp bd bs S D ⟨[],0⟩ none 0 [] (λ_=>False)):=aa;have aS:Hid (gr w f m):=⟨aA,R.mono fE⟩;obtain⟨_,_,_,_,_,bZ,_⟩:=aa.c;have aC:¬m f.heap.size:=λaD=>by have:=aa.xlt _ aD;omega
 have a5:Hid (¬m f.heap.size):=aC;have bS:=R.size;clear aa R aA aC;have bO:=λ(w:World) (C:Array Value) (n c:Nat)=>Lib.run_convert_bytes_const (P:=Tryz.prog) w 35 5 C n c Tryz.underlying35 Tryz.underlying5;go_wp2_with fail;clear bO;have J:=heap_alloc_new f (.cells #[.int .u8 111,.int .u8 110,.int .u8 101] 5 (3,4));have E:Kept (λ_=>False) f (f.alloc (.cells #[.int .u8 111,.int .u8 110,.int .u8 101] 5 (3,4))):=Kept.alloc _ _ _;generalize f.alloc (.cells #[.int .u8 111,.int .u8 110,.int .u8 101] 5 (3,4))=o at*;have aL:f.heap.size<o.heap.size:=(lT J)
 have ab:Hid (zu o (λk=>k=f.heap.size) (some ⟨f.heap.size,0,none⟩) gp):=.inr ⟨f.heap.size,0,rfl,rfl,aL,λj bv=>by
  rw [ak o _ _ _ _ _ J];have b6:j<3:=bv;have:j=0\/j=1\/j=2:=by omega
  rcases this with rfl|rfl|rfl<;>rfl⟩
 have K:Hid (Calls Tryz.prog 15 #[.pointer (some ⟨bp,0,none⟩),.string ⟨#[102,105,114,115,116]⟩,.slice (some ⟨f.heap.size,0,none⟩) 3 3] o λe w'=>e=.returned (.bool true)/\∃S' bj bI aF aQ G',yk N w' (λk=>m k\/(o.heap.size<=k/\k<w'.heap.size)) bp bd bs S' bj ((⟨[],0⟩:zP).add xL false (gp.take 300)) bI aF aQ G'/\bj.reads<=D.reads+40/\Kept m o w'):=
  uU bQ y.none (A.out.kept E nF) (by show (0:Nat)<470;omega) (by show (0:Int)<=_;omega) (by omega) xL KM (by decide) (λk=>k=f.heap.size) (λk l=>by rw [show k=f.heap.size from l];exact a5.out) (some ⟨f.heap.size,0,none⟩) 3 gp ab.out (by decide) (by decide)
 have aW:Hid (gr w o m):=aS.out.on (E.mono fE) (λk l=>.inl l);clear J E;refine K.out.mono ?_;rintro e x ⟨rfl,ce,aK,ck,bD,b9,cg,v,bY,ap⟩;have bh:Hid (gr w x (λk=>m k\/(o.heap.size<=k/\k<x.heap.size))):=aW.out.on ap (λk l=>l.imp id (λh=>h.1));have I:qy M x (λk=>m k\/(o.heap.size<=k/\k<x.heap.size)) bp aK ((⟨[],0⟩:zP).add xL false (gp.take 300)) ([]++[⟨xL,0+1,false,gp.take 300⟩]) (0+1) (-1) 0:=⟨_,_,_,_,_,_,_,v.gen,y.fore _ _ _ _ _ _ v.fore⟩;have aY:Hid (qy M x (λk=>m k\/(o.heap.size<=k/\k<x.heap.size)) bp aK ((⟨[],0⟩:zP).add xL false (gp.take 300)) ([]++[⟨xL,0+1,false,gp.take 300⟩]) (0+1) (-1) 0):=I;have ag:y6 ((⟨[],0⟩:zP).add xL false (gp.take 300)) ([]++[⟨xL,0+1,false,gp.take 300⟩]) (0+1) 0:=(y6.none 0 (eD _)).put A.out.fore.live.good xL (gp.take 300);have bm:Hid (yW ((⟨[],0⟩:zP).add xL false (gp.take 300)) aK ([]++[⟨xL,0+1,false,gp.take 300⟩]) (0+1) 0 1):=⟨ag,by decide,by show (0:Int)+1<=_;omega,by push_cast;omega,v.size⟩;have b4:([]++[(⟨xL,0+1,false,gp.take 300⟩:zw)]).length=1:=rfl;have bV:weight ([]++[(⟨xL,0+1,false,gp.take 300⟩:zw)])=2:=by decide
 clear v ap I ag K ab A;generalize ([]++[(⟨xL,0+1,false,gp.take 300⟩:zw)])=p at*;generalize ((⟨[],0⟩:zP).add xL false (gp.take 300))=cf at*;go_wp2_with fail;refine(ZJ Z y aY.out bm.out (by omega)).mono ?_;rintro e a2 ⟨rfl,aR,bt,z,L,ao,b2,b3,b5,aB,ad⟩;obtain⟨bE,bR,bL⟩:=L.ok;have a3:Hid (qy M a2 aR bp bt z p (0+1) (-1) 0):=L;have aj:Hid (y6 z p (0+1) 0):=ao;have a1:Hid (gr w a2 aR):=bh.out.on aB ad;clear L ao aB ad;go_wp2_with fail;refine(ZK aG a3.out aj.out (by omega) (by omega) (by omega)).mono ?_;rintro e aM ⟨rfl,U,Y,F,b0,bW,am,ae⟩;obtain⟨bC,bP,bB⟩:=F.ok;have aZ:Hid (qy M aM U bp Y z p (0+1) (-1) 0):=F;have aT:Hid (gr w aM U):=a1.out.on am ae;clear F am ae;go_wp2_with fail;have B:=aZ.out.again;generalize aM.setCell ⟨bp,6,none⟩ (.bool true)=aV at*;have aX:Hid (qy M aV U bp Y z p (0+1) (-1) 0):=B.1;have a6:Hid (gr w aV U):=aT.out.on B.2 (λk l=>.inl l);have bl:Hid (yW z Y p (0+1) 0 1):=⟨aj.out,by omega,by omega,by omega,by omega⟩;clear B;go_loopw [5] (λt wr=>∃i:Nat,i<=d.length/\t=.int .i64 i/\∃X D V vs last lost,qy M wr X bp D V vs last (-1) lost/\yW V D vs last lost (i+1)/\gr w wr X) (λt _=>d.length-(intOf t).toNat)
 case atStart=>exact⟨0,ai _,rfl,U,Y,z,p,_,0,aX.out,bl.out,a6.out⟩
 case round=>
  obtain⟨i,ch,rfl,X,D,V,vs,last,lost,G,af,al⟩:=hrel;obtain⟨bz,bx,bN⟩:=G.ok;have ax:Hid (qy M wr X bp D V vs last (-1) lost):=G;have O:Hid (yW V D vs last lost (i+1)):=af;have g:Hid (gr w wr X):=al;clear G af al;by_cases ah:i<d.length
  .have bf:(i:Int)<(d.length:Int):=by omega
   obtain⟨b,W,rfl,bg,u,q⟩:=bi.out.each i ah;have bH:=aE.out b bg;have cj:wr.cell? ⟨b,W+i*5,none⟩=some (.int .i64 d[i].key):=(g.out.kept.cell (a:=⟨b,W+i*5,none⟩) u (by show ¬w.heap.size<=b;omega)).trans (q 0 _ rfl);have cd:wr.cell? ⟨b,W+i*5+1,none⟩=some (.int .i64 d[i].what):=(g.out.kept.cell (a:=⟨b,W+i*5+1,none⟩) u (by show ¬w.heap.size<=b;omega)).trans (q 1 _ rfl);have ca:wr.cell? ⟨b,W+i*5+2,none⟩=some (.slice d[i].la d[i].l.length d[i].lc):=(g.out.kept.cell (a:=⟨b,W+i*5+2,none⟩) u (by show ¬w.heap.size<=b;omega)).trans (q 2 _ rfl);have bD:wr.cell? ⟨b,W+i*5+3,none⟩=some (.int .i64 d[i].fuse):=(g.out.kept.cell (a:=⟨b,W+i*5+3,none⟩) u (by show ¬w.heap.size<=b;omega)).trans (q 3 _ rfl);have ci:wr.cell? ⟨b,W+i*5+4,none⟩=some (.slice d[i].ka d[i].ks.length d[i].kc):=(g.out.kept.cell (a:=⟨b,W+i*5+4,none⟩) u (by show ¬w.heap.size<=b;omega)).trans (q 4 _ rfl);have a4:Hid (d[i].Ok wr Q):=(bi.out.ok i ah).kept g.out.kept (λk l cb=>by have:=aE.out k l;omega);clear q;generalize d[i]=bw at*;go_wp2_with fail;refine(KL Z bJ bK aG y ax.out O.out (by omega) bw Q a4.out (λk l aD=>by have:=aE.out k l;have:=g.out.x k aD;omega)).mono ?_;rintro e aN ⟨rfl,aI,aH,aJ,T,r,s,av,aw,ac,aq⟩;have bk:Hid (qy M aN aI bp aH aJ T r (-1) s):=av;have a7:Hid (yW aJ aH T r s (i+1+1)):=aw;have a0:Hid (gr w aN aI):=g.out.on ac aq;clear av aw ac aq;go_wp2;go_roundw
   case rel=>exact⟨i+1,by omega,by go_num,aI,aH,aJ,T,r,s,bk.out,a7.out,a0.out⟩
   case measure=>simp [intOf];omega
  .have bf:decide ((i:Int)<(d.length:Int))=false:=decide_eq_false (by omega);go_wp2_with fail;refine(ZJ Z y ax.out O.out (by omega)).mono ?_;rintro e a8 ⟨rfl,ba,bA,a9,H,ay,b1,bX,bU,an,au⟩;obtain⟨bM,bo,bG⟩:=H.ok;have bb:Hid (qy M a8 ba bp bA a9 vs last (-1) lost):=H;have aU:Hid (y6 a9 vs last lost):=ay;have aO:Hid (gr w a8 ba):=g.out.on an au;have br:=O.out.few;clear H ay an au;go_wp2_with fail;refine(ZK aG bb.out aU.out (by omega) (by omega) (by omega)).mono ?_;rintro e bF ⟨rfl,bu,cc,be,b7,b8,az,ar⟩;have aP:Hid (gr w bF bu):=aO.out.on az ar;clear be az ar;go_wp2;go_ret;exact⟨rfl,aP.out.end⟩
end
end keep
namespace kept
open Go.ChangeShapes Go.WideShapes Go.ChangeAt Go.RowKit
open disk ref law keep
theorem own:ownKnob Tryz.prog.godebug=none:=by kernel_rfl
theorem qL:laidOutB Tryz.prog=true:=by kernel_rfl
theorem two:Wn prog.Wk prog.Wl:=⟨λD P h=>⟨h.few,h.big,h.all⟩,λw bd bs S D V h=>⟨h.disk,h.apart,h.sto,⟨h.live.ps,h.live.rest,h.live.big⟩,(by
 have e:D.fuse= -1:=h.fuse;show zs D.fuse
 rw [e];constructor<;>omega),h.reads0,h.reads1,h.few⟩,λf h=>by have e:f= -1:=h;omega,λf h=>h⟩
theorem walk(d:World)(a:Option Addr)(cap:Nat)(b:List bn)(h:Qa d (λk=>k<d.heap.size) a b)(c:b.length<=2000000000000):
 Calls Tryz.prog 8 #[.slice a b.length cap] d λe w'=>e=.returned (.bool true)/\Kept (λ_=>False) d w':=
 DL (M:=prog.Wk) (N:=prog.Wl) (prog.UH (λ_ _ h=>h) (λ_ _ _ h=>h) prog.uk) (prog.Zm (λ_ _ _ h=>h) prog.uk) (prog.Zm (λ_ _ _ h=>h) prog.bm) (prog.ZB (λ_ _ _ h=>h) prog.bm) prog.Yl two d (λk=>k<d.heap.size) (λ_ h=>h) a cap b h c
set_option maxRecDepth 100000 in
theorem yw(Y:Type)(enc:TypeId×Value->Y)(k:World)(u:Nat)(args:Array Value)(y D:List (DataW Y))(f:List MemPlace)
 (d:∀(j:Nat) t v,Tryz.f8.params[j]? =some t->args[j]? =some v->Value.okWide Tryz.prog k .any u t v)
 (x:DataW.Whole enc Tryz.prog Tryz.f8.params.toList Rows.keptSpec.vars false k args.toList y D f)
 (a:(DataW.weightsEach Tryz.prog (Tryz.f8.params.toList++(OpenSpec.ofChange Rows.keptSpec).bare.plain.varTypes Tryz.prog) (y++D)).all (· <=reachBytes)=true):
 Calls Tryz.prog 8 args k λe m=>∃v,e=.returned v/\Rows.keptSpec.post enc Tryz.prog Tryz.f8 false true false false k args v m:=by
 have s:=x;have c:=λp R=>x.lt p R;obtain⟨p,q,r,W,rfl,ab,Z⟩:=x;have E:DataW.TrodAll enc Tryz.prog k 0 (λ_=>true) true Tryz.f8.params.toList args.toList y p:=r;rw [Tryz.params8] at E d a;obtain⟨J,aa,H,X,A,ac,L,rfl,rfl,F,N⟩:=trodAll_cons E;obtain⟨rfl,rfl,rfl⟩:=trodAll_nil N;obtain rfl:args=#[J]:=by cases args;simp_all
 obtain⟨rfl,rfl⟩:=trodVars_none W;obtain⟨U,Q,O,rfl⟩:=okWide_slice Tryz.underlying26 (d 0 26 J rfl rfl);have u0:=F;obtain⟨K,C⟩:=F;have I:(H.weights Tryz.prog 26).all (· <=reachBytes)=true:=aQ.2 (λn T=>aQ.1 a n (DataW.weights_mem_each (j:=0) rfl rfl n T));obtain⟨G,rfl,z,S⟩:=uA C I;clear r;simp only [aM] at s c;refine(walk k U O G z S).mono λe m ⟨V,M⟩=>?_;subst V;have g:Below k.heap.size k m:=M.below fE (aC _)
 have l:∀o∈A,k.sameAt m o:=λo i=>by
  have B:=c o i
  cases o with
  |cell b ad=>exact ik (w:=k) (g.block b B)
  |map b=>exact g.block b B
 refine⟨_,rfl,[H],[],A,[],A,[],s,?_,?_,rfl,g.frame _,λh=>by cases h⟩;.exact trodAll_mk1 (shut_bool Tryz.underlying4 _)
 .exact trodAll_mk1 (WideElems.Trod_stays (P:=Tryz.prog) qL (by kernel_rfl) (aN (by kernel_rfl)) u0 (λo i=>l o i) (λo i=>by simpa using c o i))
def zy(w0:World):World:=
 let put (h:Array Obj) (g:Nat) (cs:Array Value):Array Obj:=h.modify g fun
  |.cells _ t frozen=>.cells cs t frozen
  |o=>o
 let h1:=put w0.heap 1 (Lib.firstTab.map λz=>Value.int .u8 z).toArray
 let h2:=put h1 2 ((List.range 16).flatMap λi=>[Value.int .u8 (Lib.accLo i),Value.int .u8 (Lib.accHi i)]).toArray
 {w0 with heap:=h2}
theorem yx(a:Os)(args:Array Value):laidMet Tryz.prog Rows.keptRow.laid ((zy (World.holding Tryz.prog a ⟨#[],#[],[]⟩)).forCall (λ_ _=>0) ⟨#[],args,[]⟩).memory:=
 (LaidIn.of_run (l:=[("unicode/utf8.acceptRanges",Rows.laid_unicode_utf8_acceptRanges),("unicode/utf8.first",Rows.laid_unicode_utf8_first)]) [2,1] 8 (by kernel_rfl) (by kernel_rfl) (by kernel_rfl) (by kernel_rfl)).met
theorem qJ(b:Os){g:Type}(enc:TypeId×Value->g):
 (OpenSpec.ofChange Rows.keptSpec).preRow enc Tryz.prog Tryz.f8 Rows.keptRow.domain false Rows.keptRow.laid ((zy (World.holding Tryz.prog b ⟨#[],#[],[]⟩)).forCall (λ_ _=>0) ⟨#[],#[.slice none 0 0],[]⟩).memory #[.slice none 0 0]:=by
 have c:(DataW.whole enc Tryz.prog ((zy (World.holding Tryz.prog b ⟨#[],#[],[]⟩)).forCall (λ_ _=>0) ⟨#[],#[.slice none 0 0],[]⟩).memory Tryz.f8.params.toList Rows.keptSpec.vars false #[Value.slice none 0 0].toList 8).map (λf=>(f.1,f.2.1))=
  some ([.nil],[]):=by kernel_rfl
 obtain⟨⟨h,j,i⟩,e,a⟩:=io.1 c;simp only [eK] at a;obtain⟨rfl,rfl⟩:=a;exact OpenSpec.preRow_of_cond 8 e (by kernel_rfl) (λk d=>by cases d) (by kernel_rfl) (yx b _)
set_option maxRecDepth 100000 in
theorem xZ(d:Os)(a:d.Started)(j:Type)(enc:TypeId×Value->j)(F:Stop.Interp):
 ReturnsInHanded {} Tryz.checked d 8 .any ((OpenSpec.ofChange Rows.keptSpec).preRow enc Tryz.prog Tryz.f8 Rows.keptRow.domain false Rows.keptRow.laid) (((OpenSpec.ofChange Rows.keptSpec).at F).post enc Tryz.prog Tryz.f8 false true false false):=by
 refine returnsInHanded_of_row (C:=Tryz.checked) (s:=OpenSpec.ofChange Rows.keptSpec) own a (by kernel_rfl) Tryz.func8
  (witness_row_at (enc:=enc) (C:=Tryz.checked) false (zy (World.holding Tryz.prog d ⟨#[],#[],[]⟩)) #[.slice none 0 0] rfl (by kernel_rfl) (by kernel_rfl) (by kernel_rfl) (qJ d enc)) ?_
 intro k f args i h c e g _ _ b l _ _;exact yw j enc k f args i h c e g b
theorem gV:Rows.KeptSaid:=
 OpenClaim.holds_of_cond 8 Tryz.f8 rfl rfl rfl rfl rfl rfl rfl ⟨rfl,rfl,rfl,rfl,rfl⟩ rfl rfl rfl rfl rfl (by kernel_rfl) Tryz.func8 (by kernel_rfl)
  (aN (by kernel_rfl)) (by unfold Func.isWrapper;first|(rw [aB (by decide+kernel)];kernel_rfl)|(rw [az (by decide+kernel)];exact⟨rfl,rfl⟩))
  (λb a c enc _ F=>by rw [OpenClaim.pre_eq_preRow];exact xZ b a c enc F)
theorem plain(f:FuncId)(fn:Func)(d:Tryz.pinned.checked.prog.funcNamed "cairn/cairnkeep.Kept" =some f)(b:Tryz.pinned.checked.prog.funcs[f]? =some fn):
 false=Tryz.pinned.checked.prog.looks []/\∀(j:Nat) t,fn.params[j]? =some t->Tryz.pinned.checked.prog.wantsStandIn t=false:=by
 obtain rfl:f= 8:=aK ((show Tryz.prog.funcNamed "cairn/cairnkeep.Kept" =some 8 by kernel_rfl).symm.trans d) |>.symm;obtain rfl:fn=Tryz.f8:=(aK (Tryz.func8.symm.trans b)).symm;refine⟨by kernel_rfl,λj t c=>?_⟩;rw [Tryz.params8] at c;have a:t= 26:=by simpa using iu c
 rcases a with rfl;.exact(show Tryz.prog.wantsStandIn 26=false by kernel_rfl)
theorem card:Rows.KeptCardSaid:=
 Claim7.holds_tied_plain_at .later [] _ _ _ _ gV (λ_ h=>by cases h) (by kernel_rfl) (λ_ h=>by cases h) kept_row_tie rfl ⟨rfl,rfl⟩ (by kernel_rfl) rfl plain (by kernel_rfl)
end kept
theorem kept_holds:Rows.KeptCardSaid:=kept.card
end Go.Proofs.YtcoengihaobddaaGreatDoor
