/- Proved: for every script of puts, deletions, erasings, lists and new disks the law Lists answers true, and the script reads as it did; no condition. The card ties the listed tables to the program's text (a pruned copy of the project: see the seat's page). -/
import Derived.Test.YtcoengihaobddaaGreatDoorJe30
import Derived.Test.YtcoengihaobddaaGreatDoorJe36
import Derived.Test.YtcoengihaobddaaGreatDoorJe28
import Derived.Test.YtcoengihaobddaaGreatDoorJe29
import Derived.Test.YtcoengihaobddaaGreatDoorJe34
import Derived.Test.YtcoengihaobddaaGreatDoorCards
import Derived.Test.YtcoengihaobddaaGreatDoorTie
import Derived.Deep.DeepHandedRow
import Derived.Deep.DeepWitnessRowRef
import Derived.Lib.LaidIn
import Derived.Lib.LaidU8
import Derived.WideKeyArgs
set_option maxHeartbeats 8000000
set_option linter.unusedVariables false
set_option linter.unusedSimpArgs false
set_option maxRecDepth 8000
namespace Go.Proofs.YtcoengihaobddaaGreatDoor
namespace law
open Go.ChangeShapes Go.WideShapes Go.ChangeAt Go.RowKit disk ref book
open keys (zg zd zq zl zh)
theorem UF(M:za)(P:qx M)(aM:x8 M)(aD:qr M)(aI:yg M)(w:World)(j R t:Nat)(d:List (Nat×(Nat->Prop)))(aL:Option Addr)(aA:Nat)(F a0:Nat->Prop)(a b:Option Addr)(au aw:Nat)(ax vs:List js)(p:qt M w j R t d aL aA F a0 a b au aw ax vs)(U:j<=w.heap.size)(O:t<=2199023255552)
 (c:yC) (Q:Nat->Prop) (J:c.Ok w Q) (ao:∀k,Q k->k<j) (y:c.kind=2\/c.kind=3\/c.kind=4\/c.kind=7):
 Calls Tryz.prog 37 #[.pointer (some ⟨R,0,none⟩),.agg #[.int .i64 c.kind,.int .i64 c.A,.int .i64 c.B,.int .i64 c.C,.string c.S,.string c.P,.slice c.la c.l.length c.lc,.slice c.ka c.ks.length c.kc]] w λe w'=>e=.returned (.bool true)/\ju M w' j R (t+1)/\Kept (λk=>j<=k) w w':=by
 have k0:Kept (λ_=>False) w (w.alloc (.cells #[.int .i64 c.kind,.int .i64 c.A,.int .i64 c.B,.int .i64 c.C,.string c.S,.string c.P,.slice c.la c.l.length c.lc,.slice c.ka c.ks.length c.kc] 81)):=Kept.alloc _ _ _;have l:xj (w.alloc (.cells #[.int .i64 c.kind,.int .i64 c.A,.int .i64 c.B,.int .i64 c.C,.string c.S,.string c.P,.slice c.la c.l.length c.lc,.slice c.ka c.ks.length c.kc] 81)) w.heap.size c:=⟨heap_alloc_new w _⟩;have aK:=l.c0;have aV:=l.c1;have a3:=l.c2;have aR:=l.c3;have aS:=l.c4;have a1:=l.c5;have a2:=l.c6;have aY:=l.c7;have af:=p.kept0 k0;have G:=J.kept k0 nF;have Y:j<=(w.alloc (.cells #[.int .i64 c.kind,.int .i64 c.A,.int .i64 c.B,.int .i64 c.C,.string c.S,.string c.P,.slice c.la c.l.length c.lc,.slice c.ka c.ks.length c.kc] 81)).heap.size:=aF U k0.size;have aO:=af.book.head.c.1;have x:Hid _:=af;have ac:Hid _:=G;have aN:Hid _:=l;have I:Hid _:=k0;have az:Hid _:=p;have ak:Hid _:=ao;have an:Hid _:=Y;have aZ:=p.fewO;have ah:Hid _:=y;have K:=J.A;have aC:Hid _:=K;have aq:=p.fewV;clear k0 l af G p J ao Y y K;generalize aP:w.alloc (.cells #[.int .i64 c.kind,.int .i64 c.A,.int .i64 c.B,.int .i64 c.C,.string c.S,.string c.P,.slice c.la c.l.length c.lc,.slice c.ka c.ks.length c.kc] 81)=w0 at*;rcases ah.out with f|f|f|f
 all_goals
  have ar:Hid _:=f;have aX:(c.kind==1)=false:=by rw [f];rfl
  have aJ:(c.kind==12)=false:=by rw [f];rfl
  have aW:decide (c.kind<2)=false:=by rw [f];rfl
  have aH:decide (11<c.kind)=false:=by rw [f];rfl
  have aQ:decide (8<=c.kind)=false:=by rw [f];rfl
  first
   |have ad:(c.kind==2)=true:=by rw [f];rfl
   |have ad:(c.kind==2)=false:=by rw [f];rfl
  first
   |have ae:(c.kind==3)=true:=by rw [f];rfl
   |have ae:(c.kind==3)=false:=by rw [f];rfl
  first
   |have ab:(c.kind==4)=true:=by rw [f];rfl
   |have ab:(c.kind==4)=false:=by rw [f];rfl
  clear f;by_cases am:d.length=0
  .have ay:((d.length:Int)==0)=true:=by simp [am]
   go_enter Tryz.func37,Tryz.ntmps37;go_wp2;go_ret;exact⟨rfl,az.out.idle I.out⟩
  .have ay:((d.length:Int)==0)=false:=by simpa using am
   obtain⟨g,rfl⟩:=x.out.rowAt (by omega);go_enter Tryz.func37,Tryz.ntmps37;go_wp2_with fail;obtain⟨i,aT,aa⟩:=uV c.A d.length aC.out (by omega) (by omega);have n:i<d.length:=by omega
   have aU:=x.out.rowCell i n;have av:Hid _:=aa;clear aa;go_quiet ((go_at_call 58;exact Calls.quiet_of_same (av.out _)));obtain⟨h,bd,D,S,al,N,V,q,u⟩:=x.out.one i n;have C:=u.kept (T:=λ_=>False) (w':=w0.drewN nq) kD nF;have L:=u.head.c1;have z:Hid (yY M (w0.drewN nq) d[i].2 d[i].1 t h bd D S al N V q):=C;have r:Hid _:=x.out.kept0 (w':=w0.drewN nq) kD;have v:Hid _:=ac.out.kept (T:=λ_=>False) (w':=w0.drewN nq) kD nF;have s:j<=(w0.drewN nq).heap.size:=an.out;have Z:∀k,Q k->¬d[i].2 k/\k<(w0.drewN nq).heap.size:=λk ap=>⟨λaG=>by have:=ak.out k ap;have:=x.out.bX i n k aG;omega,by have:=ak.out k ap;omega⟩;have A:Hid _:=Z;have X:Kept (λk=>j<=k) w (w0.drewN nq):=(I.out.mono fE).trans (S':=λ_=>False) kD fE;have ai:Hid _:=X;clear Z X C
   have aj:(∃bs,h.s=yp bs)\/h.s=.pointer none:=by
    cases u.st using yj.elim with
    |live bs o=>exact .inl ⟨bs,o⟩
    |shut bs o=>exact .inl ⟨bs,o⟩
    |gone o=>exact .inr o
   clear u;rcases aj with⟨bs,o⟩|o
   .have B:Hid _:=o;rw [o] at L;unfold yp at L;clear o;go_wp2_with fail
    first
     |(go_at_call 60;refine(uU M P _ d[i].2 d[i].1 t h bd D S al N V q z.out O bs B.out c Q v.out A.out).mono ?_;rintro e ag m;obtain⟨W,E,H⟩:=r.out.stepped s i n m)
     |(go_at_call 61;refine(bh M aM _ d[i].2 d[i].1 t h bd D S al N V q z.out O bs B.out c Q v.out A.out).mono ?_;rintro e ag m;obtain⟨W,E,H⟩:=r.out.stepped s i n m)
     |(go_at_call 62;refine(ZA M aD _ d[i].2 d[i].1 t h bd D S al N V q z.out O bs B.out c Q v.out A.out).mono ?_;rintro e ag m;obtain⟨W,E,H⟩:=r.out.stepped s i n m)
     |(go_at_call 63;refine(Kz M aI _ d[i].2 d[i].1 t h bd D S al N V q z.out O bs B.out c Q v.out A.out ar.out R _ F a0 a b au aw ax vs r.out.book aq (r.out.sep i n)).mono ?_;rintro e ag m;obtain⟨W,E,H⟩:=r.out.askedV s i n m)
    subst W;have aE:Hid _:=E;have aB:Hid _:=H;clear E H m;go_wp2;go_ret;exact⟨rfl,aE.out,ai.out.trans aB.out iL⟩
   .rw [o] at L;clear o;go_wp2;go_ret;exact⟨rfl,az.out.idle (I.out.trans (S':=λ_=>False) kD iL)⟩
theorem YA(M:za)(A:zL M)(P:qx M)(D:x8 M)(y:qr M)(z:yg M)(o:∀f,M.Fu f->f≠0):Yq M [1,2,3,4,7]:=by
 intro w e r t q u d n h c v;obtain⟨g,l,i,F,x,a,b,s,j,m,vs,p⟩:=u;simp only [aq,eY,or_false] at c;rcases c with c|c|c|c|c;.exact Zo M A o w e r t g l i F x a b s j m vs p d n q _ h (λk c=>c) c (v c)
 all_goals exact UF M P D y z w e r t g l i F x a b s j m vs p d n q _ h (λk c=>c) (by omega)
theorem UG(M:za)(r:zL M)(P:qx M)(D:x8 M)(o:qr M)(p:yg M)(g:∀f,M.Fu f->f≠0)(w:World)(Q:Nat->Prop)(i:∀k,Q k->k<w.heap.size)(a:Option Addr)(cap:Nat)(b:List yC)(h:jQ w Q a b)(d:b.length<=1256584717449):
 Calls Tryz.prog 5 #[.slice a b.length cap] w λe w'=>e=.returned (.bool true)/\Kept (λ_=>False) w w':=by
 have n:Hid _:=h;have m:Hid _:=i;have j:Hid _:=YA M r P D o p g;clear h i;go_enter Tryz.func5,Tryz.ntmps5;go_wp2_with fail;refine(dE M _ Q (λk c=>by have:=m.out k c;simp;omega) a cap b (n.out.kept (Kept.alloc (λ_=>False) w _) nF) d w.heap.size 5 [1,2,3,4,7] ⟨heap_alloc_new w _⟩ (by decide) (by decide) j.out).mono ?_;rintro e q ⟨rfl,c⟩;have l:Hid _:=c;clear c;go_wp2;go_ret;exact⟨rfl,(Kept.alloc _ w _).trans l.out iL⟩
end law
namespace lists
open Go.ChangeShapes Go.WideShapes Go.ChangeAt Go.RowKit
open disk law
theorem own:ownKnob Tryz.prog.godebug=none:=by kernel_rfl
theorem qL:laidOutB Tryz.prog=true:=by kernel_rfl
theorem walk(d:World)(a:Option Addr)(cap:Nat)(b:List yC)(h:jQ d (λk=>k<d.heap.size) a b)(c:b.length<=1256584717449):
 Calls Tryz.prog 5 #[.slice a b.length cap] d λe w'=>e=.returned (.bool true)/\Kept (λ_=>False) d w':=
 UG prog.GZ prog.kF prog.vM prog.Yx prog.uZ prog.uw (λf g=>by have i:f= -1:=g;omega) d (λk=>k<d.heap.size) (λ_ h=>h) a cap b h c
set_option maxRecDepth 100000 in
theorem yw(Y:Type)(enc:TypeId×Value->Y)(i:World)(r:Nat)(args:Array Value)(u D:List (DataW Y))(f:List MemPlace)
 (d:∀(j:Nat) t v,Tryz.f5.params[j]? =some t->args[j]? =some v->Value.okWide Tryz.prog i .any r t v)
 (s:DataW.Whole enc Tryz.prog Tryz.f5.params.toList Rows.listsSpec.vars false i args.toList u D f)
 (a:(DataW.weightsEach Tryz.prog (Tryz.f5.params.toList++(OpenSpec.ofChange Rows.listsSpec).bare.plain.varTypes Tryz.prog) (u++D)).all (· <=reachBytes)=true):
 Calls Tryz.prog 5 args i λe l=>∃v,e=.returned v/\Rows.listsSpec.post enc Tryz.prog Tryz.f5 false true false false i args v l:=by
 have o:=s;have c:=λp O=>s.lt p O;obtain⟨p,q,m,V,rfl,ab,Z⟩:=s;have E:DataW.TrodAll enc Tryz.prog i 0 (λ_=>true) true Tryz.f5.params.toList args.toList u p:=m;rw [Tryz.params5] at E d a;obtain⟨H,aa,G,W,z,ac,J,rfl,rfl,B,L⟩:=trodAll_cons E;obtain⟨rfl,rfl,rfl⟩:=trodAll_nil L;obtain rfl:args=#[H]:=by cases args;simp_all
 obtain⟨rfl,rfl⟩:=trodVars_none V;obtain⟨T,X,cap,rfl⟩:=okWide_slice Tryz.underlying22 (d 0 22 H rfl rfl);have I:=B;obtain⟨S,N⟩:=B;have M:(G.weights Tryz.prog 22).all (· <=reachBytes)=true:=aQ.2 (λn R=>aQ.1 a n (DataW.weights_mem_each (j:=0) rfl rfl n R));obtain⟨F,rfl,x,Q⟩:=un N M;clear m;simp only [aM] at o c;refine(walk i T cap F x Q).mono λe l ⟨U,K⟩=>?_;subst U;have g:Below i.heap.size i l:=K.below fE (aC _)
 have k:∀A∈z,i.sameAt l A:=λA y=>by
  have C:=c A y
  cases A with
  |cell b ad=>exact ik (w:=i) (g.block b C)
  |map b=>exact g.block b C
 refine⟨_,rfl,[G],[],z,[],z,[],o,?_,?_,rfl,g.frame _,λh=>by cases h⟩;.exact trodAll_mk1 (shut_bool Tryz.underlying4 _)
 .exact trodAll_mk1 (WideElems.Trod_stays (P:=Tryz.prog) qL (by kernel_rfl) (aN (by kernel_rfl)) I k (λA y=>by simpa using c A y))
def zy(w0:World):World:=
 let put (h:Array Obj) (g:Nat) (cs:Array Value):Array Obj:=h.modify g fun
  |.cells _ t frozen=>.cells cs t frozen
  |o=>o
 let h1:=put w0.heap 1 (Lib.firstTab.map λz=>Value.int .u8 z).toArray
 let h2:=put h1 2 ((List.range 16).flatMap λi=>[Value.int .u8 (Lib.accLo i),Value.int .u8 (Lib.accHi i)]).toArray
 {w0 with heap:=h2}
theorem yx(a:Os)(args:Array Value):laidMet Tryz.prog Rows.listsRow.laid ((zy (World.holding Tryz.prog a ⟨#[],#[],[]⟩)).forCall (λ_ _=>0) ⟨#[],args,[]⟩).memory:=
 (LaidIn.of_run (l:=[("unicode/utf8.acceptRanges",Rows.laid_unicode_utf8_acceptRanges),("unicode/utf8.first",Rows.laid_unicode_utf8_first)]) [2,1] 8 (by kernel_rfl) (by kernel_rfl) (by kernel_rfl) (by kernel_rfl)).met
theorem qJ(b:Os){g:Type}(enc:TypeId×Value->g):
 (OpenSpec.ofChange Rows.listsSpec).preRow enc Tryz.prog Tryz.f5 Rows.listsRow.domain false Rows.listsRow.laid ((zy (World.holding Tryz.prog b ⟨#[],#[],[]⟩)).forCall (λ_ _=>0) ⟨#[],#[.slice none 0 0],[]⟩).memory #[.slice none 0 0]:=by
 have c:(DataW.whole enc Tryz.prog ((zy (World.holding Tryz.prog b ⟨#[],#[],[]⟩)).forCall (λ_ _=>0) ⟨#[],#[.slice none 0 0],[]⟩).memory Tryz.f5.params.toList Rows.listsSpec.vars false #[Value.slice none 0 0].toList 8).map (λf=>(f.1,f.2.1))=
  some ([.nil],[]):=by kernel_rfl
 obtain⟨⟨h,j,i⟩,e,a⟩:=io.1 c;simp only [eK] at a;obtain⟨rfl,rfl⟩:=a;exact OpenSpec.preRow_of_cond 8 e (by kernel_rfl) (λk d=>by cases d) (by kernel_rfl) (yx b _)
set_option maxRecDepth 100000 in
theorem xZ(d:Os)(a:d.Started)(j:Type)(enc:TypeId×Value->j)(F:Stop.Interp):
 ReturnsInHanded {} Tryz.checked d 5 .any ((OpenSpec.ofChange Rows.listsSpec).preRow enc Tryz.prog Tryz.f5 Rows.listsRow.domain false Rows.listsRow.laid) (((OpenSpec.ofChange Rows.listsSpec).at F).post enc Tryz.prog Tryz.f5 false true false false):=by
 refine returnsInHanded_of_row (C:=Tryz.checked) (s:=OpenSpec.ofChange Rows.listsSpec) own a (by kernel_rfl) Tryz.func5
  (witness_row_at (enc:=enc) (C:=Tryz.checked) false (zy (World.holding Tryz.prog d ⟨#[],#[],[]⟩)) #[.slice none 0 0] rfl (by kernel_rfl) (by kernel_rfl) (by kernel_rfl) (qJ d enc)) ?_
 intro k f args i h c e g _ _ b l _ _;exact yw j enc k f args i h c e g b
theorem gV:Rows.ListsSaid:=
 OpenClaim.holds_of_cond 5 Tryz.f5 rfl rfl rfl rfl rfl rfl rfl ⟨rfl,rfl,rfl,rfl,rfl⟩ rfl rfl rfl rfl rfl (by kernel_rfl) Tryz.func5 (by kernel_rfl)
  (aN (by kernel_rfl)) (by unfold Func.isWrapper;first|(rw [aB (by decide+kernel)];kernel_rfl)|(rw [az (by decide+kernel)];exact⟨rfl,rfl⟩))
  (λb a c enc _ F=>by rw [OpenClaim.pre_eq_preRow];exact xZ b a c enc F)
theorem plain(f:FuncId)(fn:Func)(c:Tryz.pinned.checked.prog.funcNamed "cairn/cairnlaw.Lists" =some f)(a:Tryz.pinned.checked.prog.funcs[f]? =some fn):
 false=Tryz.pinned.checked.prog.looks []/\∀(j:Nat) t,fn.params[j]? =some t->Tryz.pinned.checked.prog.wantsStandIn t=false:=by
 obtain rfl:f= 5:=aK ((show Tryz.prog.funcNamed "cairn/cairnlaw.Lists" =some 5 by kernel_rfl).symm.trans c) |>.symm;obtain rfl:fn=Tryz.f5:=(aK (Tryz.func5.symm.trans a)).symm;refine⟨by kernel_rfl,λj t b=>?_⟩;rw [Tryz.params5] at b;obtain rfl:t= 22:=by simpa using iu b
 exact(show Tryz.prog.wantsStandIn 22=false by kernel_rfl)
theorem card:Rows.ListsCardSaid:=
 Claim7.holds_tied_plain_at .later [] _ _ _ _ gV (λ_ h=>by cases h) (by kernel_rfl) (λ_ h=>by cases h) lists_row_tie rfl ⟨rfl,rfl⟩ (by kernel_rfl) rfl plain (by kernel_rfl)
end lists
theorem lists_holds:Rows.ListsCardSaid:=lists.card
end Go.Proofs.YtcoengihaobddaaGreatDoor
