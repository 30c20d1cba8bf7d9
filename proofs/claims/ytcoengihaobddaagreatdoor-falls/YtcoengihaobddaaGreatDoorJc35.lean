/- Proved: for every script of calls, on disks that die in the middle of changes and of openings and fall, any choice of what was not flushed lasting, the law Falls answers true, and the script reads as it did; no condition. The card ties the listed tables to the program's text (a pruned copy of the project: see the seat's page). -/
import Derived.Test.YtcoengihaobddaaGreatDoorJc34
import Derived.Test.YtcoengihaobddaaGreatDoorJc14
import Derived.Test.YtcoengihaobddaaGreatDoorCards
import Derived.Test.YtcoengihaobddaaGreatDoorTie
import Derived.Deep.DeepHandedRow
import Derived.Deep.DeepWitnessRowRef
import Derived.Lib.LaidIn
import Derived.Lib.LaidU8
import Derived.WideKeyArgs
set_option maxHeartbeats 8000000
set_option linter.unusedVariables false
set_option linter.unusedSimpArgs false
set_option maxRecDepth 8000
namespace Go.Proofs.YtcoengihaobddaaGreatDoor
namespace falls
open Go.ChangeShapes Go.WideShapes Go.ChangeAt Go.RowKit
open disk law
theorem own:ownKnob Tryz.prog.godebug=none:=by kernel_rfl
theorem bT:laidOutB Tryz.prog=true:=by kernel_rfl
theorem two:Vh prog.Gh prog.Gi:=⟨λD P h=>⟨h.few,h.big,h.all⟩,λw bd bs S D V h=>⟨h.disk,h.apart,h.sto,⟨h.live.ps,h.live.rest,h.live.big⟩,(by
 have e:D.fuse= -1:=h.fuse;show zD D.fuse
 rw [e];constructor<;>omega),h.reads0,h.reads1,h.few⟩,λf h=>by have e:f= -1:=h;omega,λf h=>h⟩
theorem GM:Ka prog.Gh:=⟨prog.vO (λ_ _ h=>h) (λ_ _ _ h=>h) prog.yD,prog.gl (λ_ _ _ h=>h) prog.yD,prog.JG,prog.Uz,prog.YU (λ_ _ _ h=>h) prog.yD,prog.bQ (λ_ _ _ h=>h) prog.yD,prog.YV⟩
theorem walk(f:World)(a:Option Addr)(c:Nat)(b:List xk)(h:kH f (λk=>k<f.heap.size) a b)(d:b.length<=1256584717449):
 Calls Tryz.prog 6 #[.slice a b.length c] f λe w'=>e=.returned (.bool true)/\za (λ_=>False) f w':=
 Kc GM (N:=prog.Gi) (prog.vO (λ_ _ h=>h) (λ_ _ _ h=>h) prog.gm) (prog.gl (λ_ _ _ h=>h) prog.gm) two f (λk=>k<f.heap.size) (λ_ h=>h) a c b h d
set_option maxRecDepth 100000 in
theorem bU(Z:Type)(enc:TypeId×Value->Z)(i:World)(r:Nat)(args:Array Value)(u D:List (DataW Z))(f:List MemPlace)
 (d:∀(j:Nat) t v,Tryz.f6.params[j]? =some t->args[j]? =some v->Value.okWide Tryz.prog i .any r t v)
 (s:DataW.Whole enc Tryz.prog Tryz.f6.params.toList Rows.fallsSpec.vars false i args.toList u D f)
 (a:(DataW.weightsEach Tryz.prog (Tryz.f6.params.toList++(OpenSpec.ofChange Rows.fallsSpec).bare.plain.varTypes Tryz.prog) (u++D)).all (· <=reachBytes)=true):
 Calls Tryz.prog 6 args i λe l=>∃v,e=.returned v/\Rows.fallsSpec.post enc Tryz.prog Tryz.f6 false true false false i args v l:=by
 have o:=s;have c:=λp Q=>s.lt p Q;obtain⟨p,q,m,W,rfl,ac,aa⟩:=s;have F:DataW.TrodAll enc Tryz.prog i 0 (λ_=>true) true Tryz.f6.params.toList args.toList u p:=m;rw [Tryz.params6] at F d a;obtain⟨I,ab,H,X,z,ad,K,rfl,rfl,B,M⟩:=trodAll_cons F;obtain⟨rfl,rfl,rfl⟩:=trodAll_nil M;obtain rfl:args=#[I]:=by cases args;simp_all
 obtain⟨rfl,rfl⟩:=trodVars_none W;obtain⟨U,Y,E,rfl⟩:=okWide_slice Tryz.underlying22 (d 0 22 I rfl rfl);have J:=B;obtain⟨T,O⟩:=B;have N:(H.weights Tryz.prog 22).all (· <=reachBytes)=true:=iD.2 (λn S=>iD.1 a n (DataW.weights_mem_each (j:=0) rfl rfl n S));obtain⟨G,rfl,x,R⟩:=fG O N;clear m;simp only [aM] at o c;refine(walk i U E G x R).mono λe l ⟨V,L⟩=>?_;subst V;have g:Below i.heap.size i l:=L.below fE (aF _)
 have k:∀A∈z,i.sameAt l A:=λA y=>by
  have C:=c A y
  cases A with
  |cell b ae=>exact mc (w:=i) (g.block b C)
  |map b=>exact g.block b C
 refine⟨_,rfl,[H],[],z,[],z,[],o,?_,?_,rfl,g.frame _,λh=>by cases h⟩;.exact trodAll_mk1 (shut_bool Tryz.underlying4 _)
 .exact trodAll_mk1 (WideElems.Trod_stays (P:=Tryz.prog) bT (by kernel_rfl) (ix (by kernel_rfl)) J k (λA y=>by simpa using c A y))
def y6(w0:World):World:=
 let put (h:Array Obj) (g:Nat) (cs:Array Value):Array Obj:=h.modify g fun
  |.cells _ t frozen=>.cells cs t frozen
  |o=>o
 let h1:=put w0.heap 1 (Lib.firstTab.map λz=>Value.int .u8 z).toArray
 let h2:=put h1 2 ((List.range 16).flatMap λi=>[Value.int .u8 (Lib.accLo i),Value.int .u8 (Lib.accHi i)]).toArray
 {w0 with heap:=h2}
theorem bV(a:Os)(args:Array Value):laidMet Tryz.prog Rows.fallsRow.laid ((y6 (World.holding Tryz.prog a ⟨#[],#[],[]⟩)).forCall (λ_ _=>0) ⟨#[],args,[]⟩).memory:=
 (LaidIn.of_run (l:=[("unicode/utf8.acceptRanges",Rows.laid_unicode_utf8_acceptRanges),("unicode/utf8.first",Rows.laid_unicode_utf8_first)]) [2,1] 8 (by kernel_rfl) (by kernel_rfl) (by kernel_rfl) (by kernel_rfl)).met
theorem vt(b:Os){g:Type}(enc:TypeId×Value->g):
 (OpenSpec.ofChange Rows.fallsSpec).preRow enc Tryz.prog Tryz.f6 Rows.fallsRow.domain false Rows.fallsRow.laid ((y6 (World.holding Tryz.prog b ⟨#[],#[],[]⟩)).forCall (λ_ _=>0) ⟨#[],#[.slice none 0 0],[]⟩).memory #[.slice none 0 0]:=by
 have c:(DataW.whole enc Tryz.prog ((y6 (World.holding Tryz.prog b ⟨#[],#[],[]⟩)).forCall (λ_ _=>0) ⟨#[],#[.slice none 0 0],[]⟩).memory Tryz.f6.params.toList Rows.fallsSpec.vars false #[Value.slice none 0 0].toList 8).map (λf=>(f.1,f.2.1))=
  some ([.nil],[]):=by kernel_rfl
 obtain⟨⟨h,j,i⟩,e,a⟩:=Option.map_eq_some_iff.1 c;simp only [eS] at a;obtain⟨rfl,rfl⟩:=a;exact OpenSpec.preRow_of_cond 8 e (by kernel_rfl) (λk d=>by cases d) (by kernel_rfl) (bV b _)
set_option maxRecDepth 100000 in
theorem X8(d:Os)(a:d.Started)(j:Type)(enc:TypeId×Value->j)(F:Stop.Interp):
 ReturnsInHanded {} Tryz.checked d 6 .any ((OpenSpec.ofChange Rows.fallsSpec).preRow enc Tryz.prog Tryz.f6 Rows.fallsRow.domain false Rows.fallsRow.laid) (((OpenSpec.ofChange Rows.fallsSpec).at F).post enc Tryz.prog Tryz.f6 false true false false):=by
 refine returnsInHanded_of_row (C:=Tryz.checked) (s:=OpenSpec.ofChange Rows.fallsSpec) own a (by kernel_rfl) Tryz.func6
  (witness_row_at (enc:=enc) (C:=Tryz.checked) false (y6 (World.holding Tryz.prog d ⟨#[],#[],[]⟩)) #[.slice none 0 0] rfl (by kernel_rfl) (by kernel_rfl) (by kernel_rfl) (vt d enc)) ?_
 intro k f args i h c e g _ _ b l _ _;exact bU j enc k f args i h c e g b
theorem GN:Rows.FallsSaid:=
 OpenClaim.holds_of_cond 6 Tryz.f6 rfl rfl rfl rfl rfl rfl rfl ⟨rfl,rfl,rfl,rfl,rfl⟩ rfl rfl rfl rfl rfl (by kernel_rfl) Tryz.func6 (by kernel_rfl)
  (ix (by kernel_rfl)) (by unfold Func.isWrapper;first|(rw [aB (by decide+kernel)];kernel_rfl)|(rw [aw (by decide+kernel)];exact⟨rfl,rfl⟩))
  (λb a c enc _ F=>by rw [OpenClaim.pre_eq_preRow];exact X8 b a c enc F)
theorem plain(f:FuncId)(fn:Func)(c:Tryz.pinned.checked.prog.funcNamed "cairn/cairnlaw.Falls" =some f)(a:Tryz.pinned.checked.prog.funcs[f]? =some fn):
 false=Tryz.pinned.checked.prog.looks []/\∀(j:Nat) t,fn.params[j]? =some t->Tryz.pinned.checked.prog.wantsStandIn t=false:=by
 obtain rfl:f= 6:=eG ((show Tryz.prog.funcNamed "cairn/cairnlaw.Falls" =some 6 by kernel_rfl).symm.trans c) |>.symm;obtain rfl:fn=Tryz.f6:=(eG (Tryz.func6.symm.trans a)).symm;refine⟨by kernel_rfl,λj t b=>?_⟩;rw [Tryz.params6] at b;obtain rfl:t= 22:=by simpa using Array.mem_of_getElem? b
 exact(show Tryz.prog.wantsStandIn 22=false by kernel_rfl)
theorem card:Rows.FallsCardSaid:=
 Claim7.holds_tied_plain_at .later [] _ _ _ _ GN (λ_ h=>by cases h) (by kernel_rfl) (λ_ h=>by cases h) falls_row_tie rfl ⟨rfl,rfl⟩ (by kernel_rfl) rfl plain (by kernel_rfl)
end falls
theorem falls_holds:Rows.FallsCardSaid:=falls.card
end Go.Proofs.YtcoengihaobddaaGreatDoor
