/- Proved: for every script of puts, deletions, erasings, gets and openings the law Erases answers true, and the script reads as it did; no condition. The card ties the listed tables to the program's text (a pruned copy of the project: see the seat's page). -/
import Derived.Test.YtcoengihaobddaaGreatDoorJe28
import Derived.Test.YtcoengihaobddaaGreatDoorJe29
import Derived.Test.YtcoengihaobddaaGreatDoorJe30
import Derived.Test.YtcoengihaobddaaGreatDoorCards
import Derived.Test.YtcoengihaobddaaGreatDoorTie
import Derived.Deep.DeepHandedRow
import Derived.Deep.DeepWitnessRowRef
import Derived.Lib.LaidIn
import Derived.Lib.LaidU8
import Derived.WideKeyArgs
set_option maxHeartbeats 8000000
set_option linter.unusedVariables false
set_option linter.unusedSimpArgs false
set_option maxRecDepth 8000
namespace Go.Proofs.YtcoengihaobddaaGreatDoor
namespace erases
open Go.ChangeShapes Go.WideShapes Go.ChangeAt Go.RowKit
open disk law
theorem own:ownKnob Tryz.prog.godebug=none:=by kernel_rfl
theorem qL:laidOutB Tryz.prog=true:=by kernel_rfl
theorem walk(d:World)(a:Option Addr)(cap:Nat)(b:List yC)(h:jQ d (λk=>k<d.heap.size) a b)(c:b.length<=1256584717449):
 Calls Tryz.prog 4 #[.slice a b.length cap] d λe w'=>e=.returned (.bool true)/\Kept (λ_=>False) d w':=
 Kw prog.GZ prog.kF prog.vM prog.Yk prog.Yl prog.Yx prog.uZ (λf g=>by have i:f= -1:=g;omega) d (λk=>k<d.heap.size) (λ_ h=>h) a cap b h c
set_option maxRecDepth 100000 in
theorem yw(Y:Type)(enc:TypeId×Value->Y)(i:World)(r:Nat)(args:Array Value)(u D:List (DataW Y))(f:List MemPlace)
 (d:∀(j:Nat) t v,Tryz.f4.params[j]? =some t->args[j]? =some v->Value.okWide Tryz.prog i .any r t v)
 (s:DataW.Whole enc Tryz.prog Tryz.f4.params.toList Rows.erasesSpec.vars false i args.toList u D f)
 (a:(DataW.weightsEach Tryz.prog (Tryz.f4.params.toList++(OpenSpec.ofChange Rows.erasesSpec).bare.plain.varTypes Tryz.prog) (u++D)).all (· <=reachBytes)=true):
 Calls Tryz.prog 4 args i λe l=>∃v,e=.returned v/\Rows.erasesSpec.post enc Tryz.prog Tryz.f4 false true false false i args v l:=by
 have o:=s;have c:=λp O=>s.lt p O;obtain⟨p,q,m,V,rfl,ab,Z⟩:=s;have E:DataW.TrodAll enc Tryz.prog i 0 (λ_=>true) true Tryz.f4.params.toList args.toList u p:=m;rw [Tryz.params4] at E d a;obtain⟨H,aa,G,W,z,ac,J,rfl,rfl,B,L⟩:=trodAll_cons E;obtain⟨rfl,rfl,rfl⟩:=trodAll_nil L;obtain rfl:args=#[H]:=by cases args;simp_all
 obtain⟨rfl,rfl⟩:=trodVars_none V;obtain⟨T,X,cap,rfl⟩:=okWide_slice Tryz.underlying22 (d 0 22 H rfl rfl);have I:=B;obtain⟨S,N⟩:=B;have M:(G.weights Tryz.prog 22).all (· <=reachBytes)=true:=aQ.2 (λn R=>aQ.1 a n (DataW.weights_mem_each (j:=0) rfl rfl n R));obtain⟨F,rfl,x,Q⟩:=un N M;clear m;simp only [aM] at o c;refine(walk i T cap F x Q).mono λe l ⟨U,K⟩=>?_;subst U;have g:Below i.heap.size i l:=K.below fE (aC _)
 have k:∀A∈z,i.sameAt l A:=λA y=>by
  have C:=c A y
  cases A with
  |cell b ad=>exact ik (w:=i) (g.block b C)
  |map b=>exact g.block b C
 refine⟨_,rfl,[G],[],z,[],z,[],o,?_,?_,rfl,g.frame _,λh=>by cases h⟩;.exact trodAll_mk1 (shut_bool Tryz.underlying4 _)
 .exact trodAll_mk1 (WideElems.Trod_stays (P:=Tryz.prog) qL (by kernel_rfl) (aN (by kernel_rfl)) I k (λA y=>by simpa using c A y))
def zy(w0:World):World:=
 let put (h:Array Obj) (g:Nat) (cs:Array Value):Array Obj:=h.modify g fun
  |.cells _ t frozen=>.cells cs t frozen
  |o=>o
 let h1:=put w0.heap 1 (Lib.firstTab.map λz=>Value.int .u8 z).toArray
 let h2:=put h1 2 ((List.range 16).flatMap λi=>[Value.int .u8 (Lib.accLo i),Value.int .u8 (Lib.accHi i)]).toArray
 {w0 with heap:=h2}
theorem yx(a:Os)(args:Array Value):laidMet Tryz.prog Rows.erasesRow.laid ((zy (World.holding Tryz.prog a ⟨#[],#[],[]⟩)).forCall (λ_ _=>0) ⟨#[],args,[]⟩).memory:=
 (LaidIn.of_run (l:=[("unicode/utf8.acceptRanges",Rows.laid_unicode_utf8_acceptRanges),("unicode/utf8.first",Rows.laid_unicode_utf8_first)]) [2,1] 8 (by kernel_rfl) (by kernel_rfl) (by kernel_rfl) (by kernel_rfl)).met
theorem qJ(b:Os){g:Type}(enc:TypeId×Value->g):
 (OpenSpec.ofChange Rows.erasesSpec).preRow enc Tryz.prog Tryz.f4 Rows.erasesRow.domain false Rows.erasesRow.laid ((zy (World.holding Tryz.prog b ⟨#[],#[],[]⟩)).forCall (λ_ _=>0) ⟨#[],#[.slice none 0 0],[]⟩).memory #[.slice none 0 0]:=by
 have c:(DataW.whole enc Tryz.prog ((zy (World.holding Tryz.prog b ⟨#[],#[],[]⟩)).forCall (λ_ _=>0) ⟨#[],#[.slice none 0 0],[]⟩).memory Tryz.f4.params.toList Rows.erasesSpec.vars false #[Value.slice none 0 0].toList 8).map (λf=>(f.1,f.2.1))=
  some ([.nil],[]):=by kernel_rfl
 obtain⟨⟨h,j,i⟩,e,a⟩:=io.1 c;simp only [eK] at a;obtain⟨rfl,rfl⟩:=a;exact OpenSpec.preRow_of_cond 8 e (by kernel_rfl) (λk d=>by cases d) (by kernel_rfl) (yx b _)
set_option maxRecDepth 100000 in
theorem xZ(d:Os)(a:d.Started)(j:Type)(enc:TypeId×Value->j)(F:Stop.Interp):
 ReturnsInHanded {} Tryz.checked d 4 .any ((OpenSpec.ofChange Rows.erasesSpec).preRow enc Tryz.prog Tryz.f4 Rows.erasesRow.domain false Rows.erasesRow.laid) (((OpenSpec.ofChange Rows.erasesSpec).at F).post enc Tryz.prog Tryz.f4 false true false false):=by
 refine returnsInHanded_of_row (C:=Tryz.checked) (s:=OpenSpec.ofChange Rows.erasesSpec) own a (by kernel_rfl) Tryz.func4
  (witness_row_at (enc:=enc) (C:=Tryz.checked) false (zy (World.holding Tryz.prog d ⟨#[],#[],[]⟩)) #[.slice none 0 0] rfl (by kernel_rfl) (by kernel_rfl) (by kernel_rfl) (qJ d enc)) ?_
 intro k f args i h c e g _ _ b l _ _;exact yw j enc k f args i h c e g b
theorem gV:Rows.ErasesSaid:=
 OpenClaim.holds_of_cond 4 Tryz.f4 rfl rfl rfl rfl rfl rfl rfl ⟨rfl,rfl,rfl,rfl,rfl⟩ rfl rfl rfl rfl rfl (by kernel_rfl) Tryz.func4 (by kernel_rfl)
  (aN (by kernel_rfl)) (by unfold Func.isWrapper;first|(rw [aB (by decide+kernel)];kernel_rfl)|(rw [az (by decide+kernel)];exact⟨rfl,rfl⟩))
  (λb a c enc _ F=>by rw [OpenClaim.pre_eq_preRow];exact xZ b a c enc F)
theorem plain(f:FuncId)(fn:Func)(c:Tryz.pinned.checked.prog.funcNamed "cairn/cairnlaw.Erases" =some f)(a:Tryz.pinned.checked.prog.funcs[f]? =some fn):
 false=Tryz.pinned.checked.prog.looks []/\∀(j:Nat) t,fn.params[j]? =some t->Tryz.pinned.checked.prog.wantsStandIn t=false:=by
 obtain rfl:f= 4:=aK ((show Tryz.prog.funcNamed "cairn/cairnlaw.Erases" =some 4 by kernel_rfl).symm.trans c) |>.symm;obtain rfl:fn=Tryz.f4:=(aK (Tryz.func4.symm.trans a)).symm;refine⟨by kernel_rfl,λj t b=>?_⟩;rw [Tryz.params4] at b;obtain rfl:t= 22:=by simpa using iu b
 exact(show Tryz.prog.wantsStandIn 22=false by kernel_rfl)
theorem card:Rows.ErasesCardSaid:=
 Claim7.holds_tied_plain_at .later [] _ _ _ _ gV (λ_ h=>by cases h) (by kernel_rfl) (λ_ h=>by cases h) erases_row_tie rfl ⟨rfl,rfl⟩ (by kernel_rfl) rfl plain (by kernel_rfl)
end erases
theorem erases_holds:Rows.ErasesCardSaid:=erases.card
end Go.Proofs.YtcoengihaobddaaGreatDoor
