/- Proved: for all changes that are put on a new disk, pages of any size, one behind the other, tell all versions in their order, none twice, and with a prefix those that begin with it (the law Paged answers true), and what is handed in reads as it did; no condition. The card ties the listed tables to the program's text (a pruned copy of the project: see the seat's page). -/
import Derived.Test.YtcoengihaobddaaGreatDoorJe34
import Derived.Test.YtcoengihaobddaaGreatDoorJe40
import Derived.Test.YtcoengihaobddaaGreatDoorCards
import Derived.Test.YtcoengihaobddaaGreatDoorTie
import Derived.Deep.DeepHandedRow
import Derived.Deep.DeepWitnessRowRef
import Derived.Lib.LaidIn
import Derived.Lib.LaidU8
import Derived.WideKeyArgs
set_option maxHeartbeats 8000000
set_option linter.unusedVariables false
set_option linter.unusedSimpArgs false
set_option maxRecDepth 8000
namespace Go.Proofs.YtcoengihaobddaaGreatDoor
namespace paged
open Go.ChangeShapes Go.WideShapes Go.ChangeAt Go.RowKit
open disk ref law keep
theorem own:ownKnob Tryz.prog.godebug=none:=by kernel_rfl
theorem qL:laidOutB Tryz.prog=true:=by kernel_rfl
theorem walk(i:World)(a:Option Addr)(cap:Nat)(b:List bn)(h:Qa i (λk=>k<i.heap.size) a b)(g:b.length<=2000000000000)(d:Int)(j:zs d)(c:Int)(m:zs c):
 Calls Tryz.prog 9 #[.slice a b.length cap,.int .i64 d,.int .i64 c] i λe w'=>e=.returned (.bool true)/\Kept (λ_=>False) i w':=
 UK prog.GZ prog.kF prog.vM prog.uw (λf l=>by have j:f= -1:=l;omega) i (λk=>k<i.heap.size) (λ_ h=>h) a cap b h g d j c m
set_option maxRecDepth 100000 in
theorem yw(aD:Type)(enc:TypeId×Value->aD)(m:World)(x:Nat)(args:Array Value)(z E:List (DataW aD))(k:List MemPlace)
 (d:∀(j:Nat) t v,Tryz.f9.params[j]? =some t->args[j]? =some v->Value.okWide Tryz.prog m .any x t v)
 (y:DataW.Whole enc Tryz.prog Tryz.f9.params.toList Rows.pagedSpec.vars false m args.toList z E k)
 (g:(DataW.weightsEach Tryz.prog (Tryz.f9.params.toList++(OpenSpec.ofChange Rows.pagedSpec).bare.plain.varTypes Tryz.prog) (z++E)).all (· <=reachBytes)=true):
 Calls Tryz.prog 9 args m λe o=>∃v,e=.returned v/\Rows.pagedSpec.post enc Tryz.prog Tryz.f9 false true false false m args v o:=by
 have r:=y;have f:=λp ap=>y.lt p ap;obtain⟨p,q,s,ak,rfl,ax,aE⟩:=y;have S:DataW.TrodAll enc Tryz.prog m 0 (λ_=>true) true Tryz.f9.params.toList args.toList z p:=s;rw [Tryz.params9] at S d g;obtain⟨N,az,I,aw,C,aG,aa,rfl,rfl,G,ad⟩:=trodAll_cons S;obtain⟨F,av,ao,ay,A,aH,rfl,rfl,rfl,J,am⟩:=trodAll_cons ad;obtain⟨K,aB,ab,aA,u,aF,rfl,rfl,rfl,O,au⟩:=trodAll_cons am;obtain⟨rfl,rfl,rfl⟩:=trodAll_nil au;obtain rfl:args=#[N,F,K]:=by cases args;simp_all
 obtain⟨rfl,rfl⟩:=trodVars_none ak;obtain⟨ah,aq,al,rfl⟩:=okWide_slice Tryz.underlying26 (d 0 26 N rfl rfl);obtain⟨V,rfl⟩:=okWide_int Tryz.underlying3 (d 1 3 F rfl rfl);obtain⟨W,rfl⟩:=okWide_int Tryz.underlying3 (d 2 3 K rfl rfl);have u0:=G;obtain⟨X,R⟩:=G;have M:(I.weights Tryz.prog 26).all (· <=reachBytes)=true:=aQ.2 (λn ar=>aQ.1 g n (DataW.weights_mem_each (j:=0) rfl rfl n ar));obtain⟨H,rfl,B,ag⟩:=uA R M;have u1:=J;obtain⟨Z,U⟩:=J;obtain⟨k1,ai,L⟩:=y9 Tryz.underlying3 U;obtain rfl:V=k1:=by injection ai with e;injection e
 have u2:=O;obtain⟨Y,T⟩:=O;obtain⟨k2,ae,Q⟩:=y9 Tryz.underlying3 T;obtain rfl:W=k2:=by injection ae with e;injection e
 clear s;simp only [aM] at r f;refine(walk m ah al H B ag V L W Q).mono λe o ⟨aj,an⟩=>?_;subst aj;have l:Below m.heap.size m o:=an.below fE (aC _)
 have c:∀i∈C++(A++(u)),m.sameAt o i:=λi a=>by
  have D:=f i a
  cases i with
  |cell b aI=>exact ik (w:=m) (l.block b D)
  |map b=>exact l.block b D
 refine⟨_,rfl,[I,ao,ab],[],C++(A++(u)),[],C++(A++(u)),[],r,?_,?_,rfl,l.frame _,λh=>by cases h⟩;.exact trodAll_mk1 (shut_bool Tryz.underlying4 _)
 .exact trodAll_mk3 (WideElems.Trod_stays (P:=Tryz.prog) qL (by kernel_rfl) (aN (by kernel_rfl)) u0 (λi a=>c i (ac _ a)) (λi a=>by simpa using f i (ac _ a))) (WideElems.Trod_stays (P:=Tryz.prog) qL (by kernel_rfl) (aN (by kernel_rfl)) u1 (λi a=>c i (af _ (ac _ a))) (λi a=>by simpa using f i (af _ (ac _ a)))) (WideElems.Trod_stays (P:=Tryz.prog) qL (by kernel_rfl) (aN (by kernel_rfl)) u2 (λi a=>c i (af _ (af _ a))) (λi a=>by simpa using f i (af _ (af _ a))))
def zy(w0:World):World:=
 let put (h:Array Obj) (g:Nat) (cs:Array Value):Array Obj:=h.modify g fun
  |.cells _ t frozen=>.cells cs t frozen
  |o=>o
 let h1:=put w0.heap 1 (Lib.firstTab.map λz=>Value.int .u8 z).toArray
 let h2:=put h1 2 ((List.range 16).flatMap λi=>[Value.int .u8 (Lib.accLo i),Value.int .u8 (Lib.accHi i)]).toArray
 {w0 with heap:=h2}
theorem yx(a:Os)(args:Array Value):laidMet Tryz.prog Rows.pagedRow.laid ((zy (World.holding Tryz.prog a ⟨#[],#[],[]⟩)).forCall (λ_ _=>0) ⟨#[],args,[]⟩).memory:=
 (LaidIn.of_run (l:=[("unicode/utf8.acceptRanges",Rows.laid_unicode_utf8_acceptRanges),("unicode/utf8.first",Rows.laid_unicode_utf8_first)]) [2,1] 8 (by kernel_rfl) (by kernel_rfl) (by kernel_rfl) (by kernel_rfl)).met
theorem qJ(b:Os){g:Type}(enc:TypeId×Value->g):
 (OpenSpec.ofChange Rows.pagedSpec).preRow enc Tryz.prog Tryz.f9 Rows.pagedRow.domain false Rows.pagedRow.laid ((zy (World.holding Tryz.prog b ⟨#[],#[],[]⟩)).forCall (λ_ _=>0) ⟨#[],#[.slice none 0 0,.int .i64 0,.int .i64 0],[]⟩).memory #[.slice none 0 0,.int .i64 0,.int .i64 0]:=by
 have c:(DataW.whole enc Tryz.prog ((zy (World.holding Tryz.prog b ⟨#[],#[],[]⟩)).forCall (λ_ _=>0) ⟨#[],#[.slice none 0 0,.int .i64 0,.int .i64 0],[]⟩).memory Tryz.f9.params.toList Rows.pagedSpec.vars false #[Value.slice none 0 0,Value.int .i64 0,Value.int .i64 0].toList 8).map (λf=>(f.1,f.2.1))=
  some ([.nil,.lit (.int .i64 0),.lit (.int .i64 0)],[]):=by kernel_rfl
 obtain⟨⟨h,j,i⟩,e,a⟩:=io.1 c;simp only [eK] at a;obtain⟨rfl,rfl⟩:=a;exact OpenSpec.preRow_of_cond 8 e (by kernel_rfl) (λk d=>by cases d) (by kernel_rfl) (yx b _)
set_option maxRecDepth 100000 in
theorem xZ(d:Os)(a:d.Started)(j:Type)(enc:TypeId×Value->j)(F:Stop.Interp):
 ReturnsInHanded {} Tryz.checked d 9 .any ((OpenSpec.ofChange Rows.pagedSpec).preRow enc Tryz.prog Tryz.f9 Rows.pagedRow.domain false Rows.pagedRow.laid) (((OpenSpec.ofChange Rows.pagedSpec).at F).post enc Tryz.prog Tryz.f9 false true false false):=by
 refine returnsInHanded_of_row (C:=Tryz.checked) (s:=OpenSpec.ofChange Rows.pagedSpec) own a (by kernel_rfl) Tryz.func9
  (witness_row_at (enc:=enc) (C:=Tryz.checked) false (zy (World.holding Tryz.prog d ⟨#[],#[],[]⟩)) #[.slice none 0 0,.int .i64 0,.int .i64 0] rfl (by kernel_rfl) (by kernel_rfl) (by kernel_rfl) (qJ d enc)) ?_
 intro k f args i h c e g _ _ b l _ _;exact yw j enc k f args i h c e g b
theorem gV:Rows.PagedSaid:=
 OpenClaim.holds_of_cond 9 Tryz.f9 rfl rfl rfl rfl rfl rfl rfl ⟨rfl,rfl,rfl,rfl,rfl⟩ rfl rfl rfl rfl rfl (by kernel_rfl) Tryz.func9 (by kernel_rfl)
  (aN (by kernel_rfl)) (by unfold Func.isWrapper;first|(rw [aB (by decide+kernel)];kernel_rfl)|(rw [az (by decide+kernel)];exact⟨rfl,rfl⟩))
  (λb a c enc _ F=>by rw [OpenClaim.pre_eq_preRow];exact xZ b a c enc F)
theorem plain(f:FuncId)(fn:Func)(d:Tryz.pinned.checked.prog.funcNamed "cairn/cairnkeep.Paged" =some f)(b:Tryz.pinned.checked.prog.funcs[f]? =some fn):
 false=Tryz.pinned.checked.prog.looks []/\∀(j:Nat) t,fn.params[j]? =some t->Tryz.pinned.checked.prog.wantsStandIn t=false:=by
 obtain rfl:f= 9:=aK ((show Tryz.prog.funcNamed "cairn/cairnkeep.Paged" =some 9 by kernel_rfl).symm.trans d) |>.symm;obtain rfl:fn=Tryz.f9:=(aK (Tryz.func9.symm.trans b)).symm;refine⟨by kernel_rfl,λj t c=>?_⟩;rw [Tryz.params9] at c;have a:t= 26\/t= 3:=by simpa using iu c
 rcases a with rfl|rfl;.exact(show Tryz.prog.wantsStandIn 26=false by kernel_rfl)
 .exact(show Tryz.prog.wantsStandIn 3=false by kernel_rfl)
theorem card:Rows.PagedCardSaid:=
 Claim7.holds_tied_plain_at .later [] _ _ _ _ gV (λ_ h=>by cases h) (by kernel_rfl) (λ_ h=>by cases h) paged_row_tie rfl ⟨rfl,rfl⟩ (by kernel_rfl) rfl plain (by kernel_rfl)
end paged
theorem paged_holds:Rows.PagedCardSaid:=paged.card
end Go.Proofs.YtcoengihaobddaaGreatDoor
