/- Part 34 of 50 of a proof: Mng5 -/
import Derived.Test.YtcoengihaobddaaGreatDoorJe32
import Derived.Test.YtcoengihaobddaaGreatDoorJe33
set_option maxHeartbeats 8000000
set_option linter.unusedVariables false
set_option linter.unusedSimpArgs false
set_option maxRecDepth 8000
namespace Go.Proofs.YtcoengihaobddaaGreatDoor
namespace prog
open Go.RowKit disk ref
open law (zP za zD xm yg uv Z8 zJ yH)
open keys (zh)
theorem Ky(p k:ByteArray)(n m:Int):qR p k n m=0\/qR p k n m=2\/qR p k n m=4:=by
 unfold qR;split;.exact .inr (.inl rfl)
 .split;.exact .inr (.inr rfl)
  .exact .inl rfl
theorem gA.veV{bs:List (List Value)}{V:zP}{a n:Nat}{m:List UInt8}{c:List En}{f:List Nat}{bo:Pl->List zv}(h:gA bs V a n m c f bo):∀l:List En,(∀b∈l,b∈c)->ur l=zJ (l.map (xF bo)):=λl d=>by
 unfold ur zJ;rw [lB];congr 1;refine mG (λb g=>?_);have e:=(h.body b (d b g)).size;show prog.veV b=Z8 (xF bo b);unfold prog.veV Z8 xF;simp only [e]
variable {Fu:Int->Prop} {Ho:List (List Value)->zP->Prop} {m1:∀f,Fu f->zs f} {m2:Fu (-1)} {m3:∀bs V,yX bs V->Ho bs V} {m4:∀bs V,Ho bs V->law.Good V}
theorem uw:yg (ui Fu Ho m1 m2 m3 m4) where
 live:=λw bd bs S D V p k n m F y v W ae=>by
  have G:Fu D.fuse:=F.fuse;have A:zt w bs 0 (some bd):=F.sto;have t:=F.disk;have s:=F.live.ps;obtain⟨b,L,X,o,u,bo,q⟩:=F.live.rest;have Q:=F.reads0;have aa:=F.reads1;have B:∀r:Int,(ui Fu Ho m1 m2 m3 m4).Live {D with reads:=r} V:=λr=>⟨s,⟨b,L,X,o,u,bo,q⟩,F.live.big⟩;by_cases C:qR p k n m=0
  .have g:=dK p k n m;rw [C] at g;have x:yi (D.look 1) b L:=by have:=q.root;rw [<-yl s] at this;exact this
   have M:yo (λj=>D.look (j:Nat)) b o u:=q.forest.congr (λj _=>yl s j);have I:∀j∈u,21<=j:=λj d=>(q.range j (ac _ d)).1;have ab:V.n0<=2305843009213693952:=F.few
   have K:∀i∈o,i.pl.key≠ByteArray.empty/\i.pl.num<9223372036854775807:=λi f=>by
    have l:=q.low i f;refine⟨λe=>?_,?_⟩
    .have:=l.2.2.2;rw [e] at this;exact absurd this (by decide)
    .have:=l.2.2.1;have:=q.n0;omega
   have R:=Jn q.forest.six.2.2 (xF bo) (λi=>⟨rfl,rfl⟩) V.vs q.vers p k n K;have N:∀i∈Jm p k n o,i∈o:=λi f=>(eA.1 ((List.takeWhile_sublist _).subset f)).1
   refine(UD w bs bd S D A t F.apart Q (by omega) b L x p k n m y v W.2 g o u M q.len I (λi f=>by
    have ad:=(Yg (q.low i f).2.2.2).2.1;have af:i.pl.key.data.toList.length=i.pl.key.size:=by simp
    omega) _ rfl).mono ?_
   rintro e w' ⟨⟨a,c,l,H,E⟩,J,⟨r,z,T,U⟩,Y⟩;rw [C];refine⟨{D with reads:=r},S,_,_,l,⟨U,λ_ h=>.inl h,J,Y.mono (λj d=>d.elim (λe=>.inl (by rw [e];exact t.bdS)) .inr),z,T,rfl,G⟩,B r,λ_=>⟨_,R,?_,a,c,?_,?_,?_⟩,λh=>absurd rfl h,λj d Z=>?_⟩;.simp
   .rw [<-i4,eF]
   .rw [<-i4,eF,<-q.veV _ (λi f=>N i (aJ f))];exact H
   .rw [<-i4,eF];exact E
   .have:=E j d;have:=t.lt j Z;omega
  .refine(QI w bs (some bd) A p k n m y v _ _ (dK p k n m) (.inl ⟨C,rfl⟩)).mono ?_;rintro e w' ⟨l,J,z⟩;exact⟨D,S,_,_,l,⟨t.kept z (λj d e=>F.apart (by rw [<-show j=bs from e];exact d)),λ_ h=>.inl h,J,z.mono (λ_ h=>.inr h),eD _,by omega,rfl,G⟩,F.live,λh=>absurd h C,λ_=>⟨rfl,rfl⟩,λj d=>by cases d⟩
 shut:=λw bs p k n m A y v=>by
  have O:zt w bs 0 none:=A
  have P:(qR p k n m≠0/\yH true (qR p k n m)=qR p k n m)\/(qR p k n m=0/\(none:Option Nat)=none/\yH true (qR p k n m)=8):=by
   rcases Ky p k n m with h|h|h;.rw [h];exact .inr ⟨rfl,rfl,rfl⟩
   .rw [h];exact .inl ⟨by decide,rfl⟩
   .rw [h];exact .inl ⟨by decide,rfl⟩
  exact QI w bs none O p k n m y v _ _ (dK p k n m) P
end prog
end Go.Proofs.YtcoengihaobddaaGreatDoor
