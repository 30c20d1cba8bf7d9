/- Part 34 of 36 of a proof: Del2, Mng5, Fall5 -/
import Derived.Test.YtcoengihaobddaaGreatDoorJb33
import Derived.Test.YtcoengihaobddaaGreatDoorJb31
set_option maxHeartbeats 8000000
set_option linter.unusedVariables false
set_option linter.unusedSimpArgs false
set_option maxRecDepth 8000
namespace Go.Proofs.YtcoengihaobddaaGreatDoor
namespace prog
open Go.ChangeShapes Go.WideShapes Go.ChangeAt Go.RowKit disk ref
open Go.MuLone
open law (qE ze xw dC gA)
open keys (zh zd zx zq zp)
theorem UE(w:World)(bs bd:Nat)(S:Nat->Prop)(D:Dk)(N:zu w bs 0 (some bd))(I:zg w bd S D)(H:¬S bs)(W:0<=D.reads)(ag:D.reads<=4611686018427350000)(b n:Nat)(R:qT (D.look 1) b n)(a:ByteArray)(ac:a.size<=maxLen)(g:zp a.data.toList=true)(G:List En)(o:List Nat)(hF:qY (λj=>D.look (j:Nat)) b G o)(Q:o.length<=979)(hbs:∀j∈o,21<=j)(q:Option En)(X:(yP ⟨a,9223372036854775807⟩ G).head? =q)(d:xT a q=false):
 Calls Tryz.prog 30 #[.pointer (some ⟨bs,0,none⟩),.string a] w λe w'=>e=.returned (.tuple #[.int .i64 0,.int .i64 5])/\zu w' bs 0 (some bd)/\(∃r:Int,D.reads<=r/\r<=D.reads+14/\zg w' bd S {D with reads:=r })/\za (λk=>k=bd\/k=bs) w w':=by
 have ae:Hid (zg w bd S D):=I;have V:Hid (zp a.data.toList=true):=g;have K:Hid (xT a q=false):=d;have U:bs≠bd:=λe=>H (by rw [e];exact I.bdS);have Y:Hid (∀j,S j->j≠bs):=λj af e=>H (by rw [<-e];exact af);have O:Hid (∀w',zu w' bs 1 (some bd)->zg w' bd S D->Calls Tryz.prog 50 #[.pointer (some ⟨bs,0,none⟩),.string a] w' λe z=>e=.returned (.tuple #[.agg (xZ q).toArray,.bool (xT a q)])/\(∃r:Int,D.reads<=r/\r<=D.reads+14/\zg z bd S {D with reads:=r })/\za (λi=>i=bd) w' z):=λw' ab h2=>xj w' bs bd S D 1 ab h2 H W (by omega) b n R a G o hF Q hbs q X
 obtain⟨s,u,t,p,v,P⟩:∃(s:ByteArray) (u:Int) (t:Bool) (p v:Int),xZ q=[.string s,.int .i64 u,.bool t,.int .i64 p,.int .i64 v]:=by
  cases q with
  |none=>exact⟨_,_,_,_,_,rfl⟩
  |some aj=>exact⟨_,_,_,_,_,rfl⟩
 have ad:Hid (xZ q=[.string s,.int .i64 u,.bool t,.int .i64 p,.int .i64 v]):=P;change Hid _ at N;clear I R hF hbs X g P d;go_enter_defers Tryz.func30,Tryz.ntmps30
 go_wp2_with (first
  |(go_at_call 47;refine(qc N).mono ?_;rintro e l ⟨rfl,c,y⟩;have C:Hid (za (λk=>k=bs) w l):=y;have ai:l.cell? ⟨bs,2,none⟩=some (.pointer (some ⟨bd,0,none⟩)):=c.c2;change Hid _ at c;clear y)
  |(go_at_call 49;refine(keys.ql a l ac).mono ?_;rintro e m ⟨rfl,E⟩;rw [E,V.out];clear E m)
  |(go_at_call 50;refine(O l c (ae.kept C Y)).mono ?_;rintro e m ⟨rfl,⟨aa,L,J,F⟩,x⟩;rw [ad.out,K.out];have T:Hid (zg m bd S {D with reads:=aa }):=F;have B:Hid (za (λi=>i=bd) l m):=x;clear F x))
 refine leaves_cons (f:= 48) (args:=#[.pointer (some ⟨bs,0,none⟩)]) (by simp) (by simp [go_sem]) ?_;have M:=za.alloc (λ_=>False) m (.cells #[.string s,.int .i64 u,.bool t,.int .i64 p,.int .i64 v] 109);refine(qa ((c.kept B U).kept M id)).mono ?_;rintro e u' ah ⟨rfl,rfl,Z,A⟩;exact⟨_,results_tmp2 Tryz.results30 _ _ _,rfl,Z,⟨aa,L,J,(T.kept M nF).kept A Y⟩,(((C.mono (S':=λk=>k=bd\/k=bs) (λ_ h=>.inr h)).trans B (λ_ h=>.inl (.inl h))).trans M fE).trans A (λ_ h=>.inl (.inr h))⟩
theorem vY.bare{bs:List (List Value)}{V:qE}{f n:Nat}{m:List UInt8}{e:List En}{i:List Nat}{bo:Pl->List zv}(j:vY bs V f n m e i bo)(c:n<4611686018427387904)(a:ByteArray):vT V.vs a= !xT a (yP ⟨a,9223372036854775807⟩ e).head? :=by
 unfold vT
 cases d:(yP ⟨a,9223372036854775807⟩ e).head? with
 |none=>rw [j.new_no c (λk h=>by rw [d] at h;cases h)];rfl
 |some k=>
  by_cases b:k.pl.key=a
  .rw [j.new_yes c d b];simp [xT,b,y5]
  .rw [j.new_no c (λl g=>by rw [d] at g;cases g;exact b)];simp [xT,b]
variable {Fu:Int->Prop} {Ho:List (List Value)->qE->Prop} {m1:∀f,Fu f->zD f} {m2:Fu (-1)} {m3:∀bs V,yF bs V->Ho bs V} {m4:∀bs V,Ho bs V->law.Good V}
theorem YU(ac:Fu 0->∀bs V,kq bs V->Ho bs V)(Y:∀f,Fu f->Fu (qv f)):gA (vn Fu Ho m1 m2 m3 m4) where
 live:=λw bd bs S D V a F x=>by
  have t:Fu D.fuse:=F.fuse;have y:=F.sto;have E:=F.disk;have h:=F.live.ps;have l:=F.live.rest;obtain⟨o,n,m,C,B,bo,O⟩:=F.live.rest;have K:=F.reads0;have ak:=F.reads1;have p:=F.live.big;have P:n<4611686018427387904:=by have:=F.few;rw [O.n0] at this;omega
  cases b:zp a.data.toList with
  |false=>
   refine(JK w bs (some bd) y a x b).mono ?_;rintro e w' ⟨d,h2,k⟩;exact⟨D,S,2,0,some bd,d,kj E F.apart t h2 k,⟨.inl ⟨by show (2:Int)≠0;decide,rfl,rfl,F.live⟩⟩,rfl⟩
  |true=>
   have u:qT (D.look 1) o n:=by have:=O.root;rw [<-qW h] at this;exact this
   have A:qY (λj=>D.look (j:Nat)) o C B:=O.forest.congr (λj _=>qW h j);have z:∀j∈B,21<=j:=λj M=>(O.range j (af _ M)).1;have g:=O.bare P a
   cases i:xT a (yP ⟨a,9223372036854775807⟩ C).head? with
   |false=>
    rw [i] at g;rw [g];refine(UE w bs bd S D y E F.apart K (by omega) o n u a x b C B A O.len z _ rfl i).mono ?_;rintro e w' ⟨d,h2,⟨r,k,W,Z⟩,ab⟩;exact⟨{D with reads:=r},S,5,0,some bd,d,vo E t h2 k (by omega) Z ab,⟨.inl ⟨by show (5:Int)≠0;decide,rfl,rfl,⟨h,l,p⟩⟩⟩,rfl⟩
   |true=>
    rw [i] at g;rw [g];refine(Gg w bs bd S D y E F.apart K (by omega) o n u a x b C B A O.len z _ rfl i (λv c D' q=>∃r:Int,D.reads<=r/\r<=D.reads+14/\GL {D with reads:=r} V a true [] bd v c D' q) (λw' r d h2 k W=>?_)).mono ?_
    .refine(Gs w' bs bd S {D with reads:=r} k W F.apart (by show 0<=r;omega) (by show r<=_;omega) h (m1 _ t) p V F.few l a b true (λ_=>False) none 0 [] (λ_=>rfl) (.inl rfl) (λj M=>M.elim) (by simp) (by simp) (by omega)).mono ?_;rintro e ai ⟨v,c,D',q,ad,ae,ag⟩;exact⟨v,c,D',q,ad,ae,r,d,h2,ag⟩
    .rintro e w' ⟨v,c,D',q,d,⟨r,I,am,U,L,al,ah,H⟩,T⟩;have s:Fu D'.fuse:=U Fu Y t;rcases H with⟨rfl,rfl,rfl,N,rfl⟩|⟨R,Q,H⟩
     .obtain⟨S',I⟩:=T.aft (D:=D) (by show D.reads<=r+L;omega) (by show r+L<=D.reads+40;omega) rfl s;exact⟨_,S',6,0,some bd,d,I,⟨.inr (.inr (.inl ⟨rfl,rfl,rfl,⟨h,l,p⟩,N⟩))⟩,rfl⟩
     .obtain⟨aa,X⟩:=H.same;have aj:D'.reads=r+L:=X;obtain⟨S',I⟩:=T.aft (D:=D) (by omega) (by omega) aa s;refine⟨D',S',c,v,q,d,I,Gr.chg (D1:={D with reads:=r }) ac h p s H,?_⟩;by_cases G:c=0;.rw [aB G];exact R G
      .rw [aw G];exact Q G
 shut:=λw bs a y x=>by
  have J:=y
  cases b:zp a.data.toList with
  |false=>exact(JK w bs none J a x b).mono (λe w' ⟨d,h2,k⟩=>⟨d,h2,k⟩)
  |true=>exact(UD w bs J a x b).mono (λe w' ⟨d,h2,k⟩=>⟨d,h2,k⟩)
end prog
namespace prog
open Go.RowKit disk ref
open law (qE ze xw dC xy gC ZG qq ys)
open keys (zp)
theorem X7(p k:ByteArray)(n m:Int):qH p k n m=0\/qH p k n m=2\/qH p k n m=4:=by
 unfold qH;split;.exact .inr (.inl rfl)
 .split;.exact .inr (.inr rfl)
  .exact .inl rfl
theorem vY.veV{bs:List (List Value)}{V:qE}{a n:Nat}{m:List UInt8}{c:List En}{e:List Nat}{bo:Pl->List zv}(h:vY bs V a n m c e bo):∀l:List En,(∀b∈l,b∈c)->vk l=qq (l.map (y5 bo)):=λl g=>by
 unfold vk qq;rw [ln];congr 1;refine mj (λb f=>?_);have d:=(h.body b (g b f)).size;show prog.veV b=ZG (y5 bo b);unfold prog.veV ZG y5;simp only [d]
variable {Fu:Int->Prop} {Ho:List (List Value)->qE->Prop} {m1:∀f,Fu f->zD f} {m2:Fu (-1)} {m3:∀bs V,yF bs V->Ho bs V} {m4:∀bs V,Ho bs V->law.Good V}
theorem YV:xy (vn Fu Ho m1 m2 m3 m4) where
 live:=λw bd bs S D V p k n m F C z Y ad=>by
  have E:Fu D.fuse:=F.fuse;have u:zu w bs 0 (some bd):=F.sto;have x:=F.disk;have q:=F.live.ps;obtain⟨b,J,R,l,t,bo,s⟩:=F.live.rest;have Q:=F.reads0;have aa:=F.reads1;have v:∀r:Int,(vn Fu Ho m1 m2 m3 m4).Live {D with reads:=r} V:=λr=>⟨q,⟨b,J,R,l,t,bo,s⟩,F.live.big⟩;by_cases y:qH p k n m=0
  .have g:=fk p k n m;rw [y] at g;have A:qT (D.look 1) b J:=by have:=s.root;rw [<-qW q] at this;exact this
   have L:qY (λj=>D.look (j:Nat)) b l t:=s.forest.congr (λj _=>qW q j);have K:∀j∈t,21<=j:=λj d=>(s.range j (af _ d)).1;have Z:V.n0<=2305843009213693952:=F.few
   have H:∀i∈l,i.pl.key≠ByteArray.empty/\i.pl.num<9223372036854775807:=λi f=>by
    have o:=s.low i f;refine⟨λe=>?_,?_⟩
    .have:=o.2.2.2;rw [e] at this;exact absurd this (by decide)
    .have:=o.2.2.1;have:=s.n0;omega
   have O:=YH s.forest.six.2.2 (y5 bo) (λi=>⟨rfl,rfl⟩) V.vs s.vers p k n H;have I:∀i∈YG p k n l,i∈l:=λi f=>(ei.1 ((List.takeWhile_sublist _).subset f)).1
   refine(KQ w bs bd S D u x F.apart Q (by omega) b J A p k n m C z Y.2 g l t L s.len K (λi f=>by
    have ac:=(Z7 (s.low i f).2.2.2).2.1;have ab:i.pl.key.data.toList.length=i.pl.key.size:=by simp
    omega) _ rfl).mono ?_
   rintro e w' ⟨⟨a,c,o,M,G⟩,h2,⟨r,B,W,T⟩,U⟩;rw [y];refine⟨{D with reads:=r},S,_,_,o,⟨T,λ_ h=>.inl h,h2,U.mono (λj d=>d.elim (λe=>.inl (by rw [e];exact x.bdS)) .inr),B,W,rfl,E⟩,v r,λ_=>⟨_,O,?_,a,c,?_,?_,?_⟩,λh=>absurd rfl h,λj d X=>?_⟩;.simp
   .rw [<-iP,ez]
   .rw [<-iP,ez,<-s.veV _ (λi f=>I i (aP f))];exact M
   .rw [<-iP,ez];exact G
   .have:=G j d;have:=x.lt j X;omega
  .refine(Zq w bs (some bd) u p k n m C z _ _ (fk p k n m) (.inl ⟨y,rfl⟩)).mono ?_;rintro e w' ⟨o,h2,B⟩;exact⟨D,S,_,_,o,⟨x.kept B (λj d e=>F.apart (by rw [<-show j=bs from e];exact d)),λ_ h=>.inl h,h2,B.mono (λ_ h=>.inr h),eb _,by omega,rfl,E⟩,F.live,λh=>absurd h y,λ_=>⟨rfl,rfl⟩,λj d=>by cases d⟩
 shut:=λw bs p k n m u C z=>by
  have N:zu w bs 0 none:=u
  have P:(qH p k n m≠0/\ys true (qH p k n m)=qH p k n m)\/(qH p k n m=0/\(none:Option Nat)=none/\ys true (qH p k n m)=8):=by
   rcases X7 p k n m with h|h|h;.rw [h];exact .inr ⟨rfl,rfl,rfl⟩
   .rw [h];exact .inl ⟨by decide,rfl⟩
   .rw [h];exact .inl ⟨by decide,rfl⟩
  exact Zq w bs none N p k n m C z _ _ (fk p k n m) P
end prog
namespace prog
open Go.RowKit disk ref
open law (qE ze q8 GS)
variable {Fu:Int->Prop} {Ho:List (List Value)->qE->Prop} {m1:∀f,Fu f->zD f} {m2:Fu (-1)} {m3:∀bs V,yF bs V->Ho bs V} {m4:∀bs V,Ho bs V->law.Good V}
theorem bT:∀(ps:List (Nat×List Value)) (bs:List (List Value)),(∀b∈bs,zS b)->(∀p∈ps,zS p.2)->∀b∈zm bs ps,zS b
 |[],bs,h,_=>h
 |p::ps,bs,h,hp=>bT ps (bs.set p.1 p.2) (λb a=>by
  rcases il a with a|rfl;.exact h b a
  .exact hp p (al ..)) (λq c=>hp q (am _ c))
theorem JL{D:Dk}(a:D.ps=[]){i:Nat}{b:List Value}(h:D.bs[i]? =some b)(d:Int)(c:d=i):D.look d=b:=by
 subst c;rw [qW a,X2,aA,h];rfl
theorem vL(ad:∀bs V,Ho bs V->kq bs V)(ac:Fu 0->∀bs V,kq bs V->Ho bs V)(I:∀f,Fu f->Fu (qv f)):q8 (vn Fu Ho m1 m2 m3 m4) where
 small:=λw bd S D c T=>(XQ w bd S D c T).mono (by
  rintro e w' ⟨d,rfl⟩
  exact⟨d,c,za.refl _ _⟩)
 big:=λw bd S D P c g C G ai=>by
  have X:Fu D.fuse:=C;have u:=m1 _ X;have h:=g.big;by_cases B:D.fuse=0
  .refine(bB w bd S D D c h (Yq w bd S D c u (by rw [B];rfl))).mono ?_;rintro e w' ⟨d,⟨S',h2,l⟩,q⟩;exact⟨D,S',⟨h2,l,q,eb _,by omega,rfl,C⟩,.inr ⟨d,B,g⟩⟩
  .have F:(D.fuse==0)=false:=by simpa using B
   obtain⟨V,L,E⟩:=g.all (List.replicate D.ps.length true);rw [YM] at E;have k:D.flush={D with bs:=zm D.bs D.ps,ps:=[],fuse:=qv D.fuse}:=by unfold Dk.flush;rw [aw B]
   have Y:(zm D.bs D.ps).length=D.bs.length:=zC _ _;have x:Fu (qv D.fuse):=I _ X;rcases ad _ _ E with A|⟨ws,a⟩
   .obtain⟨y,n,m,Q,O,bo,j⟩:=A;obtain⟨p,s,ae,z⟩:=j.head;have U:D.flush.look 0=zl p:=by rw [k,<-ae];rfl
    refine(Zh w bd S D {D.flush with reads:=D.reads+1} c h (Yr w bd S D c u F G (by omega) p s U z)).mono ?_;rw [k];rintro e w' ⟨bs,d,h2,l,S',q,J,v,M⟩;exact⟨_,S',⟨q,J,M,by show D.reads<=D.reads+1;omega,by show D.reads+1<=_;omega,Y,x⟩,.inl ⟨bs,V,d,h2,v,l,L,⟨rfl,⟨y,n,m,Q,O,bo,j⟩,by show 64<=(zm D.bs D.ps).length;omega⟩⟩⟩
   .have H:=a.ok.few
    have T:(zm D.bs D.ps).length<=1000:=by obtain⟨y,n,m,Q,O,bo,j⟩:=a.rest;have:=j.few;rw [ew,zC] at this;exact this
    obtain⟨ab,aa,af,ag,t⟩:=c;have c:zg w bd S D:=⟨ab,aa,af,ag,t⟩;have K:=bT D.ps D.bs t.ok.bs (λp s=>(t.ok.ps p s).2)
    have W:∀p∈ws,zS p.2/\p.1<65536:=λp s=>by obtain⟨i,z,rfl⟩:=ed s;have d:=a.log i z;exact⟨K _ (me d),by have:=(a.ok.keys _ s).1;omega⟩
    have hfin:=X1 w bd S D c u F G (by omega) ws a.ok.some H W (by rw [k];exact JL rfl a.head 0 rfl) (λi z=>by rw [k];exact JL rfl (a.log i z) _ (by omega));rw [k] at hfin;have R:=bL (D:={D with bs:=zm D.bs D.ps,ps:=[],fuse:=qv D.fuse,reads:=D.reads+1+(ws.length:Int) }) (ws:=ws) (V:=V) rfl a;have o:Fu (qL {D with bs:=zm D.bs D.ps,ps:=[],fuse:=qv D.fuse,reads:=D.reads+1+(ws.length:Int)} ws).2.fuse:=bN I (gj I ws _ x) _;generalize qL {D with bs:=zm D.bs D.ps,ps:=[],fuse:=qv D.fuse,reads:=D.reads+1+(ws.length:Int)} ws=ak at*;obtain⟨b,D'⟩:=ak
    cases b with
    |true=>
     obtain⟨f,r⟩:=R.1 rfl;simp only at r;subst r;refine(Zh w bd S D _ c h hfin).mono ?_;rintro e w' ⟨bs,d,h2,l,S',q,J,v,M⟩;refine⟨_,S',⟨q,J,M,by show D.reads<=D.reads+1+(ws.length:Int);omega,by show D.reads+1+(ws.length:Int)<=_;omega,?_,o⟩,.inl ⟨bs,V,d,h2,v,l,L,⟨rfl,a.rest,?_⟩⟩⟩
     .show ((zm (zm D.bs D.ps) ws).set 0 xY).length=_;rw [ew,zC,zC]
     .show 64<=((zm (zm D.bs D.ps) ws).set 0 xY).length;rw [ew,zC,zC];exact h
    |false=>
     obtain⟨r,Z,ah,N⟩:=R.2 rfl;simp only at r Z ah N;refine(bB w bd S D D' c h hfin).mono ?_;rintro e w' ⟨d,⟨S',h2,l⟩,q⟩;refine⟨D',S',⟨h2,l,q,by omega,by omega,by omega,o⟩,.inr ⟨d,r,⟨by have:=N.1;omega,by omega,λks=>?_⟩⟩⟩;obtain⟨aj,rfl,v⟩:=N.2 ks;exact⟨aj,L,ac (by rw [<-r];exact o) _ _ v⟩
def JM(f:Int):Prop:=zD f
theorem yA(f:Int)(h:JM f):JM (qv f):=by
 unfold JM zD at*;unfold qv;split<;>omega
theorem kq.good{bs:List (List Value)}{V:qE}(h:kq bs V):law.Good V:=by
 rcases h with⟨_,_,_,_,_,_,h⟩|⟨ws,h⟩;.exact h.good
 .obtain⟨_,_,_,_,_,_,h⟩:=h.rest;exact h.good
def Gh:ze:=vn JM kq (λ_ h=>h) (by constructor<;>omega) (λ_ _ h=>.inl h) (λ_ _ h=>h.good)
def Gi:ze:=vn (λf=>f= -1) kq (λf h=>by rw [h];constructor<;>omega) rfl (λ_ _ h=>.inl h) (λ_ _ h=>h.good)
end prog
end Go.Proofs.YtcoengihaobddaaGreatDoor
