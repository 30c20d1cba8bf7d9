/- Part 34 of 36 of a proof: Del1, Del2, Mng5, Fall5 -/
import Derived.Test.YtcoengihaobddaaGreatDoorJc33
import Derived.Test.YtcoengihaobddaaGreatDoorJc31
set_option maxHeartbeats 8000000
set_option linter.unusedVariables false
set_option linter.unusedSimpArgs false
set_option maxRecDepth 8000
namespace Go.Proofs.YtcoengihaobddaaGreatDoor
namespace prog
open Go.ChangeShapes Go.WideShapes Go.ChangeAt Go.RowKit disk ref
open Go.MuLone
open law (qq zd xI bY dC)
open keys (zh ze zy zs zq)
theorem JK(w:World)(bs:Nat)(q:Option Nat)(j:zu w bs 0 q)(a:ByteArray)(n:a.size<=maxLen)(b:zq a.data.toList=false):
 Calls Tryz.prog 30 #[.pointer (some ⟨bs,0,none⟩),.string a] w λe w'=>e=.returned (.tuple #[.int .i64 0,.int .i64 2])/\zu w' bs 0 q/\za (λk=>k=bs) w w':=by
 change Hid _ at j b;go_enter_defers Tryz.func30,Tryz.ntmps30
 go_wp2_with (first
  |(go_at_call 47;refine(qd j).mono ?_;rintro e m ⟨rfl,c,d⟩;change Hid _ at c d)
  |(go_at_call 49;refine(keys.ql a m n).mono ?_;rintro e l ⟨rfl,g⟩;rw [g,b.out];clear g l))
 refine leaves_cons (f:= 48) (args:=#[.pointer (some ⟨bs,0,none⟩)]) (by simp) (by simp [go_sem]) ?_;refine(qc c).mono ?_;rintro e u' l ⟨rfl,rfl,i,h⟩;exact⟨_,results_tmp2 Tryz.results30 _ _ _,rfl,i,d.trans h iL⟩
theorem UD(w:World)(bs:Nat)(j:zu w bs 0 none)(a:ByteArray)(n:a.size<=maxLen)(c:zq a.data.toList=true):
 Calls Tryz.prog 30 #[.pointer (some ⟨bs,0,none⟩),.string a] w λe w'=>e=.returned (.tuple #[.int .i64 0,.int .i64 8])/\zu w' bs 0 none/\za (λk=>k=bs) w w':=by
 change Hid _ at j c;go_enter_defers Tryz.func30,Tryz.ntmps30
 go_wp2_with (first
  |(go_at_call 47;refine(qd j).mono ?_;rintro e m ⟨rfl,b,d⟩;have o:=b.c2;change Hid _ at b d)
  |(go_at_call 49;refine(keys.ql a m n).mono ?_;rintro e l ⟨rfl,g⟩;rw [g,c.out];clear g l))
 refine leaves_cons (f:= 48) (args:=#[.pointer (some ⟨bs,0,none⟩)]) (by simp) (by simp [go_sem]) ?_;refine(qc b).mono ?_;rintro e u' l ⟨rfl,rfl,i,h⟩;exact⟨_,results_tmp2 Tryz.results30 _ _ _,rfl,i,d.trans h iL⟩
theorem Gg(w:World)(bs bd:Nat)(S:Nat->Prop)(D:Dk)(Y:zu w bs 0 (some bd))(G:zg w bd S D)(Z:¬S bs)(am:0<=D.reads)(aB:D.reads<=4611686018427350000)(d n:Nat)(ah:qV (D.look 1) d n)(a:ByteArray)(au:a.size<=maxLen)(u:zq a.data.toList=true)(X:List En)(H:List Nat)(hF:q8 (λj=>D.look (j:Nat)) d X H)(ac:H.length<=979)(hbs:∀j∈H,21<=j)(F:Option En)(al:(yS ⟨a,9223372036854775807⟩ X).head? =F)(C:xY a F=true)(Q:Int->Int->Dk->Option Nat->Prop)
 (z:∀(w':World) (r:Int),D.reads<=r->r<=D.reads+14->zu w' bs 1 (some bd)->zg w' bd S {D with reads:=r}->Calls Tryz.prog 52 #[.pointer (some ⟨bs,0,none⟩),.string a,.slice none 0 0,.bool true] w' λe b=>∃v c D' q,e=.returned (.tuple #[.int .i64 v,.int .i64 c])/\vR w' b bs bd S D' 1 q/\Q v c D' q):
 Calls Tryz.prog 30 #[.pointer (some ⟨bs,0,none⟩),.string a] w λe w'=>∃v c D' q,e=.returned (.tuple #[.int .i64 v,.int .i64 c])/\Q v c D' q/\vR w w' bs bd S D' 0 q:=by
 have ay:Hid (zg w bd S D):=G;have ae:Hid (zq a.data.toList=true):=u;have R:Hid (xY a F=true):=C;have ad:bs≠bd:=λe=>Z (by rw [e];exact G.bdS);have an:Hid (∀j,S j->j≠bs):=λj A e=>Z (by rw [<-e];exact A);have ai:Hid (∀w',zu w' bs 1 (some bd)->zg w' bd S D->Calls Tryz.prog 50 #[.pointer (some ⟨bs,0,none⟩),.string a] w' λe b=>e=.returned (.tuple #[.agg (jc F).toArray,.bool (xY a F)])/\(∃r:Int,D.reads<=r/\r<=D.reads+14/\zg b bd S {D with reads:=r })/\za (λi=>i=bd) w' b):=λw' aw h2=>xn w' bs bd S D 1 aw h2 Z am (by omega) d n ah a X H hF ac hbs F al;have T:Hid (∀(w':World) (r:Int),D.reads<=r->r<=D.reads+14->zu w' bs 1 (some bd)->zg w' bd S {D with reads:=r}->Calls Tryz.prog 52 #[.pointer (some ⟨bs,0,none⟩),.string a,.slice none 0 0,.bool true] w' λe b=>∃v c D' q,e=.returned (.tuple #[.int .i64 v,.int .i64 c])/\vR w' b bs bd S D' 1 q/\Q v c D' q):=z
 obtain⟨p,m,o,s,t,ap⟩:∃(p:ByteArray) (m:Int) (o:Bool) (s t:Int),jc F=[.string p,.int .i64 m,.bool o,.int .i64 s,.int .i64 t]:=by
  cases F with
  |none=>exact⟨_,_,_,_,_,rfl⟩
  |some aH=>exact⟨_,_,_,_,_,rfl⟩
 have ax:Hid (jc F=[.string p,.int .i64 m,.bool o,.int .i64 s,.int .i64 t]):=ap;have av:=Y.lt;have E:=G.bdS;have U:Hid (S bd):=E;change Hid _ at Y;clear G ah hF hbs al u ap C z E;go_enter_defers Tryz.func30,Tryz.ntmps30
 go_wp2_with (first
  |(go_at_call 47;refine(qd Y).mono ?_;rintro e B ⟨rfl,l,N⟩;have x:Hid (za (λk=>k=bs) w B):=N;have aE:B.cell? ⟨bs,2,none⟩=some (.pointer (some ⟨bd,0,none⟩)):=l.c2;change Hid _ at l;clear N)
  |(go_at_call 49;refine(keys.ql a B au).mono ?_;rintro e g ⟨rfl,J⟩;rw [J,ae.out];clear J g)
  |(go_at_call 50;refine(ai B l (ay.kept x an)).mono ?_;rintro e g ⟨rfl,⟨aq,V,aa,I⟩,M⟩;rw [ax.out,R.out];have ag:Hid (zg g bd S {D with reads:=aq }):=I;have y:Hid (za (λi=>i=bd) B g):=M;clear I M)
  |(go_at_call 52;refine(T _ aq V aa (by exact(l.kept y ad).kept (za.alloc (λ_=>False) g (.cells #[.string p,.int .i64 m,.bool o,.int .i64 s,.int .i64 t] 109)) id) (by exact ag.kept (za.alloc (λ_=>False) g (.cells #[.string p,.int .i64 m,.bool o,.int .i64 s,.int .i64 t] 109)) nF)).mono ?_;rintro e aG ⟨v,c,D',q,rfl,O,L⟩;have af:PLift (Q v c D' q):=⟨L⟩;change Hid _ at O;clear L))
 refine leaves_cons (f:= 48) (args:=#[.pointer (some ⟨bs,0,none⟩)]) (by simp) (by simp [go_sem]) ?_;obtain⟨W,⟨S',aj,K⟩,ao⟩:=O.out;have ar:=za.alloc (λ_=>False) g (.cells #[.string p,.int .i64 m,.bool o,.int .i64 s,.int .i64 t] 109);refine(qc W).mono ?_;rintro e u' aC ⟨rfl,rfl,ak,P⟩;have aD:=x.size;have az:=y.size;have aA:=ar.size;refine⟨_,results_tmp2 Tryz.results30 _ _ _,v,c,D',q,rfl,af.down,ak,⟨S',aj.kept P (λj A ab=>?_),λj A=>?_⟩,?_⟩
 .rcases K j A with h|h;.exact an j h ab
  .have aF:j=bs:=ab;omega
 .rcases K j A with h|h;.exact .inl h
  .exact .inr (by omega)
 .exact((((x.mono (S':=λk=>S k\/k=bs) (λ_ h=>.inr h)).trans y (λj h=>.inl (.inl (by rw [h];exact U)))).trans ar fE).trans ao iL).trans P (λ_ h=>.inl (.inr h))
theorem UE(w:World)(bs bd:Nat)(S:Nat->Prop)(D:Dk)(Y:zu w bs 0 (some bd))(G:zg w bd S D)(J:¬S bs)(W:0<=D.reads)(ag:D.reads<=4611686018427350000)(b n:Nat)(T:qV (D.look 1) b n)(a:ByteArray)(ab:a.size<=maxLen)(g:zq a.data.toList=true)(I:List En)(q:List Nat)(hF:q8 (λj=>D.look (j:Nat)) b I q)(N:q.length<=979)(hbs:∀j∈q,21<=j)(p:Option En)(V:(yS ⟨a,9223372036854775807⟩ I).head? =p)(l:xY a p=false):
 Calls Tryz.prog 30 #[.pointer (some ⟨bs,0,none⟩),.string a] w λe w'=>e=.returned (.tuple #[.int .i64 0,.int .i64 5])/\zu w' bs 0 (some bd)/\(∃r:Int,D.reads<=r/\r<=D.reads+14/\zg w' bd S {D with reads:=r })/\za (λk=>k=bd\/k=bs) w w':=by
 have af:Hid (zg w bd S D):=G;have Q:Hid (zq a.data.toList=true):=g;have H:Hid (xY a p=false):=l;have O:bs≠bd:=λe=>J (by rw [e];exact G.bdS);have X:Hid (∀j,S j->j≠bs):=λj ad e=>J (by rw [<-e];exact ad);have U:Hid (∀w',zu w' bs 1 (some bd)->zg w' bd S D->Calls Tryz.prog 50 #[.pointer (some ⟨bs,0,none⟩),.string a] w' λe E=>e=.returned (.tuple #[.agg (jc p).toArray,.bool (xY a p)])/\(∃r:Int,D.reads<=r/\r<=D.reads+14/\zg E bd S {D with reads:=r })/\za (λi=>i=bd) w' E):=λw' ac h2=>xn w' bs bd S D 1 ac h2 J W (by omega) b n T a I q hF N hbs p V
 obtain⟨v,s,t,o,u,aa⟩:∃(v:ByteArray) (s:Int) (t:Bool) (o u:Int),jc p=[.string v,.int .i64 s,.bool t,.int .i64 o,.int .i64 u]:=by
  cases p with
  |none=>exact⟨_,_,_,_,_,rfl⟩
  |some aj=>exact⟨_,_,_,_,_,rfl⟩
 have ae:Hid (jc p=[.string v,.int .i64 s,.bool t,.int .i64 o,.int .i64 u]):=aa;change Hid _ at Y;clear G T hF hbs V g aa l;go_enter_defers Tryz.func30,Tryz.ntmps30
 go_wp2_with (first
  |(go_at_call 47;refine(qd Y).mono ?_;rintro e d ⟨rfl,c,z⟩;have B:Hid (za (λk=>k=bs) w d):=z;have ai:d.cell? ⟨bs,2,none⟩=some (.pointer (some ⟨bd,0,none⟩)):=c.c2;change Hid _ at c;clear z)
  |(go_at_call 49;refine(keys.ql a d ab).mono ?_;rintro e m ⟨rfl,A⟩;rw [A,Q.out];clear A m)
  |(go_at_call 50;refine(U d c (af.kept B X)).mono ?_;rintro e m ⟨rfl,⟨Z,K,L,x⟩,y⟩;rw [ae.out,H.out];have R:Hid (zg m bd S {D with reads:=Z }):=x;have C:Hid (za (λi=>i=bd) d m):=y;clear x y))
 refine leaves_cons (f:= 48) (args:=#[.pointer (some ⟨bs,0,none⟩)]) (by simp) (by simp [go_sem]) ?_;have M:=za.alloc (λ_=>False) m (.cells #[.string v,.int .i64 s,.bool t,.int .i64 o,.int .i64 u] 109);refine(qc ((c.kept C O).kept M id)).mono ?_;rintro e u' ah ⟨rfl,rfl,P,F⟩;exact⟨_,results_tmp2 Tryz.results30 _ _ _,rfl,P,⟨Z,K,L,(R.kept M nF).kept F X⟩,(((B.mono (S':=λk=>k=bd\/k=bs) (λ_ h=>.inr h)).trans C (λ_ h=>.inl (.inl h))).trans M fE).trans F (λ_ h=>.inl (.inr h))⟩
theorem v6.bare{bs:List (List Value)}{V:qq}{e n:Nat}{m:List UInt8}{f:List En}{j:List Nat}{bo:Pl->List zv}(i:v6 bs V e n m f j bo)(c:n<4611686018427387904)(a:ByteArray):vV V.vs a= !xY a (yS ⟨a,9223372036854775807⟩ f).head? :=by
 unfold vV
 cases d:(yS ⟨a,9223372036854775807⟩ f).head? with
 |none=>rw [i.new_no c (λk h=>by rw [d] at h;cases h)];rfl
 |some k=>
  by_cases b:k.pl.key=a
  .rw [i.new_yes c d b];simp [xY,b,xc]
  .rw [i.new_no c (λl g=>by rw [d] at g;cases g;exact b)];simp [xY,b]
variable {Fu:Int->Prop} {Ho:List (List Value)->qq->Prop} {m1:∀f,Fu f->zD f} {m2:Fu (-1)} {m3:∀bs V,yI bs V->Ho bs V} {m4:∀bs V,Ho bs V->law.Good V}
theorem YU(ad:Fu 0->∀bs V,kz bs V->Ho bs V)(X:∀f,Fu f->Fu (qx f)):dC (vq Fu Ho m1 m2 m3 m4) where
 live:=λw bd bs S D V a F x=>by
  have u:Fu D.fuse:=F.fuse;have z:=F.sto;have B:=F.disk;have h:=F.live.ps;have p:=F.live.rest;obtain⟨k,n,m,G,C,bo,M⟩:=F.live.rest;have K:=F.reads0;have ak:=F.reads1;have o:=F.live.big;have W:n<4611686018427387904:=by have:=F.few;rw [M.n0] at this;omega
  cases b:zq a.data.toList with
  |false=>
   refine(JK w bs (some bd) z a x b).mono ?_;rintro e w' ⟨d,h2,l⟩;exact⟨D,S,2,0,some bd,d,kx B F.apart u h2 l,⟨.inl ⟨by show (2:Int)≠0;decide,rfl,rfl,F.live⟩⟩,rfl⟩
  |true=>
   have t:qV (D.look 1) k n:=by have:=M.root;rw [<-qY h] at this;exact this
   have A:q8 (λj=>D.look (j:Nat)) k G C:=M.forest.congr (λj _=>qY h j);have y:∀j∈C,21<=j:=λj O=>(M.range j (af _ O)).1;have g:=M.bare W a
   cases i:xY a (yS ⟨a,9223372036854775807⟩ G).head? with
   |false=>
    rw [i] at g;rw [g];refine(UE w bs bd S D z B F.apart K (by omega) k n t a x b G C A M.len y _ rfl i).mono ?_;rintro e w' ⟨d,h2,⟨r,l,T,aa⟩,ae⟩;exact⟨{D with reads:=r},S,5,0,some bd,d,vr B u h2 l (by omega) aa ae,⟨.inl ⟨by show (5:Int)≠0;decide,rfl,rfl,⟨h,p,o⟩⟩⟩,rfl⟩
   |true=>
    rw [i] at g;rw [g];refine(Gg w bs bd S D z B F.apart K (by omega) k n t a x b G C A M.len y _ rfl i (λv c D' q=>∃r:Int,D.reads<=r/\r<=D.reads+14/\GL {D with reads:=r} V a true [] bd v c D' q) (λw' r d h2 l T=>?_)).mono ?_
    .refine(Gs w' bs bd S {D with reads:=r} l T F.apart (by show 0<=r;omega) (by show r<=_;omega) h (m1 _ u) o V F.few p a b true (λ_=>False) none 0 [] (λ_=>rfl) (.inl rfl) (λj O=>O.elim) (by simp) (by simp) (by omega)).mono ?_;rintro e al ⟨v,c,D',q,ac,Z,Y⟩;exact⟨v,c,D',q,ac,Z,r,d,h2,Y⟩
    .rintro e w' ⟨v,c,D',q,d,⟨r,H,am,Q,L,aj,ai,E⟩,U⟩;have s:Fu D'.fuse:=Q Fu X u;rcases E with⟨rfl,rfl,rfl,N,rfl⟩|⟨P,R,E⟩
     .obtain⟨S',H⟩:=U.aft (D:=D) (by show D.reads<=r+L;omega) (by show r+L<=D.reads+40;omega) rfl s;exact⟨_,S',6,0,some bd,d,H,⟨.inr (.inr (.inl ⟨rfl,rfl,rfl,⟨h,p,o⟩,N⟩))⟩,rfl⟩
     .obtain⟨ag,ab⟩:=E.same;have ah:D'.reads=r+L:=ab;obtain⟨S',H⟩:=U.aft (D:=D) (by omega) (by omega) ag s;refine⟨D',S',c,v,q,d,H,Gr.chg (D1:={D with reads:=r }) ad h o s E,?_⟩;by_cases I:c=0;.rw [aB I];exact P I
      .rw [aw I];exact R I
 shut:=λw bs a z x=>by
  have J:=z
  cases b:zq a.data.toList with
  |false=>exact(JK w bs none J a x b).mono (λe w' ⟨d,h2,l⟩=>⟨d,h2,l⟩)
  |true=>exact(UD w bs J a x b).mono (λe w' ⟨d,h2,l⟩=>⟨d,h2,l⟩)
end prog
namespace prog
open Go.RowKit disk ref
open law (qq zd xI bY xD gB ZG qr yo)
open keys (zq)
theorem X7(p k:ByteArray)(n m:Int):qH p k n m=0\/qH p k n m=2\/qH p k n m=4:=by
 unfold qH;split;.exact .inr (.inl rfl)
 .split;.exact .inr (.inr rfl)
  .exact .inl rfl
theorem v6.veV{bs:List (List Value)}{V:qq}{a n:Nat}{m:List UInt8}{c:List En}{f:List Nat}{bo:Pl->List zv}(h:v6 bs V a n m c f bo):∀l:List En,(∀b∈l,b∈c)->vn l=qr (l.map (xc bo)):=λl d=>by
 unfold vn qr;rw [ln];congr 1;refine mj (λb g=>?_);have e:=(h.body b (d b g)).size;show prog.veV b=ZG (xc bo b);unfold prog.veV ZG xc;simp only [e]
variable {Fu:Int->Prop} {Ho:List (List Value)->qq->Prop} {m1:∀f,Fu f->zD f} {m2:Fu (-1)} {m3:∀bs V,yI bs V->Ho bs V} {m4:∀bs V,Ho bs V->law.Good V}
theorem YV:xD (vq Fu Ho m1 m2 m3 m4) where
 live:=λw bd bs S D V p k n m F y v U ac=>by
  have G:Fu D.fuse:=F.fuse;have A:zu w bs 0 (some bd):=F.sto;have t:=F.disk;have s:=F.live.ps;obtain⟨b,K,W,o,u,bo,q⟩:=F.live.rest;have P:=F.reads0;have Z:=F.reads1;have B:∀r:Int,(vq Fu Ho m1 m2 m3 m4).Live {D with reads:=r} V:=λr=>⟨s,⟨b,K,W,o,u,bo,q⟩,F.live.big⟩;by_cases C:qH p k n m=0
  .have g:=fj p k n m;rw [C] at g;have x:qV (D.look 1) b K:=by have:=q.root;rw [<-qY s] at this;exact this
   have L:q8 (λj=>D.look (j:Nat)) b o u:=q.forest.congr (λj _=>qY s j);have I:∀j∈u,21<=j:=λj d=>(q.range j (af _ d)).1;have aa:V.n0<=2305843009213693952:=F.few
   have J:∀i∈o,i.pl.key≠ByteArray.empty/\i.pl.num<9223372036854775807:=λi f=>by
    have l:=q.low i f;refine⟨λe=>?_,?_⟩
    .have:=l.2.2.2;rw [e] at this;exact absurd this (by decide)
    .have:=l.2.2.1;have:=q.n0;omega
   have Q:=YH q.forest.six.2.2 (xc bo) (λi=>⟨rfl,rfl⟩) V.vs q.vers p k n J;have M:∀i∈YG p k n o,i∈o:=λi f=>(ei.1 ((List.takeWhile_sublist _).subset f)).1
   refine(KQ w bs bd S D A t F.apart P (by omega) b K x p k n m y v U.2 g o u L q.len I (λi f=>by
    have ab:=(Z7 (q.low i f).2.2.2).2.1;have ad:i.pl.key.data.toList.length=i.pl.key.size:=by simp
    omega) _ rfl).mono ?_
   rintro e w' ⟨⟨a,c,l,H,E⟩,h2,⟨r,z,R,T⟩,X⟩;rw [C];refine⟨{D with reads:=r},S,_,_,l,⟨T,λ_ h=>.inl h,h2,X.mono (λj d=>d.elim (λe=>.inl (by rw [e];exact t.bdS)) .inr),z,R,rfl,G⟩,B r,λ_=>⟨_,Q,?_,a,c,?_,?_,?_⟩,λh=>absurd rfl h,λj d Y=>?_⟩;.simp
   .rw [<-iP,ez]
   .rw [<-iP,ez,<-q.veV _ (λi f=>M i (aP f))];exact H
   .rw [<-iP,ez];exact E
   .have:=E j d;have:=t.lt j Y;omega
  .refine(Zq w bs (some bd) A p k n m y v _ _ (fj p k n m) (.inl ⟨C,rfl⟩)).mono ?_;rintro e w' ⟨l,h2,z⟩;exact⟨D,S,_,_,l,⟨t.kept z (λj d e=>F.apart (by rw [<-show j=bs from e];exact d)),λ_ h=>.inl h,h2,z.mono (λ_ h=>.inr h),eb _,by omega,rfl,G⟩,F.live,λh=>absurd h C,λ_=>⟨rfl,rfl⟩,λj d=>by cases d⟩
 shut:=λw bs p k n m A y v=>by
  have N:zu w bs 0 none:=A
  have O:(qH p k n m≠0/\yo true (qH p k n m)=qH p k n m)\/(qH p k n m=0/\(none:Option Nat)=none/\yo true (qH p k n m)=8):=by
   rcases X7 p k n m with h|h|h;.rw [h];exact .inr ⟨rfl,rfl,rfl⟩
   .rw [h];exact .inl ⟨by decide,rfl⟩
   .rw [h];exact .inl ⟨by decide,rfl⟩
  exact Zq w bs none N p k n m y v _ _ (fj p k n m) O
end prog
namespace prog
open Go.RowKit disk ref
open law (qq zd yb GS)
variable {Fu:Int->Prop} {Ho:List (List Value)->qq->Prop} {m1:∀f,Fu f->zD f} {m2:Fu (-1)} {m3:∀bs V,yI bs V->Ho bs V} {m4:∀bs V,Ho bs V->law.Good V}
theorem bR:∀(ps:List (Nat×List Value)) (bs:List (List Value)),(∀b∈bs,zT b)->(∀p∈ps,zT p.2)->∀b∈zn bs ps,zT b
 |[],bs,h,_=>h
 |p::ps,bs,h,hp=>bR ps (bs.set p.1 p.2) (λb a=>by
  rcases il a with a|rfl;.exact h b a
  .exact hp p (al ..)) (λq c=>hp q (am _ c))
theorem JL{D:Dk}(a:D.ps=[]){i:Nat}{b:List Value}(h:D.bs[i]? =some b)(d:Int)(c:d=i):D.look d=b:=by
 subst c;rw [qY a,X2,aA,h];rfl
theorem vO(ad:∀bs V,Ho bs V->kz bs V)(ae:Fu 0->∀bs V,kz bs V->Ho bs V)(H:∀f,Fu f->Fu (qx f)):yb (vq Fu Ho m1 m2 m3 m4) where
 small:=λw bd S D c X=>(XQ w bd S D c X).mono (by
  rintro e w' ⟨d,rfl⟩
  exact⟨d,c,za.refl _ _⟩)
 big:=λw bd S D P c g G E ai=>by
  have R:Fu D.fuse:=G;have v:=m1 _ R;have h:=g.big;by_cases A:D.fuse=0
  .refine(bA w bd S D D c h (Yq w bd S D c v (by rw [A];rfl))).mono ?_;rintro e w' ⟨d,⟨S',h2,q⟩,o⟩;exact⟨D,S',⟨h2,q,o,eb _,by omega,rfl,G⟩,.inr ⟨d,A,g⟩⟩
  .have F:(D.fuse==0)=false:=by simpa using A
   obtain⟨V,N,C⟩:=g.all (List.replicate D.ps.length true);rw [YM] at C;have k:D.flush={D with bs:=zn D.bs D.ps,ps:=[],fuse:=qx D.fuse}:=by unfold Dk.flush;rw [aw A]
   have U:(zn D.bs D.ps).length=D.bs.length:=zC _ _;have t:Fu (qx D.fuse):=H _ R;rcases ad _ _ C with B|⟨ws,a⟩
   .obtain⟨u,n,m,T,Q,bo,j⟩:=B;obtain⟨p,r,ac,x⟩:=j.head;have O:D.flush.look 0=zm p:=by rw [k,<-ac];rfl
    refine(Zh w bd S D {D.flush with reads:=D.reads+1} c h (Yr w bd S D c v F E (by omega) p r O x)).mono ?_;rw [k];rintro e w' ⟨bs,d,h2,q,S',o,J,y,I⟩;exact⟨_,S',⟨o,J,I,by show D.reads<=D.reads+1;omega,by show D.reads+1<=_;omega,U,t⟩,.inl ⟨bs,V,d,h2,y,q,N,⟨rfl,⟨u,n,m,T,Q,bo,j⟩,by show 64<=(zn D.bs D.ps).length;omega⟩⟩⟩
   .have K:=a.ok.few
    have X:(zn D.bs D.ps).length<=1000:=by obtain⟨u,n,m,T,Q,bo,j⟩:=a.rest;have:=j.few;rw [ew,zC] at this;exact this
    obtain⟨Z,ah,aa,af,z⟩:=c;have c:zg w bd S D:=⟨Z,ah,aa,af,z⟩;have M:=bR D.ps D.bs z.ok.bs (λp r=>(z.ok.ps p r).2)
    have Y:∀p∈ws,zT p.2/\p.1<65536:=λp r=>by obtain⟨i,x,rfl⟩:=ed r;have d:=a.log i x;exact⟨M _ (me d),by have:=(a.ok.keys _ r).1;omega⟩
    have hfin:=X1 w bd S D c v F E (by omega) ws a.ok.some K Y (by rw [k];exact JL rfl a.head 0 rfl) (λi x=>by rw [k];exact JL rfl (a.log i x) _ (by omega));rw [k] at hfin;have W:=bK (D:={D with bs:=zn D.bs D.ps,ps:=[],fuse:=qx D.fuse,reads:=D.reads+1+(ws.length:Int) }) (ws:=ws) (V:=V) rfl a;have l:Fu (qN {D with bs:=zn D.bs D.ps,ps:=[],fuse:=qx D.fuse,reads:=D.reads+1+(ws.length:Int)} ws).2.fuse:=bM H (gk H ws _ t) _;generalize qN {D with bs:=zn D.bs D.ps,ps:=[],fuse:=qx D.fuse,reads:=D.reads+1+(ws.length:Int)} ws=ak at*;obtain⟨b,D'⟩:=ak
    cases b with
    |true=>
     obtain⟨f,s⟩:=W.1 rfl;simp only at s;subst s;refine(Zh w bd S D _ c h hfin).mono ?_;rintro e w' ⟨bs,d,h2,q,S',o,J,y,I⟩;refine⟨_,S',⟨o,J,I,by show D.reads<=D.reads+1+(ws.length:Int);omega,by show D.reads+1+(ws.length:Int)<=_;omega,?_,l⟩,.inl ⟨bs,V,d,h2,y,q,N,⟨rfl,a.rest,?_⟩⟩⟩
     .show ((zn (zn D.bs D.ps) ws).set 0 jb).length=_;rw [ew,zC,zC]
     .show 64<=((zn (zn D.bs D.ps) ws).set 0 jb).length;rw [ew,zC,zC];exact h
    |false=>
     obtain⟨s,ab,ag,L⟩:=W.2 rfl;simp only at s ab ag L;refine(bA w bd S D D' c h hfin).mono ?_;rintro e w' ⟨d,⟨S',h2,q⟩,o⟩;refine⟨D',S',⟨h2,q,o,by omega,by omega,by omega,l⟩,.inr ⟨d,s,⟨by have:=L.1;omega,by omega,λks=>?_⟩⟩⟩;obtain⟨aj,rfl,y⟩:=L.2 ks;exact⟨aj,N,ae (by rw [<-s];exact l) _ _ y⟩
def JM(f:Int):Prop:=zD f
theorem yD(f:Int)(h:JM f):JM (qx f):=by
 unfold JM zD at*;unfold qx;split<;>omega
theorem kz.good{bs:List (List Value)}{V:qq}(h:kz bs V):law.Good V:=by
 rcases h with⟨_,_,_,_,_,_,h⟩|⟨ws,h⟩;.exact h.good
 .obtain⟨_,_,_,_,_,_,h⟩:=h.rest;exact h.good
def Gh:zd:=vq JM kz (λ_ h=>h) (by constructor<;>omega) (λ_ _ h=>.inl h) (λ_ _ h=>h.good)
def Gi:zd:=vq (λf=>f= -1) kz (λf h=>by rw [h];constructor<;>omega) rfl (λ_ _ h=>.inl h) (λ_ _ h=>h.good)
end prog
end Go.Proofs.YtcoengihaobddaaGreatDoor
