/- Part 29 of 50 of a proof: Del1, Del2 -/
import Derived.Test.YtcoengihaobddaaGreatDoorJe27
set_option maxHeartbeats 8000000
set_option linter.unusedVariables false
set_option linter.unusedSimpArgs false
set_option maxRecDepth 8000
namespace Go.Proofs.YtcoengihaobddaaGreatDoor
namespace prog
open Go.ChangeShapes Go.WideShapes Go.ChangeAt Go.RowKit disk ref
open Go.MuLone
open law (zP za zD xm x8)
open keys (zg zd zq zl zh)
theorem Vl(w:World)(bs:Nat)(q:Option Nat)(j:zt w bs 0 q)(a:ByteArray)(n:a.size<=maxLen)(b:zh a.data.toList=false):
 Calls Tryz.prog 30 #[.pointer (some ⟨bs,0,none⟩),.string a] w λe w'=>e=.returned (.tuple #[.int .i64 0,.int .i64 2])/\zt w' bs 0 q/\Kept (λk=>k=bs) w w':=by
 change Hid _ at j b;go_enter_defers Tryz.func30,Tryz.ntmps30
 go_wp2_with (first
  |(go_at_call 47;refine(qj j).mono ?_;rintro e m ⟨rfl,c,d⟩;change Hid _ at c d)
  |(go_at_call 49;refine(keys.qu a m n).mono ?_;rintro e l ⟨rfl,g⟩;rw [g,b.out];clear g l))
 refine leaves_cons (f:= 48) (args:=#[.pointer (some ⟨bs,0,none⟩)]) (by simp) (by simp [go_sem]) ?_;refine(qh c).mono ?_;rintro e u' l ⟨rfl,rfl,i,h⟩;exact⟨_,results_tmp2 Tryz.results30 _ _ _,rfl,i,d.trans h iL⟩
theorem Dq(w:World)(bs:Nat)(j:zt w bs 0 none)(a:ByteArray)(n:a.size<=maxLen)(c:zh a.data.toList=true):
 Calls Tryz.prog 30 #[.pointer (some ⟨bs,0,none⟩),.string a] w λe w'=>e=.returned (.tuple #[.int .i64 0,.int .i64 8])/\zt w' bs 0 none/\Kept (λk=>k=bs) w w':=by
 change Hid _ at j c;go_enter_defers Tryz.func30,Tryz.ntmps30
 go_wp2_with (first
  |(go_at_call 47;refine(qj j).mono ?_;rintro e m ⟨rfl,b,d⟩;have o:=b.c2;change Hid _ at b d)
  |(go_at_call 49;refine(keys.qu a m n).mono ?_;rintro e l ⟨rfl,g⟩;rw [g,c.out];clear g l))
 refine leaves_cons (f:= 48) (args:=#[.pointer (some ⟨bs,0,none⟩)]) (by simp) (by simp [go_sem]) ?_;refine(qh b).mono ?_;rintro e u' l ⟨rfl,rfl,i,h⟩;exact⟨_,results_tmp2 Tryz.results30 _ _ _,rfl,i,d.trans h iL⟩
theorem Bu(w:World)(bs bd:Nat)(S:Nat->Prop)(D:Dk)(Z:zt w bs 0 (some bd))(H:ze w bd S D)(aa:¬S bs)(an:0<=D.reads)(aD:D.reads<=4611686018427350000)(g n:Nat)(ai:yi (D.look 1) g n)(a:ByteArray)(aw:a.size<=maxLen)(x:zh a.data.toList=true)(Y:List En)(I:List Nat)(hF:yo (λj=>D.look (j:Nat)) g Y I)(ad:I.length<=979)(hbs:∀j∈I,21<=j)(G:Option En)(am:(xn ⟨a,9223372036854775807⟩ Y).head? =G)(E:jH a G=true)(Q:Int->Int->Dk->Option Nat->Prop)
 (A:∀(w':World) (r:Int),D.reads<=r->r<=D.reads+14->zt w' bs 1 (some bd)->ze w' bd S {D with reads:=r}->Calls Tryz.prog 52 #[.pointer (some ⟨bs,0,none⟩),.string a,.slice none 0 0,.bool true] w' λe d=>∃v c b q,e=.returned (.tuple #[.int .i64 v,.int .i64 c])/\gk w' d bs bd S b 1 q/\Q v c b q):
 Calls Tryz.prog 30 #[.pointer (some ⟨bs,0,none⟩),.string a] w λe w'=>∃v c b q,e=.returned (.tuple #[.int .i64 v,.int .i64 c])/\Q v c b q/\gk w w' bs bd S b 0 q:=by
 have aA:Hid (ze w bd S D):=H;have af:Hid (zh a.data.toList=true):=x;have T:Hid (jH a G=true):=E;have ae:bs≠bd:=λe=>aa (by rw [e];exact H.bdS);have ao:Hid (∀j,S j->j≠bs):=λj B e=>aa (by rw [<-e];exact B);have aj:Hid (∀w',zt w' bs 1 (some bd)->ze w' bd S D->Calls Tryz.prog 50 #[.pointer (some ⟨bs,0,none⟩),.string a] w' λe d=>e=.returned (.tuple #[.agg (jP G).toArray,.bool (jH a G)])/\(∃r:Int,D.reads<=r/\r<=D.reads+14/\ze d bd S {D with reads:=r })/\Kept (λi=>i=bd) w' d):=λw' ay av=>xV w' bs bd S D 1 ay av aa an (by omega) g n ai a Y I hF ad hbs G am;have U:Hid (∀(w':World) (r:Int),D.reads<=r->r<=D.reads+14->zt w' bs 1 (some bd)->ze w' bd S {D with reads:=r}->Calls Tryz.prog 52 #[.pointer (some ⟨bs,0,none⟩),.string a,.slice none 0 0,.bool true] w' λe d=>∃v c b q,e=.returned (.tuple #[.int .i64 v,.int .i64 c])/\gk w' d bs bd S b 1 q/\Q v c b q):=A
 obtain⟨s,o,p,t,u,aq⟩:∃(s:ByteArray) (o:Int) (p:Bool) (t u:Int),jP G=[.string s,.int .i64 o,.bool p,.int .i64 t,.int .i64 u]:=by
  cases G with
  |none=>exact⟨_,_,_,_,_,rfl⟩
  |some aJ=>exact⟨_,_,_,_,_,rfl⟩
 have az:Hid (jP G=[.string s,.int .i64 o,.bool p,.int .i64 t,.int .i64 u]):=aq;have ax:=Z.lt;have F:=H.bdS;have V:Hid (S bd):=F;change Hid _ at Z;clear H ai hF hbs am x aq E A F;go_enter_defers Tryz.func30,Tryz.ntmps30
 go_wp2_with (first
  |(go_at_call 47;refine(qj Z).mono ?_;rintro e C ⟨rfl,m,O⟩;have y:Hid (Kept (λk=>k=bs) w C):=O;have aG:C.cell? ⟨bs,2,none⟩=some (.pointer (some ⟨bd,0,none⟩)):=m.c2;change Hid _ at m;clear O)
  |(go_at_call 49;refine(keys.qu a C aw).mono ?_;rintro e l ⟨rfl,K⟩;rw [K,af.out];clear K l)
  |(go_at_call 50;refine(aj C m (aA.kept y ao)).mono ?_;rintro e l ⟨rfl,⟨ar,W,ab,J⟩,N⟩;rw [az.out,T.out];have ah:Hid (ze l bd S {D with reads:=ar }):=J;have z:Hid (Kept (λi=>i=bd) C l):=N;clear J N)
  |(go_at_call 52;refine(U _ ar W ab (by exact(m.kept z ae).kept (Kept.alloc (λ_=>False) l (.cells #[.string s,.int .i64 o,.bool p,.int .i64 t,.int .i64 u] 109)) id) (by exact ah.kept (Kept.alloc (λ_=>False) l (.cells #[.string s,.int .i64 o,.bool p,.int .i64 t,.int .i64 u] 109)) nF)).mono ?_;rintro e aI ⟨v,c,b,q,rfl,P,M⟩;have ag:PLift (Q v c b q):=⟨M⟩;change Hid _ at P;clear M))
 refine leaves_cons (f:= 48) (args:=#[.pointer (some ⟨bs,0,none⟩)]) (by simp) (by simp [go_sem]) ?_;obtain⟨X,⟨S',ak,L⟩,ap⟩:=P.out;have au:=Kept.alloc (λ_=>False) l (.cells #[.string s,.int .i64 o,.bool p,.int .i64 t,.int .i64 u] 109);refine(qh X).mono ?_;rintro e u' aE ⟨rfl,rfl,al,R⟩;have aF:=y.size;have aB:=z.size;have aC:=au.size;refine⟨_,results_tmp2 Tryz.results30 _ _ _,v,c,b,q,rfl,ag.down,al,⟨S',ak.kept R (λj B ac=>?_),λj B=>?_⟩,?_⟩
 .rcases L j B with h|h;.exact ao j h ac
  .have aH:j=bs:=ac;omega
 .rcases L j B with h|h;.exact .inl h
  .exact .inr (by omega)
 .exact((((y.mono (S':=λk=>S k\/k=bs) (λ_ h=>.inr h)).trans z (λj h=>.inl (.inl (by rw [h];exact V)))).trans au fE).trans ap iL).trans R (λ_ h=>.inl (.inr h))
theorem Dr(w:World)(bs bd:Nat)(S:Nat->Prop)(D:Dk)(Y:zt w bs 0 (some bd))(G:ze w bd S D)(J:¬S bs)(W:0<=D.reads)(ah:D.reads<=4611686018427350000)(b n:Nat)(T:yi (D.look 1) b n)(a:ByteArray)(ac:a.size<=maxLen)(g:zh a.data.toList=true)(I:List En)(q:List Nat)(hF:yo (λj=>D.look (j:Nat)) b I q)(N:q.length<=979)(hbs:∀j∈q,21<=j)(p:Option En)(V:(xn ⟨a,9223372036854775807⟩ I).head? =p)(l:jH a p=false):
 Calls Tryz.prog 30 #[.pointer (some ⟨bs,0,none⟩),.string a] w λe w'=>e=.returned (.tuple #[.int .i64 0,.int .i64 5])/\zt w' bs 0 (some bd)/\(∃r:Int,D.reads<=r/\r<=D.reads+14/\ze w' bd S {D with reads:=r })/\Kept (λk=>k=bd\/k=bs) w w':=by
 have ag:Hid (ze w bd S D):=G;have Q:Hid (zh a.data.toList=true):=g;have H:Hid (jH a p=false):=l;have O:bs≠bd:=λe=>J (by rw [e];exact G.bdS);have X:Hid (∀j,S j->j≠bs):=λj ae e=>J (by rw [<-e];exact ae);have U:Hid (∀w',zt w' bs 1 (some bd)->ze w' bd S D->Calls Tryz.prog 50 #[.pointer (some ⟨bs,0,none⟩),.string a] w' λe E=>e=.returned (.tuple #[.agg (jP p).toArray,.bool (jH a p)])/\(∃r:Int,D.reads<=r/\r<=D.reads+14/\ze E bd S {D with reads:=r })/\Kept (λi=>i=bd) w' E):=λw' ad ab=>xV w' bs bd S D 1 ad ab J W (by omega) b n T a I q hF N hbs p V
 obtain⟨v,s,t,o,u,aa⟩:∃(v:ByteArray) (s:Int) (t:Bool) (o u:Int),jP p=[.string v,.int .i64 s,.bool t,.int .i64 o,.int .i64 u]:=by
  cases p with
  |none=>exact⟨_,_,_,_,_,rfl⟩
  |some ak=>exact⟨_,_,_,_,_,rfl⟩
 have af:Hid (jP p=[.string v,.int .i64 s,.bool t,.int .i64 o,.int .i64 u]):=aa;change Hid _ at Y;clear G T hF hbs V g aa l;go_enter_defers Tryz.func30,Tryz.ntmps30
 go_wp2_with (first
  |(go_at_call 47;refine(qj Y).mono ?_;rintro e d ⟨rfl,c,z⟩;have B:Hid (Kept (λk=>k=bs) w d):=z;have aj:d.cell? ⟨bs,2,none⟩=some (.pointer (some ⟨bd,0,none⟩)):=c.c2;change Hid _ at c;clear z)
  |(go_at_call 49;refine(keys.qu a d ac).mono ?_;rintro e m ⟨rfl,A⟩;rw [A,Q.out];clear A m)
  |(go_at_call 50;refine(U d c (ag.kept B X)).mono ?_;rintro e m ⟨rfl,⟨Z,K,L,x⟩,y⟩;rw [af.out,H.out];have R:Hid (ze m bd S {D with reads:=Z }):=x;have C:Hid (Kept (λi=>i=bd) d m):=y;clear x y))
 refine leaves_cons (f:= 48) (args:=#[.pointer (some ⟨bs,0,none⟩)]) (by simp) (by simp [go_sem]) ?_;have M:=Kept.alloc (λ_=>False) m (.cells #[.string v,.int .i64 s,.bool t,.int .i64 o,.int .i64 u] 109);refine(qh ((c.kept C O).kept M id)).mono ?_;rintro e u' ai ⟨rfl,rfl,P,F⟩;exact⟨_,results_tmp2 Tryz.results30 _ _ _,rfl,P,⟨Z,K,L,(R.kept M nF).kept F X⟩,(((B.mono (S':=λk=>k=bd\/k=bs) (λ_ h=>.inr h)).trans C (λ_ h=>.inl (.inl h))).trans M fE).trans F (λ_ h=>.inl (.inr h))⟩
theorem gA.bare{bs:List (List Value)}{V:zP}{e n:Nat}{m:List UInt8}{f:List En}{j:List Nat}{bo:Pl->List zv}(i:gA bs V e n m f j bo)(c:n<4611686018427387904)(a:ByteArray):kB V.vs a= !jH a (xn ⟨a,9223372036854775807⟩ f).head? :=by
 unfold kB
 cases d:(xn ⟨a,9223372036854775807⟩ f).head? with
 |none=>rw [i.new_no c (λk h=>by rw [d] at h;cases h)];rfl
 |some k=>
  by_cases b:k.pl.key=a
  .rw [i.new_yes c d b];simp [jH,b,xF]
  .rw [i.new_no c (λl g=>by rw [d] at g;cases g;exact b)];simp [jH,b]
variable {Fu:Int->Prop} {Ho:List (List Value)->zP->Prop} {m1:∀f,Fu f->zs f} {m2:Fu (-1)} {m3:∀bs V,yX bs V->Ho bs V} {m4:∀bs V,Ho bs V->law.Good V}
theorem Ds(ag:Fu 0->∀bs V,vC bs V->Ho bs V)(Z:∀f,Fu f->Fu (qG f)):x8 (ui Fu Ho m1 m2 m3 m4) where
 live:=λw bd bs S D V a F z=>by
  have y:Fu D.fuse:=F.fuse;have B:=F.sto;have E:=F.disk;have h:=F.live.ps;have s:=F.live.rest;obtain⟨l,n,m,I,G,bo,O⟩:=F.live.rest;have M:=F.reads0;have am:=F.reads1;have p:=F.live.big;have Y:n<4611686018427387904:=by have:=F.few;rw [O.n0] at this;omega
  cases b:zh a.data.toList with
  |false=>
   refine(Vl w bs (some bd) B a z b).mono ?_;rintro e w' ⟨d,i,o⟩;exact⟨D,S,2,0,some bd,d,vB E F.apart y i o,⟨.inl ⟨by show (2:Int)≠0;decide,rfl,rfl,F.live⟩⟩,rfl⟩
  |true=>
   have x:yi (D.look 1) l n:=by have:=O.root;rw [<-yl h] at this;exact this
   have C:yo (λj=>D.look (j:Nat)) l I G:=O.forest.congr (λj _=>yl h j);have A:∀j∈G,21<=j:=λj Q=>(O.range j (ac _ Q)).1;have g:=O.bare Y a
   cases k:jH a (xn ⟨a,9223372036854775807⟩ I).head? with
   |false=>
    rw [k] at g;rw [g];refine(Dr w bs bd S D B E F.apart M (by omega) l n x a z b I G C O.len A _ rfl k).mono ?_;rintro e w' ⟨d,i,⟨r,o,W,ad⟩,ah⟩;exact⟨{D with reads:=r},S,5,0,some bd,d,uj E y i o (by omega) ad ah,⟨.inl ⟨by show (5:Int)≠0;decide,rfl,rfl,⟨h,s,p⟩⟩⟩,rfl⟩
   |true=>
    rw [k] at g;rw [g];refine(Bu w bs bd S D B E F.apart M (by omega) l n x a z b I G C O.len A _ rfl k (λv c u q=>∃r:Int,D.reads<=r/\r<=D.reads+14/\BX {D with reads:=r} V a true [] bd v c u q) (λw' r d i o W=>?_)).mono ?_
    .refine(BH w' bs bd S {D with reads:=r} o W F.apart (by show 0<=r;omega) (by show r<=_;omega) h (m1 _ y) p V F.few s a b true (λ_=>False) none 0 [] (λ_=>rfl) (.inl rfl) (λj Q=>Q.elim) (by simp) (by simp) (by omega)).mono ?_;rintro e an ⟨v,c,u,q,af,ab,aa⟩;exact⟨v,c,u,q,af,ab,r,d,i,aa⟩
    .rintro e w' ⟨v,c,u,q,d,⟨r,J,ao,T,N,al,ak,H⟩,X⟩;have t:Fu u.fuse:=T Fu Z y;rcases H with⟨rfl,rfl,rfl,P,rfl⟩|⟨R,U,H⟩
     .obtain⟨S',J⟩:=X.aft (D:=D) (by show D.reads<=r+N;omega) (by show r+N<=D.reads+40;omega) rfl t;exact⟨_,S',6,0,some bd,d,J,⟨.inr (.inr (.inl ⟨rfl,rfl,rfl,⟨h,s,p⟩,P⟩))⟩,rfl⟩
     .obtain⟨ai,ae⟩:=H.same;have aj:u.reads=r+N:=ae;obtain⟨S',J⟩:=X.aft (D:=D) (by omega) (by omega) ai t;refine⟨u,S',c,v,q,d,J,BG.chg (D1:={D with reads:=r }) ag h p t H,?_⟩;by_cases K:c=0;.rw [aB K];exact R K
      .rw [az K];exact U K
 shut:=λw bs a B z=>by
  have L:=B
  cases b:zh a.data.toList with
  |false=>exact(Vl w bs none L a z b).mono (λe w' ⟨d,i,o⟩=>⟨d,i,o⟩)
  |true=>exact(Dq w bs L a z b).mono (λe w' ⟨d,i,o⟩=>⟨d,i,o⟩)
theorem Yx:x8 GZ:=Ds (λh=>Zn h) uk
end prog
end Go.Proofs.YtcoengihaobddaaGreatDoor
