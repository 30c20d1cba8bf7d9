/- Part 28 of 50 of a proof: Era2, Mng4 -/
import Derived.Test.YtcoengihaobddaaGreatDoorJe26
import Derived.Test.YtcoengihaobddaaGreatDoorJe27
set_option maxHeartbeats 8000000
set_option linter.unusedVariables false
set_option linter.unusedSimpArgs false
set_option maxRecDepth 8000
namespace Go.Proofs.YtcoengihaobddaaGreatDoor
namespace prog
open Go.ChangeShapes Go.WideShapes Go.ChangeAt Go.RowKit disk ref
open Go.MuLone
open law (zP za zD xm qr)
open keys (zg zd zq zl zh)
theorem Vk(w:World)(bs:Nat)(q:Option Nat)(j:zt w bs 0 q)(a:ByteArray)(l:Int)(o:a.size<=maxLen)(b:zh a.data.toList=false):
 Calls Tryz.prog 31 #[.pointer (some ⟨bs,0,none⟩),.string a,.int .i64 l] w λe w'=>e=.returned (.int .i64 2)/\zt w' bs 0 q/\Kept (λk=>k=bs) w w':=by
 change Hid _ at j b;go_enter_defers Tryz.func31,Tryz.ntmps31
 go_wp2_with (first
  |(go_at_call 47;refine(qj j).mono ?_;rintro e n ⟨rfl,c,d⟩;change Hid _ at c d)
  |(go_at_call 49;refine(keys.qu a n o).mono ?_;rintro e m ⟨rfl,g⟩;rw [g,b.out];clear g m))
 refine leaves_cons (f:= 48) (args:=#[.pointer (some ⟨bs,0,none⟩)]) (by simp) (by simp [go_sem]) ?_;refine(qh c).mono ?_;rintro e u' m ⟨rfl,rfl,i,h⟩;exact⟨_,results_tmp Tryz.results31 _ _ _,rfl,i,d.trans h iL⟩
theorem Dp(w:World)(bs:Nat)(j:zt w bs 0 none)(a:ByteArray)(l:Int)(o:a.size<=maxLen)(c:zh a.data.toList=true):
 Calls Tryz.prog 31 #[.pointer (some ⟨bs,0,none⟩),.string a,.int .i64 l] w λe w'=>e=.returned (.int .i64 8)/\zt w' bs 0 none/\Kept (λk=>k=bs) w w':=by
 change Hid _ at j c;go_enter_defers Tryz.func31,Tryz.ntmps31
 go_wp2_with (first
  |(go_at_call 47;refine(qj j).mono ?_;rintro e n ⟨rfl,b,d⟩;have p:=b.c2;change Hid _ at b d)
  |(go_at_call 49;refine(keys.qu a n o).mono ?_;rintro e m ⟨rfl,g⟩;rw [g,c.out];clear g m))
 refine leaves_cons (f:= 48) (args:=#[.pointer (some ⟨bs,0,none⟩)]) (by simp) (by simp [go_sem]) ?_;refine(qh b).mono ?_;rintro e u' m ⟨rfl,rfl,i,h⟩;exact⟨_,results_tmp Tryz.results31 _ _ _,rfl,i,d.trans h iL⟩
theorem Bt(w:World)(bs bd:Nat)(S:Nat->Prop)(D:Dk)(A:zt w bs 0 (some bd))(C:ze w bd S D)(M:¬S bs)(b:ByteArray)(g:Int)(O:b.size<=maxLen)(i:zh b.data.toList=true)(Q:Int->Dk->Option Nat->Prop)
 (o:∀w':World,zt w' bs 1 (some bd)->ze w' bd S D->Calls Tryz.prog 53 #[.pointer (some ⟨bs,0,none⟩),.agg #[.string b,.int .i64 g]] w' λe p=>∃c a q,e=.returned (.int .i64 c)/\gk w' p bs bd S a 1 q/\Q c a q):
 Calls Tryz.prog 31 #[.pointer (some ⟨bs,0,none⟩),.string b,.int .i64 g] w λe w'=>∃c a q,e=.returned (.int .i64 c)/\Q c a q/\gk w w' bs bd S a 0 q:=by
 have U:Hid (ze w bd S D):=C;have F:Hid (zh b.data.toList=true):=i;have R:Hid (∀j,S j->j≠bs):=λj r e=>M (by rw [<-e];exact r);have z:Hid (∀w':World,zt w' bs 1 (some bd)->ze w' bd S D->Calls Tryz.prog 53 #[.pointer (some ⟨bs,0,none⟩),.agg #[.string b,.int .i64 g]] w' λe p=>∃c a q,e=.returned (.int .i64 c)/\gk w' p bs bd S a 1 q/\Q c a q):=o;have P:=A.lt;change Hid _ at A;clear C i o;go_enter_defers Tryz.func31,Tryz.ntmps31
 go_wp2_with (first
  |(go_at_call 47;refine(qj A).mono ?_;rintro e d ⟨rfl,n,s⟩;have I:Hid (zt d bs 1 (some bd)):=n;have m:Hid (Kept (λk=>k=bs) w d):=s;have Y:d.cell? ⟨bs,2,none⟩=some (.pointer (some ⟨bd,0,none⟩)):=n.c2;clear n s)
  |(go_at_call 49;refine(keys.qu b d O).mono ?_;rintro e T ⟨rfl,u⟩;rw [u,F.out];clear u T)
  |(go_at_call 53;refine(z _ (by exact I) (by exact U.kept m R)).mono ?_;rintro e N ⟨c,a,q,rfl,t,y⟩;have J:Hid (gk d N bs bd S a 1 q):=t;have G:PLift (Q c a q):=⟨y⟩;clear t y))
 refine leaves_cons (f:= 48) (args:=#[.pointer (some ⟨bs,0,none⟩)]) (by simp) (by simp [go_sem]) ?_;obtain⟨B,⟨S',H,x⟩,L⟩:=J.out;refine(qh B).mono ?_;rintro e u' V ⟨rfl,rfl,K,v⟩;have X:=m.size;refine⟨_,results_tmp Tryz.results31 _ _ _,c,a,q,rfl,G.down,K,⟨S',H.kept v (λj r E=>?_),λj r=>?_⟩,?_⟩
 .rcases x j r with l|l;.exact M (by rw [<-show j=bs from E];exact l)
  .have W:j=bs:=E;omega
 .rcases x j r with l|l;.exact .inl l
  .exact .inr (by omega)
 .exact((m.mono (S':=λk=>S k\/k=bs) (λ_ h=>.inr h)).trans L iL).trans v (λ_ h=>.inl (.inr h))
end prog
namespace prog
open Go.RowKit disk ref
open law (zP za qr zD xm)
open keys (zh)
theorem gA.at_none{bs:List (List Value)}{V:zP}{c n:Nat}{m:List UInt8}{e:List En}{k:List Nat}{bo:Pl->List zv}(h:gA bs V c n m e k bo){a:ByteArray}{b:Int}(d:∀r∈e,r.pl≠⟨a,b⟩):qK V.vs a b=none:=by
 cases o:qK V.vs a b with
 |none=>rfl
 |some v=>
  obtain⟨p,g,j⟩:=jv o;obtain⟨f,i,rfl⟩:=h.ver j;have l:f.pl.key=a:=p;have q:f.pl.num=b:=g;exact absurd (by rw [<-l,<-q]) (d f i)
variable {Fu:Int->Prop} {Ho:List (List Value)->zP->Prop} {m1:∀f,Fu f->zs f} {m2:Fu (-1)} {m3:∀bs V,yX bs V->Ho bs V} {m4:∀bs V,Ho bs V->law.Good V}
theorem dI.wsok{D:Dk}{V:zP}{c n:Nat}{m:List UInt8}{j:List En}{o:List Nat}{bo:Pl->List zv}{p:Pl}{e:En}{a:Nat}{k:Ck}{m1:List UInt8}{r l:List Nat}{b:Ck}{m2:List UInt8}(h:dI D V c n m j o bo p e a k m1 r l b m2):Kf D.bs.length (b.put 1 (zo (zx a n))).ws:=by
 have q:1∈(b.put 1 (zo (zx a n))).keys:=(xO b 1 _ 1).2 (.inr rfl);have f:=mx q;rw [Ck.keys_len] at f;refine⟨xg h.shr.1.nodup 1 _,h.fits.2,f,λp i=>?_⟩;have g:p.1∈(b.put 1 (zo (zx a n))).keys:=av.2 ⟨p,i,rfl⟩;refine⟨h.klt _ g,?_⟩;rcases aj.1 (h.keys _ g) with d|d;.simp at d;omega
 .have:=(h.rep.range _ (ac _ (h.rem.sub _ d))).1;omega
def Wh(D:Dk)(V:zP)(key:ByteArray)(num:Int)(bd:Nat)(c:Int)(D':Dk)(q:Option Nat):Prop:=
 XR D D'/\∃kk:Int,0<=kk/\kk<=40/\((c=5/\q=some bd/\qK V.vs key num=none/\D'={D with reads:=D.reads+kk })\/
  ((∃v,qK V.vs key num=some v)/\BG D V (V.sub key num) bd c kk D' q))
theorem Wi(w:World)(bs bd:Nat)(S:Nat->Prop)(D:Dk)(T:zt w bs 1 (some bd))(ab:ze w bd S D)(U:¬S bs)(F:0<=D.reads)(ar:D.reads<=4611686018427340000)(d:D.ps=[])(J:zs D.fuse)(s:64<=D.bs.length)(V:zP)(al:V.n0<=2305843009213693952)(r:yX D.bs V)
 (g:ByteArray) (f:Int):
 Calls Tryz.prog 53 #[.pointer (some ⟨bs,0,none⟩),.agg #[.string g,.int .i64 f]] w λe w'=>∃c E q,e=.returned (.int .i64 c)/\gk w w' bs bd S E 1 q/\Wh D V g f bd c E q:=by
 have u:=r;obtain⟨a,n,m,ae,P,bo,l⟩:=r;have z:n<4611686018427387904:=by rw [l.n0] at al;omega
 have ag:=l.few;have p:yi (D.look 1) a n:=by have:=l.root;rw [<-yl d] at this;exact this
 have W:qP (D.look 2) m:=by have:=l.map;rw [<-yl d] at this;exact this
 have R:ZO D bA m:=⟨by rw [y7];exact W,rfl,List.nodup_nil⟩
 have N:=l.forest.congr (λj Z=>by
  show bA.look D (j:Nat)=_
  rw [y7,yl d])
 rcases Ji (w.heap.size+1) bd S (λj=>j=w.heap.size+1) D ⟨g,f⟩ bA m a ae P N (aX.1 l.nodup).1 (λj Z=>by have:=l.range j (ac _ Z);omega) l.len R (by show 0<100;omega) with⟨e,k,y,m1,aj,ak,b,i⟩|⟨ad,i⟩
 .obtain⟨ao,au,ah⟩:=l.pieces b.mem;have H:=l.body e b.mem;rcases hfree:xd ((bo e.pl).map zv.at_) (y,m1) with⟨O,m2⟩;have A:dI D V a n m ae P bo ⟨g,f⟩ e k y m1 aj ak O m2:=⟨l,d,s,b,hfree,z⟩;obtain⟨an,aa⟩:=A.fits;have G:e.pl.key=g/\e.pl.num=f:=by rw [b.at_];exact⟨rfl,rfl⟩
  have K:Rest D n e k y O m1 m2 (bo e.pl):=⟨b.cln,by have:=b.few;have aw:bA.ws.length=0:=rfl;omega,b.lt,H.chain.congr (λq Q=>by
   have B:=fO (bo:=bo) b.mem (av.2 ⟨q,Q,rfl⟩);have aq:=l.range q.at_ (af _ B);have I:q.at_∉P:=λo=>(aX.1 l.nodup).2.2 _ o _ B rfl;obtain⟨Y,_,C⟩:=b.tree;have x:=b.shr.look q.at_ (λo=>I (b.sub _ o)) (λo=>I (C.mem_iff.1 (af _ o))) (by omega);show y.look D (q.at_:Nat)=_
   rw [x,y7,yl d]),ao,H.head,ah,λq Q=>by
   have B:=fO (bo:=bo) b.mem (av.2 ⟨q,Q,rfl⟩);have aq:=l.range q.at_ (af _ B)
   omega,hfree,an,aa,A.klt⟩
  refine(bf w bs bd S D 1 T ab U F (by omega) d J s ag a n p z ⟨g,f⟩ e k y O m1 m2 (bo e.pl) _ true i (.inr ⟨rfl,rfl,K⟩)).mono ?_;rintro ax w' ⟨L,v,t,⟨h,_⟩|⟨_,c,x,o⟩⟩;.cases h
  .obtain⟨Y,X⟩:=A.rest;obtain⟨E,q,ap,am,ai⟩:=G1 d s u A.wsok ⟨_,_,_,_,_,_,X⟩ o;exact⟨c,E,q,x,ap,ai,L,v,t,.inr ⟨⟨_,l.at_yes b.mem G.1 G.2⟩,am⟩⟩
 .refine(bf w bs bd S D 1 T ab U F (by omega) d J s ag a n p z ⟨g,f⟩ dh a bA bA m m [] _ false i (.inl ⟨rfl,rfl⟩)).mono ?_;rintro ax w' ⟨L,v,t,⟨_,x,M⟩|⟨h,_⟩⟩;.exact⟨5,_,some bd,x,⟨T.kept M.kept U,M.disk,M.kept.mono iL⟩,XR.refl _ _,L,v,t,.inl ⟨rfl,rfl,l.at_none ad,rfl⟩⟩
  .cases h
theorem ZB(E:Fu 0->∀bs V,vC bs V->Ho bs V)(C:∀f,Fu f->Fu (qG f)):qr (ui Fu Ho m1 m2 m3 m4) where
 live:=λw bd bs S D V a b F l I=>by
  have o:=F.fuse;have r:=F.sto;have x:=F.disk;have n:=F.live.ps;have k:=F.live.rest;have A:=F.reads0;have L:=F.reads1;have j:=F.live.big
  cases d:zh a.data.toList with
  |false=>
   refine(Vk w bs (some bd) r a b l d).mono ?_;rintro e w' ⟨g,h,m⟩;exact⟨D,S,2,some bd,g,vB x F.apart o h m,⟨.inl ⟨by show (2:Int)≠0;decide,rfl,rfl,F.live⟩⟩⟩
  |true=>
   refine(Bt w bs bd S D r x F.apart a b l d (Wh D V a b bd) (λw' g h=>Wi w' bs bd S D g h F.apart A (by omega) n (m1 _ o) j V F.few k a b)).mono ?_;rintro e w' ⟨c,G,q,g,⟨y,z,K,J,p⟩,B⟩;have i:=y Fu C o;rcases p with⟨rfl,rfl,t,rfl⟩|⟨⟨v,t⟩,p⟩
   .rw [t];obtain⟨S',u⟩:=B.aft (D:=D) (by show D.reads<=D.reads+z;omega) (by show D.reads+z<=D.reads+40;omega) rfl i;exact⟨_,S',5,some bd,g,u,⟨.inl ⟨by show (5:Int)≠0;decide,rfl,rfl,⟨n,k,j⟩⟩⟩⟩
   .rw [t];obtain⟨H,M⟩:=p.same;obtain⟨S',u⟩:=B.aft (D:=D) (by omega) (by omega) H i;exact⟨G,S',c,q,g,u,p.chg E n j i⟩
 shut:=λw bs a b r l=>by
  have s:=r
  cases d:zh a.data.toList with
  |false=>exact(Vk w bs none s a b l d).mono (λe w' ⟨g,h,m⟩=>⟨g,h,m⟩)
  |true=>exact(Dp w bs s a b l d).mono (λe w' ⟨g,h,m⟩=>⟨g,h,m⟩)
theorem uZ:qr GZ:=ZB (λh=>Zn h) uk
end prog
end Go.Proofs.YtcoengihaobddaaGreatDoor
