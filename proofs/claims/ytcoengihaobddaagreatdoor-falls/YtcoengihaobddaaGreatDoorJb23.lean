/- Part 23 of 36 of a proof: BWrite1, Root1, Tr5, Walk1, Walk2, Walk3, Sto1 -/
import Derived.Test.YtcoengihaobddaaGreatDoorJb22
import Derived.Test.YtcoengihaobddaaGreatDoorJb21
import Derived.Laws.CopyRow
set_option maxHeartbeats 8000000
set_option linter.unusedVariables false
set_option linter.unusedSimpArgs false
set_option maxRecDepth 8000
namespace Go.Proofs.YtcoengihaobddaaGreatDoor
namespace prog
open Go.RowKit disk ref
variable {l m:List UInt8}{N:Nat}{C:Ck}
def xK(l:List UInt8)(i:Nat):List UInt8:=(l.drop i).take (min 124 (l.length-i))
def zV(l:List UInt8):List (List UInt8):=(qS l.length).map (xK l)
theorem yS(l:List UInt8):(zV l).length=(l.length+123)/124:=by simp [zV,kg]
theorem uk{i:Nat}(h:i<=l.length):(xK l i).length=min 124 (l.length-i):=by simp [xK]
theorem gV(l:List UInt8)(k:Nat)(h:k<(zV l).length):(zV l)[k]=xK l (k*124):=by simp [zV,qS]
theorem vh(l:List UInt8):∀k,(((List.range k).map λj=>xK l (j*124))).flatten=l.take (k*124)
 |0=>by simp
 |k+1=>by
  rw [List.range_succ,eh,eV,vh l k];simp only [aO,ig,aU,lG,aM];rw [eJ,iU,List.take_add];congr 1;unfold xK;by_cases h:l.length-k*124<=124;.rw [Nat.min_eq_right h,an (by simp),an (by simp;omega)]
  .rw [a8 (by omega)]
theorem Yg(l:List UInt8):(zV l).flatten=l:=by
 have:=vh l ((l.length+123)/124);rw [an (by omega)] at this
 conv=>rhs;rw [<-this]
 simp only [zV,qS,ln];rfl
theorem bm:∀p∈zV l,1<=p.length/\p.length<=124:=λp b=>by
 obtain⟨k,a,rfl⟩:=ed b;rw [gV];rw [yS] at a;rw [uk (by omega)];omega
def uU(N:Nat)(l:List UInt8)(s:Nat×Ck×List UInt8):Nat×Ck×List UInt8:=((s.2.1.take N s.2.2).1,(s.2.1.take N s.2.2).2.1.put (s.2.1.take N s.2.2).1 (zl (qp s.1 l)),(s.2.1.take N s.2.2).2.2)
def Ck.body(C:Ck)(N:Nat)(m:List UInt8):List (List UInt8)->Nat×Ck×List UInt8
 |[]=>(0,C,m)
 |l::r=>uU N l (C.body N m r)
theorem Ky(C:Ck)(N:Nat)(m l:List UInt8)(r:List (List UInt8)):C.body N m (l::r)=uU N l (C.body N m r):=rfl
theorem Yh{f a:Nat}{c b:Ck}{d e:List UInt8}(h2:c.take N d=(a,b,e)):uU N l (f,c,d)=(a,b.put a (zl (qp f l)),e):=by
 unfold uU;generalize zl (qp f l)=v;rw [h2]
theorem gW{b c:Ck}{d e:List UInt8}{r:List (List UInt8)}{f a:Nat}(g:C.body N m r=(f,b,d))(h2:b.take N d=(a,c,e)):C.body N m (l::r)=(a,c.put a (zl (qp f l)),e):=by
 rw [Ky,g,Yh h2]
theorem bn{D:Dk}(h:qF (C.look D 2) m)(t:N<=1000)(g:List (List UInt8)):∀(f:Nat) (a:Ck) (b:List UInt8),C.body N m g=(f,a,b)->qF (a.look D 2) b/\a.ws.length<=C.ws.length+2*g.length/\f<65536:=by
 induction g with
 |nil=>
  intro f a b e;have k:(0,C,m)=(f,a,b):=e;simp only [eS] at k;obtain⟨rfl,rfl,rfl⟩:=k;exact⟨h,by simp,by decide⟩
 |cons l r q=>
  intro f a b e;rcases h1:C.body N m r with⟨j,c,d⟩;rcases h2:c.take N d with⟨p,s,u⟩;rw [gW h1 h2] at e;simp only [eS] at e;obtain⟨rfl,rfl,rfl⟩:=e;obtain⟨k1,k2,k3⟩:=q j c d h1;have i:=k1.take N;have o:=UX c N d;have n:=uP c N d;rw [h2] at i o n;simp only at i o n;refine⟨i.put _ _ (by omega),?_,by omega⟩;have:=qw s p (zl (qp j l));rw [ae];omega
structure Jv (D:Dk) (C C':Ck) (m m':List UInt8) (f:Nat) (ls:List (List UInt8)) (nb:List Nat):Prop where
 chn:XC D C' m'
 stp:bZ D C C' m m' [] nb
 nl:nb.length<=ls.length
 chain:C'.full=false->∃ps,yZ (λj=>C'.look D (j:Nat)) ps/\xo ps=f/\ps.map zv.l=ls/\(ps.map zv.at_).Perm nb
theorem V2{D:Dk}(h:XC D C m)(k:D.bs.length<=1000):∀(n:List (List UInt8)) (f:Nat) (i:Ck) (c:List UInt8),(∀p∈n,p.length<=124)->C.body D.bs.length m n=(f,i,c)->∃g,Jv D C i m c f n g
 |[],f,i,c,_,e=>by cases e;exact⟨[],h,bZ.refl D C m,by simp,λ_=>⟨[],eI,rfl,rfl,eR _⟩⟩
 |l::r,f,i,c,hl,e=>by
  rcases h1:C.body D.bs.length m r with⟨A,q,s⟩;obtain⟨g,o⟩:=V2 h k r A q s (λp b=>hl p (am _ b)) h1;obtain⟨J,v,K,y,z,a⟩:=uS o.chn k;rw [gW h1 z] at e;cases e;have j:=a.lt k;have st:=o.stp.trans a.stp;rw [aM] at st;refine⟨g++y,a.chn.put j.2 _,st.taken _ (a.mem.imp (av _) id),by have:=o.nl;have:=a.len;simp;omega,λd=>?_⟩;rw [qI] at d;rcases a.is with⟨rfl,k1,k2,_⟩|⟨_,_,k1⟩
  .obtain⟨ps,H,G,B,t⟩:=o.chain (a.stp.unfull d)
   have x:∀p∈ps,p.at_≠f/\21<=p.at_:=λp b=>by
    have u:p.at_∈g:=t.mem_iff.1 (au.2 ⟨p,b,rfl⟩);have w:=o.stp.grew.fresh _ u;have I:zT s (p.at_-21)=true:=by rw [o.stp.grew.taken,show p.at_-21+21=p.at_ from by omega];simp [u]
    exact⟨λE=>a.stp.grew.apart I (by rw [E];simp),w.1⟩
   refine⟨⟨f,l⟩::ps,⟨⟨j.1,by show f≠0;omega,hl l (al ..)⟩,?_,H.congr (λp b=>?_)⟩,rfl,by rw [aO,B],?_⟩
   .show (v.put f _).look D f=_;rw [qn,G]
   .obtain⟨F,L⟩:=x p b;show (v.put f _).look D (p.at_:Nat)=q.look D (p.at_:Nat);rw [zZ _ _ _ _ _ (by omega)];exact a.stp.look _ (λh=>nomatch h) (by rw [az];exact F) (by omega) (by omega)
   .rw [aO];exact(t.cons f).trans (eM (l₁:=[f]))
  .rw [k1] at d;cases d
def Dn(args:Array Value):Sem Value:=Builtin.copy_ #[35, 35] 3 args
theorem GC(args:Array Value):Builtin.copy_ #[35, 35] 3 args=Dn args:=rfl
theorem U1(w:World)(b:Nat)(t:TypeId)(l:List UInt8)(h:yK w b t l)(m c:Nat)(p:List UInt8)(x:m+p.length<=l.length)(P:Nat->Prop)(g i f:Nat)(n:zO w P (some ⟨g,i,none⟩) p):
 ∃w',(Dn #[.slice (some ⟨b,m,none⟩) p.length c,.slice (some ⟨g,i,none⟩) p.length f]).run Tryz.prog w=.ok (goInt p.length) w'/\yK w' b t (qG l m p)/\za (λi=>i=b) w w':=by
 have d:=run_copy_row Tryz.prog w 35 35 3 5 b m p.length c ⟨g,i,none⟩ p.length f (l.map qy).toArray t (p.map qy) Tryz.underlying35 Jl h.at_ (by simp) (λj v o=>by
  obtain⟨a,rfl⟩:=et.1 o;simp only [ez] at a;rcases n with r|⟨b',y,u,_,_,q⟩;.rw [r] at a;simp at a
  .cases u
   rw [eO];simpa [qy] using q j a) (by simp;omega) (vr p)
 rw [ez] at d;refine⟨_,d,⟨?_⟩,⟨rfl,rfl,rfl,by simp,λk _ s=>setRow_other w b k _ (λe=>s (by rw [e]))⟩⟩;rw [setRow_heap w b _ _ t _ h.at_];congr 2;unfold qG;simp [iP,ms]
end prog
namespace prog
open Go.ChangeShapes Go.WideShapes Go.ChangeAt Go.RowKit disk ref
open keys (zh zd zx zq)
def zw(tree n:Nat):Pg:=⟨2,tree,[bytesOf 8 n]⟩
theorem gX{a n:Nat}(h:a<65536):(zw a n).Ok:=⟨by simp [zw],h,λi b=>by simp [zw] at b;rw [b,zP];rfl,by simp [zw,zk],by simp [zw]⟩
structure qT (b:List Value) (tree n:Nat):Prop where
 is:b=zl (zw tree n)\/(b=zl (Pg.new 0)/\tree=0/\n=0)
 tree:tree<65536
 num:n<9223372036854775808
structure GD (p:Pg) (tree n:Nat):Prop where
 ok:p.Ok
 link:p.link=tree
 len:p.items.length*zk p.kind<=8
 num:numOf ((p.bytes.drop 4).take (p.items.length*zk p.kind))=n
theorem qT.page{b:List Value}{a n:Nat}(h:qT b a n):∃p,b=zl p/\GD p a n:=by
 rcases h.is with rfl|⟨rfl,rfl,rfl⟩
 .have c:=gX (n:=n) h.tree;refine⟨_,rfl,c,rfl,by simp [zw,zk],?_⟩;rw [c.all];have:=h.num;simp only [zw,aU,lG,aM]
  exact yn _ _ (by have:(256:Nat)^8=18446744073709551616:=by decide
                   omega)
 .exact⟨_,rfl,Pg.new_ok 0 (by omega),rfl,by simp [Pg.new],by simp [Pg.new,numOf]⟩
theorem uV(w:World)(T:TypeId)(f:FuncId)(a:Addr)(A:VJ T f a)(X:Nat->Prop)(ad:World->Prop)(g n:Nat)(b:List Value)(D:qT b g n)
 (o:∀F,za (λ_=>False) w F->Calls Tryz.prog f #[.pointer (some a),.int .i64 1] F λe c=>e=.returned (.agg b.toArray)/\za X F c/\ad c) (M:∀i,X i->i<w.heap.size):
 Calls Tryz.prog 74 #[.iface T (.pointer (some a))] w λe w'=>e=.returned (.agg #[.int .i64 (g:Int),.int .i64 (n:Int)])/\∃c,za X w c/\ad c/\za (λi=>w.heap.size<=i) c w':=by
 obtain⟨p,rfl,k⟩:=D.page;have C:=D.num;clear D;obtain⟨t,u,aj⟩:∃t:List Value,t=zW/\∀w,(zeroValue 154).run Tryz.prog w=.ok (.agg t.toArray) w:=⟨zW,rfl,zX Tryz.infoPage⟩;have L:Hid (zS t):=by rw [u];exact zG
 clear u;have V:Hid _:=zY Tryz.infoPage;have N:=A.meth;have Y:=A.ent;have r:Hid _:=yc k.ok;have y:Hid (za (λ_=>False) w (w.alloc (.cells #[.int .i64 0,.int .i64 0] 145))):=za.alloc _ _ _;change Hid _ at k o M;go_enter Tryz.func74,Tryz.ntmps74;go_wp2_with fail;refine(o _ y).mono ?_;rintro e c ⟨rfl,l,J⟩;change Hid _ at l J
 go_wp2_with (first
  |(show wpList _ _ _ ({dst:=none,op:=.store _ (.tmp 3) (.tmp 5),type:=_,pos:=_,after:=_,guard:=_}::_) _ _;refine zi rfl 154 (.tmp 3) (.tmp 5) rfl _ _ (zl p) (by simp) rfl rfl (by rw [r.1];exact V) (by rw [aq,L.1,r.1]) r.2 ?_;have E:Hid (qP (c.alloc (.cells (zl p).toArray 154)) c.heap.size p):=⟨⟨ac c _⟩,k.ok⟩)
  |(go_at_call 126;refine(QI _ _ _ E).mono ?_;rintro e d ⟨rfl,rfl⟩;rw [k.link]))
 have ab:w.heap.size+1<=c.heap.size:=by have:=l.size;simpa using this
 have H:Hid (c.heap[w.heap.size]? =some (.cells #[.int .i64 0,.int .i64 0] 145 (0,0))):=(l.block _ (by simp) (λU=>by have:=M.out _ U;omega)).trans (ac w _);have z:Hid (za (λ_=>False) c (c.alloc (.cells (zl p).toArray 154))):=za.alloc _ _ _;have Z:(c.alloc (.cells (zl p).toArray 154)).heap.size=c.heap.size+1:=by simp
 generalize (c.alloc (.cells (zl p).toArray 154))=I at*;refine(je I _ p E).mono ?_;rintro e d ⟨rfl,ah,B⟩;have m:Hid (za (λ_=>False) I d):=by rw [B];exact kD
 clear B;have G:Hid _:=E.kept m id;have P:=m.size;unfold xX;have s:=k.len;have O:Hid _:=k.ok.len;generalize K:p.items.length*zk p.kind=q at*;change Hid _ at K;go_wp2_with fail;refine(yx d _ _ _ G.bs 4 q 124 n (by rw [O.out];omega) s (by rw [<-K.out];exact k.num) C).mono ?_;rintro e R ⟨rfl,x⟩;rw [x];clear x R;have h:Hid (d.heap[w.heap.size]? =_):=(m.block _ (by omega) id).trans ((z.block _ (by omega) id).trans H);have af:d.cell? ⟨w.heap.size,0,none⟩=some (.int .i64 0):=cR h.out rfl;have ak:d.cell? ⟨w.heap.size,1,none⟩=some (.int .i64 0):=cR h.out rfl;have ag:=aa d w.heap.size 0 _ _ h.out;have ae:=aa d w.heap.size 1 _ _ h.out;go_wp2;have W:=heap_setCell_same d w.heap.size 0 _ _ (.int .i64 (g:Int)) h.out;have Q:=heap_setCell_same _ w.heap.size 1 _ _ (.int .i64 (n:Int)) W;have k1:za (λj=>j=w.heap.size) d ((d.setCell ⟨w.heap.size,0,none⟩ (.int .i64 (g:Int))).setCell ⟨w.heap.size,1,none⟩ (.int .i64 (n:Int))):=(za.setCell (S:=λj=>j=w.heap.size) d ⟨w.heap.size,0,none⟩ _ rfl).trans (za.setCell (S:=λj=>j=w.heap.size) _ ⟨w.heap.size,1,none⟩ _ rfl) iL;refine bodyPost_ret (v:=.agg #[.int .i64 (g:Int),.int .i64 (n:Int)]) (results_cell_row Tryz.results74 _ _ w.heap.size 145 _ (0,0) _ rfl Q Tryz.underlying145 rfl (by kernel_rfl)) rfl ⟨rfl,c,(y.mono fE).trans l iL,J,?_⟩;exact(((z.trans m iL).mono fE).trans k1 (λj ai=>.inl (by omega)))
theorem Kz(w:World)(bd:Nat)(S:Nat->Prop)(D:Dk)(h:zg w bd S D)(m:0<=D.reads)(l:D.reads<=4611686018427387904)(a n:Nat)(p:qT (D.look 1) a n):
 Calls Tryz.prog 74 #[.iface 29 (.pointer (some ⟨bd,0,none⟩))] w λe w'=>e=.returned (.agg #[.int .i64 (a:Int),.int .i64 (n:Int)])/\zg w' bd S {D with reads:=D.reads+1}/\za (λi=>i=bd) w w':=by
 have k:=h.lt;have g:=k bd h.bdS;refine(uV w 29 81 ⟨bd,0,none⟩ (gK _) (λi=>i=bd) (λb=>w.heap.size<=b.heap.size/\zg b bd S {D with reads:=D.reads+1 }) a n _ p (λr c=>?_) (λi f=>by rw [f];exact g)).mono ?_
 .refine(jk r bd S D (h.kept c nF) 1 (by constructor<;>omega) m l).mono ?_;rintro e b ⟨rfl,d,h2⟩;exact⟨rfl,h2,aD c.size h2.size,d⟩
 .rintro e w' ⟨rfl,b,d,⟨t,h2⟩,o⟩;refine⟨rfl,h2.kept o (λi f s=>?_),d.trans o (λj q=>.inr q)⟩;have:=k i f;omega
theorem Zd(w:World)(b bd:Nat)(S T:Nat->Prop)(D:Dk)(C:Ck)(h:Cw w b bd S T D C)(q:0<=D.reads)(p:D.reads<=4611686018427387904)(a n:Nat)(r:qT (C.look D 1) a n):
 Calls Tryz.prog 74 #[.iface 142 (.pointer (some ⟨b,0,none⟩))] w λe w'=>e=.returned (.agg #[.int .i64 (a:Int),.int .i64 (n:Int)])/\(∃k:Int,0<=k/\k<=1/\Cw w' b bd S T {D with reads:=D.reads+k} C)/\za (λi=>i=bd) w w':=by
 have o:=h.disk.lt;have x:=h.chg.lt;have m:=o bd h.disk.bdS;refine(uV w 142 192 ⟨b,0,none⟩ (dO _) (λi=>i=bd) (λd=>w.heap.size<=d.heap.size/\∃k:Int,0<=k/\k<=1/\Cw d b bd S T {D with reads:=D.reads+k} C) a n _ r (λt f=>?_) (λi c=>by rw [c];exact m)).mono ?_
 .refine(j9 t b bd S T D C (h.kept0 f) 1 (by constructor<;>omega) q p).mono ?_;rintro e d ⟨rfl,g,h2⟩;exact⟨rfl,h2,aD f.size h2.size,g⟩
 .rintro e w' ⟨rfl,d,g,⟨z,k,h2,y,v⟩,l⟩;refine⟨rfl,⟨k,h2,y,v.kept l (λi c u=>?_) (λi c u=>?_)⟩,g.trans l (λj s=>.inr s)⟩;.have:=o i c;omega
  .have:=x i c;omega
end prog
namespace prog
open ref
variable {l:List En}
def yP(p:Pl)(l:List En):List En:=l.filter λx=> !x.pl.lt p
theorem kH(p:Pl)(A B:List En):yP p (A++B)=yP p A++yP p B:=by simp [yP]
theorem V3{p:Pl}(h:∀a∈l,a.pl.lt p=true):yP p l=[]:=iA.2 (λa b=>by rw [h a b];simp)
theorem ZU{p:Pl}(h:∀a∈l,a.pl.lt p=false):yP p l=l:=eU.2 (λa b=>by rw [h a b];rfl)
theorem V5(h:yL l)(p:Pl):l.drop (zt l p)=yP p l:=(h.cut p).2
theorem Kids.walk{h:Nat}{a:List (Pl×Tr h)}(k:Kids a)(r:a≠[])(p:Pl)(c:Nat)(n:c=zH (a.map λc=>(⟨c.1,false,0,c.2.blk⟩:En)) p):
 yP p (zI a)=yP p (zI (a.drop c))/\∃q t B,a.drop c=(q,t)::B/\(q,t)∈a/\∀b∈B,b∈a/\∀g∈b.2.ents,g.pl.lt p=false:=by
 obtain⟨A,q,t,B,rfl,l,m,u⟩:=k.child r p;obtain⟨v,y,s,x,z,w,o⟩:=k.mid;rw [<-n] at l;have i:(A++(q,t)::B).drop c=(q,t)::B:=by rw [<-l];exact iS
 refine⟨?_,q,t,B,i,by simp,λb f=>⟨by simp [f],λg d=>?_⟩⟩
 .rw [i,zA,kH]
  have:yP p (zI A)=[]:=V3 (λg d=>by
   have j:A≠[]:=λe=>by rw [e] at d;simp [zI] at d
   exact Pl.lt_of_lt_not (s g d) (m j))
  rw [this,aK]
 .cases h2:g.pl.lt p with
  |false=>rfl
  |true=>exact absurd (Pl.trans h2 (u b f)) (o b f g d)
def KA:List (Nat×Bool)->Nat
 |[]=>0
 |x::l=>x.1+if x.2 then KA l else 0
def Tr.fy(p:Pl):{h:Nat}->Tr h->Nat
 |0,_=>1
 |h+1,t=>1+KA ((t.2.drop (zH (Tr.items (h:=h+1) t) p)).map λc=>(Tr.fy p (h:=h) c.2,(yP p c.2.ents).isEmpty))
theorem uW(n:Nat)(b:Bool)(l:List (Nat×Bool)):KA ((n,b)::l)=n+if b then KA l else 0:=rfl
theorem Tr.fy_succ{h:Nat}(p:Pl)(t:Tr (h+1)):t.fy p=1+KA ((t.2.drop (zH t.items p)).map λc=>(c.2.fy p,(yP p c.2.ents).isEmpty)):=rfl
theorem bq{b:En}(h:b∈l):l.isEmpty=false:=by cases l with
 |nil=>cases h
 |cons a l=>rfl
theorem Tr.Good.fy_all:∀{h:Nat} {t:Tr h} (p:Pl),t.Good->1<=t.items.length->(∀f∈t.ents,f.pl.lt p=false)->t.fy p<=h+1
 |0,t,p,_,_,_=>aF 1
 |h+1,t,p,g,hl,ha=>by rw [yI] at hl;obtain⟨_,q,u,B,j,d,l⟩:=g.kids.walk (λe=>by rw [e] at hl;simp at hl) p _ rfl;have i:u.Good:=(g.kids.good _ d).1;have k:3<=u.items.length:=g.full _ d;have a:∀f∈u.ents,f.pl.lt p=false:=λf b=>ha f (vz d b);obtain⟨f,b⟩:=i.some_ent (by omega);have:=i.fy_all p (by omega) a;rw [Tr.fy_succ];show 1+KA (((t.2.drop (zH (t.2.map λc=>(⟨c.1,false,0,c.2.blk⟩:En)) p))).map _)<=_;rw [j,aO,uW,aw (by rw [ZU a,bq b];simp)];show 1+(u.fy p+0)<=_;omega
theorem Tr.Good.fy_none:∀{h:Nat} {t:Tr h} (p:Pl),t.Good->1<=t.items.length->yP p t.ents=[]->t.fy p<=h+1
 |0,t,p,_,_,_=>aF 1
 |h+1,t,p,g,hl,ha=>by
  rw [yI] at hl;obtain⟨n,q,u,B,i,l,o⟩:=g.kids.walk (λe=>by rw [e] at hl;simp at hl) p _ rfl;rw [Tr.ents_succ,n,i,zr,kH,iV] at ha;have m:u.Good:=(g.kids.good _ l).1;have s:3<=u.items.length:=g.full _ l;have:=m.fy_none p (by omega) ha.1
  have k:B=[]:=by
   cases B with
   |nil=>rfl
   |cons b B=>
    obtain⟨a,j⟩:=o b (al ..);have r:=g.full _ a;obtain⟨v,d⟩:=(g.kids.good _ a).1.some_ent (by omega);have f:yP p (zI (b::B))=[]:=ha.2;rw [zr,kH,iV,ZU j] at f;rw [f.1] at d;cases d
  rw [Tr.fy_succ];show 1+KA (((t.2.drop (zH (t.2.map λc=>(⟨c.1,false,0,c.2.blk⟩:En)) p))).map _)<=_;rw [i,k,aO,uW,ig];simp only [KA];split<;>omega
theorem Tr.Good.fy_le:∀{h:Nat} {t:Tr h} (p:Pl),t.Good->1<=t.items.length->t.fy p<=2*h+1
 |0,t,p,_,_=>aF 1
 |h+1,t,p,g,hl=>by
  rw [yI] at hl;obtain⟨s,q,u,B,m,j,n⟩:=g.kids.walk (λe=>by rw [e] at hl;simp at hl) p _ rfl;have i:u.Good:=(g.kids.good _ j).1;have w:3<=u.items.length:=g.full _ j;have o:u.fy p<=2*h+1:=i.fy_le p (by omega);rw [Tr.fy_succ];show 1+KA (((t.2.drop (zH (t.2.map λc=>(⟨c.1,false,0,c.2.blk⟩:En)) p))).map _)<=_;rw [m,aO,uW]
  cases l:(yP p u.ents).isEmpty with
  |false=>simp;omega
  |true=>
   have h2:u.fy p<=h+1:=i.fy_none p (by omega) (List.isEmpty_iff.1 l);rw [aB rfl]
   cases B with
   |nil=>simp [KA];omega
   |cons b B=>
    obtain⟨d,f⟩:=n b (al ..);have v:=g.full _ d;have a:=(g.kids.good _ d).1;obtain⟨x,k⟩:=a.some_ent (by omega);have r:=a.fy_all p (by omega) f;rw [aO,uW,aw (by rw [ZU f,bq k];simp)];show 1+(u.fy p+(b.2.fy p+0))<=_;omega
end prog
namespace prog
open Go.ChangeShapes Go.WideShapes Go.ChangeAt Go.RowKit disk ref
open keys (zh zd zx zq)
variable {k:Int}{h bs:Nat}{w:World}{q:Option Nat}
structure V6 (R1 R2:Int) (all:List En) (r:Int) (pre:List En) (x:En):Prop where
 le:r<=R2
 first:pre=[]->r<=R1
 pre:(pre++[x])<+:all
structure dp (l:Nat) (J:Int->List En->(Nat->Prop)->World->Prop) (Jx:Int->List En->World->Prop) (B bd:Nat) (S:Nat->Prop) (D:Dk) (R1 R2:Int) (all:List En):Prop where
 inv:∀r pre Q A,J r pre Q A->zg A bd S {D with reads:=r}/\∀k,Q k->k<A.heap.size
 stp:∀r r' pre Q A A',J r pre Q A->r<=r'->za (λk=>k=bd) A A'->zg A' bd S {D with reads:=r'}->J r' pre Q A'
 yld:∀m r pre x Q A,J r pre Q A->V6 R1 R2 all r pre x->YieldAt Fence.wide m Tryz.prog l #[.agg (qr x).toArray] A (VZ J Jx B r (pre++[x]) Q A)
 bdB:bd<B
def jy(J:Int->List En->(Nat->Prop)->World->Prop)(Jx:Int->List En->World->Prop)(B:Nat)(W:World)(r:Int)(pre:List En)(Q:Nat->Prop)(y:List En)(n f:Nat)(e:Ending)(W':World):Prop:=
 (e=.returned (.bool true)/\∃(r':Int) (Q':Nat->Prop),r<=r'/\r'<=r+n/\(y=[]->r'<=r+f)/\J r' (pre++y) Q' W'/\za (λk=>k<B\/Q k) W W'/\∀k,Q' k->Q k\/W.heap.size<=k)\/(e=.returned (.bool false)/\∃r' q,Jx r' q W')
theorem KB(l:Nat)(ap:Int->List En->(Nat->Prop)->World->Prop)(aL:Int->List En->World->Prop)(B bd:Nat)(S:Nat->Prop)(D:Dk)(aP aq:Int)(ah:List En)(af:dp l ap aL B bd S D aP aq ah)(bJ:aq<=4611686018427380000)
 (s:World) (r:Int) (pre:List En) (Q:Nat->Prop) (aO:ap r pre Q s) (bL:B<=s.heap.size) (p:Pl) (W:Nat) (bn:W<65536) (c:List En) (aG:∀e∈c,e.Ok) (ax:0<c.length) (aS:c.length<=6) (aK:yL c) (bj:D.look W=zl (zc 5 c))
 (bf:0<=r) (bl:r+1<=aq) (a8:pre=[]->r+1<=aP) (aV:(pre++yP p c)<+:ah):
 Calls Tryz.prog 191 #[.iface 29 (.pointer (some ⟨bd,0,none⟩)),.int .i64 W,.agg #[.string p.key,.int .i64 p.num],.func (.yield l) #[] #[]] s (jy ap aL B s r pre Q (yP p c) 1 1):=by
 have aY:Hid (∀e∈c,e.Ok):=aG;have av:=(af.inv r pre Q s aO).1;have bp:Hid (zg s bd S {D with reads:=r }):=av;obtain⟨aw⟩:Nonempty (PLift (ap r pre Q s)):=⟨⟨aO⟩⟩;have bK:=av.lt bd av.bdS;change Hid _ at af aK bj;clear aG aO av;go_enter Tryz.func191,Tryz.ntmps191;go_wp2_with fail;have X:Hid (za (λ_=>False) s (s.alloc (.cells #[.string p.key,.int .i64 p.num] 107))):=za.alloc _ _ _;have ay:Hid ((s.alloc (.cells #[.string p.key,.int .i64 p.num] 107)).heap[s.heap.size]? =some (.cells #[.string p.key,.int .i64 p.num] 107 (0,0))):=ac s _;have bC:(s.alloc (.cells #[.string p.key,.int .i64 p.num] 107)).heap.size=s.heap.size+1:=by simp
 generalize (s.alloc (.cells #[.string p.key,.int .i64 p.num] 107))=aN at*;refine(cY aN bd S _ (bp.kept X nF) bf (by show r<=_;omega) W bn 5 c (.inr rfl) aY (λh=>absurd h (by decide)) aS bj).mono ?_;rintro F f ⟨a,m,rfl,az,E,J,I,aR⟩;have V:Hid (zg f bd S {D with reads:=r+1 }):=az;have bv:=E.size;have aA:Hid (f.heap[s.heap.size]? =_):=(E.block _ (by omega) (by omega)).trans ay.out;change Hid _ at E J I;clear az aR;go_wp2_with fail
 obtain⟨g,rfl⟩:∃g,a=some ⟨g,0,none⟩:=by
  rcases I.2 with⟨_,au⟩|⟨g,aJ,bo,aU,_⟩;.omega
  .cases aU;exact⟨g,rfl⟩
 have bu:c.length<=m:=by
  rcases I.2 with⟨au,h2⟩|⟨bM,aJ,bo,aU,_,bP,au,h2,_⟩;.cases au
  .cases aU;exact au
 have x:Hid (za (λ_=>False) f (f.alloc (.cells #[.int .u8 5,.slice (some ⟨g,0,none⟩) c.length m] 209))):=za.alloc _ _ _;have am:Hid ((f.alloc (.cells #[.int .u8 5,.slice (some ⟨g,0,none⟩) c.length m] 209)).heap[f.heap.size]? =some (.cells #[.int .u8 5,.slice (some ⟨g,0,none⟩) c.length m] 209 (0,0))):=ac f _;have bD:(f.alloc (.cells #[.int .u8 5,.slice (some ⟨g,0,none⟩) c.length m] 209)).heap.size=f.heap.size+1:=by simp
 generalize (f.alloc (.cells #[.int .u8 5,.slice (some ⟨g,0,none⟩) c.length m] 209))=y at*;have aI:Hid _:=J.kept x nF;have ag:Hid (y.heap[s.heap.size]? =_):=(x.block _ (by omega) id).trans aA.out;have aa:y.cell? ⟨f.heap.size,0,none⟩=some (.int .u8 5):=cR am.out rfl;have ae:y.cell? ⟨f.heap.size,1,none⟩=some (.slice (some ⟨g,0,none⟩) c.length m):=cR am.out rfl;have ab:y.cell? ⟨s.heap.size,0,none⟩=some (.string p.key):=cR ag.out rfl;have ad:y.cell? ⟨s.heap.size,1,none⟩=some (.int .i64 p.num):=cR ag.out rfl;have G:s.heap.size<y.heap.size:=by omega
 have H:f.heap.size<y.heap.size:=by omega
 have bb:=xQ c p;have Y:Hid _:=V5 aK p;have Z:Hid (∀w':World,za (λ_=>False) y w'->Calls Tryz.prog 175 #[.agg #[.int .u8 5,.slice (some ⟨g,0,none⟩) c.length m],.agg #[.string p.key,.int .i64 p.num]] w' λr a4=>r=.returned (.int .i64 (zt c p:Nat))/\za (λ_=>False) w' a4):=λw' bc=>jr w' _ _ m c (aI.kept bc nF) aK 5 p;generalize zt c p=i at*;by_cases bq:i<c.length
 .have ba:¬(m:Int)=(i:Int):=by omega
  have br:¬m=i:=by omega
  have bG:(i:Int)<=(c.length:Int):=by omega
  go_region_held3 (λw'=>w'.cell? ⟨f.heap.size,0,none⟩=some (.int .u8 5)/\w'.cell? ⟨f.heap.size,1,none⟩=some (.slice (some ⟨g,0,none⟩) c.length m)/\w'.cell? ⟨s.heap.size,0,none⟩=some (.string p.key)/\w'.cell? ⟨s.heap.size,1,none⟩=some (.int .i64 p.num)) (go_keep) ((go_at_call 175;refine(Z _ (za.drew _ _)).mono ?_;rintro F o ⟨rfl,d⟩;have C:Hid _:=d;have N:=(d.cell (a:=⟨f.heap.size,0,none⟩) H id).trans aa;have O:=(d.cell (a:=⟨f.heap.size,1,none⟩) H id).trans ae;have L:=(d.cell (a:=⟨s.heap.size,0,none⟩) G id).trans ab;have R:=(d.cell (a:=⟨s.heap.size,1,none⟩) G id).trans ad;clear d));have u:Hid _:=((((X.mono fE).trans E iL).trans x fE).trans (za.drew (λ_=>False) y) fE).trans C fE;have A:Hid (za (λ_=>False) f o):=(x.trans (za.drew (λ_=>False) y) iL).trans C iL;have P:Hid (zg o bd S {D with reads:=r+1 }):=V.kept A nF;have M:PLift (ap (r+1) pre Q o):=⟨af.stp r (r+1) pre Q s o aw.down (by omega) u P⟩;have aF:Hid _:=J.kept A nF;obtain⟨-, -, -, -, -, bB,bH⟩:=aF.cells 0 ax;have bm:Hid _:=(af.inv r pre Q s aw.down).2;clear aa ae ab ad N O L R aI Z x am aA ag ay E V;generalize ar:c.length-i=n at*;go_wp2_with fail;go_loopw [46] (λt wr=>∃(k:Nat) (T:Nat->Prop),k<=n/\t=.int .i64 k/\ap (r+1) (pre++(c.drop i).take k) T wr/\za (λj=>j<B\/Q j) o wr/\∀j,T j->Q j\/o.heap.size<=j) (λt _=>n-(intOf t).toNat)
  case atStart=>exact⟨0,Q,aj _,rfl,by simpa using M.down,za.refl _ _,λ_ h=>.inl h⟩
  case round=>
   obtain⟨k,T,bN,rfl,q,w,U⟩:=hrel;have al:PLift (ap (r+1) (pre++(c.drop i).take k) T wr):=⟨q⟩;change Hid _ at w U;clear q;by_cases bA:k<n
   .have be:Hid (qe wr (λb=>aN.heap.size<=b/\b<o.heap.size) (some ⟨g,0,none⟩) c):=by
     have:qe o (λb=>aN.heap.size<=b/\b<o.heap.size) (some ⟨g,0,none⟩) c:=aF.below;exact this.kept w (λb bO bt=>bt.elim (λh=>by omega) (λh=>by have:=bm.out b h;omega))
    obtain⟨bg,a6,a0,aX,bi, -, bE⟩:=be.cells (i+k) (by omega)
    have v:(c.drop i).take (k+1)=(c.drop i).take k++[c[i+k]'(by omega)]:=by rw [ao (by simp;omega),lZ]
    have K:Hid _:=v;clear v
    have a9:Hid (V6 aP aq ah (r+1) (pre++(c.drop i).take k) (c[i+k]'(by omega))):=⟨bl,λbx=>a8 (iV.1 bx).1,by
     rw [ak,<-K.out,Y.out];obtain⟨z,bs⟩:=aV
     exact⟨(yP p c).drop (k+1)++z,by rw [<-bs,ak,<-ak ((yP p c).take (k+1)),aE,ak]⟩⟩
    generalize c[i+k]'(by omega)=F at*;have aT:0+(i+k)*5=i*5+k*5:=by rw [eJ];omega
    rw [aT] at bg a6 a0 aX bi;have ai:Hid (za (λ_=>False) wr (wr.alloc (.cells #[.string F.pl.key,.int .i64 F.pl.num,.bool F.mark,.int .i64 (F.size:Int),.int .i64 (F.at_:Int)] 109))):=za.alloc _ _ _;have aW:PLift (ap (r+1) (pre++(c.drop i).take k) T (wr.alloc (.cells #[.string F.pl.key,.int .i64 F.pl.num,.bool F.mark,.int .i64 (F.size:Int),.int .i64 (F.at_:Int)] 109))):=⟨af.stp _ _ _ _ _ _ al.down (eb _) (ai.mono fE) ((af.inv _ _ _ _ al.down).1.kept ai nF)⟩;obtain⟨fn,tmps,assign,body,a1,a5⟩:=af.yld 5 _ _ F T _ aW.down a9.out;dsimp only [qr] at a1;refine(wpIn_wide (n:=6)).1 ?_;gi_wp2;refine a5.mono ?_;clear a5 a1 bg a6 a0 aX bi;rintro e bk (⟨rfl,aQ,aD,aB,aH⟩|⟨rfl,aC⟩)
    .have bh:PLift (ap (r+1) (pre++(c.drop i).take (k+1)) aQ bk):=⟨by rw [K.out,<-ak];exact aD⟩;have bz:(wr.alloc (.cells #[.string F.pl.key,.int .i64 F.pl.num,.bool F.mark,.int .i64 (F.size:Int),.int .i64 (F.at_:Int)] 109)).heap.size=wr.heap.size+1:=by simp
     have bw:=w.size
     have a2:Hid _:=(w.trans ai fE).trans aB (λj q=>by
      rcases q with h|h;.exact .inl (.inl h)
      .exact(U j h).imp .inr id)
     have a3:Hid (∀j,aQ j->Q j\/o.heap.size<=j):=λj q=>by
      rcases aH j q with h|h;.exact U j h
      .exact .inr (by omega)
     clear aD aB aH;gi_wp2;go_roundw
     case rel=>exact⟨k+1,aQ,by omega,by go_num,bh.down,a2,a3⟩
     case measure=>simp [intOf];omega
    .obtain⟨a7⟩:Nonempty (PLift (aL (r+1) (pre++(c.drop i).take k++[F]) bk)):=⟨⟨aC⟩⟩;clear aC;gi_wp2;go_ret;exact .inr ⟨rfl,_,_,a7.down⟩
   .have bF:k=n:=by omega
    have v:(c.drop i).take k=yP p c:=by rw [an (by simp;omega)];exact Y.out
    have K:Hid _:=v;clear v;go_wp2;go_ret;refine .inl ⟨rfl,r+1,T,by omega,by omega,λ_=>by omega,by rw [<-K.out];exact al.down,?_,λj q=>(U j q).imp id (λh=>by omega)⟩;exact(u.mono (λj q=>.inl (by rw [q];exact af.bdB))).trans w iL
 .obtain rfl:i=c.length:=by omega
  clear bq bb;have bI:(c.length:Int)<=(m:Int):=by omega
  by_cases aZ:m=c.length
  .subst aZ;go_region_held3 (λw'=>w'.cell? ⟨f.heap.size,0,none⟩=some (.int .u8 5)/\w'.cell? ⟨f.heap.size,1,none⟩=some (.slice (some ⟨g,0,none⟩) c.length c.length)/\w'.cell? ⟨s.heap.size,0,none⟩=some (.string p.key)/\w'.cell? ⟨s.heap.size,1,none⟩=some (.int .i64 p.num)) (go_keep) ((go_at_call 175;refine(Z _ (za.drew _ _)).mono ?_;rintro F o ⟨rfl,d⟩;have C:Hid _:=d;have N:=(d.cell (a:=⟨f.heap.size,0,none⟩) H id).trans aa;have O:=(d.cell (a:=⟨f.heap.size,1,none⟩) H id).trans ae;have L:=(d.cell (a:=⟨s.heap.size,0,none⟩) G id).trans ab;have R:=(d.cell (a:=⟨s.heap.size,1,none⟩) G id).trans ad;clear d));have u:Hid _:=((((X.mono fE).trans E iL).trans x fE).trans (za.drew (λ_=>False) y) fE).trans C fE;have A:Hid _:=(x.trans (za.drew (λ_=>False) y) iL).trans C iL;have P:Hid _:=V.kept A nF;have M:PLift (ap (r+1) pre Q o):=⟨af.stp r (r+1) pre Q s o aw.down (by omega) u P⟩;have ar:c.length-c.length=0:=by omega
   try rw [ar]
   have v:yP p c=[]:=by rw [<-Y.out];exact eo (by omega)
   have K:Hid _:=v;clear v aa ae ab ad N O L R;go_wp2_with fail;go_loopw [46] (λt wr=>t=.int .i64 0/\wr=o) (λt _=>0)
   case atStart=>exact⟨rfl,rfl⟩
   case round=>
    obtain⟨rfl,rfl⟩:=hrel;go_wp2;go_ret;refine .inl ⟨rfl,r+1,Q,by omega,by omega,λ_=>by omega,by rw [K.out,aM];exact M.down,?_,λj q=>.inl q⟩;exact u.mono (λj q=>.inl (by rw [q];exact af.bdB))
  .have ba:¬(m:Int)=(c.length:Int):=by omega
   go_region_held3 (λw'=>w'.cell? ⟨f.heap.size,0,none⟩=some (.int .u8 5)/\w'.cell? ⟨f.heap.size,1,none⟩=some (.slice (some ⟨g,0,none⟩) c.length m)/\w'.cell? ⟨s.heap.size,0,none⟩=some (.string p.key)/\w'.cell? ⟨s.heap.size,1,none⟩=some (.int .i64 p.num)) (go_keep) ((go_at_call 175;refine(Z _ (za.drew _ _)).mono ?_;rintro F o ⟨rfl,d⟩;have C:Hid _:=d;have N:=(d.cell (a:=⟨f.heap.size,0,none⟩) H id).trans aa;have O:=(d.cell (a:=⟨f.heap.size,1,none⟩) H id).trans ae;have L:=(d.cell (a:=⟨s.heap.size,0,none⟩) G id).trans ab;have R:=(d.cell (a:=⟨s.heap.size,1,none⟩) G id).trans ad;clear d));have u:Hid _:=((((X.mono fE).trans E iL).trans x fE).trans (za.drew (λ_=>False) y) fE).trans C fE;have A:Hid _:=(x.trans (za.drew (λ_=>False) y) iL).trans C iL;have P:Hid _:=V.kept A nF;have M:PLift (ap (r+1) pre Q o):=⟨af.stp r (r+1) pre Q s o aw.down (by omega) u P⟩;have ar:c.length-c.length=0:=by omega
   try rw [ar]
   have v:yP p c=[]:=by rw [<-Y.out];exact eo (by omega)
   have K:Hid _:=v;clear v aa ae ab ad N O L R;go_wp2_with fail;go_loopw [46] (λt wr=>t=.int .i64 0/\wr=o) (λt _=>0)
   case atStart=>exact⟨rfl,rfl⟩
   case round=>
    obtain⟨rfl,rfl⟩:=hrel;go_wp2;go_ret;refine .inl ⟨rfl,r+1,Q,by omega,by omega,λ_=>by omega,by rw [K.out,aM];exact M.down,?_,λj q=>.inl q⟩;exact u.mono (λj q=>.inl (by rw [q];exact af.bdB))
structure KC where
 blk:Nat
 y:List En
 n:Nat
 f:Nat
def xi(ks:List KC):List En:=(ks.map KC.y).flatten
def kK(ks:List KC):Nat:=(ks.map KC.n).sum
def vW(ks:List KC):Nat:=KA (ks.map λk=>(k.f,k.y.isEmpty))
theorem XK{ks:List KC}{k:Nat}(h:k<ks.length):xi (ks.take (k+1))=xi (ks.take k)++ks[k].y:=by
 rw [ao h];simp only [xi,eh,aO,ig,eV,aU,lG,aM]
theorem XL{ks:List KC}{k:Nat}(h:k<ks.length):kK (ks.take (k+1))=kK (ks.take k)+ks[k].n:=by
 rw [ao h];simp only [kK,eh,aO,ig,mH,List.sum_cons,List.sum_nil,lD]
theorem V7(ks:List KC)(k:Nat):kK (ks.take k)<=kK ks:=by
 conv=>rhs;rw [<-aE k ks]
 simp only [kK,eh,mH];omega
theorem V8{ks:List KC}{k:Nat}(h:k<ks.length):vW (ks.drop k)=ks[k].f+if ks[k].y.isEmpty then vW (ks.drop (k+1)) else 0:=by
 rw [aI h];rfl
theorem KD(ks:List KC)(k:Nat):xi (ks.take k)<+:xi ks:=by
 conv=>rhs;rw [<-aE k ks]
 exact⟨xi (ks.drop k),by simp only [xi,eh,eV]⟩
structure Jw (l:Nat) (J:Int->List En->(Nat->Prop)->World->Prop) (Jx:Int->List En->World->Prop) (B bd:Nat) (R1 R2:Int) (all:List En) (p:Pl) (k:KC):Prop where
 go:∀(A:World) (r:Int) (pre:List En) (Q:Nat->Prop),J r pre Q A->B<=A.heap.size->0<=r->r+k.n<=R2->(pre=[]->r+k.f<=R1)->(pre++k.y)<+:all->
  Calls Tryz.prog 191 #[.iface 29 (.pointer (some ⟨bd,0,none⟩)),.int .i64 k.blk,.agg #[.string p.key,.int .i64 p.num],.func (.yield l) #[] #[]] A (jy J Jx B A r pre Q k.y k.n k.f)
theorem Yi(l:Nat)(T:Int->List En->(Nat->Prop)->World->Prop)(aa:Int->List En->World->Prop)(B bd:Nat)(S:Nat->Prop)(D:Dk)(X ah:Int)(O:List En)(aK:dp l T aa B bd S D X ah O)(bX:ah<=4611686018427380000)
 (o:World) (r:Int) (pre:List En) (Q:Nat->Prop) (aW:T r pre Q o) (b9:B<=o.heap.size) (p:Pl) (P:Nat) (bu:P<65536) (c:List En) (aE:∀e∈c,e.Ok) (A:0<c.length) (aN:c.length<=6) (a6:yL c) (ap:∀e∈c,e.mark=false/\e.size=0) (bo:D.look P=zl (zc 4 c))
 (ks:List KC) (bW:ks.length=c.length-zH c p) (Z:∀k (bL:k<ks.length) (h2:zH c p+k<c.length),c[zH c p+k].at_=ks[k].blk) (aC:∀k∈ks,Jw l T aa B bd X ah O p k)
 (bh:0<=r) (bZ:r+(1+kK ks:Nat)<=ah) (bz:pre=[]->r+(1+vW ks:Nat)<=X) (aV:(pre++xi ks)<+:O):
 Calls Tryz.prog 191 #[.iface 29 (.pointer (some ⟨bd,0,none⟩)),.int .i64 P,.agg #[.string p.key,.int .i64 p.num],.func (.yield l) #[] #[]] o (jy T aa B o r pre Q (xi ks) (1+kK ks) (1+vW ks)):=by
 have a5:Hid (∀e∈c,e.Ok):=aE;have bB:Hid (∀e∈c,e.mark=false/\e.size=0):=ap;have b3:=cS p (l:=c) (λbF=>by rw [bF] at A;simp at A);have ao:=(aK.inv r pre Q o aW).1;have bC:Hid (zg o bd S {D with reads:=r }):=ao;obtain⟨a8⟩:Nonempty (PLift (T r pre Q o)):=⟨⟨aW⟩⟩;have b1:=ao.lt bd ao.bdS;change Hid _ at aK a6 bo aC;clear aE aW ao ap;go_enter Tryz.func191,Tryz.ntmps191;go_wp2_with fail;have aH:Hid (za (λ_=>False) o (o.alloc (.cells #[.string p.key,.int .i64 p.num] 107))):=za.alloc _ _ _;have a9:Hid ((o.alloc (.cells #[.string p.key,.int .i64 p.num] 107)).heap[o.heap.size]? =some (.cells #[.string p.key,.int .i64 p.num] 107 (0,0))):=ac o _;have b4:(o.alloc (.cells #[.string p.key,.int .i64 p.num] 107)).heap.size=o.heap.size+1:=by simp
 generalize (o.alloc (.cells #[.string p.key,.int .i64 p.num] 107))=aQ at*;refine(cY aQ bd S _ (bC.kept aH nF) bh (by show r<=_;omega) P bu 4 c (.inl rfl) a5 (λ_=>bB) aN bo).mono ?_;rintro K d ⟨a,f,rfl,av,E,x,y,aM⟩;have ax:Hid (zg d bd S {D with reads:=r+1 }):=av;have bM:=E.size;have aw:Hid (d.heap[o.heap.size]? =_):=(E.block _ (by omega) (by omega)).trans a9.out;change Hid _ at E x y;clear av aM;go_wp2_with fail
 obtain⟨g,rfl⟩:∃g,a=some ⟨g,0,none⟩:=by
  rcases y.2 with⟨_,C⟩|⟨g,aL,bv,aU,_⟩;.omega
  .cases aU;exact⟨g,rfl⟩
 have bJ:c.length<=f:=by
  rcases y.2 with⟨C,h2⟩|⟨cd,aL,bv,aU,_,cc,C,h2,_⟩;.cases C
  .cases aU;exact C
 have F:Hid (za (λ_=>False) d (d.alloc (.cells #[.int .u8 4,.slice (some ⟨g,0,none⟩) c.length f] 209))):=za.alloc _ _ _;have ad:Hid ((d.alloc (.cells #[.int .u8 4,.slice (some ⟨g,0,none⟩) c.length f] 209)).heap[d.heap.size]? =some (.cells #[.int .u8 4,.slice (some ⟨g,0,none⟩) c.length f] 209 (0,0))):=ac d _;have b5:(d.alloc (.cells #[.int .u8 4,.slice (some ⟨g,0,none⟩) c.length f] 209)).heap.size=d.heap.size+1:=by simp
 generalize (d.alloc (.cells #[.int .u8 4,.slice (some ⟨g,0,none⟩) c.length f] 209))=s at*;have aI:Hid _:=x.kept F nF;have U:Hid (s.heap[o.heap.size]? =_):=(F.block _ (by omega) id).trans aw.out;have a4:s.cell? ⟨d.heap.size,0,none⟩=some (.int .u8 4):=cR ad.out rfl;have bt:s.cell? ⟨d.heap.size,1,none⟩=some (.slice (some ⟨g,0,none⟩) c.length f):=cR ad.out rfl;have aP:s.cell? ⟨o.heap.size,0,none⟩=some (.string p.key):=cR U.out rfl;have aT:s.cell? ⟨o.heap.size,1,none⟩=some (.int .i64 p.num):=cR U.out rfl;have W:o.heap.size<s.heap.size:=by omega
 have ay:d.heap.size<s.heap.size:=by omega
 change Hid _ at Z;have aD:Hid (∀w':World,za (λ_=>False) s w'->Calls Tryz.prog 176 #[.agg #[.int .u8 4,.slice (some ⟨g,0,none⟩) c.length f],.agg #[.string p.key,.int .i64 p.num]] w' λr bj=>r=.returned (.int .i64 (zH c p:Nat))/\za (λ_=>False) w' bj):=λw' be=>vy w' _ _ f c (aI.kept be nF) a6 4 p;generalize zH c p=i at*;have bE:¬f=i:=by omega
 have bR:(i:Int)<=(c.length:Int):=by omega
 go_region_held3 (λw'=>w'.cell? ⟨d.heap.size,0,none⟩=some (.int .u8 4)/\w'.cell? ⟨d.heap.size,1,none⟩=some (.slice (some ⟨g,0,none⟩) c.length f)/\w'.cell? ⟨o.heap.size,0,none⟩=some (.string p.key)/\w'.cell? ⟨o.heap.size,1,none⟩=some (.int .i64 p.num)) (go_keep) ((go_at_call 176;refine(aD _ (za.drew _ _)).mono ?_;rintro K u ⟨rfl,q⟩;have aY:=(q.cell (a:=⟨d.heap.size,0,none⟩) ay id).trans a4;have aZ:=(q.cell (a:=⟨d.heap.size,1,none⟩) ay id).trans bt;have ba:=(q.cell (a:=⟨o.heap.size,0,none⟩) W id).trans aP;have bn:=(q.cell (a:=⟨o.heap.size,1,none⟩) W id).trans aT;change Hid _ at q));have af:Hid _:=((((aH.mono fE).trans E iL).trans F fE).trans (za.drew (λ_=>False) s) fE).trans q fE;have I:Hid (za (λ_=>False) d u):=(F.trans (za.drew (λ_=>False) s) iL).trans q iL;have a2:Hid (zg u bd S {D with reads:=r+1 }):=ax.kept I nF;have br:PLift (T (r+1) pre Q u):=⟨aK.stp r (r+1) pre Q o u a8.down (by omega) af a2⟩;have aX:Hid (u.heap[o.heap.size]? =some (.cells #[.string p.key,.int .i64 p.num] 107 (0,0))):=(q.block _ W id).trans U.out;have az:Hid _:=x.kept I nF;have bD:o.heap.size+1<u.heap.size:=by have:=I.size;have:=q.size;have b8:s.drew.heap.size=s.heap.size:=rfl;omega
 obtain⟨-, -, -, -, -, b2,bS⟩:=az.cells 0 A;have aG:Hid _:=(aK.inv r pre Q o a8.down).2;clear a4 bt aP aT aY aZ ba bn aI aD F ad aw E ax;generalize ce:c.length-i=n at*;go_wp2_with fail;go_loopw [27] (λt wr=>∃(k:Nat) (v:Int) (G:Nat->Prop),k<=n/\t=.int .i64 k/\T v (pre++xi (ks.take k)) G wr/\r+1<=v/\v<=r+1+kK (ks.take k)/\(xi (ks.take k)=[]->v+vW (ks.drop k)<=r+1+vW ks)/\za (λj=>j<B\/Q j) u wr/\∀j,G j->Q j\/u.heap.size<=j) (λt _=>n-(intOf t).toNat)
 case atStart=>exact⟨0,r+1,Q,aj _,rfl,by simpa [xi] using br.down,by omega,by simp [kK],λ_=>by simp,za.refl _ _,λ_ h=>.inl h⟩
 case round=>
  obtain⟨k,v,G,bL,rfl,w,bY,a3,M,m,L⟩:=hrel;have al:PLift (T v (pre++xi (ks.take k)) G wr):=⟨w⟩;change Hid _ at m L M;clear w;by_cases bU:k<n
  .have bf:Hid (qe wr (λb=>aQ.heap.size<=b/\b<u.heap.size) (some ⟨g,0,none⟩) c):=by
    have:qe u (λb=>aQ.heap.size<=b/\b<u.heap.size) (some ⟨g,0,none⟩) c:=az.below;exact this.kept m (λb ca aR=>aR.elim (λh=>by omega) (λh=>by have:=aG.out b h;omega))
   obtain⟨bK,bN,bG,bA,bm, -, b6⟩:=bf.cells (i+k) (by omega);have ab:=Z.out k (by omega) (by omega);have Y:Hid (wr.heap[o.heap.size]? =some (.cells #[.string p.key,.int .i64 p.num] 107 (0,0))):=(m.block _ (by omega) (λaR=>aR.elim (λh=>by omega) (λh=>by have:=aG.out _ h;omega))).trans aX.out;have bq:Hid (Jw l T aa B bd X ah O p (ks[k]'(by omega))):=aC.out _ (ai _);have N:=XK (ks:=ks) (k:=k) (by omega);have b0:=XL (ks:=ks) (k:=k) (by omega);have V:=V8 (ks:=ks) (k:=k) (by omega);have bV:=V7 ks (k+1);have aA:=KD ks (k+1);generalize ks[k]'(by omega)=am at*;generalize c[i+k]'(by omega)=K at*;rw [ab] at bm;have aO:0+(i+k)*5=i*5+k*5:=by rw [eJ];omega
   rw [aO] at bK bN bG bA bm;change Hid _ at N V aA;clear ab Z;have bT:=(lT Y);have aP:wr.cell? ⟨o.heap.size,0,none⟩=some (.string p.key):=cR Y.out rfl;have aT:wr.cell? ⟨o.heap.size,1,none⟩=some (.int .i64 p.num):=cR Y.out rfl;go_wp2_with fail;have ag:Hid (za (λ_=>False) wr (wr.alloc (.cells #[.string K.pl.key,.int .i64 K.pl.num,.bool K.mark,.int .i64 (K.size:Int),.int .i64 (am.blk:Int)] 109))):=za.alloc _ _ _;have bQ:(wr.alloc (.cells #[.string K.pl.key,.int .i64 K.pl.num,.bool K.mark,.int .i64 (K.size:Int),.int .i64 (am.blk:Int)] 109)).heap.size=wr.heap.size+1:=by simp
   generalize (wr.alloc (.cells #[.string K.pl.key,.int .i64 K.pl.num,.bool K.mark,.int .i64 (K.size:Int),.int .i64 (am.blk:Int)] 109))=bb at*;have a0:PLift (T v (pre++xi (ks.take k)) G bb):=⟨aK.stp _ _ _ _ _ _ al.down (eb _) (ag.mono fE) ((aK.inv _ _ _ _ al.down).1.kept ag nF)⟩;have bO:=m.size
   have H:pre++xi (ks.take k)=[]->v+am.f<=X:=λR=>by obtain⟨C,h2⟩:=iV.1 R;have aS:=M.out h2;have ap:=bz C;rw [V.out] at aS;omega
   refine(bq.go bb v _ G a0.down (by omega) (by omega) (by omega) H (by
    rw [ak,<-N.out];obtain⟨z,bI⟩:=aA.out;obtain⟨bP,bx⟩:=aV
    exact⟨z++bP,by rw [<-bx,<-bI,ak,ak,ak]⟩)).mono ?_
   clear H;rintro e bp (⟨rfl,ae,aJ,cb,b7,bs,au,aq,aF⟩|⟨rfl,ae,bH,ar⟩)
   .have bk:PLift (T ae (pre++xi (ks.take (k+1))) aJ bp):=⟨by rw [N.out,<-ak];exact au⟩
    have bg:Hid _:=(m.trans ag fE).trans aq (λj w=>by
     rcases w with h|h;.exact .inl (.inl h)
     .exact(L j h).imp .inr id)
    have bi:Hid (∀j,aJ j->Q j\/u.heap.size<=j):=λj w=>by
     rcases aF j w with h|h;.exact L j h
     .exact .inr (by omega)
    have bc:Hid (xi (ks.take (k+1))=[]->ae+vW (ks.drop (k+1))<=r+1+vW ks):=λR=>by rw [N.out] at R;obtain⟨C,h2⟩:=iV.1 R;have aS:=M.out C;have ap:=bs h2;rw [V.out,aB (by rw [h2];rfl)] at aS;omega
    clear au aq aF bs;go_wp2;go_roundw
    case rel=>exact⟨k+1,ae,aJ,by omega,by go_num,bk.down,by omega,by omega,bc,bg,bi⟩
    case measure=>simp [intOf];omega
   .obtain⟨bw⟩:Nonempty (PLift (aa ae bH bp)):=⟨⟨ar⟩⟩;clear ar;go_wp2;go_ret;exact .inr ⟨rfl,_,_,bw.down⟩
  .have J:ks.take k=ks:=an (by omega);have a7:=eo (by omega);have a1:PLift (T v (pre++xi ks) G wr):=⟨by have:=al.down;rw [J] at this;exact this⟩
   have bl:Hid (xi ks=[]->v<=r+1+vW ks):=λR=>by have:=M.out (by rw [J];exact R);omega
   rw [J] at a3;clear J a7;go_wp2;go_ret;refine .inl ⟨rfl,v,G,by omega,by omega,λh=>by have:=bl.out h;omega,a1.down,?_,λj w=>(L j w).imp id (λh=>by omega)⟩;exact(af.mono (λj w=>.inl (by rw [w];exact aK.bdB))).trans m iL
theorem jy.mono{p:Int->List En->(Nat->Prop)->World->Prop}{d:Int->List En->World->Prop}{B:Nat}{q:World}{r:Int}{pre:List En}{Q:Nat->Prop}{s a:List En}{n b f g:Nat}{e:Ending}{c:World}
 (h:jy p d B q r pre Q s n f e c) (i:s=a) (t:n<=b) (k:f=g):jy p d B q r pre Q a b g e c:=by
 subst i;subst k;rcases h with⟨j,l,o,h2,u,m⟩|h;.exact .inl ⟨j,l,o,h2,by omega,m⟩
 .exact .inr h
def Tr.kid{h:Nat}(t:Tr h)(p:Pl):KC:=⟨t.blk,yP p t.ents,t.blocks.length,t.fy p⟩
theorem GF(a:List (Pl×Tr h))(p:Pl):xi (a.map λc=>c.2.kid p)=yP p (zI a):=by
 induction a with
 |nil=>rfl
 |cons c a b=>rw [zr,kH,<-b];rfl
theorem GG(a:List (Pl×Tr h))(p:Pl):kK (a.map λc=>c.2.kid p)=(zE a).length:=by
 induction a with
 |nil=>rfl
 |cons c a b=>rw [qA,ag,<-b];rfl
theorem cz(a:List (Pl×Tr h))(c:Nat):(zE (a.drop c)).length<=(zE a).length:=by
 conv=>rhs;rw [<-aE c a]
 rw [qo,ag];omega
theorem Ze(l:Nat)(H:Int->List En->(Nat->Prop)->World->Prop)(n:Int->List En->World->Prop)(B bd:Nat)(S:Nat->Prop)(D:Dk)(i d:Int)(a:List En)(X:dp l H n B bd S D i d a)(q:d<=4611686018427380000)(p:Pl):
 ∀(h:Nat) (t:Tr h),t.Good->1<=t.items.length->t.items.length<=6->yL t.ents->t.LayV zl (λj=>D.look (j:Nat))->Jw l H n B bd i d a p (t.kid p)
 |0,(b,es),g,h1,h6,hs,hl=>⟨λA r pre Q G E u o s f=>KB l H n B bd S D i d a X q A r pre Q G E p b g.1 es g.2 h1 h6 hs hl u o s f⟩
 |h+1,(b,cs),g,h1,h6,hs,hl=>by
  have w:=aD h1 (eE (zy b cs));have Y:=aD (eE (zy b cs).symm) h6;have F:Kids cs:=g.kids;have N:cs≠[]:=λe=>by rw [e] at w;simp at w
  obtain⟨c,v⟩:∃c,c=zH (cs.map λc=>(⟨c.1,false,0,c.2.blk⟩:En)) p:=⟨_,rfl⟩;obtain⟨U,_⟩:=F.walk N p c v
  have z:∀c∈cs,c.2.ents.Sublist (zI cs):=λc I=>by obtain⟨A,B,rfl⟩:=iX I;rw [zA,zr];exact((List.sublist_append_left _ _).trans (List.sublist_append_right _ _))
  have M:∀k∈(cs.drop c).map (λc=>c.2.kid p),Jw l H n B bd i d a p k:=λk K=>by obtain⟨C,P,rfl⟩:=au.1 K;have m:=eK P;have L:=F.good C m;exact Ze l H n B bd S D i d a X q p h C.2 L.1 (by have:3<=C.2.items.length:=g.full C m;omega) L.2.1 (List.Pairwise.sublist (z C m) hs) (hl.2 C m)
  have x:(cs.map λc=>(⟨c.1,false,0,c.2.blk⟩:En)).length=cs.length:=by simp
  have R:1+kK ((cs.drop c).map λc=>c.2.kid p)<=(Tr.blocks (h:=h+1) (b,cs)).length:=by rw [GG];show 1+(zE (cs.drop c)).length<=(b::zE cs).length;have:=cz cs c;rw [ae];omega
  have hF:1+vW ((cs.drop c).map λc=>c.2.kid p)=Tr.fy p (h:=h+1) (b,cs):=by show 1+KA _=1+KA _;rw [v,ln];rfl
  have J:xi ((cs.drop c).map λc=>c.2.kid p)=yP p (zI cs):=by rw [GF,U]
  refine⟨λA r pre Q G E u o s f=>?_⟩;have O:r+((Tr.blocks (h:=h+1) (b,cs)).length:Nat)<=d:=o;have y:pre=[]->r+(Tr.fy p (h:=h+1) (b,cs):Nat)<=i:=s
  refine(Yi l H n B bd S D i d a X q A r pre Q G E p b g.1 (cs.map λc:Pl×Tr h=>(⟨c.1,false,0,c.2.blk⟩:En)) g.items_ok (by omega) (by omega) F.items_srt (λe W=>by
   obtain⟨C,_,rfl⟩:=au.1 W;exact⟨rfl,rfl⟩) hl.1 ((cs.drop c).map λc=>c.2.kid p) (by rw [<-v,x];simp) (λk K h2=>?_) M u (by omega) (λT=>by rw [hF];exact y T) (by rw [J];exact f)).mono ?_
  .simp only [<-v,ia,lZ];rfl
  .intro e Z V;exact V.mono J R hF
structure vF (W:World) (b1 b2 b3 bd root:Nat) (p:Pl):Prop where
 root:W.heap[b1]? =some (.cells #[.int .i64 (root:Int)] 3 (0,0))
 rd:W.heap[b2]? =some (.cells #[.iface 29 (.pointer (some ⟨bd,0,none⟩))] 193 (0,0))
 pl:W.heap[b3]? =some (.cells #[.string p.key,.int .i64 p.num] 107 (0,0))
theorem vF.kept{i e:World}{b c d bd a:Nat}{p:Pl}(h:vF i b c d bd a p){X:Nat->Prop}(k:za X i e)(f:¬X b)(h2:¬X c)(g:¬X d):vF e b c d bd a p:=
 ⟨(k.block _ (lT h.root) f).trans h.root,(k.block _ (lT h.rd) h2).trans h.rd,(k.block _ (lT h.pl) g).trans h.pl⟩
theorem vG(w:World)(b a c:Obj):(((w.alloc b).alloc a).alloc c).heap[w.heap.size]? =some b/\(((w.alloc b).alloc a).alloc c).heap[w.heap.size+1]? =some a/\(((w.alloc b).alloc a).alloc c).heap[w.heap.size+2]? =some c/\za (λ_=>False) w (((w.alloc b).alloc a).alloc c)/\(((w.alloc b).alloc a).alloc c).heap.size=w.heap.size+3:=by
 have k3:=za.alloc (λ_=>False) ((w.alloc b).alloc a) c;have d:((w.alloc b).alloc a).heap.size=w.heap.size+2:=by simp
 refine⟨(k3.block _ (by omega) id).trans (((za.alloc (λ_=>False) (w.alloc b) a).block w.heap.size (by simp) id).trans (ac w _)),(k3.block _ (by omega) id).trans (eF w _ _),?_,((za.alloc _ _ _).trans (za.alloc _ _ _) iL).trans k3 iL,by simp⟩;have:=ac ((w.alloc b).alloc a) c;rw [d] at this;exact this
theorem V9(w:World)(bd a:Nat)(p:Pl):Calls Tryz.prog 158 #[.iface 29 (.pointer (some ⟨bd,0,none⟩)),.int .i64 a,.agg #[.string p.key,.int .i64 p.num]] w λe w'=>
 e=.returned (.func (.func 190) #[] #[.pointer (some ⟨w.heap.size+1,0,none⟩),.pointer (some ⟨w.heap.size,0,none⟩),.pointer (some ⟨w.heap.size+2,0,none⟩)])/\vF w' (w.heap.size+1) w.heap.size (w.heap.size+2) bd a p/\za (λ_=>False) w w'/\w'.heap.size=w.heap.size+3:=by
 go_enter Tryz.func158,Tryz.ntmps158;go_wp2;go_ret;obtain⟨d,c,b,k3,f⟩:=vG w (.cells #[.iface 29 (.pointer (some ⟨bd,0,none⟩))] 193) (.cells #[.int .i64 (a:Int)] 3) (.cells #[.string p.key,.int .i64 p.num] 107);exact⟨rfl,⟨c,d,b⟩,k3,f⟩
theorem Yj(g:World)(bd:Nat)(S:Nat->Prop)(D:Dk)(x v s d:Nat)(p:Pl)(b:vF g x v s bd d p)(w:List En)(bs:List Nat)(hF:qY (λj=>D.look (j:Nat)) d w bs)(E:bs.length<=979)(hbs:∀j∈bs,21<=j)(B:bd<g.heap.size)(a:Int)(K:0<=a)(Y:a<=4611686018427370000):
 vO Tryz.prog 190 #[.pointer (some ⟨x,0,none⟩),.pointer (some ⟨v,0,none⟩),.pointer (some ⟨s,0,none⟩)] (λP:En=>#[.agg (qr P).toArray]) (λk=>k=bd) (λr _ A=>zg A bd S {D with reads:=r })
  (λr pre P _=>V6 (a+13) (a+bs.length) (yP p w) r pre P) (λr C=>C=yP p w/\r<=a+bs.length/\(C=[]->r<=a+13)) (λ_ _=>True) a g:=by
 intro l G u n o i f;have af:g.cell? ⟨x,0,none⟩=some (.int .i64 (d:Int)):=cR b.root rfl;have ac:g.cell? ⟨v,0,none⟩=some (.iface 29 (.pointer (some ⟨bd,0,none⟩))):=cR b.rd rfl;have aa:g.cell? ⟨s,0,none⟩=some (.string p.key):=cR b.pl rfl;have ab:g.cell? ⟨s,1,none⟩=some (.int .i64 p.num):=cR b.pl rfl;have y:PLift (G a [] (λ_=>False) g):=⟨f⟩;rcases hF with⟨rfl,rfl,rfl⟩|⟨h,t,c,I,rfl,rfl,rfl⟩
 .clear n o i f b;go_enter Tryz.func190,Tryz.ntmps190;go_wp2;go_end0;exact⟨⟨_,rfl⟩,.inl ⟨a,[],_,⟨rfl,by simp,λ_=>by omega⟩,y.down⟩⟩
 .have Z:=c.low E;have W:=c.good.fy_le p c.one;have ad:t.blk≠0:=by have:=hbs _ t.blk_mem;omega
  clear hbs;have X:dp l G u g.heap.size bd S D (a+13) (a+t.blocks.length) (yP p t.ents):=⟨n,o,i,B⟩;have U:=Ze l G u g.heap.size bd S D (a+13) (a+t.blocks.length) (yP p t.ents) X (by omega) p h t c.good c.one c.hi c.srt I;have Q:Hid (Calls Tryz.prog 191 #[.iface 29 (.pointer (some ⟨bd,0,none⟩)),.int .i64 t.blk,.agg #[.string p.key,.int .i64 p.num],.func (.yield l) #[] #[]] g (jy G u g.heap.size g a [] (λ_=>False) (yP p t.ents) t.blocks.length (t.fy p))):=U.go g a [] (λ_=>False) f (aF _) K (eb _) (λ_=>by show a+(t.fy p:Nat)<=_;omega) (List.prefix_refl _);clear U X n o i f b I;have V:((t.blk:Int) !=0)=true:=by simp;omega
  go_enter Tryz.func190,Tryz.ntmps190;go_wp2_with fail;refine Q.out.mono ?_;rintro e J (⟨rfl,m,F,ae,ag,L,H,O,R⟩|⟨rfl,m,q,z⟩)
  .have N:PLift (G m ([]++yP p t.ents) F J):=⟨H⟩;have T:Hid _:=L;clear H L O R;go_wp2;go_end0;exact⟨⟨_,rfl⟩,.inl ⟨m,yP p t.ents,F,⟨rfl,by omega,λh=>by have:=T.out h;omega⟩,N.down⟩⟩
  .have M:PLift (u m q J):=⟨z⟩;clear z;go_wp2;go_end0;exact⟨⟨_,rfl⟩,.inr ⟨m,q,eI,M.down⟩⟩
structure zu (w:World) (bs:Nat) (k:Int) (q:Option Nat):Prop where
 at_:w.heap[bs]? =some (.cells #[.int .i32 k,.int .u32 0,.pointer (q.map λb=>⟨b,0,none⟩)] 104 (0,0))
theorem zu.lt(h:zu w bs k q):bs<w.heap.size:=(lT h.at_)
theorem zu.kept{w':World}{T:Nat->Prop}(h:zu w bs k q)(a:za T w w')(b:¬T bs):zu w' bs k q:=⟨(a.block bs h.lt b).trans h.at_⟩
theorem zu.c0(h:zu w bs k q):w.cell? ⟨bs,0,none⟩=some (.int .i32 k):=cR h.at_ rfl
theorem zu.c2(h:zu w bs k q):w.cell? ⟨bs,2,none⟩=some (.pointer (q.map λb=>⟨b,0,none⟩)):=cR h.at_ rfl
theorem zu.fz(h:zu w bs k q)(i:Nat):w.frozen? ⟨bs,i,none⟩=false:=aa w bs i _ _ h.at_
theorem zu.set(h:zu w bs k q)(a:Int):zu (w.setCell ⟨bs,0,none⟩ (.int .i32 a)) bs a q:=⟨heap_setCell_same w bs 0 _ _ _ h.at_⟩
theorem jc(w:World)(bs bd:Nat)(S:Nat->Prop)(D:Dk)(k:Int)(z:zu w bs k (some bd))(g:zg w bd S D)(O:¬S bs)(M:0<=D.reads)(L:D.reads<=4611686018427387904)(b n:Nat)(G:qT (D.look 1) b n)(p:Pl):
 Calls Tryz.prog 114 #[.pointer (some ⟨bs,0,none⟩),.agg #[.string p.key,.int .i64 p.num]] w λe w'=>∃B y A,e=.returned (.func (.func 190) #[] #[.pointer (some ⟨B,0,none⟩),.pointer (some ⟨y,0,none⟩),.pointer (some ⟨A,0,none⟩)])/\vF w' B y A bd b p/\(w.heap.size<=B/\w.heap.size<=y/\w.heap.size<=A)/\zg w' bd S {D with reads:=D.reads+1}/\za (λi=>i=bd) w w':=by
 have P:Hid (zg w bd S D):=g;have s:=z.c2;have hbs:=z.lt;have R:=g.lt bd g.bdS;have H:¬bs=bd:=λe=>O (by rw [e];exact g.bdS);change Hid _ at z G;clear g;go_enter Tryz.func114,Tryz.ntmps114;go_wp2_with fail;have m:Hid (za (λ_=>False) w (w.alloc (.cells #[.string p.key,.int .i64 p.num] 107))):=za.alloc _ _ _;have r:Hid ((w.alloc (.cells #[.string p.key,.int .i64 p.num] 107)).heap[w.heap.size]? =some (.cells #[.string p.key,.int .i64 p.num] 107 (0,0))):=ac w _;have Y:(w.alloc (.cells #[.string p.key,.int .i64 p.num] 107)).heap.size=w.heap.size+1:=by simp
 generalize (w.alloc (.cells #[.string p.key,.int .i64 p.num] 107))=x at*;have J:=(m.cell (a:=⟨bs,2,none⟩) hbs id).trans s;have N:x.cell? ⟨w.heap.size,0,none⟩=some (.string p.key):=cR r.out rfl;have Q:x.cell? ⟨w.heap.size,1,none⟩=some (.int .i64 p.num):=cR r.out rfl;have l:bs<x.heap.size:=by omega
 have d:w.heap.size<x.heap.size:=by omega
 have h:¬w.heap.size=bd:=by omega
 have F:Hid (zg x.drew bd S D):=(P.kept m nF).kept (za.drew (λ_=>False) x) nF;clear s;have T:∀w:World,(Instr.field 145 (.agg #[.int .i64 (b:Int),.int .i64 (n:Int)]) 0).run Tryz.prog w=.ok (.int .i64 (b:Int)) w:=λ_=>by kernel_rfl
 go_region_held3 (λw'=>w'.cell? ⟨bs,2,none⟩=some (.pointer (some ⟨bd,0,none⟩))/\w'.cell? ⟨w.heap.size,0,none⟩=some (.string p.key)/\w'.cell? ⟨w.heap.size,1,none⟩=some (.int .i64 p.num)) (go_keep) (first
  |(go_at_call 74;refine(Kz _ bd S D F M L b n G).mono ?_;rintro e j ⟨rfl,v,c⟩;have K:Hid (zg j bd S {D with reads:=D.reads+1 }):=v;have E:=(c.cell (a:=⟨bs,2,none⟩) l H).trans J;have C:j.cell? ⟨w.heap.size,0,none⟩=some (.string p.key):=(c.cell (a:=⟨w.heap.size,0,none⟩) d h).trans N;have I:j.cell? ⟨w.heap.size,1,none⟩=some (.int .i64 p.num):=(c.cell (a:=⟨w.heap.size,1,none⟩) d h).trans Q;have o:x.heap.size<=j.heap.size:=c.size;change Hid _ at c;clear v)
  |(go_at_call 158;refine(V9 _ bd b p).mono ?_;rintro e q ⟨rfl,u,f,W⟩;have t:Hid (za (λ_=>False) j q):=f;have X:q.cell? ⟨bs,2,none⟩=some (.pointer (some ⟨bd,0,none⟩)):=(f.cell (a:=⟨bs,2,none⟩) (ay l o) id).trans E;have U:q.cell? ⟨w.heap.size,0,none⟩=some (.string p.key):=(f.cell (a:=⟨w.heap.size,0,none⟩) (ay d o) id).trans C;have V:q.cell? ⟨w.heap.size,1,none⟩=some (.int .i64 p.num):=(f.cell (a:=⟨w.heap.size,1,none⟩) (ay d o) id).trans I;change Hid _ at u;clear f))
 go_wp2;go_ret;refine⟨_,_,_,rfl,u,?_,K.kept t nF,?_⟩;.omega
 .exact((((m.mono fE).trans (za.drew (λ_=>False) x) fE)).trans c iL).trans t fE
end prog
end Go.Proofs.YtcoengihaobddaaGreatDoor
