/- Part 23 of 36 of a proof: BWrite1, Root1, Tr5, Walk1, Walk2, Walk3, Sto1 -/
import Derived.Test.YtcoengihaobddaaGreatDoorJc22
import Derived.Test.YtcoengihaobddaaGreatDoorJc21
import Derived.Laws.CopyRow
set_option maxHeartbeats 8000000
set_option linter.unusedVariables false
set_option linter.unusedSimpArgs false
set_option maxRecDepth 8000
namespace Go.Proofs.YtcoengihaobddaaGreatDoor
namespace prog
open Go.RowKit disk ref
variable {l m:List UInt8}{N:Nat}{C:Ck}
def xP(l:List UInt8)(i:Nat):List UInt8:=(l.drop i).take (min 124 (l.length-i))
def zW(l:List UInt8):List (List UInt8):=(qU l.length).map (xP l)
theorem yW(l:List UInt8):(zW l).length=(l.length+123)/124:=by simp [zW,kq]
theorem un{i:Nat}(h:i<=l.length):(xP l i).length=min 124 (l.length-i):=by simp [xP]
theorem gU(l:List UInt8)(k:Nat)(h:k<(zW l).length):(zW l)[k]=xP l (k*124):=by simp [zW,qU]
theorem vj(l:List UInt8):∀k,(((List.range k).map λj=>xP l (j*124))).flatten=l.take (k*124)
 |0=>by simp
 |k+1=>by
  rw [List.range_succ,eh,eV,vj l k];simp only [aO,ig,aU,lG,aM];rw [eJ,iU,List.take_add];congr 1;unfold xP;by_cases h:l.length-k*124<=124;.rw [Nat.min_eq_right h,an (by simp),an (by simp;omega)]
  .rw [a8 (by omega)]
theorem Yg(l:List UInt8):(zW l).flatten=l:=by
 have:=vj l ((l.length+123)/124);rw [an (by omega)] at this
 conv=>rhs;rw [<-this]
 simp only [zW,qU,ln];rfl
theorem bk:∀p∈zW l,1<=p.length/\p.length<=124:=λp a=>by
 obtain⟨k,b,rfl⟩:=ed a;rw [gU];rw [yW] at b;rw [un (by omega)];omega
def uV(N:Nat)(l:List UInt8)(s:Nat×Ck×List UInt8):Nat×Ck×List UInt8:=((s.2.1.take N s.2.2).1,(s.2.1.take N s.2.2).2.1.put (s.2.1.take N s.2.2).1 (zm (qp s.1 l)),(s.2.1.take N s.2.2).2.2)
def Ck.body(C:Ck)(N:Nat)(m:List UInt8):List (List UInt8)->Nat×Ck×List UInt8
 |[]=>(0,C,m)
 |l::r=>uV N l (C.body N m r)
theorem Ky(C:Ck)(N:Nat)(m l:List UInt8)(r:List (List UInt8)):C.body N m (l::r)=uV N l (C.body N m r):=rfl
theorem Yh{f a:Nat}{c b:Ck}{d e:List UInt8}(h2:c.take N d=(a,b,e)):uV N l (f,c,d)=(a,b.put a (zm (qp f l)),e):=by
 unfold uV;generalize zm (qp f l)=v;rw [h2]
theorem gV{e c:Ck}{d b:List UInt8}{r:List (List UInt8)}{f a:Nat}(g:C.body N m r=(f,e,d))(h2:e.take N d=(a,c,b)):C.body N m (l::r)=(a,c.put a (zm (qp f l)),b):=by
 rw [Ky,g,Yh h2]
theorem bm{D:Dk}(h:qF (C.look D 2) m)(u:N<=1000)(g:List (List UInt8)):∀(f:Nat) (a:Ck) (b:List UInt8),C.body N m g=(f,a,b)->qF (a.look D 2) b/\a.ws.length<=C.ws.length+2*g.length/\f<65536:=by
 induction g with
 |nil=>
  intro f a b e;have k:(0,C,m)=(f,a,b):=e;simp only [eS] at k;obtain⟨rfl,rfl,rfl⟩:=k;exact⟨h,by simp,by decide⟩
 |cons l r q=>
  intro f a b e;rcases h1:C.body N m r with⟨n,d,c⟩;rcases h2:d.take N c with⟨s,p,t⟩;rw [gV h1 h2] at e;simp only [eS] at e;obtain⟨rfl,rfl,rfl⟩:=e;obtain⟨k1,k2,k3⟩:=q n d c h1;have i:=k1.take N;have o:=UX d N c;have j:=uQ d N c;rw [h2] at i o j;simp only at i o j;refine⟨i.put _ _ (by omega),?_,by omega⟩;have:=qy p s (zm (qp n l));rw [ae];omega
structure Jv (D:Dk) (C C':Ck) (m m':List UInt8) (f:Nat) (ls:List (List UInt8)) (nb:List Nat):Prop where
 chn:XC D C' m'
 stp:bZ D C C' m m' [] nb
 nl:nb.length<=ls.length
 chain:C'.full=false->∃ps,y9 (λj=>C'.look D (j:Nat)) ps/\xw ps=f/\ps.map zv.l=ls/\(ps.map zv.at_).Perm nb
theorem V2{D:Dk}(h:XC D C m)(n:D.bs.length<=1000):∀(k:List (List UInt8)) (f:Nat) (c:Ck) (i:List UInt8),(∀p∈k,p.length<=124)->C.body D.bs.length m k=(f,c,i)->∃d,Jv D C c m i f k d
 |[],f,c,i,_,e=>by cases e;exact⟨[],h,bZ.refl D C m,by simp,λ_=>⟨[],eI,rfl,rfl,eR _⟩⟩
 |l::r,f,c,i,hl,e=>by
  rcases h1:C.body D.bs.length m r with⟨E,x,w⟩;obtain⟨d,o⟩:=V2 h n r E x w (λp b=>hl p (am _ b)) h1;obtain⟨K,v,L,u,t,a⟩:=uT o.chn n;rw [gV h1 t] at e;cases e;have j:=a.lt n;have st:=o.stp.trans a.stp;rw [aM] at st;refine⟨d++u,a.chn.put j.2 _,st.taken _ (a.mem.imp (av _) id),by have:=o.nl;have:=a.len;simp;omega,λg=>?_⟩;rw [qJ] at g;rcases a.is with⟨rfl,k1,k2,_⟩|⟨_,_,k1⟩
  .obtain⟨ps,F,G,H,z⟩:=o.chain (a.stp.unfull g)
   have q:∀p∈ps,p.at_≠f/\21<=p.at_:=λp b=>by
    have y:p.at_∈d:=z.mem_iff.1 (au.2 ⟨p,b,rfl⟩);have s:=o.stp.grew.fresh _ y;have B:zU w (p.at_-21)=true:=by rw [o.stp.grew.taken,show p.at_-21+21=p.at_ from by omega];simp [y]
    exact⟨λA=>a.stp.grew.apart B (by rw [A];simp),s.1⟩
   refine⟨⟨f,l⟩::ps,⟨⟨j.1,by show f≠0;omega,hl l (al ..)⟩,?_,F.congr (λp b=>?_)⟩,rfl,by rw [aO,H],?_⟩
   .show (v.put f _).look D f=_;rw [qn,G]
   .obtain⟨I,J⟩:=q p b;show (v.put f _).look D (p.at_:Nat)=x.look D (p.at_:Nat);rw [z9 _ _ _ _ _ (by omega)];exact a.stp.look _ (λh=>(by cases h)) (by rw [az];exact I) (by omega) (by omega)
   .rw [aO];exact(z.cons f).trans (eM (l₁:=[f]))
  .rw [k1] at g;cases g
def Dn(args:Array Value):Sem Value:=Builtin.copy_ #[35, 35] 3 args
theorem GC(args:Array Value):Builtin.copy_ #[35, 35] 3 args=Dn args:=rfl
theorem U1(w:World)(b:Nat)(t:TypeId)(l:List UInt8)(h:yN w b t l)(m c:Nat)(p:List UInt8)(x:m+p.length<=l.length)(P:Nat->Prop)(g i f:Nat)(q:zL w P (some ⟨g,i,none⟩) p):
 ∃w',(Dn #[.slice (some ⟨b,m,none⟩) p.length c,.slice (some ⟨g,i,none⟩) p.length f]).run Tryz.prog w=.ok (goInt p.length) w'/\yN w' b t (qG l m p)/\za (λi=>i=b) w w':=by
 have d:=run_copy_row Tryz.prog w 35 35 3 5 b m p.length c ⟨g,i,none⟩ p.length f (l.map qA).toArray t (p.map qA) Tryz.underlying35 Jl h.at_ (by simp) (λj v s=>by
  obtain⟨a,rfl⟩:=et.1 s;simp only [ez] at a;rcases q with o|⟨b',y,n,_,_,u⟩;.rw [o] at a;simp at a
  .cases n
   rw [eO];simpa [qA] using u j a) (by simp;omega) (vv p)
 rw [ez] at d;refine⟨_,d,⟨?_⟩,⟨rfl,rfl,rfl,by simp,λk _ r=>setRow_other w b k _ (λe=>r (by rw [e]))⟩⟩;rw [setRow_heap w b _ _ t _ h.at_];congr 2;unfold qG;simp [iP,ms]
end prog
namespace prog
open Go.ChangeShapes Go.WideShapes Go.ChangeAt Go.RowKit disk ref
open keys (zh ze zy zs)
def zw(tree n:Nat):Pg:=⟨2,tree,[bytesOf 8 n]⟩
theorem gW{a n:Nat}(h:a<65536):(zw a n).Ok:=⟨by simp [zw],h,λi b=>by simp [zw] at b;rw [b,zP];rfl,by simp [zw,zk],by simp [zw]⟩
structure qV (b:List Value) (tree n:Nat):Prop where
 is:b=zm (zw tree n)\/(b=zm (Pg.new 0)/\tree=0/\n=0)
 tree:tree<65536
 num:n<9223372036854775808
structure GD (p:Pg) (tree n:Nat):Prop where
 ok:p.Ok
 link:p.link=tree
 len:p.items.length*zk p.kind<=8
 num:numOf ((p.bytes.drop 4).take (p.items.length*zk p.kind))=n
theorem qV.page{b:List Value}{a n:Nat}(h:qV b a n):∃p,b=zm p/\GD p a n:=by
 rcases h.is with rfl|⟨rfl,rfl,rfl⟩
 .have c:=gW (n:=n) h.tree;refine⟨_,rfl,c,rfl,by simp [zw,zk],?_⟩;rw [c.all];have:=h.num;simp only [zw,aU,lG,aM]
  exact ys _ _ (by have:(256:Nat)^8=18446744073709551616:=by decide
                   omega)
 .exact⟨_,rfl,Pg.new_ok 0 (by omega),rfl,by simp [Pg.new],by simp [Pg.new,numOf]⟩
theorem uW(w:World)(T:TypeId)(f:FuncId)(a:Addr)(y:VJ T f a)(X:Nat->Prop)(Z:World->Prop)(g n:Nat)(b:List Value)(C:qV b g n)
 (o:∀D,za (λ_=>False) w D->Calls Tryz.prog f #[.pointer (some a),.int .i64 1] D λe c=>e=.returned (.agg b.toArray)/\za X D c/\Z c) (G:∀i,X i->i<w.heap.size):
 Calls Tryz.prog 74 #[.iface T (.pointer (some a))] w λe w'=>e=.returned (.agg #[.int .i64 (g:Int),.int .i64 (n:Int)])/\∃c,za X w c/\Z c/\za (λi=>w.heap.size<=i) c w':=by
 obtain⟨p,rfl,k⟩:=C.page;have E:=C.num;clear C;obtain⟨t,B,ai⟩:∃t:List Value,t=zX/\∀w,(zeroValue 154).run Tryz.prog w=.ok (.agg t.toArray) w:=⟨zX,rfl,zY Tryz.infoPage⟩;have K:Hid (zT t):=by rw [B];exact zH
 clear B;have R:Hid _:=zZ Tryz.infoPage;have N:=y.meth;have P:=y.ent;have r:Hid _:=yf k.ok;have A:Hid (za (λ_=>False) w (w.alloc (.cells #[.int .i64 0,.int .i64 0] 145))):=za.alloc _ _ _;change Hid _ at k o G;go_enter Tryz.func74,Tryz.ntmps74;go_wp2_with fail;refine(o _ A).mono ?_;rintro e c ⟨rfl,l,M⟩;change Hid _ at l M
 go_wp2_with (first
  |(show wpList _ _ _ ({dst:=none,op:=.store _ (.tmp 3) (.tmp 5),type:=_,pos:=_,after:=_,guard:=_}::_) _ _;refine zi rfl 154 (.tmp 3) (.tmp 5) rfl _ _ (zm p) (by simp) rfl rfl (by rw [r.1];exact R) (by rw [aq,K.1,r.1]) r.2 ?_;have F:Hid (qR (c.alloc (.cells (zm p).toArray 154)) c.heap.size p):=⟨⟨ac c _⟩,k.ok⟩)
  |(go_at_call 126;refine(QI _ _ _ F).mono ?_;rintro e d ⟨rfl,rfl⟩;rw [k.link]))
 have ab:w.heap.size+1<=c.heap.size:=by have:=l.size;simpa using this
 have H:Hid (c.heap[w.heap.size]? =some (.cells #[.int .i64 0,.int .i64 0] 145 (0,0))):=(l.block _ (by simp) (λY=>by have:=G.out _ Y;omega)).trans (ac w _);have z:Hid (za (λ_=>False) c (c.alloc (.cells (zm p).toArray 154))):=za.alloc _ _ _;have ad:(c.alloc (.cells (zm p).toArray 154)).heap.size=c.heap.size+1:=by simp
 generalize (c.alloc (.cells (zm p).toArray 154))=J at*;refine(jj J _ p F).mono ?_;rintro e d ⟨rfl,ag,x⟩;have m:Hid (za (λ_=>False) J d):=by rw [x];exact kD
 clear x;have L:Hid _:=F.kept m id;have W:=m.size;unfold ja;have s:=k.len;have V:Hid _:=k.ok.len;generalize I:p.items.length*zk p.kind=q at*;change Hid _ at I;go_wp2_with fail;refine(yA d _ _ _ L.bs 4 q 124 n (by rw [V.out];omega) s (by rw [<-I.out];exact k.num) E).mono ?_;rintro e O ⟨rfl,u⟩;rw [u];clear u O;have h:Hid (d.heap[w.heap.size]? =_):=(m.block _ (by omega) id).trans ((z.block _ (by omega) id).trans H);have ak:d.cell? ⟨w.heap.size,0,none⟩=some (.int .i64 0):=cR h.out rfl;have ah:d.cell? ⟨w.heap.size,1,none⟩=some (.int .i64 0):=cR h.out rfl;have ae:=aa d w.heap.size 0 _ _ h.out;have af:=aa d w.heap.size 1 _ _ h.out;go_wp2;have Q:=heap_setCell_same d w.heap.size 0 _ _ (.int .i64 (g:Int)) h.out;have U:=heap_setCell_same _ w.heap.size 1 _ _ (.int .i64 (n:Int)) Q;have k1:za (λj=>j=w.heap.size) d ((d.setCell ⟨w.heap.size,0,none⟩ (.int .i64 (g:Int))).setCell ⟨w.heap.size,1,none⟩ (.int .i64 (n:Int))):=(za.setCell (S:=λj=>j=w.heap.size) d ⟨w.heap.size,0,none⟩ _ rfl).trans (za.setCell (S:=λj=>j=w.heap.size) _ ⟨w.heap.size,1,none⟩ _ rfl) iL;refine bodyPost_ret (v:=.agg #[.int .i64 (g:Int),.int .i64 (n:Int)]) (results_cell_row Tryz.results74 _ _ w.heap.size 145 _ (0,0) _ rfl U Tryz.underlying145 rfl (by kernel_rfl)) rfl ⟨rfl,c,(A.mono fE).trans l iL,M,?_⟩;exact(((z.trans m iL).mono fE).trans k1 (λj aj=>.inl (by omega)))
theorem Kz(w:World)(bd:Nat)(S:Nat->Prop)(D:Dk)(h:zg w bd S D)(g:0<=D.reads)(l:D.reads<=4611686018427387904)(a n:Nat)(q:qV (D.look 1) a n):
 Calls Tryz.prog 74 #[.iface 29 (.pointer (some ⟨bd,0,none⟩))] w λe w'=>e=.returned (.agg #[.int .i64 (a:Int),.int .i64 (n:Int)])/\zg w' bd S {D with reads:=D.reads+1}/\za (λi=>i=bd) w w':=by
 have m:=h.lt;have o:=m bd h.bdS;refine(uW w 29 81 ⟨bd,0,none⟩ (gJ _) (λi=>i=bd) (λb=>w.heap.size<=b.heap.size/\zg b bd S {D with reads:=D.reads+1 }) a n _ q (λp c=>?_) (λi d=>by rw [d];exact o)).mono ?_
 .refine(jr p bd S D (h.kept c nF) 1 (by constructor<;>omega) g l).mono ?_;rintro e b ⟨rfl,f,h2⟩;exact⟨rfl,h2,aD c.size h2.size,f⟩
 .rintro e w' ⟨rfl,b,f,⟨t,h2⟩,k⟩;refine⟨rfl,h2.kept k (λi d s=>?_),f.trans k (λj r=>.inr r)⟩;have:=m i d;omega
theorem Zd(w:World)(b bd:Nat)(S T:Nat->Prop)(D:Dk)(C:Ck)(h:Cw w b bd S T D C)(l:0<=D.reads)(m:D.reads<=4611686018427387904)(a n:Nat)(t:qV (C.look D 1) a n):
 Calls Tryz.prog 74 #[.iface 142 (.pointer (some ⟨b,0,none⟩))] w λe w'=>e=.returned (.agg #[.int .i64 (a:Int),.int .i64 (n:Int)])/\(∃k:Int,0<=k/\k<=1/\Cw w' b bd S T {D with reads:=D.reads+k} C)/\za (λi=>i=bd) w w':=by
 have o:=h.disk.lt;have v:=h.chg.lt;have q:=o bd h.disk.bdS;refine(uW w 142 192 ⟨b,0,none⟩ (dN _) (λi=>i=bd) (λd=>w.heap.size<=d.heap.size/\∃k:Int,0<=k/\k<=1/\Cw d b bd S T {D with reads:=D.reads+k} C) a n _ t (λr f=>?_) (λi c=>by rw [c];exact q)).mono ?_
 .refine(kh r b bd S T D C (h.kept0 f) 1 (by constructor<;>omega) l m).mono ?_;rintro e d ⟨rfl,g,h2⟩;exact⟨rfl,h2,aD f.size h2.size,g⟩
 .rintro e w' ⟨rfl,d,g,⟨z,k,h2,s,x⟩,p⟩;refine⟨rfl,⟨k,h2,s,x.kept p (λi c y=>?_) (λi c y=>?_)⟩,g.trans p (λj u=>.inr u)⟩;.have:=o i c;omega
  .have:=v i c;omega
end prog
namespace prog
open ref
variable {l:List En}
def yS(p:Pl)(l:List En):List En:=l.filter λx=> !x.pl.lt p
theorem kK(p:Pl)(A B:List En):yS p (A++B)=yS p A++yS p B:=by simp [yS]
theorem V3{p:Pl}(h:∀a∈l,a.pl.lt p=true):yS p l=[]:=iA.2 (λa b=>by rw [h a b];simp)
theorem ZU{p:Pl}(h:∀a∈l,a.pl.lt p=false):yS p l=l:=eU.2 (λa b=>by rw [h a b];rfl)
theorem V5(h:yO l)(p:Pl):l.drop (zt l p)=yS p l:=(h.cut p).2
theorem Kids.walk{h:Nat}{a:List (Pl×Tr h)}(k:Kids a)(o:a≠[])(p:Pl)(c:Nat)(u:c=zI (a.map λc=>(⟨c.1,false,0,c.2.blk⟩:En)) p):
 yS p (zJ a)=yS p (zJ (a.drop c))/\∃q t B,a.drop c=(q,t)::B/\(q,t)∈a/\∀b∈B,b∈a/\∀g∈b.2.ents,g.pl.lt p=false:=by
 obtain⟨A,q,t,B,rfl,l,r,s⟩:=k.child o p;obtain⟨y,w,n,z,x,v,m⟩:=k.mid;rw [<-u] at l;have i:(A++(q,t)::B).drop c=(q,t)::B:=by rw [<-l];exact iS
 refine⟨?_,q,t,B,i,by simp,λb f=>⟨by simp [f],λg d=>?_⟩⟩
 .rw [i,zA,kK]
  have:yS p (zJ A)=[]:=V3 (λg d=>by
   have j:A≠[]:=λe=>by rw [e] at d;simp [zJ] at d
   exact Pl.lt_of_lt_not (n g d) (r j))
  rw [this,aK]
 .cases h2:g.pl.lt p with
  |false=>rfl
  |true=>exact absurd (Pl.trans h2 (s b f)) (m b f g d)
def KA:List (Nat×Bool)->Nat
 |[]=>0
 |x::l=>x.1+if x.2 then KA l else 0
def Tr.fy(p:Pl):{h:Nat}->Tr h->Nat
 |0,_=>1
 |h+1,t=>1+KA ((t.2.drop (zI (Tr.items (h:=h+1) t) p)).map λc=>(Tr.fy p (h:=h) c.2,(yS p c.2.ents).isEmpty))
theorem uX(n:Nat)(b:Bool)(l:List (Nat×Bool)):KA ((n,b)::l)=n+if b then KA l else 0:=rfl
theorem Tr.fy_succ{h:Nat}(p:Pl)(t:Tr (h+1)):t.fy p=1+KA ((t.2.drop (zI t.items p)).map λc=>(c.2.fy p,(yS p c.2.ents).isEmpty)):=rfl
theorem bn{b:En}(h:b∈l):l.isEmpty=false:=by cases l with
 |nil=>cases h
 |cons a l=>rfl
theorem Tr.Good.fy_all:∀{h:Nat} {t:Tr h} (p:Pl),t.Good->1<=t.items.length->(∀f∈t.ents,f.pl.lt p=false)->t.fy p<=h+1
 |0,t,p,_,_,_=>aF 1
 |h+1,t,p,g,hl,ha=>by rw [yL] at hl;obtain⟨_,q,u,B,j,b,k⟩:=g.kids.walk (λe=>by rw [e] at hl;simp at hl) p _ rfl;have i:u.Good:=(g.kids.good _ b).1;have l:3<=u.items.length:=g.full _ b;have a:∀f∈u.ents,f.pl.lt p=false:=λf d=>ha f (vC b d);obtain⟨f,d⟩:=i.some_ent (by omega);have:=i.fy_all p (by omega) a;rw [Tr.fy_succ];show 1+KA (((t.2.drop (zI (t.2.map λc=>(⟨c.1,false,0,c.2.blk⟩:En)) p))).map _)<=_;rw [j,aO,uX,aw (by rw [ZU a,bn d];simp)];show 1+(u.fy p+0)<=_;omega
theorem Tr.Good.fy_none:∀{h:Nat} {t:Tr h} (p:Pl),t.Good->1<=t.items.length->yS p t.ents=[]->t.fy p<=h+1
 |0,t,p,_,_,_=>aF 1
 |h+1,t,p,g,hl,ha=>by
  rw [yL] at hl;obtain⟨m,q,u,B,d,k,o⟩:=g.kids.walk (λe=>by rw [e] at hl;simp at hl) p _ rfl;rw [Tr.ents_succ,m,d,zr,kK,iV] at ha;have n:u.Good:=(g.kids.good _ k).1;have r:3<=u.items.length:=g.full _ k;have:=n.fy_none p (by omega) ha.1
  have f:B=[]:=by
   cases B with
   |nil=>rfl
   |cons b B=>
    obtain⟨a,i⟩:=o b (al ..);have s:=g.full _ a;obtain⟨v,j⟩:=(g.kids.good _ a).1.some_ent (by omega);have l:yS p (zJ (b::B))=[]:=ha.2;rw [zr,kK,iV,ZU i] at l;rw [l.1] at j;cases j
  rw [Tr.fy_succ];show 1+KA (((t.2.drop (zI (t.2.map λc=>(⟨c.1,false,0,c.2.blk⟩:En)) p))).map _)<=_;rw [d,f,aO,uX,ig];simp only [KA];split<;>omega
theorem Tr.Good.fy_le:∀{h:Nat} {t:Tr h} (p:Pl),t.Good->1<=t.items.length->t.fy p<=2*h+1
 |0,t,p,_,_=>aF 1
 |h+1,t,p,g,hl=>by
  rw [yL] at hl;obtain⟨o,q,u,B,k,j,n⟩:=g.kids.walk (λe=>by rw [e] at hl;simp at hl) p _ rfl;have i:u.Good:=(g.kids.good _ j).1;have r:3<=u.items.length:=g.full _ j;have v:u.fy p<=2*h+1:=i.fy_le p (by omega);rw [Tr.fy_succ];show 1+KA (((t.2.drop (zI (t.2.map λc=>(⟨c.1,false,0,c.2.blk⟩:En)) p))).map _)<=_;rw [k,aO,uX]
  cases m:(yS p u.ents).isEmpty with
  |false=>simp;omega
  |true=>
   have h2:u.fy p<=h+1:=i.fy_none p (by omega) (List.isEmpty_iff.1 m);rw [aB rfl]
   cases B with
   |nil=>simp [KA];omega
   |cons b B=>
    obtain⟨f,a⟩:=n b (al ..);have s:=g.full _ f;have d:=(g.kids.good _ f).1;obtain⟨x,l⟩:=d.some_ent (by omega);have w:=d.fy_all p (by omega) a;rw [aO,uX,aw (by rw [ZU a,bn l];simp)];show 1+(u.fy p+(b.2.fy p+0))<=_;omega
end prog
namespace prog
open Go.ChangeShapes Go.WideShapes Go.ChangeAt Go.RowKit disk ref
open keys (zh ze zy zs)
variable {k:Int}{h bs:Nat}{w:World}{q:Option Nat}
structure V6 (R1 R2:Int) (all:List En) (r:Int) (pre:List En) (x:En):Prop where
 le:r<=R2
 first:pre=[]->r<=R1
 pre:(pre++[x])<+:all
structure dn (l:Nat) (J:Int->List En->(Nat->Prop)->World->Prop) (Jx:Int->List En->World->Prop) (B bd:Nat) (S:Nat->Prop) (D:Dk) (R1 R2:Int) (all:List En):Prop where
 inv:∀r pre Q A,J r pre Q A->zg A bd S {D with reads:=r}/\∀k,Q k->k<A.heap.size
 stp:∀r r' pre Q A A',J r pre Q A->r<=r'->za (λk=>k=bd) A A'->zg A' bd S {D with reads:=r'}->J r' pre Q A'
 yld:∀m r pre x Q A,J r pre Q A->V6 R1 R2 all r pre x->YieldAt Fence.wide m Tryz.prog l #[.agg (qt x).toArray] A (VZ J Jx B r (pre++[x]) Q A)
 bdB:bd<B
def jD(J:Int->List En->(Nat->Prop)->World->Prop)(Jx:Int->List En->World->Prop)(B:Nat)(W:World)(r:Int)(pre:List En)(Q:Nat->Prop)(y:List En)(n f:Nat)(e:Ending)(W':World):Prop:=
 (e=.returned (.bool true)/\∃(r':Int) (Q':Nat->Prop),r<=r'/\r'<=r+n/\(y=[]->r'<=r+f)/\J r' (pre++y) Q' W'/\za (λk=>k<B\/Q k) W W'/\∀k,Q' k->Q k\/W.heap.size<=k)\/(e=.returned (.bool false)/\∃r' q,Jx r' q W')
theorem KB(l:Nat)(ai:Int->List En->(Nat->Prop)->World->Prop)(aJ:Int->List En->World->Prop)(B bd:Nat)(S:Nat->Prop)(D:Dk)(aL aq:Int)(ag:List En)(af:dn l ai aJ B bd S D aL aq ag)(bH:aq<=4611686018427380000)
 (s:World) (r:Int) (pre:List En) (Q:Nat->Prop) (aN:ai r pre Q s) (bP:B<=s.heap.size) (p:Pl) (W:Nat) (bk:W<65536) (c:List En) (aC:∀e∈c,e.Ok) (ar:0<c.length) (aU:c.length<=6) (aV:yO c) (bi:D.look W=zm (zc 5 c))
 (bh:0<=r) (be:r+1<=aq) (a1:pre=[]->r+1<=aL) (aQ:(pre++yS p c)<+:ag):
 Calls Tryz.prog 191 #[.iface 29 (.pointer (some ⟨bd,0,none⟩)),.int .i64 W,.agg #[.string p.key,.int .i64 p.num],.func (.yield l) #[] #[]] s (jD ai aJ B s r pre Q (yS p c) 1 1):=by
 have bc:Hid (∀e∈c,e.Ok):=aC;have au:=(af.inv r pre Q s aN).1;have bp:Hid (zg s bd S {D with reads:=r }):=au;obtain⟨av⟩:Nonempty (PLift (ai r pre Q s)):=⟨⟨aN⟩⟩;have bF:=au.lt bd au.bdS;change Hid _ at af aV bi;clear aC aN au;go_enter Tryz.func191,Tryz.ntmps191;go_wp2_with fail;have Z:Hid (za (λ_=>False) s (s.alloc (.cells #[.string p.key,.int .i64 p.num] 107))):=za.alloc _ _ _;have aD:Hid ((s.alloc (.cells #[.string p.key,.int .i64 p.num] 107)).heap[s.heap.size]? =some (.cells #[.string p.key,.int .i64 p.num] 107 (0,0))):=ac s _;have bG:(s.alloc (.cells #[.string p.key,.int .i64 p.num] 107)).heap.size=s.heap.size+1:=by simp
 generalize (s.alloc (.cells #[.string p.key,.int .i64 p.num] 107))=aR at*;refine(cY aR bd S _ (bp.kept Z nF) bh (by show r<=_;omega) W bk 5 c (.inr rfl) bc (λh=>absurd h (by decide)) aU bi).mono ?_;rintro F f ⟨a,m,rfl,aF,E,J,I,aS⟩;have X:Hid (zg f bd S {D with reads:=r+1 }):=aF;have bv:=E.size;have aG:Hid (f.heap[s.heap.size]? =_):=(E.block _ (by omega) (by omega)).trans aD.out;change Hid _ at E J I;clear aF aS;go_wp2_with fail
 obtain⟨g,rfl⟩:∃g,a=some ⟨g,0,none⟩:=by
  rcases I.2 with⟨_,aw⟩|⟨g,aP,aX,aT,_⟩;.omega
  .cases aT;exact⟨g,rfl⟩
 have bs:c.length<=m:=by
  rcases I.2 with⟨aw,h2⟩|⟨bM,aP,aX,aT,_,bO,aw,h2,_⟩;.cases aw
  .cases aT;exact aw
 have y:Hid (za (λ_=>False) f (f.alloc (.cells #[.int .u8 5,.slice (some ⟨g,0,none⟩) c.length m] 209))):=za.alloc _ _ _;have am:Hid ((f.alloc (.cells #[.int .u8 5,.slice (some ⟨g,0,none⟩) c.length m] 209)).heap[f.heap.size]? =some (.cells #[.int .u8 5,.slice (some ⟨g,0,none⟩) c.length m] 209 (0,0))):=ac f _;have bJ:(f.alloc (.cells #[.int .u8 5,.slice (some ⟨g,0,none⟩) c.length m] 209)).heap.size=f.heap.size+1:=by simp
 generalize (f.alloc (.cells #[.int .u8 5,.slice (some ⟨g,0,none⟩) c.length m] 209))=x at*;have ay:Hid _:=J.kept y nF;have ap:Hid (x.heap[s.heap.size]? =_):=(y.block _ (by omega) id).trans aG.out;have aa:x.cell? ⟨f.heap.size,0,none⟩=some (.int .u8 5):=cR am.out rfl;have ab:x.cell? ⟨f.heap.size,1,none⟩=some (.slice (some ⟨g,0,none⟩) c.length m):=cR am.out rfl;have ae:x.cell? ⟨s.heap.size,0,none⟩=some (.string p.key):=cR ap.out rfl;have ad:x.cell? ⟨s.heap.size,1,none⟩=some (.int .i64 p.num):=cR ap.out rfl;have H:s.heap.size<x.heap.size:=by omega
 have G:f.heap.size<x.heap.size:=by omega
 have bb:=xW c p;have Y:Hid _:=V5 aV p;have U:Hid (∀w':World,za (λ_=>False) x w'->Calls Tryz.prog 175 #[.agg #[.int .u8 5,.slice (some ⟨g,0,none⟩) c.length m],.agg #[.string p.key,.int .i64 p.num]] w' λr a8=>r=.returned (.int .i64 (zt c p:Nat))/\za (λ_=>False) w' a8):=λw' a3=>jw w' _ _ m c (ay.kept a3 nF) aV 5 p;generalize zt c p=i at*;by_cases br:i<c.length
 .have aW:¬(m:Int)=(i:Int):=by omega
  have bx:¬m=i:=by omega
  have bz:(i:Int)<=(c.length:Int):=by omega
  go_region_held3 (λw'=>w'.cell? ⟨f.heap.size,0,none⟩=some (.int .u8 5)/\w'.cell? ⟨f.heap.size,1,none⟩=some (.slice (some ⟨g,0,none⟩) c.length m)/\w'.cell? ⟨s.heap.size,0,none⟩=some (.string p.key)/\w'.cell? ⟨s.heap.size,1,none⟩=some (.int .i64 p.num)) (go_keep) ((go_at_call 175;refine(U _ (za.drew _ _)).mono ?_;rintro F q ⟨rfl,d⟩;have C:Hid _:=d;have M:=(d.cell (a:=⟨f.heap.size,0,none⟩) G id).trans aa;have P:=(d.cell (a:=⟨f.heap.size,1,none⟩) G id).trans ab;have R:=(d.cell (a:=⟨s.heap.size,0,none⟩) H id).trans ae;have L:=(d.cell (a:=⟨s.heap.size,1,none⟩) H id).trans ad;clear d));have v:Hid _:=((((Z.mono fE).trans E iL).trans y fE).trans (za.drew (λ_=>False) x) fE).trans C fE;have A:Hid (za (λ_=>False) f q):=(y.trans (za.drew (λ_=>False) x) iL).trans C iL;have K:Hid (zg q bd S {D with reads:=r+1 }):=X.kept A nF;have O:PLift (ai (r+1) pre Q q):=⟨af.stp r (r+1) pre Q s q av.down (by omega) v K⟩;have aB:Hid _:=J.kept A nF;obtain⟨-, -, -, -, -, bD,bA⟩:=aB.cells 0 ar;have bf:Hid _:=(af.inv r pre Q s av.down).2;clear aa ab ae ad M P R L ay U y am aG ap aD E X;generalize ax:c.length-i=n at*;go_wp2_with fail;go_loopw [46] (λt wr=>∃(k:Nat) (T:Nat->Prop),k<=n/\t=.int .i64 k/\ai (r+1) (pre++(c.drop i).take k) T wr/\za (λj=>j<B\/Q j) q wr/\∀j,T j->Q j\/q.heap.size<=j) (λt _=>n-(intOf t).toNat)
  case atStart=>exact⟨0,Q,aj _,rfl,by simpa using O.down,za.refl _ _,λ_ h=>.inl h⟩
  case round=>
   obtain⟨k,T,bN,rfl,o,w,V⟩:=hrel;have ah:PLift (ai (r+1) (pre++(c.drop i).take k) T wr):=⟨o⟩;change Hid _ at w V;clear o;by_cases bB:k<n
   .have a0:Hid (qg wr (λb=>aR.heap.size<=b/\b<q.heap.size) (some ⟨g,0,none⟩) c):=by
     have:qg q (λb=>aR.heap.size<=b/\b<q.heap.size) (some ⟨g,0,none⟩) c:=aB.below;exact this.kept w (λb bL bu=>bu.elim (λh=>by omega) (λh=>by have:=bf.out b h;omega))
    obtain⟨bj,a4,aY,a6,ba, -, bK⟩:=a0.cells (i+k) (by omega)
    have u:(c.drop i).take (k+1)=(c.drop i).take k++[c[i+k]'(by omega)]:=by rw [ao (by simp;omega),lZ]
    have N:Hid _:=u;clear u
    have bm:Hid (V6 aL aq ag (r+1) (pre++(c.drop i).take k) (c[i+k]'(by omega))):=⟨be,λbw=>a1 (iV.1 bw).1,by
     rw [ak,<-N.out,Y.out];obtain⟨z,bt⟩:=aQ
     exact⟨(yS p c).drop (k+1)++z,by rw [<-bt,ak,<-ak ((yS p c).take (k+1)),aE,ak]⟩⟩
    generalize c[i+k]'(by omega)=F at*;have aO:0+(i+k)*5=i*5+k*5:=by rw [eJ];omega
    rw [aO] at bj a4 aY a6 ba;have al:Hid (za (λ_=>False) wr (wr.alloc (.cells #[.string F.pl.key,.int .i64 F.pl.num,.bool F.mark,.int .i64 (F.size:Int),.int .i64 (F.at_:Int)] 109))):=za.alloc _ _ _;have a2:PLift (ai (r+1) (pre++(c.drop i).take k) T (wr.alloc (.cells #[.string F.pl.key,.int .i64 F.pl.num,.bool F.mark,.int .i64 (F.size:Int),.int .i64 (F.at_:Int)] 109))):=⟨af.stp _ _ _ _ _ _ ah.down (eb _) (al.mono fE) ((af.inv _ _ _ _ ah.down).1.kept al nF)⟩;obtain⟨fn,tmps,assign,body,a5,bo⟩:=af.yld 5 _ _ F T _ a2.down bm.out;dsimp only [qt] at a5;refine(wpIn_wide (n:=6)).1 ?_;gi_wp2;refine bo.mono ?_;clear bo a5 bj a4 aY a6 ba;rintro e aZ (⟨rfl,aK,aI,aH,az⟩|⟨rfl,aA⟩)
    .have bl:PLift (ai (r+1) (pre++(c.drop i).take (k+1)) aK aZ):=⟨by rw [N.out,<-ak];exact aI⟩;have bC:(wr.alloc (.cells #[.string F.pl.key,.int .i64 F.pl.num,.bool F.mark,.int .i64 (F.size:Int),.int .i64 (F.at_:Int)] 109)).heap.size=wr.heap.size+1:=by simp
     have bq:=w.size
     have a9:Hid _:=(w.trans al fE).trans aH (λj o=>by
      rcases o with h|h;.exact .inl (.inl h)
      .exact(V j h).imp .inr id)
     have bg:Hid (∀j,aK j->Q j\/q.heap.size<=j):=λj o=>by
      rcases az j o with h|h;.exact V j h
      .exact .inr (by omega)
     clear aI aH az;gi_wp2;go_roundw
     case rel=>exact⟨k+1,aK,by omega,by go_num,bl.down,a9,bg⟩
     case measure=>simp [intOf];omega
    .obtain⟨a7⟩:Nonempty (PLift (aJ (r+1) (pre++(c.drop i).take k++[F]) aZ)):=⟨⟨aA⟩⟩;clear aA;gi_wp2;go_ret;exact .inr ⟨rfl,_,_,a7.down⟩
   .have bE:k=n:=by omega
    have u:(c.drop i).take k=yS p c:=by rw [an (by simp;omega)];exact Y.out
    have N:Hid _:=u;clear u;go_wp2;go_ret;refine .inl ⟨rfl,r+1,T,by omega,by omega,λ_=>by omega,by rw [<-N.out];exact ah.down,?_,λj o=>(V j o).imp id (λh=>by omega)⟩;exact(v.mono (λj o=>.inl (by rw [o];exact af.bdB))).trans w iL
 .obtain rfl:i=c.length:=by omega
  clear br bb;have bI:(c.length:Int)<=(m:Int):=by omega
  by_cases bn:m=c.length
  .subst bn;go_region_held3 (λw'=>w'.cell? ⟨f.heap.size,0,none⟩=some (.int .u8 5)/\w'.cell? ⟨f.heap.size,1,none⟩=some (.slice (some ⟨g,0,none⟩) c.length c.length)/\w'.cell? ⟨s.heap.size,0,none⟩=some (.string p.key)/\w'.cell? ⟨s.heap.size,1,none⟩=some (.int .i64 p.num)) (go_keep) ((go_at_call 175;refine(U _ (za.drew _ _)).mono ?_;rintro F q ⟨rfl,d⟩;have C:Hid _:=d;have M:=(d.cell (a:=⟨f.heap.size,0,none⟩) G id).trans aa;have P:=(d.cell (a:=⟨f.heap.size,1,none⟩) G id).trans ab;have R:=(d.cell (a:=⟨s.heap.size,0,none⟩) H id).trans ae;have L:=(d.cell (a:=⟨s.heap.size,1,none⟩) H id).trans ad;clear d));have v:Hid _:=((((Z.mono fE).trans E iL).trans y fE).trans (za.drew (λ_=>False) x) fE).trans C fE;have A:Hid _:=(y.trans (za.drew (λ_=>False) x) iL).trans C iL;have K:Hid _:=X.kept A nF;have O:PLift (ai (r+1) pre Q q):=⟨af.stp r (r+1) pre Q s q av.down (by omega) v K⟩;have ax:c.length-c.length=0:=by omega
   try rw [ax]
   have u:yS p c=[]:=by rw [<-Y.out];exact eo (by omega)
   have N:Hid _:=u;clear u aa ab ae ad M P R L;go_wp2_with fail;go_loopw [46] (λt wr=>t=.int .i64 0/\wr=q) (λt _=>0)
   case atStart=>exact⟨rfl,rfl⟩
   case round=>
    obtain⟨rfl,rfl⟩:=hrel;go_wp2;go_ret;refine .inl ⟨rfl,r+1,Q,by omega,by omega,λ_=>by omega,by rw [N.out,aM];exact O.down,?_,λj o=>.inl o⟩;exact v.mono (λj o=>.inl (by rw [o];exact af.bdB))
  .have aW:¬(m:Int)=(c.length:Int):=by omega
   go_region_held3 (λw'=>w'.cell? ⟨f.heap.size,0,none⟩=some (.int .u8 5)/\w'.cell? ⟨f.heap.size,1,none⟩=some (.slice (some ⟨g,0,none⟩) c.length m)/\w'.cell? ⟨s.heap.size,0,none⟩=some (.string p.key)/\w'.cell? ⟨s.heap.size,1,none⟩=some (.int .i64 p.num)) (go_keep) ((go_at_call 175;refine(U _ (za.drew _ _)).mono ?_;rintro F q ⟨rfl,d⟩;have C:Hid _:=d;have M:=(d.cell (a:=⟨f.heap.size,0,none⟩) G id).trans aa;have P:=(d.cell (a:=⟨f.heap.size,1,none⟩) G id).trans ab;have R:=(d.cell (a:=⟨s.heap.size,0,none⟩) H id).trans ae;have L:=(d.cell (a:=⟨s.heap.size,1,none⟩) H id).trans ad;clear d));have v:Hid _:=((((Z.mono fE).trans E iL).trans y fE).trans (za.drew (λ_=>False) x) fE).trans C fE;have A:Hid _:=(y.trans (za.drew (λ_=>False) x) iL).trans C iL;have K:Hid _:=X.kept A nF;have O:PLift (ai (r+1) pre Q q):=⟨af.stp r (r+1) pre Q s q av.down (by omega) v K⟩;have ax:c.length-c.length=0:=by omega
   try rw [ax]
   have u:yS p c=[]:=by rw [<-Y.out];exact eo (by omega)
   have N:Hid _:=u;clear u aa ab ae ad M P R L;go_wp2_with fail;go_loopw [46] (λt wr=>t=.int .i64 0/\wr=q) (λt _=>0)
   case atStart=>exact⟨rfl,rfl⟩
   case round=>
    obtain⟨rfl,rfl⟩:=hrel;go_wp2;go_ret;refine .inl ⟨rfl,r+1,Q,by omega,by omega,λ_=>by omega,by rw [N.out,aM];exact O.down,?_,λj o=>.inl o⟩;exact v.mono (λj o=>.inl (by rw [o];exact af.bdB))
structure KC where
 blk:Nat
 y:List En
 n:Nat
 f:Nat
def xm(ks:List KC):List En:=(ks.map KC.y).flatten
def kN(ks:List KC):Nat:=(ks.map KC.n).sum
def vZ(ks:List KC):Nat:=KA (ks.map λk=>(k.f,k.y.isEmpty))
theorem XK{ks:List KC}{k:Nat}(h:k<ks.length):xm (ks.take (k+1))=xm (ks.take k)++ks[k].y:=by
 rw [ao h];simp only [xm,eh,aO,ig,eV,aU,lG,aM]
theorem XL{ks:List KC}{k:Nat}(h:k<ks.length):kN (ks.take (k+1))=kN (ks.take k)+ks[k].n:=by
 rw [ao h];simp only [kN,eh,aO,ig,mH,List.sum_cons,List.sum_nil,lD]
theorem V7(ks:List KC)(k:Nat):kN (ks.take k)<=kN ks:=by
 conv=>rhs;rw [<-aE k ks]
 simp only [kN,eh,mH];omega
theorem V8{ks:List KC}{k:Nat}(h:k<ks.length):vZ (ks.drop k)=ks[k].f+if ks[k].y.isEmpty then vZ (ks.drop (k+1)) else 0:=by
 rw [aI h];rfl
theorem KD(ks:List KC)(k:Nat):xm (ks.take k)<+:xm ks:=by
 conv=>rhs;rw [<-aE k ks]
 exact⟨xm (ks.drop k),by simp only [xm,eh,eV]⟩
structure Jw (l:Nat) (J:Int->List En->(Nat->Prop)->World->Prop) (Jx:Int->List En->World->Prop) (B bd:Nat) (R1 R2:Int) (all:List En) (p:Pl) (k:KC):Prop where
 go:∀(A:World) (r:Int) (pre:List En) (Q:Nat->Prop),J r pre Q A->B<=A.heap.size->0<=r->r+k.n<=R2->(pre=[]->r+k.f<=R1)->(pre++k.y)<+:all->
  Calls Tryz.prog 191 #[.iface 29 (.pointer (some ⟨bd,0,none⟩)),.int .i64 k.blk,.agg #[.string p.key,.int .i64 p.num],.func (.yield l) #[] #[]] A (jD J Jx B A r pre Q k.y k.n k.f)
theorem Yi(l:Nat)(T:Int->List En->(Nat->Prop)->World->Prop)(U:Int->List En->World->Prop)(B bd:Nat)(S:Nat->Prop)(D:Dk)(W V:Int)(L:List En)(aQ:dn l T U B bd S D W V L)(bY:V<=4611686018427380000)
 (o:World) (r:Int) (pre:List En) (Q:Nat->Prop) (aL:T r pre Q o) (ca:B<=o.heap.size) (p:Pl) (J:Nat) (bt:J<65536) (c:List En) (aG:∀e∈c,e.Ok) (A:0<c.length) (aK:c.length<=6) (ba:yO c) (am:∀e∈c,e.mark=false/\e.size=0) (bl:D.look J=zm (zc 4 c))
 (ks:List KC) (b2:ks.length=c.length-zI c p) (X:∀k (bG:k<ks.length) (h2:zI c p+k<c.length),c[zI c p+k].at_=ks[k].blk) (au:∀k∈ks,Jw l T U B bd W V L p k)
 (bk:0<=r) (bQ:r+(1+kN ks:Nat)<=V) (a3:pre=[]->r+(1+vZ ks:Nat)<=W) (aR:(pre++xm ks)<+:L):
 Calls Tryz.prog 191 #[.iface 29 (.pointer (some ⟨bd,0,none⟩)),.int .i64 J,.agg #[.string p.key,.int .i64 p.num],.func (.yield l) #[] #[]] o (jD T U B o r pre Q (xm ks) (1+kN ks) (1+vZ ks)):=by
 have bs:Hid (∀e∈c,e.Ok):=aG;have bB:Hid (∀e∈c,e.mark=false/\e.size=0):=am;have bX:=cS p (l:=c) (λbA=>by rw [bA] at A;simp at A);have ao:=(aQ.inv r pre Q o aL).1;have bK:Hid (zg o bd S {D with reads:=r }):=ao;obtain⟨br⟩:Nonempty (PLift (T r pre Q o)):=⟨⟨aL⟩⟩;have bU:=ao.lt bd ao.bdS;change Hid _ at aQ ba bl au;clear aG aL ao am;go_enter Tryz.func191,Tryz.ntmps191;go_wp2_with fail;have aF:Hid (za (λ_=>False) o (o.alloc (.cells #[.string p.key,.int .i64 p.num] 107))):=za.alloc _ _ _;have bc:Hid ((o.alloc (.cells #[.string p.key,.int .i64 p.num] 107)).heap[o.heap.size]? =some (.cells #[.string p.key,.int .i64 p.num] 107 (0,0))):=ac o _;have bW:(o.alloc (.cells #[.string p.key,.int .i64 p.num] 107)).heap.size=o.heap.size+1:=by simp
 generalize (o.alloc (.cells #[.string p.key,.int .i64 p.num] 107))=aS at*;refine(cY aS bd S _ (bK.kept aF nF) bk (by show r<=_;omega) J bt 4 c (.inl rfl) bs (λ_=>bB) aK bl).mono ?_;rintro O d ⟨a,f,rfl,aC,G,y,x,aT⟩;have aA:Hid (zg d bd S {D with reads:=r+1 }):=aC;have bJ:=G.size;have aD:Hid (d.heap[o.heap.size]? =_):=(G.block _ (by omega) (by omega)).trans bc.out;change Hid _ at G y x;clear aC aT;go_wp2_with fail
 obtain⟨g,rfl⟩:∃g,a=some ⟨g,0,none⟩:=by
  rcases x.2 with⟨_,H⟩|⟨g,aP,aZ,aU,_⟩;.omega
  .cases aU;exact⟨g,rfl⟩
 have bC:c.length<=f:=by
  rcases x.2 with⟨H,h2⟩|⟨b8,aP,aZ,aU,_,b9,H,h2,_⟩;.cases H
  .cases aU;exact H
 have F:Hid (za (λ_=>False) d (d.alloc (.cells #[.int .u8 4,.slice (some ⟨g,0,none⟩) c.length f] 209))):=za.alloc _ _ _;have ab:Hid ((d.alloc (.cells #[.int .u8 4,.slice (some ⟨g,0,none⟩) c.length f] 209)).heap[d.heap.size]? =some (.cells #[.int .u8 4,.slice (some ⟨g,0,none⟩) c.length f] 209 (0,0))):=ac d _;have b3:(d.alloc (.cells #[.int .u8 4,.slice (some ⟨g,0,none⟩) c.length f] 209)).heap.size=d.heap.size+1:=by simp
 generalize (d.alloc (.cells #[.int .u8 4,.slice (some ⟨g,0,none⟩) c.length f] 209))=s at*;have aq:Hid _:=y.kept F nF;have ad:Hid (s.heap[o.heap.size]? =_):=(F.block _ (by omega) id).trans aD.out;have a4:s.cell? ⟨d.heap.size,0,none⟩=some (.int .u8 4):=cR ab.out rfl;have bh:s.cell? ⟨d.heap.size,1,none⟩=some (.slice (some ⟨g,0,none⟩) c.length f):=cR ab.out rfl;have aW:s.cell? ⟨o.heap.size,0,none⟩=some (.string p.key):=cR ad.out rfl;have aV:s.cell? ⟨o.heap.size,1,none⟩=some (.int .i64 p.num):=cR ad.out rfl;have ah:o.heap.size<s.heap.size:=by omega
 have az:d.heap.size<s.heap.size:=by omega
 change Hid _ at X;have av:Hid (∀w':World,za (λ_=>False) s w'->Calls Tryz.prog 176 #[.agg #[.int .u8 4,.slice (some ⟨g,0,none⟩) c.length f],.agg #[.string p.key,.int .i64 p.num]] w' λr bo=>r=.returned (.int .i64 (zI c p:Nat))/\za (λ_=>False) w' bo):=λw' a6=>vB w' _ _ f c (aq.kept a6 nF) ba 4 p;generalize zI c p=i at*;have bP:¬f=i:=by omega
 have bS:(i:Int)<=(c.length:Int):=by omega
 go_region_held3 (λw'=>w'.cell? ⟨d.heap.size,0,none⟩=some (.int .u8 4)/\w'.cell? ⟨d.heap.size,1,none⟩=some (.slice (some ⟨g,0,none⟩) c.length f)/\w'.cell? ⟨o.heap.size,0,none⟩=some (.string p.key)/\w'.cell? ⟨o.heap.size,1,none⟩=some (.int .i64 p.num)) (go_keep) ((go_at_call 176;refine(av _ (za.drew _ _)).mono ?_;rintro O v ⟨rfl,q⟩;have bm:=(q.cell (a:=⟨d.heap.size,0,none⟩) az id).trans a4;have a8:=(q.cell (a:=⟨d.heap.size,1,none⟩) az id).trans bh;have bb:=(q.cell (a:=⟨o.heap.size,0,none⟩) ah id).trans aW;have a2:=(q.cell (a:=⟨o.heap.size,1,none⟩) ah id).trans aV;change Hid _ at q));have ag:Hid _:=((((aF.mono fE).trans G iL).trans F fE).trans (za.drew (λ_=>False) s) fE).trans q fE;have I:Hid (za (λ_=>False) d v):=(F.trans (za.drew (λ_=>False) s) iL).trans q iL;have aY:Hid (zg v bd S {D with reads:=r+1 }):=aA.kept I nF;have a7:PLift (T (r+1) pre Q v):=⟨aQ.stp r (r+1) pre Q o v br.down (by omega) ag aY⟩;have aX:Hid (v.heap[o.heap.size]? =some (.cells #[.string p.key,.int .i64 p.num] 107 (0,0))):=(q.block _ ah id).trans ad.out;have ay:Hid _:=y.kept I nF;have bO:o.heap.size+1<v.heap.size:=by have:=I.size;have:=q.size;have ce:s.drew.heap.size=s.heap.size:=rfl;omega
 obtain⟨-, -, -, -, -, b5,bT⟩:=ay.cells 0 A;have ar:Hid _:=(aQ.inv r pre Q o br.down).2;clear a4 bh aW aV bm a8 bb a2 aq av F ab aD G aA;generalize cd:c.length-i=n at*;go_wp2_with fail;go_loopw [27] (λt wr=>∃(k:Nat) (u:Int) (C:Nat->Prop),k<=n/\t=.int .i64 k/\T u (pre++xm (ks.take k)) C wr/\r+1<=u/\u<=r+1+kN (ks.take k)/\(xm (ks.take k)=[]->u+vZ (ks.drop k)<=r+1+vZ ks)/\za (λj=>j<B\/Q j) v wr/\∀j,C j->Q j\/v.heap.size<=j) (λt _=>n-(intOf t).toNat)
 case atStart=>exact⟨0,r+1,Q,aj _,rfl,by simpa [xm] using a7.down,by omega,by simp [kN],λ_=>by simp,za.refl _ _,λ_ h=>.inl h⟩
 case round=>
  obtain⟨k,u,C,bG,rfl,w,bR,bw,M,m,N⟩:=hrel;have Z:PLift (T u (pre++xm (ks.take k)) C wr):=⟨w⟩;change Hid _ at m N M;clear w;by_cases bV:k<n
  .have a1:Hid (qg wr (λb=>aS.heap.size<=b/\b<v.heap.size) (some ⟨g,0,none⟩) c):=by
    have:qg v (λb=>aS.heap.size<=b/\b<v.heap.size) (some ⟨g,0,none⟩) c:=ay.below;exact this.kept m (λb b7 aO=>aO.elim (λh=>by omega) (λh=>by have:=ar.out b h;omega))
   obtain⟨bM,bH,bF,bI,bq, -, b6⟩:=a1.cells (i+k) (by omega);have Y:=X.out k (by omega) (by omega);have al:Hid (wr.heap[o.heap.size]? =some (.cells #[.string p.key,.int .i64 p.num] 107 (0,0))):=(m.block _ (by omega) (λaO=>aO.elim (λh=>by omega) (λh=>by have:=ar.out _ h;omega))).trans aX.out;have bv:Hid (Jw l T U B bd W V L p (ks[k]'(by omega))):=au.out _ (ai _);have P:=XK (ks:=ks) (k:=k) (by omega);have b1:=XL (ks:=ks) (k:=k) (by omega);have af:=V8 (ks:=ks) (k:=k) (by omega);have b4:=V7 ks (k+1);have aH:=KD ks (k+1);generalize ks[k]'(by omega)=ap at*;generalize c[i+k]'(by omega)=O at*;rw [Y] at bq;have aN:0+(i+k)*5=i*5+k*5:=by rw [eJ];omega
   rw [aN] at bM bH bF bI bq;change Hid _ at P af aH;clear Y X;have bZ:=(lT al);have aW:wr.cell? ⟨o.heap.size,0,none⟩=some (.string p.key):=cR al.out rfl;have aV:wr.cell? ⟨o.heap.size,1,none⟩=some (.int .i64 p.num):=cR al.out rfl;go_wp2_with fail;have ae:Hid (za (λ_=>False) wr (wr.alloc (.cells #[.string O.pl.key,.int .i64 O.pl.num,.bool O.mark,.int .i64 (O.size:Int),.int .i64 (ap.blk:Int)] 109))):=za.alloc _ _ _;have b0:(wr.alloc (.cells #[.string O.pl.key,.int .i64 O.pl.num,.bool O.mark,.int .i64 (O.size:Int),.int .i64 (ap.blk:Int)] 109)).heap.size=wr.heap.size+1:=by simp
   generalize (wr.alloc (.cells #[.string O.pl.key,.int .i64 O.pl.num,.bool O.mark,.int .i64 (O.size:Int),.int .i64 (ap.blk:Int)] 109))=bx at*;have a5:PLift (T u (pre++xm (ks.take k)) C bx):=⟨aQ.stp _ _ _ _ _ _ Z.down (eb _) (ae.mono fE) ((aQ.inv _ _ _ _ Z.down).1.kept ae nF)⟩;have bL:=m.size
   have E:pre++xm (ks.take k)=[]->u+ap.f<=W:=λR=>by obtain⟨H,h2⟩:=iV.1 R;have aM:=M.out h2;have am:=a3 H;rw [af.out] at aM;omega
   refine(bv.go bx u _ C a5.down (by omega) (by omega) (by omega) E (by
    rw [ak,<-P.out];obtain⟨z,bE⟩:=aH.out;obtain⟨bN,bj⟩:=aR
    exact⟨z++bN,by rw [<-bj,<-bE,ak,ak,ak]⟩)).mono ?_
   clear E;rintro e a0 (⟨rfl,aa,aJ,cc,cb,bz,aI,aE,aw⟩|⟨rfl,aa,bD,ax⟩)
   .have bu:PLift (T aa (pre++xm (ks.take (k+1))) aJ a0):=⟨by rw [P.out,<-ak];exact aI⟩
    have bp:Hid _:=(m.trans ae fE).trans aE (λj w=>by
     rcases w with h|h;.exact .inl (.inl h)
     .exact(N j h).imp .inr id)
    have be:Hid (∀j,aJ j->Q j\/v.heap.size<=j):=λj w=>by
     rcases aw j w with h|h;.exact N j h
     .exact .inr (by omega)
    have bg:Hid (xm (ks.take (k+1))=[]->aa+vZ (ks.drop (k+1))<=r+1+vZ ks):=λR=>by rw [P.out] at R;obtain⟨H,h2⟩:=iV.1 R;have aM:=M.out H;have am:=bz h2;rw [af.out,aB (by rw [h2];rfl)] at aM;omega
    clear aI aE aw bz;go_wp2;go_roundw
    case rel=>exact⟨k+1,aa,aJ,by omega,by go_num,bu.down,by omega,by omega,bg,bp,be⟩
    case measure=>simp [intOf];omega
   .obtain⟨bf⟩:Nonempty (PLift (U aa bD a0)):=⟨⟨ax⟩⟩;clear ax;go_wp2;go_ret;exact .inr ⟨rfl,_,_,bf.down⟩
  .have K:ks.take k=ks:=an (by omega);have bi:=eo (by omega);have a9:PLift (T u (pre++xm ks) C wr):=⟨by have:=Z.down;rw [K] at this;exact this⟩
   have bn:Hid (xm ks=[]->u<=r+1+vZ ks):=λR=>by have:=M.out (by rw [K];exact R);omega
   rw [K] at bw;clear K bi;go_wp2;go_ret;refine .inl ⟨rfl,u,C,by omega,by omega,λh=>by have:=bn.out h;omega,a9.down,?_,λj w=>(N j w).imp id (λh=>by omega)⟩;exact(ag.mono (λj w=>.inl (by rw [w];exact aQ.bdB))).trans m iL
theorem jD.mono{q:Int->List En->(Nat->Prop)->World->Prop}{c:Int->List En->World->Prop}{B:Nat}{s:World}{r:Int}{pre:List En}{Q:Nat->Prop}{p d:List En}{n a f b:Nat}{e:Ending}{g:World}
 (h:jD q c B s r pre Q p n f e g) (k:p=d) (u:n<=a) (i:f=b):jD q c B s r pre Q d a b e g:=by
 subst k;subst i;rcases h with⟨o,j,l,h2,t,m⟩|h;.exact .inl ⟨o,j,l,h2,by omega,m⟩
 .exact .inr h
def Tr.kid{h:Nat}(t:Tr h)(p:Pl):KC:=⟨t.blk,yS p t.ents,t.blocks.length,t.fy p⟩
theorem GF(a:List (Pl×Tr h))(p:Pl):xm (a.map λc=>c.2.kid p)=yS p (zJ a):=by
 induction a with
 |nil=>rfl
 |cons c a b=>rw [zr,kK,<-b];rfl
theorem GG(a:List (Pl×Tr h))(p:Pl):kN (a.map λc=>c.2.kid p)=(zE a).length:=by
 induction a with
 |nil=>rfl
 |cons c a b=>rw [qB,ag,<-b];rfl
theorem cz(a:List (Pl×Tr h))(c:Nat):(zE (a.drop c)).length<=(zE a).length:=by
 conv=>rhs;rw [<-aE c a]
 rw [qo,ag];omega
theorem Ze(l:Nat)(H:Int->List En->(Nat->Prop)->World->Prop)(n:Int->List En->World->Prop)(B bd:Nat)(S:Nat->Prop)(D:Dk)(f d:Int)(a:List En)(U:dn l H n B bd S D f d a)(u:d<=4611686018427380000)(p:Pl):
 ∀(h:Nat) (t:Tr h),t.Good->1<=t.items.length->t.items.length<=6->yO t.ents->t.LayV zm (λj=>D.look (j:Nat))->Jw l H n B bd f d a p (t.kid p)
 |0,(b,es),g,h1,h6,hs,hl=>⟨λA r pre Q F G q o s i=>KB l H n B bd S D f d a U u A r pre Q F G p b g.1 es g.2 h1 h6 hs hl q o s i⟩
 |h+1,(b,cs),g,h1,h6,hs,hl=>by
  have w:=aD h1 (eE (zx b cs));have Y:=aD (eE (zx b cs).symm) h6;have y:Kids cs:=g.kids;have I:cs≠[]:=λe=>by rw [e] at w;simp at w
  obtain⟨c,v⟩:∃c,c=zI (cs.map λc=>(⟨c.1,false,0,c.2.blk⟩:En)) p:=⟨_,rfl⟩;obtain⟨O,_⟩:=y.walk I p c v
  have E:∀c∈cs,c.2.ents.Sublist (zJ cs):=λc J=>by obtain⟨A,B,rfl⟩:=iX J;rw [zA,zr];exact((List.sublist_append_left _ _).trans (List.sublist_append_right _ _))
  have N:∀k∈(cs.drop c).map (λc=>c.2.kid p),Jw l H n B bd f d a p k:=λk L=>by obtain⟨x,V,rfl⟩:=au.1 L;have m:=eK V;have K:=y.good x m;exact Ze l H n B bd S D f d a U u p h x.2 K.1 (by have:3<=x.2.items.length:=g.full x m;omega) K.2.1 (List.Pairwise.sublist (E x m) hs) (hl.2 x m)
  have C:(cs.map λc=>(⟨c.1,false,0,c.2.blk⟩:En)).length=cs.length:=by simp
  have W:1+kN ((cs.drop c).map λc=>c.2.kid p)<=(Tr.blocks (h:=h+1) (b,cs)).length:=by rw [GG];show 1+(zE (cs.drop c)).length<=(b::zE cs).length;have:=cz cs c;rw [ae];omega
  have hF:1+vZ ((cs.drop c).map λc=>c.2.kid p)=Tr.fy p (h:=h+1) (b,cs):=by show 1+KA _=1+KA _;rw [v,ln];rfl
  have M:xm ((cs.drop c).map λc=>c.2.kid p)=yS p (zJ cs):=by rw [GF,O]
  refine⟨λA r pre Q F G q o s i=>?_⟩;have P:r+((Tr.blocks (h:=h+1) (b,cs)).length:Nat)<=d:=o;have z:pre=[]->r+(Tr.fy p (h:=h+1) (b,cs):Nat)<=f:=s
  refine(Yi l H n B bd S D f d a U u A r pre Q F G p b g.1 (cs.map λc:Pl×Tr h=>(⟨c.1,false,0,c.2.blk⟩:En)) g.items_ok (by omega) (by omega) y.items_srt (λe X=>by
   obtain⟨x,_,rfl⟩:=au.1 X;exact⟨rfl,rfl⟩) hl.1 ((cs.drop c).map λc=>c.2.kid p) (by rw [<-v,C];simp) (λk L h2=>?_) N q (by omega) (λR=>by rw [hF];exact z R) (by rw [M];exact i)).mono ?_
  .simp only [<-v,ia,lZ];rfl
  .intro e Z T;exact T.mono M W hF
structure vI (W:World) (b1 b2 b3 bd root:Nat) (p:Pl):Prop where
 root:W.heap[b1]? =some (.cells #[.int .i64 (root:Int)] 3 (0,0))
 rd:W.heap[b2]? =some (.cells #[.iface 29 (.pointer (some ⟨bd,0,none⟩))] 193 (0,0))
 pl:W.heap[b3]? =some (.cells #[.string p.key,.int .i64 p.num] 107 (0,0))
theorem vI.kept{i e:World}{b c d bd a:Nat}{p:Pl}(h:vI i b c d bd a p){X:Nat->Prop}(k:za X i e)(f:¬X b)(h2:¬X c)(g:¬X d):vI e b c d bd a p:=
 ⟨(k.block _ (lT h.root) f).trans h.root,(k.block _ (lT h.rd) h2).trans h.rd,(k.block _ (lT h.pl) g).trans h.pl⟩
theorem vJ(w:World)(a b c:Obj):(((w.alloc a).alloc b).alloc c).heap[w.heap.size]? =some a/\(((w.alloc a).alloc b).alloc c).heap[w.heap.size+1]? =some b/\(((w.alloc a).alloc b).alloc c).heap[w.heap.size+2]? =some c/\za (λ_=>False) w (((w.alloc a).alloc b).alloc c)/\(((w.alloc a).alloc b).alloc c).heap.size=w.heap.size+3:=by
 have k3:=za.alloc (λ_=>False) ((w.alloc a).alloc b) c;have d:((w.alloc a).alloc b).heap.size=w.heap.size+2:=by simp
 refine⟨(k3.block _ (by omega) id).trans (((za.alloc (λ_=>False) (w.alloc a) b).block w.heap.size (by simp) id).trans (ac w _)),(k3.block _ (by omega) id).trans (eF w _ _),?_,((za.alloc _ _ _).trans (za.alloc _ _ _) iL).trans k3 iL,by simp⟩;have:=ac ((w.alloc a).alloc b) c;rw [d] at this;exact this
theorem V9(w:World)(bd a:Nat)(p:Pl):Calls Tryz.prog 158 #[.iface 29 (.pointer (some ⟨bd,0,none⟩)),.int .i64 a,.agg #[.string p.key,.int .i64 p.num]] w λe w'=>
 e=.returned (.func (.func 190) #[] #[.pointer (some ⟨w.heap.size+1,0,none⟩),.pointer (some ⟨w.heap.size,0,none⟩),.pointer (some ⟨w.heap.size+2,0,none⟩)])/\vI w' (w.heap.size+1) w.heap.size (w.heap.size+2) bd a p/\za (λ_=>False) w w'/\w'.heap.size=w.heap.size+3:=by
 go_enter Tryz.func158,Tryz.ntmps158;go_wp2;go_ret;obtain⟨c,d,f,k3,b⟩:=vJ w (.cells #[.iface 29 (.pointer (some ⟨bd,0,none⟩))] 193) (.cells #[.int .i64 (a:Int)] 3) (.cells #[.string p.key,.int .i64 p.num] 107);exact⟨rfl,⟨d,c,f⟩,k3,b⟩
theorem Yj(f:World)(bd:Nat)(S:Nat->Prop)(D:Dk)(v x s c:Nat)(p:Pl)(b:vI f v x s bd c p)(w:List En)(bs:List Nat)(hF:q8 (λj=>D.look (j:Nat)) c w bs)(y:bs.length<=979)(hbs:∀j∈bs,21<=j)(J:bd<f.heap.size)(a:Int)(C:0<=a)(X:a<=4611686018427370000):
 vQ Tryz.prog 190 #[.pointer (some ⟨v,0,none⟩),.pointer (some ⟨x,0,none⟩),.pointer (some ⟨s,0,none⟩)] (λO:En=>#[.agg (qt O).toArray]) (λk=>k=bd) (λr _ A=>zg A bd S {D with reads:=r })
  (λr pre O _=>V6 (a+13) (a+bs.length) (yS p w) r pre O) (λr F=>F=yS p w/\r<=a+bs.length/\(F=[]->r<=a+13)) (λ_ _=>True) a f:=by
 intro l B u n m o g;have aa:f.cell? ⟨v,0,none⟩=some (.int .i64 (c:Int)):=cR b.root rfl;have ac:f.cell? ⟨x,0,none⟩=some (.iface 29 (.pointer (some ⟨bd,0,none⟩))):=cR b.rd rfl;have ae:f.cell? ⟨s,0,none⟩=some (.string p.key):=cR b.pl rfl;have ag:f.cell? ⟨s,1,none⟩=some (.int .i64 p.num):=cR b.pl rfl;have z:PLift (B a [] (λ_=>False) f):=⟨g⟩;rcases hF with⟨rfl,rfl,rfl⟩|⟨h,t,d,E,rfl,rfl,rfl⟩
 .clear n m o g b;go_enter Tryz.func190,Tryz.ntmps190;go_wp2;go_end0;exact⟨⟨_,rfl⟩,.inl ⟨a,[],_,⟨rfl,by simp,λ_=>by omega⟩,z.down⟩⟩
 .have af:=d.low y;have W:=d.good.fy_le p d.one;have ab:t.blk≠0:=by have:=hbs _ t.blk_mem;omega
  clear hbs;have V:dn l B u f.heap.size bd S D (a+13) (a+t.blocks.length) (yS p t.ents):=⟨n,m,o,J⟩;have U:=Ze l B u f.heap.size bd S D (a+13) (a+t.blocks.length) (yS p t.ents) V (by omega) p h t d.good d.one d.hi d.srt E;have R:Hid (Calls Tryz.prog 191 #[.iface 29 (.pointer (some ⟨bd,0,none⟩)),.int .i64 t.blk,.agg #[.string p.key,.int .i64 p.num],.func (.yield l) #[] #[]] f (jD B u f.heap.size f a [] (λ_=>False) (yS p t.ents) t.blocks.length (t.fy p))):=U.go f a [] (λ_=>False) g (aF _) C (eb _) (λ_=>by show a+(t.fy p:Nat)<=_;omega) (List.prefix_refl _);clear U V n m o g b E;have Y:((t.blk:Int) !=0)=true:=by simp;omega
  go_enter Tryz.func190,Tryz.ntmps190;go_wp2_with fail;refine R.out.mono ?_;rintro e K (⟨rfl,i,H,ad,Z,L,I,N,P⟩|⟨rfl,i,q,G⟩)
  .have M:PLift (B i ([]++yS p t.ents) H K):=⟨I⟩;have Q:Hid _:=L;clear I L N P;go_wp2;go_end0;exact⟨⟨_,rfl⟩,.inl ⟨i,yS p t.ents,H,⟨rfl,by omega,λh=>by have:=Q.out h;omega⟩,M.down⟩⟩
  .have T:PLift (u i q K):=⟨G⟩;clear G;go_wp2;go_end0;exact⟨⟨_,rfl⟩,.inr ⟨i,q,eI,T.down⟩⟩
structure zu (w:World) (bs:Nat) (k:Int) (q:Option Nat):Prop where
 at_:w.heap[bs]? =some (.cells #[.int .i32 k,.int .u32 0,.pointer (q.map λb=>⟨b,0,none⟩)] 104 (0,0))
theorem zu.lt(h:zu w bs k q):bs<w.heap.size:=(lT h.at_)
theorem zu.kept{w':World}{T:Nat->Prop}(h:zu w bs k q)(a:za T w w')(b:¬T bs):zu w' bs k q:=⟨(a.block bs h.lt b).trans h.at_⟩
theorem zu.c0(h:zu w bs k q):w.cell? ⟨bs,0,none⟩=some (.int .i32 k):=cR h.at_ rfl
theorem zu.c2(h:zu w bs k q):w.cell? ⟨bs,2,none⟩=some (.pointer (q.map λb=>⟨b,0,none⟩)):=cR h.at_ rfl
theorem zu.fz(h:zu w bs k q)(i:Nat):w.frozen? ⟨bs,i,none⟩=false:=aa w bs i _ _ h.at_
theorem zu.set(h:zu w bs k q)(a:Int):zu (w.setCell ⟨bs,0,none⟩ (.int .i32 a)) bs a q:=⟨heap_setCell_same w bs 0 _ _ _ h.at_⟩
theorem jh(w:World)(bs bd:Nat)(S:Nat->Prop)(D:Dk)(k:Int)(B:zu w bs k (some bd))(g:zg w bd S D)(P:¬S bs)(I:0<=D.reads)(L:D.reads<=4611686018427387904)(b n:Nat)(E:qV (D.look 1) b n)(p:Pl):
 Calls Tryz.prog 114 #[.pointer (some ⟨bs,0,none⟩),.agg #[.string p.key,.int .i64 p.num]] w λe w'=>∃y A z,e=.returned (.func (.func 190) #[] #[.pointer (some ⟨y,0,none⟩),.pointer (some ⟨A,0,none⟩),.pointer (some ⟨z,0,none⟩)])/\vI w' y A z bd b p/\(w.heap.size<=y/\w.heap.size<=A/\w.heap.size<=z)/\zg w' bd S {D with reads:=D.reads+1}/\za (λi=>i=bd) w w':=by
 have O:Hid (zg w bd S D):=g;have v:=B.c2;have hbs:=B.lt;have X:=g.lt bd g.bdS;have C:¬bs=bd:=λe=>P (by rw [e];exact g.bdS);change Hid _ at B E;clear g;go_enter Tryz.func114,Tryz.ntmps114;go_wp2_with fail;have o:Hid (za (λ_=>False) w (w.alloc (.cells #[.string p.key,.int .i64 p.num] 107))):=za.alloc _ _ _;have r:Hid ((w.alloc (.cells #[.string p.key,.int .i64 p.num] 107)).heap[w.heap.size]? =some (.cells #[.string p.key,.int .i64 p.num] 107 (0,0))):=ac w _;have U:(w.alloc (.cells #[.string p.key,.int .i64 p.num] 107)).heap.size=w.heap.size+1:=by simp
 generalize (w.alloc (.cells #[.string p.key,.int .i64 p.num] 107))=s at*;have J:=(o.cell (a:=⟨bs,2,none⟩) hbs id).trans v;have Q:s.cell? ⟨w.heap.size,0,none⟩=some (.string p.key):=cR r.out rfl;have N:s.cell? ⟨w.heap.size,1,none⟩=some (.int .i64 p.num):=cR r.out rfl;have j:bs<s.heap.size:=by omega
 have d:w.heap.size<s.heap.size:=by omega
 have m:¬w.heap.size=bd:=by omega
 have G:Hid (zg s.drew bd S D):=(O.kept o nF).kept (za.drew (λ_=>False) s) nF;clear v;have Y:∀w:World,(Instr.field 145 (.agg #[.int .i64 (b:Int),.int .i64 (n:Int)]) 0).run Tryz.prog w=.ok (.int .i64 (b:Int)) w:=λ_=>by kernel_rfl
 go_region_held3 (λw'=>w'.cell? ⟨bs,2,none⟩=some (.pointer (some ⟨bd,0,none⟩))/\w'.cell? ⟨w.heap.size,0,none⟩=some (.string p.key)/\w'.cell? ⟨w.heap.size,1,none⟩=some (.int .i64 p.num)) (go_keep) (first
  |(go_at_call 74;refine(Kz _ bd S D G I L b n E).mono ?_;rintro e h ⟨rfl,u,c⟩;have M:Hid (zg h bd S {D with reads:=D.reads+1 }):=u;have K:=(c.cell (a:=⟨bs,2,none⟩) j C).trans J;have H:h.cell? ⟨w.heap.size,0,none⟩=some (.string p.key):=(c.cell (a:=⟨w.heap.size,0,none⟩) d m).trans Q;have F:h.cell? ⟨w.heap.size,1,none⟩=some (.int .i64 p.num):=(c.cell (a:=⟨w.heap.size,1,none⟩) d m).trans N;have l:s.heap.size<=h.heap.size:=c.size;change Hid _ at c;clear u)
  |(go_at_call 158;refine(V9 _ bd b p).mono ?_;rintro e q ⟨rfl,x,f,V⟩;have t:Hid (za (λ_=>False) h q):=f;have R:q.cell? ⟨bs,2,none⟩=some (.pointer (some ⟨bd,0,none⟩)):=(f.cell (a:=⟨bs,2,none⟩) (ay j l) id).trans K;have T:q.cell? ⟨w.heap.size,0,none⟩=some (.string p.key):=(f.cell (a:=⟨w.heap.size,0,none⟩) (ay d l) id).trans H;have W:q.cell? ⟨w.heap.size,1,none⟩=some (.int .i64 p.num):=(f.cell (a:=⟨w.heap.size,1,none⟩) (ay d l) id).trans F;change Hid _ at x;clear f))
 go_wp2;go_ret;refine⟨_,_,_,rfl,x,?_,M.kept t nF,?_⟩;.omega
 .exact((((o.mono fE).trans (za.drew (λ_=>False) s) fE)).trans c iL).trans t fE
end prog
end Go.Proofs.YtcoengihaobddaaGreatDoor
