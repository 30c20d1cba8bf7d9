/- Part 10 of 50 of a proof: BWrite1, Root1, Ref2, Ref3, Ref3b, Disk8, Disk9 -/
import Derived.Test.YtcoengihaobddaaGreatDoorJe09
import Derived.Test.YtcoengihaobddaaGreatDoorJe08
import Derived.Laws.CopyRow
set_option maxHeartbeats 8000000
set_option linter.unusedVariables false
set_option linter.unusedSimpArgs false
set_option maxRecDepth 8000
namespace Go.Proofs.YtcoengihaobddaaGreatDoor
namespace prog
open Go.RowKit disk ref
variable {l m:List UInt8}{N:Nat}{C:Ck}
def jy(l:List UInt8)(i:Nat):List UInt8:=(l.drop i).take (min 124 (l.length-i))
def zZ(l:List UInt8):List (List UInt8):=(yh l.length).map (jy l)
theorem xu(l:List UInt8):(zZ l).length=(l.length+123)/124:=by simp [zZ,vy]
theorem gN{i:Nat}(h:i<=l.length):(jy l i).length=min 124 (l.length-i):=by simp [jy]
theorem dl(l:List UInt8)(k:Nat)(h:k<(zZ l).length):(zZ l)[k]=jy l (k*124):=by simp [zZ,yh]
theorem ua(l:List UInt8):∀k,(((List.range k).map λj=>jy l (j*124))).flatten=l.take (k*124)
 |0=>by simp
 |k+1=>by
  rw [List.range_succ,eh,aY,ua l k];simp only [aT,im,eo,lX,aM];rw [eS,lf,List.take_add];congr 1;unfold jy;by_cases h:l.length-k*124<=124;.rw [Nat.min_eq_right h,ao (by simp),ao (by simp;omega)]
  .rw [eE (by omega)]
theorem Xv(l:List UInt8):(zZ l).flatten=l:=by
 have:=ua l ((l.length+123)/124);rw [ao (by omega)] at this
 conv=>rhs;rw [<-this]
 simp only [zZ,yh,lB];rfl
theorem cO:∀p∈zZ l,1<=p.length/\p.length<=124:=λp a=>by
 obtain⟨k,b,rfl⟩:=ei a;rw [dl];rw [xu] at b;rw [gN (by omega)];omega
def fq(N:Nat)(l:List UInt8)(s:Nat×Ck×List UInt8):Nat×Ck×List UInt8:=((s.2.1.take N s.2.2).1,(s.2.1.take N s.2.2).2.1.put (s.2.1.take N s.2.2).1 (zo (qC s.1 l)),(s.2.1.take N s.2.2).2.2)
def Ck.body(C:Ck)(N:Nat)(m:List UInt8):List (List UInt8)->Nat×Ck×List UInt8
 |[]=>(0,C,m)
 |l::r=>fq N l (C.body N m r)
theorem VY(C:Ck)(N:Nat)(m l:List UInt8)(r:List (List UInt8)):C.body N m (l::r)=fq N l (C.body N m r):=rfl
theorem Xw{f a:Nat}{c b:Ck}{d e:List UInt8}(g:c.take N d=(a,b,e)):fq N l (f,c,d)=(a,b.put a (zo (qC f l)),e):=by
 unfold fq;generalize zo (qC f l)=v;rw [g]
theorem dm{e c:Ck}{d b:List UInt8}{r:List (List UInt8)}{f a:Nat}(h:C.body N m r=(f,e,d))(g:e.take N d=(a,c,b)):C.body N m (l::r)=(a,c.put a (zo (qC f l)),b):=by
 rw [VY,h,Xw g]
theorem cP{D:Dk}(h:qP (C.look D 2) m)(u:N<=1000)(g:List (List UInt8)):∀(f:Nat) (a:Ck) (b:List UInt8),C.body N m g=(f,a,b)->qP (a.look D 2) b/\a.ws.length<=C.ws.length+2*g.length/\f<65536:=by
 induction g with
 |nil=>
  intro f a b e;have k:(0,C,m)=(f,a,b):=e;simp only [eK] at k;obtain⟨rfl,rfl,rfl⟩:=k;exact⟨h,by simp,by decide⟩
 |cons l r q=>
  intro f a b e;rcases h1:C.body N m r with⟨n,d,c⟩;rcases h2:d.take N c with⟨s,p,t⟩;rw [dm h1 h2] at e;simp only [eK] at e;obtain⟨rfl,rfl,rfl⟩:=e;obtain⟨k1,k2,k3⟩:=q n d c h1;have i:=k1.take N;have o:=DT d N c;have j:=fk d N c;rw [h2] at i o j;simp only at i o j;refine⟨i.put _ _ (by omega),?_,by omega⟩;have:=qH p s (zo (qC n l));rw [ae];omega
structure K6 (D:Dk) (C C':Ck) (m m':List UInt8) (f:Nat) (ls:List (List UInt8)) (nb:List Nat):Prop where
 chn:JV D C' m'
 stp:ZN D C C' m m' [] nb
 nl:nb.length<=ls.length
 chain:C'.full=false->∃ps,xE (λj=>C'.look D (j:Nat)) ps/\jf ps=f/\ps.map zv.l=ls/\(ps.map zv.at_).Perm nb
theorem GC{D:Dk}(h:JV D C m)(n:D.bs.length<=1000):∀(k:List (List UInt8)) (f:Nat) (c:Ck) (i:List UInt8),(∀p∈k,p.length<=124)->C.body D.bs.length m k=(f,c,i)->∃d,K6 D C c m i f k d
 |[],f,c,i,_,e=>by cases e;exact⟨[],h,ZN.refl D C m,by simp,λ_=>⟨[],eR,rfl,rfl,eN _⟩⟩
 |l::r,f,c,i,hl,e=>by
  rcases h1:C.body D.bs.length m r with⟨E,x,w⟩;obtain⟨d,o⟩:=GC h n r E x w (λp b=>hl p (al _ b)) h1;obtain⟨K,v,L,u,t,a⟩:=fo o.chn n;rw [dm h1 t] at e;cases e;have j:=a.lt n;have st:=o.stp.trans a.stp;rw [aM] at st;refine⟨d++u,a.chn.put j.2 _,st.taken _ (a.mem.imp (af _) id),by have:=o.nl;have:=a.len;simp;omega,λg=>?_⟩;rw [qV] at g;rcases a.is with⟨rfl,k1,k2,_⟩|⟨_,_,k1⟩
  .obtain⟨ps,F,G,H,z⟩:=o.chain (a.stp.unfull g)
   have q:∀p∈ps,p.at_≠f/\21<=p.at_:=λp b=>by
    have y:p.at_∈d:=z.mem_iff.1 (av.2 ⟨p,b,rfl⟩);have s:=o.stp.grew.fresh _ y;have B:zX w (p.at_-21)=true:=by rw [o.stp.grew.taken,show p.at_-21+21=p.at_ from by omega];simp [y]
    exact⟨λA=>a.stp.grew.apart B (by rw [A];simp),s.1⟩
   refine⟨⟨f,l⟩::ps,⟨⟨j.1,by show f≠0;omega,hl l (am ..)⟩,?_,F.congr (λp b=>?_)⟩,rfl,by rw [aT,H],?_⟩
   .show (v.put f _).look D f=_;rw [qw,G]
   .obtain⟨I,J⟩:=q p b;show (v.put f _).look D (p.at_:Nat)=x.look D (p.at_:Nat);rw [qe _ _ _ _ _ (by omega)];exact a.stp.look _ (λh=>(by cases h)) (by rw [aD];exact I) (by omega) (by omega)
   .rw [aT];exact(z.cons f).trans (eZ (l₁:=[f]))
  .rw [k1] at g;cases g
def WB(args:Array Value):Sem Value:=Builtin.copy_ #[35, 35] 3 args
theorem BQ(args:Array Value):Builtin.copy_ #[35, 35] 3 args=WB args:=rfl
theorem DX(w:World)(b:Nat)(t:TypeId)(l:List UInt8)(h:xh w b t l)(f cap:Nat)(p:List UInt8)(u:f+p.length<=l.length)(P:Nat->Prop)(g i d:Nat)(o:zu w P (some ⟨g,i,none⟩) p):
 ∃w',(WB #[.slice (some ⟨b,f,none⟩) p.length cap,.slice (some ⟨g,i,none⟩) p.length d]).run Tryz.prog w=.ok (goInt p.length) w'/\xh w' b t (qS l f p)/\Kept (λi=>i=b) w w':=by
 have c:=run_copy_row Tryz.prog w 35 35 3 5 b f p.length cap ⟨g,i,none⟩ p.length d (l.map qk).toArray t (p.map qk) Tryz.underlying35 KW h.at_ (by simp) (λj v r=>by
  obtain⟨a,rfl⟩:=aW.1 r;simp only [eF] at a;rcases o with n|⟨b',x,m,_,_,s⟩;.rw [n] at a;simp at a
  .cases m
   rw [eO];simpa [qk] using s j a) (by simp;omega) (uG p)
 rw [eF] at c;refine⟨_,c,⟨?_⟩,⟨rfl,rfl,rfl,by simp,λk _ q=>setRow_other w b k _ (λe=>q (by rw [e]))⟩⟩;rw [setRow_heap w b _ _ t _ h.at_];congr 2;unfold qS;simp [i4,my]
end prog
namespace prog
open Go.ChangeShapes Go.WideShapes Go.ChangeAt Go.RowKit disk ref
open keys (zg zd zq zl)
def zx(tree n:Nat):Pg:=⟨2,tree,[bytesOf 8 n]⟩
theorem dn{a n:Nat}(h:a<65536):(zx a n).Ok:=⟨by simp [zx],h,λi b=>by simp [zx] at b;rw [b,zT];rfl,by simp [zx,zm],by simp [zx]⟩
structure yi (b:List Value) (tree n:Nat):Prop where
 is:b=zo (zx tree n)\/(b=zo (Pg.new 0)/\tree=0/\n=0)
 tree:tree<65536
 num:n<9223372036854775808
structure BR (p:Pg) (tree n:Nat):Prop where
 ok:p.Ok
 link:p.link=tree
 len:p.items.length*zm p.kind<=8
 num:numOf ((p.bytes.drop 4).take (p.items.length*zm p.kind))=n
theorem yi.page{b:List Value}{a n:Nat}(h:yi b a n):∃p,b=zo p/\BR p a n:=by
 rcases h.is with rfl|⟨rfl,rfl,rfl⟩
 .have c:=dn (n:=n) h.tree;refine⟨_,rfl,c,rfl,by simp [zx,zm],?_⟩;rw [c.all];have:=h.num;simp only [zx,eo,lX,aM]
  exact yJ _ _ (by have:(256:Nat)^8=18446744073709551616:=by decide
                   omega)
 .exact⟨_,rfl,Pg.new_ok 0 (by omega),rfl,by simp [Pg.new],by simp [Pg.new,numOf]⟩
theorem fs(w:World)(T:TypeId)(f:FuncId)(a:Addr)(y:Gi T f a)(X:Nat->Prop)(Y:World->Prop)(g n:Nat)(b:List Value)(C:yi b g n)
 (o:∀w0,Kept (λ_=>False) w w0->Calls Tryz.prog f #[.pointer (some a),.int .i64 1] w0 λe c=>e=.returned (.agg b.toArray)/\Kept X w0 c/\Y c) (F:∀i,X i->i<w.heap.size):
 Calls Tryz.prog 74 #[.iface T (.pointer (some a))] w λe w'=>e=.returned (.agg #[.int .i64 (g:Int),.int .i64 (n:Int)])/\∃c,Kept X w c/\Y c/\Kept (λi=>w.heap.size<=i) c w':=by
 obtain⟨p,rfl,k⟩:=C.page;have D:=C.num;clear C;obtain⟨t,B,ag⟩:∃t:List Value,t=z9/\∀w,(zeroValue 154).run Tryz.prog w=.ok (.agg t.toArray) w:=⟨z9,rfl,qa Tryz.infoPage⟩;have J:Hid (zW t):=by rw [B];exact zI
 clear B;have Q:Hid _:=qc Tryz.infoPage;have M:=y.meth;have O:=y.ent;have r:Hid _:=yv k.ok;have A:Hid (Kept (λ_=>False) w (w.alloc (.cells #[.int .i64 0,.int .i64 0] 145))):=Kept.alloc _ _ _;change Hid _ at k o F;go_enter Tryz.func74,Tryz.ntmps74;go_wp2_with fail;refine(o _ A).mono ?_;rintro e c ⟨rfl,l,L⟩;change Hid _ at l L
 go_wp2_with (first
  |(show wpList _ _ _ ({dst:=none,op:=.store _ (.tmp 3) (.tmp 5),type:=_,pos:=_,after:=_,guard:=_}::_) _ _;refine zi rfl 154 (.tmp 3) (.tmp 5) rfl _ _ (zo p) (by simp) rfl rfl (by rw [r.1];exact Q) (by rw [aw,J.1,r.1]) r.2 ?_;have E:Hid (yd (c.alloc (.cells (zo p).toArray 154)) c.heap.size p):=⟨⟨heap_alloc_new c _⟩,k.ok⟩)
  |(go_at_call 126;refine(YX _ _ _ E).mono ?_;rintro e d ⟨rfl,rfl⟩;rw [k.link]))
 have Z:w.heap.size+1<=c.heap.size:=by have:=l.size;simpa using this
 have G:Hid (c.heap[w.heap.size]? =some (.cells #[.int .i64 0,.int .i64 0] 145 (0,0))):=(l.block _ (by simp) (λW=>by have:=F.out _ W;omega)).trans (heap_alloc_new w _);have z:Hid (Kept (λ_=>False) c (c.alloc (.cells (zo p).toArray 154))):=Kept.alloc _ _ _;have ab:(c.alloc (.cells (zo p).toArray 154)).heap.size=c.heap.size+1:=by simp
 generalize (c.alloc (.cells (zo p).toArray 154))=I at*;refine(jZ I _ p E).mono ?_;rintro e d ⟨rfl,ae,x⟩;have m:Hid (Kept (λ_=>False) I d):=by rw [x];exact kD
 clear x;have K:Hid _:=E.kept m id;have V:=m.size;unfold jM;have s:=k.len;have U:Hid _:=k.ok.len;generalize H:p.items.length*zm p.kind=q at*;change Hid _ at H;go_wp2_with fail;refine(yQ d _ _ _ K.bs 4 q 124 n (by rw [U.out];omega) s (by rw [<-H.out];exact k.num) D).mono ?_;rintro e N ⟨rfl,u⟩;rw [u];clear u N;have h:Hid (d.heap[w.heap.size]? =_):=(m.block _ (by omega) id).trans ((z.block _ (by omega) id).trans G);have ai:d.cell? ⟨w.heap.size,0,none⟩=some (.int .i64 0):=cR h.out rfl;have af:d.cell? ⟨w.heap.size,1,none⟩=some (.int .i64 0):=cR h.out rfl;have ac:=aa d w.heap.size 0 _ _ h.out;have ad:=aa d w.heap.size 1 _ _ h.out;go_wp2;have P:=heap_setCell_same d w.heap.size 0 _ _ (.int .i64 (g:Int)) h.out;have R:=heap_setCell_same _ w.heap.size 1 _ _ (.int .i64 (n:Int)) P;have k1:Kept (λj=>j=w.heap.size) d ((d.setCell ⟨w.heap.size,0,none⟩ (.int .i64 (g:Int))).setCell ⟨w.heap.size,1,none⟩ (.int .i64 (n:Int))):=(Kept.setCell (S:=λj=>j=w.heap.size) d ⟨w.heap.size,0,none⟩ _ rfl).trans (Kept.setCell (S:=λj=>j=w.heap.size) _ ⟨w.heap.size,1,none⟩ _ rfl) iL;refine bodyPost_ret (v:=.agg #[.int .i64 (g:Int),.int .i64 (n:Int)]) (results_cell_row Tryz.results74 _ _ w.heap.size 145 _ (0,0) _ rfl R Tryz.underlying145 rfl (by kernel_rfl)) rfl ⟨rfl,c,(A.mono fE).trans l iL,L,?_⟩;exact(((z.trans m iL).mono fE).trans k1 (λj ah=>.inl (by omega)))
theorem VZ(w:World)(bd:Nat)(S:Nat->Prop)(D:Dk)(h:ze w bd S D)(k:0<=D.reads)(m:D.reads<=4611686018427387904)(a n:Nat)(q:yi (D.look 1) a n):
 Calls Tryz.prog 74 #[.iface 29 (.pointer (some ⟨bd,0,none⟩))] w λe w'=>e=.returned (.agg #[.int .i64 (a:Int),.int .i64 (n:Int)])/\ze w' bd S {D with reads:=D.reads+1}/\Kept (λi=>i=bd) w w':=by
 have o:=h.lt;have p:=o bd h.bdS;refine(fs w 29 81 ⟨bd,0,none⟩ (da _) (λi=>i=bd) (λb=>w.heap.size<=b.heap.size/\ze b bd S {D with reads:=D.reads+1 }) a n _ q (λw0 d=>?_) (λi f=>by rw [f];exact p)).mono ?_
 .refine(kg w0 bd S D (h.kept d nF) 1 (by constructor<;>omega) k m).mono ?_;rintro e b ⟨rfl,g,c⟩;exact⟨rfl,c,aF d.size c.size,g⟩
 .rintro e w' ⟨rfl,b,g,⟨t,c⟩,l⟩;refine⟨rfl,c.kept l (λi f s=>?_),g.trans l (λj r=>.inr r)⟩;have:=o i f;omega
theorem Qq(w:World)(b bd:Nat)(S T:Nat->Prop)(D:Dk)(C:Ck)(h:Cw w b bd S T D C)(m:0<=D.reads)(o:D.reads<=4611686018427387904)(a n:Nat)(t:yi (C.look D 1) a n):
 Calls Tryz.prog 74 #[.iface 142 (.pointer (some ⟨b,0,none⟩))] w λe w'=>e=.returned (.agg #[.int .i64 (a:Int),.int .i64 (n:Int)])/\(∃k:Int,0<=k/\k<=1/\Cw w' b bd S T {D with reads:=D.reads+k} C)/\Kept (λi=>i=bd) w w':=by
 have p:=h.disk.lt;have v:=h.chg.lt;have r:=p bd h.disk.bdS;refine(fs w 142 192 ⟨b,0,none⟩ (cz _) (λi=>i=bd) (λd=>w.heap.size<=d.heap.size/\∃k:Int,0<=k/\k<=1/\Cw d b bd S T {D with reads:=D.reads+k} C) a n _ t (λw0 g=>?_) (λi c=>by rw [c];exact r)).mono ?_
 .refine(vu w0 b bd S T D C (h.kept0 g) 1 (by constructor<;>omega) m o).mono ?_;rintro e d ⟨rfl,l,f⟩;exact⟨rfl,f,aF g.size f.size,l⟩
 .rintro e w' ⟨rfl,d,l,⟨z,k,f,s,x⟩,q⟩;refine⟨rfl,⟨k,f,s,x.kept q (λi c y=>?_) (λi c y=>?_)⟩,l.trans q (λj u=>.inr u)⟩;.have:=p i c;omega
  .have:=v i c;omega
end prog
namespace ref
open Go.ChangeShapes Go.WideShapes Go.ChangeAt Go.RowKit disk
open keys (zg zd zq zl)
theorem Y2.whole{vs:List zw}{a:ByteArray}{t:Value}(h:Y2 vs a vs.length t):
 (t=.int .i64 (-1)/\zO vs a=none)\/∃(m:Nat) (h:m<vs.length),t=.int .i64 (m:Int)/\zO vs a=some vs[m]:=by
 unfold Y2 at h;rw [eX] at h;rcases h with h|⟨m,c,_,b,d⟩;.exact .inl h
 .exact .inr ⟨m,c,b,d⟩
def kB(vs:List zw)(key:ByteArray):Bool:=match zO vs key with
 |none=>true
 |some v=>v.mark
theorem GD(w:World)(F s:Nat->Prop)(b:Nat)(vs:List zw)(d:Int)(h:qo w F s b vs d)(o:vs.length<=9223372036854775807)(c:ByteArray):
 Calls Tryz.prog 152 #[.pointer (some ⟨b,0,none⟩),.string c] w λe w'=>e=.returned (.bool (kB vs c))/\∃n,w'=w.drewN n:=by
 have q:Hid _:=h;obtain⟨a,cap,x,h⟩:=h;have k:Hid _:=h;clear h;go_enter Tryz.func152,Tryz.ntmps152;go_wp2_with fail;refine(xV _ F s b vs d q.out o c).mono ?_;rintro e u ⟨⟨i,rfl,j⟩,n,rfl⟩;rcases j.whole with⟨rfl,f⟩|⟨m,p,rfl,f⟩
 .have l:Hid _:=f;clear f j;go_wp2;go_ret;exact⟨zd (by simp [kB,l.out]),_,rfl⟩
 .have l:Hid _:=f;clear f j;obtain⟨g,rfl⟩:=k.out.rowAt (by omega);have r:=k.out.c0;obtain⟨_,_,v,_⟩:=k.out.cells m p;have t:decide ((m:Int)<0)=false:=decide_eq_false (by omega);go_wp2;go_ret;exact⟨zd (by simp [kB,l.out]),_,rfl⟩
theorem yL(w:World)(n:Int)(b:0<=n)(a:n<=4611686018427387904):
 Calls Tryz.prog 98 #[.int .i64 n] w λe w'=>e=.returned (.int .i64 (qd n.toNat))/\w'=w:=by
 go_enter Tryz.func98,Tryz.ntmps98;go_wp2;go_ret;exact⟨zg (by unfold qd;omega),rfl⟩
theorem ub(vs:List zw)(k:Nat)(h:k<vs.length):weight (vs.take (k+1))=weight (vs.take k)+qd vs[k].body.length:=by
 unfold weight;rw [ar h,eh,lJ];simp
theorem dp{vs:List zw}(h:∀v∈vs,v.body.length<=1000):weight vs<=12*vs.length:=by
 unfold weight
 induction vs with
 |nil=>simp
 |cons v l a=>
  have d:=a (λu b=>h u (al _ b));have c:=h v (am ..);simp only [aT,mz,ae];have:qd v.body.length<=12:=by unfold qd;omega
  omega
def xP(vs:List zw)(more:Nat)(blocks:Int):Bool:=decide (2*((more:Int)+weight vs)+24<=blocks)
theorem kC(w:World)(F G:Nat->Prop)(b:Nat)(vs:List zw)(j:Int)(h:qo w F G b vs j)(r:vs.length<=4398046511104)(l:∀v∈vs,v.body.length<=1000)(c:Int)(B:0<=c)(C:c<=1125899906842624)(d:Int):
 Calls Tryz.prog 151 #[.pointer (some ⟨b,0,none⟩),.int .i64 c,.int .i64 d] w λe w'=>e=.returned (.bool (xP vs c.toNat d))/\w'=w:=by
 obtain⟨a,cap,I,h⟩:=h;have y:=h.c0;change Hid _ at h l;go_enter Tryz.func151,Tryz.ntmps151;go_wp2;go_loop [7,8] (λt i=>∃k:Nat,k<=vs.length/\i=.int .i64 k/\t=.int .i64 (c+(weight (vs.take k):Nat))) (λ_ i=>vs.length-(intOf i).toNat)
 case atStart=>exact⟨0,ai _,rfl,by simp [weight]⟩
 case round=>
  obtain⟨k,E,rfl,rfl⟩:=hrel;have n:=dp (vs:=vs.take k) (λv u=>l v (aJ u));have o:(vs.take k).length<=vs.length:=by rw [ay];omega
  generalize m:weight (vs.take k)=z at*;change Hid _ at m;have x:z<=52776558133248:=by omega
  clear n o;by_cases f:k<vs.length
  .have s:Hid _:=ub vs k f;obtain⟨g,rfl⟩:=h.rowAt (by omega);obtain⟨_,_,_,H,q,J,_⟩:=h.cells k f;have D:=l.out vs[k] (ag f);have A:qd vs[k].body.length<=12:=by unfold qd;omega
   go_wp2_with (go_at_call 98;refine(yL _ _ (by omega) (by omega)).mono ?_;rintro e w' ⟨rfl,rfl⟩);go_round
   case rel=>exact⟨k+1,by omega,by go_num,by rw [s.out,m.out];go_num⟩
   case measure=>simp [intOf];omega
  .have p:weight vs=z:=by
    have e:vs.take k=vs:=ao (by omega);rw [<-m.out,e]
   change Hid _ at p;go_wp2;go_ret;exact⟨zd (by unfold xP;rw [p.out];congr 1;apply propext;omega),rfl⟩
theorem V6(A B:List UInt8)(k:Nat)(b:k<A.length)(a:k<B.length):qN (A.drop k) (B.drop k)=if A[k]=B[k] then qN (A.drop (k+1)) (B.drop (k+1)) else decide (A[k]<B[k]):=by
 rw [aL b,aL a];rfl
theorem ft(A B:List UInt8)(k:Nat)(h:A.length<=k\/B.length<=k)(c:k<=A.length)(d:k<=B.length):qN (A.drop k) (B.drop k)=decide (A.length<B.length):=by
 by_cases b:A.length<=k
 .rw [eb b];by_cases a:B.length<=k;.rw [eb a,decide_eq_false (by omega)];rfl
  .rw [aL (by omega),aG (by omega)];rfl
 .have a:B.length<=k:=h.resolve_left b;rw [aL (i:=k) (l:=A) (by omega),eb a,decide_eq_false (by omega)];rfl
theorem cQ(a b:ByteArray)(k:Nat)(d:k<a.size)(f:k<b.size)(r:Bool)(h:qN (a.data.toList.drop k) (b.data.toList.drop k)=r):
 ((a[k].toNat:Int)=b[k].toNat->qN (a.data.toList.drop (k+1)) (b.data.toList.drop (k+1))=r)/\(¬(a[k].toNat:Int)=b[k].toNat->decide ((a[k].toNat:Int)<b[k].toNat)=r):=by
 rw [V6 a.data.toList b.data.toList k (by simpa using d) (by simpa using f)] at h;have g:a.data.toList[k]'(by simpa using d)=a[k]:=rfl;have c:b.data.toList[k]'(by simpa using f)=b[k]:=rfl;rw [g,c] at h;constructor
 .intro e;rw [aB (l4.1 (by omega))] at h;exact h
 .intro e;rw [az (λc=>e (by rw [c]))] at h;rw [<-h];congr 1;apply propext;rw [lQ];omega
theorem xv(w:World)(a b:ByteArray)(q:a.size<=9223372036854775807)(p:b.size<=9223372036854775807):
 Calls Tryz.prog 189 #[.string a,.string b] w λe w'=>e=.returned (.bool (qD a b))/\∃n,w'=w.drewN n:=by
 go_enter Tryz.func189,Tryz.ntmps189;go_wp2;go_loopw [5] (λi wr=>∃k:Nat,k<=a.size/\k<=b.size/\i=.int .i64 k/\qN (a.data.toList.drop k) (b.data.toList.drop k)=qD a b/\∃n,wr=w.drewN n) (λi _=>a.size-(intOf i).toNat)
 case atStart=>exact⟨0,ai _,ai _,rfl,rfl,0,rfl⟩
 case round=>
  obtain⟨k,f,d,rfl,c,n,rfl⟩:=hrel;change Hid _ at c;by_cases m:k<a.size
  .by_cases j:k<b.size
   .have h:Hid _:=cQ a b k m j _ c.out;by_cases e:(a[k].toNat:Int)=b[k].toNat
    .have l:((a[k].toNat:Int) !=b[k].toNat)=false:=by simpa using e
     have g:Hid _:=e;clear e;go_wp2;go_quiet (fail);go_wp2;go_roundw
     case rel=>exact⟨k+1,by omega,by omega,by go_num,h.1 g,_,rfl⟩
     case measure=>simp [intOf];omega
    .have l:((a[k].toNat:Int) !=b[k].toNat)=true:=by simpa using e
     have g:Hid _:=e;clear e;go_wp2;go_quiet (fail);go_wp2;go_quiet (fail);go_wp2;go_ret;exact⟨zd (by rw [<-h.2 g.out];congr 1;apply propext;omega),_,by rw [World.drewN_drewN,World.drewN_drewN]⟩
   .go_wp2;go_ret;exact⟨zd (by rw [<-c.out,ft _ _ k (by simp;omega) (by simpa using f) (by simpa using d)];simp),_,rfl⟩
  .have o:decide ((k:Int)<a.size)=false:=decide_eq_false (by omega);go_wp2;go_ret;exact⟨zd (by rw [<-c.out,ft _ _ k (by simp;omega) (by simpa using f) (by simpa using d)];simp),_,rfl⟩
theorem dq(a b:ByteArray)(h:b.size<=a.size):((a.extract 0 b.size).toList==b.toList)=b.data.toList.isPrefixOf a.data.toList:=by
 rw [eU,eU,ByteArray.data_extract,Array.toList_extract,Bool.eq_iff_iff,mP,List.isPrefixOf_iff_prefix,List.prefix_iff_eq_take];simp [eq_comm]
theorem ud(a b:ByteArray)(h:a.size<b.size):b.data.toList.isPrefixOf a.data.toList=false:=by
 rw [iM];intro c;have:=(List.isPrefixOf_iff_prefix.1 c).length_le;simp at this;omega
theorem xW(w:World)(a b:ByteArray)(d:a.size<=9223372036854775807)(c:b.size<=9223372036854775807):
 Calls Tryz.prog 188 #[.string a,.string b] w λe w'=>e=.returned (.bool (b.data.toList.isPrefixOf a.data.toList))/\w'=w:=by
 by_cases h:b.size<=a.size
 .go_enter Tryz.func188,Tryz.ntmps188;go_wp2;go_ret;exact⟨zd (dq a b h),rfl⟩
 .go_enter Tryz.func188,Tryz.ntmps188;go_wp2;go_ret;exact⟨zd (ud a b (by omega)).symm,rfl⟩
end ref
namespace ref
open Go.ChangeShapes Go.WideShapes Go.ChangeAt Go.RowKit disk
open keys (zg zd zq zl zh bN xM)
theorem xK(s:ByteArray)(w:World)(a:s.size<=maxLen){k:Bool}(h:zh s.data.toList=k):
 Calls Tryz.prog 90 #[.string s] w λe w'=>e=.returned (.int .i64 (xM k))/\w'=w:=by
 rw [<-h];exact bN s w a
def ue:Bool->Nat->Int
 |false,_=>2
 |true,n=>if 300<n then 3 else 0
def ye:Bool->Bool->Int
 |false,_=>2
 |true,true=>5
 |true,false=>0
theorem QW(w:World)(s:ByteArray)(d:s.size<=maxLen)(a:Option Addr)(n cap:Nat):
 Calls Tryz.prog 93 #[.string s,.slice a n cap] w λe w'=>e=.returned (.int .i64 (ue (zh s.data.toList) n))/\w'=w:=by
 cases b:zh s.data.toList
 .have c:Hid _:=b;clear b;go_enter Tryz.func93,Tryz.ntmps93;go_wp2_with (go_at_call 90;refine(xK _ _ d c).mono ?_;rintro e w' ⟨rfl,rfl⟩;unfold xM);go_ret;exact⟨rfl,rfl⟩
 .have c:Hid _:=b;clear b;by_cases f:300<n
  .go_enter Tryz.func93,Tryz.ntmps93;go_wp2_with (go_at_call 90;refine(xK _ _ d c).mono ?_;rintro e w' ⟨rfl,rfl⟩;unfold xM);go_ret;exact⟨zg (aB f).symm,rfl⟩
  .go_enter Tryz.func93,Tryz.ntmps93;go_wp2_with (go_at_call 90;refine(xK _ _ d c).mono ?_;rintro e w' ⟨rfl,rfl⟩;unfold xM);go_ret;exact⟨zg (az f).symm,rfl⟩
theorem bG(w:World)(F j:Nat->Prop)(b:Nat)(vs:List zw)(a:Int)(h:qo w F j b vs a)(f:vs.length<=9223372036854775807)(s:ByteArray)(i:s.size<=maxLen):
 Calls Tryz.prog 100 #[.pointer (some ⟨b,0,none⟩),.string s] w λe w'=>e=.returned (.int .i64 (ye (zh s.data.toList) (kB vs s)))/\∃n,w'=w.drewN n:=by
 change Hid _ at h;cases c:zh s.data.toList
 .have d:Hid _:=c;clear c;go_enter Tryz.func100,Tryz.ntmps100;go_wp2_with (go_at_call 90;refine(xK _ _ i d).mono ?_;rintro e w' ⟨rfl,rfl⟩;unfold xM);go_ret;exact⟨rfl,0,rfl⟩
 .have d:Hid _:=c;clear c;cases g:kB vs s
  all_goals
   change Hid _ at g;go_enter Tryz.func100,Tryz.ntmps100
   go_wp2_with (first
    |(go_at_call 90;refine(xK _ _ i d).mono ?_;rintro e w' ⟨rfl,rfl⟩;unfold xM)
    |(go_at_call 152;refine(GD _ F j b vs a h f s).mono ?_;rintro e w' ⟨rfl,n,rfl⟩;rw [g.out]))
   go_ret;exact⟨rfl,_,rfl⟩
def QX:Bool->Option zw->Int
 |false,_=>2
 |true,none=>5
 |true,some _=>0
theorem cS(w:World)(F m:Nat->Prop)(b:Nat)(vs:List zw)(a:Int)(h:qo w F m b vs a)(f:vs.length<=9223372036854775807)(s:ByteArray)(l:s.size<=maxLen)(n:Int):
 Calls Tryz.prog 101 #[.pointer (some ⟨b,0,none⟩),.string s,.int .i64 n] w λe w'=>e=.returned (.int .i64 (QX (zh s.data.toList) (qK vs s n)))/\w'=w:=by
 change Hid _ at h;cases j:zh s.data.toList
 .have g:Hid _:=j;clear j;go_enter Tryz.func101,Tryz.ntmps101;go_wp2_with (go_at_call 90;refine(xK _ _ l g).mono ?_;rintro e w' ⟨rfl,rfl⟩;unfold xM);go_ret;exact⟨rfl,rfl⟩
 .have g:Hid _:=j;clear j;rcases cv vs s n with⟨d,c⟩|⟨i,o,d,c⟩
  .rw [c];have k:Hid _:=d;clear d c;go_enter Tryz.func101,Tryz.ntmps101
   go_wp2_with (first
    |(go_at_call 90;refine(xK _ _ l g).mono ?_;rintro e w' ⟨rfl,rfl⟩;unfold xM)
    |(go_at_call 153;refine(xN _ F m b vs a h f s n).mono ?_;rintro e w' ⟨rfl,rfl⟩;rw [k.out]))
   go_ret;exact⟨rfl,rfl⟩
  .rw [c];have k:Hid _:=d;clear d c;go_enter Tryz.func101,Tryz.ntmps101
   go_wp2_with (first
    |(go_at_call 90;refine(xK _ _ l g).mono ?_;rintro e w' ⟨rfl,rfl⟩;unfold xM)
    |(go_at_call 153;refine(xN _ F m b vs a h f s n).mono ?_;rintro e w' ⟨rfl,rfl⟩;rw [k.out]))
   go_ret;exact⟨rfl,rfl⟩
def yF:Bool->Option zw->Int
 |false,_=>2
 |true,none=>5
 |true,some v=>cond v.mark 5 0
def jO(w:World)(G:Nat->Prop)(o:Option zw)(x:Value)(c:Int):Prop:=
 (c=0->∃u a cap,o=some u/\x=.slice a u.body.length cap/\zu w G a u.body)/\(c≠0->x=.slice none 0 0)
theorem BS(w:World)(F x:Nat->Prop)(b:Nat)(vs:List zw)(c:Int)(h:qo w F x b vs c)(f:vs.length<=9223372036854775807)(s:ByteArray)(q:s.size<=maxLen)(n:Int):
 Calls Tryz.prog 107 #[.pointer (some ⟨b,0,none⟩),.string s,.int .i64 n] w λe w'=>
  (∃B,e=.returned (.tuple #[B,.int .i64 (yF (zh s.data.toList) (qK vs s n))])/\jO w x (qK vs s n) B (yF (zh s.data.toList) (qK vs s n)))/\w'=w:=by
 have t:Hid _:=h;obtain⟨a,cap,E,h⟩:=h;have u:Hid _:=h;clear h;cases r:zh s.data.toList
 .have m:Hid _:=r;clear r;go_enter Tryz.func107,Tryz.ntmps107;go_wp2_with (go_at_call 90;refine(xK _ _ q m).mono ?_;rintro e w' ⟨rfl,rfl⟩;unfold xM);go_ret2;exact⟨⟨_,rfl,by simp [jO,yF]⟩,rfl⟩
 .have m:Hid _:=r;clear r;rcases cv vs s n with⟨o,d⟩|⟨i,z,o,d⟩
  .rw [d];have p:Hid _:=o;clear o d;go_enter Tryz.func107,Tryz.ntmps107
   go_wp2_with (first
    |(go_at_call 90;refine(xK _ _ q m).mono ?_;rintro e w' ⟨rfl,rfl⟩;unfold xM)
    |(go_at_call 153;refine(xN _ F x b vs c t f s n).mono ?_;rintro e w' ⟨rfl,rfl⟩;rw [p.out]))
   go_ret2;exact⟨⟨_,rfl,by simp [jO,yF]⟩,rfl⟩
  .rw [d];have p:Hid _:=o;clear o d;obtain⟨g,rfl⟩:=u.rowAt (by omega);have A:=u.c0;obtain⟨_,_,d,y,l,D,v⟩:=u.cells i z;change Hid _ at v;have C:decide ((i:Int)<0)=false:=decide_eq_false (by omega);cases j:vs[i].mark
   .rw [j] at d;have k:Hid _:=j;clear j;go_enter Tryz.func107,Tryz.ntmps107
    go_wp2_with (first
     |(go_at_call 90;refine(xK _ _ q m).mono ?_;rintro e w' ⟨rfl,rfl⟩;unfold xM)
     |(go_at_call 153;refine(xN _ F x b vs c t f s n).mono ?_;rintro e w' ⟨rfl,rfl⟩;rw [p.out]))
    go_ret2;exact⟨⟨.slice y vs[i].body.length l,by simp [yF,k.out],by simp only [jO,yF,k.out,cond_false];exact⟨λ_=>⟨vs[i],y,l,rfl,rfl,v⟩,λh=>absurd rfl h⟩⟩,rfl⟩
   .rw [j] at d;have k:Hid _:=j;clear j;go_enter Tryz.func107,Tryz.ntmps107
    go_wp2_with (first
     |(go_at_call 90;refine(xK _ _ q m).mono ?_;rintro e w' ⟨rfl,rfl⟩;unfold xM)
     |(go_at_call 153;refine(xN _ F x b vs c t f s n).mono ?_;rintro e w' ⟨rfl,rfl⟩;rw [p.out]))
    go_ret2;exact⟨⟨_,by simp [yF,k.out];rfl,by simp [jO,yF,k.out]⟩,rfl⟩
theorem DY(w:World)(F A:Nat->Prop)(b:Nat)(vs:List zw)(j:Int)(h:qo w F A b vs j)(p:vs.length<=9223372036854775807)(s:ByteArray)(z:s.size<=maxLen):
 Calls Tryz.prog 103 #[.pointer (some ⟨b,0,none⟩),.string s] w λe w'=>
  (∃G n,e=.returned (.tuple #[G,.int .i64 n,.int .i64 (yF (zh s.data.toList) (zO vs s))])/\jO w A (zO vs s) G (yF (zh s.data.toList) (zO vs s))/\
   (yF (zh s.data.toList) (zO vs s)=0->∀u,zO vs s=some u->n=u.num))/\∃n,w'=w.drewN n:=by
 have D:Hid _:=h;obtain⟨a,cap,J,h⟩:=h;have q:Hid _:=h;clear h;cases o:zh s.data.toList
 .have r:Hid _:=o;clear o;go_enter Tryz.func103,Tryz.ntmps103;go_wp2_with (go_at_call 90;refine(xK _ _ z r).mono ?_;rintro e w' ⟨rfl,rfl⟩;unfold xM)
  go_ret3
  exact⟨⟨_,_,rfl,by simp [jO,yF],by simp [yF]⟩,0,rfl⟩
 .have r:Hid _:=o;clear o;go_enter Tryz.func103,Tryz.ntmps103;go_wp2_with (go_at_call 90;refine(xK _ _ z r).mono ?_;rintro e w' ⟨rfl,rfl⟩;unfold xM);refine(xV _ F A b vs j D p s).mono ?_;rintro e I ⟨⟨i,rfl,t⟩,L,rfl⟩;rcases t.whole with⟨rfl,l⟩|⟨m,C,rfl,l⟩
  .have c:Hid _:=l;clear l t;go_wp2
   go_ret3
   exact⟨⟨_,_,by rw [c.out];rfl,by rw [c.out];simp [jO,yF],by rw [c.out];simp⟩,_,rfl⟩
  .have c:Hid _:=l;clear l t;obtain⟨g,rfl⟩:=q.rowAt (by omega);have E:=q.c0;obtain⟨_,K,v,y,k,M,x⟩:=q.cells m C;change Hid _ at x;have H:decide ((m:Int)<0)=false:=decide_eq_false (by omega);cases d:vs[m].mark
   .rw [d] at v;have f:Hid _:=d;clear d;go_wp2;go_quiet (fail);go_wp2
    go_ret3
    exact⟨⟨.slice y vs[m].body.length k,vs[m].num,by rw [c.out];simp [yF,f.out],by rw [c.out];simp only [jO,yF,f.out,cond_false];exact⟨λ_=>⟨vs[m],y,k,rfl,rfl,x⟩,λh=>absurd rfl h⟩,
     by rw [c.out];intro _ u B;cases B;rfl⟩,_,by rw [World.drewN_drewN]⟩
   .rw [d] at v;have f:Hid _:=d;clear d;go_wp2
    go_ret3
    exact⟨⟨_,_,by rw [c.out];simp [yF,f.out];exact⟨rfl,rfl⟩,by rw [c.out];simp [jO,yF,f.out],by rw [c.out];simp [yF,f.out]⟩,_,rfl⟩
theorem V9(w:World)(u v:zw)(j k:Value)(m:j.oneCell'=true)(l:k.oneCell'=true)(d:u.key.size<=9223372036854775807)(g:v.key.size<=9223372036854775807):
 Calls Tryz.prog 157 #[.agg #[.string u.key,.int .i64 u.num,.bool u.mark,j],.agg #[.string v.key,.int .i64 v.num,.bool v.mark,k]] w λe w'=>e=.returned (.bool (u.ahead v))/\Kept (λ_=>False) w w':=by
 cases b:qD u.key v.key
 .have a:Hid _:=b;clear b;by_cases c:u.key.toList=v.key.toList
  .have f:Hid _:=yr.1 c;go_enter Tryz.func157,Tryz.ntmps157;go_wp2_with (go_at_call 189;refine(xv _ u.key v.key d g).mono ?_;rintro e h ⟨rfl,n,rfl⟩;rw [a.out]);go_ret;exact⟨zd (by unfold zw.ahead;rw [a.out,aG f.out];simp),((Kept.alloc _ _ _).trans (Kept.alloc _ _ _) iL).trans kD iL⟩
  .have i:(u.key.toList==v.key.toList)=false:=by simpa using c
   have f:Hid _:=mt yr.2 c;go_enter Tryz.func157,Tryz.ntmps157;go_wp2_with (go_at_call 189;refine(xv _ u.key v.key d g).mono ?_;rintro e h ⟨rfl,n,rfl⟩;rw [a.out]);go_ret;exact⟨zd (by unfold zw.ahead;rw [a.out,decide_eq_false f.out];simp),((Kept.alloc _ _ _).trans (Kept.alloc _ _ _) iL).trans kD iL⟩
 .have a:Hid _:=b;clear b;go_enter Tryz.func157,Tryz.ntmps157;go_wp2_with (go_at_call 189;refine(xv _ u.key v.key d g).mono ?_;rintro e h ⟨rfl,n,rfl⟩;rw [a.out]);go_ret;exact⟨zd (by unfold zw.ahead;rw [a.out];simp),((Kept.alloc _ _ _).trans (Kept.alloc _ _ _) iL).trans kD iL⟩
theorem J3(w:World)(v:zw)(u:Value)(x:u.oneCell'=true)(c:v.key.size<=9223372036854775807)(p k:ByteArray)(g:p.size<=9223372036854775807)(i:k.size<=9223372036854775807)(n:Int):
 Calls Tryz.prog 156 #[.agg #[.string v.key,.int .i64 v.num,.bool v.mark,u],.string p,.string k,.int .i64 n] w λe w'=>e=.returned (.bool (qT v p k n))/\Kept (λ_=>False) w w':=by
 have a:∀r t,Kept (λ_=>False) w ((w.alloc t).drewN r):=λr t=>(Kept.alloc _ _ _).trans kD iL;change Hid _ at a;cases l:p.data.toList.isPrefixOf v.key.data.toList
 .have b:Hid _:=l;clear l;go_enter Tryz.func156,Tryz.ntmps156
  go_wp2_with (first
   |(go_at_call 188;refine(xW _ v.key p c g).mono ?_;rintro e d ⟨rfl,rfl⟩;rw [b.out])
   |(go_at_call 189;refine(xv _ k v.key i c).mono ?_;rintro e d ⟨rfl,n,rfl⟩;generalize qD k v.key=lb))
  go_ret;exact⟨zd (by unfold qT;rw [b.out];rfl),a _ _⟩
 .have b:Hid _:=l;clear l;by_cases m:k.toList=[]
  .have o:Hid (k=ByteArray.empty):=by show k=ByteArray.empty;exact yr.1 (by rw [m,eU];rfl)
   go_enter Tryz.func156,Tryz.ntmps156
   go_wp2_with (first
    |(go_at_call 188;refine(xW _ v.key p c g).mono ?_;rintro e d ⟨rfl,rfl⟩;rw [b.out])
    |(go_at_call 189;refine(xv _ k v.key i c).mono ?_;rintro e d ⟨rfl,n,rfl⟩;generalize qD k v.key=lb))
   go_ret;exact⟨zd (by unfold qT;rw [b.out,aG o.out];rfl),a _ _⟩
  .have o:Hid (¬k=ByteArray.empty):=by show ¬k=ByteArray.empty;exact λe=>m (by rw [e,eU];rfl)
   cases j:qD k v.key
   .have f:Hid _:=j;clear j;by_cases h:v.key.toList=k.toList
    .have q:Hid _:=yr.1 h;go_enter Tryz.func156,Tryz.ntmps156
     go_wp2_with (first
      |(go_at_call 188;refine(xW _ v.key p c g).mono ?_;rintro e d ⟨rfl,rfl⟩;rw [b.out])
      |(go_at_call 189;refine(xv _ k v.key i c).mono ?_;rintro e d ⟨rfl,n,rfl⟩;rw [f.out]))
     go_ret;exact⟨zd (by unfold qT;rw [b.out,f.out,decide_eq_false o.out,aG q.out];simp [m]),a _ _⟩
    .have s:(v.key.toList==k.toList)=false:=by simpa using h
     have q:Hid _:=mt yr.2 h;go_enter Tryz.func156,Tryz.ntmps156
     go_wp2_with (first
      |(go_at_call 188;refine(xW _ v.key p c g).mono ?_;rintro e d ⟨rfl,rfl⟩;rw [b.out])
      |(go_at_call 189;refine(xv _ k v.key i c).mono ?_;rintro e d ⟨rfl,n,rfl⟩;rw [f.out]))
     go_ret;exact⟨zd (by unfold qT;rw [b.out,f.out,decide_eq_false o.out,decide_eq_false q.out];simp [m]),a _ _⟩
   .have f:Hid _:=j;clear j;go_enter Tryz.func156,Tryz.ntmps156
    go_wp2_with (first
     |(go_at_call 188;refine(xW _ v.key p c g).mono ?_;rintro e d ⟨rfl,rfl⟩;rw [b.out])
     |(go_at_call 189;refine(xv _ k v.key i c).mono ?_;rintro e d ⟨rfl,n,rfl⟩;rw [f.out]))
    go_ret;exact⟨zd (by unfold qT;rw [b.out,f.out];simp),a _ _⟩
def qR(p k:ByteArray)(n m:Int):Int:=
 if (p≠ByteArray.empty/\zh p.data.toList=false)\/(k≠ByteArray.empty/\zh k.data.toList=false) then 2 else if n<0\/m<1\/50<m then 4 else 0
theorem gO(k:ByteArray):k.toList=[]↔k=ByteArray.empty:=
 ⟨λh=>yr.1 (by rw [h,eU];rfl),λh=>by rw [h,eU];rfl⟩
theorem K7(k:Bool):(xM k !=0)= !k:=by cases k<;>rfl
theorem gx(w:World)(p k:ByteArray)(g:p.size<=maxLen)(j:k.size<=maxLen)(n m:Int):
 Calls Tryz.prog 155 #[.string p,.string k,.int .i64 n,.int .i64 m] w λe w'=>e=.returned (.int .i64 (qR p k n m))/\w'=w:=by
 have hfin:∀a c,zh p.data.toList=a->zh k.data.toList=c->∀f,(if (¬p.toList=[]/\a=false)\/(¬k.toList=[]/\c=false) then 2 else if n<0\/m<1\/50<m then (4:Int) else 0)=f->Ending.returned (.int .i64 f)=.returned (.int .i64 (qR p k n m)):=
  λa c d b f h=>by rw [<-h];unfold qR;rw [d,b];simp only [ne_eq,<-gO]
 change Hid _ at hfin;generalize d:zh p.data.toList=a;generalize b:zh k.data.toList=c;change Hid _ at d b;have l:=K7 a;have i:=K7 c;go_enter Tryz.func155,Tryz.ntmps155;go_wp2_with fail;refine(xK _ _ g d).mono ?_;rintro e w' ⟨rfl,rfl⟩;go_wp2_with fail;refine(xK _ _ j b).mono ?_;rintro e w' ⟨rfl,rfl⟩;go_wp2
 all_goals
  go_ret;refine⟨hfin a c d b _ ?_,rfl⟩;clear hfin d b l i g j
  first
   |(simp_all;done)
   |(simp_all;omega)
end ref
namespace disk
open Go.ChangeShapes Go.WideShapes Go.ChangeAt Go.RowKit
attribute [local go_sem ↓] Go.wp_at_zero Go.wp_at_succ
variable {D:Dk}
def sel:List (Nat×List Value)->List Bool->List (Nat×List Value)
 |[],_=>[]
 |p::ps,ks=>if ks.headD false then p::sel ps ks.tail else sel ps ks.tail
theorem Xx:∀(ps:List (Nat×List Value)) (ks:List Bool) (k:Nat) (a:k<ps.length),sel (ps.take (k+1)) ks=sel (ps.take k) ks++if ks.getD k false then [ps[k]] else []
 |[],_,_,a=>by simp at a
 |p::ps,ks,0,_=>by simp only [aV,iB,mj,sel,aH,ms];cases ks<;>rfl
 |p::ps,ks,k+1,a=>by
  have b:=Xx ps ks.tail k (by simpa using a);have e:ks.tail.getD k false=ks.getD (k+1) false:=by cases ks<;>simp
  simp only [iB,sel,mu];rw [b,e];split<;>simp
theorem bU:∀(ps:List (Nat×List Value)) (ks:List Bool) p,p∈sel ps ks->p∈ps
 |[],_,p,h=>by simp [sel] at h
 |q::ps,ks,p,h=>by
  unfold sel at h;split at h
  .rcases aq.1 h with rfl|h;.exact am ..
   .exact al _ (bU ps _ p h)
  .exact al _ (bU ps _ p h)
theorem Z0(bs:List (List Value))(ps a:List (Nat×List Value)):zk bs (ps++a)=zk (zk bs ps) a:=by unfold zk;rw [lN]
theorem K8(w:World)(bd:Nat)(S:Nat->Prop)(D:Dk)(B Q:Option Addr)(s G:Nat)(h:zn w bd S D B Q s G)(T:Option Addr)(ks:List Bool)(ac:Nat)(ap:ks.length<=9223372036854775807)
 (L:∀j,j<ks.length->∃z E,T=some ⟨z,E,none⟩/\¬S z/\z<w.heap.size/\w.cell? ⟨z,E+j,none⟩=some (.bool (ks.getD j false))):
 Calls Tryz.prog 41 #[.pointer (some ⟨bd,0,none⟩),.slice T ks.length ac] w λe w'=>
  e=.returned (.tuple #[])/\(∃S',ze w' bd S' {D with bs:=zk D.bs (sel D.ps ks),ps:=[],fuse:= -1}/\∀k,S' k->S k)/\Kept S w w':=by
 obtain⟨F,J,au⟩:∃F:List Value,F=yN/\∀w,(zeroValue 133).run Tryz.prog w=.ok (.agg F.toArray) w:=⟨yN,rfl,qa Tryz.infoWrite⟩;have A:Hid (F.length=129):=by rw [J];exact et (· +1) zI.1
 clear J;have ax:=h.len;have r:Hid _:=h;have m:Hid _:=qc Tryz.infoWrite;have N:=h.c1;have W:Hid (kq w w bd S D B Q s G):=⟨h,Kept.refl S w⟩;change Hid _ at L;clear h;go_enter Tryz.func41,Tryz.ntmps41;go_wp2;clear N;go_loopw [11] (λt wr=>∃k:Nat,k<=D.ps.length/\t=.int .i64 k/\kq w wr bd S {D with bs:=zk D.bs (sel (D.ps.take k) ks)} B Q s G) (λt _=>D.ps.length-(intOf t).toNat)
 case atStart=>exact⟨0,ai _,rfl,W.out⟩
 case round=>
  obtain⟨k,aB,rfl,b⟩:=hrel;change Hid _ at b;by_cases o:k<D.ps.length
  .obtain⟨Y,rfl⟩:=r.prow (by omega);have v:Hid (D.ps[k].1<D.bs.length):=(r.ok.ps _ (ag o)).1;obtain⟨g,rfl⟩:=r.row (by have:=v.out;omega);have O:Hid _:=b.disk.prange k o;have d:Hid (zW D.ps[k].2):=(r.ok.ps _ (ag o)).2;have C:Hid _:=Xx D.ps ks k o;generalize Z:D.ps[k]=q at*;obtain⟨c,f⟩:=q;clear Z;have y:Hid (kq w (wr.alloc (.cells (.int .i64 (c:Int)::f).toArray 133)) bd S {D with bs:=zk D.bs (sel (D.ps.take k) ks)} (some ⟨g,0,none⟩) (some ⟨Y,0,none⟩) s G):=b.alloc _;have I:=d.1;have U:=d.2;have X:(k:Int)<(D.ps.length:Int):=by omega
   by_cases H:k<ks.length
   .have R:(k:Int)<(ks.length:Int):=by omega
    obtain⟨z,E,rfl,M,K,x⟩:=L.out k H;have l:=(y.kept.cell (a:=⟨z,E+k,none⟩) K M).trans x;change Hid _ at M;clear x K;cases n:ks.getD k false
    .rw [n] at l
     have p:Hid (sel (D.ps.take (k+1)) ks=sel (D.ps.take k) ks):=by show sel (D.ps.take (k+1)) ks=sel (D.ps.take k) ks;rw [C.out,n];simp
     clear n
     go_wp2_with (first
      |(refine wpList_load_mid rfl 133 (.tmp 14) rfl _ _ rfl (.int .i64 (c:Int)::f) _ O.out Tryz.underlying133 rfl (by rw [ae,d.1];exact m.out) ?_)
      |(refine zi rfl 133 (.tmp 5) (.tmp 15) rfl _ _ (.int .i64 (c:Int)::f) rfl rfl rfl (by rw [ae,d.1];exact m.out) (by rw [ae,d.1];simpa using A.out) (aZ.2 ⟨rfl,d.2⟩) ?_))
     go_roundw
     case rel=>exact⟨k+1,by omega,by go_num,by rw [p.out];exact y.out⟩
     case measure=>simp [intOf];omega
    .rw [n] at l
     have p:Hid (zk D.bs (sel (D.ps.take (k+1)) ks)=(zk D.bs (sel (D.ps.take k) ks)).set c f):=by show zk D.bs (sel (D.ps.take (k+1)) ks)=(zk D.bs (sel (D.ps.take k) ks)).set c f;rw [C.out,n,Z0];rfl
     clear n;have u:(zk D.bs (sel (D.ps.take k) ks)).length=D.bs.length:=zB _ _;have aj:(wr.alloc (.cells (.int .i64 (c:Int)::f).toArray 133)).cell? ⟨bd,0,none⟩=some (.slice (some ⟨g,0,none⟩) D.bs.length s):=by rw [<-u];exact y.disk.c0
     have ar:=y.disk.bthere c (by show c<(zk D.bs (sel (D.ps.take k) ks)).length;rw [u];exact v.out);have ad:bd≠g:=λe=>r.ap1 (by rw [<-e];rfl);have al:=b.disk.lt g ((b.disk.own g).2 (.inr (.inl rfl)));have af:=b.disk.lt bd b.disk.bdS;have ab:wr.heap.size≠g:=by omega
     change Hid _ at u;have av:(0:Int)<=(c:Int):=by omega
     have an:(c:Int)<(D.bs.length:Int):=by have:=v.out;simp only at this;omega
     have aq:(wr.alloc (.cells (.int .i64 (c:Int)::f).toArray 133)).cell? ⟨wr.heap.size,0,none⟩=some (.int .i64 (c:Int)):=by simp
     have ah:(wr.alloc (.cells (.int .i64 (c:Int)::f).toArray 133)).rangeAt wr.heap.size 1 f:=yn (heap_alloc_new wr _);have aA:=Tryz.underlying131;have ak:(Tryz.prog.info? 131).map (·.size)=some f.length:=by rw [I];exact qc Tryz.infoBlock
     go_wp2_with (first
      |(refine wpList_load_mid rfl 133 (.tmp 14) rfl _ _ rfl (.int .i64 (c:Int)::f) _ O.out Tryz.underlying133 rfl (by rw [ae,d.1];exact m.out) ?_)
      |(refine zi rfl 133 (.tmp 5) (.tmp 15) rfl _ _ (.int .i64 (c:Int)::f) rfl rfl rfl (by rw [ae,d.1];exact m.out) (by rw [ae,d.1];simpa using A.out) (aZ.2 ⟨rfl,d.2⟩) ?_))
     generalize (wr.alloc (.cells (.int .i64 (c:Int)::f).toArray 133))=aC at*;clear l
     go_region_held3 (λw'=>w'.cell? ⟨bd,0,none⟩=some (.slice (some ⟨g,0,none⟩) D.bs.length s)/\w'.cell? ⟨wr.heap.size,0,none⟩=some (.int .i64 (c:Int))/\w'.rangeAt wr.heap.size 1 f/\w'.there g (c*128) 128)
      ((go_split_ands;simp only [World.rangeAt_drew,World.there_drew,World.cell?_drew] at *; refine⟨?_,?_,?_,?_⟩<;>first|assumption|(rw [World.cell?_setCells_out _ _ _ _ _ (by intro aa _;simp at aa;omega)];assumption)|(refine World.rangeAt_setCells_apart (by assumption) _ _ _ (by omega))|(apply World.there_setCells;assumption)))
      (fail)
     go_wp2;go_roundw
     case rel=>exact⟨k+1,by omega,by go_num,by rw [p.out];exact y.drew.setb c (by show c<(zk D.bs (sel (D.ps.take k) ks)).length;rw [u.out];exact v.out) f ⟨I,U⟩⟩
     case measure=>simp [intOf];omega
   .have R:¬(k:Int)<(ks.length:Int):=by omega
    have p:Hid (sel (D.ps.take (k+1)) ks=sel (D.ps.take k) ks):=by show sel (D.ps.take (k+1)) ks=sel (D.ps.take k) ks;rw [C.out,show ks.getD k false=false from by simp [mV H]];simp
    go_wp2_with (first
     |(refine wpList_load_mid rfl 133 (.tmp 14) rfl _ _ rfl (.int .i64 (c:Int)::f) _ O.out Tryz.underlying133 rfl (by rw [ae,d.1];exact m.out) ?_)
     |(refine zi rfl 133 (.tmp 5) (.tmp 15) rfl _ _ (.int .i64 (c:Int)::f) rfl rfl rfl (by rw [ae,d.1];exact m.out) (by rw [ae,d.1];simpa using A.out) (aZ.2 ⟨rfl,d.2⟩) ?_))
    go_roundw
    case rel=>exact⟨k+1,by omega,by go_num,by rw [p.out];exact y.out⟩
    case measure=>simp [intOf];omega
  .have am:¬(k:Int)<(D.ps.length:Int):=by omega
   have N:=b.disk.c1;have az:=b.disk.fz 1;have aw:=b.disk.c2;have ay:=b.disk.fz 2;go_wp2;go_end0;have V:=b.disk.nopend.set_fuse (-1);rw [show D.ps.take k=D.ps from ao (by omega)] at V;refine⟨rfl,⟨_,⟨B,none,s,0,V⟩,λi P=>?_⟩,(b.kept.trans (Kept.setCell (S:=S) wr ⟨bd,1,none⟩ _ r.bdS) iL).trans (Kept.setCell (S:=S) _ ⟨bd,2,none⟩ _ r.bdS) iL⟩;rcases P with rfl|P;.exact r.bdS
   .refine(b.disk.own i).2 (.inr (.inl ?_));rw [<-P];cases B<;>rfl
theorem run_copy_row{P:Program}(w:World)(t A e:TypeId)(i:TypeInfo)(z:Value)(b bytes:Nat)(p:P.underlying t=some (.slice e))(B:P.info? e=some i)(G:i.zero=some z)
 (k:i.size=b) (s:i.bytes=bytes) (C:z.cells.size=b) (r:0<b) (v:Value) (n:Nat) (h:List Value) (d:w.ownsRow 0 e b v n h) (D:∀u∈h,u.oneCell'=true)
 (q:n<=maxLen) (f:n*bytes<=140737488355328):
 ∃a c w',(Builtin.append_ #[t,t] A #[.slice none 0 0,v]).run P w=.ok (.slice a n c) w'/\w'.ownsRow 0 e b (.slice a n c) n h/\w.grownBy w' none/\
  ((Value.slice a n c).ownBlock=none\/(Value.slice a n c).ownBlock=some w.heap.size):=by
 rcases d.2 with⟨rfl,rfl⟩|⟨g,cap,I,rfl,K,L,rest⟩
 .obtain rfl:h=[]:=ed (by simpa using d.1);refine⟨none,0,w,?_,aP w 0 e b,⟨rfl,rfl,rfl,aC _,λ_ _ _=>rfl⟩,.inl rfl⟩;simp [Builtin.append_,iz p,sizeOf,typeInfo,B,Builtin.lenOf,Builtin.firstCells]
 .obtain⟨J,w',x,j,y,_,E⟩:=mn (P:=P) w 0 t A e i z b bytes p B G k s C r (.slice none 0 0) 0 [] (aP w 0 e b) ⟨g,0,none⟩ n cap h d.1 (d.cells (g:=g) rfl) D (by simpa using q) (by simpa using f) (ai _);simp only [aV,aH] at j;have l:=E;rcases j.2 with⟨o,F⟩|⟨M,m,H,o,_⟩;.subst o;subst F;exact⟨none,0,w',x,j,y,l⟩
  .subst o;exact⟨_,m,w',x,j,y,l⟩
theorem ve{P:Program}{k:Array Oper}{m:Oper}{a:Act}{w:World}{L:Act->World->Prop}{Q:Exit->Act->World->Prop}{N:Prop}(o:m.guard=none)(s M:Operand)(t:TypeId)
 (F:m.op=.call {callee:=.builtin .append,args:=#[s,M],argTypes:=#[t,t] })
 (e:TypeId) (i:TypeInfo) (z:Value) (b bytes:Nat) (A:P.underlying t=some (.slice e)) (J:P.info? e=some i) (D:i.zero=some z)
 (g:i.size=b) (r:i.bytes=bytes) (x:z.cells.size=b) (q:0<b) (v:Value) (n:Nat) (j:List Value) (I:a.eval s=.slice none 0 0) (K:a.eval M=v) (l:w.ownsRow 0 e b v n j) (C:∀u∈j,u.oneCell'=true)
 (p:n<=maxLen) (f:n*bytes<=140737488355328)
 (h:∀d c w',w'.ownsRow 0 e b (.slice d n c) n j->w.grownBy w' none->((Value.slice d n c).ownBlock=none\/(Value.slice d n c).ownBlock=some w.heap.size)->L (a.put m.dst (.slice d n c)) w'):
 if Region.wanted m (yielded k a.tmps)=true then Oper.wp P m a w L Q else N:=by
 have E:Region.wanted m (yielded k a.tmps)=true:=by simp [Region.wanted,o]
 rw [aB E];obtain⟨d,c,w',G,y,H,B⟩:=run_copy_row (P:=P) w t m.type e i z b bytes A J D g r x q v n j l C p f;unfold Oper.wp execOp;simp only [F,resolve,invoke,builtin,il,iI,eM,iQ,aT,im,I,K,G];exact h d c w' y H B
theorem zn.copied{w d i:World}{bd:Nat}{S:Nat->Prop}{A F:Option Addr}{B E:Nat}(h:zn w bd S D A F B E)(c g:Option Addr)(b f:Nat)
 (m:d.ownsRow 0 131 128 (.slice c D.bs.length b) D.bs.length D.bs.flatten)
 (j:(w.alloc (.cells #[.slice none 0 0,.slice none 0 0,.int .i64 D.fuse,.int .i64 0] 118)).drew.grownBy d none)
 (r:(Value.slice c D.bs.length b).ownBlock=none\/(Value.slice c D.bs.length b).ownBlock=some (w.heap.size+1))
 (o:i.ownsRow 0 133 129 (.slice g D.ps.length f) D.ps.length (D.ps.map zR).flatten)
 (l:(d.setCell ⟨w.heap.size,0,none⟩ (.slice c D.bs.length b)).drew.grownBy i none)
 (q:(Value.slice g D.ps.length f).ownBlock=none\/(Value.slice g D.ps.length f).ownBlock=some d.heap.size):
 zn (i.setCell ⟨w.heap.size,1,none⟩ (.slice g D.ps.length f)) w.heap.size
  (λk=>k=w.heap.size\/(Value.slice c D.bs.length b).ownBlock=some k\/(Value.slice g D.ps.length f).ownBlock=some k) {D with reads:=0} c g b f/\
  (∀k,(k=w.heap.size\/(Value.slice c D.bs.length b).ownBlock=some k\/(Value.slice g D.ps.length f).ownBlock=some k)->w.heap.size<=k)/\
  Kept (λ_=>False) w (i.setCell ⟨w.heap.size,1,none⟩ (.slice g D.ps.length f)):=by
 have z:=j.size;simp at z;have x:=l.size;simp at x;have k2:Kept (λ_=>False) (w.alloc (.cells #[.slice none 0 0,.slice none 0 0,.int .i64 D.fuse,.int .i64 0] 118)).drew d:=Kept.grown j (λk a=>by cases a);have k3:Kept (λk=>k=w.heap.size) d (d.setCell ⟨w.heap.size,0,none⟩ (.slice c D.bs.length b)):=Kept.setCell _ _ _ rfl;have u:Kept (λ_=>False) (d.setCell ⟨w.heap.size,0,none⟩ (.slice c D.bs.length b)).drew i:=Kept.grown l (λk a=>by cases a);have s:Kept (λk=>k=w.heap.size) i (i.setCell ⟨w.heap.size,1,none⟩ (.slice g D.ps.length f)):=Kept.setCell _ _ _ rfl
 have n:∀k,(Value.slice c D.bs.length b).ownBlock=some k->k=w.heap.size+1/\k<d.heap.size:=λk a=>⟨by
  rcases r with e|e<;>rw [e] at a<;>simp at a;omega,(m.lt k a).2⟩
 have p:∀k,(Value.slice g D.ps.length f).ownBlock=some k->k=d.heap.size:=λk a=>by rcases q with e|e<;>rw [e] at a<;>simp at a;omega
 have C:d.heap[w.heap.size]? =some (.cells #[.slice none 0 0,.slice none 0 0,.int .i64 D.fuse,.int .i64 0] 118):=
  (k2.block w.heap.size (by simp) (λt=>t)).trans (heap_alloc_new w _)
 have y:(d.setCell ⟨w.heap.size,0,none⟩ (.slice c D.bs.length b)).heap[w.heap.size]? =some (.cells #[.slice c D.bs.length b,.slice none 0 0,.int .i64 D.fuse,.int .i64 0] 118):=by rw [heap_setCell_same d w.heap.size 0 _ _ _ C];rfl
 have b4:i.heap[w.heap.size]? =some (.cells #[.slice c D.bs.length b,.slice none 0 0,.int .i64 D.fuse,.int .i64 0] 118):=
  (u.block w.heap.size (by simp;omega) (λt=>t)).trans y
 refine⟨⟨⟨h.ok.bs,h.ok.ps,h.ok.few⟩,?_,?_,?_,λk=>Iff.rfl,?_,?_,?_⟩,?_,?_⟩;.rw [heap_setCell_same i w.heap.size 1 _ _ _ b4];rfl
 .exact s.owns (u.owns (k3.owns m (λk a e=>by have:=(n k a).1;omega)) nF) (λk a e=>by have:=(n k a).1;omega)
 .exact s.owns o (λk a e=>by have:=p k a;omega)
 .intro a;have:=(n _ a).1;omega
 .intro a;have:=p _ a;omega
 .intro k a v;have:=(n k a).2;have:=p k v;omega
 .intro k a;rcases a with rfl|a|a;.exact aC _
  .have:=(n k a).1;omega
  .have:=p k a;omega
 .exact((((((Kept.alloc _ w _).trans (Kept.drew _ _) iL).trans k2 iL).trans k3 (λk a=>.inr (by omega))).trans (Kept.drew (λ_=>False) _) iL).trans u iL).trans s (λk a=>.inr (by omega))
theorem Dk.Ok.one_bs(h:D.Ok):∀u∈D.bs.flatten,u.oneCell'=true:=λu a=>by
 obtain⟨b,c,a⟩:=ii.1 a;exact(h.bs b c).2 u a
theorem Dk.Ok.one_ps(h:D.Ok):∀u∈(D.ps.map zR).flatten,u.oneCell'=true:=λu a=>by
 obtain⟨b,d,a⟩:=ii.1 a;obtain⟨p,c,rfl⟩:=av.1 d;rcases aq.1 a with rfl|a;.rfl
 .exact(h.ps p c).2.2 u a
theorem QY(w:World)(bd:Nat)(S:Nat->Prop)(D:Dk)(y v:Option Addr)(z u:Nat)(h:zn w bd S D y v z u)(Y:D.ps.length<=68719476736):
 Calls Tryz.prog 34 #[.pointer (some ⟨bd,0,none⟩)] w λe w'=>
  e=.returned (.pointer (some ⟨w.heap.size,0,none⟩))/\(∃S',ze w' w.heap.size S' {D with reads:=0}/\∀k,S' k->w.heap.size<=k)/\Kept (λ_=>False) w w':=by
 have U:=h.c0;have W:=h.c1;have X:=h.c2;have Z:=h.lt bd h.bdS;have hbs:=h.ok.few;have p:Hid (zn w bd S D y v z u):=h;obtain⟨s,d,c,f,g⟩:=info_parts Tryz.infoBlock;have o:Hid (Tryz.prog.info? 131=some s/\s.zero=some (.agg z9.toArray)/\s.size=128/\s.bytes=128):=⟨d,c,f,g⟩;clear d c f g;obtain⟨t,d,c,f,g⟩:=info_parts Tryz.infoWrite;have m:Hid (Tryz.prog.info? 133=some t/\t.zero=some (.agg yN.toArray)/\t.size=129/\t.bytes=136):=⟨d,c,f,g⟩;clear d c f g h;have T:w.heap.size≠bd:=by omega
 have B:Hid (zn (w.alloc (.cells #[.slice none 0 0,.slice none 0 0,.int .i64 D.fuse,.int .i64 0] 118)).drew bd S D y v z u):=
  p.kept ((Kept.alloc (λ_=>False) w _).trans (Kept.drew _ _) iL) nF
 go_enter Tryz.func34,Tryz.ntmps34;go_wp2
 go_region_law ((refine ve rfl (.tmp 14) (.tmp 18) 115 rfl 131 s _ 128 128 Tryz.underlying115 o.1 o.2.1 o.2.2.1 o.2.2.2 zI.1 (by omega) _ D.bs.length D.bs.flatten (by rfl) (by rfl) (by exact B.rows) p.ok.one_bs (by unfold maxLen;omega) (by omega) ?_;intro E A j n a r;have i:j.heap[w.heap.size]? =some (.cells #[.slice none 0 0,.slice none 0 0,.int .i64 D.fuse,.int .i64 0] 118):=(a.block w.heap.size (by simp) (by simp)).trans (heap_alloc_new w _);have Q:=ak j w.heap.size 0 _ _ _ i;have F:=ak j w.heap.size 1 _ _ _ i;have L:=aa j w.heap.size 0 _ _ i;have C:=aa j w.heap.size 1 _ _ i;have R:=(a.cell_far ⟨bd,1,none⟩ (by simp;omega) (by simp)).trans B.c1;have I:Hid ((j.setCell ⟨w.heap.size,0,none⟩ (.slice E D.bs.length A)).drew.ownsRow 0 133 129 (.slice v D.ps.length u) D.ps.length (D.ps.map zR).flatten):=(Kept.drew (λ_=>False) _).owns ((Kept.setCell (S:=λk=>k=w.heap.size) j ⟨w.heap.size,0,none⟩ _ rfl).owns ((Kept.grown (S:=λ_=>False) a (λk x=>by cases x)).owns B.pend nF) (λk x e=>by have:=p.lt k ((p.own k).2 (.inr (.inr x)));omega)) nF;have V:w.heap.size<j.heap.size:=by {have:=a.size;simp at this;omega};change Hid _ at a n r;clear i))
 all_goals
  go_wp2
  go_region_law ((refine ve rfl (.tmp 26) (.tmp 30) 116 rfl 133 t _ 129 136 Tryz.underlying116 m.1 m.2.1 m.2.2.1 m.2.2.2 (et (· +1) zI.1) (by omega) _ D.ps.length (D.ps.map zR).flatten (by rfl) (by rfl) (by exact I) p.ok.one_ps (by unfold maxLen;omega) (by omega) ?_;intro J H G l b q;have P:G.cell? ⟨w.heap.size,1,none⟩=some (.slice none 0 0):=(b.cell_far ⟨w.heap.size,1,none⟩ (by simp;omega) (by simp)).trans (by simp [World.cell?_setCell_other,F]);have N:G.frozen? ⟨w.heap.size,1,none⟩=false:=(b.frozen_far ⟨w.heap.size,1,none⟩ (by simp;omega) (by simp)).trans (by simp [C]);change Hid _ at b l q))
  all_goals
   go_wp2;go_ret;obtain⟨M,O,K⟩:=p.copied E J A H n a (by have:=r.out;simpa using this) l b (by have:=q.out;simpa using this);exact⟨rfl,⟨_,⟨E,J,A,H,M⟩,O⟩,K⟩
end disk
end Go.Proofs.YtcoengihaobddaaGreatDoor
