/- Part 18 of 36 of a proof: Chg6, Tree9, Ins1, Ins2, Ins3, Ins4 -/
import Derived.Test.YtcoengihaobddaaGreatDoorJb17
import Derived.Lib.Overlaps
import Derived.Lib.AppendZerosOnto
set_option maxHeartbeats 8000000
set_option linter.unusedVariables false
set_option linter.unusedSimpArgs false
set_option maxRecDepth 8000
namespace Go.Proofs.YtcoengihaobddaaGreatDoor
namespace prog
open Go.ChangeShapes Go.WideShapes Go.ChangeAt Go.RowKit disk ref
open keys (zh zd zx zq)
variable {w:World}{m:List UInt8}{C:Ck}{N:Nat}
theorem VR(a r:Nat)(h:a.testBit r=false):a&&&2^r=0:=by
 apply Nat.eq_of_testBit_eq;intro s;rw [mK,uL,Nat.zero_testBit];by_cases e:r=s;.subst e;simp [h]
 .simp [e]
theorem ZR(a r:Nat)(h:a.testBit r=true):¬a&&&2^r=0:=λe=>by
 have:(a&&&2^r).testBit r=true:=by rw [mK,uL,h];simp
 rw [e] at this;simp at this
theorem UV(a r:Nat)(e:a<256)(k:r<8):(bits BinOp.and IntKind.u8 (a:Int) (gM r)==0)= !a.testBit r:=by
 have d:2^r<256:=by have:=lf (show 0<2 by omega) (show r<=7 by omega);omega
 have j:BitVec.ofInt 8 (a:Int)=BitVec.ofNat 8 a:=BitVec.ofInt_natCast ..;have c:BitVec.ofInt 8 (gM r)=BitVec.ofNat 8 (2^r):=BitVec.ofInt_natCast ..
 have i:(BitVec.ofNat 8 a&&&BitVec.ofNat 8 (2^r)).toNat=a&&&2^r:=by
  have g:a%256=a:=by omega
  have h:=mF d;simp only [BitVec.toNat_and,BitVec.toNat_ofNat,show (2:Nat)^8=256 from rfl];rw [g,h]
 have f:bits BinOp.and IntKind.u8 (a:Int) (gM r)=IntKind.u8.wrap ((BitVec.ofInt 8 (a:Int)&&&BitVec.ofInt 8 (gM r)).toNat:Nat):=rfl;have l:a&&&2^r<256:=mr mJ e;rw [f,j,c,i,IntKind.wrap_u8]
 cases b:a.testBit r with
 |false=>rw [VR a r b];simp
 |true=>
  have:=ZR a r b;generalize a&&&2^r=m at*;simp;omega
theorem GA(a r:Nat)(i:a<256)(j:r<8):bits BinOp.or IntKind.u8 (a:Int) (gM r)=((a|||2^r:Nat):Int):=by
 have c:2^r<256:=by have:=lf (show 0<2 by omega) (show r<=7 by omega);omega
 have h:BitVec.ofInt 8 (a:Int)=BitVec.ofNat 8 a:=BitVec.ofInt_natCast ..;have b:BitVec.ofInt 8 (gM r)=BitVec.ofNat 8 (2^r):=BitVec.ofInt_natCast ..
 have g:(BitVec.ofNat 8 a|||BitVec.ofNat 8 (2^r)).toNat=a|||2^r:=by
  have e:a%256=a:=by omega
  have f:=mF c;simp only [BitVec.toNat_or,BitVec.toNat_ofNat,show (2:Nat)^8=256 from rfl];rw [e,f]
 have d:bits BinOp.or IntKind.u8 (a:Int) (gM r)=IntKind.u8.wrap ((BitVec.ofInt 8 (a:Int)|||BitVec.ofInt 8 (gM r)).toNat:Nat):=rfl;rw [d,h,b,g,IntKind.wrap_u8];omega
theorem map_set{b:Nat}(c:m.length=124)(h:qP w b (zR m))(i:Nat)(f:i/8<124)(v:Nat)(d:v<256):qP (w.setCell ⟨b,4+i/8,none⟩ (.int .u8 (v:Int))) b (zR (m.set (i/8) (UInt8.ofNat v))):=by
 have a:=h.bs.set (4+i/8) (UInt8.ofNat v);rw [kX _ d,jG c] at a;refine⟨?_,xR (by simp [c])⟩;rw [jG (by simp [c])]
 have e:([3,124,0,0]++m).set (4+i/8) (UInt8.ofNat v)=[3,124,0,0]++m.set (i/8) (UInt8.ofNat v):=by rw [List.set_append_right _ _ (by simp)];simp
 rw [e] at a;exact a
theorem QV{b:Nat}(a:m.length=124)(h:qP w b (zR m))(j:Nat)(d:j<124):w.cell? ⟨b,4+j,none⟩=some (.int .u8 ((m.getD j 0).toNat:Int)):=by
 have c:=h.bs.cell (4+j) (by rw [jG a];simp [a];omega);simp only [jG a] at c;rw [c,aA,aH (by omega),iT,i6 (by simp)];simp
theorem gQ(w:World)(bd:Nat)(S:Nat->Prop)(D:Dk)(h:zg w bd S D):
 Calls Tryz.prog 54 #[.pointer (some ⟨bd,0,none⟩)] w λe w'=>e=.returned (.int .i64 D.bs.length)/\w'=w:=by
 obtain⟨b,a,c,d,h⟩:=h;exact jj w bd S D b a c d h
theorem qC.setFull{b bd:Nat}{T:Nat->Prop}{a:Option Addr}{c:Nat}(h:qC w b bd T C a c):qC (w.setCell ⟨b,2,none⟩ (.bool true)) b bd T {C with full:=true} a c:=by
 refine⟨h.ok,?_,?_,h.own,h.ap,h.few⟩;.rw [heap_setCell_same w b 2 _ _ _ h.head];rfl
 .exact(za.setCell (S:=λk=>k=b) w ⟨b,2,none⟩ _ rfl).owns h.row (λk d e=>h.ap (by rw [d,e]))
structure De (w w':World) (bc bd:Nat) (S T:Nat->Prop) (D:Dk) (C:Ck) (m:List UInt8) (a:Int) (C':Ck):Prop where
 at_:∃(n:Int) (T':Nat->Prop),0<=n/\n<=1/\Cw w' bc bd S T' {D with reads:=D.reads+n} C'/\∀k,T' k->T k\/w.heap.size<=k
 kept:za (λk=>k=bd\/T k) w w'
 is:(∃i:Nat,a=(i:Int)+21/\i+21<D.bs.length/\zT m i=false/\(∀j,j<i->zT m j=true)/\C'=C.put 2 (zl (zR (ue m i))))\/(a=0/\(∀i,i+21<D.bs.length->zT m i=true)/\C'={C with full:=true })
theorem VS(w:World)(l bd:Nat)(S T:Nat->Prop)(D:Dk)(C:Ck)(h:Cw w l bd S T D C)(m:List UInt8)(r:qF (C.look D 2) m)(ao:0<=D.reads)(au:D.reads<=4611686018427387904)(ad:C.ws.length<1000):
 Calls Tryz.prog 134 #[.pointer (some ⟨l,0,none⟩)] w λe w'=>∃a aA,e=.returned (.int .i64 a)/\De w w' l bd S T D C m a aA:=by
 obtain⟨M,R,aO⟩:∃M:List Value,M=zW/\∀w,(zeroValue 154).run Tryz.prog w=.ok (.agg M.toArray) w:=⟨zW,rfl,zX Tryz.infoPage⟩;have an:Hid (zS M):=by rw [R];exact zG
 clear R;have ak:Hid _:=zY Tryz.infoPage;have ab:Hid _:=h;have am:=r.len;have J:Hid _:=yc (xR r.len);have aj:Hid _:=h.disk.lt;have al:Hid _:=h.chg.lt;have aK:=h.disk.ok.few;change Hid _ at r;clear h;go_enter Tryz.func134,Tryz.ntmps134
 go_wp2_with (first
  |(go_at_call 170;refine(uM _ l bd S T D C ab m r ao au).mono ?_;rintro e o ⟨rfl,g,v⟩;have V:Hid _:=g;have s:Hid _:=v;clear g v)
  |(show wpList _ _ _ ({dst:=none,op:=.store _ (.tmp 3) (.tmp 9),type:=_,pos:=_,after:=_,guard:=_}::_) _ _;refine zi rfl 154 (.tmp 3) (.tmp 9) rfl _ _ (zl (zR m)) (by simp) rfl rfl (by rw [J.1];exact ak) (by rw [aq,an.1,J.1]) J.2 ?_;have aa:Hid (qP (o.alloc (.cells (zl (zR m)).toArray 154)) o.heap.size (zR m)):=⟨⟨ac o _⟩,xR r.len⟩)
  |(go_at_call 125;refine(je _ _ _ aa).mono ?_;rintro e aN ⟨rfl,ae,rfl⟩))
 have B:Hid (qP ((o.alloc (.cells (zl (zR m)).toArray 154)).drewN ae) o.heap.size (zR m)):=aa.kept (T:=λ_=>False) kD (λaf=>af);have q:Hid (za (λ_=>False) o ((o.alloc (.cells (zl (zR m)).toArray 154)).drewN ae)):=(za.alloc _ _ _).trans (S':=λ_=>False) kD iL;obtain⟨Z,P,U,g⟩:=V.out;change Hid _ at g;clear V;generalize (o.alloc (.cells (zl (zR m)).toArray 154)).drewN ae=y at*;generalize aI:o.heap.size=f at*;have H:xX f (zR m).kind (zR m).items.length=.slice (some ⟨f,4,none⟩) 124 124:=by simp [xX,zR,zk,am]
 rw [H];clear H aa;go_loopw [5] (λt wr=>∃(i n:Nat),i<=979/\(i=0\/i+21<=D.bs.length)/\t=.int .i64 ((i:Int)+21)/\wr=y.drewN n/\∀j,j<i->zT m j=true) (λt _=>1000-(intOf t).toNat)
 case atStart=>exact⟨0,0,by omega,.inl rfl,rfl,rfl,λ_ h=>by omega⟩
 case round=>
  obtain⟨i,n,aL,aE,rfl,rfl,p⟩:=hrel;change Hid _ at p;have G:za (λ_=>False) y (y.drewN n):=kD;have u:Hid _:=(g.kept0 q).kept0 G;have aG:y.cell? ⟨l,0,none⟩=some (.pointer (some ⟨bd,0,none⟩)):=by obtain⟨a,Q,ay⟩:=u.chg;exact ay.c0
  change Hid _ at G;by_cases ap:i+21<D.bs.length
  .have aw:=QV r.len B (i/8) (by omega);have aF:=B.bs.fz (4+i/8);have A:=UV (m.getD (i/8) 0).toNat (i%8) (m.getD (i/8) 0).toNat_lt (by omega);have ar:Hid (zT m i=(m.getD (i/8) 0).toNat.testBit (i%8)):=rfl;have ax:=(m.getD (i/8) 0).toNat_lt;have ag:Hid (ue m i=m.set (i/8) (UInt8.ofNat ((m.getD (i/8) 0).toNat|||2^(i%8)))):=rfl;have aD:=GA (m.getD (i/8) 0).toNat (i%8) (m.getD (i/8) 0).toNat_lt (by omega);have az:Hid _:=Nat.or_lt_two_pow (n:=8) ax (Xv i);generalize (m.getD (i/8) 0).toNat=ah at*
   cases N:zT m i with
   |true=>
    have z:ah.testBit (i%8)=true:=ar.symm.trans N;rw [z] at A;have E:Hid _:=N
    go_wp2_with (first
     |(go_at_call 54;refine(gQ _ bd S _ u.disk).mono ?_;rintro e K ⟨rfl,rfl⟩)
     |(go_at_call 171;refine(gN _ i (by omega)).mono ?_;rintro e K ⟨rfl,x,rfl⟩))
    go_roundw
    case rel=>exact⟨i+1,n+x,by omega,by omega,by go_num,rfl,λj aC=>by
     by_cases e:j=i;.subst e;exact E.out
     .exact p j (by omega)⟩
    case measure=>simp [intOf];omega
   |false=>
    have z:ah.testBit (i%8)=false:=ar.symm.trans N;rw [z] at A;have E:Hid _:=N
    go_wp2_with (first
     |(go_at_call 54;refine(gQ _ bd S _ u.disk).mono ?_;rintro e K ⟨rfl,rfl⟩)
     |(go_at_call 171;refine(gN _ i (by omega)).mono ?_;rintro e K ⟨rfl,x,rfl⟩)
     |(show wpList _ _ _ ({dst:=some 40,op:=.load _ _,type:=_,pos:=_,after:=_,guard:=_}::_) _ _;have ai:Hid (qP ((y.drewN (n+x)).setCell ⟨f,4+i/8,none⟩ (.int .u8 ((ah|||2^(i%8):Nat):Int))) f (zR (ue m i))):=(by {have L:qP (y.drewN (n+x)) f (zR m):=B.kept (T:=λ_=>False) kD (λaf=>af);have h2:=map_set r.len L i (by omega) (ah|||2^(i%8)) az.out;rw [<-ag.out] at h2;exact h2 });have W:Hid (zS (zl (zR (ue m i)))):=yc (xR (by rw [QT];exact r.len));refine wpList_load_mid rfl 154 (.tmp 3) rfl _ _ rfl (zl (zR (ue m i))) _ (zQ ai.bs.at_) yH rfl (by rw [W.1];exact ak) ?_)
     |(go_at_call 135;refine(ju _ l bd S T {D with reads:=D.reads+Z} C ((g.kept0 q).kept (X:=λk=>k=f) (w':=(y.drewN (n+x)).setCell ⟨f,4+i/8,none⟩ (.int .u8 ((ah|||2^(i%8):Nat):Int))) (za.trans (b:=y.drewN (n+x)) kD (za.setCell (S:=λk=>k=f) _ _ _ rfl) iL) (λk c e=>by have:=aj.out k c;have:=s.size;omega) (λk c e=>by have:=al.out k c;have:=s.size;omega)) 2 (zl (zR (ue m i))) W ad).mono ?_;rintro e aM ⟨rfl,⟨aB,I,O⟩,Y⟩;change Hid _ at I O Y))
    go_ret
    have v:za (λk=>k=bd\/T k) w ((y.drewN (n+x)).setCell ⟨f,4+i/8,none⟩ (.int .u8 ((ah|||2^(i%8):Nat):Int))):=
     ((s.mono iL).trans q fE).trans (S':=λk=>k=f) (za.trans (b:=y.drewN (n+x)) kD (za.setCell (S:=λk=>k=f) _ _ _ rfl) iL) (λk c=>.inr (by have:=s.size;omega))
    refine⟨_,_,rfl,⟨Z,aB,P,U,I,λk c=>?_⟩,v.trans Y (λk c=>.inl (.inr c)),.inl ⟨i,rfl,ap,E,p,rfl⟩⟩;rcases O k c with L|L;.exact .inl L
    .right;have h2:=v.size;omega
  .have d:=(g.kept0 q).chg;obtain⟨a,Q,d⟩:=d;have aH:=d.c2;have aJ:=d.fz 2;change Hid _ at d;go_wp2_with (go_at_call 54;refine(gQ _ bd S _ u.disk).mono ?_;rintro e K ⟨rfl,rfl⟩);go_ret;have av:za (λk=>k=l) y ((y.drewN n).setCell ⟨l,2,none⟩ (.bool true)):=za.trans (b:=y.drewN n) kD (za.setCell (S:=λk=>k=l) _ _ _ rfl) iL;have F:=d.bcT;refine⟨_,_,rfl,⟨Z,T,P,U,⟨u.disk.kept (za.setCell (S:=λk=>k=l) _ ⟨l,2,none⟩ _ rfl) (λk c e=>ab.apart k c (by rw [e];exact F)),⟨a,Q,(d.kept G nF).setFull⟩,ab.apart⟩,λk c=>.inl c⟩,?_,.inr ⟨rfl,λj aC=>?_,rfl⟩⟩;.exact((s.mono iL).trans q fE).trans av (λk c=>.inl (.inr (by rw [c];exact F)))
   .exact p j (by omega)
theorem qe.take{P:Nat->Prop}{g f:Nat}{a:List En}(h:qe w P (some ⟨g,f,none⟩) a)(m:Nat):qe w P (some ⟨g,f,none⟩) (a.take m):=by
 refine⟨?_,by have:=h.few;rw [aC];omega⟩;rcases h.at_ with b|⟨j,l,d,h2,i,c⟩;.left;rw [b];simp
 .cases d;right;refine⟨g,f,rfl,h2,i,λk e=>?_⟩;rw [aC] at e;rw [lY];exact c k (by omega)
theorem qe.drop{P:Nat->Prop}{g b:Nat}{a:List En}(h:qe w P (some ⟨g,b,none⟩) a)(m:Nat):qe w P (some ⟨g,b+m*5,none⟩) (a.drop m):=by
 refine⟨?_,by have:=h.few;rw [aS];omega⟩;rcases h.at_ with c|⟨j,l,e,h2,i,d⟩;.left;rw [c];simp
 .cases e;right;refine⟨g,b+m*5,rfl,h2,i,λk f=>?_⟩;rw [aS] at f;rw [lZ,show b+m*5+k*5=b+(m+k)*5 from by omega];exact d (m+k) (by omega)
theorem yy(w:World)(g bd:Nat)(S T:Nat->Prop)(D:Dk)(C:Ck)(h:Cw w g bd S T D C)(y:0<=D.reads)(x:D.reads<=4611686018427387904)(d:Nat)(J:d<65536)(k:Nat)(a:List En)(B:k=4\/k=5)(u:∀e∈a,e.Ok)(r:k=4->∀e∈a,e.mark=false/\e.size=0)(p:a.length<=6)(G:C.look D d=zl (zc k a)):
 Calls Tryz.prog 174 #[.iface 142 (.pointer (some ⟨g,0,none⟩)),.int .i64 d] w λe w'=>∃f c,e=.returned (.agg #[.int .u8 (k:Int),.slice f a.length c])/\(∃n:Int,0<=n/\n<=1/\Cw w' g bd S T {D with reads:=D.reads+n} C)/\za (λi=>i=bd) w w'/\qe w' (λb=>w.heap.size<=b) f a/\w'.ownsRow 0 109 5 (.slice f a.length c) a.length (a.map qr).flatten/\(∀j,(Value.slice f a.length c).ownBlock=some j->w.heap.size<=j):=by
 have v:=h.disk.lt;have E:=h.chg.lt;have s:=v bd h.disk.bdS;refine(QP w 142 192 ⟨g,0,none⟩ (dO _) (λi=>i=bd) (λm=>w.heap.size<=m.heap.size/\∃n:Int,0<=n/\n<=1/\Cw m g bd S T {D with reads:=D.reads+n} C) d k a B u r p (λH o=>?_) (λi l=>by rw [l];exact s)).mono ?_
 .refine(j9 H g bd S T D C (h.kept0 o) d (by constructor<;>omega) y x).mono ?_;rintro e m ⟨rfl,q,h2⟩;rw [G];exact⟨rfl,h2,aD o.size h2.size,q⟩
 .rintro e w' ⟨m,f,c,rfl,q,⟨K,n,A,I,h2⟩,t,r⟩;refine⟨f,c,rfl,⟨n,A,I,h2.kept t (λi l z=>?_) (λi l z=>?_)⟩,q.trans t (λj F=>.inr F),r⟩;.have:=v i l;omega
  .have:=E i l;omega
theorem cY(w:World)(bd:Nat)(S:Nat->Prop)(D:Dk)(h:zg w bd S D)(u:0<=D.reads)(t:D.reads<=4611686018427387904)(d:Nat)(B:d<65536)(k:Nat)(a:List En)(A:k=4\/k=5)(r:∀e∈a,e.Ok)(p:k=4->∀e∈a,e.mark=false/\e.size=0)(m:a.length<=6)(y:D.look d=zl (zc k a)):
 Calls Tryz.prog 174 #[.iface 29 (.pointer (some ⟨bd,0,none⟩)),.int .i64 d] w λe w'=>∃f c,e=.returned (.agg #[.int .u8 (k:Int),.slice f a.length c])/\zg w' bd S {D with reads:=D.reads+1}/\za (λi=>i=bd) w w'/\qe w' (λb=>w.heap.size<=b) f a/\w'.ownsRow 0 109 5 (.slice f a.length c) a.length (a.map qr).flatten/\(∀j,(Value.slice f a.length c).ownBlock=some j->w.heap.size<=j):=by
 have s:=h.lt;have q:=s bd h.bdS;refine(QP w 29 81 ⟨bd,0,none⟩ (gK _) (λi=>i=bd) (λg=>w.heap.size<=g.heap.size/\zg g bd S {D with reads:=D.reads+1 }) d k a A r p m (λz l=>?_) (λi o=>by rw [o];exact q)).mono ?_
 .refine(jk z bd S D (h.kept l nF) d (by constructor<;>omega) u t).mono ?_;rintro e g ⟨rfl,n,h2⟩;rw [y];exact⟨rfl,h2,aD l.size h2.size,n⟩
 .rintro e w' ⟨g,f,c,rfl,n,⟨E,h2⟩,v,p⟩;refine⟨f,c,rfl,h2.kept v (λi o C=>?_),n.trans v (λj x=>.inr x),p⟩;have:=s i o;omega
theorem qw(C:Ck)(i:Nat)(b:List Value):(C.put i b).ws.length<=C.ws.length+1:=by
 cases a:yd C.ws i with
 |none=>rw [jF b a];simp
 |some k=>obtain⟨c,e⟩:=jt b a;rw [e];simp
theorem vf(w:World)(d bd:Nat)(S T:Nat->Prop)(D:Dk)(C:Ck)(h:Cw w d bd S T D C)(P:Nat->Prop)(a:Option Addr)(f:Nat)(k:Nat)(p:k=4\/k=5)(b:List En)(o:qe w P a b)(m:∀e∈b,e.Ok)(g:b.length<=6)(c:Nat)(i:C.ws.length<1000)(n:Nat)(q:b.length=n):
 Calls Tryz.prog 173 #[.agg #[.int .u8 (k:Int),.slice a n f],.pointer (some ⟨d,0,none⟩),.int .i64 c] w λr w'=>r=.returned (.tuple #[])/\(∃l,Cw w' d bd S l D (C.put c (zl (zc k b)))/\∀j,l j->T j\/w.heap.size<=j)/\za T w w':=by
 subst q;exact VO w d bd S T D C h P a f k p b o m g c i
theorem QW(w:World)(a b c d:Obj):((((w.alloc a).alloc b).alloc c).alloc d).drew.heap[w.heap.size]? =some a/\((((w.alloc a).alloc b).alloc c).alloc d).drew.heap[w.heap.size+1]? =some b/\((((w.alloc a).alloc b).alloc c).alloc d).drew.heap[w.heap.size+1+1]? =some c/\((((w.alloc a).alloc b).alloc c).alloc d).drew.heap[w.heap.size+1+1+1]? =some d/\za (λ_=>False) w ((((w.alloc a).alloc b).alloc c).alloc d).drew/\((((w.alloc a).alloc b).alloc c).alloc d).drew.heap.size=w.heap.size+4:=by
 have i:(w.alloc a).heap.size=w.heap.size+1:=by simp
 have m:((w.alloc a).alloc b).heap.size=w.heap.size+1+1:=by simp
 have l:(((w.alloc a).alloc b).alloc c).heap.size=w.heap.size+1+1+1:=by simp
 have k:((((w.alloc a).alloc b).alloc c).alloc d).heap.size=w.heap.size+4:=by simp
 have k1:=za.alloc (λ_=>False) w a;have k2:=za.alloc (λ_=>False) (w.alloc a) b;have k3:=za.alloc (λ_=>False) ((w.alloc a).alloc b) c;have e:=za.alloc (λ_=>False) (((w.alloc a).alloc b).alloc c) d;have j:=ac w a;have g:=ac (w.alloc a) b;have f:=ac ((w.alloc a).alloc b) c;have h:=ac (((w.alloc a).alloc b).alloc c) d;rw [i] at g;rw [m] at f;rw [l] at h;refine⟨?_,?_,?_,h,?_,k⟩;.exact((e.block _ (by omega) id).trans ((k3.block _ (by omega) id).trans ((k2.block _ (by omega) id).trans j)))
 .exact((e.block _ (by omega) id).trans ((k3.block _ (by omega) id).trans g))
 .exact((e.block _ (by omega) id).trans f)
 .exact(((k1.trans k2 iL).trans k3 iL).trans e iL).trans (za.drew _ _) iL
theorem cZ(w:World)(M bd:Nat)(S T:Nat->Prop)(D:Dk)(C:Ck)(h:Cw w M bd S T D C)(P:Nat->Prop)(z:∀j,P j->¬T j)(a:Option Addr)(c:Nat)(k:Nat)(ap:k=4\/k=5)(b:List En)(Q:qe w P a b)(G:∀e∈b,e.Ok)(m:Nat)(aM:m=b.length/2)(aI:m<b.length)(aQ:b.length<=12)(aK:b.length<=c)(aJ:c<=9223372036854775807)(N ak:Nat)(aU:C.ws.length<900):
 Calls Tryz.prog 200 #[.agg #[.int .u8 (k:Int),.slice a b.length c],.pointer (some ⟨M,0,none⟩),.int .i64 N,.int .i64 ak] w λr w'=>r=.returned (.agg #[.string b[m].pl.key,.int .i64 b[m].pl.num])/\(∃aB,Cw w' M bd S aB D ((C.put N (zl (zc k (b.take m)))).put ak (zl (zc k (b.drop m))))/\∀j,aB j->T j\/w.heap.size<=j)/\za T w w':=by
 obtain⟨g,s,rfl⟩:=Q.base (by omega);have aj:Hid _:=h;have ao:Hid _:=Q.take m;have ax:Hid _:=Q.drop m;have aE:(b.take m).length=m:=by rw [aC];omega
 have aq:(b.drop m).length=b.length-m:=aS ..;have W:Hid ((b.length:Int)/2=(m:Int)):=by show (b.length:Int)/2=(m:Int);omega
 have a3:(m:Int)<=(c:Int):=by omega
 have aX:m<=6:=by omega
 have a5:b.length-m<=6:=by omega
 have ar:Hid (∀e∈b.take m,e.Ok):=λe ag=>G e (aP ag);have av:Hid (∀e∈b.drop m,e.Ok):=λe ag=>G e (eK ag);clear G;have a4:¬c=m:=by omega
 change Hid _ at Q;clear h;go_enter Tryz.func200,Tryz.ntmps200;go_wp2;rw [W.out];clear W aM;have a1:(m:Int)<=(b.length:Int):=by omega
 go_region_held3 (λw'=>w'.cell? ⟨w.heap.size,0,none⟩=some (.int .u8 (k:Int))/\w'.cell? ⟨w.heap.size,1,none⟩=some (.slice (some ⟨g,s,none⟩) b.length c)) (go_keep) (fail);obtain⟨_,y,K,J,B,aN⟩:=QW w (.cells #[.int .u8 (k:Int),.slice (some ⟨g,s,none⟩) b.length c] 209) (.cells #[.string ⟨#[]⟩,.int .i64 0] 107) (.cells #[.int .u8 (k:Int),.slice (some ⟨g,s,none⟩) m c] 209) (.cells #[.int .u8 (k:Int),.slice (some ⟨g,s+m*5,none⟩) (b.length-m) (c-m)] 209);have ad:Hid _:=y;have A:Hid _:=K;have F:Hid _:=J;have n:Hid _:=B;clear y K J B;generalize ((((w.alloc (.cells #[.int .u8 (k:Int),.slice (some ⟨g,s,none⟩) b.length c] 209)).alloc (.cells #[.string ⟨#[]⟩,.int .i64 0] 107)).alloc (.cells #[.int .u8 (k:Int),.slice (some ⟨g,s,none⟩) m c] 209)).alloc (.cells #[.int .u8 (k:Int),.slice (some ⟨g,s+m*5,none⟩) (b.length-m) (c-m)] 209)).drew=ai at*;generalize aG:w.heap.size+1+1+1=i at*;generalize aA:w.heap.size+1+1=H at*
 rotate_left
 obtain⟨_,y,K,J,B,aN⟩:=QW w (.cells #[.int .u8 (k:Int),.slice (some ⟨g,s,none⟩) b.length c] 209) (.cells #[.string ⟨#[]⟩,.int .i64 0] 107) (.cells #[.int .u8 (k:Int),.slice (some ⟨g,s+m*5,none⟩) (b.length-m) (c-m)] 209) (.cells #[.int .u8 (k:Int),.slice (some ⟨g,s,none⟩) m c] 209);have ad:Hid _:=y;have F:Hid _:=K;have A:Hid _:=J;have n:Hid _:=B;clear y K J B;generalize ((((w.alloc (.cells #[.int .u8 (k:Int),.slice (some ⟨g,s,none⟩) b.length c] 209)).alloc (.cells #[.string ⟨#[]⟩,.int .i64 0] 107)).alloc (.cells #[.int .u8 (k:Int),.slice (some ⟨g,s+m*5,none⟩) (b.length-m) (c-m)] 209)).alloc (.cells #[.int .u8 (k:Int),.slice (some ⟨g,s,none⟩) m c] 209)).drew=ai at*;generalize aA:w.heap.size+1+1+1=H at*;generalize aG:w.heap.size+1+1=i at*
 rotate_left
 all_goals
  have aZ:ai.cell? ⟨H,0,none⟩=some (.int .u8 (k:Int)):=cR A.out rfl;have aV:ai.cell? ⟨H,1,none⟩=some (.slice (some ⟨g,s,none⟩) m c):=cR A.out rfl;have aD:Hid _:=aj.kept0 n.out;have X:=aj.chg.lt;have t:H<ai.heap.size/\i<ai.heap.size/\w.heap.size<=H/\w.heap.size<=i:=by omega
  have al:Hid _:=ao.kept n nF;have ab:Hid _:=ax.kept n nF;have o:∀j,w.heap.size<=j->¬T j:=λj d aL=>by have:=X j aL;omega
  change Hid _ at o;clear X;change Hid _ at z;have aw:Hid ((b.drop m)[0]'(by omega)=b[m]):=by show (b.drop m)[0]'(by omega)=b[m];rw [lZ];rfl
  generalize Z:b[m]=x at*;change Hid _ at Z
  go_wp2_with (first
   |(go_at_call 173;refine(vf af M bd S aO D _ ay _ _ (c-m) k ap (b.drop m) am av (by omega) ak (by have:=qw C N (zl (zc k (b.take m)));omega) (b.length-m) aq).mono ?_;rintro r l ⟨rfl,⟨aF,U,p⟩,R⟩;have ah:Hid _:=p;have q:=V.trans R E.out;have ae:Hid _:=(q.block i t.2.1 (o i t.2.2.2)).trans F.out;have a2:l.cell? ⟨i,1,none⟩=some (.slice (some ⟨g,s+m*5,none⟩) (b.length-m) (c-m)):=(cR ae.out rfl);have f:Hid (l.heap[w.heap.size+1]? =_):=(q.block (w.heap.size+1) (by omega) (o _ (by omega))).trans ad.out;have aW:l.cell? ⟨w.heap.size+1,0,none⟩=some (.string ⟨#[]⟩):=(cR f.out rfl);have a0:l.cell? ⟨w.heap.size+1,1,none⟩=some (.int .i64 0):=(cR f.out rfl);have a8:=aa l (w.heap.size+1) 0 _ _ f.out;have aY:=aa l (w.heap.size+1) 1 _ _ f.out;obtain⟨O,aT, -, -, -, -, -⟩:=(ab.kept q (λj d=>z j d)).cells 0 (by omega);rw [Nat.zero_mul,lD,aw.out] at O aT;have aR:(0:Int)<((b.length-m:Nat):Int):=(by omega);change Hid _ at U R q;clear p)
   |(go_at_call 173;refine(vf ai M bd S T D C aD P _ c k ap (b.take m) al ar (by omega) N (by omega) m aE).mono ?_;rintro r af ⟨rfl,⟨aO,ac,Y⟩,u⟩;have ay:Hid _:=ac;have E:Hid _:=Y;have V:Hid _:=u;have am:Hid _:=(ab.below.kept u (λj d=>z j d.1));have L:Hid _:=(u.block i t.2.1 (o i t.2.2.2)).trans F.out;have a7:af.cell? ⟨i,0,none⟩=some (.int .u8 (k:Int)):=(cR L.out rfl);have a6:af.cell? ⟨i,1,none⟩=some (.slice (some ⟨g,s+m*5,none⟩) (b.length-m) (c-m)):=(cR L.out rfl);clear ac Y u))
  have az:=heap_setCell_same l (w.heap.size+1) 0 _ _ (.string x.pl.key) f.out;have au:=heap_setCell_same _ (w.heap.size+1) 1 _ _ (.int .i64 x.pl.num) az;have an:za (λj=>j=w.heap.size+1) l ((l.setCell ⟨w.heap.size+1,0,none⟩ (.string x.pl.key)).setCell ⟨w.heap.size+1,1,none⟩ (.int .i64 x.pl.num)):=(za.setCell (S:=λj=>j=w.heap.size+1) l ⟨w.heap.size+1,0,none⟩ _ rfl).trans (za.setCell (S:=λj=>j=w.heap.size+1) _ ⟨w.heap.size+1,1,none⟩ _ rfl) iL
  have p:∀j,aF j->T j\/ai.heap.size<=j:=λj d=>by
   rcases ah j d with I|I;.exact E j I
   .right;have:=V.size;omega
  have aH:=aj.disk.lt;refine bodyPost_ret (v:=.agg #[.string x.pl.key,.int .i64 x.pl.num]) (results_cell_row Tryz.results200 _ _ (w.heap.size+1) 107 _ (0,0) _ rfl au Tryz.underlying107 rfl (by kernel_rfl)) rfl ⟨by rw [Z.out],⟨aF,U.kept an (λj d O=>by have:=aH j d;omega) (λj d O=>?_),λj d=>(p j d).imp id (λh=>by omega)⟩,?_⟩
  .subst O;rcases p _ d with I|I;.exact o _ (by omega) I
   .omega
  .exact((n.mono fE).trans q iL).trans an (λj d=>.inr (by omega))
theorem ct{P:Program}(w:World)(s y B f:TypeId)(h g r d p:Nat)(a:Addr)(e o:Nat)(b:Array Value)(t:TypeId)(c:List Value)
 (D:P.underlying s=some (.slice f)) (q:(P.info? f).map (·.size)=some h)
 (u:w.heap[g]? =some (.cells b t (0,0))) (C:Nat.min e d*h=c.length)
 (l:∀j v,c[j]? =some v->w.cell? (a.add j)=some v) (n:r+c.length<=b.size) (x:∀v∈c,v.oneCell'=true):
 (Builtin.copy_ #[s,y] B #[.slice (some ⟨g,r,none⟩) d p,.slice (some a) e o]).run P w=
  .ok (goInt (Nat.min e d)) (w.setRow g (b.toList.take r++c++b.toList.drop (r+c.length)).toArray):=by
 have z:=run_loadCells_list (P:=P) w a c l;have k:=run_storeCells_at P g r t c 0 b w u (by simpa using n) x
 cases m:P.info? f with
 |none=>simp [m] at q
 |some i=>
  have A:i.size=h:=by simpa [m] using q
  simp only [lD] at k;simp [Builtin.copy_,ii D,Builtin.lenOf,Builtin.firstCells,sizeOf,typeInfo,m,A,C,z,k]
def Dm(args:Array Value):Sem Value:=Builtin.copy_ #[207, 207] 3 args
theorem VT(args:Array Value):Builtin.copy_ #[207, 207] 3 args=Dm args:=rfl
def GW(args:Array Value):Sem Value:=Builtin.append_ #[207, 3] 207 args
theorem UW(args:Array Value):Builtin.append_ #[207, 3] 207 args=GW args:=rfl
def zj(es:List En):List Value:=(es.map qr).flatten
theorem yh(a:List En):(zj a).length=a.length*5:=by
 induction a with
 |nil=>rfl
 |cons e r b=>rw [zj,aO,aU,ag];rw [zj] at b;rw [b];simp [qr];omega
theorem qQ(A B:List En):zj (A++B)=zj A++zj B:=by simp [zj]
theorem xJ(e:En)(B:List En):zj (e::B)=qr e++zj B:=by simp [zj]
theorem ke(b:List En):∀v∈zj b,v.oneCell'=true:=λv a=>by
 obtain⟨l,c,a⟩:=eW.1 a;obtain⟨e,d,rfl⟩:=au.1 c;simp [qr] at a;rcases a with rfl|rfl|rfl|rfl|rfl<;>rfl
theorem Jn(e:En):∀v∈qr e,v.oneCell'=true:=λv a=>ke [e] v (by rw [xJ];exact af _ a)
theorem Tryz.entry_size:(Tryz.prog.info? 109).map (·.size)=some 5:=zY Tryz.infoEntry
theorem dm(w:World)(g l b h:Nat)(a:Addr)(c f:Nat)(d:Array Value)(t:TypeId)(e:List Value)
 (m:w.heap[g]? =some (.cells d t (0,0))) (o:Nat.min c b*5=e.length)
 (i:∀j v,e[j]? =some v->w.cell? (a.add j)=some v) (k:l+e.length<=d.size) (n:∀v∈e,v.oneCell'=true):
 (Dm #[.slice (some ⟨g,l,none⟩) b h,.slice (some a) c f]).run Tryz.prog w=
  .ok (goInt (Nat.min c b)) (w.setRow g (d.toList.take l++e++d.toList.drop (l+e.length)).toArray):=
 ct w 207 207 3 109 5 g l b h a c f d t e Tryz.underlying207 Tryz.entry_size m o i k n
theorem Kq(A B:List Value)(v:List Value)(a:List Value)(k:Nat)(e:v.length=k)(d:k<=a.length):
 let cur:=A++B++a;let cur1:=cur.take (A.length+k)++B++cur.drop (A.length+k+B.length)
 cur1.take A.length++v++cur1.drop (A.length+k)=A++v++B++a.drop k:=by
 have b:(A++B++a).drop (A.length+k+B.length)=a.drop k:=by rw [show A.length+k+B.length=(A++B).length+k by rw [ag];omega,List.drop_append,List.drop_eq_nil_of_le (by omega),aK,lx]
 have h2:((A++B++a).take (A.length+k)).length=A.length+k:=by rw [aC,ag,ag];omega
 have c:((A++B++a).take (A.length+k)).take A.length=A:=by rw [iu,a8 (by omega),ak,aZ (aF _),eN]
 simp only;rw [b,ak ((A++B++a).take _) B];rw [aZ (by omega),c,eY (by omega),List.drop_eq_nil_of_le (by omega)];simp
structure ug (w w':World) (a:Option Addr) (n cap:Nat) (es':List En) (g cp:Nat):Prop where
 own:w'.ownsRow 0 109 5 (.slice (some ⟨g,0,none⟩) es'.length cp) es'.length (zj es')
 at_:(Value.slice a n cap).ownBlock=some g\/w.heap.size<=g
 kept:za (λj=>(Value.slice a n cap).ownBlock=some j) w w'
section
attribute [local go_sem ↓] dl
theorem ZS(w:World)(a:Option Addr)(n b:Nat)(f:List En)(y:f.length=n)(h:w.ownsRow 0 109 5 (.slice a n b) n (zj f))(l:Nat)(e:En)(s:w.heap[l]? =some (.cells (qr e).toArray 109 (0,0)))(u:n<=1000)(x:n<=b)(q:b<=9223372036854775807):
 Calls Tryz.prog 177 #[.slice a n b,.int .i64 n,.slice (some ⟨l,0,none⟩) 1 1] w λr w'=>∃g c,r=.returned (.slice (some ⟨g,0,none⟩) (n+1) c)/\ug w w' a n b (f++[e]) g c:=by
 obtain⟨g,c,z,v,i,d,k,o⟩:=QO w a n b (zj f) h l e s u
 have m:Hid (ug w z a n b (f++[e]) g c):=by refine⟨?_,k.imp id (λh=>by omega),za.grown d (λj t=>t)⟩;rw [ag,iq,y,qQ,xJ];simpa [zj] using i
 clear i d k o h;have A:(n:Int)<=(b:Int):=by omega
 go_enter Tryz.func177,Tryz.ntmps177
 cases a with
 |none=>
  go_wp2
  all_goals
   go_ret;exact⟨g,c,rfl,m.out⟩
 |some a=>
  by_cases p:b=n
  .subst p;go_wp2
   all_goals
    go_ret;exact⟨g,c,rfl,m.out⟩
  .go_wp2
   all_goals
    go_ret;exact⟨g,c,rfl,m.out⟩
end
theorem cu(w:World)(a g h f lb d l:Nat)(i:a≠g)(b:Array Value)(vs:List Value)(c:w.heap[a]? =some (.cells vs.toArray 109 (0,0)))(j:w.heap[g]? =some (.cells b 109 (0,0)))(k:b.size≠0):
 (callFunc 198 #[.slice (some ⟨a,0,none⟩) h f,.slice (some ⟨g,l,none⟩) lb d]).run Tryz.prog w=.ok (.value (.bool false)) w:=by
 rw [run_callFunc_extern Tryz.func198 (by kernel_rfl) (by kernel_rfl) (by kernel_rfl) (e:=Extern.SlicesOverlaps.overlaps #[207, 207] #[4]) (by kernel_rfl),
  Lib.run_overlaps_apart w 207 4 109 Tryz.underlying207 5 (xu Tryz.entry_size) ⟨a,0,none⟩ ⟨g,l,none⟩ h f lb d i 109 109 vs.length b.size (by simp [World.shape?, c]) (by simp [World.shape?, j]) k (aa w a 0 _ _ c) (aa w a _ _ _ c)]
 rfl
section
attribute [local go_sem ↓] VT
theorem cv(w:World)(g n a i:Nat)(b:List En)(X:b.length=n)(h:w.ownsRow 0 109 5 (.slice (some ⟨g,0,none⟩) n a) n (zj b))(f:Nat)(D:f≠g)(e:En)(B:w.heap[f]? =some (.cells (qr e).toArray 109 (0,0)))(ao:n<=1000)(ap:i<n)(S:n+1<=a)(T:a<=9223372036854775807):
 Calls Tryz.prog 177 #[.slice (some ⟨g,0,none⟩) n a,.int .i64 i,.slice (some ⟨f,0,none⟩) 1 1] w λr w'=>∃K P,r=.returned (.slice (some ⟨K,0,none⟩) (n+1) P)/\ug w w' (some ⟨g,0,none⟩) n a (b.take i++e::b.drop i) K P:=by
 obtain⟨c,o,O,F⟩:∃c,w.heap[g]? =some (.cells c 109 (0,0))/\c.size=a*5/\c.toList.take (n*5)=zj b:=by
  rcases h.2 with⟨W,_⟩|⟨K,ac,c,V,_,o,_,_,U,ab⟩;.cases W
  .cases V;exact⟨c,o,U,ab⟩
 have N:∀Z lb L,(callFunc 198 #[.slice (some ⟨f,0,none⟩) 1 1,.slice (some ⟨g,Z,none⟩) lb L]).run Tryz.prog w=.ok (.value (.bool false)) w:=λZ lb L=>cu w f g 1 1 lb L Z D c (qr e) B o (by omega)
 have A:c.toList=zj (b.take i)++zj (b.drop i)++c.toList.drop (n*5):=by rw [<-qQ,aE,<-F,aE]
 have l:(zj (b.take i)).length=i*5:=by rw [yh,aC,a8 (by omega)]
 have d:(zj (b.drop i)).length=(n-i)*5:=by rw [yh,aS,X]
 have z:=dm w.drew g ((i+1)*5) (n+1-(i+1)) (a-(i+1)) ⟨g,i*5,none⟩ (n+1-i) (a-i) c 109 (zj (b.drop i)) o (by rw [d];rw [show Nat.min (n+1-i) (n+1-(i+1))=n-i from by simp only [Nat.min_def];split<;>omega])
  (λj v s=>by
   rw [Addr.add_lit];show w.cell? ⟨g,i*5+j,none⟩=some v;rw [aG w g (i*5+j) _ _ _ o,<-iZ,A,ak,iB (by omega),l,lx,io (by have:=(et.1 s).1;omega)]
   exact s) (by rw [d];omega) (ke _)
 have p:=Kq (zj (b.take i)) (zj (b.drop i)) (qr e) (c.toList.drop (n*5)) 5 rfl (by rw [aS,ik];omega);simp only at p;rw [<-A,l,d] at p;rw [d,show (i+1)*5=i*5+5 from by omega] at z;generalize E:c.toList.take (i*5+5)++zj (b.drop i)++c.toList.drop (i*5+5+(n-i)*5)=t at*;have x:t.length=a*5:=by rw [<-E];simp only [ag,aC,aS,ik,d];omega
 have y:(w.drew.setRow g t.toArray).heap[g]? =some (.cells t.toArray 109 (0,0)):=setRow_heap w.drew g _ _ 109 _ o;have u:za (λj=>j=g) w (w.drew.setRow g t.toArray):=⟨rfl,rfl,rfl,by simp,λk _ J=>setRow_other w.drew g k _ (λe=>J (by rw [e]))⟩;have R:f<w.heap.size:=(lT B);generalize w.drew.setRow g t.toArray=m at*;have C:m.heap[f]? =_:=(u.block f R D).trans B
 have I:=dm m g (i*5) (n+1-i) (a-i) ⟨f,0,none⟩ 1 1 t.toArray 109 (qr e) y (by rw [show Nat.min 1 (n+1-i)=1 from by simp only [Nat.min_def];split<;>omega];rfl)
  (λj v s=>by
   rw [Addr.add_lit,eT,aG m f j _ _ _ C]
   simpa using s) (by rw [aq,x];simp [qr];omega) (Jn _)
 have q:(qr e).length=5:=rfl;rw [iQ,q,p] at I;have G:=setRow_heap m g _ ((zj (b.take i)++qr e++zj (b.drop i)++(c.toList.drop (n*5)).drop 5).toArray) 109 _ y;have H:za (λj=>j=g) m (m.setRow g ((zj (b.take i)++qr e++zj (b.drop i)++(c.toList.drop (n*5)).drop 5).toArray)):=⟨rfl,rfl,rfl,by simp,λk _ J=>setRow_other m g k _ (λe=>J (by rw [e]))⟩;generalize m.setRow g _=aa at*
 have Y:Hid (ug w aa (some ⟨g,0,none⟩) n a (b.take i++e::b.drop i) g a):=by
  have M:(b.take i++e::b.drop i).length=n+1:=by simp only [ag,aC,ae,aS];omega
  have Q:zj (b.take i++e::b.drop i)=zj (b.take i)++qr e++zj (b.drop i):=by rw [qQ,xJ,ak]
  refine⟨⟨by rw [yh],.inr ⟨g,a,_,rfl,aj _,G,by omega,by unfold maxLen;omega,?_,?_⟩⟩,.inl rfl,(u.trans H iL).mono (λj s=>by rw [s];rfl)⟩;.simp only [aq,ag,aS,ik,l,d,q];omega
  .rw [iQ,Q,M,aZ (by simp only [ag,l,d,q];omega),an (by simp only [ag,l,d,q];omega)]
 clear A p G H y u E x l d F O o h B C;have am:(i:Int)<(n:Int):=by omega
 have al:¬(i:Int)=(n:Int):=by omega
 have ad:(n:Int)+1<=(a:Int):=by omega
 have af:¬(a:Int)<(n:Int)+1:=by omega
 have ai:¬a=i:=by omega
 have ah:¬a=i+1:=by omega
 rw [show n+1-(i+1)=n-i from by omega,show i*5+5=(i+1)*5 from by omega] at z;go_enter Tryz.func177,Tryz.ntmps177;go_wp2_with (simp only [N])
 go_region
 go_wp2;go_ret;exact⟨g,a,rfl,Y.out⟩
end
theorem Xx(A B b:List Value)(v:List Value)(a:List Value)(f:b.length=v.length+B.length):
 let cur:=A++b++a;let cur1:=cur.take A.length++v++cur.drop (A.length+v.length)
 cur1.take (A.length+v.length)++B++cur1.drop (A.length+v.length+B.length)=A++v++B++a:=by
 simp only;have d:(A++b++a).take A.length=A:=by rw [ak,aZ (aF _),eN]
 have h2:(A++b++a).drop (A.length+v.length)=b.drop v.length++a:=by rw [ak,<-eA,eY (aF _),lm,aK,eY (by omega)]
 rw [d,h2];have e:(A++v).length=A.length+v.length:=ag;rw [<-e,aZ (aF _),eN,<-eA,eY (aF _),lm,aK];have c:(b.drop v.length).length=B.length:=by rw [aS];omega
 rw [<-c,eY (aF _),lm,aK]
section
attribute [local go_sem ↓] VT UW
theorem cw(w:World)(g n a i:Nat)(c:List En)(az:c.length=n)(h:w.ownsRow 0 109 5 (.slice (some ⟨g,0,none⟩) n a) n (zj c))(t:Nat)(aN:t≠g)(e:En)(ai:w.heap[t]? =some (.cells (qr e).toArray 109 (0,0)))(aW:n<=1000)(aX:i<n)(aA:a<n+1)(aM:n<=a):
 Calls Tryz.prog 177 #[.slice (some ⟨g,0,none⟩) n a,.int .i64 i,.slice (some ⟨t,0,none⟩) 1 1] w λr w'=>∃am ax,r=.returned (.slice (some ⟨am,0,none⟩) (n+1) ax)/\ug w w' (some ⟨g,0,none⟩) n a (c.take i++e::c.drop i) am ax:=by
 have aw:a=n:=by omega
 subst aw
 obtain⟨m,z,Q,Z⟩:∃m,w.heap[g]? =some (.cells m 109 (0,0))/\m.size=a*5/\m.toList.take (a*5)=zj c:=by
  rcases h.2 with⟨aK,_⟩|⟨am,aH,m,aJ,_,z,_,_,aI,aL⟩;.cases aK
  .cases aJ;exact⟨m,z,aI,aL⟩
 have L:m.toList=zj (c.take i)++zj (c.drop i):=by rw [<-qQ,aE,<-Z,an (by rw [ik,Q];exact aF _)]
 have f:(zj (c.take i)).length=i*5:=by rw [yh,aC,a8 (by omega)]
 have d:(zj (c.drop i)).length=(a-i)*5:=by rw [yh,aS,az]
 obtain⟨au,O,T,af,N⟩:=eZ Tryz.infoEntry
 have aa:∀j v,(zj (c.take i)++zj (c.drop i))[j]? =some v->w.cell? ⟨g,j,none⟩=some v:=λj v o=>by rw [aG w g j _ _ _ z,<-iZ,L];exact o
 have C:(Builtin.firstCells au.size i (.slice (some ⟨g,0,none⟩) i a)).run Tryz.prog w.drew=.ok (zj (c.take i)).toArray w.drew:=by
  rw [af]
  exact run_firstCells_some w.drew 5 i ⟨g,0,none⟩ i a (zj (c.take i)) (by rw [f]) (λj v o=>by
   rw [Addr.add_lit,eT];show w.cell? ⟨g,j,none⟩=some v
   exact aa j v (by rw [io (et.1 o).1];exact o))
 have Y:i+(a+1-i)=a+1:=by omega
 have ab:(GW #[.slice (some ⟨g,0,none⟩) i a,.int .i64 ((a+1-i:Nat):Int)]).run Tryz.prog w=_:=
  Lib.run_append_grow_zeros w 207 3 207 109 au _ .i64 .i64 Tryz.underlying207 Tryz.underlying3 O T (some ⟨g,0,none⟩) i a (zj (c.take i)) C (a+1-i) (by omega) (by omega) (by omega) (by omega) (by rw [N];omega) (by rw [N,Y];exact growslice_fits (by omega) (by omega))
 rw [Y] at ab;have aP:=grownCap_ge w (a+1) a 109;have S:=grownCap_le_maxLen w (a+1) a 109 (by unfold maxLen;omega);generalize grownCap w (a+1) a 109=G at*;have A:∀k,(Builtin.zeroCells (Value.agg #[.string ⟨#[]⟩,.int .i64 0,.bool false,.int .i64 0,.int .i64 0]).cells k).toList.length=k*5:=λk=>by simp [Builtin.zeroCells,Value.cells]
 have I:=A (a+1-i);have K:=A (G-(a+1));clear A C O T af N h Z;generalize Builtin.zeroCells (Value.agg #[.string ⟨#[]⟩,.int .i64 0,.bool false,.int .i64 0,.int .i64 0]).cells (a+1-i)=F at*;generalize Builtin.zeroCells (Value.agg #[.string ⟨#[]⟩,.int .i64 0,.bool false,.int .i64 0,.int .i64 0]).cells (G-(a+1))=u at*;have H:((zj (c.take i)).toArray++F++u).toList=zj (c.take i)++F.toList++u.toList:=by simp
 have R:((zj (c.take i)).toArray++F++u).size=G*5:=by rw [<-ik,H,ag,ag,f,I,K];omega
 generalize (zj (c.take i)).toArray++F++u=ao at*;have l:(qr e).length=5:=rfl;have x:=Xx (zj (c.take i)) (zj (c.drop i)) F.toList (qr e) u.toList (by rw [I,d,l];omega);simp only at x;rw [<-H,f,d,l] at x;have ar:t<w.heap.size:=(lT ai);have ap:g<w.heap.size:=(lT z);have D:(w.drew.alloc (.cells ao 109)).heap[w.heap.size]? =some (.cells ao 109 (0,0)):=ac w.drew _;have s:za (λ_=>False) w (w.drew.alloc (.cells ao 109)):=za.trans (b:=w.drew) (za.drew _ w) (za.alloc _ _ _) iL;generalize w.drew.alloc (.cells ao 109)=q at*;have U:q.heap[t]? =_:=(s.block t ar id).trans ai
 have al:=dm q w.heap.size (i*5) (a+1-i) (G-i) ⟨t,0,none⟩ 1 1 ao 109 (qr e) D (by rw [show Nat.min 1 (a+1-i)=1 from by simp only [Nat.min_def];split<;>omega];rfl)
  (λj v o=>by
   rw [Addr.add_lit,eT,aG q t j _ _ _ U]
   simpa using o) (by rw [R,l];omega) (Jn _)
 rw [l] at al;generalize ad:ao.toList.take (i*5)++qr e++ao.toList.drop (i*5+5)=y at*;have J:y.length=G*5:=by rw [<-ad];simp only [ag,aC,aS,ik,l];omega
 have M:(q.setRow w.heap.size y.toArray).heap[w.heap.size]? =some (.cells y.toArray 109 (0,0)):=setRow_heap q w.heap.size _ _ 109 _ D;have E:za (λj=>j=w.heap.size) q (q.setRow w.heap.size y.toArray):=⟨rfl,rfl,rfl,by simp,λk _ ah=>setRow_other q w.heap.size k _ (λe=>ah (by rw [e]))⟩;generalize q.setRow w.heap.size y.toArray=p at*;have W:p.heap[g]? =_:=(E.block g (by have:=s.size;omega) (by omega)).trans ((s.block g ap id).trans z)
 have B:=dm p.drew w.heap.size (i*5+5) (a-i) (G-(i+1)) ⟨g,i*5,none⟩ (a-i) (a-i) y.toArray 109 (zj (c.drop i)) M (by rw [d];rw [show Nat.min (a-i) (a-i)=a-i from by simp])
  (λj v o=>by
   rw [Addr.add_lit];show p.cell? ⟨g,i*5+j,none⟩=some v;rw [aG p g (i*5+j) _ _ _ W,<-iZ,L,iB (by omega),f,lx]
   exact o) (by rw [aq,J,d];omega) (ke _)
 rw [iQ,d,x] at B;have X:=setRow_heap p.drew w.heap.size _ ((zj (c.take i)++qr e++zj (c.drop i)++u.toList).toArray) 109 _ M;have V:za (λj=>j=w.heap.size) p (p.drew.setRow w.heap.size ((zj (c.take i)++qr e++zj (c.drop i)++u.toList).toArray)):=⟨rfl,rfl,rfl,by simp,λk _ ah=>setRow_other p.drew w.heap.size k _ (λe=>ah (by rw [e]))⟩;generalize p.drew.setRow w.heap.size _=aD at*
 have aB:Hid (ug w aD (some ⟨g,0,none⟩) a a (c.take i++e::c.drop i) w.heap.size G):=by
  have av:(c.take i++e::c.drop i).length=a+1:=by simp only [ag,aC,ae,aS];omega
  have ay:zj (c.take i++e::c.drop i)=zj (c.take i)++qr e++zj (c.drop i):=by rw [qQ,xJ,ak]
  refine⟨⟨by rw [yh],.inr ⟨w.heap.size,G,_,rfl,aj _,X,by omega,S,?_,?_⟩⟩,.inr (aF _),(((s.mono fE).trans E (λj o=>.inr (by omega))).trans V (λj o=>.inr (by omega)))⟩;.simp only [aq,ag,f,d,l,K];omega
  .rw [iQ,ay,av,aZ (by simp only [ag,f,d,l];omega),an (by simp only [ag,f,d,l];omega)]
 unfold maxLen at S;clear L x M E D s ad J f d Q z ai U aa H R X V W I K az;have aV:(i:Int)<(a:Int):=by omega
 have aU:¬(i:Int)=(a:Int):=by omega
 have aR:(a:Int)<(a:Int)+1:=by omega
 have P:((a+1-i:Nat):Int)=(a:Int)+1-(i:Int):=by omega
 rw [P] at ab;have aO:¬a=i:=by omega
 have aT:¬G=i+1:=by omega
 have aQ:¬G=i:=by omega
 rw [show i*5+5=(i+1)*5 from by omega] at B;clear P;go_enter Tryz.func177,Tryz.ntmps177;go_wp2
 go_region
 go_wp2;go_ret;exact⟨w.heap.size,G,rfl,aB.out⟩
end
theorem uN(w:World)(a:Option Addr)(n b i:Nat)(c:List En)(q:c.length=n)(h:w.ownsRow 0 109 5 (.slice a n b) n (zj c))(d:Nat)(y:(Value.slice a n b).ownBlock≠some d)(e:En)(m:w.heap[d]? =some (.cells (qr e).toArray 109 (0,0)))(s:n<=1000)(C:i<=n):
 Calls Tryz.prog 177 #[.slice a n b,.int .i64 i,.slice (some ⟨d,0,none⟩) 1 1] w λr w'=>∃f u,r=.returned (.slice (some ⟨f,0,none⟩) (n+1) u)/\ug w w' a n b (c.take i++e::c.drop i) f u:=by
 have g:n<=b/\b<=9223372036854775807:=by
  rcases h.2 with⟨p,h2⟩|⟨f,t,v,o,_,A,p,h2,B,D⟩;.cases p;omega
  .cases o;unfold maxLen at h2;omega
 by_cases x:i=n
 .subst x;have:=ZS w a i b c q h d e m s g.1 g.2;rw [an (by omega),eo (by omega)];exact this
 .have l:i<n:=by omega
  rcases h.2 with⟨p,h2⟩|⟨f,t,v,o,_⟩;.omega
  .cases o;have j:d≠f:=λz=>y (by rw [z];rfl);by_cases k:n+1<=b;.exact cv w f n b i c q h d j e m s l k g.2
   .exact cw w f n b i c q h d j e m s l (by omega) g.1
def uO(N:Nat)(m:List UInt8):Option Nat:=(List.range (N-21)).find? λi=> !zT m i
theorem dV{i:Nat}(c:i+21<N)(h2:zT m i=false)(b:∀j,j<i->zT m j=true):uO N m=some i:=by
 unfold uO;rw [List.find?_range_eq_some];refine⟨by simpa using h2,by simp;omega,λj a=>by simpa using b j a⟩
theorem dW(h:∀i,i+21<N->zT m i=true):uO N m=none:=by
 unfold uO;rw [lz];intro i a;have:=h i (by simp at a;omega);simpa using this
theorem QX{i:Nat}(h:uO N m=some i):i+21<N/\zT m i=false/\∀j,j<i->zT m j=true:=by
 unfold uO at h;rw [List.find?_range_eq_some] at h;obtain⟨c,h2,b⟩:=h;refine⟨by simp at h2;omega,by simpa using c,λj a=>by simpa using b j a⟩
def Ck.take(C:Ck)(N:Nat)(m:List UInt8):Nat×Ck×List UInt8:=match uO N m with
 |some i=>(i+21,C.put 2 (zl (zR (ue m i))),ue m i)
 |none=>(0,{C with full:=true},m)
theorem dX(w:World)(c bd:Nat)(S T:Nat->Prop)(D:Dk)(C:Ck)(h:Cw w c bd S T D C)(m:List UInt8)(s:qF (C.look D 2) m)(p:0<=D.reads)(l:D.reads<=4611686018427387904)(d:C.ws.length<1000):
 Calls Tryz.prog 134 #[.pointer (some ⟨c,0,none⟩)] w λe w'=>e=.returned (.int .i64 ((C.take D.bs.length m).1:Nat))/\(∃(n:Int) (o:Nat->Prop),0<=n/\n<=1/\Cw w' c bd S o {D with reads:=D.reads+n} (C.take D.bs.length m).2.1/\∀k,o k->T k\/w.heap.size<=k)/\za (λk=>k=bd\/T k) w w':=by
 refine(VS w c bd S T D C h m s p l d).mono ?_;rintro e w' ⟨a,r,rfl,f⟩;have j:=f.is;refine⟨?_,?_,f.kept⟩
 .rcases j with⟨i,rfl,b,h2,g,rfl⟩|⟨rfl,b,rfl⟩;.unfold Ck.take;rw [dV b h2 g];rfl
  .unfold Ck.take;rw [dW b];rfl
 .have q:(C.take D.bs.length m).2.1=r:=by
   rcases j with⟨i,rfl,b,h2,g,rfl⟩|⟨rfl,b,rfl⟩;.unfold Ck.take;rw [dV b h2 g]
   .unfold Ck.take;rw [dW b]
  rw [q];exact f.at_
theorem QY(ws:List (Nat×List Value))(i:Int):yd ws i=(ws.map Prod.fst).findIdx? (λn:Nat=>decide ((n:Int)=i)):=by
 unfold yd;rw [List.findIdx?_map];rfl
theorem QZ(C:Ck)(D:Dk)(i:Nat)(b:List Value)(j:Int):(C.put i b).look D j=if j=i then b else C.look D j:=by
 cases c:yd C.ws i with
 |none=>
  rw [jF b c];unfold Ck.look
  have f:yd (C.ws++[(i,b)]) j=(yd C.ws j).or (if (i:Int)=j then some C.ws.length else none):=by unfold yd;rw [List.findIdx?_append];congr 1;by_cases l:(i:Int)=j<;>simp [l]
  simp only [f];by_cases a:j=i
  .subst a;rw [c,aB rfl,aB rfl];simp
  .rw [aw a,aw (λh=>a h.symm),Option.or_none]
   cases g:yd C.ws j with
   |none=>rfl
   |some k=>
    obtain⟨d,_⟩:=xB (D:=D) g;simp only;rw [aA,io d,<-aA]
 |some k=>
  obtain⟨d,_,r⟩:=xB (D:=D) c;obtain⟨_,e⟩:=jt b c;rw [e];unfold Ck.look
  have f:yd (C.ws.set k (C.ws[k].1,b)) j=yd C.ws j:=by
   rw [QY,QY,lU];congr 1;have:C.ws[k].1=(C.ws.map Prod.fst)[k]'(by simpa using d):=by simp
   rw [this,List.set_getElem_self]
  simp only [f];by_cases a:j=i
  .subst a;rw [c,aB rfl];simp [d]
  .rw [aw a]
   cases g:yd C.ws j with
   |none=>rfl
   |some n=>
    obtain⟨q,_,p⟩:=xB (D:=D) g;have m:k≠n:=λo=>a (by subst o;omega);simp only;rw [aA,iK m,<-aA]
theorem zZ(C:Ck)(D:Dk)(i:Nat)(b:List Value)(j:Int)(h:j≠i):(C.put i b).look D j=C.look D j:=by rw [QZ,aw h]
theorem qn(C:Ck)(D:Dk)(i:Nat)(b:List Value):(C.put i b).look D i=b:=by rw [QZ,aB rfl]
theorem qF.put{D:Dk}(h:qF (C.look D 2) m)(i:Nat)(b:List Value)(a:i≠2):qF ((C.put i b).look D 2) m:=by rw [zZ _ _ _ _ _ (by omega)];exact h
theorem qF.take{D:Dk}(h:qF (C.look D 2) m)(N:Nat):qF ((C.take N m).2.1.look D 2) (C.take N m).2.2:=by
 unfold Ck.take;split;.exact⟨by rw [QT];exact h.len,.inl (qn C D 2 _)⟩
 .exact h
theorem UX(C:Ck)(N:Nat)(m:List UInt8):(C.take N m).1=0\/(21<=(C.take N m).1/\(C.take N m).1<N):=by
 unfold Ck.take;split;.next i h=>right;have:=(QX h).1;simp only;omega
 .exact .inl rfl
theorem uP(C:Ck)(N:Nat)(m:List UInt8):(C.take N m).2.1.ws.length<=C.ws.length+1:=by
 unfold Ck.take;split;.exact qw _ _ _
 .simp
theorem zF(C:Ck)(D:Dk)(n:Int)(j:Int):C.look {D with reads:=n} j=C.look D j:=by
 unfold Ck.look;split<;>rfl
theorem kF(w:World)(b:Nat)(t:TypeId)(p n s l o c e d a f:Value)(h:w.heap[b]? =some (.cells #[p,n,s,l,o] t (0,0))):
 (((((w.setCell ⟨b,0,none⟩ c).setCell ⟨b,1,none⟩ e).setCell ⟨b,2,none⟩ d).setCell ⟨b,3,none⟩ a).setCell ⟨b,4,none⟩ f).heap[b]? =some (.cells #[c,e,d,a,f] t (0,0))/\za (λj=>j=b) w (((((w.setCell ⟨b,0,none⟩ c).setCell ⟨b,1,none⟩ e).setCell ⟨b,2,none⟩ d).setCell ⟨b,3,none⟩ a).setCell ⟨b,4,none⟩ f):=by
 have q:=heap_setCell_same w b 0 _ _ c h;have m:=heap_setCell_same _ b 1 _ _ e q;have h2:=heap_setCell_same _ b 2 _ _ d m;have u:=heap_setCell_same _ b 3 _ _ a h2;have r:=heap_setCell_same _ b 4 _ _ f u;refine⟨r,?_⟩;have k:∀(g:World) (i:Nat) (v:Value),za (λj=>j=b) g (g.setCell ⟨b,i,none⟩ v):=λg i v=>za.setCell (S:=λj=>j=b) g ⟨b,i,none⟩ v rfl;exact((((k _ 0 c).trans (k _ 1 e) iL).trans (k _ 2 d) iL).trans (k _ 3 a) iL).trans (k _ 4 f) iL
def Ck.split(C:Ck)(N:Nat)(m:List UInt8)(at_ k:Nat)(es:List En):Nat×Ck×List UInt8:=
 let t:=C.take N m
 (t.1,(t.2.1.put at_ (zl (zc k (es.take (es.length/2))))).put t.1 (zl (zc k (es.drop (es.length/2)))),t.2.2)
theorem VU(w:World)(I bd:Nat)(S T:Nat->Prop)(D:Dk)(C:Ck)(h:Cw w I bd S T D C)(m:List UInt8)(ae:qF (C.look D 2) m)(ar:0<=D.reads)(aq:D.reads<=4611686018427387904)(P:Nat->Prop)(z:∀j,P j->¬T j)(N:∀j,P j->j≠bd)(a:Option Addr)(d:Nat)(k:Nat)(au:k=4\/k=5)(c:List En)(an:qe w P a c)(U:∀e∈c,e.Ok)(J:c.length/2<c.length)(Z:c.length<=12)(X:c.length<=d)(K:d<=9223372036854775807)(E:Nat)(az:C.ws.length<800)(t:Nat)(M:Ck)(ay:List UInt8)(F:C.take D.bs.length m=(t,M,ay))(q:En)(ai:c[c.length/2]=q):
 Calls Tryz.prog 178 #[.agg #[.int .u8 (k:Int),.slice a c.length d],.pointer (some ⟨I,0,none⟩),.int .i64 E] w λr w'=>r=.returned (.agg #[.string q.pl.key,.int .i64 q.pl.num,.bool false,.int .i64 0,.int .i64 (t:Int)])/\(∃(n:Int) (aj:Nat->Prop),0<=n/\n<=1/\Cw w' I bd S aj {D with reads:=D.reads+n} ((M.put E (zl (zc k (c.take (c.length/2))))).put t (zl (zc k (c.drop (c.length/2)))))/\∀j,aj j->T j\/w.heap.size<=j)/\za (λj=>j=bd\/T j) w w':=by
 have L:Hid _:=h;change Hid _ at an ae U z N;clear h;have G:Hid (za (λ_=>False) w ((w.alloc (.cells #[.int .u8 (k:Int),.slice a c.length d] 209)).alloc (.cells #[.string ⟨#[]⟩,.int .i64 0,.bool false,.int .i64 0,.int .i64 0] 109))):=za.alloc2 _ _ _;go_enter Tryz.func178,Tryz.ntmps178;go_wp2_with fail;have ad:Hid (((w.alloc (.cells #[.int .u8 (k:Int),.slice a c.length d] 209)).alloc (.cells #[.string ⟨#[]⟩,.int .i64 0,.bool false,.int .i64 0,.int .i64 0] 109)).heap[w.heap.size+1]? =some (.cells #[.string ⟨#[]⟩,.int .i64 0,.bool false,.int .i64 0,.int .i64 0] 109 (0,0))):=eF w _ _;have ak:Hid (((w.alloc (.cells #[.int .u8 (k:Int),.slice a c.length d] 209)).alloc (.cells #[.string ⟨#[]⟩,.int .i64 0,.bool false,.int .i64 0,.int .i64 0] 109)).heap[w.heap.size]? =some (.cells #[.int .u8 (k:Int),.slice a c.length d] 209 (0,0))):=((za.alloc (λ_=>False) _ _).block w.heap.size (by simp) id).trans (ac w _);have aC:((w.alloc (.cells #[.int .u8 (k:Int),.slice a c.length d] 209)).alloc (.cells #[.string ⟨#[]⟩,.int .i64 0,.bool false,.int .i64 0,.int .i64 0] 109)).heap.size=w.heap.size+2:=by simp
 generalize ((w.alloc (.cells #[.int .u8 (k:Int),.slice a c.length d] 209)).alloc (.cells #[.string ⟨#[]⟩,.int .i64 0,.bool false,.int .i64 0,.int .i64 0] 109))=aD at*;have R:=L.chg.lt;have H:=L.disk.lt;have aE:=H bd L.disk.bdS;change Hid _ at R H;refine(dX aD I bd S T D C (L.kept0 G) m ae ar aq (by omega)).mono ?_;rintro r x ⟨rfl,⟨ax,ag,af,al,V,p⟩,l⟩;have B:Hid _:=V;have o:∀j,w.heap.size<=j->¬(j=bd\/T j):=λj f s=>s.elim (λh=>by omega) (λh=>by have:=R.out j h;omega);have W:Hid (x.heap[w.heap.size+1]? =_):=(l.block _ (by omega) (o _ (by omega))).trans ad.out;have y:Hid (x.heap[w.heap.size]? =_):=(l.block _ (by omega) (o _ (by omega))).trans ak.out;have aB:x.cell? ⟨w.heap.size,0,none⟩=some (.int .u8 (k:Int)):=cR y.out rfl;have aA:x.cell? ⟨w.heap.size,1,none⟩=some (.slice a c.length d):=cR y.out rfl;have ah:Hid _:=(an.below.kept G nF).kept l (λj f s=>s.elim (N j f.1) (z j f.1))
 have Y:Hid (∀j,(P j/\j<w.heap.size)->¬ag j):=λj f s=>by
  rcases p j s with g|g;.exact z j f.1 g
  .omega
 have ao:M.ws.length<900:=by have:=uP C D.bs.length m;rw [F] at this;simp only at this;omega
 rw [F] at B ⊢;dsimp only at B ⊢;have av:=l.size;change Hid _ at p l o;clear V F;go_wp2_with fail;refine(cZ x I bd S ag _ M B (λj=>P j/\j<w.heap.size) Y a d k au c ah U (c.length/2) rfl J Z X K E t ao).mono ?_;rintro r i ⟨rfl,⟨ap,O,Q⟩,u⟩;rw [ai];have b:Hid (i.heap[w.heap.size+1]? =_):=(u.block _ (by omega) (λs=>by rcases p _ s with g|g;exact o _ (by omega) (.inr g);omega)).trans W.out;have aO:i.cell? ⟨w.heap.size+1,0,none⟩=some (.string ⟨#[]⟩):=cR b.out rfl;have aJ:i.cell? ⟨w.heap.size+1,1,none⟩=some (.int .i64 0):=cR b.out rfl;have aK:i.cell? ⟨w.heap.size+1,2,none⟩=some (.bool false):=cR b.out rfl;have aM:i.cell? ⟨w.heap.size+1,3,none⟩=some (.int .i64 0):=cR b.out rfl;have aI:i.cell? ⟨w.heap.size+1,4,none⟩=some (.int .i64 0):=cR b.out rfl;have aH:=aa i (w.heap.size+1) 0 _ _ b.out;have aF:=aa i (w.heap.size+1) 1 _ _ b.out;have aN:=aa i (w.heap.size+1) 2 _ _ b.out;have aL:=aa i (w.heap.size+1) 3 _ _ b.out;have aG:=aa i (w.heap.size+1) 4 _ _ b.out;change Hid _ at O Q u;go_wp2;obtain⟨aw,ab⟩:=kF i (w.heap.size+1) 109 _ _ _ _ _ (.string q.pl.key) (.int .i64 q.pl.num) (.bool false) (.int .i64 0) (.int .i64 (t:Int)) b.out
 have A:∀j,ap j->T j\/aD.heap.size<=j:=λj f=>by
  rcases Q j f with g|g;.exact p j g
  .right;omega
 refine bodyPost_ret (v:=.agg #[.string q.pl.key,.int .i64 q.pl.num,.bool false,.int .i64 0,.int .i64 (t:Int)]) (results_cell_row Tryz.results178 _ _ (w.heap.size+1) 109 _ (0,0) _ rfl aw Tryz.underlying109 rfl (by kernel_rfl)) rfl ⟨rfl,⟨ax,ap,af,al,O.kept ab (λj f am=>by have:=H.out j f;omega) (λj f am=>?_),λj f=>(A j f).imp id (λh=>by omega)⟩,?_⟩
 .subst am;rcases A _ f with g|g;.exact o _ (by omega) (.inr g)
  .omega
 .have k1:=(G.mono fE).trans l iL
  have k2:=k1.trans u (λj f=>by
   rcases p j f with g|g;.exact .inl (.inr g)
   .exact .inr (by omega))
  exact k2.trans ab (λj f=>.inr (by omega))
theorem Kr(w:World)(g bd:Nat)(S T:Nat->Prop)(D:Dk)(C:Ck)(h:Cw w g bd S T D C)(m:List UInt8)(A:qF (C.look D 2) m)(x:0<=D.reads)(u:D.reads<=4611686018427387904)(P:Nat->Prop)(s:∀j,P j->¬T j)(q:∀j,P j->j≠bd)(a:Option Addr)(c:Nat)(k:Nat)(z:k=4\/k=5)(b:List En)(y:qe w P a b)(t:∀e∈b,e.Ok)(i:b.length/2<b.length)(l:b.length<=12)(o:b.length<=c)(f:c<=9223372036854775807)(d:Nat)(p:C.ws.length<800):
 Calls Tryz.prog 178 #[.agg #[.int .u8 (k:Int),.slice a b.length c],.pointer (some ⟨g,0,none⟩),.int .i64 d] w λr w'=>r=.returned (.agg #[.string b[b.length/2].pl.key,.int .i64 b[b.length/2].pl.num,.bool false,.int .i64 0,.int .i64 ((C.split D.bs.length m d k b).1:Nat)])/\(∃(n:Int) (v:Nat->Prop),0<=n/\n<=1/\Cw w' g bd S v {D with reads:=D.reads+n} (C.split D.bs.length m d k b).2.1/\∀j,v j->T j\/w.heap.size<=j)/\za (λj=>j=bd\/T j) w w':=
 VU w g bd S T D C h m A x u P s q a c k z b y t i l o f d p _ _ _ rfl _ rfl
end prog
end Go.Proofs.YtcoengihaobddaaGreatDoor
