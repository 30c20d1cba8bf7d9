/- Part 18 of 36 of a proof: Chg6, Tree9, Ins1, Ins2, Ins3, Ins4 -/
import Derived.Test.YtcoengihaobddaaGreatDoorJc17
import Derived.Lib.Overlaps
import Derived.Lib.AppendZerosOnto
set_option maxHeartbeats 8000000
set_option linter.unusedVariables false
set_option linter.unusedSimpArgs false
set_option maxRecDepth 8000
namespace Go.Proofs.YtcoengihaobddaaGreatDoor
namespace prog
open Go.ChangeShapes Go.WideShapes Go.ChangeAt Go.RowKit disk ref
open keys (zh ze zy zs)
variable {w:World}{m:List UInt8}{C:Ck}{N:Nat}
theorem VR(a r:Nat)(h:a.testBit r=false):a&&&2^r=0:=by
 apply Nat.eq_of_testBit_eq;intro s;rw [mK,uM,Nat.zero_testBit];by_cases e:r=s;.subst e;simp [h]
 .simp [e]
theorem ZR(a r:Nat)(h:a.testBit r=true):¬a&&&2^r=0:=λe=>by
 have:(a&&&2^r).testBit r=true:=by rw [mK,uM,h];simp
 rw [e] at this;simp at this
theorem UV(a r:Nat)(j:a<256)(l:r<8):(bits BinOp.and IntKind.u8 (a:Int) (gL r)==0)= !a.testBit r:=by
 have c:2^r<256:=by have:=lf (show 0<2 by omega) (show r<=7 by omega);omega
 have e:BitVec.ofInt 8 (a:Int)=BitVec.ofNat 8 a:=BitVec.ofInt_natCast ..;have i:BitVec.ofInt 8 (gL r)=BitVec.ofNat 8 (2^r):=BitVec.ofInt_natCast ..
 have g:(BitVec.ofNat 8 a&&&BitVec.ofNat 8 (2^r)).toNat=a&&&2^r:=by
  have h:a%256=a:=by omega
  have f:=mF c;simp only [BitVec.toNat_and,BitVec.toNat_ofNat,show (2:Nat)^8=256 from rfl];rw [h,f]
 have d:bits BinOp.and IntKind.u8 (a:Int) (gL r)=IntKind.u8.wrap ((BitVec.ofInt 8 (a:Int)&&&BitVec.ofInt 8 (gL r)).toNat:Nat):=rfl;have k:a&&&2^r<256:=mr mJ j;rw [d,e,i,g,IntKind.wrap_u8]
 cases b:a.testBit r with
 |false=>rw [VR a r b];simp
 |true=>
  have:=ZR a r b;generalize a&&&2^r=m at*;simp;omega
theorem GA(a r:Nat)(j:a<256)(i:r<8):bits BinOp.or IntKind.u8 (a:Int) (gL r)=((a|||2^r:Nat):Int):=by
 have b:2^r<256:=by have:=lf (show 0<2 by omega) (show r<=7 by omega);omega
 have d:BitVec.ofInt 8 (a:Int)=BitVec.ofNat 8 a:=BitVec.ofInt_natCast ..;have h:BitVec.ofInt 8 (gL r)=BitVec.ofNat 8 (2^r):=BitVec.ofInt_natCast ..
 have f:(BitVec.ofNat 8 a|||BitVec.ofNat 8 (2^r)).toNat=a|||2^r:=by
  have g:a%256=a:=by omega
  have e:=mF b;simp only [BitVec.toNat_or,BitVec.toNat_ofNat,show (2:Nat)^8=256 from rfl];rw [g,e]
 have c:bits BinOp.or IntKind.u8 (a:Int) (gL r)=IntKind.u8.wrap ((BitVec.ofInt 8 (a:Int)|||BitVec.ofInt 8 (gL r)).toNat:Nat):=rfl;rw [c,d,h,f,IntKind.wrap_u8];omega
theorem map_set{b:Nat}(a:m.length=124)(h:qR w b (zS m))(i:Nat)(f:i/8<124)(v:Nat)(d:v<256):qR (w.setCell ⟨b,4+i/8,none⟩ (.int .u8 (v:Int))) b (zS (m.set (i/8) (UInt8.ofNat v))):=by
 have c:=h.bs.set (4+i/8) (UInt8.ofNat v);rw [vd _ d,jK a] at c;refine⟨?_,xX (by simp [a])⟩;rw [jK (by simp [a])]
 have e:([3,124,0,0]++m).set (4+i/8) (UInt8.ofNat v)=[3,124,0,0]++m.set (i/8) (UInt8.ofNat v):=by rw [List.set_append_right _ _ (by simp)];simp
 rw [e] at c;exact c
theorem QV{b:Nat}(a:m.length=124)(h:qR w b (zS m))(j:Nat)(d:j<124):w.cell? ⟨b,4+j,none⟩=some (.int .u8 ((m.getD j 0).toNat:Int)):=by
 have c:=h.bs.cell (4+j) (by rw [jK a];simp [a];omega);simp only [jK a] at c;rw [c,aA,aH (by omega),iT,i6 (by simp)];simp
theorem gO(w:World)(bd:Nat)(S:Nat->Prop)(D:Dk)(h:zg w bd S D):
 Calls Tryz.prog 54 #[.pointer (some ⟨bd,0,none⟩)] w λe w'=>e=.returned (.int .i64 D.bs.length)/\w'=w:=by
 obtain⟨a,b,d,c,h⟩:=h;exact jq w bd S D a b d c h
theorem qD.setFull{b bd:Nat}{T:Nat->Prop}{a:Option Addr}{c:Nat}(h:qD w b bd T C a c):qD (w.setCell ⟨b,2,none⟩ (.bool true)) b bd T {C with full:=true} a c:=by
 refine⟨h.ok,?_,?_,h.own,h.ap,h.few⟩;.rw [heap_setCell_same w b 2 _ _ _ h.head];rfl
 .exact(za.setCell (S:=λk=>k=b) w ⟨b,2,none⟩ _ rfl).owns h.row (λk d e=>h.ap (by rw [d,e]))
structure De (w w':World) (bc bd:Nat) (S T:Nat->Prop) (D:Dk) (C:Ck) (m:List UInt8) (a:Int) (C':Ck):Prop where
 at_:∃(n:Int) (T':Nat->Prop),0<=n/\n<=1/\Cw w' bc bd S T' {D with reads:=D.reads+n} C'/\∀k,T' k->T k\/w.heap.size<=k
 kept:za (λk=>k=bd\/T k) w w'
 is:(∃i:Nat,a=(i:Int)+21/\i+21<D.bs.length/\zU m i=false/\(∀j,j<i->zU m j=true)/\C'=C.put 2 (zm (zS (uh m i))))\/(a=0/\(∀i,i+21<D.bs.length->zU m i=true)/\C'={C with full:=true })
theorem VS(w:World)(f bd:Nat)(S T:Nat->Prop)(D:Dk)(C:Ck)(h:Cw w f bd S T D C)(m:List UInt8)(x:qF (C.look D 2) m)(aj:0<=D.reads)(al:D.reads<=4611686018427387904)(ae:C.ws.length<1000):
 Calls Tryz.prog 134 #[.pointer (some ⟨f,0,none⟩)] w λe w'=>∃a aB,e=.returned (.int .i64 a)/\De w w' f bd S T D C m a aB:=by
 obtain⟨L,P,aM⟩:∃L:List Value,L=zX/\∀w,(zeroValue 154).run Tryz.prog w=.ok (.agg L.toArray) w:=⟨zX,rfl,zY Tryz.infoPage⟩;have ar:Hid (zT L):=by rw [P];exact zH
 clear P;have av:Hid _:=zZ Tryz.infoPage;have ad:Hid _:=h;have au:=x.len;have A:Hid _:=yf (xX x.len);have ai:Hid _:=h.disk.lt;have ak:Hid _:=h.chg.lt;have aD:=h.disk.ok.few;change Hid _ at x;clear h;go_enter Tryz.func134,Tryz.ntmps134
 go_wp2_with (first
  |(go_at_call 170;refine(uN _ f bd S T D C ad m x aj al).mono ?_;rintro e o ⟨rfl,l,u⟩;have W:Hid _:=l;have s:Hid _:=u;clear l u)
  |(show wpList _ _ _ ({dst:=none,op:=.store _ (.tmp 3) (.tmp 9),type:=_,pos:=_,after:=_,guard:=_}::_) _ _;refine zi rfl 154 (.tmp 3) (.tmp 9) rfl _ _ (zm (zS m)) (by simp) rfl rfl (by rw [A.1];exact av) (by rw [aq,ar.1,A.1]) A.2 ?_;have ag:Hid (qR (o.alloc (.cells (zm (zS m)).toArray 154)) o.heap.size (zS m)):=⟨⟨ac o _⟩,xX x.len⟩)
  |(go_at_call 125;refine(jj _ _ _ ag).mono ?_;rintro e aO ⟨rfl,af,rfl⟩))
 have G:Hid (qR ((o.alloc (.cells (zm (zS m)).toArray 154)).drewN af) o.heap.size (zS m)):=ag.kept (T:=λ_=>False) kD (λaa=>aa);have r:Hid (za (λ_=>False) o ((o.alloc (.cells (zm (zS m)).toArray 154)).drewN af)):=(za.alloc _ _ _).trans (S':=λ_=>False) kD iL;obtain⟨ab,Y,O,l⟩:=W.out;change Hid _ at l;clear W;generalize (o.alloc (.cells (zm (zS m)).toArray 154)).drewN af=y at*;generalize aH:o.heap.size=d at*;have I:ja d (zS m).kind (zS m).items.length=.slice (some ⟨d,4,none⟩) 124 124:=by simp [ja,zS,zk,au]
 rw [I];clear I ag;go_loopw [5] (λt wr=>∃(i n:Nat),i<=979/\(i=0\/i+21<=D.bs.length)/\t=.int .i64 ((i:Int)+21)/\wr=y.drewN n/\∀j,j<i->zU m j=true) (λt _=>1000-(intOf t).toNat)
 case atStart=>exact⟨0,0,by omega,.inl rfl,rfl,rfl,λ_ h=>by omega⟩
 case round=>
  obtain⟨i,n,aN,aG,rfl,rfl,p⟩:=hrel;change Hid _ at p;have z:za (λ_=>False) y (y.drewN n):=kD;have v:Hid _:=(l.kept0 r).kept0 z;have aE:y.cell? ⟨f,0,none⟩=some (.pointer (some ⟨bd,0,none⟩)):=by obtain⟨a,R,aA⟩:=v.chg;exact aA.c0
  change Hid _ at z;by_cases ap:i+21<D.bs.length
  .have aw:=QV x.len G (i/8) (by omega);have aF:=G.bs.fz (4+i/8);have H:=UV (m.getD (i/8) 0).toNat (i%8) (m.getD (i/8) 0).toNat_lt (by omega);have ao:Hid (zU m i=(m.getD (i/8) 0).toNat.testBit (i%8)):=rfl;have ax:=(m.getD (i/8) 0).toNat_lt;have Z:Hid (uh m i=m.set (i/8) (UInt8.ofNat ((m.getD (i/8) 0).toNat|||2^(i%8)))):=rfl;have aJ:=GA (m.getD (i/8) 0).toNat (i%8) (m.getD (i/8) 0).toNat_lt (by omega);have aC:Hid _:=Nat.or_lt_two_pow (n:=8) ax (Xv i);generalize (m.getD (i/8) 0).toNat=ah at*
   cases K:zU m i with
   |true=>
    have B:ah.testBit (i%8)=true:=ao.symm.trans K;rw [B] at H;have F:Hid _:=K
    go_wp2_with (first
     |(go_at_call 54;refine(gO _ bd S _ v.disk).mono ?_;rintro e M ⟨rfl,rfl⟩)
     |(go_at_call 171;refine(gM _ i (by omega)).mono ?_;rintro e M ⟨rfl,q,rfl⟩))
    go_roundw
    case rel=>exact⟨i+1,n+q,by omega,by omega,by go_num,rfl,λj ay=>by
     by_cases e:j=i;.subst e;exact F.out
     .exact p j (by omega)⟩
    case measure=>simp [intOf];omega
   |false=>
    have B:ah.testBit (i%8)=false:=ao.symm.trans K;rw [B] at H;have F:Hid _:=K
    go_wp2_with (first
     |(go_at_call 54;refine(gO _ bd S _ v.disk).mono ?_;rintro e M ⟨rfl,rfl⟩)
     |(go_at_call 171;refine(gM _ i (by omega)).mono ?_;rintro e M ⟨rfl,q,rfl⟩)
     |(show wpList _ _ _ ({dst:=some 40,op:=.load _ _,type:=_,pos:=_,after:=_,guard:=_}::_) _ _;have am:Hid (qR ((y.drewN (n+q)).setCell ⟨d,4+i/8,none⟩ (.int .u8 ((ah|||2^(i%8):Nat):Int))) d (zS (uh m i))):=(by {have N:qR (y.drewN (n+q)) d (zS m):=G.kept (T:=λ_=>False) kD (λaa=>aa);have h2:=map_set x.len N i (by omega) (ah|||2^(i%8)) aC.out;rw [<-Z.out] at h2;exact h2 });have Q:Hid (zT (zm (zS (uh m i)))):=yf (xX (by rw [QT];exact x.len));refine wpList_load_mid rfl 154 (.tmp 3) rfl _ _ rfl (zm (zS (uh m i))) _ (zR am.bs.at_) yK rfl (by rw [Q.1];exact av) ?_)
     |(go_at_call 135;refine(jz _ f bd S T {D with reads:=D.reads+ab} C ((l.kept0 r).kept (X:=λk=>k=d) (w':=(y.drewN (n+q)).setCell ⟨d,4+i/8,none⟩ (.int .u8 ((ah|||2^(i%8):Nat):Int))) (za.trans (b:=y.drewN (n+q)) kD (za.setCell (S:=λk=>k=d) _ _ _ rfl) iL) (λk c e=>by have:=ai.out k c;have:=s.size;omega) (λk c e=>by have:=ak.out k c;have:=s.size;omega)) 2 (zm (zS (uh m i))) Q ae).mono ?_;rintro e aL ⟨rfl,⟨az,E,V⟩,U⟩;change Hid _ at E V U))
    go_ret
    have u:za (λk=>k=bd\/T k) w ((y.drewN (n+q)).setCell ⟨d,4+i/8,none⟩ (.int .u8 ((ah|||2^(i%8):Nat):Int))):=
     ((s.mono iL).trans r fE).trans (S':=λk=>k=d) (za.trans (b:=y.drewN (n+q)) kD (za.setCell (S:=λk=>k=d) _ _ _ rfl) iL) (λk c=>.inr (by have:=s.size;omega))
    refine⟨_,_,rfl,⟨ab,az,Y,O,E,λk c=>?_⟩,u.trans U (λk c=>.inl (.inr c)),.inl ⟨i,rfl,ap,F,p,rfl⟩⟩;rcases V k c with N|N;.exact .inl N
    .right;have h2:=u.size;omega
  .have g:=(l.kept0 r).chg;obtain⟨a,R,g⟩:=g;have aI:=g.c2;have aK:=g.fz 2;change Hid _ at g;go_wp2_with (go_at_call 54;refine(gO _ bd S _ v.disk).mono ?_;rintro e M ⟨rfl,rfl⟩);go_ret;have an:za (λk=>k=f) y ((y.drewN n).setCell ⟨f,2,none⟩ (.bool true)):=za.trans (b:=y.drewN n) kD (za.setCell (S:=λk=>k=f) _ _ _ rfl) iL;have J:=g.bcT;refine⟨_,_,rfl,⟨ab,T,Y,O,⟨v.disk.kept (za.setCell (S:=λk=>k=f) _ ⟨f,2,none⟩ _ rfl) (λk c e=>ad.apart k c (by rw [e];exact J)),⟨a,R,(g.kept z nF).setFull⟩,ad.apart⟩,λk c=>.inl c⟩,?_,.inr ⟨rfl,λj ay=>?_,rfl⟩⟩;.exact((s.mono iL).trans r fE).trans an (λk c=>.inl (.inr (by rw [c];exact J)))
   .exact p j (by omega)
theorem qg.take{P:Nat->Prop}{g i:Nat}{a:List En}(h:qg w P (some ⟨g,i,none⟩) a)(m:Nat):qg w P (some ⟨g,i,none⟩) (a.take m):=by
 refine⟨?_,by have:=h.few;rw [aC];omega⟩;rcases h.at_ with e|⟨j,l,d,h2,f,c⟩;.left;rw [e];simp
 .cases d;right;refine⟨g,i,rfl,h2,f,λk b=>?_⟩;rw [aC] at b;rw [lY];exact c k (by omega)
theorem qg.drop{P:Nat->Prop}{g b:Nat}{a:List En}(h:qg w P (some ⟨g,b,none⟩) a)(m:Nat):qg w P (some ⟨g,b+m*5,none⟩) (a.drop m):=by
 refine⟨?_,by have:=h.few;rw [aS];omega⟩;rcases h.at_ with f|⟨j,l,e,h2,i,d⟩;.left;rw [f];simp
 .cases e;right;refine⟨g,b+m*5,rfl,h2,i,λk c=>?_⟩;rw [aS] at c;rw [lZ,show b+m*5+k*5=b+(m+k)*5 from by omega];exact d (m+k) (by omega)
theorem yB(w:World)(g bd:Nat)(S T:Nat->Prop)(D:Dk)(C:Ck)(h:Cw w g bd S T D C)(s:0<=D.reads)(u:D.reads<=4611686018427387904)(d:Nat)(J:d<65536)(k:Nat)(c:List En)(z:k=4\/k=5)(v:∀e∈c,e.Ok)(p:k=4->∀e∈c,e.mark=false/\e.size=0)(r:c.length<=6)(E:C.look D d=zm (zc k c)):
 Calls Tryz.prog 174 #[.iface 142 (.pointer (some ⟨g,0,none⟩)),.int .i64 d] w λe w'=>∃f a,e=.returned (.agg #[.int .u8 (k:Int),.slice f c.length a])/\(∃n:Int,0<=n/\n<=1/\Cw w' g bd S T {D with reads:=D.reads+n} C)/\za (λi=>i=bd) w w'/\qg w' (λb=>w.heap.size<=b) f c/\w'.ownsRow 0 109 5 (.slice f c.length a) c.length (c.map qt).flatten/\(∀j,(Value.slice f c.length a).ownBlock=some j->w.heap.size<=j):=by
 have x:=h.disk.lt;have A:=h.chg.lt;have y:=x bd h.disk.bdS;refine(QP w 142 192 ⟨g,0,none⟩ (dN _) (λi=>i=bd) (λm=>w.heap.size<=m.heap.size/\∃n:Int,0<=n/\n<=1/\Cw m g bd S T {D with reads:=D.reads+n} C) d k c z v p r (λF o=>?_) (λi l=>by rw [l];exact y)).mono ?_
 .refine(kh F g bd S T D C (h.kept0 o) d (by constructor<;>omega) s u).mono ?_;rintro e m ⟨rfl,q,h2⟩;rw [E];exact⟨rfl,h2,aD o.size h2.size,q⟩
 .rintro e w' ⟨m,f,a,rfl,q,⟨K,n,B,H,h2⟩,t,p⟩;refine⟨f,a,rfl,⟨n,B,H,h2.kept t (λi l I=>?_) (λi l I=>?_)⟩,q.trans t (λj G=>.inr G),p⟩;.have:=x i l;omega
  .have:=A i l;omega
theorem cY(w:World)(bd:Nat)(S:Nat->Prop)(D:Dk)(h:zg w bd S D)(q:0<=D.reads)(s:D.reads<=4611686018427387904)(d:Nat)(B:d<65536)(k:Nat)(c:List En)(z:k=4\/k=5)(t:∀e∈c,e.Ok)(o:k=4->∀e∈c,e.mark=false/\e.size=0)(m:c.length<=6)(x:D.look d=zm (zc k c)):
 Calls Tryz.prog 174 #[.iface 29 (.pointer (some ⟨bd,0,none⟩)),.int .i64 d] w λe w'=>∃f a,e=.returned (.agg #[.int .u8 (k:Int),.slice f c.length a])/\zg w' bd S {D with reads:=D.reads+1}/\za (λi=>i=bd) w w'/\qg w' (λb=>w.heap.size<=b) f c/\w'.ownsRow 0 109 5 (.slice f c.length a) c.length (c.map qt).flatten/\(∀j,(Value.slice f c.length a).ownBlock=some j->w.heap.size<=j):=by
 have u:=h.lt;have v:=u bd h.bdS;refine(QP w 29 81 ⟨bd,0,none⟩ (gJ _) (λi=>i=bd) (λg=>w.heap.size<=g.heap.size/\zg g bd S {D with reads:=D.reads+1 }) d k c z t o m (λy l=>?_) (λi n=>by rw [n];exact v)).mono ?_
 .refine(jr y bd S D (h.kept l nF) d (by constructor<;>omega) q s).mono ?_;rintro e g ⟨rfl,p,h2⟩;rw [x];exact⟨rfl,h2,aD l.size h2.size,p⟩
 .rintro e w' ⟨g,f,a,rfl,p,⟨E,h2⟩,r,o⟩;refine⟨f,a,rfl,h2.kept r (λi n C=>?_),p.trans r (λj A=>.inr A),o⟩;have:=u i n;omega
theorem qy(C:Ck)(i:Nat)(b:List Value):(C.put i b).ws.length<=C.ws.length+1:=by
 cases a:yg C.ws i with
 |none=>rw [jJ b a];simp
 |some k=>obtain⟨c,e⟩:=jy b a;rw [e];simp
theorem vh(w:World)(d bd:Nat)(S T:Nat->Prop)(D:Dk)(C:Ck)(h:Cw w d bd S T D C)(P:Nat->Prop)(a:Option Addr)(f:Nat)(k:Nat)(q:k=4\/k=5)(b:List En)(o:qg w P a b)(l:∀e∈b,e.Ok)(g:b.length<=6)(c:Nat)(i:C.ws.length<1000)(n:Nat)(p:b.length=n):
 Calls Tryz.prog 173 #[.agg #[.int .u8 (k:Int),.slice a n f],.pointer (some ⟨d,0,none⟩),.int .i64 c] w λr w'=>r=.returned (.tuple #[])/\(∃m,Cw w' d bd S m D (C.put c (zm (zc k b)))/\∀j,m j->T j\/w.heap.size<=j)/\za T w w':=by
 subst p;exact VO w d bd S T D C h P a f k q b o l g c i
theorem QW(w:World)(a b c d:Obj):((((w.alloc a).alloc b).alloc c).alloc d).drew.heap[w.heap.size]? =some a/\((((w.alloc a).alloc b).alloc c).alloc d).drew.heap[w.heap.size+1]? =some b/\((((w.alloc a).alloc b).alloc c).alloc d).drew.heap[w.heap.size+1+1]? =some c/\((((w.alloc a).alloc b).alloc c).alloc d).drew.heap[w.heap.size+1+1+1]? =some d/\za (λ_=>False) w ((((w.alloc a).alloc b).alloc c).alloc d).drew/\((((w.alloc a).alloc b).alloc c).alloc d).drew.heap.size=w.heap.size+4:=by
 have m:(w.alloc a).heap.size=w.heap.size+1:=by simp
 have k:((w.alloc a).alloc b).heap.size=w.heap.size+1+1:=by simp
 have i:(((w.alloc a).alloc b).alloc c).heap.size=w.heap.size+1+1+1:=by simp
 have j:((((w.alloc a).alloc b).alloc c).alloc d).heap.size=w.heap.size+4:=by simp
 have k1:=za.alloc (λ_=>False) w a;have k2:=za.alloc (λ_=>False) (w.alloc a) b;have k3:=za.alloc (λ_=>False) ((w.alloc a).alloc b) c;have e:=za.alloc (λ_=>False) (((w.alloc a).alloc b).alloc c) d;have l:=ac w a;have f:=ac (w.alloc a) b;have g:=ac ((w.alloc a).alloc b) c;have h:=ac (((w.alloc a).alloc b).alloc c) d;rw [m] at f;rw [k] at g;rw [i] at h;refine⟨?_,?_,?_,h,?_,j⟩;.exact((e.block _ (by omega) id).trans ((k3.block _ (by omega) id).trans ((k2.block _ (by omega) id).trans l)))
 .exact((e.block _ (by omega) id).trans ((k3.block _ (by omega) id).trans f))
 .exact((e.block _ (by omega) id).trans g)
 .exact(((k1.trans k2 iL).trans k3 iL).trans e iL).trans (za.drew _ _) iL
theorem cZ(w:World)(B bd:Nat)(S T:Nat->Prop)(D:Dk)(C:Ck)(h:Cw w B bd S T D C)(P:Nat->Prop)(A:∀j,P j->¬T j)(a:Option Addr)(c:Nat)(k:Nat)(aB:k=4\/k=5)(b:List En)(O:qg w P a b)(G:∀e∈b,e.Ok)(m:Nat)(aU:m=b.length/2)(aJ:m<b.length)(aM:b.length<=12)(aL:b.length<=c)(aI:c<=9223372036854775807)(Q ai:Nat)(aV:C.ws.length<900):
 Calls Tryz.prog 200 #[.agg #[.int .u8 (k:Int),.slice a b.length c],.pointer (some ⟨B,0,none⟩),.int .i64 Q,.int .i64 ai] w λr w'=>r=.returned (.agg #[.string b[m].pl.key,.int .i64 b[m].pl.num])/\(∃au,Cw w' B bd S au D ((C.put Q (zm (zc k (b.take m)))).put ai (zm (zc k (b.drop m))))/\∀j,au j->T j\/w.heap.size<=j)/\za T w w':=by
 obtain⟨g,s,rfl⟩:=O.base (by omega);have aj:Hid _:=h;have aq:Hid _:=O.take m;have av:Hid _:=O.drop m;have ar:(b.take m).length=m:=by rw [aC];omega
 have am:(b.drop m).length=b.length-m:=aS ..;have W:Hid ((b.length:Int)/2=(m:Int)):=by show (b.length:Int)/2=(m:Int);omega
 have aZ:(m:Int)<=(c:Int):=by omega
 have aW:m<=6:=by omega
 have a1:b.length-m<=6:=by omega
 have ap:Hid (∀e∈b.take m,e.Ok):=λe af=>G e (aP af);have aD:Hid (∀e∈b.drop m,e.Ok):=λe af=>G e (eK af);clear G;have a6:¬c=m:=by omega
 change Hid _ at O;clear h;go_enter Tryz.func200,Tryz.ntmps200;go_wp2;rw [W.out];clear W aU;have a7:(m:Int)<=(b.length:Int):=by omega
 go_region_held3 (λw'=>w'.cell? ⟨w.heap.size,0,none⟩=some (.int .u8 (k:Int))/\w'.cell? ⟨w.heap.size,1,none⟩=some (.slice (some ⟨g,s,none⟩) b.length c)) (go_keep) (fail);obtain⟨_,F,L,z,y,aT⟩:=QW w (.cells #[.int .u8 (k:Int),.slice (some ⟨g,s,none⟩) b.length c] 209) (.cells #[.string ⟨#[]⟩,.int .i64 0] 107) (.cells #[.int .u8 (k:Int),.slice (some ⟨g,s,none⟩) m c] 209) (.cells #[.int .u8 (k:Int),.slice (some ⟨g,s+m*5,none⟩) (b.length-m) (c-m)] 209);have ac:Hid _:=F;have K:Hid _:=L;have E:Hid _:=z;have o:Hid _:=y;clear F L z y;generalize ((((w.alloc (.cells #[.int .u8 (k:Int),.slice (some ⟨g,s,none⟩) b.length c] 209)).alloc (.cells #[.string ⟨#[]⟩,.int .i64 0] 107)).alloc (.cells #[.int .u8 (k:Int),.slice (some ⟨g,s,none⟩) m c] 209)).alloc (.cells #[.int .u8 (k:Int),.slice (some ⟨g,s+m*5,none⟩) (b.length-m) (c-m)] 209)).drew=ae at*;generalize aE:w.heap.size+1+1+1=i at*;generalize al:w.heap.size+1+1=I at*
 rotate_left
 obtain⟨_,F,L,z,y,aT⟩:=QW w (.cells #[.int .u8 (k:Int),.slice (some ⟨g,s,none⟩) b.length c] 209) (.cells #[.string ⟨#[]⟩,.int .i64 0] 107) (.cells #[.int .u8 (k:Int),.slice (some ⟨g,s+m*5,none⟩) (b.length-m) (c-m)] 209) (.cells #[.int .u8 (k:Int),.slice (some ⟨g,s,none⟩) m c] 209);have ac:Hid _:=F;have E:Hid _:=L;have K:Hid _:=z;have o:Hid _:=y;clear F L z y;generalize ((((w.alloc (.cells #[.int .u8 (k:Int),.slice (some ⟨g,s,none⟩) b.length c] 209)).alloc (.cells #[.string ⟨#[]⟩,.int .i64 0] 107)).alloc (.cells #[.int .u8 (k:Int),.slice (some ⟨g,s+m*5,none⟩) (b.length-m) (c-m)] 209)).alloc (.cells #[.int .u8 (k:Int),.slice (some ⟨g,s,none⟩) m c] 209)).drew=ae at*;generalize al:w.heap.size+1+1+1=I at*;generalize aE:w.heap.size+1+1=i at*
 rotate_left
 all_goals
  have aX:ae.cell? ⟨I,0,none⟩=some (.int .u8 (k:Int)):=cR K.out rfl;have aK:ae.cell? ⟨I,1,none⟩=some (.slice (some ⟨g,s,none⟩) m c):=cR K.out rfl;have aG:Hid _:=aj.kept0 o.out;have R:=aj.chg.lt;have t:I<ae.heap.size/\i<ae.heap.size/\w.heap.size<=I/\w.heap.size<=i:=by omega
  have aw:Hid _:=aq.kept o nF;have Z:Hid _:=av.kept o nF;have p:∀j,w.heap.size<=j->¬T j:=λj d aQ=>by have:=R j aQ;omega
  change Hid _ at p;clear R;change Hid _ at A;have aF:Hid ((b.drop m)[0]'(by omega)=b[m]):=by show (b.drop m)[0]'(by omega)=b[m];rw [lZ];rfl
  generalize U:b[m]=x at*;change Hid _ at U
  go_wp2_with (first
   |(go_at_call 173;refine(vh ah B bd S aO D _ aA _ _ (c-m) k aB (b.drop m) aH aD (by omega) ai (by have:=qy C Q (zm (zc k (b.take m)));omega) (b.length-m) am).mono ?_;rintro r l ⟨rfl,⟨ay,ab,n⟩,X⟩;have ak:Hid _:=n;have q:=V.trans X H.out;have ag:Hid _:=(q.block i t.2.1 (p i t.2.2.2)).trans E.out;have aY:l.cell? ⟨i,1,none⟩=some (.slice (some ⟨g,s+m*5,none⟩) (b.length-m) (c-m)):=(cR ag.out rfl);have f:Hid (l.heap[w.heap.size+1]? =_):=(q.block (w.heap.size+1) (by omega) (p _ (by omega))).trans ac.out;have a2:l.cell? ⟨w.heap.size+1,0,none⟩=some (.string ⟨#[]⟩):=(cR f.out rfl);have a5:l.cell? ⟨w.heap.size+1,1,none⟩=some (.int .i64 0):=(cR f.out rfl);have a4:=aa l (w.heap.size+1) 0 _ _ f.out;have a8:=aa l (w.heap.size+1) 1 _ _ f.out;obtain⟨N,aN, -, -, -, -, -⟩:=(Z.kept q (λj d=>A j d)).cells 0 (by omega);rw [Nat.zero_mul,lD,aF.out] at N aN;have aR:(0:Int)<((b.length-m:Nat):Int):=(by omega);change Hid _ at ab X q;clear n)
   |(go_at_call 173;refine(vh ae B bd S T D C aG P _ c k aB (b.take m) aw ap (by omega) Q (by omega) m ar).mono ?_;rintro r ah ⟨rfl,⟨aO,ad,Y⟩,u⟩;have aA:Hid _:=ad;have H:Hid _:=Y;have V:Hid _:=u;have aH:Hid _:=(Z.below.kept u (λj d=>A j d.1));have M:Hid _:=(u.block i t.2.1 (p i t.2.2.2)).trans E.out;have a0:ah.cell? ⟨i,0,none⟩=some (.int .u8 (k:Int)):=(cR M.out rfl);have a3:ah.cell? ⟨i,1,none⟩=some (.slice (some ⟨g,s+m*5,none⟩) (b.length-m) (c-m)):=(cR M.out rfl);clear ad Y u))
  have an:=heap_setCell_same l (w.heap.size+1) 0 _ _ (.string x.pl.key) f.out;have ao:=heap_setCell_same _ (w.heap.size+1) 1 _ _ (.int .i64 x.pl.num) an;have ax:za (λj=>j=w.heap.size+1) l ((l.setCell ⟨w.heap.size+1,0,none⟩ (.string x.pl.key)).setCell ⟨w.heap.size+1,1,none⟩ (.int .i64 x.pl.num)):=(za.setCell (S:=λj=>j=w.heap.size+1) l ⟨w.heap.size+1,0,none⟩ _ rfl).trans (za.setCell (S:=λj=>j=w.heap.size+1) _ ⟨w.heap.size+1,1,none⟩ _ rfl) iL
  have n:∀j,ay j->T j\/ae.heap.size<=j:=λj d=>by
   rcases ak j d with J|J;.exact H j J
   .right;have:=V.size;omega
  have az:=aj.disk.lt;refine bodyPost_ret (v:=.agg #[.string x.pl.key,.int .i64 x.pl.num]) (results_cell_row Tryz.results200 _ _ (w.heap.size+1) 107 _ (0,0) _ rfl ao Tryz.underlying107 rfl (by kernel_rfl)) rfl ⟨by rw [U.out],⟨ay,ab.kept ax (λj d N=>by have:=az j d;omega) (λj d N=>?_),λj d=>(n j d).imp id (λh=>by omega)⟩,?_⟩
  .subst N;rcases n _ d with J|J;.exact p _ (by omega) J
   .omega
  .exact((o.mono fE).trans q iL).trans ax (λj d=>.inr (by omega))
theorem ct{P:Program}(w:World)(s D y h:TypeId)(f g q d m:Nat)(a:Addr)(e n:Nat)(b:Array Value)(t:TypeId)(c:List Value)
 (x:P.underlying s=some (.slice h)) (r:(P.info? h).map (·.size)=some f)
 (A:w.heap[g]? =some (.cells b t (0,0))) (B:Nat.min e d*f=c.length)
 (p:∀j v,c[j]? =some v->w.cell? (a.add j)=some v) (l:q+c.length<=b.size) (C:∀v∈c,v.oneCell'=true):
 (Builtin.copy_ #[s,D] y #[.slice (some ⟨g,q,none⟩) d m,.slice (some a) e n]).run P w=
  .ok (goInt (Nat.min e d)) (w.setRow g (b.toList.take q++c++b.toList.drop (q+c.length)).toArray):=by
 have u:=run_loadCells_list (P:=P) w a c p;have k:=run_storeCells_at P g q t c 0 b w A (by simpa using l) C
 cases o:P.info? h with
 |none=>simp [o] at r
 |some i=>
  have z:i.size=f:=by simpa [o] using r
  simp only [lD] at k;simp [Builtin.copy_,ii x,Builtin.lenOf,Builtin.firstCells,sizeOf,typeInfo,o,z,B,u,k]
def Dm(args:Array Value):Sem Value:=Builtin.copy_ #[207, 207] 3 args
theorem VT(args:Array Value):Builtin.copy_ #[207, 207] 3 args=Dm args:=rfl
def GW(args:Array Value):Sem Value:=Builtin.append_ #[207, 3] 207 args
theorem UW(args:Array Value):Builtin.append_ #[207, 3] 207 args=GW args:=rfl
def zj(es:List En):List Value:=(es.map qt).flatten
theorem yk(a:List En):(zj a).length=a.length*5:=by
 induction a with
 |nil=>rfl
 |cons e r b=>rw [zj,aO,aU,ag];rw [zj] at b;rw [b];simp [qt];omega
theorem qS(A B:List En):zj (A++B)=zj A++zj B:=by simp [zj]
theorem xO(e:En)(B:List En):zj (e::B)=qt e++zj B:=by simp [zj]
theorem ki(b:List En):∀v∈zj b,v.oneCell'=true:=λv a=>by
 obtain⟨l,c,a⟩:=eW.1 a;obtain⟨e,d,rfl⟩:=au.1 c;simp [qt] at a;rcases a with rfl|rfl|rfl|rfl|rfl<;>rfl
theorem Jn(e:En):∀v∈qt e,v.oneCell'=true:=λv a=>ki [e] v (by rw [xO];exact af _ a)
theorem Tryz.entry_size:(Tryz.prog.info? 109).map (·.size)=some 5:=zZ Tryz.infoEntry
theorem dl(w:World)(g l b f:Nat)(a:Addr)(c h:Nat)(d:Array Value)(t:TypeId)(e:List Value)
 (n:w.heap[g]? =some (.cells d t (0,0))) (o:Nat.min c b*5=e.length)
 (k:∀j v,e[j]? =some v->w.cell? (a.add j)=some v) (i:l+e.length<=d.size) (m:∀v∈e,v.oneCell'=true):
 (Dm #[.slice (some ⟨g,l,none⟩) b f,.slice (some a) c h]).run Tryz.prog w=
  .ok (goInt (Nat.min c b)) (w.setRow g (d.toList.take l++e++d.toList.drop (l+e.length)).toArray):=
 ct w 207 207 3 109 5 g l b f a c h d t e Tryz.underlying207 Tryz.entry_size n o k i m
theorem Kq(A B:List Value)(v:List Value)(a:List Value)(k:Nat)(e:v.length=k)(d:k<=a.length):
 let cur:=A++B++a;let cur1:=cur.take (A.length+k)++B++cur.drop (A.length+k+B.length)
 cur1.take A.length++v++cur1.drop (A.length+k)=A++v++B++a.drop k:=by
 have b:(A++B++a).drop (A.length+k+B.length)=a.drop k:=by rw [show A.length+k+B.length=(A++B).length+k by rw [ag];omega,List.drop_append,List.drop_eq_nil_of_le (by omega),aK,lx]
 have h2:((A++B++a).take (A.length+k)).length=A.length+k:=by rw [aC,ag,ag];omega
 have c:((A++B++a).take (A.length+k)).take A.length=A:=by rw [iu,a8 (by omega),ak,aZ (aF _),eN]
 simp only;rw [b,ak ((A++B++a).take _) B];rw [aZ (by omega),c,eY (by omega),List.drop_eq_nil_of_le (by omega)];simp
structure ui (w w':World) (a:Option Addr) (n cap:Nat) (es':List En) (g cp:Nat):Prop where
 own:w'.ownsRow 0 109 5 (.slice (some ⟨g,0,none⟩) es'.length cp) es'.length (zj es')
 at_:(Value.slice a n cap).ownBlock=some g\/w.heap.size<=g
 kept:za (λj=>(Value.slice a n cap).ownBlock=some j) w w'
section
attribute [local go_sem ↓] dj
theorem ZS(w:World)(a:Option Addr)(n b:Nat)(i:List En)(x:i.length=n)(h:w.ownsRow 0 109 5 (.slice a n b) n (zj i))(m:Nat)(e:En)(v:w.heap[m]? =some (.cells (qt e).toArray 109 (0,0)))(u:n<=1000)(z:n<=b)(q:b<=9223372036854775807):
 Calls Tryz.prog 177 #[.slice a n b,.int .i64 n,.slice (some ⟨m,0,none⟩) 1 1] w λr w'=>∃g c,r=.returned (.slice (some ⟨g,0,none⟩) (n+1) c)/\ui w w' a n b (i++[e]) g c:=by
 obtain⟨g,c,s,t,f,d,k,p⟩:=QO w a n b (zj i) h m e v u
 have l:Hid (ui w s a n b (i++[e]) g c):=by refine⟨?_,k.imp id (λh=>by omega),za.grown d (λj y=>y)⟩;rw [ag,iq,x,qS,xO];simpa [zj] using f
 clear f d k p h;have A:(n:Int)<=(b:Int):=by omega
 go_enter Tryz.func177,Tryz.ntmps177
 cases a with
 |none=>
  go_wp2
  all_goals
   go_ret;exact⟨g,c,rfl,l.out⟩
 |some a=>
  by_cases o:b=n
  .subst o;go_wp2
   all_goals
    go_ret;exact⟨g,c,rfl,l.out⟩
  .go_wp2
   all_goals
    go_ret;exact⟨g,c,rfl,l.out⟩
end
theorem cu(w:World)(a g h i lb d l:Nat)(f:a≠g)(b:Array Value)(vs:List Value)(c:w.heap[a]? =some (.cells vs.toArray 109 (0,0)))(j:w.heap[g]? =some (.cells b 109 (0,0)))(k:b.size≠0):
 (callFunc 198 #[.slice (some ⟨a,0,none⟩) h i,.slice (some ⟨g,l,none⟩) lb d]).run Tryz.prog w=.ok (.value (.bool false)) w:=by
 rw [run_callFunc_extern Tryz.func198 (by kernel_rfl) (by kernel_rfl) (by kernel_rfl) (e:=Extern.SlicesOverlaps.overlaps #[207, 207] #[4]) (by kernel_rfl),
  Lib.run_overlaps_apart w 207 4 109 Tryz.underlying207 5 (xA Tryz.entry_size) ⟨a,0,none⟩ ⟨g,l,none⟩ h i lb d f 109 109 vs.length b.size (by simp [World.shape?, c]) (by simp [World.shape?, j]) k (aa w a 0 _ _ c) (aa w a _ _ _ c)]
 rfl
section
attribute [local go_sem ↓] VT
theorem cv(w:World)(g n a i:Nat)(b:List En)(aa:b.length=n)(h:w.ownsRow 0 109 5 (.slice (some ⟨g,0,none⟩) n a) n (zj b))(f:Nat)(D:f≠g)(e:En)(B:w.heap[f]? =some (.cells (qt e).toArray 109 (0,0)))(ao:n<=1000)(ap:i<n)(S:n+1<=a)(T:a<=9223372036854775807):
 Calls Tryz.prog 177 #[.slice (some ⟨g,0,none⟩) n a,.int .i64 i,.slice (some ⟨f,0,none⟩) 1 1] w λr w'=>∃K R,r=.returned (.slice (some ⟨K,0,none⟩) (n+1) R)/\ui w w' (some ⟨g,0,none⟩) n a (b.take i++e::b.drop i) K R:=by
 obtain⟨c,o,P,C⟩:∃c,w.heap[g]? =some (.cells c 109 (0,0))/\c.size=a*5/\c.toList.take (n*5)=zj b:=by
  rcases h.2 with⟨Y,_⟩|⟨K,U,c,ac,_,o,_,_,Z,V⟩;.cases Y
  .cases ac;exact⟨c,o,Z,V⟩
 have O:∀W lb L,(callFunc 198 #[.slice (some ⟨f,0,none⟩) 1 1,.slice (some ⟨g,W,none⟩) lb L]).run Tryz.prog w=.ok (.value (.bool false)) w:=λW lb L=>cu w f g 1 1 lb L W D c (qt e) B o (by omega)
 have z:c.toList=zj (b.take i)++zj (b.drop i)++c.toList.drop (n*5):=by rw [<-qS,aE,<-C,aE]
 have l:(zj (b.take i)).length=i*5:=by rw [yk,aC,a8 (by omega)]
 have d:(zj (b.drop i)).length=(n-i)*5:=by rw [yk,aS,aa]
 have u:=dl w.drew g ((i+1)*5) (n+1-(i+1)) (a-(i+1)) ⟨g,i*5,none⟩ (n+1-i) (a-i) c 109 (zj (b.drop i)) o (by rw [d];rw [show Nat.min (n+1-i) (n+1-(i+1))=n-i from by simp only [Nat.min_def];split<;>omega])
  (λj v t=>by
   rw [Addr.add_lit];show w.cell? ⟨g,i*5+j,none⟩=some v;rw [aG w g (i*5+j) _ _ _ o,<-iZ,z,ak,iB (by omega),l,lx,io (by have:=(et.1 t).1;omega)]
   exact t) (by rw [d];omega) (ki _)
 have q:=Kq (zj (b.take i)) (zj (b.drop i)) (qt e) (c.toList.drop (n*5)) 5 rfl (by rw [aS,ik];omega);simp only at q;rw [<-z,l,d] at q;rw [d,show (i+1)*5=i*5+5 from by omega] at u;generalize H:c.toList.take (i*5+5)++zj (b.drop i)++c.toList.drop (i*5+5+(n-i)*5)=s at*;have y:s.length=a*5:=by rw [<-H];simp only [ag,aC,aS,ik,d];omega
 have x:(w.drew.setRow g s.toArray).heap[g]? =some (.cells s.toArray 109 (0,0)):=setRow_heap w.drew g _ _ 109 _ o;have A:za (λj=>j=g) w (w.drew.setRow g s.toArray):=⟨rfl,rfl,rfl,by simp,λk _ J=>setRow_other w.drew g k _ (λe=>J (by rw [e]))⟩;have N:f<w.heap.size:=(lT B);generalize w.drew.setRow g s.toArray=m at*;have G:m.heap[f]? =_:=(A.block f N D).trans B
 have I:=dl m g (i*5) (n+1-i) (a-i) ⟨f,0,none⟩ 1 1 s.toArray 109 (qt e) x (by rw [show Nat.min 1 (n+1-i)=1 from by simp only [Nat.min_def];split<;>omega];rfl)
  (λj v t=>by
   rw [Addr.add_lit,eT,aG m f j _ _ _ G]
   simpa using t) (by rw [aq,y];simp [qt];omega) (Jn _)
 have p:(qt e).length=5:=rfl;rw [iQ,p,q] at I;have F:=setRow_heap m g _ ((zj (b.take i)++qt e++zj (b.drop i)++(c.toList.drop (n*5)).drop 5).toArray) 109 _ x;have E:za (λj=>j=g) m (m.setRow g ((zj (b.take i)++qt e++zj (b.drop i)++(c.toList.drop (n*5)).drop 5).toArray)):=⟨rfl,rfl,rfl,by simp,λk _ J=>setRow_other m g k _ (λe=>J (by rw [e]))⟩;generalize m.setRow g _=ab at*
 have X:Hid (ui w ab (some ⟨g,0,none⟩) n a (b.take i++e::b.drop i) g a):=by
  have M:(b.take i++e::b.drop i).length=n+1:=by simp only [ag,aC,ae,aS];omega
  have Q:zj (b.take i++e::b.drop i)=zj (b.take i)++qt e++zj (b.drop i):=by rw [qS,xO,ak]
  refine⟨⟨by rw [yk],.inr ⟨g,a,_,rfl,aj _,F,by omega,by unfold maxLen;omega,?_,?_⟩⟩,.inl rfl,(A.trans E iL).mono (λj t=>by rw [t];rfl)⟩;.simp only [aq,ag,aS,ik,l,d,p];omega
  .rw [iQ,Q,M,aZ (by simp only [ag,l,d,p];omega),an (by simp only [ag,l,d,p];omega)]
 clear z q F E x A H y l d C P o h B G;have ai:(i:Int)<(n:Int):=by omega
 have ad:¬(i:Int)=(n:Int):=by omega
 have af:(n:Int)+1<=(a:Int):=by omega
 have ah:¬(a:Int)<(n:Int)+1:=by omega
 have al:¬a=i:=by omega
 have am:¬a=i+1:=by omega
 rw [show n+1-(i+1)=n-i from by omega,show i*5+5=(i+1)*5 from by omega] at u;go_enter Tryz.func177,Tryz.ntmps177;go_wp2_with (simp only [O])
 go_region
 go_wp2;go_ret;exact⟨g,a,rfl,X.out⟩
end
theorem Xx(A B b:List Value)(v:List Value)(a:List Value)(f:b.length=v.length+B.length):
 let cur:=A++b++a;let cur1:=cur.take A.length++v++cur.drop (A.length+v.length)
 cur1.take (A.length+v.length)++B++cur1.drop (A.length+v.length+B.length)=A++v++B++a:=by
 simp only;have d:(A++b++a).take A.length=A:=by rw [ak,aZ (aF _),eN]
 have h2:(A++b++a).drop (A.length+v.length)=b.drop v.length++a:=by rw [ak,<-eA,eY (aF _),lm,aK,eY (by omega)]
 rw [d,h2];have e:(A++v).length=A.length+v.length:=ag;rw [<-e,aZ (aF _),eN,<-eA,eY (aF _),lm,aK];have c:(b.drop v.length).length=B.length:=by rw [aS];omega
 rw [<-c,eY (aF _),lm,aK]
section
attribute [local go_sem ↓] VT UW
theorem cw(w:World)(g n a i:Nat)(c:List En)(az:c.length=n)(h:w.ownsRow 0 109 5 (.slice (some ⟨g,0,none⟩) n a) n (zj c))(t:Nat)(aQ:t≠g)(e:En)(ah:w.heap[t]? =some (.cells (qt e).toArray 109 (0,0)))(aW:n<=1000)(aX:i<n)(aA:a<n+1)(aO:n<=a):
 Calls Tryz.prog 177 #[.slice (some ⟨g,0,none⟩) n a,.int .i64 i,.slice (some ⟨t,0,none⟩) 1 1] w λr w'=>∃al ar,r=.returned (.slice (some ⟨al,0,none⟩) (n+1) ar)/\ui w w' (some ⟨g,0,none⟩) n a (c.take i++e::c.drop i) al ar:=by
 have ap:a=n:=by omega
 subst ap
 obtain⟨m,z,R,V⟩:∃m,w.heap[g]? =some (.cells m 109 (0,0))/\m.size=a*5/\m.toList.take (a*5)=zj c:=by
  rcases h.2 with⟨aK,_⟩|⟨al,aI,m,aH,_,z,_,_,aL,aB⟩;.cases aK
  .cases aH;exact⟨m,z,aL,aB⟩
 have N:m.toList=zj (c.take i)++zj (c.drop i):=by rw [<-qS,aE,<-V,an (by rw [ik,R];exact aF _)]
 have l:(zj (c.take i)).length=i*5:=by rw [yk,aC,a8 (by omega)]
 have d:(zj (c.drop i)).length=(a-i)*5:=by rw [yk,aS,az]
 obtain⟨ax,T,U,Y,E⟩:=eZ Tryz.infoEntry
 have P:∀j v,(zj (c.take i)++zj (c.drop i))[j]? =some v->w.cell? ⟨g,j,none⟩=some v:=λj v o=>by rw [aG w g j _ _ _ z,<-iZ,N];exact o
 have H:(Builtin.firstCells ax.size i (.slice (some ⟨g,0,none⟩) i a)).run Tryz.prog w.drew=.ok (zj (c.take i)).toArray w.drew:=by
  rw [Y]
  exact run_firstCells_some w.drew 5 i ⟨g,0,none⟩ i a (zj (c.take i)) (by rw [l]) (λj v o=>by
   rw [Addr.add_lit,eT];show w.cell? ⟨g,j,none⟩=some v
   exact P j v (by rw [io (et.1 o).1];exact o))
 have Z:i+(a+1-i)=a+1:=by omega
 have X:(GW #[.slice (some ⟨g,0,none⟩) i a,.int .i64 ((a+1-i:Nat):Int)]).run Tryz.prog w=_:=
  Lib.run_append_grow_zeros w 207 3 207 109 ax _ .i64 .i64 Tryz.underlying207 Tryz.underlying3 T U (some ⟨g,0,none⟩) i a (zj (c.take i)) H (a+1-i) (by omega) (by omega) (by omega) (by omega) (by rw [E];omega) (by rw [E,Z];exact growslice_fits (by omega) (by omega))
 rw [Z] at X;have aP:=grownCap_ge w (a+1) a 109;have ab:=grownCap_le_maxLen w (a+1) a 109 (by unfold maxLen;omega);generalize grownCap w (a+1) a 109=G at*;have M:∀k,(Builtin.zeroCells (Value.agg #[.string ⟨#[]⟩,.int .i64 0,.bool false,.int .i64 0,.int .i64 0]).cells k).toList.length=k*5:=λk=>by simp [Builtin.zeroCells,Value.cells]
 have F:=M (a+1-i);have D:=M (G-(a+1));clear M H T U Y E h V;generalize Builtin.zeroCells (Value.agg #[.string ⟨#[]⟩,.int .i64 0,.bool false,.int .i64 0,.int .i64 0]).cells (a+1-i)=I at*;generalize Builtin.zeroCells (Value.agg #[.string ⟨#[]⟩,.int .i64 0,.bool false,.int .i64 0,.int .i64 0]).cells (G-(a+1))=u at*;have A:((zj (c.take i)).toArray++I++u).toList=zj (c.take i)++I.toList++u.toList:=by simp
 have S:((zj (c.take i)).toArray++I++u).size=G*5:=by rw [<-ik,A,ag,ag,l,F,D];omega
 generalize (zj (c.take i)).toArray++I++u=ai at*;have f:(qt e).length=5:=rfl;have x:=Xx (zj (c.take i)) (zj (c.drop i)) I.toList (qt e) u.toList (by rw [F,d,f];omega);simp only at x;rw [<-A,l,d,f] at x;have aw:t<w.heap.size:=(lT ah);have au:g<w.heap.size:=(lT z);have K:(w.drew.alloc (.cells ai 109)).heap[w.heap.size]? =some (.cells ai 109 (0,0)):=ac w.drew _;have s:za (λ_=>False) w (w.drew.alloc (.cells ai 109)):=za.trans (b:=w.drew) (za.drew _ w) (za.alloc _ _ _) iL;generalize w.drew.alloc (.cells ai 109)=q at*;have ad:q.heap[t]? =_:=(s.block t aw id).trans ah
 have am:=dl q w.heap.size (i*5) (a+1-i) (G-i) ⟨t,0,none⟩ 1 1 ai 109 (qt e) K (by rw [show Nat.min 1 (a+1-i)=1 from by simp only [Nat.min_def];split<;>omega];rfl)
  (λj v o=>by
   rw [Addr.add_lit,eT,aG q t j _ _ _ ad]
   simpa using o) (by rw [S,f];omega) (Jn _)
 rw [f] at am;generalize af:ai.toList.take (i*5)++qt e++ai.toList.drop (i*5+5)=y at*;have C:y.length=G*5:=by rw [<-af];simp only [ag,aC,aS,ik,f];omega
 have L:(q.setRow w.heap.size y.toArray).heap[w.heap.size]? =some (.cells y.toArray 109 (0,0)):=setRow_heap q w.heap.size _ _ 109 _ K;have J:za (λj=>j=w.heap.size) q (q.setRow w.heap.size y.toArray):=⟨rfl,rfl,rfl,by simp,λk _ ao=>setRow_other q w.heap.size k _ (λe=>ao (by rw [e]))⟩;generalize q.setRow w.heap.size y.toArray=p at*;have aa:p.heap[g]? =_:=(J.block g (by have:=s.size;omega) (by omega)).trans ((s.block g au id).trans z)
 have B:=dl p.drew w.heap.size (i*5+5) (a-i) (G-(i+1)) ⟨g,i*5,none⟩ (a-i) (a-i) y.toArray 109 (zj (c.drop i)) L (by rw [d];rw [show Nat.min (a-i) (a-i)=a-i from by simp])
  (λj v o=>by
   rw [Addr.add_lit];show p.cell? ⟨g,i*5+j,none⟩=some v;rw [aG p g (i*5+j) _ _ _ aa,<-iZ,N,iB (by omega),l,lx]
   exact o) (by rw [aq,C,d];omega) (ki _)
 rw [iQ,d,x] at B;have W:=setRow_heap p.drew w.heap.size _ ((zj (c.take i)++qt e++zj (c.drop i)++u.toList).toArray) 109 _ L;have O:za (λj=>j=w.heap.size) p (p.drew.setRow w.heap.size ((zj (c.take i)++qt e++zj (c.drop i)++u.toList).toArray)):=⟨rfl,rfl,rfl,by simp,λk _ ao=>setRow_other p.drew w.heap.size k _ (λe=>ao (by rw [e]))⟩;generalize p.drew.setRow w.heap.size _=aD at*
 have aJ:Hid (ui w aD (some ⟨g,0,none⟩) a a (c.take i++e::c.drop i) w.heap.size G):=by
  have av:(c.take i++e::c.drop i).length=a+1:=by simp only [ag,aC,ae,aS];omega
  have ay:zj (c.take i++e::c.drop i)=zj (c.take i)++qt e++zj (c.drop i):=by rw [qS,xO,ak]
  refine⟨⟨by rw [yk],.inr ⟨w.heap.size,G,_,rfl,aj _,W,by omega,ab,?_,?_⟩⟩,.inr (aF _),(((s.mono fE).trans J (λj o=>.inr (by omega))).trans O (λj o=>.inr (by omega)))⟩;.simp only [aq,ag,l,d,f,D];omega
  .rw [iQ,ay,av,aZ (by simp only [ag,l,d,f];omega),an (by simp only [ag,l,d,f];omega)]
 unfold maxLen at ab;clear N x L J K s af C l d R z ah ad P A S W O aa F D az;have aR:(i:Int)<(a:Int):=by omega
 have aM:¬(i:Int)=(a:Int):=by omega
 have aN:(a:Int)<(a:Int)+1:=by omega
 have Q:((a+1-i:Nat):Int)=(a:Int)+1-(i:Int):=by omega
 rw [Q] at X;have aU:¬a=i:=by omega
 have aV:¬G=i+1:=by omega
 have aT:¬G=i:=by omega
 rw [show i*5+5=(i+1)*5 from by omega] at B;clear Q;go_enter Tryz.func177,Tryz.ntmps177;go_wp2
 go_region
 go_wp2;go_ret;exact⟨w.heap.size,G,rfl,aJ.out⟩
end
theorem uO(w:World)(a:Option Addr)(n b i:Nat)(c:List En)(q:c.length=n)(h:w.ownsRow 0 109 5 (.slice a n b) n (zj c))(d:Nat)(x:(Value.slice a n b).ownBlock≠some d)(e:En)(p:w.heap[d]? =some (.cells (qt e).toArray 109 (0,0)))(m:n<=1000)(D:i<=n):
 Calls Tryz.prog 177 #[.slice a n b,.int .i64 i,.slice (some ⟨d,0,none⟩) 1 1] w λr w'=>∃f y,r=.returned (.slice (some ⟨f,0,none⟩) (n+1) y)/\ui w w' a n b (c.take i++e::c.drop i) f y:=by
 have g:n<=b/\b<=9223372036854775807:=by
  rcases h.2 with⟨t,h2⟩|⟨f,o,u,s,_,C,t,h2,B,A⟩;.cases t;omega
  .cases s;unfold maxLen at h2;omega
 by_cases v:i=n
 .subst v;have:=ZS w a i b c q h d e p m g.1 g.2;rw [an (by omega),eo (by omega)];exact this
 .have l:i<n:=by omega
  rcases h.2 with⟨t,h2⟩|⟨f,o,u,s,_⟩;.omega
  .cases s;have j:d≠f:=λz=>x (by rw [z];rfl);by_cases k:n+1<=b;.exact cv w f n b i c q h d j e p m l k g.2
   .exact cw w f n b i c q h d j e p m l (by omega) g.1
def uP(N:Nat)(m:List UInt8):Option Nat:=(List.range (N-21)).find? λi=> !zU m i
theorem dU{i:Nat}(c:i+21<N)(h2:zU m i=false)(a:∀j,j<i->zU m j=true):uP N m=some i:=by
 unfold uP;rw [List.find?_range_eq_some];refine⟨by simpa using h2,by simp;omega,λj b=>by simpa using a j b⟩
theorem dV(h:∀i,i+21<N->zU m i=true):uP N m=none:=by
 unfold uP;rw [lz];intro i a;have:=h i (by simp at a;omega);simpa using this
theorem QX{i:Nat}(h:uP N m=some i):i+21<N/\zU m i=false/\∀j,j<i->zU m j=true:=by
 unfold uP at h;rw [List.find?_range_eq_some] at h;obtain⟨a,h2,b⟩:=h;refine⟨by simp at h2;omega,by simpa using a,λj c=>by simpa using b j c⟩
def Ck.take(C:Ck)(N:Nat)(m:List UInt8):Nat×Ck×List UInt8:=match uP N m with
 |some i=>(i+21,C.put 2 (zm (zS (uh m i))),uh m i)
 |none=>(0,{C with full:=true},m)
theorem dW(w:World)(c bd:Nat)(S T:Nat->Prop)(D:Dk)(C:Ck)(h:Cw w c bd S T D C)(m:List UInt8)(r:qF (C.look D 2) m)(l:0<=D.reads)(o:D.reads<=4611686018427387904)(g:C.ws.length<1000):
 Calls Tryz.prog 134 #[.pointer (some ⟨c,0,none⟩)] w λe w'=>e=.returned (.int .i64 ((C.take D.bs.length m).1:Nat))/\(∃(n:Int) (p:Nat->Prop),0<=n/\n<=1/\Cw w' c bd S p {D with reads:=D.reads+n} (C.take D.bs.length m).2.1/\∀k,p k->T k\/w.heap.size<=k)/\za (λk=>k=bd\/T k) w w':=by
 refine(VS w c bd S T D C h m r l o g).mono ?_;rintro e w' ⟨a,q,rfl,d⟩;have j:=d.is;refine⟨?_,?_,d.kept⟩
 .rcases j with⟨i,rfl,b,h2,f,rfl⟩|⟨rfl,b,rfl⟩;.unfold Ck.take;rw [dU b h2 f];rfl
  .unfold Ck.take;rw [dV b];rfl
 .have s:(C.take D.bs.length m).2.1=q:=by
   rcases j with⟨i,rfl,b,h2,f,rfl⟩|⟨rfl,b,rfl⟩;.unfold Ck.take;rw [dU b h2 f]
   .unfold Ck.take;rw [dV b]
  rw [s];exact d.at_
theorem QY(ws:List (Nat×List Value))(i:Int):yg ws i=(ws.map Prod.fst).findIdx? (λn:Nat=>decide ((n:Int)=i)):=by
 unfold yg;rw [List.findIdx?_map];rfl
theorem QZ(C:Ck)(D:Dk)(i:Nat)(b:List Value)(j:Int):(C.put i b).look D j=if j=i then b else C.look D j:=by
 cases c:yg C.ws i with
 |none=>
  rw [jJ b c];unfold Ck.look
  have f:yg (C.ws++[(i,b)]) j=(yg C.ws j).or (if (i:Int)=j then some C.ws.length else none):=by unfold yg;rw [List.findIdx?_append];congr 1;by_cases m:(i:Int)=j<;>simp [m]
  simp only [f];by_cases a:j=i
  .subst a;rw [c,aB rfl,aB rfl];simp
  .rw [aw a,aw (λh=>a h.symm),Option.or_none]
   cases g:yg C.ws j with
   |none=>rfl
   |some k=>
    obtain⟨d,_⟩:=xH (D:=D) g;simp only;rw [aA,io d,<-aA]
 |some k=>
  obtain⟨d,_,p⟩:=xH (D:=D) c;obtain⟨_,e⟩:=jy b c;rw [e];unfold Ck.look
  have f:yg (C.ws.set k (C.ws[k].1,b)) j=yg C.ws j:=by
   rw [QY,QY,lU];congr 1;have:C.ws[k].1=(C.ws.map Prod.fst)[k]'(by simpa using d):=by simp
   rw [this,List.set_getElem_self]
  simp only [f];by_cases a:j=i
  .subst a;rw [c,aB rfl];simp [d]
  .rw [aw a]
   cases g:yg C.ws j with
   |none=>rfl
   |some o=>
    obtain⟨q,_,r⟩:=xH (D:=D) g;have l:k≠o:=λn=>a (by subst n;omega);simp only;rw [aA,iK l,<-aA]
theorem z9(C:Ck)(D:Dk)(i:Nat)(b:List Value)(j:Int)(h:j≠i):(C.put i b).look D j=C.look D j:=by rw [QZ,aw h]
theorem qn(C:Ck)(D:Dk)(i:Nat)(b:List Value):(C.put i b).look D i=b:=by rw [QZ,aB rfl]
theorem qF.put{D:Dk}(h:qF (C.look D 2) m)(i:Nat)(b:List Value)(a:i≠2):qF ((C.put i b).look D 2) m:=by rw [z9 _ _ _ _ _ (by omega)];exact h
theorem qF.take{D:Dk}(h:qF (C.look D 2) m)(N:Nat):qF ((C.take N m).2.1.look D 2) (C.take N m).2.2:=by
 unfold Ck.take;split;.exact⟨by rw [QT];exact h.len,.inl (qn C D 2 _)⟩
 .exact h
theorem UX(C:Ck)(N:Nat)(m:List UInt8):(C.take N m).1=0\/(21<=(C.take N m).1/\(C.take N m).1<N):=by
 unfold Ck.take;split;.next i h=>right;have:=(QX h).1;simp only;omega
 .exact .inl rfl
theorem uQ(C:Ck)(N:Nat)(m:List UInt8):(C.take N m).2.1.ws.length<=C.ws.length+1:=by
 unfold Ck.take;split;.exact qy _ _ _
 .simp
theorem zF(C:Ck)(D:Dk)(n:Int)(j:Int):C.look {D with reads:=n} j=C.look D j:=by
 unfold Ck.look;split<;>rfl
theorem kJ(w:World)(b:Nat)(t:TypeId)(o p q u l f e c a d:Value)(h:w.heap[b]? =some (.cells #[o,p,q,u,l] t (0,0))):
 (((((w.setCell ⟨b,0,none⟩ f).setCell ⟨b,1,none⟩ e).setCell ⟨b,2,none⟩ c).setCell ⟨b,3,none⟩ a).setCell ⟨b,4,none⟩ d).heap[b]? =some (.cells #[f,e,c,a,d] t (0,0))/\za (λj=>j=b) w (((((w.setCell ⟨b,0,none⟩ f).setCell ⟨b,1,none⟩ e).setCell ⟨b,2,none⟩ c).setCell ⟨b,3,none⟩ a).setCell ⟨b,4,none⟩ d):=by
 have m:=heap_setCell_same w b 0 _ _ f h;have s:=heap_setCell_same _ b 1 _ _ e m;have h2:=heap_setCell_same _ b 2 _ _ c s;have n:=heap_setCell_same _ b 3 _ _ a h2;have r:=heap_setCell_same _ b 4 _ _ d n;refine⟨r,?_⟩;have k:∀(g:World) (i:Nat) (v:Value),za (λj=>j=b) g (g.setCell ⟨b,i,none⟩ v):=λg i v=>za.setCell (S:=λj=>j=b) g ⟨b,i,none⟩ v rfl;exact((((k _ 0 f).trans (k _ 1 e) iL).trans (k _ 2 c) iL).trans (k _ 3 a) iL).trans (k _ 4 d) iL
def Ck.split(C:Ck)(N:Nat)(m:List UInt8)(at_ k:Nat)(es:List En):Nat×Ck×List UInt8:=
 let t:=C.take N m
 (t.1,(t.2.1.put at_ (zm (zc k (es.take (es.length/2))))).put t.1 (zm (zc k (es.drop (es.length/2)))),t.2.2)
theorem VU(w:World)(y bd:Nat)(S T:Nat->Prop)(D:Dk)(C:Ck)(h:Cw w y bd S T D C)(m:List UInt8)(aq:qF (C.look D 2) m)(af:0<=D.reads)(ag:D.reads<=4611686018427387904)(P:Nat->Prop)(x:∀j,P j->¬T j)(Q:∀j,P j->j≠bd)(a:Option Addr)(d:Nat)(k:Nat)(aw:k=4\/k=5)(c:List En)(ap:qg w P a c)(R:∀e∈c,e.Ok)(M:c.length/2<c.length)(Y:c.length<=12)(X:c.length<=d)(L:d<=9223372036854775807)(u:Nat)(aA:C.ws.length<800)(t:Nat)(J:Ck)(au:List UInt8)(F:C.take D.bs.length m=(t,J,au))(q:En)(ae:c[c.length/2]=q):
 Calls Tryz.prog 178 #[.agg #[.int .u8 (k:Int),.slice a c.length d],.pointer (some ⟨y,0,none⟩),.int .i64 u] w λr w'=>r=.returned (.agg #[.string q.pl.key,.int .i64 q.pl.num,.bool false,.int .i64 0,.int .i64 (t:Int)])/\(∃(n:Int) (ai:Nat->Prop),0<=n/\n<=1/\Cw w' y bd S ai {D with reads:=D.reads+n} ((J.put u (zm (zc k (c.take (c.length/2))))).put t (zm (zc k (c.drop (c.length/2)))))/\∀j,ai j->T j\/w.heap.size<=j)/\za (λj=>j=bd\/T j) w w':=by
 have K:Hid _:=h;change Hid _ at ap aq R x Q;clear h;have z:Hid (za (λ_=>False) w ((w.alloc (.cells #[.int .u8 (k:Int),.slice a c.length d] 209)).alloc (.cells #[.string ⟨#[]⟩,.int .i64 0,.bool false,.int .i64 0,.int .i64 0] 109))):=za.alloc2 _ _ _;go_enter Tryz.func178,Tryz.ntmps178;go_wp2_with fail;have an:Hid (((w.alloc (.cells #[.int .u8 (k:Int),.slice a c.length d] 209)).alloc (.cells #[.string ⟨#[]⟩,.int .i64 0,.bool false,.int .i64 0,.int .i64 0] 109)).heap[w.heap.size+1]? =some (.cells #[.string ⟨#[]⟩,.int .i64 0,.bool false,.int .i64 0,.int .i64 0] 109 (0,0))):=eF w _ _;have aj:Hid (((w.alloc (.cells #[.int .u8 (k:Int),.slice a c.length d] 209)).alloc (.cells #[.string ⟨#[]⟩,.int .i64 0,.bool false,.int .i64 0,.int .i64 0] 109)).heap[w.heap.size]? =some (.cells #[.int .u8 (k:Int),.slice a c.length d] 209 (0,0))):=((za.alloc (λ_=>False) _ _).block w.heap.size (by simp) id).trans (ac w _);have aE:((w.alloc (.cells #[.int .u8 (k:Int),.slice a c.length d] 209)).alloc (.cells #[.string ⟨#[]⟩,.int .i64 0,.bool false,.int .i64 0,.int .i64 0] 109)).heap.size=w.heap.size+2:=by simp
 generalize ((w.alloc (.cells #[.int .u8 (k:Int),.slice a c.length d] 209)).alloc (.cells #[.string ⟨#[]⟩,.int .i64 0,.bool false,.int .i64 0,.int .i64 0] 109))=aC at*;have N:=K.chg.lt;have B:=K.disk.lt;have aD:=B bd K.disk.bdS;change Hid _ at N B;refine(dW aC y bd S T D C (K.kept0 z) m aq af ag (by omega)).mono ?_;rintro r A ⟨rfl,⟨az,am,ar,ad,V,p⟩,l⟩;have G:Hid _:=V;have o:∀j,w.heap.size<=j->¬(j=bd\/T j):=λj f s=>s.elim (λh=>by omega) (λh=>by have:=N.out j h;omega);have W:Hid (A.heap[w.heap.size+1]? =_):=(l.block _ (by omega) (o _ (by omega))).trans an.out;have H:Hid (A.heap[w.heap.size]? =_):=(l.block _ (by omega) (o _ (by omega))).trans aj.out;have aB:A.cell? ⟨w.heap.size,0,none⟩=some (.int .u8 (k:Int)):=cR H.out rfl;have av:A.cell? ⟨w.heap.size,1,none⟩=some (.slice a c.length d):=cR H.out rfl;have ao:Hid _:=(ap.below.kept z nF).kept l (λj f s=>s.elim (Q j f.1) (x j f.1))
 have Z:Hid (∀j,(P j/\j<w.heap.size)->¬am j):=λj f s=>by
  rcases p j s with g|g;.exact x j f.1 g
  .omega
 have ah:J.ws.length<900:=by have:=uQ C D.bs.length m;rw [F] at this;simp only at this;omega
 rw [F] at G ⊢;dsimp only at G ⊢;have ay:=l.size;change Hid _ at p l o;clear V F;go_wp2_with fail;refine(cZ A y bd S am _ J G (λj=>P j/\j<w.heap.size) Z a d k aw c ao R (c.length/2) rfl M Y X L u t ah).mono ?_;rintro r i ⟨rfl,⟨al,U,O⟩,E⟩;rw [ae];have b:Hid (i.heap[w.heap.size+1]? =_):=(E.block _ (by omega) (λs=>by rcases p _ s with g|g;exact o _ (by omega) (.inr g);omega)).trans W.out;have aK:i.cell? ⟨w.heap.size+1,0,none⟩=some (.string ⟨#[]⟩):=cR b.out rfl;have aM:i.cell? ⟨w.heap.size+1,1,none⟩=some (.int .i64 0):=cR b.out rfl;have aJ:i.cell? ⟨w.heap.size+1,2,none⟩=some (.bool false):=cR b.out rfl;have aG:i.cell? ⟨w.heap.size+1,3,none⟩=some (.int .i64 0):=cR b.out rfl;have aN:i.cell? ⟨w.heap.size+1,4,none⟩=some (.int .i64 0):=cR b.out rfl;have aL:=aa i (w.heap.size+1) 0 _ _ b.out;have aF:=aa i (w.heap.size+1) 1 _ _ b.out;have aH:=aa i (w.heap.size+1) 2 _ _ b.out;have aO:=aa i (w.heap.size+1) 3 _ _ b.out;have aI:=aa i (w.heap.size+1) 4 _ _ b.out;change Hid _ at U O E;go_wp2;obtain⟨ax,ak⟩:=kJ i (w.heap.size+1) 109 _ _ _ _ _ (.string q.pl.key) (.int .i64 q.pl.num) (.bool false) (.int .i64 0) (.int .i64 (t:Int)) b.out
 have I:∀j,al j->T j\/aC.heap.size<=j:=λj f=>by
  rcases O j f with g|g;.exact p j g
  .right;omega
 refine bodyPost_ret (v:=.agg #[.string q.pl.key,.int .i64 q.pl.num,.bool false,.int .i64 0,.int .i64 (t:Int)]) (results_cell_row Tryz.results178 _ _ (w.heap.size+1) 109 _ (0,0) _ rfl ax Tryz.underlying109 rfl (by kernel_rfl)) rfl ⟨rfl,⟨az,al,ar,ad,U.kept ak (λj f ab=>by have:=B.out j f;omega) (λj f ab=>?_),λj f=>(I j f).imp id (λh=>by omega)⟩,?_⟩
 .subst ab;rcases I _ f with g|g;.exact o _ (by omega) (.inr g)
  .omega
 .have k1:=(z.mono fE).trans l iL
  have k2:=k1.trans E (λj f=>by
   rcases p j f with g|g;.exact .inl (.inr g)
   .exact .inr (by omega))
  exact k2.trans ak (λj f=>.inr (by omega))
theorem Kr(w:World)(g bd:Nat)(S T:Nat->Prop)(D:Dk)(C:Ck)(h:Cw w g bd S T D C)(m:List UInt8)(z:qF (C.look D 2) m)(s:0<=D.reads)(u:D.reads<=4611686018427387904)(P:Nat->Prop)(t:∀j,P j->¬T j)(q:∀j,P j->j≠bd)(a:Option Addr)(d:Nat)(k:Nat)(A:k=4\/k=5)(b:List En)(y:qg w P a b)(v:∀e∈b,e.Ok)(i:b.length/2<b.length)(l:b.length<=12)(p:b.length<=d)(f:d<=9223372036854775807)(c:Nat)(o:C.ws.length<800):
 Calls Tryz.prog 178 #[.agg #[.int .u8 (k:Int),.slice a b.length d],.pointer (some ⟨g,0,none⟩),.int .i64 c] w λr w'=>r=.returned (.agg #[.string b[b.length/2].pl.key,.int .i64 b[b.length/2].pl.num,.bool false,.int .i64 0,.int .i64 ((C.split D.bs.length m c k b).1:Nat)])/\(∃(n:Int) (x:Nat->Prop),0<=n/\n<=1/\Cw w' g bd S x {D with reads:=D.reads+n} (C.split D.bs.length m c k b).2.1/\∀j,x j->T j\/w.heap.size<=j)/\za (λj=>j=bd\/T j) w w':=
 VU w g bd S T D C h m z s u P t q a d k A b y v i l p f c o _ _ _ rfl _ rfl
end prog
end Go.Proofs.YtcoengihaobddaaGreatDoor
