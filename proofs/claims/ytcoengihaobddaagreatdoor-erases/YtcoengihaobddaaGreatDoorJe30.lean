/- Part 30 of 50 of a proof: Law16 -/
import Derived.Test.YtcoengihaobddaaGreatDoorJe20
import Derived.Test.YtcoengihaobddaaGreatDoorJe27
set_option maxHeartbeats 8000000
set_option linter.unusedVariables false
set_option linter.unusedSimpArgs false
set_option maxRecDepth 8000
namespace Go.Proofs.YtcoengihaobddaaGreatDoor
namespace law
open Go.ChangeShapes Go.WideShapes Go.ChangeAt Go.RowKit disk ref book
open keys (zg zd zq zl zh)
theorem Jk(M:za)(A:x8 M)(w:World)(j J t:Nat)(f:List (Nat×(Nat->Prop)))(ao:Option Addr)(ac:Nat)(F aI:Nat->Prop)(a b:Option Addr)(ai al:Nat)(an vs:List js)(p:qt M w j J t f ao ac F aI a b ai al an vs)(z:j<=w.heap.size)(ad:t<=2199023255552)
 (c:yC) (Q:Nat->Prop) (v:c.Ok w Q) (K:∀k,Q k->k<j) (d:c.kind=3):
 Calls Tryz.prog 37 #[.pointer (some ⟨J,0,none⟩),.agg #[.int .i64 c.kind,.int .i64 c.A,.int .i64 c.B,.int .i64 c.C,.string c.S,.string c.P,.slice c.la c.l.length c.lc,.slice c.ka c.ks.length c.kc]] w λe w'=>e=.returned (.bool true)/\ju M w' j J (t+1)/\Kept (λk=>j<=k) w w':=by
 have k0:Kept (λ_=>False) w (w.alloc (.cells #[.int .i64 c.kind,.int .i64 c.A,.int .i64 c.B,.int .i64 c.C,.string c.S,.string c.P,.slice c.la c.l.length c.lc,.slice c.ka c.ks.length c.kc] 81)):=Kept.alloc _ _ _;have l:xj (w.alloc (.cells #[.int .i64 c.kind,.int .i64 c.A,.int .i64 c.B,.int .i64 c.C,.string c.S,.string c.P,.slice c.la c.l.length c.lc,.slice c.ka c.ks.length c.kc] 81)) w.heap.size c:=⟨heap_alloc_new w _⟩;have X:=l.c0.trans (et (λk=>some (Value.int .i64 k)) d);have ak:=l.c0;have az:=l.c1;have aH:=l.c2;have av:=l.c3;have aw:=l.c4;have aE:=l.c5;have aG:=l.c6;have aC:=l.c7;have o:=p.kept0 k0;have u:=v.kept k0 nF;have E:j<=(w.alloc (.cells #[.int .i64 c.kind,.int .i64 c.A,.int .i64 c.B,.int .i64 c.C,.string c.S,.string c.P,.slice c.la c.l.length c.lc,.slice c.ka c.ks.length c.kc] 81)).heap.size:=aF z k0.size;have ap:=o.book.head.c.1;have aD:=p.fewO;have x:=v.A;change Hid _ at o u l k0 p K E d x;clear v;generalize aq:w.alloc (.cells #[.int .i64 c.kind,.int .i64 c.A,.int .i64 c.B,.int .i64 c.C,.string c.S,.string c.P,.slice c.la c.l.length c.lc,.slice c.ka c.ks.length c.kc] 81)=w0 at*;clear X;have aB:(c.kind==1)=false:=by rw [d.out];rfl
 have aj:(c.kind==12)=false:=by rw [d.out];rfl
 have aA:decide (c.kind<2)=false:=by rw [d.out];rfl
 have ag:decide (11<c.kind)=false:=by rw [d.out];rfl
 have au:decide (8<=c.kind)=false:=by rw [d.out];rfl
 have ae:(c.kind==2)=false:=by rw [d.out];rfl
 have am:(c.kind==3)=true:=by rw [d.out];rfl
 by_cases R:f.length=0
 .have ab:((f.length:Int)==0)=true:=by simp [R]
  go_enter Tryz.func37,Tryz.ntmps37;go_wp2;go_ret;exact⟨rfl,p.idle k0⟩
 .have ab:((f.length:Int)==0)=false:=by simpa using R
  obtain⟨g,rfl⟩:=o.rowAt (by omega);go_enter Tryz.func37,Tryz.ntmps37;go_wp2_with fail;obtain⟨i,ax,H⟩:=uV c.A f.length x (by omega) (by omega);have q:i<f.length:=by omega
  have ay:=o.rowCell i q;change Hid _ at H;go_quiet ((go_at_call 58;exact Calls.quiet_of_same (H _)));obtain⟨h,bd,D,S,ar,Z,V,s,n⟩:=o.one i q;have r:=n.kept (T:=λ_=>False) (w':=w0.drewN nq) kD nF;have y:=n.head.c1;have P:Hid (yY M (w0.drewN nq) f[i].2 f[i].1 t h bd D S ar Z V s):=r;have Y:Hid _:=o.kept0 (w':=w0.drewN nq) kD;have L:Hid _:=u.kept (T:=λ_=>False) (w':=w0.drewN nq) kD nF;have I:j<=(w0.drewN nq).heap.size:=E.out;have G:∀k,Q k->¬f[i].2 k/\k<(w0.drewN nq).heap.size:=λk W=>⟨λaf=>by have:=K.out k W;have:=o.bX i q k af;omega,by have:=K.out k W;omega⟩;have B:Kept (λk=>j<=k) w (w0.drewN nq):=(k0.mono fE).trans (S':=λ_=>False) kD fE;change Hid _ at G B;clear r
  have O:(∃bs,h.s=yp bs)\/h.s=.pointer none:=by
   cases n.st using yj.elim with
   |live bs m=>exact .inl ⟨bs,m⟩
   |shut bs m=>exact .inl ⟨bs,m⟩
   |gone m=>exact .inr m
  clear n;rcases O with⟨bs,m⟩|m
  .have aa:Hid _:=m;rw [m] at y;unfold yp at y;clear m;go_wp2_with fail;refine(bh M A _ f[i].2 f[i].1 t h bd D S ar Z V s P ad bs aa c Q L G).mono ?_;rintro e aJ C;obtain⟨ah,N,U⟩:=Y.stepped I i q C;subst ah;change Hid _ at N U;clear C;go_wp2;go_ret;exact⟨rfl,N,B.trans U iL⟩
  .rw [m] at y;clear m;go_wp2;go_ret;exact⟨rfl,p.idle (k0.trans (S':=λ_=>False) kD iL)⟩
theorem Kv(M:za)(A:qr M)(w:World)(j J t:Nat)(f:List (Nat×(Nat->Prop)))(ap:Option Addr)(ac:Nat)(F aJ:Nat->Prop)(a b:Option Addr)(aj am:Nat)(ao vs:List js)(p:qt M w j J t f ap ac F aJ a b aj am ao vs)(z:j<=w.heap.size)(ae:t<=2199023255552)
 (c:yC) (Q:Nat->Prop) (v:c.Ok w Q) (K:∀k,Q k->k<j) (d:c.kind=4):
 Calls Tryz.prog 37 #[.pointer (some ⟨J,0,none⟩),.agg #[.int .i64 c.kind,.int .i64 c.A,.int .i64 c.B,.int .i64 c.C,.string c.S,.string c.P,.slice c.la c.l.length c.lc,.slice c.ka c.ks.length c.kc]] w λe w'=>e=.returned (.bool true)/\ju M w' j J (t+1)/\Kept (λk=>j<=k) w w':=by
 have k0:Kept (λ_=>False) w (w.alloc (.cells #[.int .i64 c.kind,.int .i64 c.A,.int .i64 c.B,.int .i64 c.C,.string c.S,.string c.P,.slice c.la c.l.length c.lc,.slice c.ka c.ks.length c.kc] 81)):=Kept.alloc _ _ _;have l:xj (w.alloc (.cells #[.int .i64 c.kind,.int .i64 c.A,.int .i64 c.B,.int .i64 c.C,.string c.S,.string c.P,.slice c.la c.l.length c.lc,.slice c.ka c.ks.length c.kc] 81)) w.heap.size c:=⟨heap_alloc_new w _⟩;have X:=l.c0.trans (et (λk=>some (Value.int .i64 k)) d);have al:=l.c0;have aA:=l.c1;have aI:=l.c2;have aw:=l.c3;have ax:=l.c4;have aG:=l.c5;have aH:=l.c6;have aD:=l.c7;have o:=p.kept0 k0;have u:=v.kept k0 nF;have E:j<=(w.alloc (.cells #[.int .i64 c.kind,.int .i64 c.A,.int .i64 c.B,.int .i64 c.C,.string c.S,.string c.P,.slice c.la c.l.length c.lc,.slice c.ka c.ks.length c.kc] 81)).heap.size:=aF z k0.size;have aq:=o.book.head.c.1;have aE:=p.fewO;have x:=v.A;change Hid _ at o u l k0 p K E d x;clear v;generalize ar:w.alloc (.cells #[.int .i64 c.kind,.int .i64 c.A,.int .i64 c.B,.int .i64 c.C,.string c.S,.string c.P,.slice c.la c.l.length c.lc,.slice c.ka c.ks.length c.kc] 81)=w0 at*;clear X;have aC:(c.kind==1)=false:=by rw [d.out];rfl
 have ak:(c.kind==12)=false:=by rw [d.out];rfl
 have aB:decide (c.kind<2)=false:=by rw [d.out];rfl
 have ah:decide (11<c.kind)=false:=by rw [d.out];rfl
 have av:decide (8<=c.kind)=false:=by rw [d.out];rfl
 have af:(c.kind==2)=false:=by rw [d.out];rfl
 have an:(c.kind==3)=false:=by rw [d.out];rfl
 have ad:(c.kind==4)=true:=by rw [d.out];rfl
 by_cases R:f.length=0
 .have ab:((f.length:Int)==0)=true:=by simp [R]
  go_enter Tryz.func37,Tryz.ntmps37;go_wp2;go_ret;exact⟨rfl,p.idle k0⟩
 .have ab:((f.length:Int)==0)=false:=by simpa using R
  obtain⟨g,rfl⟩:=o.rowAt (by omega);go_enter Tryz.func37,Tryz.ntmps37;go_wp2_with fail;obtain⟨i,ay,H⟩:=uV c.A f.length x (by omega) (by omega);have q:i<f.length:=by omega
  have az:=o.rowCell i q;change Hid _ at H;go_quiet ((go_at_call 58;exact Calls.quiet_of_same (H _)));obtain⟨h,bd,D,S,au,Z,V,s,n⟩:=o.one i q;have r:=n.kept (T:=λ_=>False) (w':=w0.drewN nq) kD nF;have y:=n.head.c1;have P:Hid (yY M (w0.drewN nq) f[i].2 f[i].1 t h bd D S au Z V s):=r;have Y:Hid _:=o.kept0 (w':=w0.drewN nq) kD;have L:Hid _:=u.kept (T:=λ_=>False) (w':=w0.drewN nq) kD nF;have I:j<=(w0.drewN nq).heap.size:=E.out;have G:∀k,Q k->¬f[i].2 k/\k<(w0.drewN nq).heap.size:=λk W=>⟨λag=>by have:=K.out k W;have:=o.bX i q k ag;omega,by have:=K.out k W;omega⟩;have B:Kept (λk=>j<=k) w (w0.drewN nq):=(k0.mono fE).trans (S':=λ_=>False) kD fE;change Hid _ at G B;clear r
  have O:(∃bs,h.s=yp bs)\/h.s=.pointer none:=by
   cases n.st using yj.elim with
   |live bs m=>exact .inl ⟨bs,m⟩
   |shut bs m=>exact .inl ⟨bs,m⟩
   |gone m=>exact .inr m
  clear n;rcases O with⟨bs,m⟩|m
  .have aa:Hid _:=m;rw [m] at y;unfold yp at y;clear m;go_wp2_with fail;refine(ZA M A _ f[i].2 f[i].1 t h bd D S au Z V s P ae bs aa c Q L G).mono ?_;rintro e aK C;obtain⟨ai,N,U⟩:=Y.stepped I i q C;subst ai;change Hid _ at N U;clear C;go_wp2;go_ret;exact⟨rfl,N,B.trans U iL⟩
  .rw [m] at y;clear m;go_wp2;go_ret;exact⟨rfl,p.idle (k0.trans (S':=λ_=>False) kD iL)⟩
theorem Z6(M:za)(C:zL M)(P:qx M)(B:jp M)(A:yU M)(z:x8 M)(y:qr M)(u:∀f,M.Fu f->f≠0):Yq M [1,2,5,6,3,4]:=by
 intro w e q t o v d n h c x;obtain⟨g,l,i,F,s,a,b,r,j,m,vs,p⟩:=v;simp only [aq,eY,or_false] at c;rcases c with c|c|c|c|c|c;.exact Zo M C u w e q t g l i F s a b r j m vs p d n o _ h (λk c=>c) c (x c)
 .exact XU M P w e q t g l i F s a b r j m vs p d n o _ h (λk c=>c) c
 .exact XV M B w e q t g l i F s a b r j m vs p d n o _ h (λk c=>c) c
 .exact Vg M A w e q t g l i F s a b r j m vs p d n o _ h (λk c=>c) c
 .exact Jk M z w e q t g l i F s a b r j m vs p d n o _ h (λk c=>c) c
 .exact Kv M y w e q t g l i F s a b r j m vs p d n o _ h (λk c=>c) c
theorem Kw(M:za)(q:zL M)(P:qx M)(o:jp M)(A:yU M)(n:x8 M)(m:qr M)(g:∀f,M.Fu f->f≠0)(w:World)(Q:Nat->Prop)(i:∀k,Q k->k<w.heap.size)(a:Option Addr)(cap:Nat)(b:List yC)(h:jQ w Q a b)(d:b.length<=1256584717449):
 Calls Tryz.prog 4 #[.slice a b.length cap] w λe w'=>e=.returned (.bool true)/\Kept (λ_=>False) w w':=by
 have l:Hid _:=h;have j:Hid _:=Z6 M q P o A n m g;change Hid _ at i;clear h;go_enter Tryz.func4,Tryz.ntmps4;go_wp2_with fail;refine(dE M _ Q (λk c=>by have:=i.out k c;simp;omega) a cap b (l.kept (Kept.alloc (λ_=>False) w _) nF) d w.heap.size 6 [1,2,5,6,3,4] ⟨heap_alloc_new w _⟩ (by decide) (by decide) j).mono ?_;rintro e p ⟨rfl,c⟩;change Hid _ at c;go_wp2;go_ret;exact⟨rfl,(Kept.alloc _ w _).trans c iL⟩
end law
end Go.Proofs.YtcoengihaobddaaGreatDoor
