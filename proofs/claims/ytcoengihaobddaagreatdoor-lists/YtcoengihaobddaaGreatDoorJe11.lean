/- Part 11 of 50 of a proof: Ref4, Book1, Book2, Book3, Book4 -/
import Derived.Test.YtcoengihaobddaaGreatDoorJe10
set_option maxHeartbeats 8000000
set_option linter.unusedVariables false
set_option linter.unusedSimpArgs false
set_option maxRecDepth 8000
namespace Go.Proofs.YtcoengihaobddaaGreatDoor
namespace ref
open Go.ChangeShapes Go.WideShapes Go.ChangeAt Go.RowKit disk
open keys (zg zd zq zl zh bN xM)
attribute [local go_sem ↓] Go.wp_at_zero Go.wp_at_succ
variable {w:World}{cs:List (List Value)}{vs:List zw}{F G:Nat->Prop}{b cap:Nat}{last:Int}{a:Option Addr}
theorem xD.one{P:Nat->Prop}(h:xD w P cs vs):∀u∈cs.flatten,u.oneCell'=true:=λu b=>by
 obtain⟨c,f,b⟩:=ii.1 b;obtain⟨i,d,rfl⟩:=ei f;obtain⟨a,cap,e,_⟩:=(h.each i d (by rw [<-h.len];exact d)).at_;rw [e] at b;simp only [aq,eY,or_false] at b;rcases b with rfl|rfl|rfl|rfl<;>rfl
theorem ys.copied{f:World}(h:ys w F G b vs last a cap cs)(d:Option Addr)(g:Nat)
 (j:f.ownsRow 0 123 4 (.slice d vs.length g) vs.length cs.flatten) (i:(w.alloc (.cells #[.slice none 0 0,.int .i64 last] 164)).drew.grownBy f none)
 (n:(Value.slice d vs.length g).ownBlock=none\/(Value.slice d vs.length g).ownBlock=some (w.heap.size+1)) (m:f.heap[w.heap.size]? =some (.cells #[.slice none 0 0,.int .i64 last] 164)):
 qo (f.setCell ⟨w.heap.size,0,none⟩ (.slice d vs.length g)) (λk=>w.heap.size<=k) G w.heap.size vs last/\Kept (λ_=>False) w (f.setCell ⟨w.heap.size,0,none⟩ (.slice d vs.length g)):=by
 have l:∀k,(Value.slice d vs.length g).ownBlock=some k->k=w.heap.size+1:=λk c=>by rcases n with e|e<;>rw [e] at c<;>simp at c;omega
 have k1:Kept (λ_=>False) w f:=((Kept.alloc _ w _).trans (Kept.drew _ _) iL).trans (Kept.grown (S:=λ_=>False) i (λk c=>by cases c)) iL;have k2:=Kept.setCell (S:=λk=>k=w.heap.size) f ⟨w.heap.size,0,none⟩ (.slice d vs.length g) rfl;have k3:=k1.trans k2 (λk c=>.inr (by omega));refine⟨⟨d,g,cs,?_,?_,h.tells.kept k3 nF,aC _,λk c=>?_,λc=>?_⟩,k3⟩;.rw [heap_setCell_same f w.heap.size 0 _ _ _ m];rfl
 .exact k2.owns j (λk c e=>by have:=l k c;omega)
 .show w.heap.size<=k;have:=l k c;omega
 .have:=l _ c;omega
theorem cT(w:World)(F G:Nat->Prop)(b:Nat)(vs:List zw)(last:Int)(h:qo w F G b vs last)(t:vs.length<=2199023255552):
 Calls Tryz.prog 94 #[.pointer (some ⟨b,0,none⟩)] w λe w'=>e=.returned (.pointer (some ⟨w.heap.size,0,none⟩))/\qo w' (λk=>w.heap.size<=k) G w.heap.size vs last/\Kept (λ_=>False) w w':=by
 obtain⟨a,cap,cs,h⟩:=h;have y:=h.c0;have z:=h.c1;have A:=h.lt;have p:Hid _:=h;obtain⟨i,o,m,n,l⟩:=qU Tryz.infoKept;have g:Hid (Tryz.prog.info? 123=some i/\i.zero=some (.agg #[.string ByteArray.empty,.int .i64 0,.bool false,.slice none 0 0])/\i.size=4/\i.bytes=56):=⟨o,m,n,l⟩;clear o m n l h
 have r:Hid (ys (w.alloc (.cells #[.slice none 0 0,.int .i64 last] 164)).drew F G b vs last a cap cs):=
  p.kept ((Kept.alloc (λ_=>False) w _).trans (Kept.drew _ _) iL) nF nF
 go_enter Tryz.func94,Tryz.ntmps94;go_wp2
 go_region_law ((refine ve rfl (.tmp 14) (.tmp 18) 162 rfl 123 i _ 4 56 Tryz.underlying162 g.1 g.2.1 g.2.2.1 g.2.2.2 rfl (by omega) _ vs.length cs.flatten (by rfl) (by rfl) (by exact r.row) p.tells.one (by unfold maxLen;omega) (by omega) ?_;intro u x q d c j;have f:q.heap[w.heap.size]? =some (.cells #[.slice none 0 0,.int .i64 last] 164):=(c.block w.heap.size (by simp) (by simp)).trans (heap_alloc_new w _);have v:=ak q w.heap.size 0 _ _ _ f;have s:=aa q w.heap.size 0 _ _ f;change Hid _ at c d j f))
 all_goals
  go_wp2;go_ret;exact⟨rfl,p.copied u x d c (by have:=j.out;simpa using this) f⟩
theorem ys.added{f j:World}(h:ys w F G b vs last a cap cs)(C:∀k,F k->¬G k)(v:zw)
 (d:Option Addr) (i:Nat) (n:f.ownsRow 0 5 1 (.slice d v.body.length i) v.body.length (v.body.map qk)) (D:w.grownBy f none)
 (x:(Value.slice d v.body.length i).ownBlock=none\/(Value.slice d v.body.length i).ownBlock=some w.heap.size)
 (J:Obj) (g l:Nat) (q:j.ownsRow 0 123 4 (.slice (some ⟨g,0,none⟩) (vs.length+1) l) (vs.length+1) (cs.flatten++[.string v.key,.int .i64 v.num,.bool v.mark,.slice d v.body.length i]))
 (A:(f.alloc J).grownBy j (Value.slice a vs.length cap).ownBlock) (m:(Value.slice a vs.length cap).ownBlock=some g\/g=f.heap.size+1):
 ys (j.setCell ⟨b,0,none⟩ (.slice (some ⟨g,0,none⟩) (vs.length+1) l)) (λk=>F k\/w.heap.size<=k) (λk=>G k\/w.heap.size<=k) b (vs++[v]) last (some ⟨g,0,none⟩) l (cs++[[.string v.key,.int .i64 v.num,.bool v.mark,.slice d v.body.length i]])/\
  Kept F w (j.setCell ⟨b,0,none⟩ (.slice (some ⟨g,0,none⟩) (vs.length+1) l)):=by
 have H:=h.lt;have k1:Kept (λ_=>False) w f:=Kept.grown D (λk c=>by cases c);have k2:Kept (λ_=>False) f (f.alloc J):=Kept.alloc _ _ _;have k3:=Kept.grown A (λk c=>c);have s:=(k2.mono fE).trans k3 iL;have t:=(k1.mono fE).trans s iL;have z:=Kept.setCell (S:=λk=>k=b) j ⟨b,0,none⟩ (.slice (some ⟨g,0,none⟩) (vs.length+1) l) rfl;have r:=(t.mono (λk c=>h.foot2 k c)).trans z (λk c=>.inl (by rw [c];exact h.foot));have o:(vs++[v]).length=vs.length+1:=by simp
 have B:g≠b:=by
  have:=k1.size;rcases m with e|e;.exact λI=>h.apart (by rw [e,I])
  .omega
 have u:∀k,(Value.slice d v.body.length i).ownBlock=some k->k=w.heap.size:=λk c=>by rcases x with e|e<;>rw [e] at c<;>simp at c;omega
 refine⟨⟨?_,?_,?_,.inl h.foot,?_,?_⟩,r⟩
 .rw [o];have e:=(t.block b H (λe=>h.apart e)).trans h.head;rw [heap_setCell_same j b 0 _ _ _ e];rfl
 .rw [o];have:=z.owns q (λk c e=>by simp [Value.ownBlock] at c;omega);simpa using this
 .refine xD.snoc ((h.tells.kept r (λk c E=>C k E c)).mono (λk c _=>.inl c)) ⟨d,i,rfl,?_⟩
  have y:=s.owns n (λk c e=>by
   have L:=u k c;have K:=(h.row.lt k e).2
   omega)
  have p:=z.owns y (λk c e=>by have:=u k c;omega);exact zu.of_own 5 p rfl _ (λk c=>.inr (by rw [u k c];exact aC _))
 .intro k c;rw [o] at c;simp [Value.ownBlock] at c;subst c;rcases m with e|e;.exact .inl (h.foot2 _ e)
  .exact .inr (by have:=k1.size;omega)
 .rw [o];simp [Value.ownBlock];exact B
theorem ys.told(h:ys w F G b vs last a cap cs)(n:Int)(f:∀k,G k->k<w.heap.size->k≠b):
 ys (w.setCell ⟨b,1,none⟩ (.int .i64 n)) F G b vs n a cap cs:=by
 have d:=Kept.setCell (S:=λk=>k=b) w ⟨b,1,none⟩ (.int .i64 n) rfl;refine⟨?_,d.owns h.row (λk g e=>h.apart (by rw [g,e])),?_,h.foot,h.foot2,h.apart⟩;.rw [heap_setCell_same w b 1 _ _ _ h.head];rfl
 .have l:=h.tells.mono (Q:=λk=>G k/\k<w.heap.size) (λi c j=>⟨c,j⟩);exact(l.kept d (λi c e=>f i c.1 c.2 e)).mono (λi c _=>c.1)
theorem QZ(w:World)(F G P:Nat->Prop)(b:Nat)(vs:List zw)(last:Int)(h:qo w F G b vs last)(E:∀k,F k->¬G k)(U:vs.length<=2199023255552)(t:ByteArray)(n:Int)(f:Bool)
 (H:Option Addr) (K:Nat) (l:List UInt8) (y:zu w P H l) (X:l.length<=140737488355328):
 Calls Tryz.prog 95 #[.pointer (some ⟨b,0,none⟩),.string t,.int .i64 n,.bool f,.slice H l.length K] w λe w'=>e=.returned (.tuple #[])/\
  qo w' (λk=>F k\/w.heap.size<=k) (λk=>G k\/w.heap.size<=k) b (vs++[⟨t,n,f,l⟩]) (max last n)/\Kept F w w':=by
 obtain⟨a,cap,cs,h⟩:=h;have Z:=h.lt;have T:Hid _:=y;obtain⟨B,q,i,m,o⟩:=qU Tryz.infoKept;have v:Hid (Tryz.prog.info? 123=some B/\B.zero=some (.agg #[.string ByteArray.empty,.int .i64 0,.bool false,.slice none 0 0])/\B.size=4/\B.bytes=56):=⟨q,i,m,o⟩;clear q i m o;obtain⟨C,q,i,m,o⟩:=qU Tryz.infoU8;have s:Hid (Tryz.prog.info? 5=some C/\C.zero=some (.int .u8 0)/\C.size=1/\C.bytes=1):=⟨q,i,m,o⟩;change Hid _ at h;clear q i m o y;go_enter Tryz.func95,Tryz.ntmps95
 go_wp2_with (first
  |(refine xk P rfl (.tmp 11) (.tmp 12) 35 rfl 5 C _ Tryz.underlying35 s.1 s.2.1 s.2.2.1 s.2.2.2 rfl H K l (by rfl) (by rfl) (by exact T) X ?_;intro L J D u d A;have p:Hid _:=h.kept (Kept.grown (S:=λ_=>False) d (λk j=>by cases j)) nF nF;have aa:=p.c0;have ab:=p.fz 0;have Y:=p.lt;change Hid _ at u d A)
  |(refine wpList_append_lies _ rfl (.tmp 18) (.tmp 24) 162 rfl 0 123 B _ 4 56 Tryz.underlying162 v.1 v.2.1 v.2.2.1 v.2.2.2 rfl (by omega) (.slice a vs.length cap) vs.length cs.flatten (by rfl) (by exact p.row.alloc _) ⟨D.heap.size,0,none⟩ 1 1 [.string t,.int .i64 n,.bool f,.slice L l.length J] (by rfl) (by rfl) (by exact World.news_of_block (heap_alloc_new D _)) (by simp [Value.oneCell']) (by omega) (by unfold maxLen;omega) (by omega) (ai _) (D.heap.size+1) (by simp) ?_;intro g V I r c z Q;have x:Hid _:=ys.added h E ⟨t,n,f,l⟩ L J u d A _ g V r c z;have W:I.cell? ⟨b,0,none⟩=some (.slice a vs.length cap):=(c.cell_far ⟨b,0,none⟩ (by simp;omega) (λe=>p.apart e.symm)).trans (by simpa using p.kept (Kept.alloc (λ_=>False) D _) nF nF |>.c0);have O:I.frozen? ⟨b,0,none⟩=false:=(c.frozen_far ⟨b,0,none⟩ (by simp;omega) (λe=>p.apart e.symm)).trans (by simpa using p.kept (Kept.alloc (λ_=>False) D _) nF nF |>.fz 0);have R:=x.1.c1;have M:=x.1.fz 1;clear r c z))
 .go_end0;have y:F b:=h.foot
  have N:=x.1.told n (λk j _ e=>by
   subst e;rcases j with j|j;.exact E _ y j
   .omega)
  exact⟨rfl,⟨_,_,_,by rw [show max last n=n from by omega];exact N⟩,x.2.trans (Kept.setCell (S:=λk=>k=b) _ ⟨b,1,none⟩ _ rfl) (λk j=>.inl (by rw [j];exact y))⟩
 .go_end0;exact⟨rfl,⟨_,_,_,by rw [show max last n=last from by omega];exact x.1⟩,x.2⟩
theorem Q0(vs:List zw)(k:Nat)(h:k<vs.length)(a:ByteArray)(n:Int):
 qF (vs.take (k+1)) a n=if vs[k].key=a/\vs[k].num=n then qF (vs.take k) a n else qF (vs.take k) a n++[vs[k]]:=by
 unfold qF;rw [ar h,lK];by_cases b:vs[k].key=a/\vs[k].num=n;.rw [aB b];simp [b.1,b.2]
 .rw [az b]
  have:(!(decide (vs[k].key=a)&&decide (vs[k].num=n)))=true:=by rw [ij,iM];simp only [ne_eq,aS,aO];exact b
  rw [hE,aB this];rfl
theorem Xy(vs:List zw)(k:Nat)(a:ByteArray)(n:Int):(qF (vs.take k) a n).length<=vs.length:=by
 unfold qF;exact aF (ir _ _) (by rw [ay];omega)
structure cU (w wr:World) (F G:Nat->Prop) (b:Nat) (vs:List zw) (last:Int) (a:Option Addr) (cap:Nat) (cs:List (List Value)) (us:List zw) (x:Value):Prop where
 ref:ys wr F G b vs last a cap cs
 kept:Kept (λ_=>False) w wr
 row:∃a' cap' ds,x=.slice a' us.length cap'/\wr.ownsRow 0 123 4 (.slice a' us.length cap') us.length ds.flatten/\xD wr G ds us/\∀k,(Value.slice a' us.length cap').ownBlock=some k->w.heap.size<=k
theorem cU.pushed{wr l:World}{us:List zw}{t:Option Addr}{f:Nat}{u:List (List Value)}
 (s:ys wr F G b vs last a cap cs) (h:Kept (λ_=>False) w wr) (i:xD wr G u us) (j:∀k,(Value.slice t us.length f).ownBlock=some k->w.heap.size<=k)
 (r:∀k,G k->k<w.heap.size) (hF:∀k,F k->k<w.heap.size) (v:zw) (m:Option Addr) (d:Nat) (z:zu wr G m v.body) (A:Obj) (g o:Nat)
 (p:l.ownsRow 0 123 4 (.slice (some ⟨g,0,none⟩) (us.length+1) o) (us.length+1) (u.flatten++[.string v.key,.int .i64 v.num,.bool v.mark,.slice m v.body.length d]))
 (n:(wr.alloc A).grownBy l (Value.slice t us.length f).ownBlock) (y:(Value.slice t us.length f).ownBlock=some g\/g=wr.heap.size+1):
 cU w l F G b vs last a cap cs (us++[v]) (.slice (some ⟨g,0,none⟩) (us.length+1) o):=by
 have k2:Kept (λk=>w.heap.size<=k) wr l:=((Kept.alloc _ wr A).trans (Kept.grown (S:=λk=>w.heap.size<=k) n (λk c=>j k c)) iL);have q:(us++[v]).length=us.length+1:=by simp
 refine⟨s.kept k2 (λk c x=>by have:=hF k c;omega) (λk c x=>by have:=r k c;omega),h.trans k2 (λk c=>.inr c),some ⟨g,0,none⟩,o,u++[[.string v.key,.int .i64 v.num,.bool v.mark,.slice m v.body.length d]],by rw [q],?_,?_,?_⟩;.rw [q];simpa using p
 .exact(i.kept k2 (λk c x=>by have:=r k c;omega)).snoc ⟨m,d,rfl,z.kept k2 (λk c x=>by have:=r k c;omega)⟩
 .intro k c;rw [q] at c;simp [Value.ownBlock] at c;subst c;rcases y with e|e;.exact j _ e
  .have:=h.size;omega
theorem cU.done{wr:World}{us:List zw}{o:List (List Value)}{h:Option Addr}{c:Nat}
 (j:ys wr F G b vs last a cap cs) (l:Kept (λ_=>False) w wr) (m:wr.ownsRow 0 123 4 (.slice h us.length c) us.length o.flatten) (i:xD wr G o us)
 (f:∀k,(Value.slice h us.length c).ownBlock=some k->w.heap.size<=k) (p:∀k,F k->¬G k) (hF:∀k,F k->k<w.heap.size):
 qo (wr.setCell ⟨b,0,none⟩ (.slice h us.length c)) (λk=>F k\/w.heap.size<=k) G b us last/\Kept F w (wr.setCell ⟨b,0,none⟩ (.slice h us.length c)):=by
 have n:=Kept.setCell (S:=λk=>k=b) wr ⟨b,0,none⟩ (.slice h us.length c) rfl;have g:=j.foot;have q:=hF b g;refine⟨⟨h,c,o,?_,n.owns m (λk d e=>by have:=f k d;omega),i.kept n (λk d e=>p b g (by rw [<-e];exact d)),.inl g,λk d=>.inr (f k d),λd=>by have:=f _ d;omega⟩,?_⟩;.rw [heap_setCell_same wr b 0 _ _ _ j.head];rfl
 .exact(l.mono fE).trans n (λk d=>.inl (by rw [d];exact g))
theorem J4(w:World)(F G:Nat->Prop)(b:Nat)(vs:List zw)(last:Int)(h:qo w F G b vs last)(S:∀k,F k->¬G k)(hF:∀k,F k->k<w.heap.size)(V:∀k,G k->k<w.heap.size)(X:vs.length<=2199023255552)(j:ByteArray)(n:Int):
 Calls Tryz.prog 102 #[.pointer (some ⟨b,0,none⟩),.string j,.int .i64 n] w λe w'=>e=.returned (.tuple #[])/\
  qo w' (λk=>F k\/w.heap.size<=k) G b (qF vs j n) last/\Kept F w w':=by
 obtain⟨a,cap,cs,h⟩:=h;have aa:Hid _:=h;obtain⟨y,I,D,E,H⟩:=qU Tryz.infoKept;have p:Hid (Tryz.prog.info? 123=some y/\y.zero=some (.agg #[.string ByteArray.empty,.int .i64 0,.bool false,.slice none 0 0])/\y.size=4/\y.bytes=56):=⟨I,D,E,H⟩;clear I D E H;clear h;go_enter Tryz.func102,Tryz.ntmps102;go_wp2;go_loopw [6,7] (λah i wr=>∃k:Nat,k<=vs.length/\i=.int .i64 k/\cU w wr F G b vs last a cap cs (qF (vs.take k) j n) ah) (λ_ i _=>vs.length-(intOf i).toNat)
 case atStart=>exact⟨0,ai _,rfl,aa,Kept.refl _ _,none,0,[],rfl,aP w 0 123 4,xD.nil _ _,λk R=>by cases R⟩
 case round=>
  obtain⟨k,R,rfl,J⟩:=hrel;obtain⟨c,m,M,u,N,rfl,s,d,r⟩:=J;have ab:=c.c0;have ad:=c.fz 0;change Hid _ at c m s d r;by_cases z:k<vs.length
  .have P:Hid _:=Q0 vs k z j n;have ac:=Xy vs k j n;generalize x:qF (vs.take k) j n=us at*;clear x;obtain⟨g,rfl⟩:=c.rowAt (by omega);obtain⟨ag,aj,af,C,t,ak,B⟩:=c.cells k z;change Hid _ at B;by_cases v:vs[k].key.toList=j.toList
   .by_cases o:vs[k].num=n
    .have U:(vs[k].num !=n)=false:=by simpa using o
     have A:Hid _:=o;clear o;have T:Hid _:=yr.1 v;go_wp2;go_roundw
     case rel=>exact⟨k+1,by omega,by go_num,by rw [P.out,aB ⟨T.out,A.out⟩];exact⟨c,m,M,u,N,rfl,s,d,r⟩⟩
     case measure=>simp [intOf];omega
    .have U:(vs[k].num !=n)=true:=by simpa using o
     have A:Hid _:=o;clear o;go_wp2_with (refine wpList_append_lies _ rfl (.tmp 39) (.tmp 47) 162 rfl 0 123 y _ 4 56 Tryz.underlying162 p.1 p.2.1 p.2.2.1 p.2.2.2 rfl (by omega) (.slice M us.length u) us.length N.flatten (by rfl) (by exact World.ownsRow.alloc s _) ⟨wr.heap.size,0,none⟩ 1 1 [.string vs[k].key,.int .i64 vs[k].num,.bool vs[k].mark,.slice C vs[k].body.length t] (by rfl) (by rfl) (by exact World.news_of_block (heap_alloc_new wr _)) (by simp [Value.oneCell']) (by omega) (by unfold maxLen;omega) (by omega) (ai _) (wr.heap.size+1) (by simp) ?_;intro L O W l f q K;have Q:Hid _:=cU.pushed c m d r V hF vs[k] C t B _ L O l f q;clear l f q);go_roundw
     case rel=>exact⟨k+1,by omega,by go_num,by rw [P.out,az (λh=>A.out h.2)];exact Q⟩
     case measure=>simp [intOf];omega
   .have ae:(vs[k].key.toList !=j.toList)=true:=by simpa using v
    go_wp2_with (refine wpList_append_lies _ rfl (.tmp 39) (.tmp 47) 162 rfl 0 123 y _ 4 56 Tryz.underlying162 p.1 p.2.1 p.2.2.1 p.2.2.2 rfl (by omega) (.slice M us.length u) us.length N.flatten (by rfl) (by exact World.ownsRow.alloc s _) ⟨wr.heap.size,0,none⟩ 1 1 [.string vs[k].key,.int .i64 vs[k].num,.bool vs[k].mark,.slice C vs[k].body.length t] (by rfl) (by rfl) (by exact World.news_of_block (heap_alloc_new wr _)) (by simp [Value.oneCell']) (by omega) (by unfold maxLen;omega) (by omega) (ai _) (wr.heap.size+1) (by simp) ?_;intro L O W l f q K;have Q:Hid _:=cU.pushed c m d r V hF vs[k] C t B _ L O l f q;clear l f q);go_roundw
    case rel=>exact⟨k+1,by omega,by go_num,by rw [P.out,az (λh=>v (yr.2 h.1))];exact Q⟩
    case measure=>simp [intOf];omega
  .have e:vs.take k=vs:=ao (by omega);have A:Hid _:=e;clear e;generalize x:qF (vs.take k) j n=us at*;have Z:Hid _:=x;clear x;go_wp2;go_end0;have Y:qF vs j n=us:=by rw [<-Z.out,A.out]
   rw [Y];exact⟨rfl,cU.done c m s d r S hF⟩
end ref
namespace book
open Go.ChangeShapes Go.WideShapes Go.ChangeAt Go.RowKit disk ref
open keys (zg zd zq zl)
variable {w w':World}{P T F:Nat->Prop}{t:TypeId}{a:Option Addr}{n g cap bp:Nat}{z b v l:Value}{ss:List (Option Addr×Nat×Nat)}{m:Nat->Int}{xs:List Value}
def gj(i d:Nat):Int:=((i/251^d%251:Nat):Int)
theorem Ua(w:World)(i a:Nat)(d:i<=9223372036854775807)(g:a<=2):
 Calls Tryz.prog 112 #[.int .i64 i,.int .i64 a] w λe w'=>e=.returned (.int .u8 (gj i a))/\w'=w:=by
 go_enter Tryz.func112,Tryz.ntmps112;go_wp2;go_loop [0,5] (λj t=>∃k:Nat,k<=a/\t=.int .i64 k/\j=.int .i64 ((i/251^k:Nat):Int)) (λ_ t=>a-(intOf t).toNat)
 case atStart=>exact⟨0,ai _,rfl,by simp⟩
 case round=>
  obtain⟨k,h,rfl,rfl⟩:=hrel;have l:i/251^k<=9223372036854775807:=aF (Nat.div_le_self _ _) d;by_cases f:k<a
  .have c:i/251^(k+1)=i/251^k/251:=by rw [me,mw]
   generalize i/251^k=q at*;change Hid _ at c;go_wp2;go_round
   case rel=>exact⟨k+1,by omega,by go_num,by rw [c.out];go_num⟩
   case measure=>simp [intOf];omega
  .have e:k=a:=by omega
   have b:gj i a=((i/251^k%251:Nat):Int):=by rw [e];rfl
   change Hid _ at b;clear e;generalize i/251^k=q at*;go_wp2;go_ret;exact⟨zg (by rw [b.out];simp [go_sem];try omega),rfl⟩
theorem uQ(w:World)(i c:Int)(b:0<=i)(f:i<=9223372036854775807)(a:0<=c)(d:c<=2):
 Calls Tryz.prog 112 #[.int .i64 i,.int .i64 c] w λe w'=>e=.returned (.int .u8 (gj i.toNat c.toNat))/\w'=w:=by
 obtain⟨n,rfl⟩:=lE b;obtain⟨m,rfl⟩:=lE a;exact Ua w n m (by omega) (by omega)
def dr(w:World)(P:Nat->Prop)(t:TypeId)(a:Option Addr)(n:Nat):Prop:=
 n=0\/∃b cur,a=some ⟨b,0,none⟩/\P b/\w.heap[b]? =some (.cells cur t (0,0))/\n<=cur.size
def Z1(w:World)(a:Option Addr)(n:Nat)(z:Value):Prop:=∀j,j<n->∀b,a=some ⟨b,0,none⟩->w.cell? ⟨b,j,none⟩=some z
theorem dr.kept(h:dr w P t a n)(k:Kept T w w')(j:∀i,P i->¬T i):dr w' P t a n:=by
 rcases h with h|⟨b,c,g,d,e,f⟩;.exact .inl h
 .exact .inr ⟨b,c,g,d,(k.block b (lT e) (j b d)).trans e,f⟩
theorem dr.set(h:dr w P t a n)(g j:Nat)(v:Value):dr (w.setCell ⟨g,j,none⟩ v) P t a n:=by
 rcases h with h|⟨b,c,i,d,k,f⟩;.exact .inl h
 .by_cases e:b=g
  .subst e;exact .inr ⟨b,_,i,d,heap_setCell_same w b j _ _ _ k,by simpa using f⟩
  .exact .inr ⟨b,c,i,d,(iH w ⟨g,j,none⟩ b v e).trans k,f⟩
theorem Z1.kept(h:Z1 w a n z)(c:dr w P t a n)(k:Kept T w w')(m:∀i,P i->¬T i):Z1 w' a n z:=by
 intro j f b e;rcases c with c|⟨b',o,d,g,l,p⟩;.omega
 .rw [d] at e;cases e;exact(k.cell (a:=⟨b,j,none⟩) (lT l) (m b g)).trans (h j f b d)
theorem zQ{b j k:Nat}{u:Value}(h:w.cell? ⟨b,k,none⟩=some u):(w.setCell ⟨g,j,none⟩ v).cell? ⟨b,k,none⟩=some (if b=g/\k=j then v else u):=by
 by_cases e:b=g/\k=j
 .obtain⟨rfl,rfl⟩:=e;rw [aB ⟨rfl,rfl⟩,World.cell?_setCell_same w _ _ h]
 .rw [az e,World.cell?_setCell_other w _ _ _ (by intro a;simp at a;exact e ⟨a.1.symm,a.2.symm⟩)];exact h
theorem Z1.set(h:Z1 w a n z)(g j:Nat):Z1 (w.setCell ⟨g,j,none⟩ z) a n z:=by
 intro i d b c;rw [zQ (h i d b c)];simp
def dt(s:Option Addr×Nat×Nat):Value:=.slice s.1 s.2.1 s.2.2
structure jz (w:World) (P:Nat->Prop) (g:Nat) (ss:List (Option Addr×Nat×Nat)):Prop where
 head:w.heap[g]? =some (.cells (ss.map dt).toArray 35 (0,0))
 room:∀s∈ss,dr w P 5 s.1 s.2.1
 gP:¬P g
 few:∀s∈ss,s.2.1<=9223372036854775807
 len:ss.length<=100
theorem jz.kept(h:jz w P g ss)(k:Kept T w w')(a:∀i,P i->¬T i)(b:¬T g):jz w' P g ss:=
 ⟨(k.block g (lT h.head) b).trans h.head,λs c=>(h.room s c).kept k a,h.gP,h.few,h.len⟩
theorem jz.set(h:jz w P g ss)(b j:Nat)(v:Value)(c:P b):jz (w.setCell ⟨b,j,none⟩ v) P g ss:=
 ⟨(iH w ⟨b,j,none⟩ g v (λe=>h.gP (by rw [e];exact c))).trans h.head,λs a=>(h.room s a).set b j v,h.gP,h.few,h.len⟩
theorem jz.cell(h:jz w P g ss)(i:Nat)(a:i<ss.length):w.cell? ⟨g,i,none⟩=some (.slice ss[i].1 ss[i].2.1 ss[i].2.2):=by
 rw [ak w g i _ _ _ h.head];simp [a,dt]
def jz.Are(w:World)(ss:List (Option Addr×Nat×Nat))(z:Value):Prop:=∀s∈ss,Z1 w s.1 s.2.1 z
theorem jz.Are.kept(h:jz.Are w ss z)(c:jz w P g ss)(k:Kept T w w')(b:∀i,P i->¬T i):jz.Are w' ss z:=
 λs a=>(h s a).kept (c.room s a) k b
theorem xA(w:World)(P:Nat->Prop)(g cap:Nat)(ss:List (Option Addr×Nat×Nat))(h:jz w P g ss)(z:Int)(N:0<=z)(O:z<=255):
 Calls Tryz.prog 113 #[.slice (some ⟨g,0,none⟩) ss.length cap,.int .u8 z] w λe w'=>e=.returned (.tuple #[])/\jz w' P g ss/\jz.Are w' ss (.int .u8 z)/\Kept P w w':=by
 have I:Hid _:=h;have F:=h.len;clear h;go_enter Tryz.func113,Tryz.ntmps113;go_wp2;go_loopw [4] (λt wr=>∃k:Nat,k<=ss.length/\t=.int .i64 k/\jz wr P g ss/\(∀i (f:i<ss.length),i<k->Z1 wr ss[i].1 ss[i].2.1 (.int .u8 z))/\Kept P w wr) (λt _=>ss.length-(intOf t).toNat)
 case atStart=>exact⟨0,ai _,rfl,I,λ_ _ h=>by omega,Kept.refl _ _⟩
 case round=>
  obtain⟨k,T,rfl,B,D,d⟩:=hrel;change Hid _ at B D d;by_cases l:k<ss.length
  .go_wp2;go_loopw [5] (λt r=>∃m:Nat,m<=ss[k].2.1/\t=.int .i64 m/\jz r P g ss/\(∀i (f:i<ss.length),i<k->Z1 r ss[i].1 ss[i].2.1 (.int .u8 z))/\Z1 r ss[k].1 m (.int .u8 z)/\Kept P w r) (λt _=>ss[k].2.1-(intOf t).toNat)
   case atStart=>exact⟨0,ai _,rfl,B,D,λj J=>by omega,d⟩
   case round=>
    obtain⟨m,W,rfl,c,p,n,a⟩:=hrel;have L:=c.cell k l;have K:=c.few ss[k] (ag l);change Hid _ at c p n a;by_cases H:m<ss[k].2.1
    .have u:=c.room ss[k] (ag l);rcases u with R|⟨b,o,y,x,C,V⟩;.omega
     .have E:wr.cell? ⟨b,m,none⟩=some o[m]:=by rw [ak wr b m _ _ _ C];simp
      have M:=aa wr b m _ _ C;rw [y] at L;have Q:m<o.size:=by omega
      change Hid _ at y x;clear C;generalize o[m]=U at*;go_wp2;go_roundw
      case rel=>
       refine⟨m+1,by omega,by go_num,c.set b m _ x,λi f v=>(p i f v).set b m,?_,a.trans (Kept.setCell (S:=P) _ ⟨b,m,none⟩ _ x) iL⟩;intro j J b' q;have e:b'=b:=by have:=y.out;rw [this] at q;cases q;rfl
       subst e;by_cases A:j=m;.subst A;rw [zQ E];simp
       .rw [zQ (n.out j (by omega) b' q)];simp
      case measure=>simp [intOf];omega
    .go_wp2;go_roundw
     case rel=>
      refine⟨k+1,by omega,by go_num,c,λi f v=>?_,a⟩;by_cases e:i=k
      .subst e;have A:m=ss[i].2.1:=by omega
       rw [<-A];exact n.out
      .exact p i f (by omega)
     case measure=>simp [intOf];omega
  .go_wp2;go_end0;refine⟨rfl,B,λs G=>?_,d⟩;obtain⟨i,f,rfl⟩:=ei G;exact D i f (by omega)
theorem ya(w:World)(P:Nat->Prop)(g cap:Nat)(ss:List (Option Addr×Nat×Nat))(h:jz w P g ss)(z:Int)(i:jz.Are w ss (.int .u8 z)):
 Calls Tryz.prog 111 #[.slice (some ⟨g,0,none⟩) ss.length cap,.int .u8 z] w λe w'=>e=.returned (.bool true)/\w'=w:=by
 have n:=h.len;change Hid _ at h i;go_enter Tryz.func111,Tryz.ntmps111;go_wp2;go_loop [5] (λt=>∃k:Nat,k<=ss.length/\t=.int .i64 k) (λt=>ss.length-(intOf t).toNat)
 case atStart=>exact⟨0,ai _,rfl⟩
 case round=>
  obtain⟨k,v,rfl⟩:=hrel;by_cases a:k<ss.length
  .have p:=h.cell k a;have o:=h.few ss[k] (ag a);go_wp2;go_loop [6] (λt=>∃m:Nat,m<=ss[k].2.1/\t=.int .i64 m) (λt=>ss[k].2.1-(intOf t).toNat)
   case atStart=>exact⟨0,ai _,rfl⟩
   case round=>
    obtain⟨m,u,rfl⟩:=hrel;by_cases d:m<ss[k].2.1
    .have c:=h.room ss[k] (ag a);rcases c with s|⟨b,q,f,j,l,x⟩;.omega
     .have r:=i.out ss[k] (ag a) m d b f;rw [f] at p;clear f j l;go_wp2;go_round
      case rel=>exact⟨m+1,by omega,by go_num⟩
      case measure=>simp [intOf];omega
    .go_wp2;go_round
     case rel=>exact⟨k+1,by omega,by go_num⟩
     case measure=>simp [intOf];omega
  .go_wp2;go_ret;exact⟨rfl,rfl⟩
structure js where
 g:Nat
 ss:List (Option Addr×Nat×Nat)
 P:Nat->Prop
def js.val(e:js):Value:=.slice (some ⟨e.g,0,none⟩) e.ss.length 4
structure jg (w:World) (F:Nat->Prop) (v:Value) (es:List js) (m:Nat->Int):Prop where
 row:w.ownsRow 0 179 1 v es.length (es.map js.val)
 lets:∀i (hi:i<es.length),jz w es[i].P es[i].g es[i].ss
 are:∀i (hi:i<es.length),jz.Are w es[i].ss (.int .u8 (m i))
 apart:∀i j (hi:i<es.length) (hj:j<es.length),i≠j->∀k,es[i].P k->¬es[j].P k/\k≠es[j].g
 row2:∀i (hi:i<es.length) k,es[i].P k->v.ownBlock≠some k
 foot:∀i (hi:i<es.length),F es[i].g/\∀k,es[i].P k->F k
 foot2:∀k,v.ownBlock=some k->F k
theorem jg.kept{d:List js}(h:jg w F v d m)(k:Kept T w w')(b:∀i,F i->¬T i):jg w' F v d m:=
 ⟨k.owns h.row (λi a=>b i (h.foot2 i a)),λi a=>(h.lets i a).kept k (λj c=>b j ((h.foot i a).2 j c)) (b _ (h.foot i a).1),
  λi a=>(h.are i a).kept (h.lets i a) k (λj c=>b j ((h.foot i a).2 j c)),h.apart,h.row2,h.foot,h.foot2⟩
theorem jg.cell{a:List js}(h:jg w F (.slice (some ⟨g,0,none⟩) a.length cap) a m)(i:Nat)(b:i<a.length):w.cell? ⟨g,i,none⟩=some (.slice (some ⟨a[i].g,0,none⟩) a[i].ss.length 4):=by
 have:=h.row.cells (g:=g) rfl i a[i].val (by simp [b]);rw [eO] at this;simpa [js.val] using this
theorem jg.rowAt{b:List js}(h:jg w F (.slice a b.length cap) b m)(j:0<b.length):∃g,a=some ⟨g,0,none⟩:=by
 rcases h.row.2 with⟨i,f⟩|⟨g,d,e,c,_⟩;.omega
 .cases c;exact⟨g,rfl⟩
theorem jg.wrote{b:List js}(h:jg w F v b m)(i:Nat)(d:i<b.length)(z:Int)(p:jz w' b[i].P b[i].g b[i].ss)(q:jz.Are w' b[i].ss (.int .u8 z))(k:Kept b[i].P w w')
 (f:Nat->Int) (n:f i=z) (l:∀j,j≠i->f j=m j):jg w' F v b f:=by
 refine⟨k.owns h.row (λj a c=>h.row2 i d j c a),λj a=>?_,λj a=>?_,h.apart,h.row2,h.foot,h.foot2⟩
 .by_cases e:j=i;.subst e;exact p
  .exact(h.lets j a).kept k (λo g c=>(h.apart i j d a (iK e) o c).1 g) (λc=>(h.apart i j d a (iK e) _ c).2 rfl)
 .by_cases e:j=i;.subst e;rw [n];exact q
  .rw [l j e];exact(h.are j a).kept (h.lets j a) k (λo g c=>(h.apart i j d a (iK e) o c).1 g)
structure yG (w:World) (bp:Nat) (l a b:Value):Prop where
 head:w.heap[bp]? =some (.cells #[l,a,b] 79 (0,0))
theorem yG.c{a:Value}(h:yG w bp l a b):w.cell? ⟨bp,0,none⟩=some l/\w.cell? ⟨bp,1,none⟩=some a/\w.cell? ⟨bp,2,none⟩=some b/\∀i,w.frozen? ⟨bp,i,none⟩=false:=
 ⟨cR h.head rfl,cR h.head rfl,cR h.head rfl,λi=>aa w bp i _ _ h.head⟩
theorem yG.lt{a:Value}(h:yG w bp l a b):bp<w.heap.size:=(lT h.head)
theorem yG.kept{a:Value}(h:yG w bp l a b)(k:Kept T w w')(c:¬T bp):yG w' bp l a b:=⟨(k.block bp h.lt c).trans h.head⟩
theorem jg.marks{a:List js}{c:Nat->Int}(h:jg w F v a m)(d:∀i,i<a.length->m i=c i):jg w F v a c:=
 ⟨h.row,h.lets,λi b=>by rw [<-d i b];exact h.are i b,h.apart,h.row2,h.foot,h.foot2⟩
theorem Q1(i a:Nat):0<=gj i a/\gj i a<=255:=by
 unfold gj;have:=mQ (i/251^a) (show 0<251 by omega);omega
theorem cV(w:World)(bp:Nat)(l b:Value)(F:Nat->Prop)(a:Option Addr)(cap:Nat)(c:List js)(f:yG w bp l (.slice a c.length cap) b)(hF:¬F bp)(h:jg w F (.slice a c.length cap) c (λi=>gj i 0))(O:c.length<=4398046511104):
 Calls Tryz.prog 64 #[.pointer (some ⟨bp,1,none⟩)] w λe w'=>e=.returned (.bool true)/\jg w' F (.slice a c.length cap) c (λi=>gj i 0)/\Kept F w w':=by
 have P:Hid _:=h;have Q:Hid _:=f;clear h f;go_enter Tryz.func64,Tryz.ntmps64;go_wp2;go_loopw [3] (λt wr=>∃k:Nat,k<=c.length/\t=.int .i64 k/\jg wr F (.slice a c.length cap) c (λi=>gj i 0)/\yG wr bp l (.slice a c.length cap) b/\Kept F w wr) (λt _=>c.length-(intOf t).toNat)
 case atStart=>exact⟨0,ai _,rfl,P,Q,Kept.refl _ _⟩
 case round=>
  obtain⟨k,W,rfl,n,f,d⟩:=hrel;have u:Hid _:=n;have H:Hid _:=f;have M:Hid _:=d;have E:=f.c.2.1;clear n f d;by_cases v:k<c.length
  .obtain⟨g,rfl⟩:=u.rowAt (by omega);have I:=u.cell k v;go_wp2
   go_quiet ((first
    |(go_at_call 112;exact Calls.quiet_of_same (uQ _ _ _ (by omega) (by omega) (by omega) (by omega)))
    |(go_at_call 111;exact Calls.quiet_of_same (ya _ c[k].P c[k].g 4 c[k].ss (by exact(u.lets k v).kept (T:=λ_=>False) (kD) nF (λo=>o)) _ (by exact(u.are k v).kept (u.lets k v) (T:=λ_=>False) (kD) nF)))))
   go_wp2;go_roundw
   case rel=>exact⟨k+1,by omega,by go_num,u.kept (T:=λ_=>False) kD nF,H.kept (T:=λ_=>False) kD (λo=>o),M.trans (S':=λ_=>False) kD fE⟩
   case measure=>simp [intOf];omega
  .go_wp2;go_loopw [5] (λt wr=>∃(z:Int) (m:Nat->Int), -1<=z/\z<=2/\t=.int .i64 z/\jg wr F (.slice a c.length cap) c m/\(z= -1->∀i,i<c.length->m i=gj i 0)/\yG wr bp l (.slice a c.length cap) b/\Kept F w wr) (λt _=>(intOf t+1).toNat)
   case atStart=>exact⟨2,_,by omega,by omega,rfl,u,λh=>by omega,H,M⟩
   case round=>
    obtain⟨z,m,S,R,rfl,n,N,f,d⟩:=hrel;have B:Hid _:=n;have L:Hid _:=f;have J:Hid _:=d;change Hid _ at N;clear n f d;by_cases U:0<=z
    .go_wp2;go_loopw [6] (λt wr=>∃(j:Nat),j<=c.length/\t=.int .i64 j/\jg wr F (.slice a c.length cap) c (λi=>if i<j then gj i z.toNat else m i)/\yG wr bp l (.slice a c.length cap) b/\Kept F w wr) (λt _=>c.length-(intOf t).toNat)
     case atStart=>exact⟨0,ai _,rfl,B.marks (λi y=>by simp),L,J⟩
     case round=>
      obtain⟨j,Y,rfl,n,f,d⟩:=hrel;have r:Hid _:=n;have D:Hid _:=f;have C:Hid _:=d;have E:=f.c.2.1;clear n f d;by_cases p:j<c.length
      .obtain⟨g,rfl⟩:=r.rowAt (by omega);have I:=r.cell j p;go_wp2
       go_region_with ((first
        |(go_at_call 112;refine(uQ _ _ _ (by omega) (by omega) (by omega) (by omega)).mono ?_;rintro e w' ⟨rfl,rfl⟩)
        |(go_at_call 113;refine(xA _ c[j].P c[j].g 4 c[j].ss (by exact(r.lets j p).kept (T:=λ_=>False) kD nF (λo=>o)) _ (by exact(Q1 _ _).1) (by exact(Q1 _ _).2)).mono ?_;rintro e V ⟨rfl,G,A,x⟩;change Hid _ at G A x)))
       all_goals
        go_wp2;go_roundw
        case rel=>
         refine⟨j+1,by omega,by go_num,(r.kept (Kept.drew (λ_=>False) wr) nF).wrote j p _ G A x _ (by simp) (λi y=>?_),(D.kept (Kept.drew (λ_=>False) wr) (λo=>o)).kept x (λK=>hF ((r.foot j p).2 _ K)),
          (C.trans (Kept.drew (λ_=>False) wr) fE).trans x (λi K=>.inl ((r.foot j p).2 _ K))⟩
         have e:(i<j+1)=(i<j):=propext (by omega);simp only [e]
        case measure=>simp [intOf];omega
      .go_wp2;go_loopw [7] (λt wr=>∃(q:Nat),q<=c.length/\t=.int .i64 q/\jg wr F (.slice a c.length cap) c (λi=>gj i z.toNat)/\yG wr bp l (.slice a c.length cap) b/\Kept F w wr) (λt _=>c.length-(intOf t).toNat)
       case atStart=>exact⟨0,ai _,rfl,r.marks (λi y=>by rw [aB (by omega)]),D,C⟩
       case round=>
        obtain⟨q,X,rfl,n,f,d⟩:=hrel;have E:=f.c.2.1;change Hid _ at n f d;by_cases s:q<c.length
        .obtain⟨g,rfl⟩:=n.rowAt (by omega);have I:=n.cell q s;go_wp2
         go_quiet ((first
          |(go_at_call 112;exact Calls.quiet_of_same (uQ _ _ _ (by omega) (by omega) (by omega) (by omega)))
          |(go_at_call 111;exact Calls.quiet_of_same (ya _ c[q].P c[q].g 4 c[q].ss (by exact(n.lets q s).kept (T:=λ_=>False) (kD) nF (λo=>o)) _ (by exact(n.are q s).kept (n.lets q s) (T:=λ_=>False) (kD) nF)))))
         go_wp2;go_roundw
         case rel=>exact⟨q+1,by omega,by go_num,n.kept (T:=λ_=>False) kD nF,f.kept (T:=λ_=>False) kD (λo=>o),d.trans (S':=λ_=>False) kD fE⟩
         case measure=>simp [intOf];omega
        .go_wp2;go_roundw
         case rel=>exact⟨z-1,_,by omega,by omega,rfl,n,λh i y=>by rw [show z.toNat=0 from by omega],f,d⟩
         case measure=>simp [intOf];omega
    .go_wp2;go_ret;exact⟨rfl,B.marks (λi y=>N (by omega) i y),J⟩
def dV:ByteArray:=⟨#[40,109,105,110,101,41]⟩
def yO(i:Nat):List Value:=[.string dV,.int .i64 (i:Int),.bool false,.int .i64 0]
structure Xz (w:World) (P:Nat->Prop) (g:Nat) (ss:List (Option Addr×Nat×Nat)) (i:Nat):Prop where
 head:w.heap[g]? =some (.cells (ss.map dt).toArray 44 (0,0))
 are:∀s∈ss,∀j,j<s.2.1->∃b,s.1=some ⟨b,0,none⟩/\P b/\b<w.heap.size/\w.rangeAt b (j*4) (yO i)
 few:∀s∈ss,s.2.1<=9223372036854775807
 len:ss.length<=100
theorem Xz.kept{i:Nat}(h:Xz w P g ss i)(k:Kept T w w')(p:∀i,P i->¬T i)(o:¬T g):Xz w' P g ss i:=
 ⟨(k.block g (lT h.head) o).trans h.head,λs n j e=>by
   obtain⟨b,m,c,d,l⟩:=h.are s n j e
   exact⟨b,m,c,au d k.size,λt v f=>(k.cell (a:=⟨b,j*4+t,none⟩) d (p b c)).trans (l t v f)⟩,h.few,h.len⟩
theorem Xz.cell{q:Nat}(h:Xz w P g ss q)(i:Nat)(a:i<ss.length):w.cell? ⟨g,i,none⟩=some (.slice ss[i].1 ss[i].2.1 ss[i].2.2):=by
 rw [ak w g i _ _ _ h.head];simp [a,dt]
structure dW (w:World) (F:Nat->Prop) (v:Value) (es:List js):Prop where
 row:w.ownsRow 0 129 1 v es.length (es.map js.val)
 vets:∀i (hi:i<es.length),Xz w es[i].P es[i].g es[i].ss i
 foot:∀i (hi:i<es.length),F es[i].g/\∀k,es[i].P k->F k
 foot2:∀k,v.ownBlock=some k->F k
 row2:∀i (hi:i<es.length) k,es[i].P k->v.ownBlock≠some k
theorem dW.kept{c:List js}(h:dW w F v c)(k:Kept T w w')(b:∀i,F i->¬T i):dW w' F v c:=
 ⟨k.owns h.row (λi a=>b i (h.foot2 i a)),λi a=>(h.vets i a).kept k (λj d=>b j ((h.foot i a).2 j d)) (b _ (h.foot i a).1),h.foot,h.foot2,h.row2⟩
theorem dW.cell{a:List js}(h:dW w F (.slice (some ⟨g,0,none⟩) a.length cap) a)(i:Nat)(b:i<a.length):w.cell? ⟨g,i,none⟩=some (.slice (some ⟨a[i].g,0,none⟩) a[i].ss.length 4):=by
 have:=h.row.cells (g:=g) rfl i a[i].val (by simp [b]);rw [eO] at this;simpa [js.val] using this
theorem dW.rowAt{b:List js}(h:dW w F (.slice a b.length cap) b)(j:0<b.length):∃g,a=some ⟨g,0,none⟩:=by
 rcases h.row.2 with⟨i,f⟩|⟨g,d,e,c,_⟩;.omega
 .cases c;exact⟨g,rfl⟩
structure jh (w:World) (bp:Nat) (l:Value) (F H:Nat->Prop) (a b:Option Addr) (ca cb:Nat) (es vs:List js):Prop where
 head:yG w bp l (.slice a es.length ca) (.slice b vs.length cb)
 bytes:jg w F (.slice a es.length ca) es (λi=>gj i 0)
 rows:dW w H (.slice b vs.length cb) vs
 fbp:¬F bp
 hbp:¬H bp
 apart:∀k,F k->¬H k
 few:es.length<=4398046511104
 few2:vs.length<=4398046511104
 flt:∀k,F k->k<w.heap.size
 hlt:∀k,H k->k<w.heap.size
theorem jh.kept{g:Nat->Prop}{b:Option Addr}{f d:Nat}{e vs:List js}(h:jh w bp l F g a b f d e vs)(k:Kept T w w')(hF:∀i,F i->¬T i)(j:∀i,g i->¬T i)(m:¬T bp):jh w' bp l F g a b f d e vs:=
 ⟨h.head.kept k m,h.bytes.kept k hF,h.rows.kept k j,h.fbp,h.hbp,h.apart,h.few,h.few2,λi c=>au (h.flt i c) k.size,λi c=>au (h.hlt i c) k.size⟩
theorem Ub(w:World)(bp:Nat)(l:Value)(F D:Nat->Prop)(a b:Option Addr)(q v:Nat)(r vs:List js)(h:jh w bp l F D a b q v r vs):
 Calls Tryz.prog 38 #[.pointer (some ⟨bp,1,none⟩)] w λe w'=>e=.returned (.bool true)/\jh w' bp l F D a b q v r vs/\Kept F w w':=by
 have J:Hid _:=h;have K:=h.few2;clear h;go_enter Tryz.func38,Tryz.ntmps38;go_wp2;go_loopw [3] (λt wr=>∃k:Nat,k<=vs.length/\t=.int .i64 k/\jh wr bp l F D a b q v r vs/\Kept (λ_=>False) w wr) (λt _=>vs.length-(intOf t).toNat)
 case atStart=>exact⟨0,ai _,rfl,J,Kept.refl _ _⟩
 case round=>
  obtain⟨k,R,rfl,f,c⟩:=hrel;have d:Hid _:=f;have E:Hid _:=c;have z:=f.head.c.2.2.1;clear f c;by_cases n:k<vs.length
  .obtain⟨g,rfl⟩:=d.rows.rowAt (by omega);have M:=(d.rows.vets k n).len;go_wp2;go_loopw [4] (λt wr=>∃i:Nat,i<=vs[k].ss.length/\t=.int .i64 i/\jh wr bp l F D a (some ⟨g,0,none⟩) q v r vs/\Kept (λ_=>False) w wr) (λt _=>vs[k].ss.length-(intOf t).toNat)
   case atStart=>exact⟨0,ai _,rfl,d,E⟩
   case round=>
    obtain⟨i,s,rfl,f,c⟩:=hrel;have p:Hid _:=f;have m:Hid _:=c;have z:=f.head.c.2.2.1;have G:=p.rows.cell k n;clear f c;by_cases o:i<vs[k].ss.length
    .have A:=(p.rows.vets k n).cell i o;have N:=(p.rows.vets k n).few _ (ag o);go_wp2;go_loopw [5] (λt wr=>∃j:Nat,j<=vs[k].ss[i].2.1/\t=.int .i64 j/\jh wr bp l F D a (some ⟨g,0,none⟩) q v r vs/\Kept (λ_=>False) w wr) (λt _=>vs[k].ss[i].2.1-(intOf t).toNat)
     case atStart=>exact⟨0,ai _,rfl,p,m⟩
     case round=>
      obtain⟨j,V,rfl,f,c⟩:=hrel;have z:=f.head.c.2.2.1;have G:=f.rows.cell k n;have A:=(f.rows.vets k n).cell i o;change Hid _ at f c;by_cases B:j<vs[k].ss[i].2.1
      .obtain⟨b',C,P,U,u⟩:=(f.rows.vets k n).are _ (ag o) j B;have S:wr.cell? ⟨b',j*4,none⟩=some (.string dV):=u 0 _ rfl;have T:wr.cell? ⟨b',j*4+1,none⟩=some (.int .i64 (k:Int)):=u 1 _ rfl;have O:wr.cell? ⟨b',j*4+2,none⟩=some (.bool false):=u 2 _ rfl;have Q:wr.cell? ⟨b',j*4+3,none⟩=some (.int .i64 0):=u 3 _ rfl;rw [C] at A;change Hid _ at C;clear u;have H:dV.toList=[40,109,105,110,101,41]:=by rw [eU];rfl
       go_wp2;go_roundw
       case rel=>exact⟨j+1,by omega,by go_num,f.kept (Kept.alloc (λ_=>False) wr _) nF nF (λI=>I),c.trans (Kept.alloc (λ_=>False) wr _) iL⟩
       case measure=>simp [intOf];omega
      .go_wp2;go_roundw
       case rel=>exact⟨i+1,by omega,by go_num,f,c⟩
       case measure=>simp [intOf];omega
    .go_wp2;go_roundw
     case rel=>exact⟨k+1,by omega,by go_num,p,m⟩
     case measure=>simp [intOf];omega
  .go_wp2_with (go_at_call 64;refine(cV _ bp l _ F a q r d.head d.fbp d.bytes d.few).mono ?_;rintro e w' ⟨rfl,y,x⟩;have m:Hid _:=x;change Hid _ at y;clear x);go_ret;exact⟨rfl,⟨d.head.kept m d.fbp,y,d.rows.kept m (λi s L=>d.apart i L s),d.fbp,d.hbp,d.apart,d.few,d.few2,λi s=>au (d.flt i s) m.size,λi s=>au (d.hlt i s) m.size⟩,(E.mono fE).trans m iL⟩
theorem Tryz.infoLetters:(Tryz.prog.info? 179).map (λi=>(i.zero,i.size,i.bytes))=some (some (.slice none 0 0),1,24):=by kernel_rfl
theorem dr.of_own{b:Nat}(h:w.ownsRow b t 1 (.slice a n cap) n xs)(P:Nat->Prop)(f:∀k,(Value.slice a n cap).ownBlock=some k->P k):dr w P t a n:=by
 rcases h.2 with⟨o,d⟩|⟨g,i,c,e,q,j,d,l,p,m⟩;.exact .inl d
 .cases e;exact .inr ⟨g,c,rfl,f g rfl,j,by omega⟩
theorem US.room{b:World}{e:TypeId}{m:Nat}{c:Nat}(h:(v=.slice (some ⟨g,0,none⟩) n c/\n+m<=c)\/(g=w.heap.size/\∃a,w'.heap[g]? =some (.cells a e (0,0))/\(n+m)*1<=a.size))
 (f:b.ownsRow 0 e 1 v n xs) (i:Kept (λk=>v.ownBlock=some k) w' b) (t:∀k,v.ownBlock=some k->k<w.heap.size) (P:Nat->Prop) (u:∀k,v.ownBlock=some k->P k) (s:∀k,w.heap.size<=k->k<b.heap.size->P k):dr b P e (some ⟨g,0,none⟩) (n+m):=by
 rcases h with⟨rfl,o⟩|⟨rfl,a,l,o⟩
 .rcases f.2 with⟨q,_⟩|⟨z,p,a,j,_,r,y,A,B,_⟩;.cases q
  .cases j;exact .inr ⟨g,a,rfl,u g rfl,r,by omega⟩
 .have d:=(lT l);refine .inr ⟨w.heap.size,a,rfl,s _ (aC _) (au d i.size),(i.block _ d (λx=>?_)).trans l,by omega⟩;have:=t _ x;omega
theorem DZ{e g f:World}{c:Option Addr}{b:Nat}{u t v:Obj}{j i l m o p:Nat}(G:w.ownsRow 0 5 1 (.slice c n b) n xs)(L:n<=1000)
 (F:US (w.alloc u) e 5 1 (.slice c n b) n 1 xs (.slice (some ⟨j,0,none⟩) (n+1) m)) (E:(Value.slice c n b=.slice (some ⟨j,0,none⟩) n m/\n+1<=m)\/(j=(w.alloc u).heap.size/\∃d,e.heap[j]? =some (.cells d 5 (0,0))/\(n+1)*1<=d.size))
 (D:US (e.alloc t) g 5 1 (.slice c n b) n 2 xs (.slice (some ⟨i,0,none⟩) (n+2) o)) (H:(Value.slice c n b=.slice (some ⟨i,0,none⟩) n o/\n+2<=o)\/(i=(e.alloc t).heap.size/\∃d,g.heap[i]? =some (.cells d 5 (0,0))/\(n+2)*1<=d.size))
 (q:US (g.alloc v) f 5 1 (.slice c n b) n 3 xs (.slice (some ⟨l,0,none⟩) (n+3) p)) (C:(Value.slice c n b=.slice (some ⟨l,0,none⟩) n p/\n+3<=p)\/(l=(g.alloc v).heap.size/\∃d,f.heap[l]? =some (.cells d 5 (0,0))/\(n+3)*1<=d.size)):
 jz (f.alloc (.cells #[.slice c n b,.slice (some ⟨j,0,none⟩) (n+1) m,.slice (some ⟨i,0,none⟩) (n+2) o,.slice (some ⟨l,0,none⟩) (n+3) p] 35)) (λk=>(Value.slice c n b).ownBlock=some k\/(w.heap.size<=k/\k<f.heap.size)) f.heap.size
  [(c,n,b),(some ⟨j,0,none⟩,n+1,m),(some ⟨i,0,none⟩,n+2,o),(some ⟨l,0,none⟩,n+3,p)]/\Kept (λk=>(Value.slice c n b).ownBlock=some k) w f:=by
 have x:∀k,(Value.slice c n b).ownBlock=some k->k<w.heap.size:=λk a=>(G.lt k a).2;have k1:Kept (λk=>(Value.slice c n b).ownBlock=some k) w e:=(Kept.alloc _ w u).trans F.kept iL;have k2:Kept (λk=>(Value.slice c n b).ownBlock=some k) e g:=(Kept.alloc _ e t).trans D.kept iL;have k3:Kept (λk=>(Value.slice c n b).ownBlock=some k) g f:=(Kept.alloc _ g v).trans q.kept iL;have z:=k2.trans k3 iL;have A:=k1.trans z iL;have B:=Kept.alloc (λ_=>False) f (.cells #[.slice c n b,.slice (some ⟨j,0,none⟩) (n+1) m,.slice (some ⟨i,0,none⟩) (n+2) o,.slice (some ⟨l,0,none⟩) (n+3) p] 35);have K:=k1.size;have I:=k2.size;have M:=k3.size;refine⟨⟨heap_alloc_new f _,λs r=>?_,λy=>?_,λs r=>?_,by simp⟩,A⟩
 .have N:(w.alloc u).heap.size=w.heap.size+1:=by simp
  have J:(e.alloc t).heap.size=e.heap.size+1:=by simp
  have O:(g.alloc v).heap.size=g.heap.size+1:=by simp
  simp only [aq,eY,or_false] at r;refine dr.kept ?_ B nF;rcases r with rfl|rfl|rfl|rfl;.exact dr.of_own q.keeps _ (λk a=>.inl a)
  .exact US.room E q.keeps z (λk a=>by have:=x k a;omega) _ (λk a=>.inl a) (λk a h=>.inr ⟨by omega,h⟩)
  .exact US.room H q.keeps k3 (λk a=>by have:=x k a;omega) _ (λk a=>.inl a) (λk a h=>.inr ⟨by omega,h⟩)
  .exact US.room C q.keeps (Kept.refl _ _) (λk a=>by have:=x k a;omega) _ (λk a=>.inl a) (λk a h=>.inr ⟨by omega,h⟩)
 .rcases y with y|y;.have:=x _ y;omega
  .omega
 .simp only [aq,eY,or_false] at r;rcases r with rfl|rfl|rfl|rfl<;>simp<;>omega
theorem jh.push{x:World}{U:Nat->Prop}{b:Option Addr}{s R:Nat}{f vs:List js}(h:jh w bp l F U a b s R f vs)(af:f.length<4398046511104)(e:js)(ad:e.ss.length=4)
 (T:jz w e.P e.g e.ss) (ae:jz.Are w e.ss (.int .u8 (gj f.length 0))) (v:∀k,e.P k->¬F k/\¬U k/\k≠bp/\k<w.heap.size) (A:¬F e.g/\¬U e.g/\e.g≠bp/\e.g<w.heap.size)
 (ah:Obj) (o y:Nat) (B:x.ownsRow 0 179 1 (.slice (some ⟨o,0,none⟩) (f.length+1) y) (f.length+1) (f.map js.val++[.slice (some ⟨e.g,0,none⟩) 4 4]))
 (J:(w.alloc ah).grownBy x (Value.slice a f.length s).ownBlock) (L:(Value.slice a f.length s).ownBlock=some o\/o=w.heap.size+1):
 jh (x.setCell ⟨bp,1,none⟩ (.slice (some ⟨o,0,none⟩) (f.length+1) y)) bp l (λk=>F k\/e.P k\/k=e.g\/k=o) U (some ⟨o,0,none⟩) b y R (f++[e]) vs/\
  Kept (λk=>(Value.slice a f.length s).ownBlock=some k\/k=bp) w (x.setCell ⟨bp,1,none⟩ (.slice (some ⟨o,0,none⟩) (f.length+1) y)):=by
 have X:=h.head.lt;have r:∀k,(Value.slice a f.length s).ownBlock=some k->F k:=λk d=>h.bytes.foot2 k d;have k1:Kept (λk=>(Value.slice a f.length s).ownBlock=some k) w x:=(Kept.alloc _ w ah).trans (Kept.grown (S:=λk=>(Value.slice a f.length s).ownBlock=some k) J (λk d=>d)) iL;have k2:=Kept.setCell (S:=λk=>k=bp) x ⟨bp,1,none⟩ (.slice (some ⟨o,0,none⟩) (f.length+1) y) rfl;have u:Kept (λk=>(Value.slice a f.length s).ownBlock=some k\/k=bp) w (x.setCell ⟨bp,1,none⟩ (.slice (some ⟨o,0,none⟩) (f.length+1) y)):=(k1.mono iL).trans k2 (λ_ h=>.inl (.inr h));have t:(f++[e]).length=f.length+1:=by simp
 have z:(F o\/w.heap.size<=o):=by
  rcases L with g|g;.exact .inl (r _ g)
  .exact .inr (by omega)
 have I:o≠bp:=by
  rcases z with q|q;.exact λg=>h.fbp (by rw [<-g];exact q)
  .omega
 have aa:¬U o\/w.heap.size<=o:=by
  rcases z with q|q;.exact .inl (h.apart _ q)
  .exact .inr q
 have p:∀i (n:i<(f++[e]).length),(∃m:i<f.length,(f++[e])[i]=f[i])\/(i=f.length/\(f++[e])[i]=e):=λi n=>by
  by_cases q:i<f.length;.exact .inl ⟨q,ie q⟩
  .right;have g:i=f.length:=by omega
   subst g;exact⟨rfl,by simp⟩
 have M:∀i (n:i<f.length) k,f[i].P k->¬((Value.slice a f.length s).ownBlock=some k\/k=bp):=λi n k d c=>by
  rcases c with c|c;.exact h.bytes.row2 i n k d c
  .exact h.fbp (by rw [<-c];exact(h.bytes.foot i n).2 k d)
 have Q:∀i (n:i<f.length),¬((Value.slice a f.length s).ownBlock=some f[i].g\/f[i].g=bp):=λi n c=>by
  rcases c with c|c
  .rcases h.bytes.row.2 with⟨aj,q⟩|⟨ak,Z,ai,ab,_,V,_⟩;.omega
   .rw [ab] at c;simp [Value.ownBlock] at c;subst c;have:=(h.bytes.lets i n).head;rw [V] at this;simp at this
  .exact h.fbp (by rw [<-c];exact(h.bytes.foot i n).1)
 have N:∀k,e.P k->¬((Value.slice a f.length s).ownBlock=some k\/k=bp):=λk d c=>by
  rcases c with c|c;.exact(v k d).1 (r k c)
  .exact(v k d).2.2.1 c
 have O:¬((Value.slice a f.length s).ownBlock=some e.g\/e.g=bp):=λc=>by
  rcases c with c|c;.exact A.1 (r _ c)
  .exact A.2.2.1 c
 have G:=h.flt;have C:=h.hlt;have Y:=u.size
 have H:o<(x.setCell ⟨bp,1,none⟩ (.slice (some ⟨o,0,none⟩) (f.length+1) y)).heap.size:=by have:=(B.lt o rfl).2;simpa using this
 have P:∀k,F k->k<w.heap.size->(k=o->(Value.slice a f.length s).ownBlock=some k):=λk d ag g=>by
  rcases L with D|D;.rw [g];exact D
  .omega
 refine⟨⟨⟨?_⟩,⟨?_,λi n=>?_,λi n=>?_,λi j n ac K k d=>?_,λi n k d=>?_,λi n=>?_,λk d=>?_⟩,h.rows.kept u (λi n c=>?_),λc=>?_,h.hbp,λk d c=>?_,by rw [t];omega,h.few2,λk d=>?_,λk d=>by have:=C k d;omega⟩,u⟩
 .rw [t];have g:=(k1.block bp X (λc=>h.fbp (r bp c))).trans h.head.head;rw [heap_setCell_same x bp 1 _ _ _ g];rfl
 .rw [t,eh];have:=k2.owns B (λk d g=>by simp [Value.ownBlock] at d;omega);simpa [js.val,ad] using this
 .rcases p i n with⟨m,g⟩|⟨rfl,g⟩;.rw [g];exact(h.bytes.lets i m).kept u (M i m) (Q i m)
  .rw [g];exact T.kept u N O
 .rcases p i n with⟨m,g⟩|⟨rfl,g⟩;.rw [g];exact(h.bytes.are i m).kept (h.bytes.lets i m) u (M i m)
  .rw [g];exact ae.kept T u N
 .rcases p i n with⟨m,g⟩|⟨rfl,g⟩<;>rcases p j ac with⟨E,D⟩|⟨rfl,D⟩<;>rw [g] at d<;>rw [D]
  .exact h.bytes.apart i j m E K k d
  .exact⟨λc=>(v k c).1 ((h.bytes.foot i m).2 k d),λc=>A.1 (by rw [<-c];exact(h.bytes.foot i m).2 k d)⟩
  .exact⟨λc=>(v k d).1 ((h.bytes.foot j E).2 k c),λc=>(v k d).1 (by rw [c];exact(h.bytes.foot j E).1)⟩
  .exact absurd rfl K
 .rw [t];simp only [Value.ownBlock,ne_eq,iA];intro W;rcases p i n with⟨m,g⟩|⟨rfl,g⟩<;>rw [g] at d
  .have hF:=(h.bytes.foot i m).2 k d;exact h.bytes.row2 i m k d (P k hF (G k hF) W.symm)
  .rcases z with q|q;.exact(v k d).1 (by rw [<-W];exact q)
   .have:=(v k d).2.2.2;omega
 .rcases p i n with⟨m,g⟩|⟨rfl,g⟩<;>rw [g]
  .exact⟨.inl (h.bytes.foot i m).1,λk d=>.inl ((h.bytes.foot i m).2 k d)⟩
  .exact⟨.inr (.inr (.inl rfl)),λk d=>.inr (.inl d)⟩
 .rw [t] at d;simp only [Value.ownBlock,iA] at d;exact .inr (.inr (.inr d.symm))
 .rcases c with c|c;.exact h.apart i (r i c) n
  .exact h.hbp (by rw [<-c];exact n)
 .rcases c with c|c|c|c;.exact h.fbp c
  .exact(v bp c).2.2.1 rfl
  .exact A.2.2.1 c.symm
  .exact I c.symm
 .rcases d with d|d|d|d;.exact h.apart k d c
  .exact(v k d).2.1 c
  .exact A.2.1 (by rw [<-d];exact c)
  .rcases z with q|q;.exact h.apart o q (by rw [<-d];exact c)
   .have:=C k c;omega
 .rcases d with d|d|d|d;.have:=G k d;omega
  .have:=(v k d).2.2.2;omega
  .have:=A.2.2.2;omega
  .rw [d];exact H
theorem Qr(w:World)(bp:Nat)(l:Value)(F aw S:Nat->Prop)(a b:Option Addr)(ab ah:Nat)(p vs:List js)(h:jh w bp l F aw a b ab ah p vs)(aD:p.length<=2199023255552)
 (q:Option Addr) (n o:Nat) (xs:List Value) (P:w.ownsRow 0 5 1 (.slice q n o) n xs) (aA:n<=1000) (H:∀k,(Value.slice q n o).ownBlock=some k->S k) (B:∀k,S k->¬F k/\¬aw k/\k≠bp):
 Calls Tryz.prog 106 #[.pointer (some ⟨bp,1,none⟩),.slice q n o] w λe w'=>e=.returned (.tuple #[])/\
  (∃an ag W F',jh w' bp l F' aw an b ag ah W vs/\W.length=p.length+1/\∀k,F' k->F k\/S k\/w.heap.size<=k)/\Kept (λk=>F k\/S k\/k=bp) w w':=by
 have O:Hid _:=h;have aK:=h.head.c.2.1;have aH:=h.head.lt;obtain⟨A,s,t,u,r⟩:=qU Tryz.infoU8;have g:Hid (Tryz.prog.info? 5=some A/\A.zero=some (.int .u8 0)/\A.size=1/\A.bytes=1):=⟨s,t,u,r⟩;clear s t u r;obtain⟨L,s,t,u,r⟩:=qU Tryz.infoLetters;have G:Hid (Tryz.prog.info? 179=some L/\L.zero=some (.slice none 0 0)/\L.size=1/\L.bytes=24):=⟨s,t,u,r⟩;change Hid _ at P;clear s t u r h;have Y:=Q1 p.length 0;go_enter Tryz.func106,Tryz.ntmps106;go_wp2_with fail;refine(uQ _ _ _ (by omega) (by omega) (by omega) (by omega)).mono ?_;rintro e aC ⟨rfl,Q⟩;rw [Q];clear Q aC;rw [mO];generalize V:gj p.length (Int.toNat 0)=z at*;have K:gj p.length 0=z:=V;clear V;rw [K] at Y;change Hid _ at K
 go_wp2_with (first
  |(refine xJ rfl (.tmp 13) (.tmp 15) 35 rfl 5 A _ 1 1 Tryz.underlying35 g.1 g.2.1 g.2.2.1 g.2.2.2 rfl (.slice q n o) n xs (by rfl) (by exact World.ownsRow.alloc P _) ⟨w.heap.size,0,none⟩ 1 1 [.int .u8 z] (by rfl) (by rfl) (by exact World.news_of_block (heap_alloc_new w _)) (by simp [Value.oneCell']) (by omega) (by unfold maxLen;omega) (by omega) ?_;intro aN ad d;obtain⟨au,ar,rfl,v⟩:=d.form;have T:Hid _:=d;have aj:Hid _:=v;clear d v)
  |(refine xJ rfl (.tmp 17) (.tmp 20) 35 rfl 5 A _ 1 1 Tryz.underlying35 g.1 g.2.1 g.2.2.1 g.2.2.2 rfl (.slice q n o) n xs (by rfl) (by exact World.ownsRow.alloc T.keeps _) ⟨ad.heap.size,0,none⟩ 2 2 [.int .u8 z,.int .u8 z] (by rfl) (by rfl) (by exact World.news_of_block (heap_alloc_new ad _)) (by simp [Value.oneCell']) (by omega) (by unfold maxLen;omega) (by omega) ?_;intro aO ak d;obtain⟨aq,ao,rfl,v⟩:=d.form;have X:Hid _:=d;have af:Hid _:=v;clear d v)
  |(refine xJ rfl (.tmp 22) (.tmp 26) 35 rfl 5 A _ 1 1 Tryz.underlying35 g.1 g.2.1 g.2.2.1 g.2.2.2 rfl (.slice q n o) n xs (by rfl) (by exact World.ownsRow.alloc X.keeps _) ⟨ak.heap.size,0,none⟩ 3 3 [.int .u8 z,.int .u8 z,.int .u8 z] (by rfl) (by rfl) (by exact World.news_of_block (heap_alloc_new ak _)) (by simp [Value.oneCell']) (by omega) (by unfold maxLen;omega) (by omega) ?_;intro aL J d;obtain⟨aE,ay,rfl,v⟩:=d.form;change Hid _ at d v))
 have D:=DZ P aA T aj X af d v.out;change Hid _ at D;refine(xA _ _ J.heap.size 4 _ D.1 z Y.1 Y.2).mono ?_;rintro e x ⟨rfl,U,R,N⟩
 have I:Kept (λk=>(Value.slice q n o).ownBlock=some k) w x:=(D.2.trans (Kept.alloc _ _ _) iL).trans N (λk c=>by
  rcases c with c|c;.exact .inl c
  .exact .inr c.1)
 have f:=O.kept I (λi Z m=>(B i (H i m)).1 Z) (λi Z m=>(B i (H i m)).2.1 Z) (λm=>(B bp (H bp m)).2.2 rfl);have am:=f.head.c.2.1;have ax:=f.head.lt;change Hid _ at f I U R N;go_wp2_with (refine wpList_append_lies _ rfl (.tmp 36) (.tmp 38) 74 rfl 0 179 L _ 1 24 Tryz.underlying74 G.1 G.2.1 G.2.2.1 G.2.2.2 rfl (by omega) (.slice a p.length ab) p.length (p.map js.val) (by rfl) (by exact World.ownsRow.alloc f.bytes.row _) ⟨x.heap.size,0,none⟩ 1 1 [.slice (some ⟨J.heap.size,0,none⟩) 4 4] (by rfl) (by rfl) (by exact World.news_of_block (heap_alloc_new x _)) (by simp [Value.oneCell']) (by omega) (by unfold maxLen;omega) (by omega) (ai _) (x.heap.size+1) (by simp) ?_;intro aB az al C j y ap;have aI:al.cell? ⟨bp,1,none⟩=some (.slice a p.length ab):=(j.cell_far ⟨bp,1,none⟩ (by simp;omega) (λe=>f.fbp (f.bytes.foot2 bp e.symm))).trans (by simpa using f.kept (Kept.alloc (λ_=>False) x _) nF nF (λM=>M) |>.head.c.2.1);have aJ:al.frozen? ⟨bp,1,none⟩=false:=(j.frozen_far ⟨bp,1,none⟩ (by simp;omega) (λe=>f.fbp (f.bytes.foot2 bp e.symm))).trans (by simpa using f.kept (Kept.alloc (λ_=>False) x _) nF nF (λM=>M) |>.head.c.2.2.2 1);change Hid _ at C j y);go_end0;have aG:=D.2.size;have aF:J.heap.size+1<=x.heap.size:=by have:=N.size;simpa using this
 have ae:∀k,(Value.slice q n o).ownBlock=some k->k<w.heap.size:=λk c=>(World.ownsRow.lt P k c).2
 have E:=f.push (by omega) ⟨J.heap.size,[(q,n,o),(some ⟨au,0,none⟩,n+1,ar),(some ⟨aq,0,none⟩,n+2,ao),(some ⟨aE,0,none⟩,n+3,ay)],λk=>(Value.slice q n o).ownBlock=some k\/(w.heap.size<=k/\k<J.heap.size)⟩ rfl U (by rw [K.out];exact R)
  (λk c=>by
   have M:=O.flt k;have av:=O.hlt k;rcases c with c|c;.have aa:=B k (H k c);have aM:=ae k c;exact⟨aa.1,aa.2.1,aa.2.2,by omega⟩
   .exact⟨λm=>by have:=M m;omega,λm=>by have:=av m;omega,by omega,by omega⟩)
  ⟨λm=>by have:=O.flt _ m;simp only at this;omega,λm=>by have:=O.hlt _ m;simp only at this;omega,by simp only;omega,by simp only;omega⟩ _ aB az C j y.out
 refine⟨rfl,⟨_,_,_,_,E.1,by simp,λk c=>?_⟩,(I.mono (λk c=>.inr (.inl (H k c)))).trans E.2 (λk c=>?_)⟩
 .rcases c with c|c|c|c;.exact .inl c
  .rcases c with c|c;.exact .inr (.inl (H k c))
   .exact .inr (.inr c.1)
  .exact .inr (.inr (by simp only at c;omega))
  .rcases y.out with ac|ac;.exact .inl (f.bytes.foot2 k (by rw [c];exact ac))
   .exact .inr (.inr (by omega))
 .rcases c with c|c;.exact .inl (.inl (f.bytes.foot2 k c))
  .exact .inl (.inr (.inr c))
end book
end Go.Proofs.YtcoengihaobddaaGreatDoor
