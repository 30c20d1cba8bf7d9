/- Part 39 of 50 of a proof: Keep1, Keep2, Keep3, Keep4, Keep5, Keep6, Keep7 -/
import Derived.Test.YtcoengihaobddaaGreatDoorJe33
set_option maxHeartbeats 8000000
set_option linter.unusedVariables false
set_option linter.unusedSimpArgs false
set_option maxRecDepth 8000
namespace Go.Proofs.YtcoengihaobddaaGreatDoor
open Go.ChangeShapes Go.WideShapes Go.ChangeAt Go.RowKit disk ref book
open keys (zg zd zq zl zh)
namespace keep
def qX(c n:Int):Nat:=((if c<0 then -(c+1) else c)%n).toNat
theorem xy(c n:Int)(a:0<n):(qX c n:Int)<n:=by
 unfold qX;have b:=nf (if c<0 then -(c+1) else c) (by omega:n≠0);have d:=Int.emod_lt_of_pos (if c<0 then -(c+1) else c) a;omega
theorem yV(w:World)(c n:Int)(d:zs c)(h:0<n)(i:n<=1000):
 Calls Tryz.prog 21 #[.int .i64 c,.int .i64 n] w λe w'=>e=.returned (.int .i64 (qX c n:Int))/\w'=w:=by
 obtain⟨g,f⟩:=d;by_cases b:c<0
 .go_enter Tryz.func21,Tryz.ntmps21;go_wp2;go_ret;have e: -((c+1).tmod n)=(-(c+1))%n:=by rw [<-Int.neg_tmod,lZ (by omega)]
  have a:=nf (-(c+1)) (by omega:n≠0);exact⟨zg (by unfold qX;rw [aB b,mH a];exact e),rfl⟩
 .go_enter Tryz.func21,Tryz.ntmps21;go_wp2;go_ret;have a:=nf c (by omega:n≠0);exact⟨zg (by unfold qX;rw [az (by omega),mH a]),rfl⟩
def kK:Array Value:=#[.string ⟨#[97]⟩,.string ⟨#[97,47]⟩,.string ⟨#[97,47,98]⟩,.string ⟨#[97,98]⟩,.string ⟨#[98]⟩,.string ⟨#[98,45,49]⟩,.string ⟨#[45]⟩,.string ⟨#[47]⟩,.string ⟨#[48,57]⟩,.string ⟨#[122,122,122,122,122,122,122,122]⟩,.string ⟨#[97,47,98,47,99,47,100,47]⟩,.string ⟨#[109]⟩]
theorem vH:∀r,r<12->∃s:ByteArray,kK[r]? =some (.string s)/\zh s.data.toList=true/\s.size<=8:=by
 intro r a;have:r=0\/r=1\/r=2\/r=3\/r=4\/r=5\/r=6\/r=7\/r=8\/r=9\/r=10\/r=11:=by omega
 rcases this with rfl|rfl|rfl|rfl|rfl|rfl|rfl|rfl|rfl|rfl|rfl|rfl<;>exact⟨_,rfl,by decide,by decide⟩
theorem ux(w:World):Calls Tryz.prog 22 #[] w λe w'=>e=.returned (.slice (some ⟨w.heap.size,0,none⟩) 12 12)/\Kept (λ_=>False) w w'/\w'.heap[w.heap.size]? =some (.cells kK 9 (0,0)):=by
 go_enter Tryz.func22,Tryz.ntmps22;go_wp2;go_ret;exact⟨rfl,Kept.alloc _ _ _,heap_alloc_new w _⟩
theorem vA(w:World)(P:Nat->Prop)(a:Option Addr)(cap:Nat)(l:List UInt8)(A:zu w P a l)(J:l.length<=140737488355326)(I:l.length<=cap):
 Calls Tryz.prog 28 #[.slice a l.length cap] w λe w'=>∃x u,e=.returned (.slice x (l.take 300).length u)/\w'.ownsRow 0 5 1 (.slice x (l.take 300).length u) (l.take 300).length ((l.take 300).map qk)/\Kept (λ_=>False) w w'/\∀k,(Value.slice x (l.take 300).length u).ownBlock=some k->w.heap.size<=k:=by
 have v:Hid (zu w P a (l.take 300)):=by
  rcases A with rfl|⟨b,H,E,C,B,D⟩;.exact .inl rfl
  .exact .inr ⟨b,H,E,C,B,λj F=>by
    rw [lO]
    exact D j (by simp at F;omega)⟩
 obtain⟨i,t,q,r,s⟩:=qU Tryz.infoU8;have f:Hid (Tryz.prog.info? 5=some i/\i.zero=some (.int .u8 0)/\i.size=1/\i.bytes=1):=⟨t,q,r,s⟩;clear t q r s A;by_cases B:300<l.length
 .have p:(l.take 300).length=300:=by simp;omega
  go_enter Tryz.func28,Tryz.ntmps28;go_wp2_with (refine xk P rfl (.tmp 9) (.tmp 10) 35 rfl 5 i _ Tryz.underlying35 f.1 f.2.1 f.2.2.1 f.2.2.2 rfl a cap (l.take 300) (by rfl) (by rw [p];rfl) (by exact v) (by omega) ?_;intro z y G d c g;have n:Hid _:=d;have o:Hid _:=c;have m:Hid _:=g;clear d c g);go_ret;exact⟨z,y,by rw [p];rfl,n,Kept.grown (S:=λ_=>False) o (λk h=>by cases h),λk h=>by rcases m.out with e|e<;>rw [e] at h<;>simp at h;omega⟩
 .have p:l.take 300=l:=ao (by omega);rw [p] at v ⊢;go_enter Tryz.func28,Tryz.ntmps28;go_wp2_with (refine xk P rfl (.tmp 9) (.tmp 10) 35 rfl 5 i _ Tryz.underlying35 f.1 f.2.1 f.2.2.1 f.2.2.2 rfl a cap l (by rfl) (by rfl) (by exact v) (by omega) ?_;intro z y G d c g;have n:Hid _:=d;have o:Hid _:=c;have m:Hid _:=g;clear d c g);go_ret;exact⟨z,y,rfl,n,Kept.grown (S:=λ_=>False) o (λk h=>by cases h),λk h=>by rcases m.out with e|e<;>rw [e] at h<;>simp at h;omega⟩
theorem uy(w:World)(P Q:Nat->Prop)(a b:Option Addr)(q o:Nat)(l:List UInt8)(j:zu w P a l)(h:zu w Q b l)(u:l.length<=140737488355326):
 Calls Tryz.prog 29 #[.slice a l.length q,.slice b l.length o] w λe w'=>e=.returned (.bool true)/\∃n,w'=w.drewN n:=by
 change Hid _ at j h;go_enter Tryz.func29,Tryz.ntmps29;go_wp2;go_loopw [5] (λi wr=>∃k:Nat,k<=l.length/\i=.int .i64 k/\∃n,wr=w.drewN n) (λi _=>l.length-(intOf i).toNat)
 case atStart=>exact⟨0,ai _,rfl,0,rfl⟩
 case round=>
  obtain⟨k,x,rfl,n,rfl⟩:=hrel;by_cases c:k<l.length
  .rcases j.out with f|⟨t,z,p,_,_,m⟩;.rw [f] at c;simp at c
   rcases h.out with f|⟨v,y,g,_,_,d⟩;.rw [f] at c;simp at c
   have s:=m k c;have r:=d k c;subst p g;clear m d;go_wp2;go_quiet (fail);go_wp2;go_roundw
   case rel=>exact⟨k+1,by omega,by go_num,_,rfl⟩
   case measure=>simp [intOf];omega
  .go_wp2;go_ret;exact⟨rfl,_,rfl⟩
theorem xv(w:World)(a b:ByteArray)(q:a.size<=9223372036854775807)(p:b.size<=9223372036854775807):
 Calls Tryz.prog 46 #[.string a,.string b] w λe w'=>e=.returned (.bool (qD a b))/\∃n,w'=w.drewN n:=by
 go_enter Tryz.func46,Tryz.ntmps46;go_wp2;go_loopw [5] (λi wr=>∃k:Nat,k<=a.size/\k<=b.size/\i=.int .i64 k/\qN (a.data.toList.drop k) (b.data.toList.drop k)=qD a b/\∃n,wr=w.drewN n) (λi _=>a.size-(intOf i).toNat)
 case atStart=>exact⟨0,ai _,ai _,rfl,rfl,0,rfl⟩
 case round=>
  obtain⟨k,f,d,rfl,c,n,rfl⟩:=hrel;change Hid _ at c;by_cases m:k<a.size
  .by_cases j:k<b.size
   .have h:Hid _:=cQ a b k m j _ c.out;by_cases e:(a[k].toNat:Int)=b[k].toNat
    .have l:((a[k].toNat:Int) !=b[k].toNat)=false:=by simpa using e
     have g:Hid _:=e;clear e;go_wp2;go_quiet (fail);go_wp2;go_roundw
     case rel=>exact⟨k+1,by omega,by omega,by go_num,h.1 g,_,rfl⟩
     case measure=>simp [intOf];omega
    .have l:((a[k].toNat:Int) !=b[k].toNat)=true:=by simpa using e
     have g:Hid _:=e;clear e;go_wp2;go_quiet (fail);go_wp2;go_quiet (fail);go_wp2;go_ret;exact⟨zd (by rw [<-h.2 g.out];congr 1;apply propext;omega),_,by rw [World.drewN_drewN,World.drewN_drewN]⟩
   .go_wp2;go_ret;exact⟨zd (by rw [<-c.out,ft _ _ k (by simp;omega) (by simpa using f) (by simpa using d)];simp),_,rfl⟩
  .have o:=decide_eq_false (by omega);go_wp2;go_ret;exact⟨zd (by rw [<-c.out,ft _ _ k (by simp;omega) (by simpa using f) (by simpa using d)];simp),_,rfl⟩
end keep
namespace keep
open law (zJ Z8 u9)
variable {w:World}{a:Option Addr}{c:Nat}
def Row(w:World)(a:Option Addr)(c:Nat)(L:List zw):Prop:=w.ownsRow 0 94 4 (.slice a L.length c) L.length (zJ L)
theorem Row.cells{b:List zw}(h:Row w a c b)(d:0<b.length):∃g,a=some ⟨g,0,none⟩/\g<w.heap.size/\∀k (e:k<b.length),w.cell? ⟨g,k*4,none⟩=some (.string b[k].key)/\w.cell? ⟨g,k*4+1,none⟩=some (.int .i64 b[k].num)/\w.cell? ⟨g,k*4+2,none⟩=some (.bool b[k].mark)/\w.cell? ⟨g,k*4+3,none⟩=some (.int .i64 (b[k].body.length:Int)):=u9 h d
theorem Row.kept{w':World}{T:Nat->Prop}{b:List zw}(h:Row w a c b)(k:Kept T w w')(d:∀i,(Value.slice a b.length c).ownBlock=some i->¬T i):Row w' a c b:=k.owns h d
theorem vI(w:World)(g h:Option Addr)(j f:Nat)(a:List zw)(z:a.length<=10000)(l:Row w g j a)(k:Row w h f a):
 Calls Tryz.prog 23 #[.slice g a.length j,.slice h a.length f] w λe w'=>e=.returned (.bool true)/\∃n,w'=w.drewN n:=by
 have m:Hid (Row w g j a):=l;have o:Hid (Row w h f a):=k;clear l k;go_enter Tryz.func23,Tryz.ntmps23;go_wp2;go_loopw [5] (λt wr=>∃i:Nat,i<=a.length/\t=.int .i64 i/\∃n,wr=w.drewN n) (λt _=>a.length-(intOf t).toNat)
 case atStart=>exact⟨0,ai _,rfl,0,rfl⟩
 case round=>
  obtain⟨i,B,rfl,n,rfl⟩:=hrel;by_cases d:i<a.length
  .obtain⟨x,rfl,q,b⟩:=m.cells (by omega);obtain⟨C,rfl,r,c⟩:=o.cells (by omega);obtain⟨D,u,A,s⟩:=b i d;obtain⟨y,E,G,F⟩:=c i d;clear b c;generalize a[i]=v at*;have p:(i:Int)<(a.length:Int):=by omega
   go_wp2;go_quiet (fail);go_wp2;go_roundw
   case rel=>exact⟨i+1,by omega,by go_num,_,rfl⟩
   case measure=>simp [intOf];omega
  .have e:i=a.length:=by omega
   subst e;go_wp2;go_ret;exact⟨rfl,_,rfl⟩
theorem Jr(w:World)(a:Option Addr)(c:Nat)(d:List zw)(M:d.length<=10000)(h:Row w a c d)(o:d.Pairwise λH J=>H.ahead J=true)(l:∀v∈d,v.key.size<=8):
 Calls Tryz.prog 25 #[.slice a d.length c] w λe w'=>e=.returned (.bool true)/\Kept (λ_=>False) w w':=by
 have q:Hid (Row w a c d):=h;change Hid _ at o l;clear h;go_enter Tryz.func25,Tryz.ntmps25;go_wp2;go_loopw [3] (λt wr=>∃i:Nat,1<=i/\(i<=d.length\/i=1)/\t=.int .i64 i/\Kept (λ_=>False) w wr) (λt _=>d.length-(intOf t).toNat)
 case atStart=>exact⟨1,aC _,.inr rfl,rfl,Kept.refl _ _⟩
 case round=>
  obtain⟨i,s,N,rfl,b⟩:=hrel;have p:Hid (Row wr a c d):=q.kept b nF;change Hid _ at b;by_cases k:i<d.length
  .obtain⟨L,rfl,A,f⟩:=p.cells (by omega);obtain⟨j,O⟩:∃j,j+1=i:=⟨i-1,by omega⟩;obtain⟨r,K,_,_⟩:=f j (by omega);obtain⟨G,I,_,_⟩:=f i k;clear f;have m:=eB.1 o j i (by omega) k (by omega);have y:=l.out (d[j]'(by omega)) (ag _);have x:=l.out d[i] (ag _);generalize d[i]=v at*;generalize (d[j]'(by omega))=u at*;have z:(i:Int)<(d.length:Int):=by omega
   have E:(j:Int)<(d.length:Int):=by omega
   have B:IntKind.i64.wrap ((i:Int)-1)=(j:Int):=by rw [show (i:Int)-1=(j:Int) by omega];exact IntWalk.i64_in _ (by omega)
   rw [zw.ahead_iff] at m;by_cases g:qD u.key v.key=true
   .go_wp2;go_quiet ((go_at_call 46;exact Calls.quiet_of (xv _ u.key v.key (by omega) (by omega))));go_wp2;go_quiet (fail);go_wp2;go_roundw
    case rel=>exact⟨i+1,by omega,by omega,by go_num,b.trans (S':=λ_=>False) kD fE⟩
    case measure=>simp [intOf];omega
   .obtain⟨n,D⟩:=m.resolve_left g;rw [Bool.not_eq_true] at g;rw [n] at r g;have C:decide (u.num<=v.num)=false:=decide_eq_false (by omega);clear m;go_wp2;go_quiet ((go_at_call 46;exact Calls.quiet_of (xv _ v.key v.key (by omega) (by omega))));go_wp2;go_quiet (fail);go_wp2;go_roundw
    case rel=>exact⟨i+1,by omega,by omega,by go_num,b.trans (S':=λ_=>False) kD fE⟩
    case measure=>simp [intOf];omega
  .have F:=decide_eq_false (by omega);go_wp2;go_ret;exact⟨rfl,b⟩
theorem Tryz.infoVer:(Tryz.prog.info? 94).map (λi=>(i.zero,i.size,i.bytes))=some (some (.agg #[.string ⟨#[]⟩,.int .i64 0,.bool false,.int .i64 0]),4,40):=by kernel_rfl
theorem KB(l:List zw)(v:zw):zJ (l++[v])=zJ l++Z8 v:=by unfold zJ;simp
theorem gg(l:List zw):∀u∈zJ l,u.oneCell'=true:=λu a=>by
 unfold zJ at a;obtain⟨c,b,a⟩:=ii.1 a;obtain⟨v,_,rfl⟩:=av.1 b;simp only [Z8,aq,eY,or_false] at a;rcases a with rfl|rfl|rfl|rfl<;>rfl
theorem Row.nil(w:World):Row w none 0 []:=aP w 0 94 4
def pre(p:ByteArray)(L:List zw):List zw:=L.filter λv=>p.data.toList.isPrefixOf v.key.data.toList
theorem DG(p:ByteArray)(a:List zw)(k:Nat)(h:k<a.length):pre p (a.take (k+1))=if p.data.toList.isPrefixOf a[k].key.data.toList then pre p (a.take k)++[a[k]] else pre p (a.take k):=by
 unfold pre;rw [ar h,lK,hE,nd];split<;>simp
theorem Bw(p:ByteArray)(a:List zw)(k:Nat):(pre p (a.take k)).length<=a.length:=aF (ir _ _) (by rw [ay];omega)
theorem Row.pushed{wr d:World}{us:List zw}(b:Kept (λ_=>False) w wr)(f:∀k,(Value.slice a us.length c).ownBlock=some k->w.heap.size<=k)(v:zw)(m:Obj)(g j:Nat)
 (i:d.ownsRow 0 94 4 (.slice (some ⟨g,0,none⟩) (us.length+1) j) (us.length+1) (zJ us++Z8 v))
 (h:(wr.alloc m).grownBy d (Value.slice a us.length c).ownBlock) (l:(Value.slice a us.length c).ownBlock=some g\/g=wr.heap.size+1):
 Row d (some ⟨g,0,none⟩) j (us++[v])/\Kept (λ_=>False) w d/\w.heap.size<=g:=by
 have k2:Kept (λk=>w.heap.size<=k) wr d:=((Kept.alloc _ wr m).trans (Kept.grown (S:=λk=>w.heap.size<=k) h (λk b=>f k b)) iL);refine⟨?_,b.trans k2 (λk b=>.inr b),?_⟩
 .unfold Row;rw [KB,ah];exact i
 .rcases l with e|e;.exact f _ e
  .have:=b.size;omega
theorem xW(w:World)(a:Option Addr)(c:Nat)(f:List zw)(ak:f.length<=10000)(h:Row w a c f)(M:∀k,(Value.slice a f.length c).ownBlock=some k->k<w.heap.size)(p:ByteArray)(aj:p.size<=8)(t:∀v∈f,v.key.size<=8):
 Calls Tryz.prog 24 #[.slice a f.length c,.string p] w λe w'=>∃d b,e=.returned (.slice d (pre p f).length b)/\Row w' d b (pre p f)/\Kept (λ_=>False) w w'/\∀k,(Value.slice d (pre p f).length b).ownBlock=some k->w.heap.size<=k:=by
 obtain⟨y,J,E,H,I⟩:=qU Tryz.infoVer;have r:Hid (Tryz.prog.info? 94=some y/\y.zero=some (.agg #[.string ⟨#[]⟩,.int .i64 0,.bool false,.int .i64 0])/\y.size=4/\y.bytes=40):=⟨J,E,H,I⟩;have V:Hid (Row w a c f):=h;have W:Hid _:=t;change Hid _ at M;clear J E H I h t;go_enter Tryz.func24,Tryz.ntmps24;go_wp2;go_loopw [5,6] (λae i wr=>∃k:Nat,k<=f.length/\i=.int .i64 k/\Kept (λ_=>False) w wr/\∃d b,ae=.slice d (pre p (f.take k)).length b/\Row wr d b (pre p (f.take k))/\∀s,(Value.slice d (pre p (f.take k)).length b).ownBlock=some s->w.heap.size<=s) (λ_ i _=>f.length-(intOf i).toNat)
 case atStart=>exact⟨0,ai _,rfl,Kept.refl _ _,none,0,rfl,Row.nil w,λk t=>by cases t⟩
 case round=>
  obtain⟨k,t,rfl,l,d,b,rfl,D,x⟩:=hrel;have N:Hid (Row wr a c f):=V.kept l nF;have B:Hid (Row wr d b (pre p (f.take k))):=D;have z:Hid (∀s,(Value.slice d (pre p (f.take k)).length b).ownBlock=some s->w.heap.size<=s):=x;change Hid _ at l;clear D x;by_cases C:k<f.length
  .have S:Hid _:=DG p f k C;have X:=Bw p f k;obtain⟨g,rfl,ad,T⟩:=N.cells (by omega);obtain⟨ac,af,aa,al⟩:=T k C;have Y:=W.out f[k] (ag _);clear T;generalize P:pre p (f.take k)=us at*;change Hid _ at P;generalize f[k]=v at*;have Z:(k:Int)<(f.length:Int):=by omega
   have A:p.data.toList.isPrefixOf v.key.data.toList=true->_:=λK=>S.trans (aB K);have o:¬p.data.toList.isPrefixOf v.key.data.toList=true->_:=λK=>S.trans (az K);change Hid _ at A o;by_cases Q:p.size<=v.key.size
   .have F:=dq v.key p Q
    cases m:p.data.toList.isPrefixOf v.key.data.toList with
    |true=>
     rw [m] at F;have j:Hid _:=m;clear m;go_wp2_with (refine wpList_append_lies _ rfl (.tmp 32) (.tmp 37) 44 rfl 0 94 y _ 4 40 Tryz.underlying44 r.1 r.2.1 r.2.2.1 r.2.2.2 rfl (by omega) (.slice d us.length b) us.length (zJ us) (by rfl) (by exact World.ownsRow.alloc B _) ⟨wr.heap.size,0,none⟩ 1 1 (Z8 v) (by rfl) (by rfl) (by exact World.news_of_block (heap_alloc_new wr _)) (by simp [Value.oneCell',Z8]) (by omega) (by unfold maxLen;omega) (by omega) (ai _) (wr.heap.size+1) (by simp) ?_;intro O R ab q n u U;have L:Hid _:=Row.pushed l z v _ O R q n u;clear q n u);go_roundw
     case rel=>exact⟨k+1,by omega,by go_num,L.2.1,some ⟨O,0,none⟩,R,by rw [A.out j.out,ah];rfl,by rw [A.out j.out];exact L.1,λs G=>by simp [Value.ownBlock] at G;rw [<-G];exact L.2.2⟩
     case measure=>simp [intOf];omega
    |false=>
     rw [m] at F;have j:Hid _:=m;clear m;go_wp2;go_roundw
     case rel=>exact⟨k+1,by omega,by go_num,l,d,b,by rw [o.out (by rw [j.out];simp)],by rw [o.out (by rw [j.out];simp)];exact B,by rw [o.out (by rw [j.out];simp)];exact z⟩
     case measure=>simp [intOf];omega
   .have m:=ud v.key p (by omega);have j:Hid _:=m;clear m;go_wp2;go_roundw
    case rel=>exact⟨k+1,by omega,by go_num,l,d,b,by rw [o.out (by rw [j.out];simp)],by rw [o.out (by rw [j.out];simp)];exact B,by rw [o.out (by rw [j.out];simp)];exact z⟩
    case measure=>simp [intOf];omega
  .have e:f.take k=f:=ao (by omega);rw [e] at B z;rw [e];go_wp2;go_ret;exact⟨d,b,rfl,B,l,z⟩
end keep
namespace keep
open law (zP za zL qx zD xm J6 Chg)
variable {w:World}{P:Nat->Prop}{cs:List (List Value)}{vs:List zw}
structure DH (w:World) (P:Nat->Prop) (cs:List Value) (v:zw):Prop where
 at_:∃a cap,cs=[.string v.key,.int .i64 v.num,.slice a v.body.length cap]/\zu w P a v.body
structure Told (w:World) (P:Nat->Prop) (cs:List (List Value)) (vs:List zw):Prop where
 len:cs.length=vs.length
 each:∀i (h:i<cs.length) (h':i<vs.length),DH w P cs[i] vs[i]
theorem Told.kept{w':World}{T:Nat->Prop}(h:Told w P cs vs)(k:Kept T w w')(g:∀i,P i->¬T i):Told w' P cs vs:=
 ⟨h.len,λi d b=>by
  obtain⟨a,c,e,f⟩:=(h.each i d b).at_
  exact⟨a,c,e,f.kept k g⟩⟩
theorem Told.mono{Q:Nat->Prop}(h:Told w P cs vs)(g:∀i,P i->i<w.heap.size->Q i):Told w Q cs vs:=
 ⟨h.len,λi d b=>by
  obtain⟨a,c,e,f⟩:=(h.each i d b).at_
  exact⟨a,c,e,f.mono g⟩⟩
theorem Told.nil(w:World)(P:Nat->Prop):Told w P [] []:=⟨rfl,λi h=>by simp at h⟩
theorem Told.snoc(h:Told w P cs vs){c:List Value}{v:zw}(d:DH w P c v):Told w P (cs++[c]) (vs++[v]):=by
 refine⟨by simp [h.len],λi f g=>?_⟩;by_cases a:i<cs.length
 .rw [ie a,ie (by rw [<-h.len];exact a)];exact h.each i a _
 .have b:=h.len;have e:i=cs.length:=by simp at f;omega
  subst e;rw [ip (by omega),ip (by omega)];simpa [b] using d
theorem Told.three(h:Told w P cs vs):∀c∈cs,c.length=3:=λc d=>by
 obtain⟨i,b,rfl⟩:=ei d;obtain⟨a,c,e,_⟩:=(h.each i b (by rw [<-h.len];exact b)).at_;rw [e];rfl
theorem Told.one(h:Told w P cs vs):∀u∈cs.flatten,u.oneCell'=true:=λu b=>by
 obtain⟨c,f,b⟩:=ii.1 b;obtain⟨i,d,rfl⟩:=ei f;obtain⟨a,cap,e,_⟩:=(h.each i d (by rw [<-h.len];exact d)).at_;rw [e] at b;simp only [aq,eY,or_false] at b;rcases b with rfl|rfl|rfl<;>rfl
structure yk (M:za) (w:World) (X:Nat->Prop) (bp bd bs:Nat) (S:Nat->Prop) (D:Dk) (V:zP) (a:Option Addr) (cap:Nat) (cs:List (List Value)) (G:Nat->Prop):Prop where
 head:w.heap[bp]? =some (.cells #[.pointer (some ⟨bd,0,none⟩),.pointer (some ⟨bs,0,none⟩),.slice a V.vs.length cap,.int .i64 V.n0,.int .i64 (-1),.int .i64 0,.bool true] 33 (0,0))
 fore:zD M w bd bs S D V
 size:D.bs.length=1000
 row:w.ownsRow 0 85 3 (.slice a V.vs.length cap) V.vs.length cs.flatten
 told:Told w G cs V.vs
 xlt:∀k,X k->k<w.heap.size
 xS:∀k,S k->X k
 xb:X bs
 xp:X bp
 xr:∀k,(Value.slice a V.vs.length cap).ownBlock=some k->X k
 xG:∀k,G k->X k
 pS:¬S bp
 pb:bp≠bs
 rS:∀k,(Value.slice a V.vs.length cap).ownBlock=some k->¬S k/\k≠bs/\k≠bp
 gS:∀k,G k->¬S k/\k≠bs/\k≠bp/\(Value.slice a V.vs.length cap).ownBlock≠some k
section
variable {M:za} {w w':World} {X T:Nat->Prop} {bp bd bs:Nat} {S:Nat->Prop} {D:Dk} {V:zP} {a:Option Addr} {cap:Nat} {cs:List (List Value)} {G:Nat->Prop}
theorem zD.kept(h:zD M w bd bs S D V)(k:Kept T w w')(b:∀i,S i->¬T i)(a:¬T bs):zD M w' bd bs S D V:=
 ⟨h.disk.kept k b,h.apart,M.sto_kept _ _ _ _ _ h.sto k a,h.live,h.fuse,h.reads0,h.reads1,h.few⟩
theorem yk.lt(h:yk M w X bp bd bs S D V a cap cs G):bp<w.heap.size:=h.xlt bp h.xp
theorem yk.kept(h:yk M w X bp bd bs S D V a cap cs G)(k:Kept T w w')(c:∀i,X i->¬T i):yk M w' X bp bd bs S D V a cap cs G:=
 ⟨(k.block bp h.lt (c bp h.xp)).trans h.head,zD.kept h.fore k (λi b=>c i (h.xS i b)) (c bs h.xb),h.size,k.owns h.row (λi b=>c i (h.xr i b)),h.told.kept k (λi b=>c i (h.xG i b)),
   λi b=>au (h.xlt i b) k.size,h.xS,h.xb,h.xp,h.xr,h.xG,h.pS,h.pb,h.rS,h.gS⟩
theorem yk.c(h:yk M w X bp bd bs S D V a cap cs G):w.cell? ⟨bp,0,none⟩=some (.pointer (some ⟨bd,0,none⟩))/\w.cell? ⟨bp,1,none⟩=some (.pointer (some ⟨bs,0,none⟩))/\w.cell? ⟨bp,2,none⟩=some (.slice a V.vs.length cap)/\w.cell? ⟨bp,3,none⟩=some (.int .i64 V.n0)/\w.cell? ⟨bp,5,none⟩=some (.int .i64 0)/\w.cell? ⟨bp,6,none⟩=some (.bool true)/\∀i,w.frozen? ⟨bp,i,none⟩=false:=by
 have b:=h.head;refine⟨?_,?_,?_,?_,?_,?_,λi=>aa w bp i _ _ b⟩<;>rw [ak w bp _ _ _ _ b]<;>rfl
theorem yk.rowAt(h:yk M w X bp bd bs S D V a cap cs G)(i:0<V.vs.length):∃g,a=some ⟨g,0,none⟩:=by
 rcases h.row.2 with⟨d,f⟩|⟨g,c,e,b,_⟩;.simp at d;omega
 .cases b;exact⟨g,rfl⟩
theorem yk.cells{g:Nat}(h:yk M w X bp bd bs S D V (some ⟨g,0,none⟩) cap cs G)(i:Nat)(f:i<V.vs.length):
 w.cell? ⟨g,i*3,none⟩=some (.string V.vs[i].key)/\w.cell? ⟨g,i*3+1,none⟩=some (.int .i64 V.vs[i].num)/\∃b a,w.cell? ⟨g,i*3+2,none⟩=some (.slice b V.vs[i].body.length a)/\zu w G b V.vs[i].body:=by
 have d:=h.told.len;have j:=h.row;rw [<-d] at j;have c:=q9 j h.told.three i (by rw [d];exact f);obtain⟨b,a,e,k⟩:=(h.told.each i (by rw [d];exact f) f).at_;rw [e] at c;exact⟨c 0 _ rfl,c 1 _ rfl,b,a,c 2 _ rfl,k⟩
theorem yL(h:yk M w X bp bd bs S D V a cap cs G)(y:weight V.vs<=1000):Calls Tryz.prog 32 #[.pointer (some ⟨bp,0,none⟩)] w λe w'=>e=.returned (.int .i64 (weight V.vs:Nat))/\w'=w:=by
 obtain⟨_,_,r,_,u,_,_⟩:=h.c;have o:=h.fore.live.good.few;have j:Hid _:=h.fore.live.good.body;change Hid _ at h;go_enter Tryz.func32,Tryz.ntmps32;go_wp2;go_loop [3,4] (λt i=>∃k:Nat,k<=V.vs.length/\i=.int .i64 k/\t=.int .i64 ((weight (V.vs.take k):Nat):Int)) (λ_ i=>V.vs.length-(intOf i).toNat)
 case atStart=>exact⟨0,ai _,rfl,by simp [weight]⟩
 case round=>
  obtain⟨k,A,rfl,rfl⟩:=hrel;have d:=dp (vs:=V.vs.take k) (λv n=>by have:=j.out v (aJ n);omega);have f:(V.vs.take k).length<=V.vs.length:=by rw [ay];omega
  generalize c:weight (V.vs.take k)=s at*;change Hid _ at c;have p:s<=100000:=by omega
  clear d f;by_cases b:k<V.vs.length
  .have m:Hid _:=ub V.vs k b;obtain⟨g,rfl⟩:=h.rowAt (by omega);obtain⟨_,_,C,l,z,_⟩:=h.cells k b;have x:=j.out V.vs[k] (ag b);have q:(k:Int)<(V.vs.length:Int):=by omega
   go_wp2;go_round
   case rel=>exact⟨k+1,by omega,by go_num,by rw [m.out,c.out];unfold qd;go_num⟩
   case measure=>simp [intOf];omega
  .have B:weight V.vs=s:=by
    have e:V.vs.take k=V.vs:=ao (by omega);rw [<-c.out,e]
   go_wp2;go_ret;exact⟨zg rfl,rfl⟩
theorem uz(M:za)(A:zL M)(H:∀f,M.Fu f->f≠0)(w:World):Calls Tryz.prog 14 #[] w λe w'=>∃X bp bd bs S D,e=.returned (.pointer (some ⟨bp,0,none⟩))/\yk M w' X bp bd bs S D ⟨[],0⟩ none 0 [] (λ_=>False)/\Kept (λ_=>False) w w'/\(∀k,X k->w.heap.size<=k)/\D.reads<=2000:=by
 go_enter Tryz.func14,Tryz.ntmps14;go_wp2_with fail;refine(jU _ 1000 (by unfold zs;omega)).mono ?_;rintro e a ⟨rfl,p,o⟩;have C:Hid (ze a (w.heap.size+1) (λk=>k=w.heap.size+1\/k=w.heap.size) (Dk.fresh (jd 1000))):=p;have R:=p.lt (w.heap.size+1) (.inl rfl);have P:=o.size;change Hid _ at o;clear p;go_wp2_with fail;have u:=heap_alloc_new a (.cells #[.pointer (some ⟨w.heap.size+1,0,none⟩),.pointer none,.slice none 0 0,.int .i64 0,.int .i64 (-1),.int .i64 0,.bool false] 33);have n:Kept (λ_=>False) a (a.alloc (.cells #[.pointer (some ⟨w.heap.size+1,0,none⟩),.pointer none,.slice none 0 0,.int .i64 0,.int .i64 (-1),.int .i64 0,.bool false] 33)):=Kept.alloc _ _ _;have Q:(a.alloc (.cells #[.pointer (some ⟨w.heap.size+1,0,none⟩),.pointer none,.slice none 0 0,.int .i64 0,.int .i64 (-1),.int .i64 0,.bool false] 33)).heap.size=a.heap.size+1:=by simp
 generalize a.alloc (.cells #[.pointer (some ⟨w.heap.size+1,0,none⟩),.pointer none,.slice none 0 0,.int .i64 0,.int .i64 (-1),.int .i64 0,.bool false] 33)=F at*;have s:=C.kept n nF;have z:Hid _:=o.trans n iL;have i:M.Could (Dk.fresh (jd 1000)) (λG=>G=⟨[],0⟩):=⟨by simp [Dk.fresh],by simp [Dk.fresh,jd],λks=>⟨_,rfl,M.zeros (jd 1000) (by decide) (by decide)⟩⟩;refine(A.big F (w.heap.size+1) _ _ (λG=>G=⟨[],0⟩) s i M.fu_neg (by show (0:Int)<=0;omega) (by show (0:Int)<=_;omega)).mono ?_;rintro e g ⟨K,S',l,⟨bs,V,rfl,hbs,r,j,rfl,m⟩|⟨rfl,J,Z⟩⟩
 .have c:Hid _:=l;have d:=(l.kept.block a.heap.size (by omega) (by omega)).trans u;have W:g.cell? ⟨a.heap.size,1,none⟩=some (.pointer none):=cR d rfl;have U:g.cell? ⟨a.heap.size,6,none⟩=some (.bool false):=cR d rfl;have T:=aa g a.heap.size 1 _ _ d;have O:=aa g a.heap.size 6 _ _ d;change Hid _ at m j r d;clear u l i s n;go_wp2_with fail;go_ret
  have k3:Kept (λk=>k=a.heap.size) g ((g.setCell ⟨a.heap.size,1,none⟩ (.pointer (some ⟨bs,0,none⟩))).setCell ⟨a.heap.size,6,none⟩ (.bool true)):=
   (Kept.setCell (S:=λk=>k=a.heap.size) g ⟨a.heap.size,1,none⟩ _ rfl).trans (Kept.setCell (S:=λk=>k=a.heap.size) _ ⟨a.heap.size,6,none⟩ _ rfl) iL
  have y:((g.setCell ⟨a.heap.size,1,none⟩ (.pointer (some ⟨bs,0,none⟩))).setCell ⟨a.heap.size,6,none⟩ (.bool true)).heap[a.heap.size]? =some (.cells #[.pointer (some ⟨w.heap.size+1,0,none⟩),.pointer (some ⟨bs,0,none⟩),.slice none 0 0,.int .i64 0,.int .i64 (-1),.int .i64 0,.bool true] 33 (0,0)):=by have L:=heap_setCell_same g a.heap.size 1 _ _ (.pointer (some ⟨bs,0,none⟩)) d.out;exact heap_setCell_same _ a.heap.size 6 _ _ (.bool true) L
  have t:∀k,S' k->k=w.heap.size+1\/k=w.heap.size\/F.heap.size<=k:=λk b=>by
   rcases c.foot k b with(h|h)|h;.exact .inl h
   .exact .inr (.inl h)
   .exact .inr (.inr h)
  have v:¬S' a.heap.size:=λb=>by have:=t _ b;omega
  have N:=M.sto_lt _ _ _ j.out;have E:=c.reads1;have q:=c.reads0;have B:(Dk.fresh (jd 1000)).bs.length=1000:=by simp [Dk.fresh,jd]
  have x:(Dk.fresh (jd 1000)).reads=0:=rfl;rw [B,x] at E;rw [x] at q;have I:=z.trans c.kept (λk b=>.inr (by rcases b with e|e<;>omega));refine⟨λk=>S' k\/k=bs\/k=a.heap.size,a.heap.size,w.heap.size+1,bs,S',K,rfl,⟨y,⟨c.disk.kept k3 (λk b e=>v (by rw [<-show k=a.heap.size from e];exact b)),r,M.sto_kept _ _ _ _ _ j k3 (by omega),m,c.fuse,q,by omega,by show (0:Int)<=_;omega⟩,c.size.trans B,aP _ _ _ _,Told.nil _ _,?_,λk b=>.inl b,.inr (.inl rfl),.inr (.inr rfl),λk b=>(by cases b),λk b=>b.elim,v,by omega,λk b=>(by cases b),λk b=>b.elim⟩,I.trans k3 (λk b=>.inr (by rw [b];omega)),?_,by omega⟩
  .intro k b;have Y:=k3.size;rcases b with b|rfl|rfl;.have:=c.disk.lt k b;omega
   .omega
   .omega
  .rintro k (b|rfl|rfl);.have:=t k b;omega
   .omega
   .omega
 .exact absurd J (H _ l.fuse)
end
end keep
namespace keep
open law (zP za zL qx zD xm J6 Chg Uc)
variable {w w':World}{a:Option Addr}{T:Nat->Prop}{D:Dk}{V:zP}
theorem Tryz.infoKp:(Tryz.prog.info? 85).map (λi=>(i.zero,i.size,i.bytes))=some (some (.agg #[.string ⟨#[]⟩,.int .i64 0,.slice none 0 0]),3,48):=by kernel_rfl
theorem YB{b n:Nat}{t:TypeId}{c:Nat}{e:List Value}(h:w.ownsRow b t 1 (.slice a n c) n e):n<=c/\c<=maxLen:=by
 rcases h.2 with⟨i,l⟩|⟨g,f,j,d,_,_,k,m,_⟩;.simp only [Value.slice.injEq] at i;omega
 .simp only [Value.slice.injEq] at d;omega
section
variable {M:za} {w w':World} {X T:Nat->Prop} {bp bd bs:Nat} {S:Nat->Prop} {D:Dk} {V:zP} {a:Option Addr} {cap:Nat} {cs:List (List Value)} {G:Nat->Prop}
theorem yk.pushed(h:yk M w X bp bd bs S D V a cap cs G){l o d:World}{H:Nat->Prop}{L:Dk}{j:ByteArray}{B:List UInt8}(k3:Kept (λk=>S k\/k=bs\/k=bp) w l)(u:∀k,H k->(S k\/w.heap.size<=k)/\k<l.heap.size)
 (ag:zD M l bd bs H L (V.add j false B)) (ac:L.bs.length=1000)
 (P:l.heap[bp]? =some (.cells #[.pointer (some ⟨bd,0,none⟩),.pointer (some ⟨bs,0,none⟩),.slice a V.vs.length cap,.int .i64 (V.n0+1),.int .i64 (-1),.int .i64 0,.bool true] 33 (0,0)))
 (R:Kept (λ_=>False) l o) (t:Option Addr) (r:Nat) (z:o.ownsRow 0 5 1 (.slice t B.length r) B.length (B.map qk)) (T:∀k,(Value.slice t B.length r).ownBlock=some k->l.heap.size<=k)
 (ah:Obj) (g m:Nat) (y:d.ownsRow 0 85 3 (.slice (some ⟨g,0,none⟩) (V.vs.length+1) m) (V.vs.length+1) (cs.flatten++[.string j,.int .i64 (V.n0+1),.slice t B.length r])) (v:(o.alloc ah).grownBy d (Value.slice a V.vs.length cap).ownBlock) (p:(Value.slice a V.vs.length cap).ownBlock=some g\/g=o.heap.size+1):
 yk M (d.setCell ⟨bp,2,none⟩ (.slice (some ⟨g,0,none⟩) (V.vs.length+1) m)) (λk=>X k\/(w.heap.size<=k/\k<(d.setCell ⟨bp,2,none⟩ (.slice (some ⟨g,0,none⟩) (V.vs.length+1) m)).heap.size)) bp bd bs H L (V.add j false B) (some ⟨g,0,none⟩) m (cs++[[.string j,.int .i64 (V.n0+1),.slice t B.length r]]) (λk=>G k\/(Value.slice t B.length r).ownBlock=some k)/\
  Kept X w (d.setCell ⟨bp,2,none⟩ (.slice (some ⟨g,0,none⟩) (V.vs.length+1) m)):=by
 have K:=h.lt;have hbs:=h.xlt bs h.xb;have ap:=k3.size;have al:=R.size;have E:Kept (λk=>(Value.slice a V.vs.length cap).ownBlock=some k) o d:=(Kept.alloc _ o ah).trans (Kept.grown v (λk b=>b)) iL;have J:Kept (λk=>(Value.slice a V.vs.length cap).ownBlock=some k) l d:=(R.mono fE).trans E iL;have s:=Kept.setCell (S:=λk=>k=bp) d ⟨bp,2,none⟩ (.slice (some ⟨g,0,none⟩) (V.vs.length+1) m) rfl;have A:Kept (λk=>(Value.slice a V.vs.length cap).ownBlock=some k\/k=bp) l (d.setCell ⟨bp,2,none⟩ (.slice (some ⟨g,0,none⟩) (V.vs.length+1) m)):=(J.mono iL).trans s (λ_ h=>.inl (.inr h));have aq:=E.size;have U:(V.add j false B).vs.length=V.vs.length+1:=by simp [zP.add]
 have am:o.heap.size+1<=d.heap.size:=by have:=v.size;simpa using this
 have aj:g<d.heap.size:=by
  rcases y.2 with⟨Y,_⟩|⟨ao,W,ai,af,_,Z,_⟩;.cases Y
  .cases af;exact(lT Z)
 have n:∀k,(Value.slice a V.vs.length cap).ownBlock=some k->k<w.heap.size:=λk b=>h.xlt k (h.xr k b);have ae:∀k,G k->k<w.heap.size:=λk b=>h.xlt k (h.xG k b);have f:∀k,(Value.slice t B.length r).ownBlock=some k->l.heap.size<=k/\k<o.heap.size:=λk b=>⟨T k b,(z.lt k b).2⟩
 have ak:g≠bp:=by
  rcases p with e|e;.exact λq=>(h.rS g e).2.2 q
  .omega
 have C:∀k,(Value.slice (some ⟨g,0,none⟩) (V.add j false B).vs.length m).ownBlock=some k->k=g:=λk b=>by simpa [Value.ownBlock,eq_comm] using b
 have i:∀k,k<w.heap.size->¬S k->¬H k:=λk x F ad=>by rcases (u k ad).1 with Q|Q;exact F Q;omega
 refine⟨⟨?_,?_,ac,?_,?_,?_,?_,.inl h.xb,.inl h.xp,?_,?_,i bp K h.pS,h.pb,?_,?_⟩,?_⟩
 .have e:d.heap[bp]? =_:=(J.block bp (by omega) (λe=>(h.rS bp e).2.2 rfl)).trans P;rw [heap_setCell_same d bp 2 _ _ _ e,U];rfl
 .refine zD.kept ag A (λk b c=>?_) (λc=>c.elim (λe=>(h.rS bs e).2.1 rfl) (λe=>h.pb e.symm));rcases c with e|rfl;.exact i k (n k e) (h.rS k e).1 b
  .exact i k K h.pS b
 .rw [U];have:=s.owns y (λk b e=>by simp [Value.ownBlock] at b;omega);simpa using this
 .refine Told.snoc (((h.told.kept k3 (λk b c=>?_)).kept A (λk b c=>?_)).mono (λk b _=>.inl b)) ⟨t,r,rfl,?_⟩
  .have:=h.gS k b;rcases c with c|c|c;.exact this.1 c
   .exact this.2.1 c
   .exact this.2.2.1 c
  .have:=h.gS k b;rcases c with c|c;.exact this.2.2.2 c
   .exact this.2.2.1 c
  .have ab:=E.owns z (λk b e=>by have:=f k b;have:=n k e;omega);have aa:=s.owns ab (λk b e=>by have:=f k b;omega);exact zu.of_own 5 aa rfl _ (λk b=>.inr b)
 .intro k b;rcases b with b|⟨_,b⟩;.have:=h.xlt k b;have:=s.size;omega
  .exact b
 .intro k b;rcases u k b with⟨x|x,F⟩;.exact .inl (h.xS k x)
  .exact .inr ⟨x,by have:=s.size;omega⟩
 .intro k b;rw [C k b];rcases p with e|e;.exact .inl (h.xr g e)
  .exact .inr ⟨by omega,by have:=s.size;omega⟩
 .intro k b;rcases b with b|b;.exact .inl (h.xG k b)
  .have:=f k b;exact .inr ⟨by omega,by have:=s.size;omega⟩
 .intro k b;rw [C k b];rcases p with e|e
  .have:=h.rS g e;exact⟨i g (n g e) this.1,this.2.1,this.2.2⟩
  .exact⟨λN=>by have:=(u g N).2;omega,by omega,by omega⟩
 .intro k b;have I:k≠g->(Value.slice (some ⟨g,0,none⟩) (V.add j false B).vs.length m).ownBlock≠some k:=λx F=>x (C k F);rcases b with b|b
  .have:=h.gS k b;have O:=ae k b
   exact⟨i k O this.1,this.2.1,this.2.2.1,I (λe=>by
    rcases p with q|q;.exact this.2.2.2 (by rw [e];exact q)
    .omega)⟩
  .have an:=f k b
   exact⟨λN=>by have:=(u k N).2;omega,by omega,by omega,I (λe=>by
    rcases p with q|q;.have:=n g q;omega
    .omega)⟩
 .refine(k3.mono (λk b=>?_)).trans A (λk b=>.inl ?_)
  .rcases b with b|rfl|rfl;.exact h.xS k b
   .exact h.xb
   .exact h.xp
  .rcases b with b|rfl;.exact h.xr k b
   .exact h.xp
theorem uU(A:qx M)(bq:∀f,M.Fu f->f≠0)(h:yk M w X bp bd bs S D V a cap cs G)(bN:weight V.vs<470)(bK:V.n0<=1000000)(bG:D.reads<=1000000000)(o:ByteArray)(U:zh o.data.toList=true)(bI:o.size<=8)(P:Nat->Prop)(aL:∀k,P k->¬X k)(Y:Option Addr)(ao:Nat)(l:List UInt8)(aH:zu w P Y l)(bt:l.length<=140737488355326)(p:l.length<=ao):
 Calls Tryz.prog 15 #[.pointer (some ⟨bp,0,none⟩),.string o,.slice Y l.length ao] w λe w'=>e=.returned (.bool true)/\∃S' bi T aP a4 G',yk M w' (λk=>X k\/(w.heap.size<=k/\k<w'.heap.size)) bp bd bs S' bi (V.add o false (l.take 300)) T aP a4 G'/\bi.reads<=D.reads+40/\Kept X w w':=by
 obtain⟨aX,bo,bh,bm,bf,bk,bl⟩:=h.c;have b:Hid (yk M w X bp bd bs S D V a cap cs G):=h;have bQ:Hid (zu w P Y l):=aH;have bF:Hid (∀k,P k->¬X k):=aL;have a8:=h.lt;have bE:=h.fore.live.good.few;have aq:=h.size;have bA:=h.fore.reads0;have aW:Hid (zh o.data.toList=true):=U;have ap:Hid (∀w',Kept X w w'->Calls Tryz.prog 28 #[.slice Y l.length ao] w' λe au=>∃T aO,e=.returned (.slice T (l.take 300).length aO)/\au.ownsRow 0 5 1 (.slice T (l.take 300).length aO) (l.take 300).length ((l.take 300).map qk)/\Kept (λ_=>False) w' au/\∀k,(Value.slice T (l.take 300).length aO).ownBlock=some k->w'.heap.size<=k):=λw' k=>vA w' P Y ao l (aH.kept k aL) bt p;have bM:(l.take 300).length<=300:=by rw [ay];omega
 generalize l.take 300=B at*;clear h aH aL U bl;go_enter Tryz.func15,Tryz.ntmps15;go_wp2_with fail
 go_region_held3 (λw'=>w'.cell? ⟨bp,1,none⟩=some (.pointer (some ⟨bs,0,none⟩))) (go_keep) ((first
  |(go_at_call 28;refine(ap.out _ (by exact Kept.drew X w)).mono ?_;rintro e L ⟨aU,aS,rfl,ab,v,aE⟩;have F:Kept (λ_=>False) w L:=⟨v.os,v.tape,v.output,v.size,v.block⟩;have a5:Hid (L.ownsRow 0 5 1 (.slice aU B.length aS) B.length (B.map qk)):=ab;have u:Hid (Kept (λ_=>False) w L):=F;have a9:Hid (∀k,(Value.slice aU B.length aS).ownBlock=some k->w.heap.size<=k):=aE;have J:=YB ab;have aj:L.cell? ⟨bp,1,none⟩=some (.pointer (some ⟨bs,0,none⟩)):=(b.out.kept F nF).c.2.1;clear ab v aE F)
  |(go_at_call 27;refine(A.live L bd bs S (λk=>w.heap.size<=k) D V o aU aS B (b.out.kept u.out nF).fore (by unfold maxLen;omega) (zu.of_own 5 a5.out rfl _ (λk j=>a9.out k j)) (λk j=>⟨λbD=>by have:=b.out.xlt k (b.out.xS k bD);omega,λe=>by have:=b.out.xlt bs b.out.xb;omega⟩) (by omega) J.1 (by have:=J.2;unfold maxLen at this;omega)).mono ?_;rintro e m ⟨W,N,c,n,q,rfl,E,ac,ak⟩;have d:Hid (xm M L m bd bs S N D W 40 q):=E;have aM:Hid _:=ac;have bu:Hid (n=if c=0 then V.n0+1 else 0):=ak;have aT:m.cell? ⟨bp,1,none⟩=some (.pointer (some ⟨bs,0,none⟩)):=(E.kept.cell (a:=⟨bp,1,none⟩) (by have:=u.out.size;show bp<_;omega) (λp=>p.elim b.out.pS b.out.pb)).trans aj;clear E ac ak)))
 have ba:ue (zh o.data.toList) B.length=0:=by rw [aW.out];unfold ue;first|rfl|(rw [az (by omega)])|(simp;omega)
 have aK:xP V.vs (qd B.length) D.bs.length=true:=by unfold xP qd;rw [aq];refine aG ?_;omega
 obtain⟨rfl,rfl,I⟩:c=0/\q=some bd/\M.Live W (V.add o false B):=by
  rcases aM.out.is with h|h|h|h;.exact absurd ba h.1
  .exact h.2
  .rw [aK] at h;exact absurd h.2.2.2.2 (by simp)
  .exact absurd h.2.2.2.1 (bq _ d.out.fuse)
 have ak:=bu.out;rw [aB rfl] at ak;subst ak;have bn:Hid (M.Live W (V.add o false B)):=I;have k2:Kept (λk=>S k\/k=bs\/k=bp) w m:=(u.out.mono fE).trans d.out.kept (λk j=>.inl (j.imp id .inl));have C:m.heap[bp]? =_:=(d.out.kept.block bp (by have:=u.out.size;omega) (λp=>p.elim b.out.pS b.out.pb)).trans ((u.out.block bp a8 (λz=>z)).trans b.out.head);have aY:Hid (m.heap[bp]? =some (.cells #[.pointer (some ⟨bd,0,none⟩),.pointer (some ⟨bs,0,none⟩),.slice a V.vs.length cap,.int .i64 V.n0,.int .i64 (-1),.int .i64 0,.bool true] 33 (0,0))):=C;have aN:m.cell? ⟨bp,6,none⟩=some (.bool true):=cR C rfl;have aI:m.cell? ⟨bp,3,none⟩=some (.int .i64 V.n0):=cR C rfl;have al:=λi=>aa m bp i _ _ C;have aJ:=al 6;have aQ:=al 3;have a3:Hid (Kept (λk=>S k\/k=bs\/k=bp) w m):=k2;have br:bp<m.heap.size:=by have:=k2.size;omega
 have bz:decide (V.n0<V.n0+1)=true:=aG (by omega);clear I C al k2;go_wp2_with fail
 have Q:((m.setCell ⟨bp,6,none⟩ (.bool true)).setCell ⟨bp,3,none⟩ (.int .i64 (V.n0+1))).heap[bp]? =some (.cells #[.pointer (some ⟨bd,0,none⟩),.pointer (some ⟨bs,0,none⟩),.slice a V.vs.length cap,.int .i64 (V.n0+1),.int .i64 (-1),.int .i64 0,.bool true] 33 (0,0)):=by have bx:=heap_setCell_same m bp 6 _ _ (.bool true) aY.out;exact heap_setCell_same _ bp 3 _ _ (.int .i64 (V.n0+1)) bx
 have H:Kept (λk=>k=bp) m ((m.setCell ⟨bp,6,none⟩ (.bool true)).setCell ⟨bp,3,none⟩ (.int .i64 (V.n0+1))):=(Kept.setCell (S:=λk=>k=bp) m ⟨bp,6,none⟩ _ rfl).trans (Kept.setCell (S:=λk=>k=bp) _ ⟨bp,3,none⟩ _ rfl) iL;generalize (m.setCell ⟨bp,6,none⟩ (.bool true)).setCell ⟨bp,3,none⟩ (.int .i64 (V.n0+1))=r at*;have aw:Hid (r.heap[bp]? =some (.cells #[.pointer (some ⟨bd,0,none⟩),.pointer (some ⟨bs,0,none⟩),.slice a V.vs.length cap,.int .i64 (V.n0+1),.int .i64 (-1),.int .i64 0,.bool true] 33 (0,0))):=Q;have O:Hid (Kept (λk=>k=bp) m r):=H;have ad:Hid (Kept (λk=>S k\/k=bs\/k=bp) w r):=a3.out.trans H (λk j=>.inl (.inr (.inr j)))
 have aZ:Hid (Kept X w r):=ad.out.mono (λk j=>by
  rcases j with j|rfl|rfl;.exact b.out.xS k j
  .exact b.out.xb
  .exact b.out.xp)
 have aR:r.cell? ⟨bp,2,none⟩=some (.slice a V.vs.length cap):=cR Q rfl;have R:bp<r.heap.size:=by have:=H.size;omega
 have a1:Hid (r.ownsRow 0 85 3 (.slice a V.vs.length cap) V.vs.length cs.flatten):=ad.out.owns b.out.row (λk j p=>by
  have:=b.out.rS k j;rcases p with p|p|p;.exact this.1 p
  .exact this.2.1 p
  .exact this.2.2 p)
 obtain⟨ag,av,ax,aC,ar⟩:=qU Tryz.infoKp;have K:Hid (Tryz.prog.info? 85=some ag/\ag.zero=some (.agg #[.string ⟨#[]⟩,.int .i64 0,.slice none 0 0])/\ag.size=3/\ag.bytes=48):=⟨av,ax,aC,ar⟩;clear av ax aC ar Q H aX bo bh bm bf bk aj aT aN aI aJ aQ
 go_region_law ((first
  |(go_simp;go_at_call 28;refine(ap.out _ (by exact aZ.out.trans (Kept.drew X r) iL)).mono ?_;rintro e t ⟨an,am,rfl,aF,x,aD⟩;have y:Kept (λ_=>False) r t:=⟨x.os,x.tape,x.output,x.size,x.block⟩;have bj:Hid (t.ownsRow 0 5 1 (.slice an B.length am) B.length (B.map qk)):=aF;have af:Hid (Kept (λ_=>False) r t):=y;have a2:Hid (∀k,(Value.slice an B.length am).ownBlock=some k->r.heap.size<=k):=aD;have aV:t.cell? ⟨bp,2,none⟩=some (.slice a V.vs.length cap):=(y.cell (a:=⟨bp,2,none⟩) R (λz=>z)).trans aR;have ah:bp<t.heap.size:=(by have:=y.size;omega);clear aF x aD y;dsimp only)
  |(refine step_append_lies _ rfl (.tmp 46) (.tmp 52) 31 rfl 0 85 ag _ 3 48 Tryz.underlying31 K.out.1 K.out.2.1 K.out.2.2.1 K.out.2.2.2 rfl (by omega) (.slice a V.vs.length cap) V.vs.length cs.flatten (by rfl) (by exact World.ownsRow.alloc (af.out.owns a1.out nF) _) ⟨t.heap.size,0,none⟩ 1 1 [.string o,.int .i64 (V.n0+1),.slice an B.length am] (by rfl) (by rfl) (by exact World.news_of_block (heap_alloc_new t _)) (by simp [Value.oneCell']) (by omega) (by unfold maxLen;omega) (by omega) (ai _) (t.heap.size+1) (by simp) ?_;intro g bB bg ae s aA bv;have a7:Hid _:=ae;have be:Hid _:=s;have bc:Hid ((Value.slice a V.vs.length cap).ownBlock=some g\/g=t.heap.size+1):=aA;have bH:bg.cell? ⟨bp,2,none⟩=some (.slice a V.vs.length cap):=(s.cell_far ⟨bp,2,none⟩ (by simp;omega) (λe=>(b.out.rS bp e.symm).2.2 rfl)).trans (((Kept.alloc (λ_=>False) t _).cell (a:=⟨bp,2,none⟩) ah (λz=>z)).trans aV);have bJ:bg.frozen? ⟨bp,2,none⟩=false:=(s.frozen_far ⟨bp,2,none⟩ (by simp;omega) (λe=>(b.out.rS bp e.symm).2.2 rfl)).trans (aa _ bp 2 _ _ (((Kept.alloc (λ_=>False) t _).block bp ah (λz=>z)).trans ((af.out.block bp R (λz=>z)).trans aw.out)));clear ae s aA)))
 all_goals
  go_wp2;go_ret;have bO:=u.out.size;have Z:∀k,N k->(S k\/w.heap.size<=k)/\k<r.heap.size:=λk j=>⟨(d.out.foot k j).imp id (λh=>by omega),by have:=d.out.disk.lt k j;have:=O.out.size;omega⟩;have hbs:=b.out.xlt bs b.out.xb
  have a0:¬N bs:=λj=>by
   rcases (Z bs j).1 with h|h;.exact b.out.fore.apart h
   .omega
  have bb:¬N bp:=λj=>by
   rcases (Z bp j).1 with h|h;.exact b.out.pS h
   .omega
  have bL:=d.out.reads0;have bP:=d.out.reads1;have bw:zD M m bd bs N W (V.add o false B):=⟨d.out.disk,a0,d.out.sto,bn.out,d.out.fuse,by omega,by omega,by show V.n0+1<=_;omega⟩;have bC:=zD.kept bw O.out (λk j e=>bb (by rw [<-show k=bp from e];exact j)) (λe=>b.out.pb e.symm);have a6:=yk.pushed b.out ad.out Z bC (d.out.size.trans aq) aw.out af.out an am bj.out a2.out _ g bB a7.out be.out bc.out;exact⟨rfl,N,W,_,_,_,_,a6.1,by omega,a6.2⟩
end
structure bn where
 key:Int
 what:Int
 la:Option Addr
 l:List UInt8
 lc:Nat
 fuse:Int
 ka:Option Addr
 ks:List Bool
 kc:Nat
def bn.cells(o:bn):List Value:=[.int .i64 o.key,.int .i64 o.what,.slice o.la o.l.length o.lc,.int .i64 o.fuse,.slice o.ka o.ks.length o.kc]
structure bn.Ok (w:World) (Q:Nat->Prop) (o:bn):Prop where
 key:zs o.key
 what:zs o.what
 fuse:zs o.fuse
 l:zu w Q o.la o.l
 len:o.l.length<=140737488355326
 cap:o.l.length<=o.lc
 klen:o.ks.length<=140737488355326
 ks:∀j,j<o.ks.length->∃kb ko,o.ka=some ⟨kb,ko,none⟩/\Q kb/\kb<w.heap.size/\w.cell? ⟨kb,ko+j,none⟩=some (.bool (o.ks.getD j false))
theorem bn.Ok.kept{Q:Nat->Prop}{n:bn}(h:n.Ok w Q)(k:Kept T w w')(f:∀i,Q i->¬T i):n.Ok w' Q:=
 ⟨h.key,h.what,h.fuse,h.l.kept k f,h.len,h.cap,h.klen,λj g=>by
  obtain⟨b,d,m,c,e,l⟩:=h.ks j g
  exact⟨b,d,m,c,au e k.size,(k.cell (a:=⟨b,d+j,none⟩) e (f b c)).trans l⟩⟩
structure Qa (w:World) (Q:Nat->Prop) (a:Option Addr) (ods:List bn):Prop where
 each:∀i (hi:i<ods.length),∃b o,a=some ⟨b,o,none⟩/\Q b/\b<w.heap.size/\w.rangeAt b (o+i*5) ods[i].cells
 ok:∀i (hi:i<ods.length),ods[i].Ok w Q
theorem Qa.kept{Q:Nat->Prop}{c:List bn}(h:Qa w Q a c)(k:Kept T w w')(g:∀i,Q i->¬T i):Qa w' Q a c:=
 ⟨λi d=>by
  obtain⟨b,o,n,e,f,m⟩:=h.each i d
  exact⟨b,o,n,e,au f k.size,λj v l=>(k.cell (a:=⟨b,o+i*5+j,none⟩) f (g b e)).trans (m j v l)⟩,λi d=>(h.ok i d).kept k g⟩
def vi(M:za)(w:World)(X:Nat->Prop)(bp:Nat)(D:Dk)(V:zP):Prop:=∃bd bs S a cap cs G,yk M w X bp bd bs S D V a cap cs G
theorem vi.kept{M:za}{X:Nat->Prop}{bp:Nat}(h:vi M w X bp D V)(k:Kept T w w')(b:∀i,X i->¬T i):vi M w' X bp D V:=by
 obtain⟨bd,bs,S,a,cap,cs,G,h⟩:=h;exact⟨bd,bs,S,a,cap,cs,G,h.kept k b⟩
structure Fit (V:zP) (D:Dk) (n t:Nat):Prop where
 weight:weight V.vs<=473
 n0:V.n0<=n
 reads:D.reads<=40*(n:Int)+2000000*t
theorem ja(V:zP)(b:ByteArray)(a:Bool)(l:List UInt8):weight (V.add b a l).vs=weight V.vs+qd l.length:=by
 unfold weight zP.add;simp
theorem yM:∀vs:List zw,vs.length<=weight vs
 |[]=>ai _
 |v::vs=>by have:=yM vs;unfold weight qd at this ⊢;simp only [aT,mz,ae];omega
theorem Fit.done(h:Fit V D V.vs.length 1):Fit V D 473 1:=by
 have a:=h.weight;have c:=yM V.vs;have b:=h.n0;have d:=h.reads;exact⟨a,by omega,by omega⟩
theorem yk.again{M:za}{X:Nat->Prop}{bp bd bs:Nat}{S:Nat->Prop}{cap:Nat}{cs:List (List Value)}{G:Nat->Prop}(h:yk M w X bp bd bs S D V a cap cs G):yk M (w.setCell ⟨bp,6,none⟩ (.bool true)) X bp bd bs S D V a cap cs G:=by
 have k:=Kept.setCell (S:=λk=>k=bp) w ⟨bp,6,none⟩ (.bool true) rfl;refine⟨?_,zD.kept h.fore k (λi b e=>h.pS (by rw [<-show i=bp from e];exact b)) (λe=>h.pb e.symm),h.size,k.owns h.row (λi b e=>(h.rS i b).2.2 e),h.told.kept k (λi b e=>(h.gS i b).2.2.1 e),λi b=>au (h.xlt i b) k.size,h.xS,h.xb,h.xp,h.xr,h.xG,h.pS,h.pb,h.rS,h.gS⟩;rw [heap_setCell_same w bp 6 _ _ _ h.head];rfl
theorem gW(M:za)(bb:zL M)(a9:qx M)(aE:∀f,M.Fu f->f≠0)(w:World)(Q:Nat->Prop)(aO:∀k,Q k->k<w.heap.size)(a:Option Addr)(cap:Nat)(d:List bn)(h:Qa w Q a d)(a6:d.length<=2000000000000):
 Calls Tryz.prog 19 #[.slice a d.length cap] w λe w'=>∃X bp D V,e=.returned (.pointer (some ⟨bp,0,none⟩))/\vi M w' X bp D V/\Fit V D 473 1/\Kept (λ_=>False) w w'/\(∀k,X k->w.heap.size<=k)/\(∀v∈V.vs,v.mark=false):=by
 have aT:Hid (Qa w Q a d):=h;have ap:Hid (∀k,Q k->k<w.heap.size):=aO;clear h aO;go_enter Tryz.func19,Tryz.ntmps19;go_wp2_with fail;refine(uz M bb aE _).mono ?_;rintro e j ⟨E,bp,bd,bs,S,D,rfl,s,af,ah,bk⟩;have aF:Hid (vi M j E bp D ⟨[],0⟩):=⟨bd,bs,S,none,0,[],_,s⟩;have p:Hid (Kept (λ_=>False) w j):=af;have m:Hid (∀k,E k->w.heap.size<=k/\k<j.heap.size):=λk c=>⟨ah k c,s.xlt k c⟩;clear s af ah;go_wp2_with fail;refine(ux _).mono ?_;rintro e G ⟨rfl,ae,al⟩;have n:Hid (Kept (λ_=>False) j G):=ae;have T:Hid (G.heap[j.heap.size]? =some (.cells kK 9 (0,0))):=al;clear ae al;go_wp2_with fail;go_loopw [5] (λt wr=>∃i:Nat,i<=d.length/\t=.int .i64 i/\∃X D V,vi M wr X bp D V/\Fit V D V.vs.length 1/\V.n0=V.vs.length/\(∀v∈V.vs,v.mark=false)/\Kept (λk=>E k) G wr/\(∀k,X k->E k\/G.heap.size<=k)) (λt _=>d.length-(intOf t).toNat)
 case atStart=>exact⟨0,ai _,rfl,E,D,⟨[],0⟩,aF.out.kept n.out nF,⟨by simp [weight],by simp,by show D.reads<=_;simp;omega⟩,rfl,by simp,Kept.refl _ _,λk c=>.inl c⟩
 case round=>
  obtain⟨i,bz,rfl,X,D,V,s,ax,bA,a1,c,aJ⟩:=hrel;obtain⟨an,ac,S',a5,aw,aI,G',s⟩:=s;obtain⟨aB,a3,aY,a2,aP,bu,ao⟩:=s.c;have br:=ao 6;have C:Hid (yk M wr X bp an ac S' D V a5 aw aI G'):=s;have W:Hid (Fit V D V.vs.length 1):=ax;have J:Hid (∀v∈V.vs,v.mark=false):=a1;have u:Hid (Kept (λk=>E k) G wr):=c;have o:Hid (∀k,X k->E k\/G.heap.size<=k):=aJ;have bx:=ax.weight;have bo:=yM V.vs;have bl:=s.lt;clear s ax a1 c aJ aB a3 aY a2 aP ao;by_cases ad:i<d.length
  .have aR:(i:Int)<(d.length:Int):=by omega
   by_cases aW:weight V.vs<470
   .have aL:((weight V.vs:Nat):Int)<470:=by omega
    obtain⟨b,H,rfl,aS,Z,R⟩:=aT.out.each i ad;have F:Hid (d[i].Ok w Q):=aT.out.ok i ad;have A:Kept (λk=>w.heap.size<=k) w wr:=((p.out.trans n.out iL).mono fE).trans u.out (λk c=>.inl (m.out k c).1);have K:b<wr.heap.size:=by have:=A.size;omega
    have bc:wr.cell? ⟨b,H+i*5,none⟩=some (.int .i64 d[i].key):=(A.cell (a:=⟨b,H+i*5,none⟩) Z (by show ¬w.heap.size<=b;omega)).trans (R 0 _ rfl);have a8:wr.cell? ⟨b,H+i*5+2,none⟩=some (.slice d[i].la d[i].l.length d[i].lc):=(A.cell (a:=⟨b,H+i*5+2,none⟩) Z (by show ¬w.heap.size<=b;omega)).trans (R 2 _ rfl);have aG:Hid (Kept (λk=>w.heap.size<=k) w wr):=A;have O:wr.heap[j.heap.size]? =some (.cells kK 9 (0,0)):=(u.out.block j.heap.size (lT T.out) (λaN=>by have:=(m.out _ aN).2;omega)).trans T.out;have a0:Hid (wr.heap[j.heap.size]? =some (.cells kK 9 (0,0))):=O;clear R A;generalize d[i]=g at*;have aU:Hid (∀a4,Calls Tryz.prog 21 #[.int .i64 g.key,.int .i64 12] a4 λe w'=>e=.returned (.int .i64 (qX g.key 12:Int))/\w'=a4):=λa4=>yV a4 g.key 12 F.out.key (by omega) (by omega);have aA:qX g.key 12<12:=by have:=xy g.key 12 (by omega);omega
    generalize qX g.key 12=r at*;obtain⟨x,ab,N,aQ⟩:=vH r aA;have bm:(r:Int)<12:=by omega
    have bf:(0:Int)<=(r:Int):=by omega
    have az:Hid (zh x.data.toList=true):=N;have aM:wr.cell? ⟨j.heap.size,r,none⟩=some (.string x):=(ak wr _ r _ _ _ O).trans ab;clear N ab O;go_wp2_with (go_at_call 32;refine(yL C.out (by omega)).mono ?_;rintro e Y ⟨rfl,y⟩;rw [y];clear y Y)
    go_region_held3 (λw'=>w'.cell? ⟨b,H+i*5,none⟩=some (.int .i64 g.key)/\w'.cell? ⟨b,H+i*5+2,none⟩=some (.slice g.la g.l.length g.lc)/\w'.cell? ⟨bp,6,none⟩=some (.bool true)/\w'.cell? ⟨j.heap.size,r,none⟩=some (.string x)) (first|(exact⟨((Kept.setCell (S:=λk=>k=bp) l ⟨bp,6,none⟩ (.bool true) rfl).cell (a:=⟨b,H+i*5,none⟩) am P).trans aX,((Kept.setCell (S:=λk=>k=bp) l ⟨bp,6,none⟩ (.bool true) rfl).cell (a:=⟨b,H+i*5+2,none⟩) am P).trans aZ,aa.out.again.c.2.2.2.2.2.1,((Kept.setCell (S:=λk=>k=bp) l ⟨bp,6,none⟩ (.bool true) rfl).cell (a:=⟨j.heap.size,r,none⟩) av ar).trans aV⟩)|go_keep) ((first
     |(go_at_call 21;refine(aU.out _).mono ?_;rintro e Y ⟨rfl,rfl⟩)
     |(go_at_call 15;refine(uU a9 aE (w:=wr.drew) (X:=X) (C.out.kept (Kept.drew (λ_=>False) wr) nF) aW (by omega) (by have:=W.out.reads;omega) x az.out aQ (λk=>Q k) (λk c I=>by have:=ap.out k c;have:=p.out.size;have:=n.out.size;rcases o.out k I with h|h;have:=m.out k h;omega;omega) g.la g.lc g.l ((F.out.kept aG.out (λk c aN=>by have:=ap.out k c;omega)).l.kept (Kept.drew (λ_=>False) wr) nF) F.out.len F.out.cap).mono ?_;rintro e l ⟨rfl,bh,aK,a7,aq,aH,be,z,bq,q⟩;have aa:Hid (yk M l (λk=>X k\/(wr.heap.size<=k/\k<l.heap.size)) bp an ac bh aK (V.add x false (g.l.take 300)) a7 aq aH be):=z;have B:Hid (Kept X wr l):=⟨q.os,q.tape,q.output,q.size,q.block⟩;have U:¬X b:=(λI=>by have:=ap.out b aS;have:=p.out.size;have:=n.out.size;rcases o.out b I with h|h;have:=m.out b h;omega;omega);have aX:l.cell? ⟨b,H+i*5,none⟩=some (.int .i64 g.key):=(B.out.cell (a:=⟨b,H+i*5,none⟩) K U).trans bc;have aZ:l.cell? ⟨b,H+i*5+2,none⟩=some (.slice g.la g.l.length g.lc):=(B.out.cell (a:=⟨b,H+i*5+2,none⟩) K U).trans a8;have bj:l.cell? ⟨bp,6,none⟩=some (.bool true):=z.c.2.2.2.2.2.1;have bt:l.frozen? ⟨bp,6,none⟩=false:=z.c.2.2.2.2.2.2 6;have bg:=z.lt;have P:b≠bp:=(λe=>U (by rw [e];exact C.out.xp));have am:b<l.heap.size:=(by have:=q.size;have bw:wr.drew.heap.size=wr.heap.size:=rfl;omega);have ag:¬X j.heap.size:=(λI=>by have bv:=(lT T.out);rcases o.out _ I with h|h;have:=m.out _ h;omega;omega);have au:j.heap.size<wr.heap.size:=(lT a0.out);have aV:l.cell? ⟨j.heap.size,r,none⟩=some (.string x):=(B.out.cell (a:=⟨j.heap.size,r,none⟩) au ag).trans aM;have ar:j.heap.size≠bp:=(λe=>ag (by rw [e];exact C.out.xp));have av:j.heap.size<l.heap.size:=(by have:=B.out.size;omega);clear z q)))
    go_wp2;go_roundw
    case rel=>
     have aC:weight (V.add x false (g.l.take 300)).vs<=473:=by
      rw [ja];have:(g.l.take 300).length<=300:=by rw [ay];omega
      unfold qd;omega
     have L:(V.add x false (g.l.take 300)).vs.length=V.vs.length+1:=by simp [zP.add]
     have bi:=W.out.reads;refine⟨i+1,by omega,by go_num,_,aK,V.add x false (g.l.take 300),⟨_,_,_,_,_,_,_,aa.out.again⟩,⟨aC,?_,?_⟩,?_,?_,(u.out.trans B.out (λk c=>o.out k c)).trans (Kept.setCell (S:=λk=>k=bp) l ⟨bp,6,none⟩ _ rfl) (λk c=>o.out k (by rw [show k=bp from c];exact C.out.xp)),λk c=>?_⟩
     .show V.n0+1<=_;rw [L];omega
     .rw [L];push_cast;omega
     .show V.n0+1=_;rw [L];omega
     .intro v ba;rcases aj.1 (show v∈V.vs++[_] from ba) with h|h;.exact J.out v h
      .rw [aD.1 h]
     .rcases c with c|⟨c,_⟩;.exact o.out k c
      .exact .inr (by have:=u.out.size;omega)
    case measure=>simp [intOf];omega
   .have aL:decide (((weight V.vs:Nat):Int)<470)=false:=decide_eq_false (by omega);go_wp2_with (go_at_call 32;refine(yL C.out (by omega)).mono ?_;rintro e Y ⟨rfl,y⟩;rw [y];clear y Y);go_ret;exact⟨X,bp,D,V,rfl,⟨_,_,_,_,_,_,_,C.out⟩,W.out.done,(p.out.trans n.out iL).trans u.out (λk c=>.inr (m.out k c).1),λk c=>(o.out k c).elim (λh=>(m.out k h).1) (λh=>by have:=p.out.size;have:=n.out.size;omega),J.out⟩
  .have aR:decide ((i:Int)<(d.length:Int))=false:=decide_eq_false (by omega);go_wp2_with fail;go_ret;exact⟨X,bp,D,V,rfl,⟨_,_,_,_,_,_,_,C.out⟩,W.out.done,(p.out.trans n.out iL).trans u.out (λk c=>.inr (m.out k c).1),λk c=>(o.out k c).elim (λh=>(m.out k h).1) (λh=>by have:=p.out.size;have:=n.out.size;omega),J.out⟩
end keep
namespace keep
open law (zP za yg zD xm zJ Z8 uv)
theorem vU{P:Program}{k:Array Oper}{rest:List Oper}{o:Oper}{a:Act}{w:World}{Q:Exit->Act->World->Prop}(m:o.guard=none)(s L:Operand)(t:TypeId)
 (F:o.op=.call {callee:=.builtin .append,args:=#[s,L],argTypes:=#[t,t] })
 (e:TypeId) (i:TypeInfo) (z:Value) (b bytes:Nat) (A:P.underlying t=some (.slice e)) (J:P.info? e=some i) (E:i.zero=some z)
 (g:i.size=b) (r:i.bytes=bytes) (x:z.cells.size=b) (q:0<b) (v:Value) (n:Nat) (j:List Value) (I:a.eval s=.slice none 0 0) (K:a.eval L=v) (l:w.ownsRow 0 e b v n j) (D:∀u∈j,u.oneCell'=true)
 (p:n<=maxLen) (f:n*bytes<=140737488355328)
 (h:∀d c w',w'.ownsRow 0 e b (.slice d n c) n j->w.grownBy w' none->((Value.slice d n c).ownBlock=none\/(Value.slice d n c).ownBlock=some w.heap.size)->wpList P k Q rest (a.put o.dst (.slice d n c)) w'):wpList P k Q (o::rest) a w:=by
 refine md m λM C=>?_;obtain⟨d,c,w',G,y,H,B⟩:=disk.run_copy_row (P:=P) w t o.type e i z b bytes A J E g r x q v n j l D p f;unfold Oper.wp execOp;simp only [F,resolve,invoke,builtin,il,iI,eM,iQ,aT,im,I,K,G];exact C _ _ (h d c w' y H B)
def Jw(L:List zw)(n:Nat):ByteArray:=if n=0 then ByteArray.empty else (L.getD (n-1) ⟨ByteArray.empty,0,false,[]⟩).key
def KC(L:List zw)(n:Nat):Int:=if n=0 then 0 else (L.getD (n-1) ⟨ByteArray.empty,0,false,[]⟩).num
theorem bq:∀(c:List zw) (n:Nat) (u:zw),c.Pairwise (λa b=>a.ahead b=true)->n<c.length->c[n]? =some u->c.filter (λv=>u.ahead v)=c.drop (n+1)
 |[],n,u,_,h,_=>by simp at h
 |x::c,0,u,hs,_,hu=>by
  obtain rfl:x=u:=by simpa using hu
  rw [aR] at hs;rw [hE,az (zw.ahead_irrefl x)];exact eT.2 (λv e=>hs.1 v e)
 |x::c,n+1,u,hs,h,hu=>by
  rw [aR] at hs;have d:c[n]? =some u:=by simpa using hu
  have f:=hs.1 u (mD d);rw [hE,az (zw.ahead_asymm f)];exact bq c n u hs.2 (by simpa using h) d
theorem YC(v:zw)(p k:ByteArray)(n:Int)(a:k≠ByteArray.empty):qT v p k n=(qT v p ByteArray.empty 0&&(⟨k,n,false,[]⟩:zw).ahead v):=by
 unfold qT zw.ahead;have:decide (k=ByteArray.empty)=false:=decide_eq_false a;rw [this];simp [eq_comm]
theorem qB.behind{vs:List zw}{p:ByteArray}{a:List zw}(h:qB vs p ByteArray.empty 0 a)(d:∀v∈vs,v.key≠ByteArray.empty)(n:Nat)(k:n<=a.length):qB vs p (Jw a n) (KC a n) (a.drop n):=by
 by_cases g:n=0
 .subst g;exact h
 .obtain⟨j,rfl⟩:∃j,n=j+1:=⟨n-1,by omega⟩;obtain⟨u,b⟩:∃u,a[j]? =some u:=⟨a[j],by simp⟩;have c:u∈vs:=(eA.1 (h.perm.subset (mD b))).1;have e:Jw a (j+1)=u.key:=by unfold Jw;simp [b]
  have i:KC a (j+1)=u.num:=by unfold KC;simp [b]
  rw [e,i];refine⟨h.sorted.sublist (List.drop_sublist _ _),?_⟩
  have f:vs.filter (λv=>qT v p u.key u.num)=(vs.filter λv=>qT v p ByteArray.empty 0).filter (λv=>u.ahead v):=by rw [mN];refine mq λv _=>?_;rw [YC v p u.key u.num (d u c),Bool.and_comm];rfl
  rw [f,<-bq a j u h.sorted (by omega) b];exact h.perm.filter _
end keep
end Go.Proofs.YtcoengihaobddaaGreatDoor
