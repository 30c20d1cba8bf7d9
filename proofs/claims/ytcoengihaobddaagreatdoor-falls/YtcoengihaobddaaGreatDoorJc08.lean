/- Part 8 of 36 of a proof: Keep1, Book5, Keep2, Keep3, Keep4, Keep7, Keep8 -/
import Derived.Test.YtcoengihaobddaaGreatDoorJc07
set_option maxHeartbeats 8000000
set_option linter.unusedVariables false
set_option linter.unusedSimpArgs false
set_option maxRecDepth 8000
namespace Go.Proofs.YtcoengihaobddaaGreatDoor
open Go.ChangeShapes Go.WideShapes Go.ChangeAt Go.RowKit disk ref book
namespace keep
open keys (zh ze zy zs zq)
def Vf(c n:Int):Nat:=((if c<0 then -(c+1) else c)%n).toNat
theorem Qu(w:World)(c n:Int)(d:zD c)(g:0<n)(h:n<=1000):
 Calls Tryz.prog 21 #[.int .i64 c,.int .i64 n] w λe w'=>e=.returned (.int .i64 (Vf c n:Int))/\w'=w:=by
 obtain⟨f,h2⟩:=d;by_cases b:c<0
 .go_enter Tryz.func21,Tryz.ntmps21;go_wp2;go_ret;have e: -((c+1).tmod n)=(-(c+1))%n:=by rw [<-Int.neg_tmod,Int.tmod_eq_emod_of_nonneg (by omega)]
  have a:=Int.emod_nonneg (-(c+1)) (by omega:n≠0);exact⟨zh (by unfold Vf;rw [aB b,mh a];exact e),rfl⟩
 .go_enter Tryz.func21,Tryz.ntmps21;go_wp2;go_ret;have a:=Int.emod_nonneg c (by omega:n≠0);exact⟨zh (by unfold Vf;rw [aw (by omega),mh a]),rfl⟩
def G9:Array Value:=#[.string ⟨#[97]⟩,.string ⟨#[97,47]⟩,.string ⟨#[97,47,98]⟩,.string ⟨#[97,98]⟩,.string ⟨#[98]⟩,.string ⟨#[98,45,49]⟩,.string ⟨#[45]⟩,.string ⟨#[47]⟩,.string ⟨#[48,57]⟩,.string ⟨#[122,122,122,122,122,122,122,122]⟩,.string ⟨#[97,47,98,47,99,47,100,47]⟩,.string ⟨#[109]⟩]
theorem dD(w:World)(P:Nat->Prop)(a:Option Addr)(cap:Nat)(l:List UInt8)(A:zL w P a l)(H:l.length<=140737488355326)(G:l.length<=cap):
 Calls Tryz.prog 28 #[.slice a l.length cap] w λe w'=>∃x u,e=.returned (.slice x (l.take 300).length u)/\w'.ownsRow 0 5 1 (.slice x (l.take 300).length u) (l.take 300).length ((l.take 300).map qA)/\za (λ_=>False) w w'/\∀k,(Value.slice x (l.take 300).length u).ownBlock=some k->w.heap.size<=k:=by
 have v:Hid (zL w P a (l.take 300)):=by
  rcases A with rfl|⟨b,F,D,h2,B,C⟩;.exact .inl rfl
  .exact .inr ⟨b,F,D,h2,B,λj E=>by
    rw [lY]
    exact C j (by simp at E;omega)⟩
 obtain⟨i,t,q,r,s⟩:=yy Tryz.infoU8;have f:Hid (Tryz.prog.info? 5=some i/\i.zero=some (.int .u8 0)/\i.size=1/\i.bytes=1):=⟨t,q,r,s⟩;clear t q r s A;by_cases B:300<l.length
 .have p:(l.take 300).length=300:=by simp;omega
  go_enter Tryz.func28,Tryz.ntmps28;go_wp2_with (refine yQ P rfl (.tmp 9) (.tmp 10) 35 rfl 5 i _ Tryz.underlying35 f.1 f.2.1 f.2.2.1 f.2.2.2 rfl a cap (l.take 300) (by rfl) (by rw [p];rfl) (by exact v) (by omega) ?_;intro z y w2 d c g;have n:Hid _:=d;have o:Hid _:=c;have m:Hid _:=g;clear d c g);go_ret;exact⟨z,y,by rw [p];rfl,n,za.grown (S:=λ_=>False) o (λk h=>by cases h),λk h=>by rcases m.out with e|e<;>rw [e] at h<;>simp at h;omega⟩
 .have p:l.take 300=l:=an (by omega);rw [p] at v ⊢;go_enter Tryz.func28,Tryz.ntmps28;go_wp2_with (refine yQ P rfl (.tmp 9) (.tmp 10) 35 rfl 5 i _ Tryz.underlying35 f.1 f.2.1 f.2.2.1 f.2.2.2 rfl a cap l (by rfl) (by rfl) (by exact v) (by omega) ?_;intro z y w2 d c g;have n:Hid _:=d;have o:Hid _:=c;have m:Hid _:=g;clear d c g);go_ret;exact⟨z,y,rfl,n,za.grown (S:=λ_=>False) o (λk h=>by cases h),λk h=>by rcases m.out with e|e<;>rw [e] at h<;>simp at h;omega⟩
theorem xB(w:World)(a b:ByteArray)(p:a.size<=9223372036854775807)(o:b.size<=9223372036854775807):
 Calls Tryz.prog 46 #[.string a,.string b] w λe w'=>e=.returned (.bool (qw a b))/\∃n,w'=w.drewN n:=by
 go_enter Tryz.func46,Tryz.ntmps46;go_wp2;go_loopw [5] (λi wr=>∃k:Nat,k<=a.size/\k<=b.size/\i=.int .i64 k/\qC (a.data.toList.drop k) (b.data.toList.drop k)=qw a b/\∃n,wr=w.drewN n) (λi _=>a.size-(intOf i).toNat)
 case atStart=>exact⟨0,aj _,aj _,rfl,rfl,0,rfl⟩
 case round=>
  obtain⟨k,f,d,rfl,c,n,rfl⟩:=hrel;change Hid _ at c;by_cases l:k<a.size
  .by_cases h2:k<b.size
   .have h:Hid _:=dw a b k l h2 _ c.out;by_cases e:(a[k].toNat:Int)=b[k].toNat
    .have j:((a[k].toNat:Int) !=b[k].toNat)=false:=by simpa using e
     have g:Hid _:=e;clear e;go_wp2;go_quiet (fail);go_wp2;go_roundw
     case rel=>exact⟨k+1,by omega,by omega,by go_num,h.1 g,_,rfl⟩
     case measure=>simp [intOf];omega
    .have j:((a[k].toNat:Int) !=b[k].toNat)=true:=by simpa using e
     have g:Hid _:=e;clear e;go_wp2;go_quiet (fail);go_wp2;go_quiet (fail);go_wp2;go_ret;exact⟨ze (by rw [<-h.2 g.out];congr 1;apply propext;omega),_,by rw [World.drewN_drewN,World.drewN_drewN]⟩
   .go_wp2;go_ret;exact⟨ze (by rw [<-c.out,ux _ _ k (by simp;omega) (by simpa using f) (by simpa using d)];simp),_,rfl⟩
  .have m:=decide_eq_false (by omega);go_wp2;go_ret;exact⟨ze (by rw [<-c.out,ux _ _ k (by simp;omega) (by simpa using f) (by simpa using d)];simp),_,rfl⟩
end keep
namespace law
open keys (zh ze zy zs)
theorem vy{w:World}{a:Option Addr}{c:Nat}{L:List zB}(h:w.ownsRow 0 94 4 (.slice a L.length c) L.length (qr L))(n:0<L.length):∃g,a=some ⟨g,0,none⟩/\g<w.heap.size/\∀k (e:k<L.length),w.cell? ⟨g,k*4,none⟩=some (.string L[k].key)/\w.cell? ⟨g,k*4+1,none⟩=some (.int .i64 L[k].num)/\w.cell? ⟨g,k*4+2,none⟩=some (.bool L[k].mark)/\w.cell? ⟨g,k*4+3,none⟩=some (.int .i64 (L[k].body.length:Int)):=by
 have h':=h;rcases h.2 with⟨_,o⟩|⟨g,cap,m,f,_,j,_⟩;.omega
 .simp only [Value.slice.injEq] at f;obtain⟨rfl,_,rfl⟩:=f;refine⟨g,rfl,(lT j),λk e=>?_⟩
  have d:w.rangeAt g (k*4) ((L.map ZG)[k]'(by simpa using e)):=by refine yr (l:=L.map ZG) (c:=4) (by rw [ez];exact h') (λb i=>?_) k (by simpa using e);obtain⟨v,_,rfl⟩:=au.1 i;rfl
  rw [ia] at d;exact⟨d 0 _ rfl,d 1 _ rfl,d 2 _ rfl,d 3 _ rfl⟩
theorem ci(w:World)(d f:Option Addr)(c c2:Nat)(L:List zB)(m:Bool)(U:L.length<=1000)(z:w.ownsRow 0 94 4 (.slice d L.length c) L.length (qr L))(h2:w.ownsRow 0 94 4 (.slice f L.length c2) L.length (qr L)):
 Calls Tryz.prog 109 #[.agg #[.slice d L.length c,.bool m],.agg #[.slice f L.length c2,.bool m]] w λe w'=>e=.returned (.bool true)/\za (λ_=>False) w w':=by
 change Hid _ at z h2;have q:Hid (za (λ_=>False) w ((w.alloc (.cells #[.slice d L.length c,.bool m] 90)).alloc (.cells #[.slice f L.length c2,.bool m] 90))):=(za.alloc _ _ _).trans (za.alloc _ _ _) iL;have D:Hid (((w.alloc (.cells #[.slice d L.length c,.bool m] 90)).alloc (.cells #[.slice f L.length c2,.bool m] 90)).heap[w.heap.size]? =some (.cells #[.slice d L.length c,.bool m] 90 (0,0))):=((za.alloc (λ_=>False) _ _).block w.heap.size (by simp) id).trans (ac w _)
 have E:Hid (((w.alloc (.cells #[.slice d L.length c,.bool m] 90)).alloc (.cells #[.slice f L.length c2,.bool m] 90)).heap[w.heap.size+1]? =some (.cells #[.slice f L.length c2,.bool m] 90 (0,0))):=by have:=ac (w.alloc (.cells #[.slice d L.length c,.bool m] 90)) (.cells #[.slice f L.length c2,.bool m] 90);rw [World.size_alloc] at this;exact this
 have I:((w.alloc (.cells #[.slice d L.length c,.bool m] 90)).alloc (.cells #[.slice f L.length c2,.bool m] 90)).heap.size=w.heap.size+2:=by simp
 go_enter Tryz.func109,Tryz.ntmps109;go_wp2_with fail;generalize ((w.alloc (.cells #[.slice d L.length c,.bool m] 90)).alloc (.cells #[.slice f L.length c2,.bool m] 90))=O at*;go_loopw [5] (λt wr=>∃i:Nat,i<=L.length/\t=.int .i64 i/\za (λ_=>False) O wr) (λt _=>L.length-(intOf t).toNat)
 case atStart=>exact⟨0,aj _,rfl,za.refl _ _⟩
 case round=>
  obtain⟨i,W,rfl,g⟩:=hrel;have T:=g.size;have x:Hid (wr.heap[w.heap.size]? =_):=(g.block _ (by omega) id).trans D.out;have C:Hid (wr.heap[w.heap.size+1]? =_):=(g.block _ (by omega) id).trans E.out;change Hid _ at g;have Z:wr.cell? ⟨w.heap.size,0,none⟩=some (.slice d L.length c):=cR x.out rfl;have S:wr.cell? ⟨w.heap.size+1,0,none⟩=some (.slice f L.length c2):=cR C.out rfl;by_cases n:i<L.length
  .obtain⟨l,rfl,h,o⟩:=vy z (by omega);obtain⟨k,rfl,j,p⟩:=vy h2 (by omega);obtain⟨F,B,u,r⟩:=o i n;obtain⟨s,y,G,A⟩:=p i n;have b:Hid _:=q.trans g iL;have Q:=(b.cell (a:=⟨l,i*4,none⟩) h id).trans F;have N:=(b.cell (a:=⟨l,i*4+1,none⟩) h id).trans B;have X:=(b.cell (a:=⟨l,i*4+2,none⟩) h id).trans u;have M:=(b.cell (a:=⟨l,i*4+3,none⟩) h id).trans r;have R:=(b.cell (a:=⟨k,i*4,none⟩) j id).trans s;have V:=(b.cell (a:=⟨k,i*4+1,none⟩) j id).trans y;have P:=(b.cell (a:=⟨k,i*4+2,none⟩) j id).trans G;have Y:=(b.cell (a:=⟨k,i*4+3,none⟩) j id).trans A;have H:k<wr.heap.size:=by have:=b.size;omega
   clear o p F B u r s y G A;generalize L[i]=v at*;have J:(i:Int)<(L.length:Int):=by omega
   have K:w.heap.size<wr.heap.size/\w.heap.size+1<wr.heap.size:=by omega
   go_wp2;go_roundw
   case rel=>exact⟨i+1,by omega,by go_num,(g.trans (za.alloc (λ_=>False) _ _) iL).trans (za.alloc (λ_=>False) _ _) iL⟩
   case measure=>simp [intOf];omega
  .have e:i=L.length:=by omega
   subst e;go_wp2;go_ret;exact⟨rfl,q.trans g iL⟩
end law
namespace keep
open law (qr ZG vy)
open keys (zh ze zy zs zq)
variable {w:World}{a:Option Addr}{c:Nat}
def Row(w:World)(a:Option Addr)(c:Nat)(L:List zB):Prop:=w.ownsRow 0 94 4 (.slice a L.length c) L.length (qr L)
theorem Row.cells{L:List zB}(h:Row w a c L)(b:0<L.length):∃g,a=some ⟨g,0,none⟩/\g<w.heap.size/\∀k (d:k<L.length),w.cell? ⟨g,k*4,none⟩=some (.string L[k].key)/\w.cell? ⟨g,k*4+1,none⟩=some (.int .i64 L[k].num)/\w.cell? ⟨g,k*4+2,none⟩=some (.bool L[k].mark)/\w.cell? ⟨g,k*4+3,none⟩=some (.int .i64 (L[k].body.length:Int)):=vy h b
theorem Row.kept{w':World}{T:Nat->Prop}{L:List zB}(h:Row w a c L)(k:za T w w')(b:∀i,(Value.slice a L.length c).ownBlock=some i->¬T i):Row w' a c L:=k.owns h b
theorem Tryz.infoVer:(Tryz.prog.info? 94).map (λi=>(i.zero,i.size,i.bytes))=some (some (.agg #[.string ⟨#[]⟩,.int .i64 0,.bool false,.int .i64 0]),4,40):=by kernel_rfl
theorem Xd(l:List zB)(v:zB):qr (l++[v])=qr l++ZG v:=by unfold qr;simp
theorem j6(l:List zB):∀u∈qr l,u.oneCell'=true:=λu a=>by
 unfold qr at a;obtain⟨c,b,a⟩:=eW.1 a;obtain⟨v,_,rfl⟩:=au.1 b;simp only [ZG,ar,ic,or_false] at a;rcases a with rfl|rfl|rfl|rfl<;>rfl
theorem Row.nil(w:World):Row w none 0 []:=aV w 0 94 4
def pre(p:ByteArray)(L:List zB):List zB:=L.filter λv=>p.data.toList.isPrefixOf v.key.data.toList
theorem Vg(p:ByteArray)(L:List zB)(k:Nat)(h:k<L.length):pre p (L.take (k+1))=if p.data.toList.isPrefixOf L[k].key.data.toList then pre p (L.take k)++[L[k]] else pre p (L.take k):=by
 unfold pre;rw [ao h,lP,eX,mI];split<;>simp
theorem UL(p:ByteArray)(L:List zB)(k:Nat):(pre p (L.take k)).length<=L.length:=aD (ip _ _) (by rw [aC];omega)
theorem Row.pushed{wr d:World}{us:List zB}(b:za (λ_=>False) w wr)(f:∀k,(Value.slice a us.length c).ownBlock=some k->w.heap.size<=k)(v:zB)(l:Obj)(g c2:Nat)
 (i:d.ownsRow 0 94 4 (.slice (some ⟨g,0,none⟩) (us.length+1) c2) (us.length+1) (qr us++ZG v))
 (h:(wr.alloc l).grownBy d (Value.slice a us.length c).ownBlock) (j:(Value.slice a us.length c).ownBlock=some g\/g=wr.heap.size+1):
 Row d (some ⟨g,0,none⟩) c2 (us++[v])/\za (λ_=>False) w d/\w.heap.size<=g:=by
 have k2:za (λk=>w.heap.size<=k) wr d:=((za.alloc _ wr l).trans (za.grown (S:=λk=>w.heap.size<=k) h (λk b=>f k b)) iL);refine⟨?_,b.trans k2 (λk b=>.inr b),?_⟩
 .unfold Row;rw [Xd,ag];exact i
 .rcases j with e|e;.exact f _ e
  .have:=b.size;omega
theorem xL(w:World)(a:Option Addr)(c:Nat)(L:List zB)(ah:L.length<=10000)(h:Row w a c L)(M:∀k,(Value.slice a L.length c).ownBlock=some k->k<w.heap.size)(p:ByteArray)(af:p.size<=8)(s:∀v∈L,v.key.size<=8):
 Calls Tryz.prog 24 #[.slice a L.length c,.string p] w λe w'=>∃d b,e=.returned (.slice d (pre p L).length b)/\Row w' d b (pre p L)/\za (λ_=>False) w w'/\∀k,(Value.slice d (pre p L).length b).ownBlock=some k->w.heap.size<=k:=by
 obtain⟨x,I,D,G,H⟩:=yy Tryz.infoVer;have q:Hid (Tryz.prog.info? 94=some x/\x.zero=some (.agg #[.string ⟨#[]⟩,.int .i64 0,.bool false,.int .i64 0])/\x.size=4/\x.bytes=40):=⟨I,D,G,H⟩;have U:Hid (Row w a c L):=h;have V:Hid _:=s;change Hid _ at M;clear I D G H h s;go_enter Tryz.func24,Tryz.ntmps24;go_wp2;go_loopw [5,6] (λad i wr=>∃k:Nat,k<=L.length/\i=.int .i64 k/\za (λ_=>False) w wr/\∃d b,ad=.slice d (pre p (L.take k)).length b/\Row wr d b (pre p (L.take k))/\∀r,(Value.slice d (pre p (L.take k)).length b).ownBlock=some r->w.heap.size<=r) (λ_ i _=>L.length-(intOf i).toNat)
 case atStart=>exact⟨0,aj _,rfl,za.refl _ _,none,0,rfl,Row.nil w,λk s=>by cases s⟩
 case round=>
  obtain⟨k,s,rfl,j,d,b,rfl,C,u⟩:=hrel;have N:Hid (Row wr a c L):=U.kept j nF;have A:Hid (Row wr d b (pre p (L.take k))):=C;have y:Hid (∀r,(Value.slice d (pre p (L.take k)).length b).ownBlock=some r->w.heap.size<=r):=u;change Hid _ at j;clear C u;by_cases B:k<L.length
  .have R:Hid _:=Vg p L k B;have W:=UL p L k;obtain⟨g,rfl,ab,S⟩:=N.cells (by omega);obtain⟨aa,ae,h2,ak⟩:=S k B;have X:=V.out L[k] (ai _);clear S;generalize P:pre p (L.take k)=us at*;change Hid _ at P;generalize L[k]=v at*;have Y:(k:Int)<(L.length:Int):=by omega
   have z:p.data.toList.isPrefixOf v.key.data.toList=true->_:=λJ=>R.trans (aB J);have n:¬p.data.toList.isPrefixOf v.key.data.toList=true->_:=λJ=>R.trans (aw J);change Hid _ at z n;by_cases Q:p.size<=v.key.size
   .have E:=gw v.key p Q
    cases l:p.data.toList.isPrefixOf v.key.data.toList with
    |true=>
     rw [l] at E;have f:Hid _:=l;clear l;go_wp2_with (refine wpList_append_lies _ rfl (.tmp 32) (.tmp 37) 44 rfl 0 94 x _ 4 40 Tryz.underlying44 q.1 q.2.1 q.2.2.1 q.2.2.2 rfl (by omega) (.slice d us.length b) us.length (qr us) (by rfl) (by exact er A _) ⟨wr.heap.size,0,none⟩ 1 1 (ZG v) (by rfl) (by rfl) (by exact World.news_of_block (ac wr _)) (by simp [Value.oneCell',ZG]) (by omega) (by unfold maxLen;omega) (by omega) (aj _) (wr.heap.size+1) (by simp) ?_;intro O c2 Z o m t T;have K:Hid _:=Row.pushed j y v _ O c2 o m t;clear o m t);go_roundw
     case rel=>exact⟨k+1,by omega,by go_num,K.2.1,some ⟨O,0,none⟩,c2,by rw [z.out f.out,ag];rfl,by rw [z.out f.out];exact K.1,λr F=>by simp [Value.ownBlock] at F;rw [<-F];exact K.2.2⟩
     case measure=>simp [intOf];omega
    |false=>
     rw [l] at E;have f:Hid _:=l;clear l;go_wp2;go_roundw
     case rel=>exact⟨k+1,by omega,by go_num,j,d,b,by rw [n.out (by rw [f.out];simp)],by rw [n.out (by rw [f.out];simp)];exact A,by rw [n.out (by rw [f.out];simp)];exact y⟩
     case measure=>simp [intOf];omega
   .have l:=kX v.key p (by omega);have f:Hid _:=l;clear l;go_wp2;go_roundw
    case rel=>exact⟨k+1,by omega,by go_num,j,d,b,by rw [n.out (by rw [f.out];simp)],by rw [n.out (by rw [f.out];simp)];exact A,by rw [n.out (by rw [f.out];simp)];exact y⟩
    case measure=>simp [intOf];omega
  .have e:L.take k=L:=an (by omega);rw [e] at A y;rw [e];go_wp2;go_ret;exact⟨d,b,rfl,A,j,y⟩
end keep
namespace keep
open law (qq zd yb xo xI bY GS Chg)
open keys (zh ze zy zs zq)
variable {w:World}{P:Nat->Prop}{cs:List (List Value)}{vs:List zB}
structure Gv (w:World) (P:Nat->Prop) (cs:List Value) (v:zB):Prop where
 at_:∃a cap,cs=[.string v.key,.int .i64 v.num,.slice a v.body.length cap]/\zL w P a v.body
structure Told (w:World) (P:Nat->Prop) (cs:List (List Value)) (vs:List zB):Prop where
 len:cs.length=vs.length
 each:∀i (h:i<cs.length) (h':i<vs.length),Gv w P cs[i] vs[i]
theorem Told.kept{w':World}{T:Nat->Prop}(h:Told w P cs vs)(k:za T w w')(f:∀i,P i->¬T i):Told w' P cs vs:=
 ⟨h.len,λi b h2=>by
  obtain⟨a,c,e,d⟩:=(h.each i b h2).at_
  exact⟨a,c,e,d.kept k f⟩⟩
theorem Told.mono{Q:Nat->Prop}(h:Told w P cs vs)(f:∀i,P i->i<w.heap.size->Q i):Told w Q cs vs:=
 ⟨h.len,λi b h2=>by
  obtain⟨a,c,e,d⟩:=(h.each i b h2).at_
  exact⟨a,c,e,d.mono f⟩⟩
theorem Told.nil(w:World)(P:Nat->Prop):Told w P [] []:=⟨rfl,λi h=>by simp at h⟩
theorem Told.three(h:Told w P cs vs):∀c∈cs,c.length=3:=λc d=>by
 obtain⟨i,b,rfl⟩:=ed d;obtain⟨a,c,e,_⟩:=(h.each i b (by rw [<-h.len];exact b)).at_;rw [e];rfl
structure fT (M:zd) (w:World) (X:Nat->Prop) (bp bd bs:Nat) (S:Nat->Prop) (D:Dk) (V:qq) (a:Option Addr) (cap:Nat) (cs:List (List Value)) (G:Nat->Prop):Prop where
 head:w.heap[bp]? =some (.cells #[.pointer (some ⟨bd,0,none⟩),.pointer (some ⟨bs,0,none⟩),.slice a V.vs.length cap,.int .i64 V.n0,.int .i64 (-1),.int .i64 0,.bool true] 33 (0,0))
 fore:xI M w bd bs S D V
 size:D.bs.length=1000
 row:w.ownsRow 0 85 3 (.slice a V.vs.length cap) V.vs.length cs.flatten
 told:Told w G cs V.vs
 xlt:∀k,X k->k<w.heap.size
 xS:∀k,S k->X k
 xb:X bs
 xp:X bp
 xr:∀k,(Value.slice a V.vs.length cap).ownBlock=some k->X k
 xG:∀k,G k->X k
 pS:¬S bp
 pb:bp≠bs
 rS:∀k,(Value.slice a V.vs.length cap).ownBlock=some k->¬S k/\k≠bs/\k≠bp
 gS:∀k,G k->¬S k/\k≠bs/\k≠bp/\(Value.slice a V.vs.length cap).ownBlock≠some k
section
variable {M:zd} {w w':World} {X T:Nat->Prop} {bp bd bs:Nat} {S:Nat->Prop} {D:Dk} {V:qq} {a:Option Addr} {cap:Nat} {cs:List (List Value)} {G:Nat->Prop}
theorem xI.kept(h:xI M w bd bs S D V)(k:za T w w')(b:∀i,S i->¬T i)(a:¬T bs):xI M w' bd bs S D V:=
 ⟨h.disk.kept k b,h.apart,M.sto_kept _ _ _ _ _ h.sto k a,h.live,h.fuse,h.reads0,h.reads1,h.few⟩
theorem fT.lt(h:fT M w X bp bd bs S D V a cap cs G):bp<w.heap.size:=h.xlt bp h.xp
theorem fT.kept(h:fT M w X bp bd bs S D V a cap cs G)(k:za T w w')(c:∀i,X i->¬T i):fT M w' X bp bd bs S D V a cap cs G:=
 ⟨(k.block bp h.lt (c bp h.xp)).trans h.head,xI.kept h.fore k (λi b=>c i (h.xS i b)) (c bs h.xb),h.size,k.owns h.row (λi b=>c i (h.xr i b)),h.told.kept k (λi b=>c i (h.xG i b)),
   λi b=>ay (h.xlt i b) k.size,h.xS,h.xb,h.xp,h.xr,h.xG,h.pS,h.pb,h.rS,h.gS⟩
theorem fT.c(h:fT M w X bp bd bs S D V a cap cs G):w.cell? ⟨bp,0,none⟩=some (.pointer (some ⟨bd,0,none⟩))/\w.cell? ⟨bp,1,none⟩=some (.pointer (some ⟨bs,0,none⟩))/\w.cell? ⟨bp,2,none⟩=some (.slice a V.vs.length cap)/\w.cell? ⟨bp,3,none⟩=some (.int .i64 V.n0)/\w.cell? ⟨bp,5,none⟩=some (.int .i64 0)/\w.cell? ⟨bp,6,none⟩=some (.bool true)/\∀i,w.frozen? ⟨bp,i,none⟩=false:=by
 have b:=h.head;refine⟨?_,?_,?_,?_,?_,?_,λi=>aa w bp i _ _ b⟩<;>rw [aG w bp _ _ _ _ b]<;>rfl
theorem fT.rowAt(h:fT M w X bp bd bs S D V a cap cs G)(i:0<V.vs.length):∃g,a=some ⟨g,0,none⟩:=by
 rcases h.row.2 with⟨d,f⟩|⟨g,c,e,b,_⟩;.simp at d;omega
 .cases b;exact⟨g,rfl⟩
theorem fT.cells{g:Nat}(h:fT M w X bp bd bs S D V (some ⟨g,0,none⟩) cap cs G)(i:Nat)(f:i<V.vs.length):
 w.cell? ⟨g,i*3,none⟩=some (.string V.vs[i].key)/\w.cell? ⟨g,i*3+1,none⟩=some (.int .i64 V.vs[i].num)/\∃b a,w.cell? ⟨g,i*3+2,none⟩=some (.slice b V.vs[i].body.length a)/\zL w G b V.vs[i].body:=by
 have d:=h.told.len;have j:=h.row;rw [<-d] at j;have c:=yr j h.told.three i (by rw [d];exact f);obtain⟨b,a,e,k⟩:=(h.told.each i (by rw [d];exact f) f).at_;rw [e] at c;exact⟨c 0 _ rfl,c 1 _ rfl,b,a,c 2 _ rfl,k⟩
theorem xK(h:fT M w X bp bd bs S D V a cap cs G)(y:zl V.vs<=1000):Calls Tryz.prog 32 #[.pointer (some ⟨bp,0,none⟩)] w λe w'=>e=.returned (.int .i64 (zl V.vs:Nat))/\w'=w:=by
 obtain⟨_,_,r,_,u,_,_⟩:=h.c;have o:=h.fore.live.good.few;have j:Hid _:=h.fore.live.good.body;change Hid _ at h;go_enter Tryz.func32,Tryz.ntmps32;go_wp2;go_loop [3,4] (λt i=>∃k:Nat,k<=V.vs.length/\i=.int .i64 k/\t=.int .i64 ((zl (V.vs.take k):Nat):Int)) (λ_ i=>V.vs.length-(intOf i).toNat)
 case atStart=>exact⟨0,aj _,rfl,by simp [zl]⟩
 case round=>
  obtain⟨k,A,rfl,rfl⟩:=hrel;have d:=cG (vs:=V.vs.take k) (λv n=>by have:=j.out v (aP n);omega);have f:(V.vs.take k).length<=V.vs.length:=by rw [aC];omega
  generalize c:zl (V.vs.take k)=s at*;change Hid _ at c;have p:s<=100000:=by omega
  clear d f;by_cases b:k<V.vs.length
  .have m:Hid _:=fw V.vs k b;obtain⟨g,rfl⟩:=h.rowAt (by omega);obtain⟨_,_,C,l,z,_⟩:=h.cells k b;have x:=j.out V.vs[k] (ai b);have q:(k:Int)<(V.vs.length:Int):=by omega
   go_wp2;go_round
   case rel=>exact⟨k+1,by omega,by go_num,by rw [m.out,c.out];unfold yP;go_num⟩
   case measure=>simp [intOf];omega
  .have B:zl V.vs=s:=by
    have e:V.vs.take k=V.vs:=an (by omega);rw [<-c.out,e]
   go_wp2;go_ret;exact⟨zh rfl,rfl⟩
end
end keep
namespace keep
open law (qq zd xD xI bY qr ZG gB)
open keys (zh ze zy zs zq)
variable {a5:Option Addr}{c5:Nat}
theorem x9{P:Program}{k:Array Oper}{rest:List Oper}{o:Oper}{a:Act}{w:World}{Q:Exit->Act->World->Prop}(m:o.guard=none)(s K:Operand)(t:TypeId)
 (E:o.op=.call {callee:=.builtin .append,args:=#[s,K],argTypes:=#[t,t] })
 (e:TypeId) (i:TypeInfo) (z:Value) (b bytes:Nat) (y:P.underlying t=some (.slice e)) (I:P.info? e=some i) (D:i.zero=some z)
 (g:i.size=b) (r:i.bytes=bytes) (x:z.cells.size=b) (q:0<b) (v:Value) (n:Nat) (j:List Value) (H:a.eval s=.slice none 0 0) (J:a.eval K=v) (l:w.ownsRow 0 e b v n j) (C:∀u∈j,u.oneCell'=true)
 (p:n<=maxLen) (f:n*bytes<=140737488355328)
 (h:∀d c w',w'.ownsRow 0 e b (.slice d n c) n j->w.grownBy w' none->((Value.slice d n c).ownBlock=none\/(Value.slice d n c).ownBlock=some w.heap.size)->wpList P k Q rest (a.put o.dst (.slice d n c)) w'):wpList P k Q (o::rest) a w:=by
 refine md m λL B=>?_;obtain⟨d,c,w',F,h2,G,A⟩:=disk.run_copy_row (P:=P) w t o.type e i z b bytes y I D g r x q v n j l C p f;unfold Oper.wp execOp;simp only [E,resolve,invoke,builtin,ie,iI,eD,li,aO,ig,H,J,F];exact B _ _ (h d c w' h2 G A)
def Qv(L:List zB)(n:Nat):ByteArray:=if n=0 then ByteArray.empty else (L.getD (n-1) ⟨ByteArray.empty,0,false,[]⟩).key
def YW(L:List zB)(n:Nat):Int:=if n=0 then 0 else (L.getD (n-1) ⟨ByteArray.empty,0,false,[]⟩).num
theorem fC:∀(L:List zB) (n:Nat) (u:zB),L.Pairwise (λa b=>a.ahead b=true)->n<L.length->L[n]? =some u->L.filter (λv=>u.ahead v)=L.drop (n+1)
 |[],n,u,_,h,_=>by simp at h
 |x::L,0,u,hs,_,hu=>by
  obtain rfl:x=u:=by simpa using hu
  rw [aL] at hs;rw [eX,aw (zB.ahead_irrefl x)];exact eU.2 (λv d=>hs.1 v d)
 |x::L,n+1,u,hs,h,hu=>by
  rw [aL] at hs;have c:L[n]? =some u:=by simpa using hu
  have e:=hs.1 u (me c);rw [eX,aw (zB.ahead_asymm e)];exact fC L n u hs.2 (by simpa using h) c
theorem ZH(v:zB)(p k:ByteArray)(n:Int)(a:k≠ByteArray.empty):qW v p k n=(qW v p ByteArray.empty 0&&(⟨k,n,false,[]⟩:zB).ahead v):=by
 unfold qW zB.ahead;have:decide (k=ByteArray.empty)=false:=decide_eq_false a;rw [this];simp [my]
theorem yz.behind{vs:List zB}{p:ByteArray}{L:List zB}(h:yz vs p ByteArray.empty 0 L)(c:∀v∈vs,v.key≠ByteArray.empty)(n:Nat)(i:n<=L.length):yz vs p (Qv L n) (YW L n) (L.drop n):=by
 by_cases f:n=0
 .subst f;exact h
 .obtain⟨j,rfl⟩:∃j,n=j+1:=⟨n-1,by omega⟩;obtain⟨u,a⟩:∃u,L[j]? =some u:=⟨L[j],by simp⟩;have b:u∈vs:=(ei.1 (h.perm.subset (me a))).1;have d:Qv L (j+1)=u.key:=by unfold Qv;simp [a]
  have g:YW L (j+1)=u.num:=by unfold YW;simp [a]
  rw [d,g];refine⟨h.sorted.sublist (List.drop_sublist _ _),?_⟩
  have e:vs.filter (λv=>qW v p u.key u.num)=(vs.filter λv=>qW v p ByteArray.empty 0).filter (λv=>u.ahead v):=by rw [mp];refine lX λv _=>?_;rw [ZH v p u.key u.num (c u b),Bool.and_comm];rfl
  rw [e,<-fC L j u h.sorted (by omega) a];exact h.perm.filter _
theorem ZI(l r:List zB):qr (l++r)=qr l++qr r:=by unfold qr;simp
theorem gC(l:List zB):(qr l).length=l.length*4:=by
 unfold qr
 induction l with
 |nil=>rfl
 |cons v l a=>simp only [aO,aU,ag,ae,a];simp [ZG];omega
theorem cK(L:List zB)(n m:Nat):L.take (n+((L.drop n).take m).length)=L.take n++(L.drop n).take m:=by
 rw [List.take_add];congr 1;rw [aC];by_cases h:m<=(L.drop n).length;.rw [a8 h]
 .rw [Nat.min_eq_right (by omega),an (aF _),an (by omega)]
theorem Xe(L:List zB)(n:Nat)(h:n<L.length):Qv L (n+1)=L[n].key/\YW L (n+1)=L[n].num:=by
 unfold Qv YW;simp [h]
theorem Qw{k:ByteArray}(h:zq k.data.toList=true):k.size<=8:=by
 unfold zq at h;simp only [aW,aR] at h;simpa using h.1.2
structure J4 (M:zd) (w wr:World) (bd bs:Nat) (S:Nat->Prop) (D:Dk) (V:qq) (L:List zB) (m i n:Nat) (a:Option Addr) (c:Nat) (S':Nat->Prop) (D':Dk):Prop where
 ni:n=i*m
 nlt:n=0\/n<L.length
 fore:xI M wr bd bs S' D' V
 foot:∀k,S' k->S k\/w.heap.size<=k
 kept:za (λk=>S k\/k=bs) w wr
 reads0:D.reads<=D'.reads
 reads1:D'.reads<=D.reads+1000*(i:Int)
 size:D'.bs.length=D.bs.length
 row:Row wr a c (L.take n)
 new:∀k,(Value.slice a n c).ownBlock=some k->w.heap.size<=k/\¬S' k
 nil:n=0->a=none/\c=0
section
variable {M:zd} {w wr w2 w5:World} {bd bs:Nat} {S S' S2:Nat->Prop} {D D' D2:Dk} {V:qq} {L KK:List zB} {m i n q c c2:Nat} {a:Option Addr}
structure Jd (M:zd) (w w5:World) (bd bs:Nat) (S:Nat->Prop) (D:Dk) (V:qq) (L:List zB) (i n:Nat) (a5:Option Addr) (c5:Nat) (S2:Nat->Prop) (D2:Dk):Prop where
 fore:xI M w5 bd bs S2 D2 V
 foot:∀k,S2 k->S k\/w.heap.size<=k
 kept:za (λk=>S k\/k=bs) w w5
 reads0:D.reads<=D2.reads
 reads1:D2.reads<=D.reads+1000*((i:Int)+1)
 size:D2.bs.length=D.bs.length
 row:Row w5 a5 c5 (L.take n)
 new:∀k,(Value.slice a5 n c5).ownBlock=some k->w.heap.size<=k/\¬S2 k
theorem J4.page(h:J4 M w wr bd bs S D V L m i n a c S' D')(b:bY M wr w2 bd bs S' S2 D' D2 1000 (some bd))(g:M.Live D2 V)(hbs:bs<w.heap.size)(t:D2.reads<=2305843009213693952)(T:Nat->Prop)(s:za T w2 w5)(l:∀k,T k->w.heap.size<=k/\¬S2 k)(a5:Option Addr)(c5 j:Nat)(o:Row w5 a5 c5 (L.take j))(q:∀k,(Value.slice a5 j c5).ownBlock=some k->w.heap.size<=k/\¬S2 k):Jd M w w5 bd bs S D V L i j a5 c5 S2 D2:=by
 have f:∀k,S2 k->S k\/w.heap.size<=k:=λk d=>by
  rcases b.foot k d with e|e;.exact h.foot k e
  .exact .inr (by have:=h.kept.size;omega)
 have r:¬S2 bs:=λd=>by
  rcases b.foot bs d with e|e;.exact h.fore.apart e
  .have:=h.kept.size;omega
 have y:=h.reads0;have u:=h.reads1;have z:=b.reads0;have v:=b.reads1;have x:=h.fore.reads0;refine⟨xI.kept ⟨b.disk,r,b.sto,g,b.fuse,by omega,t,h.fore.few⟩ s (λk d p=>(l k p).2 d) (λp=>by have:=(l bs p).1;omega),f,?_,by omega,by omega,b.size.trans h.size,o,q⟩;refine(h.kept.trans (b.kept.mono (S':=λk=>S' k\/k=bs) (λk d=>d)) (λk d=>?_)).trans s (λk d=>.inr (l k d).1);rcases d with d|d;.exact(h.foot k d).imp .inl id
 .exact .inl (.inr d)
theorem J4.first(h:J4 M w wr bd bs S D V L m i 0 none 0 S' D')(a:bY M wr w2 bd bs S' S2 D' D2 1000 (some bd))(c:M.Live D2 V)(hbs:bs<w.heap.size)(n:D2.reads<=2305843009213693952)(l:L.take (0+q)=L.take 0++KK)(r:KK.length=q)(o:Obj)(a5:Option Addr)(c5:Nat)
 (f:w5.ownsRow 0 94 4 (.slice a5 q c5) q (qr KK)) (d:(w2.alloc o).grownBy w5 none) (j:(Value.slice a5 q c5).ownBlock=none\/(Value.slice a5 q c5).ownBlock=some (w2.alloc o).heap.size):Jd M w w5 bd bs S D V L i q a5 c5 S2 D2:=by
 have e:L.take q=KK:=by simpa using l
 have s:=h.kept.size;have h2:=a.kept.size;refine h.page a c hbs n (λ_=>False) ((za.alloc _ w2 o).trans (za.grown d (λk b=>by cases b)) iL) fE a5 c5 q ?_ (λk b=>?_)
 .unfold Row;rw [e,r];exact f
 .have t:k=w2.heap.size+1:=by
   rcases j with g|g<;>rw [g] at b<;>simp at b;omega
  exact⟨by omega,λp=>by have:=a.disk.lt k p;omega⟩
theorem J4.next(h:J4 M w wr bd bs S D V L m i n a c S' D')(b:bY M wr w2 bd bs S' S2 D' D2 1000 (some bd))(l:M.Live D2 V)(hbs:bs<w.heap.size)(v:D2.reads<=2305843009213693952)(t:L.take (n+q)=L.take n++KK)(A:KK.length=q)(y:n+q<=L.length)(z:Obj)(f c5:Nat)
 (o:w5.ownsRow 0 94 4 (.slice (some ⟨f,0,none⟩) (n+q) c5) (n+q) (qr (L.take n)++qr KK)) (j:(w2.alloc z).grownBy w5 (Value.slice a n c).ownBlock) (s:(Value.slice a n c).ownBlock=some f\/f=w2.heap.size+1):Jd M w w5 bd bs S D V L i (n+q) (some ⟨f,0,none⟩) c5 S2 D2:=by
 have B:=h.kept.size;have h2:=b.kept.size
 have g:∀k,(Value.slice a n c).ownBlock=some k->w.heap.size<=k/\¬S2 k:=λk d=>by
  have e:=h.new k d;refine⟨e.1,λp=>?_⟩;rcases b.foot k p with u|u;.exact e.2 u
  .have x:n<=L.length:=by omega
   have C:k<wr.heap.size:=by have r:wr.ownsRow 0 94 4 (.slice a (L.take n).length c) (L.take n).length (qr (L.take n)):=h.row;rw [aC,a8 x] at r;exact(r.lt k d).2
   omega
 refine h.page b l hbs v (λk=>(Value.slice a n c).ownBlock=some k) ((za.alloc _ w2 z).trans (za.grown j (λk d=>d)) iL) g _ _ _ ?_ (λk d=>?_)
 .unfold Row;rw [aC,a8 y,t,ZI];exact o
 .obtain rfl:f=k:=by simpa [Value.ownBlock] using d
  rcases s with e|e;.exact g _ e
  .exact⟨by omega,λp=>by have:=b.disk.lt _ p;omega⟩
theorem Jd.last(h:Jd M w w5 bd bs S D V L i n a5 c5 S2 D2)(o:0<n)(d:n<=L.length):∃g j,a5=some ⟨g,0,none⟩/\g<w5.heap.size/\j+1=n/\w5.cell? ⟨g,j*4,none⟩=some (.string (Qv L n))/\w5.cell? ⟨g,j*4+1,none⟩=some (.int .i64 (YW L n)):=by
 have m:(L.take n).length=n:=by rw [aC,a8 d]
 obtain⟨g,e,f,k⟩:=h.row.cells (by omega);obtain⟨j,rfl⟩:∃j,n=j+1:=⟨n-1,by omega⟩;obtain⟨a,b,_,_⟩:=k j (by omega);obtain⟨c,l⟩:=Xe L j (by omega);rw [lY] at a b;exact⟨g,j,e,f,rfl,by rw [c];exact a,by rw [l];exact b⟩
theorem Jd.on{a:Nat}(h:Jd M w w5 bd bs S D V L i a a5 c5 S2 D2)(b:a=(i+1)*m)(c:a<L.length)(d:0<a):J4 M w w5 bd bs S D V L m (i+1) a a5 c5 S2 D2:=
 ⟨b,.inr c,h.fore,h.foot,h.kept,h.reads0,by have:=h.reads1;push_cast;omega,h.size,h.row,h.new,λe=>by omega⟩
theorem Jd.done{d:Nat}{p:ByteArray}(h:Jd M w w5 bd bs S D V L i d a5 c5 S2 D2)(l:i<2000)(g:d=L.length)(f:yz V.vs p ByteArray.empty 0 L):∃D' S' a c b,Ending.returned (Value.tuple #[.slice a5 d c5,.bool true])=.returned (.tuple #[.slice a b.length c,.bool true])/\bY M w w5 bd bs S S' D D' 2000000 (some bd)/\M.Live D' V/\yz V.vs p ByteArray.empty 0 b/\Row w5 a c b/\∀k,(Value.slice a b.length c).ownBlock=some k->w.heap.size<=k/\¬S' k:=by
 subst g;have e:=h.row;rw [eN] at e;have j:=h.reads1;exact⟨D2,S2,a5,c5,L,rfl,⟨h.fore.disk,h.foot,h.fore.sto,h.kept,h.reads0,by omega,h.size,h.fore.fuse⟩,h.fore.live,f,e,h.new⟩
end
end keep
end Go.Proofs.YtcoengihaobddaaGreatDoor
