/- Part 8 of 36 of a proof: Keep1, Book5, Keep2, Keep3, Keep4, Keep7, Keep8 -/
import Derived.Test.YtcoengihaobddaaGreatDoorJb07
set_option maxHeartbeats 8000000
set_option linter.unusedVariables false
set_option linter.unusedSimpArgs false
set_option maxRecDepth 8000
namespace Go.Proofs.YtcoengihaobddaaGreatDoor
open Go.ChangeShapes Go.WideShapes Go.ChangeAt Go.RowKit disk ref book
namespace keep
open keys (zh zd zx zq zp)
def Vf(c n:Int):Nat:=((if c<0 then -(c+1) else c)%n).toNat
theorem Qu(w:World)(c n:Int)(d:zD c)(f:0<n)(h:n<=1000):
 Calls Tryz.prog 21 #[.int .i64 c,.int .i64 n] w λe w'=>e=.returned (.int .i64 (Vf c n:Int))/\w'=w:=by
 obtain⟨g,h2⟩:=d;by_cases a:c<0
 .go_enter Tryz.func21,Tryz.ntmps21;go_wp2;go_ret;have e: -((c+1).tmod n)=(-(c+1))%n:=by rw [<-Int.neg_tmod,Int.tmod_eq_emod_of_nonneg (by omega)]
  have b:=Int.emod_nonneg (-(c+1)) (by omega:n≠0);exact⟨zh (by unfold Vf;rw [aB a,mh b];exact e),rfl⟩
 .go_enter Tryz.func21,Tryz.ntmps21;go_wp2;go_ret;have b:=Int.emod_nonneg c (by omega:n≠0);exact⟨zh (by unfold Vf;rw [aw (by omega),mh b]),rfl⟩
def G9:Array Value:=#[.string ⟨#[97]⟩,.string ⟨#[97,47]⟩,.string ⟨#[97,47,98]⟩,.string ⟨#[97,98]⟩,.string ⟨#[98]⟩,.string ⟨#[98,45,49]⟩,.string ⟨#[45]⟩,.string ⟨#[47]⟩,.string ⟨#[48,57]⟩,.string ⟨#[122,122,122,122,122,122,122,122]⟩,.string ⟨#[97,47,98,47,99,47,100,47]⟩,.string ⟨#[109]⟩]
theorem dE(w:World)(P:Nat->Prop)(a:Option Addr)(cap:Nat)(l:List UInt8)(B:zO w P a l)(H:l.length<=140737488355326)(F:l.length<=cap):
 Calls Tryz.prog 28 #[.slice a l.length cap] w λe w'=>∃v y,e=.returned (.slice v (l.take 300).length y)/\w'.ownsRow 0 5 1 (.slice v (l.take 300).length y) (l.take 300).length ((l.take 300).map qy)/\za (λ_=>False) w w'/\∀k,(Value.slice v (l.take 300).length y).ownBlock=some k->w.heap.size<=k:=by
 have x:Hid (zO w P a (l.take 300)):=by
  rcases B with rfl|⟨b,G,C,h2,A,E⟩;.exact .inl rfl
  .exact .inr ⟨b,G,C,h2,A,λj D=>by
    rw [lY]
    exact E j (by simp at D;omega)⟩
 obtain⟨i,q,s,t,r⟩:=yv Tryz.infoU8;have f:Hid (Tryz.prog.info? 5=some i/\i.zero=some (.int .u8 0)/\i.size=1/\i.bytes=1):=⟨q,s,t,r⟩;clear q s t r B;by_cases A:300<l.length
 .have p:(l.take 300).length=300:=by simp;omega
  go_enter Tryz.func28,Tryz.ntmps28;go_wp2_with (refine yN P rfl (.tmp 9) (.tmp 10) 35 rfl 5 i _ Tryz.underlying35 f.1 f.2.1 f.2.2.1 f.2.2.2 rfl a cap (l.take 300) (by rfl) (by rw [p];rfl) (by exact x) (by omega) ?_;intro u z w2 d c g;have n:Hid _:=d;have o:Hid _:=c;have m:Hid _:=g;clear d c g);go_ret;exact⟨u,z,by rw [p];rfl,n,za.grown (S:=λ_=>False) o (λk h=>by cases h),λk h=>by rcases m.out with e|e<;>rw [e] at h<;>simp at h;omega⟩
 .have p:l.take 300=l:=an (by omega);rw [p] at x ⊢;go_enter Tryz.func28,Tryz.ntmps28;go_wp2_with (refine yN P rfl (.tmp 9) (.tmp 10) 35 rfl 5 i _ Tryz.underlying35 f.1 f.2.1 f.2.2.1 f.2.2.2 rfl a cap l (by rfl) (by rfl) (by exact x) (by omega) ?_;intro u z w2 d c g;have n:Hid _:=d;have o:Hid _:=c;have m:Hid _:=g;clear d c g);go_ret;exact⟨u,z,rfl,n,za.grown (S:=λ_=>False) o (λk h=>by cases h),λk h=>by rcases m.out with e|e<;>rw [e] at h<;>simp at h;omega⟩
theorem xv(w:World)(a b:ByteArray)(o:a.size<=9223372036854775807)(m:b.size<=9223372036854775807):
 Calls Tryz.prog 46 #[.string a,.string b] w λe w'=>e=.returned (.bool (qu a b))/\∃n,w'=w.drewN n:=by
 go_enter Tryz.func46,Tryz.ntmps46;go_wp2;go_loopw [5] (λi wr=>∃k:Nat,k<=a.size/\k<=b.size/\i=.int .i64 k/\qB (a.data.toList.drop k) (b.data.toList.drop k)=qu a b/\∃n,wr=w.drewN n) (λi _=>a.size-(intOf i).toNat)
 case atStart=>exact⟨0,aj _,aj _,rfl,rfl,0,rfl⟩
 case round=>
  obtain⟨k,f,d,rfl,c,n,rfl⟩:=hrel;change Hid _ at c;by_cases l:k<a.size
  .by_cases h2:k<b.size
   .have h:Hid _:=dx a b k l h2 _ c.out;by_cases e:(a[k].toNat:Int)=b[k].toNat
    .have j:((a[k].toNat:Int) !=b[k].toNat)=false:=by simpa using e
     have g:Hid _:=e;clear e;go_wp2;go_quiet (fail);go_wp2;go_roundw
     case rel=>exact⟨k+1,by omega,by omega,by go_num,h.1 g,_,rfl⟩
     case measure=>simp [intOf];omega
    .have j:((a[k].toNat:Int) !=b[k].toNat)=true:=by simpa using e
     have g:Hid _:=e;clear e;go_wp2;go_quiet (fail);go_wp2;go_quiet (fail);go_wp2;go_ret;exact⟨zd (by rw [<-h.2 g.out];congr 1;apply propext;omega),_,by rw [World.drewN_drewN,World.drewN_drewN]⟩
   .go_wp2;go_ret;exact⟨zd (by rw [<-c.out,uw _ _ k (by simp;omega) (by simpa using f) (by simpa using d)];simp),_,rfl⟩
  .have p:=decide_eq_false (by omega);go_wp2;go_ret;exact⟨zd (by rw [<-c.out,uw _ _ k (by simp;omega) (by simpa using f) (by simpa using d)];simp),_,rfl⟩
end keep
namespace law
open keys (zh zd zx zq)
theorem vv{w:World}{a:Option Addr}{c:Nat}{L:List zB}(h:w.ownsRow 0 94 4 (.slice a L.length c) L.length (qq L))(o:0<L.length):∃g,a=some ⟨g,0,none⟩/\g<w.heap.size/\∀k (e:k<L.length),w.cell? ⟨g,k*4,none⟩=some (.string L[k].key)/\w.cell? ⟨g,k*4+1,none⟩=some (.int .i64 L[k].num)/\w.cell? ⟨g,k*4+2,none⟩=some (.bool L[k].mark)/\w.cell? ⟨g,k*4+3,none⟩=some (.int .i64 (L[k].body.length:Int)):=by
 have h':=h;rcases h.2 with⟨_,n⟩|⟨g,cap,m,f,_,i,_⟩;.omega
 .simp only [Value.slice.injEq] at f;obtain⟨rfl,_,rfl⟩:=f;refine⟨g,rfl,(lT i),λk e=>?_⟩
  have d:w.rangeAt g (k*4) ((L.map ZG)[k]'(by simpa using e)):=by refine ym (l:=L.map ZG) (c:=4) (by rw [ez];exact h') (λb j=>?_) k (by simpa using e);obtain⟨v,_,rfl⟩:=au.1 j;rfl
  rw [ia] at d;exact⟨d 0 _ rfl,d 1 _ rfl,d 2 _ rfl,d 3 _ rfl⟩
theorem ci(w:World)(c d:Option Addr)(f c2:Nat)(L:List zB)(m:Bool)(T:L.length<=1000)(x:w.ownsRow 0 94 4 (.slice c L.length f) L.length (qq L))(h2:w.ownsRow 0 94 4 (.slice d L.length c2) L.length (qq L)):
 Calls Tryz.prog 109 #[.agg #[.slice c L.length f,.bool m],.agg #[.slice d L.length c2,.bool m]] w λe w'=>e=.returned (.bool true)/\za (λ_=>False) w w':=by
 change Hid _ at x h2;have q:Hid (za (λ_=>False) w ((w.alloc (.cells #[.slice c L.length f,.bool m] 90)).alloc (.cells #[.slice d L.length c2,.bool m] 90))):=(za.alloc _ _ _).trans (za.alloc _ _ _) iL;have G:Hid (((w.alloc (.cells #[.slice c L.length f,.bool m] 90)).alloc (.cells #[.slice d L.length c2,.bool m] 90)).heap[w.heap.size]? =some (.cells #[.slice c L.length f,.bool m] 90 (0,0))):=((za.alloc (λ_=>False) _ _).block w.heap.size (by simp) id).trans (ac w _)
 have E:Hid (((w.alloc (.cells #[.slice c L.length f,.bool m] 90)).alloc (.cells #[.slice d L.length c2,.bool m] 90)).heap[w.heap.size+1]? =some (.cells #[.slice d L.length c2,.bool m] 90 (0,0))):=by have:=ac (w.alloc (.cells #[.slice c L.length f,.bool m] 90)) (.cells #[.slice d L.length c2,.bool m] 90);rw [World.size_alloc] at this;exact this
 have I:((w.alloc (.cells #[.slice c L.length f,.bool m] 90)).alloc (.cells #[.slice d L.length c2,.bool m] 90)).heap.size=w.heap.size+2:=by simp
 go_enter Tryz.func109,Tryz.ntmps109;go_wp2_with fail;generalize ((w.alloc (.cells #[.slice c L.length f,.bool m] 90)).alloc (.cells #[.slice d L.length c2,.bool m] 90))=Y at*;go_loopw [5] (λt wr=>∃i:Nat,i<=L.length/\t=.int .i64 i/\za (λ_=>False) Y wr) (λt _=>L.length-(intOf t).toNat)
 case atStart=>exact⟨0,aj _,rfl,za.refl _ _⟩
 case round=>
  obtain⟨i,U,rfl,g⟩:=hrel;have X:=g.size;have z:Hid (wr.heap[w.heap.size]? =_):=(g.block _ (by omega) id).trans G.out;have A:Hid (wr.heap[w.heap.size+1]? =_):=(g.block _ (by omega) id).trans E.out;change Hid _ at g;have Q:wr.cell? ⟨w.heap.size,0,none⟩=some (.slice c L.length f):=cR z.out rfl;have N:wr.cell? ⟨w.heap.size+1,0,none⟩=some (.slice d L.length c2):=cR A.out rfl;by_cases n:i<L.length
  .obtain⟨l,rfl,h,p⟩:=vv x (by omega);obtain⟨k,rfl,j,o⟩:=vv h2 (by omega);obtain⟨u,C,B,y⟩:=p i n;obtain⟨F,r,s,D⟩:=o i n;have b:Hid _:=q.trans g iL;have P:=(b.cell (a:=⟨l,i*4,none⟩) h id).trans u;have O:=(b.cell (a:=⟨l,i*4+1,none⟩) h id).trans C;have W:=(b.cell (a:=⟨l,i*4+2,none⟩) h id).trans B;have S:=(b.cell (a:=⟨l,i*4+3,none⟩) h id).trans y;have V:=(b.cell (a:=⟨k,i*4,none⟩) j id).trans F;have M:=(b.cell (a:=⟨k,i*4+1,none⟩) j id).trans r;have Z:=(b.cell (a:=⟨k,i*4+2,none⟩) j id).trans s;have R:=(b.cell (a:=⟨k,i*4+3,none⟩) j id).trans D;have H:k<wr.heap.size:=by have:=b.size;omega
   clear p o u C B y F r s D;generalize L[i]=v at*;have J:(i:Int)<(L.length:Int):=by omega
   have K:w.heap.size<wr.heap.size/\w.heap.size+1<wr.heap.size:=by omega
   go_wp2;go_roundw
   case rel=>exact⟨i+1,by omega,by go_num,(g.trans (za.alloc (λ_=>False) _ _) iL).trans (za.alloc (λ_=>False) _ _) iL⟩
   case measure=>simp [intOf];omega
  .have e:i=L.length:=by omega
   subst e;go_wp2;go_ret;exact⟨rfl,q.trans g iL⟩
end law
namespace keep
open law (qq ZG vv)
open keys (zh zd zx zq zp)
variable {w:World}{a:Option Addr}{c:Nat}
def Row(w:World)(a:Option Addr)(c:Nat)(L:List zB):Prop:=w.ownsRow 0 94 4 (.slice a L.length c) L.length (qq L)
theorem Row.cells{L:List zB}(h:Row w a c L)(b:0<L.length):∃g,a=some ⟨g,0,none⟩/\g<w.heap.size/\∀k (d:k<L.length),w.cell? ⟨g,k*4,none⟩=some (.string L[k].key)/\w.cell? ⟨g,k*4+1,none⟩=some (.int .i64 L[k].num)/\w.cell? ⟨g,k*4+2,none⟩=some (.bool L[k].mark)/\w.cell? ⟨g,k*4+3,none⟩=some (.int .i64 (L[k].body.length:Int)):=vv h b
theorem Row.kept{w':World}{T:Nat->Prop}{L:List zB}(h:Row w a c L)(k:za T w w')(b:∀i,(Value.slice a L.length c).ownBlock=some i->¬T i):Row w' a c L:=k.owns h b
theorem Tryz.infoVer:(Tryz.prog.info? 94).map (λi=>(i.zero,i.size,i.bytes))=some (some (.agg #[.string ⟨#[]⟩,.int .i64 0,.bool false,.int .i64 0]),4,40):=by kernel_rfl
theorem Xd(l:List zB)(v:zB):qq (l++[v])=qq l++ZG v:=by unfold qq;simp
theorem jW(l:List zB):∀u∈qq l,u.oneCell'=true:=λu a=>by
 unfold qq at a;obtain⟨c,b,a⟩:=eW.1 a;obtain⟨v,_,rfl⟩:=au.1 b;simp only [ZG,ar,ic,or_false] at a;rcases a with rfl|rfl|rfl|rfl<;>rfl
theorem Row.nil(w:World):Row w none 0 []:=aV w 0 94 4
def pre(p:ByteArray)(L:List zB):List zB:=L.filter λv=>p.data.toList.isPrefixOf v.key.data.toList
theorem Vg(p:ByteArray)(L:List zB)(k:Nat)(h:k<L.length):pre p (L.take (k+1))=if p.data.toList.isPrefixOf L[k].key.data.toList then pre p (L.take k)++[L[k]] else pre p (L.take k):=by
 unfold pre;rw [ao h,lP,eX,mI];split<;>simp
theorem UL(p:ByteArray)(L:List zB)(k:Nat):(pre p (L.take k)).length<=L.length:=aD (ip _ _) (by rw [aC];omega)
theorem Row.pushed{wr f:World}{us:List zB}(b:za (λ_=>False) w wr)(d:∀k,(Value.slice a us.length c).ownBlock=some k->w.heap.size<=k)(v:zB)(l:Obj)(g c2:Nat)
 (i:f.ownsRow 0 94 4 (.slice (some ⟨g,0,none⟩) (us.length+1) c2) (us.length+1) (qq us++ZG v))
 (h:(wr.alloc l).grownBy f (Value.slice a us.length c).ownBlock) (j:(Value.slice a us.length c).ownBlock=some g\/g=wr.heap.size+1):
 Row f (some ⟨g,0,none⟩) c2 (us++[v])/\za (λ_=>False) w f/\w.heap.size<=g:=by
 have k2:za (λk=>w.heap.size<=k) wr f:=((za.alloc _ wr l).trans (za.grown (S:=λk=>w.heap.size<=k) h (λk b=>d k b)) iL);refine⟨?_,b.trans k2 (λk b=>.inr b),?_⟩
 .unfold Row;rw [Xd,ag];exact i
 .rcases j with e|e;.exact d _ e
  .have:=b.size;omega
theorem xF(w:World)(a:Option Addr)(c:Nat)(L:List zB)(ak:L.length<=10000)(h:Row w a c L)(N:∀k,(Value.slice a L.length c).ownBlock=some k->k<w.heap.size)(p:ByteArray)(ah:p.size<=8)(y:∀v∈L,v.key.size<=8):
 Calls Tryz.prog 24 #[.slice a L.length c,.string p] w λe w'=>∃b d,e=.returned (.slice b (pre p L).length d)/\Row w' b d (pre p L)/\za (λ_=>False) w w'/\∀k,(Value.slice b (pre p L).length d).ownBlock=some k->w.heap.size<=k:=by
 obtain⟨x,D,H,I,G⟩:=yv Tryz.infoVer;have q:Hid (Tryz.prog.info? 94=some x/\x.zero=some (.agg #[.string ⟨#[]⟩,.int .i64 0,.bool false,.int .i64 0])/\x.size=4/\x.bytes=40):=⟨D,H,I,G⟩;have U:Hid (Row w a c L):=h;have V:Hid _:=y;change Hid _ at N;clear D H I G h y;go_enter Tryz.func24,Tryz.ntmps24;go_wp2;go_loopw [5,6] (λad i wr=>∃k:Nat,k<=L.length/\i=.int .i64 k/\za (λ_=>False) w wr/\∃b d,ad=.slice b (pre p (L.take k)).length d/\Row wr b d (pre p (L.take k))/\∀r,(Value.slice b (pre p (L.take k)).length d).ownBlock=some r->w.heap.size<=r) (λ_ i _=>L.length-(intOf i).toNat)
 case atStart=>exact⟨0,aj _,rfl,za.refl _ _,none,0,rfl,Row.nil w,λk y=>by cases y⟩
 case round=>
  obtain⟨k,y,rfl,j,b,d,rfl,C,s⟩:=hrel;have Q:Hid (Row wr a c L):=U.kept j nF;have t:Hid (Row wr b d (pre p (L.take k))):=C;have A:Hid (∀r,(Value.slice b (pre p (L.take k)).length d).ownBlock=some r->w.heap.size<=r):=s;change Hid _ at j;clear C s;by_cases u:k<L.length
  .have O:Hid _:=Vg p L k u;have W:=UL p L k;obtain⟨g,rfl,af,M⟩:=Q.cells (by omega);obtain⟨ab,Z,h2,ae⟩:=M k u;have Y:=V.out L[k] (ai _);clear M;generalize R:pre p (L.take k)=us at*;change Hid _ at R;generalize L[k]=v at*;have X:(k:Int)<(L.length:Int):=by omega
   have B:p.data.toList.isPrefixOf v.key.data.toList=true->_:=λK=>O.trans (aB K);have n:¬p.data.toList.isPrefixOf v.key.data.toList=true->_:=λK=>O.trans (aw K);change Hid _ at B n;by_cases P:p.size<=v.key.size
   .have F:=gt v.key p P
    cases l:p.data.toList.isPrefixOf v.key.data.toList with
    |true=>
     rw [l] at F;have f:Hid _:=l;clear l;go_wp2_with (refine wpList_append_lies _ rfl (.tmp 32) (.tmp 37) 44 rfl 0 94 x _ 4 40 Tryz.underlying44 q.1 q.2.1 q.2.2.1 q.2.2.2 rfl (by omega) (.slice b us.length d) us.length (qq us) (by rfl) (by exact er t _) ⟨wr.heap.size,0,none⟩ 1 1 (ZG v) (by rfl) (by rfl) (by exact World.news_of_block (ac wr _)) (by simp [Value.oneCell',ZG]) (by omega) (by unfold maxLen;omega) (by omega) (aj _) (wr.heap.size+1) (by simp) ?_;intro S c2 aa o m z T;have J:Hid _:=Row.pushed j A v _ S c2 o m z;clear o m z);go_roundw
     case rel=>exact⟨k+1,by omega,by go_num,J.2.1,some ⟨S,0,none⟩,c2,by rw [B.out f.out,ag];rfl,by rw [B.out f.out];exact J.1,λr E=>by simp [Value.ownBlock] at E;rw [<-E];exact J.2.2⟩
     case measure=>simp [intOf];omega
    |false=>
     rw [l] at F;have f:Hid _:=l;clear l;go_wp2;go_roundw
     case rel=>exact⟨k+1,by omega,by go_num,j,b,d,by rw [n.out (by rw [f.out];simp)],by rw [n.out (by rw [f.out];simp)];exact t,by rw [n.out (by rw [f.out];simp)];exact A⟩
     case measure=>simp [intOf];omega
   .have l:=kU v.key p (by omega);have f:Hid _:=l;clear l;go_wp2;go_roundw
    case rel=>exact⟨k+1,by omega,by go_num,j,b,d,by rw [n.out (by rw [f.out];simp)],by rw [n.out (by rw [f.out];simp)];exact t,by rw [n.out (by rw [f.out];simp)];exact A⟩
    case measure=>simp [intOf];omega
  .have e:L.take k=L:=an (by omega);rw [e] at t A;rw [e];go_wp2;go_ret;exact⟨b,d,rfl,t,j,A⟩
end keep
namespace keep
open law (qE ze q8 xk xw dC GS Chg)
open keys (zh zd zx zq zp)
variable {w:World}{P:Nat->Prop}{cs:List (List Value)}{vs:List zB}
structure Gv (w:World) (P:Nat->Prop) (cs:List Value) (v:zB):Prop where
 at_:∃a cap,cs=[.string v.key,.int .i64 v.num,.slice a v.body.length cap]/\zO w P a v.body
structure Told (w:World) (P:Nat->Prop) (cs:List (List Value)) (vs:List zB):Prop where
 len:cs.length=vs.length
 each:∀i (h:i<cs.length) (h':i<vs.length),Gv w P cs[i] vs[i]
theorem Told.kept{w':World}{T:Nat->Prop}(h:Told w P cs vs)(k:za T w w')(f:∀i,P i->¬T i):Told w' P cs vs:=
 ⟨h.len,λi d h2=>by
  obtain⟨a,c,e,b⟩:=(h.each i d h2).at_
  exact⟨a,c,e,b.kept k f⟩⟩
theorem Told.mono{Q:Nat->Prop}(h:Told w P cs vs)(d:∀i,P i->i<w.heap.size->Q i):Told w Q cs vs:=
 ⟨h.len,λi f h2=>by
  obtain⟨a,c,e,b⟩:=(h.each i f h2).at_
  exact⟨a,c,e,b.mono d⟩⟩
theorem Told.nil(w:World)(P:Nat->Prop):Told w P [] []:=⟨rfl,λi h=>by simp at h⟩
theorem Told.three(h:Told w P cs vs):∀c∈cs,c.length=3:=λc d=>by
 obtain⟨i,b,rfl⟩:=ed d;obtain⟨a,c,e,_⟩:=(h.each i b (by rw [<-h.len];exact b)).at_;rw [e];rfl
structure fU (M:ze) (w:World) (X:Nat->Prop) (bp bd bs:Nat) (S:Nat->Prop) (D:Dk) (V:qE) (a:Option Addr) (cap:Nat) (cs:List (List Value)) (G:Nat->Prop):Prop where
 head:w.heap[bp]? =some (.cells #[.pointer (some ⟨bd,0,none⟩),.pointer (some ⟨bs,0,none⟩),.slice a V.vs.length cap,.int .i64 V.n0,.int .i64 (-1),.int .i64 0,.bool true] 33 (0,0))
 fore:xw M w bd bs S D V
 size:D.bs.length=1000
 row:w.ownsRow 0 85 3 (.slice a V.vs.length cap) V.vs.length cs.flatten
 told:Told w G cs V.vs
 xlt:∀k,X k->k<w.heap.size
 xS:∀k,S k->X k
 xb:X bs
 xp:X bp
 xr:∀k,(Value.slice a V.vs.length cap).ownBlock=some k->X k
 xG:∀k,G k->X k
 pS:¬S bp
 pb:bp≠bs
 rS:∀k,(Value.slice a V.vs.length cap).ownBlock=some k->¬S k/\k≠bs/\k≠bp
 gS:∀k,G k->¬S k/\k≠bs/\k≠bp/\(Value.slice a V.vs.length cap).ownBlock≠some k
section
variable {M:ze} {w w':World} {X T:Nat->Prop} {bp bd bs:Nat} {S:Nat->Prop} {D:Dk} {V:qE} {a:Option Addr} {cap:Nat} {cs:List (List Value)} {G:Nat->Prop}
theorem xw.kept(h:xw M w bd bs S D V)(k:za T w w')(a:∀i,S i->¬T i)(b:¬T bs):xw M w' bd bs S D V:=
 ⟨h.disk.kept k a,h.apart,M.sto_kept _ _ _ _ _ h.sto k b,h.live,h.fuse,h.reads0,h.reads1,h.few⟩
theorem fU.lt(h:fU M w X bp bd bs S D V a cap cs G):bp<w.heap.size:=h.xlt bp h.xp
theorem fU.kept(h:fU M w X bp bd bs S D V a cap cs G)(k:za T w w')(c:∀i,X i->¬T i):fU M w' X bp bd bs S D V a cap cs G:=
 ⟨(k.block bp h.lt (c bp h.xp)).trans h.head,xw.kept h.fore k (λi b=>c i (h.xS i b)) (c bs h.xb),h.size,k.owns h.row (λi b=>c i (h.xr i b)),h.told.kept k (λi b=>c i (h.xG i b)),
   λi b=>ay (h.xlt i b) k.size,h.xS,h.xb,h.xp,h.xr,h.xG,h.pS,h.pb,h.rS,h.gS⟩
theorem fU.c(h:fU M w X bp bd bs S D V a cap cs G):w.cell? ⟨bp,0,none⟩=some (.pointer (some ⟨bd,0,none⟩))/\w.cell? ⟨bp,1,none⟩=some (.pointer (some ⟨bs,0,none⟩))/\w.cell? ⟨bp,2,none⟩=some (.slice a V.vs.length cap)/\w.cell? ⟨bp,3,none⟩=some (.int .i64 V.n0)/\w.cell? ⟨bp,5,none⟩=some (.int .i64 0)/\w.cell? ⟨bp,6,none⟩=some (.bool true)/\∀i,w.frozen? ⟨bp,i,none⟩=false:=by
 have b:=h.head;refine⟨?_,?_,?_,?_,?_,?_,λi=>aa w bp i _ _ b⟩<;>rw [aG w bp _ _ _ _ b]<;>rfl
theorem fU.rowAt(h:fU M w X bp bd bs S D V a cap cs G)(i:0<V.vs.length):∃g,a=some ⟨g,0,none⟩:=by
 rcases h.row.2 with⟨c,f⟩|⟨g,b,e,d,_⟩;.simp at c;omega
 .cases d;exact⟨g,rfl⟩
theorem fU.cells{g:Nat}(h:fU M w X bp bd bs S D V (some ⟨g,0,none⟩) cap cs G)(i:Nat)(d:i<V.vs.length):
 w.cell? ⟨g,i*3,none⟩=some (.string V.vs[i].key)/\w.cell? ⟨g,i*3+1,none⟩=some (.int .i64 V.vs[i].num)/\∃b a,w.cell? ⟨g,i*3+2,none⟩=some (.slice b V.vs[i].body.length a)/\zO w G b V.vs[i].body:=by
 have f:=h.told.len;have j:=h.row;rw [<-f] at j;have c:=ym j h.told.three i (by rw [f];exact d);obtain⟨b,a,e,k⟩:=(h.told.each i (by rw [f];exact d) d).at_;rw [e] at c;exact⟨c 0 _ rfl,c 1 _ rfl,b,a,c 2 _ rfl,k⟩
theorem xE(h:fU M w X bp bd bs S D V a cap cs G)(z:zs V.vs<=1000):Calls Tryz.prog 32 #[.pointer (some ⟨bp,0,none⟩)] w λe w'=>e=.returned (.int .i64 (zs V.vs:Nat))/\w'=w:=by
 obtain⟨_,_,r,_,q,_,_⟩:=h.c;have n:=h.fore.live.good.few;have f:Hid _:=h.fore.live.good.body;change Hid _ at h;go_enter Tryz.func32,Tryz.ntmps32;go_wp2;go_loop [3,4] (λt i=>∃k:Nat,k<=V.vs.length/\i=.int .i64 k/\t=.int .i64 ((zs (V.vs.take k):Nat):Int)) (λ_ i=>V.vs.length-(intOf i).toNat)
 case atStart=>exact⟨0,aj _,rfl,by simp [zs]⟩
 case round=>
  obtain⟨k,C,rfl,rfl⟩:=hrel;have j:=cG (vs:=V.vs.take k) (λv l=>by have:=f.out v (aP l);omega);have d:(V.vs.take k).length<=V.vs.length:=by rw [aC];omega
  generalize c:zs (V.vs.take k)=x at*;change Hid _ at c;have s:x<=100000:=by omega
  clear j d;by_cases b:k<V.vs.length
  .have o:Hid _:=fx V.vs k b;obtain⟨g,rfl⟩:=h.rowAt (by omega);obtain⟨_,_,A,m,B,_⟩:=h.cells k b;have p:=f.out V.vs[k] (ai b);have u:(k:Int)<(V.vs.length:Int):=by omega
   go_wp2;go_round
   case rel=>exact⟨k+1,by omega,by go_num,by rw [o.out,c.out];unfold yM;go_num⟩
   case measure=>simp [intOf];omega
  .have y:zs V.vs=x:=by
    have e:V.vs.take k=V.vs:=an (by omega);rw [<-c.out,e]
   go_wp2;go_ret;exact⟨zh rfl,rfl⟩
end
end keep
namespace keep
open law (qE ze xy xw dC qq ZG gC)
open keys (zh zd zx zq zp)
variable {a5:Option Addr}{c5:Nat}
theorem xW{P:Program}{k:Array Oper}{rest:List Oper}{q:Oper}{a:Act}{w:World}{Q:Exit->Act->World->Prop}(x:q.guard=none)(s K:Operand)(t:TypeId)
 (G:q.op=.call {callee:=.builtin .append,args:=#[s,K],argTypes:=#[t,t] })
 (e:TypeId) (i:TypeInfo) (z:Value) (b bytes:Nat) (J:P.underlying t=some (.slice e)) (F:P.info? e=some i) (I:i.zero=some z)
 (g:i.size=b) (m:i.bytes=bytes) (o:z.cells.size=b) (p:0<b) (v:Value) (n:Nat) (j:List Value) (y:a.eval s=.slice none 0 0) (A:a.eval K=v) (l:w.ownsRow 0 e b v n j) (B:∀u∈j,u.oneCell'=true)
 (r:n<=maxLen) (f:n*bytes<=140737488355328)
 (h:∀c d w',w'.ownsRow 0 e b (.slice c n d) n j->w.grownBy w' none->((Value.slice c n d).ownBlock=none\/(Value.slice c n d).ownBlock=some w.heap.size)->wpList P k Q rest (a.put q.dst (.slice c n d)) w'):wpList P k Q (q::rest) a w:=by
 refine md x λL E=>?_;obtain⟨c,d,w',D,h2,C,H⟩:=disk.run_copy_row (P:=P) w t q.type e i z b bytes J F I g m o p v n j l B r f;unfold Oper.wp execOp;simp only [G,resolve,invoke,builtin,ie,iI,eD,li,aO,ig,y,A,D];exact E _ _ (h c d w' h2 C H)
def Qv(L:List zB)(n:Nat):ByteArray:=if n=0 then ByteArray.empty else (L.getD (n-1) ⟨ByteArray.empty,0,false,[]⟩).key
def YW(L:List zB)(n:Nat):Int:=if n=0 then 0 else (L.getD (n-1) ⟨ByteArray.empty,0,false,[]⟩).num
theorem fD:∀(L:List zB) (n:Nat) (u:zB),L.Pairwise (λa b=>a.ahead b=true)->n<L.length->L[n]? =some u->L.filter (λv=>u.ahead v)=L.drop (n+1)
 |[],n,u,_,h,_=>by simp at h
 |x::L,0,u,hs,_,hu=>by
  obtain rfl:x=u:=by simpa using hu
  rw [aL] at hs;rw [eX,aw (zB.ahead_irrefl x)];exact eU.2 (λv d=>hs.1 v d)
 |x::L,n+1,u,hs,h,hu=>by
  rw [aL] at hs;have c:L[n]? =some u:=by simpa using hu
  have e:=hs.1 u (me c);rw [eX,aw (zB.ahead_asymm e)];exact fD L n u hs.2 (by simpa using h) c
theorem ZH(v:zB)(p k:ByteArray)(n:Int)(a:k≠ByteArray.empty):qU v p k n=(qU v p ByteArray.empty 0&&(⟨k,n,false,[]⟩:zB).ahead v):=by
 unfold qU zB.ahead;have:decide (k=ByteArray.empty)=false:=decide_eq_false a;rw [this];simp [my]
theorem yw.behind{vs:List zB}{p:ByteArray}{L:List zB}(h:yw vs p ByteArray.empty 0 L)(e:∀v∈vs,v.key≠ByteArray.empty)(n:Nat)(i:n<=L.length):yw vs p (Qv L n) (YW L n) (L.drop n):=by
 by_cases d:n=0
 .subst d;exact h
 .obtain⟨j,rfl⟩:∃j,n=j+1:=⟨n-1,by omega⟩;obtain⟨u,a⟩:∃u,L[j]? =some u:=⟨L[j],by simp⟩;have b:u∈vs:=(ei.1 (h.perm.subset (me a))).1;have g:Qv L (j+1)=u.key:=by unfold Qv;simp [a]
  have c:YW L (j+1)=u.num:=by unfold YW;simp [a]
  rw [g,c];refine⟨h.sorted.sublist (List.drop_sublist _ _),?_⟩
  have f:vs.filter (λv=>qU v p u.key u.num)=(vs.filter λv=>qU v p ByteArray.empty 0).filter (λv=>u.ahead v):=by rw [mp];refine lX λv _=>?_;rw [ZH v p u.key u.num (e u b),Bool.and_comm];rfl
  rw [f,<-fD L j u h.sorted (by omega) a];exact h.perm.filter _
theorem ZI(l r:List zB):qq (l++r)=qq l++qq r:=by unfold qq;simp
theorem gD(l:List zB):(qq l).length=l.length*4:=by
 unfold qq
 induction l with
 |nil=>rfl
 |cons v l a=>simp only [aO,aU,ag,ae,a];simp [ZG];omega
theorem cK(L:List zB)(n m:Nat):L.take (n+((L.drop n).take m).length)=L.take n++(L.drop n).take m:=by
 rw [List.take_add];congr 1;rw [aC];by_cases h:m<=(L.drop n).length;.rw [a8 h]
 .rw [Nat.min_eq_right (by omega),an (aF _),an (by omega)]
theorem Xe(L:List zB)(n:Nat)(h:n<L.length):Qv L (n+1)=L[n].key/\YW L (n+1)=L[n].num:=by
 unfold Qv YW;simp [h]
theorem Qw{k:ByteArray}(h:zp k.data.toList=true):k.size<=8:=by
 unfold zp at h;simp only [aW,aR] at h;simpa using h.1.2
structure J4 (M:ze) (w wr:World) (bd bs:Nat) (S:Nat->Prop) (D:Dk) (V:qE) (L:List zB) (m i n:Nat) (a:Option Addr) (c:Nat) (S':Nat->Prop) (D':Dk):Prop where
 ni:n=i*m
 nlt:n=0\/n<L.length
 fore:xw M wr bd bs S' D' V
 foot:∀k,S' k->S k\/w.heap.size<=k
 kept:za (λk=>S k\/k=bs) w wr
 reads0:D.reads<=D'.reads
 reads1:D'.reads<=D.reads+1000*(i:Int)
 size:D'.bs.length=D.bs.length
 row:Row wr a c (L.take n)
 new:∀k,(Value.slice a n c).ownBlock=some k->w.heap.size<=k/\¬S' k
 nil:n=0->a=none/\c=0
section
variable {M:ze} {w wr w2 w5:World} {bd bs:Nat} {S S' S2:Nat->Prop} {D D' D2:Dk} {V:qE} {L KK:List zB} {m i n q c c2:Nat} {a:Option Addr}
structure Jd (M:ze) (w w5:World) (bd bs:Nat) (S:Nat->Prop) (D:Dk) (V:qE) (L:List zB) (i n:Nat) (a5:Option Addr) (c5:Nat) (S2:Nat->Prop) (D2:Dk):Prop where
 fore:xw M w5 bd bs S2 D2 V
 foot:∀k,S2 k->S k\/w.heap.size<=k
 kept:za (λk=>S k\/k=bs) w w5
 reads0:D.reads<=D2.reads
 reads1:D2.reads<=D.reads+1000*((i:Int)+1)
 size:D2.bs.length=D.bs.length
 row:Row w5 a5 c5 (L.take n)
 new:∀k,(Value.slice a5 n c5).ownBlock=some k->w.heap.size<=k/\¬S2 k
theorem J4.page(h:J4 M w wr bd bs S D V L m i n a c S' D')(b:dC M wr w2 bd bs S' S2 D' D2 1000 (some bd))(f:M.Live D2 V)(hbs:bs<w.heap.size)(r:D2.reads<=2305843009213693952)(T:Nat->Prop)(t:za T w2 w5)(p:∀k,T k->w.heap.size<=k/\¬S2 k)(a5:Option Addr)(c5 o:Nat)(q:Row w5 a5 c5 (L.take o))(j:∀k,(Value.slice a5 o c5).ownBlock=some k->w.heap.size<=k/\¬S2 k):Jd M w w5 bd bs S D V L i o a5 c5 S2 D2:=by
 have g:∀k,S2 k->S k\/w.heap.size<=k:=λk d=>by
  rcases b.foot k d with e|e;.exact h.foot k e
  .exact .inr (by have:=h.kept.size;omega)
 have s:¬S2 bs:=λd=>by
  rcases b.foot bs d with e|e;.exact h.fore.apart e
  .have:=h.kept.size;omega
 have y:=h.reads0;have x:=h.reads1;have z:=b.reads0;have v:=b.reads1;have u:=h.fore.reads0;refine⟨xw.kept ⟨b.disk,s,b.sto,f,b.fuse,by omega,r,h.fore.few⟩ t (λk d l=>(p k l).2 d) (λl=>by have:=(p bs l).1;omega),g,?_,by omega,by omega,b.size.trans h.size,q,j⟩;refine(h.kept.trans (b.kept.mono (S':=λk=>S' k\/k=bs) (λk d=>d)) (λk d=>?_)).trans t (λk d=>.inr (p k d).1);rcases d with d|d;.exact(h.foot k d).imp .inl id
 .exact .inl (.inr d)
theorem J4.first(h:J4 M w wr bd bs S D V L m i 0 none 0 S' D')(a:dC M wr w2 bd bs S' S2 D' D2 1000 (some bd))(c:M.Live D2 V)(hbs:bs<w.heap.size)(j:D2.reads<=2305843009213693952)(l:L.take (0+q)=L.take 0++KK)(r:KK.length=q)(p:Obj)(a5:Option Addr)(c5:Nat)
 (f:w5.ownsRow 0 94 4 (.slice a5 q c5) q (qq KK)) (b:(w2.alloc p).grownBy w5 none) (g:(Value.slice a5 q c5).ownBlock=none\/(Value.slice a5 q c5).ownBlock=some (w2.alloc p).heap.size):Jd M w w5 bd bs S D V L i q a5 c5 S2 D2:=by
 have e:L.take q=KK:=by simpa using l
 have t:=h.kept.size;have h2:=a.kept.size;refine h.page a c hbs j (λ_=>False) ((za.alloc _ w2 p).trans (za.grown b (λk d=>by cases d)) iL) fE a5 c5 q ?_ (λk d=>?_)
 .unfold Row;rw [e,r];exact f
 .have s:k=w2.heap.size+1:=by
   rcases g with n|n<;>rw [n] at d<;>simp at d;omega
  exact⟨by omega,λo=>by have:=a.disk.lt k o;omega⟩
theorem J4.next(h:J4 M w wr bd bs S D V L m i n a c S' D')(b:dC M wr w2 bd bs S' S2 D' D2 1000 (some bd))(l:M.Live D2 V)(hbs:bs<w.heap.size)(s:D2.reads<=2305843009213693952)(u:L.take (n+q)=L.take n++KK)(B:KK.length=q)(x:n+q<=L.length)(z:Obj)(e c5:Nat)
 (p:w5.ownsRow 0 94 4 (.slice (some ⟨e,0,none⟩) (n+q) c5) (n+q) (qq (L.take n)++qq KK)) (j:(w2.alloc z).grownBy w5 (Value.slice a n c).ownBlock) (r:(Value.slice a n c).ownBlock=some e\/e=w2.heap.size+1):Jd M w w5 bd bs S D V L i (n+q) (some ⟨e,0,none⟩) c5 S2 D2:=by
 have A:=h.kept.size;have h2:=b.kept.size
 have f:∀k,(Value.slice a n c).ownBlock=some k->w.heap.size<=k/\¬S2 k:=λk d=>by
  have g:=h.new k d;refine⟨g.1,λo=>?_⟩;rcases b.foot k o with t|t;.exact g.2 t
  .have y:n<=L.length:=by omega
   have C:k<wr.heap.size:=by have v:wr.ownsRow 0 94 4 (.slice a (L.take n).length c) (L.take n).length (qq (L.take n)):=h.row;rw [aC,a8 y] at v;exact(v.lt k d).2
   omega
 refine h.page b l hbs s (λk=>(Value.slice a n c).ownBlock=some k) ((za.alloc _ w2 z).trans (za.grown j (λk d=>d)) iL) f _ _ _ ?_ (λk d=>?_)
 .unfold Row;rw [aC,a8 x,u,ZI];exact p
 .obtain rfl:e=k:=by simpa [Value.ownBlock] using d
  rcases r with g|g;.exact f _ g
  .exact⟨by omega,λo=>by have:=b.disk.lt _ o;omega⟩
theorem Jd.last(h:Jd M w w5 bd bs S D V L i n a5 c5 S2 D2)(m:0<n)(k:n<=L.length):∃g j,a5=some ⟨g,0,none⟩/\g<w5.heap.size/\j+1=n/\w5.cell? ⟨g,j*4,none⟩=some (.string (Qv L n))/\w5.cell? ⟨g,j*4+1,none⟩=some (.int .i64 (YW L n)):=by
 have o:(L.take n).length=n:=by rw [aC,a8 k]
 obtain⟨g,e,d,c⟩:=h.row.cells (by omega);obtain⟨j,rfl⟩:∃j,n=j+1:=⟨n-1,by omega⟩;obtain⟨a,b,_,_⟩:=c j (by omega);obtain⟨l,f⟩:=Xe L j (by omega);rw [lY] at a b;exact⟨g,j,e,d,rfl,by rw [l];exact a,by rw [f];exact b⟩
theorem Jd.on{a:Nat}(h:Jd M w w5 bd bs S D V L i a a5 c5 S2 D2)(b:a=(i+1)*m)(c:a<L.length)(d:0<a):J4 M w w5 bd bs S D V L m (i+1) a a5 c5 S2 D2:=
 ⟨b,.inr c,h.fore,h.foot,h.kept,h.reads0,by have:=h.reads1;push_cast;omega,h.size,h.row,h.new,λe=>by omega⟩
theorem Jd.done{d:Nat}{p:ByteArray}(h:Jd M w w5 bd bs S D V L i d a5 c5 S2 D2)(j:i<2000)(g:d=L.length)(f:yw V.vs p ByteArray.empty 0 L):∃D' S' a c b,Ending.returned (Value.tuple #[.slice a5 d c5,.bool true])=.returned (.tuple #[.slice a b.length c,.bool true])/\dC M w w5 bd bs S S' D D' 2000000 (some bd)/\M.Live D' V/\yw V.vs p ByteArray.empty 0 b/\Row w5 a c b/\∀k,(Value.slice a b.length c).ownBlock=some k->w.heap.size<=k/\¬S' k:=by
 subst g;have e:=h.row;rw [eN] at e;have l:=h.reads1;exact⟨D2,S2,a5,c5,L,rfl,⟨h.fore.disk,h.foot,h.fore.sto,h.kept,h.reads0,by omega,h.size,h.fore.fuse⟩,h.fore.live,f,e,h.new⟩
end
end keep
end Go.Proofs.YtcoengihaobddaaGreatDoor
