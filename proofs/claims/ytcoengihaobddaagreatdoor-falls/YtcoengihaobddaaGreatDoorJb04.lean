/- Part 4 of 36 of a proof: Ref2, Ref3, Ref3b, Ref4, Book1 -/
import Derived.Test.YtcoengihaobddaaGreatDoorJb03
set_option maxHeartbeats 8000000
set_option linter.unusedVariables false
set_option linter.unusedSimpArgs false
set_option maxRecDepth 8000
namespace Go.Proofs.YtcoengihaobddaaGreatDoor
namespace ref
open Go.ChangeShapes Go.WideShapes Go.ChangeAt Go.RowKit disk
open keys (zh zd zx zq)
theorem Qm.whole{vs:List zB}{a:ByteArray}{t:Value}(h:Qm vs a vs.length t):
 (t=.int .i64 (-1)/\qd vs a=none)\/∃(m:Nat) (h:m<vs.length),t=.int .i64 (m:Int)/\qd vs a=some vs[m]:=by
 unfold Qm at h;rw [eN] at h;rcases h with h|⟨m,b,_,h2,c⟩;.exact .inl h
 .exact .inr ⟨m,b,h2,c⟩
def vT(vs:List zB)(key:ByteArray):Bool:=match qd vs key with
 |none=>true
 |some v=>v.mark
theorem Va(w:World)(F G:Nat->Prop)(b:Nat)(vs:List zB)(last:Int)(h:zJ w F G b vs last)(f:vs.length<=9223372036854775807)(d:ByteArray):
 Calls Tryz.prog 152 #[.pointer (some ⟨b,0,none⟩),.string d] w λe w'=>e=.returned (.bool (vT vs d))/\∃n,w'=w.drewN n:=by
 have o:Hid _:=h;obtain⟨a,cap,cs,h⟩:=h;have k:Hid _:=h;clear h;go_enter Tryz.func152,Tryz.ntmps152;go_wp2_with fail;refine(xj _ F G b vs last o.out f d).mono ?_;rintro e s ⟨⟨i,rfl,j⟩,n,rfl⟩;rcases j.whole with⟨rfl,c⟩|⟨m,p,rfl,c⟩
 .have l:Hid _:=c;clear c j;go_wp2;go_ret;exact⟨zd (by simp [vT,l.out]),_,rfl⟩
 .have l:Hid _:=c;clear c j;obtain⟨g,rfl⟩:=k.out.rowAt (by omega);have r:=k.out.c0;obtain⟨_,_,h2,_⟩:=k.out.cells m p;have q:decide ((m:Int)<0)=false:=decide_eq_false (by omega);go_wp2;go_ret;exact⟨zd (by simp [vT,l.out]),_,rfl⟩
theorem xE(w:World)(n:Int)(a:0<=n)(b:n<=4611686018427387904):
 Calls Tryz.prog 98 #[.int .i64 n] w λe w'=>e=.returned (.int .i64 (yM n.toNat))/\w'=w:=by
 go_enter Tryz.func98,Tryz.ntmps98;go_wp2;go_ret;exact⟨zh (by unfold yM;omega),rfl⟩
theorem fx(vs:List zB)(k:Nat)(h:k<vs.length):zs (vs.take (k+1))=zs (vs.take k)+yM vs[k].body.length:=by
 unfold zs;rw [ao h,eh,mH];simp
theorem cG{vs:List zB}(h:∀v∈vs,v.body.length<=1000):zs vs<=12*vs.length:=by
 unfold zs
 induction vs with
 |nil=>simp
 |cons v l a=>
  have c:=a (λu b=>h u (am _ b));have h2:=h v (al ..);simp only [aO,List.sum_cons,ae];have:yM v.body.length<=12:=by unfold yM;omega
  omega
def uv(vs:List zB)(more:Nat)(blocks:Int):Bool:=decide (2*((more:Int)+zs vs)+24<=blocks)
theorem jo(w:World)(F G:Nat->Prop)(b:Nat)(vs:List zB)(last:Int)(h:zJ w F G b vs last)(p:vs.length<=4398046511104)(j:∀v∈vs,v.body.length<=1000)(c:Int)(A:0<=c)(y:c<=1125899906842624)(d:Int):
 Calls Tryz.prog 151 #[.pointer (some ⟨b,0,none⟩),.int .i64 c,.int .i64 d] w λe w'=>e=.returned (.bool (uv vs c.toNat d))/\w'=w:=by
 obtain⟨a,cap,cs,h⟩:=h;have z:=h.c0;change Hid _ at h j;go_enter Tryz.func151,Tryz.ntmps151;go_wp2;go_loop [7,8] (λt i=>∃k:Nat,k<=vs.length/\i=.int .i64 k/\t=.int .i64 (c+(zs (vs.take k):Nat))) (λ_ i=>vs.length-(intOf i).toNat)
 case atStart=>exact⟨0,aj _,rfl,by simp [zs]⟩
 case round=>
  obtain⟨k,E,rfl,rfl⟩:=hrel;have m:=cG (vs:=vs.take k) (λv q=>j v (aP q));have n:(vs.take k).length<=vs.length:=by rw [aC];omega
  generalize l:zs (vs.take k)=C at*;change Hid _ at l;have B:C<=52776558133248:=by omega
  clear m n;by_cases f:k<vs.length
  .have r:Hid _:=fx vs k f;obtain⟨g,rfl⟩:=h.rowAt (by omega);obtain⟨_,_,_,D,s,H,_⟩:=h.cells k f;have u:=j.out vs[k] (ai f);have x:yM vs[k].body.length<=12:=by unfold yM;omega
   go_wp2_with (go_at_call 98;refine(xE _ _ (by omega) (by omega)).mono ?_;rintro e w' ⟨rfl,rfl⟩);go_round
   case rel=>exact⟨k+1,by omega,by go_num,by rw [r.out,l.out];go_num⟩
   case measure=>simp [intOf];omega
  .have o:zs vs=C:=by
    have e:vs.take k=vs:=an (by omega);rw [<-l.out,e]
   change Hid _ at o;go_wp2;go_ret;exact⟨zd (by unfold uv;rw [o.out];congr 1;apply propext;omega),rfl⟩
theorem JV(A B:List UInt8)(k:Nat)(b:k<A.length)(a:k<B.length):qB (A.drop k) (B.drop k)=if A[k]=B[k] then qB (A.drop (k+1)) (B.drop (k+1)) else decide (A[k]<B[k]):=by
 rw [aI b,aI a];rfl
theorem uw(A B:List UInt8)(k:Nat)(h:A.length<=k\/B.length<=k)(c:k<=A.length)(h2:k<=B.length):qB (A.drop k) (B.drop k)=decide (A.length<B.length):=by
 by_cases b:A.length<=k
 .rw [eo b];by_cases a:B.length<=k;.rw [eo a,decide_eq_false (by omega)];rfl
  .rw [aI (by omega),aJ (by omega)];rfl
 .have a:B.length<=k:=h.resolve_left b;rw [aI (i:=k) (l:=A) (by omega),eo a,decide_eq_false (by omega)];rfl
theorem dx(a b:ByteArray)(k:Nat)(f:k<a.size)(d:k<b.size)(r:Bool)(h:qB (a.data.toList.drop k) (b.data.toList.drop k)=r):
 ((a[k].toNat:Int)=b[k].toNat->qB (a.data.toList.drop (k+1)) (b.data.toList.drop (k+1))=r)/\(¬(a[k].toNat:Int)=b[k].toNat->decide ((a[k].toNat:Int)<b[k].toNat)=r):=by
 rw [JV a.data.toList b.data.toList k (by simpa using f) (by simpa using d)] at h;have g:a.data.toList[k]'(by simpa using f)=a[k]:=rfl;have c:b.data.toList[k]'(by simpa using d)=b[k]:=rfl;rw [g,c] at h;constructor
 .intro e;rw [aB (lK.1 (by omega))] at h;exact h
 .intro e;rw [aw (λc=>e (by rw [c]))] at h;rw [<-h];congr 1;apply propext;rw [lB];omega
theorem xv(w:World)(a b:ByteArray)(o:a.size<=9223372036854775807)(m:b.size<=9223372036854775807):
 Calls Tryz.prog 189 #[.string a,.string b] w λe w'=>e=.returned (.bool (qu a b))/\∃n,w'=w.drewN n:=by
 go_enter Tryz.func189,Tryz.ntmps189;go_wp2;go_loopw [5] (λi wr=>∃k:Nat,k<=a.size/\k<=b.size/\i=.int .i64 k/\qB (a.data.toList.drop k) (b.data.toList.drop k)=qu a b/\∃n,wr=w.drewN n) (λi _=>a.size-(intOf i).toNat)
 case atStart=>exact⟨0,aj _,aj _,rfl,rfl,0,rfl⟩
 case round=>
  obtain⟨k,f,d,rfl,c,n,rfl⟩:=hrel;change Hid _ at c;by_cases l:k<a.size
  .by_cases h2:k<b.size
   .have h:Hid _:=dx a b k l h2 _ c.out;by_cases e:(a[k].toNat:Int)=b[k].toNat
    .have j:((a[k].toNat:Int) !=b[k].toNat)=false:=by simpa using e
     have g:Hid _:=e;clear e;go_wp2;go_quiet (fail);go_wp2;go_roundw
     case rel=>exact⟨k+1,by omega,by omega,by go_num,h.1 g,_,rfl⟩
     case measure=>simp [intOf];omega
    .have j:((a[k].toNat:Int) !=b[k].toNat)=true:=by simpa using e
     have g:Hid _:=e;clear e;go_wp2;go_quiet (fail);go_wp2;go_quiet (fail);go_wp2;go_ret;exact⟨zd (by rw [<-h.2 g.out];congr 1;apply propext;omega),_,by rw [World.drewN_drewN,World.drewN_drewN]⟩
   .go_wp2;go_ret;exact⟨zd (by rw [<-c.out,uw _ _ k (by simp;omega) (by simpa using f) (by simpa using d)];simp),_,rfl⟩
  .have p:decide ((k:Int)<a.size)=false:=decide_eq_false (by omega);go_wp2;go_ret;exact⟨zd (by rw [<-c.out,uw _ _ k (by simp;omega) (by simpa using f) (by simpa using d)];simp),_,rfl⟩
theorem gt(a b:ByteArray)(h:b.size<=a.size):((a.extract 0 b.size).toList==b.toList)=b.data.toList.isPrefixOf a.data.toList:=by
 rw [eC,eC,ByteArray.data_extract,Array.toList_extract,Bool.eq_iff_iff,mx,List.isPrefixOf_iff_prefix,List.prefix_iff_eq_take];simp [my]
theorem kU(a b:ByteArray)(h:a.size<b.size):b.data.toList.isPrefixOf a.data.toList=false:=by
 rw [i4];intro h2;have:=(List.isPrefixOf_iff_prefix.1 h2).length_le;simp at this;omega
theorem xF(w:World)(a b:ByteArray)(d:a.size<=9223372036854775807)(c:b.size<=9223372036854775807):
 Calls Tryz.prog 188 #[.string a,.string b] w λe w'=>e=.returned (.bool (b.data.toList.isPrefixOf a.data.toList))/\w'=w:=by
 by_cases h:b.size<=a.size
 .go_enter Tryz.func188,Tryz.ntmps188;go_wp2;go_ret;exact⟨zd (gt a b h),rfl⟩
 .go_enter Tryz.func188,Tryz.ntmps188;go_wp2;go_ret;exact⟨zd (kU a b (by omega)).symm,rfl⟩
end ref
namespace ref
open Go.ChangeShapes Go.WideShapes Go.ChangeAt Go.RowKit disk
open keys (zh zd zx zq zp up xd)
theorem y7(s:ByteArray)(w:World)(a:s.size<=maxLen){k:Bool}(h:zp s.data.toList=k):
 Calls Tryz.prog 90 #[.string s] w λe w'=>e=.returned (.int .i64 (xd k))/\w'=w:=by
 rw [<-h];exact up s w a
def fS:Bool->Nat->Int
 |false,_=>2
 |true,n=>if 300<n then 3 else 0
def qR:Bool->Bool->Int
 |false,_=>2
 |true,true=>5
 |true,false=>0
theorem Zt(w:World)(s:ByteArray)(d:s.size<=maxLen)(a:Option Addr)(n cap:Nat):
 Calls Tryz.prog 93 #[.string s,.slice a n cap] w λe w'=>e=.returned (.int .i64 (fS (zp s.data.toList) n))/\w'=w:=by
 cases b:zp s.data.toList
 .have c:Hid _:=b;clear b;go_enter Tryz.func93,Tryz.ntmps93;go_wp2_with (go_at_call 90;refine(y7 _ _ d c).mono ?_;rintro e w' ⟨rfl,rfl⟩;unfold xd);go_ret;exact⟨rfl,rfl⟩
 .have c:Hid _:=b;clear b;by_cases f:300<n
  .go_enter Tryz.func93,Tryz.ntmps93;go_wp2_with (go_at_call 90;refine(y7 _ _ d c).mono ?_;rintro e w' ⟨rfl,rfl⟩;unfold xd);go_ret;exact⟨zh (aB f).symm,rfl⟩
  .go_enter Tryz.func93,Tryz.ntmps93;go_wp2_with (go_at_call 90;refine(y7 _ _ d c).mono ?_;rintro e w' ⟨rfl,rfl⟩;unfold xd);go_ret;exact⟨zh (aw f).symm,rfl⟩
theorem fT(w:World)(F G:Nat->Prop)(b:Nat)(vs:List zB)(last:Int)(h:zJ w F G b vs last)(c:vs.length<=9223372036854775807)(s:ByteArray)(g:s.size<=maxLen):
 Calls Tryz.prog 100 #[.pointer (some ⟨b,0,none⟩),.string s] w λe w'=>e=.returned (.int .i64 (qR (zp s.data.toList) (vT vs s)))/\∃n,w'=w.drewN n:=by
 change Hid _ at h;cases a:zp s.data.toList
 .have d:Hid _:=a;clear a;go_enter Tryz.func100,Tryz.ntmps100;go_wp2_with (go_at_call 90;refine(y7 _ _ g d).mono ?_;rintro e w' ⟨rfl,rfl⟩;unfold xd);go_ret;exact⟨rfl,0,rfl⟩
 .have d:Hid _:=a;clear a;cases f:vT vs s
  all_goals
   change Hid _ at f;go_enter Tryz.func100,Tryz.ntmps100
   go_wp2_with (first
    |(go_at_call 90;refine(y7 _ _ g d).mono ?_;rintro e w' ⟨rfl,rfl⟩;unfold xd)
    |(go_at_call 152;refine(Va _ F G b vs last h c s).mono ?_;rintro e w' ⟨rfl,n,rfl⟩;rw [f.out]))
   go_ret;exact⟨rfl,_,rfl⟩
def Y5:Bool->Option zB->Int
 |false,_=>2
 |true,none=>5
 |true,some _=>0
theorem dy(w:World)(F G:Nat->Prop)(b:Nat)(vs:List zB)(last:Int)(h:zJ w F G b vs last)(a:vs.length<=9223372036854775807)(s:ByteArray)(g:s.size<=maxLen)(n:Int):
 Calls Tryz.prog 101 #[.pointer (some ⟨b,0,none⟩),.string s,.int .i64 n] w λe w'=>e=.returned (.int .i64 (Y5 (zp s.data.toList) (yi vs s n)))/\w'=w:=by
 change Hid _ at h;cases f:zp s.data.toList
 .have d:Hid _:=f;clear f;go_enter Tryz.func101,Tryz.ntmps101;go_wp2_with (go_at_call 90;refine(y7 _ _ g d).mono ?_;rintro e w' ⟨rfl,rfl⟩;unfold xd);go_ret;exact⟨rfl,rfl⟩
 .have d:Hid _:=f;clear f;rcases dw vs s n with⟨c,h2⟩|⟨i,k,c,h2⟩
  .rw [h2];have j:Hid _:=c;clear c h2;go_enter Tryz.func101,Tryz.ntmps101
   go_wp2_with (first
    |(go_at_call 90;refine(y7 _ _ g d).mono ?_;rintro e w' ⟨rfl,rfl⟩;unfold xd)
    |(go_at_call 153;refine(xe _ F G b vs last h a s n).mono ?_;rintro e w' ⟨rfl,rfl⟩;rw [j.out]))
   go_ret;exact⟨rfl,rfl⟩
  .rw [h2];have j:Hid _:=c;clear c h2;go_enter Tryz.func101,Tryz.ntmps101
   go_wp2_with (first
    |(go_at_call 90;refine(y7 _ _ g d).mono ?_;rintro e w' ⟨rfl,rfl⟩;unfold xd)
    |(go_at_call 153;refine(xe _ F G b vs last h a s n).mono ?_;rintro e w' ⟨rfl,rfl⟩;rw [j.out]))
   go_ret;exact⟨rfl,rfl⟩
def yD:Bool->Option zB->Int
 |false,_=>2
 |true,none=>5
 |true,some v=>cond v.mark 5 0
def xV(w:World)(G:Nat->Prop)(o:Option zB)(x:Value)(c:Int):Prop:=
 (c=0->∃u a cap,o=some u/\x=.slice a u.body.length cap/\zO w G a u.body)/\(c≠0->x=.slice none 0 0)
theorem Gt(w:World)(F G:Nat->Prop)(b:Nat)(vs:List zB)(last:Int)(h:zJ w F G b vs last)(c:vs.length<=9223372036854775807)(s:ByteArray)(m:s.size<=maxLen)(n:Int):
 Calls Tryz.prog 107 #[.pointer (some ⟨b,0,none⟩),.string s,.int .i64 n] w λe w'=>
  (∃y,e=.returned (.tuple #[y,.int .i64 (yD (zp s.data.toList) (yi vs s n))])/\xV w G (yi vs s n) y (yD (zp s.data.toList) (yi vs s n)))/\w'=w:=by
 have q:Hid _:=h;obtain⟨a,cap,cs,h⟩:=h;have r:Hid _:=h;clear h;cases p:zp s.data.toList
 .have k:Hid _:=p;clear p;go_enter Tryz.func107,Tryz.ntmps107;go_wp2_with (go_at_call 90;refine(y7 _ _ m k).mono ?_;rintro e w' ⟨rfl,rfl⟩;unfold xd);go_ret2;exact⟨⟨_,rfl,by simp [xV,yD]⟩,rfl⟩
 .have k:Hid _:=p;clear p;rcases dw vs s n with⟨j,h2⟩|⟨i,v,j,h2⟩
  .rw [h2];have o:Hid _:=j;clear j h2;go_enter Tryz.func107,Tryz.ntmps107
   go_wp2_with (first
    |(go_at_call 90;refine(y7 _ _ m k).mono ?_;rintro e w' ⟨rfl,rfl⟩;unfold xd)
    |(go_at_call 153;refine(xe _ F G b vs last q c s n).mono ?_;rintro e w' ⟨rfl,rfl⟩;rw [o.out]))
   go_ret2;exact⟨⟨_,rfl,by simp [xV,yD]⟩,rfl⟩
  .rw [h2];have o:Hid _:=j;clear j h2;obtain⟨g,rfl⟩:=r.rowAt (by omega);have z:=r.c0;obtain⟨_,_,h2,u,l,A,t⟩:=r.cells i v;change Hid _ at t;have x:decide ((i:Int)<0)=false:=decide_eq_false (by omega);cases d:vs[i].mark
   .rw [d] at h2;have f:Hid _:=d;clear d;go_enter Tryz.func107,Tryz.ntmps107
    go_wp2_with (first
     |(go_at_call 90;refine(y7 _ _ m k).mono ?_;rintro e w' ⟨rfl,rfl⟩;unfold xd)
     |(go_at_call 153;refine(xe _ F G b vs last q c s n).mono ?_;rintro e w' ⟨rfl,rfl⟩;rw [o.out]))
    go_ret2;exact⟨⟨.slice u vs[i].body.length l,by simp [yD,f.out],by simp only [xV,yD,f.out,cond_false];exact⟨λ_=>⟨vs[i],u,l,rfl,rfl,t⟩,λh=>absurd rfl h⟩⟩,rfl⟩
   .rw [d] at h2;have f:Hid _:=d;clear d;go_enter Tryz.func107,Tryz.ntmps107
    go_wp2_with (first
     |(go_at_call 90;refine(y7 _ _ m k).mono ?_;rintro e w' ⟨rfl,rfl⟩;unfold xd)
     |(go_at_call 153;refine(xe _ F G b vs last q c s n).mono ?_;rintro e w' ⟨rfl,rfl⟩;rw [o.out]))
    go_ret2;exact⟨⟨_,by simp [yD,f.out];rfl,by simp [xV,yD,f.out]⟩,rfl⟩
theorem UG(w:World)(F G:Nat->Prop)(b:Nat)(vs:List zB)(last:Int)(h:zJ w F G b vs last)(o:vs.length<=9223372036854775807)(s:ByteArray)(t:s.size<=maxLen):
 Calls Tryz.prog 103 #[.pointer (some ⟨b,0,none⟩),.string s] w λe w'=>
  (∃B n,e=.returned (.tuple #[B,.int .i64 n,.int .i64 (yD (zp s.data.toList) (qd vs s))])/\xV w G (qd vs s) B (yD (zp s.data.toList) (qd vs s))/\
   (yD (zp s.data.toList) (qd vs s)=0->∀u,qd vs s=some u->n=u.num))/\∃n,w'=w.drewN n:=by
 have y:Hid _:=h;obtain⟨a,cap,cs,h⟩:=h;have p:Hid _:=h;clear h;cases l:zp s.data.toList
 .have q:Hid _:=l;clear l;go_enter Tryz.func103,Tryz.ntmps103;go_wp2_with (go_at_call 90;refine(y7 _ _ t q).mono ?_;rintro e w' ⟨rfl,rfl⟩;unfold xd)
  go_ret3
  exact⟨⟨_,_,rfl,by simp [xV,yD],by simp [yD]⟩,0,rfl⟩
 .have q:Hid _:=l;clear l;go_enter Tryz.func103,Tryz.ntmps103;go_wp2_with (go_at_call 90;refine(y7 _ _ t q).mono ?_;rintro e w' ⟨rfl,rfl⟩;unfold xd);refine(xj _ F G b vs last y o s).mono ?_;rintro e J ⟨⟨i,rfl,r⟩,H,rfl⟩;rcases r.whole with⟨rfl,j⟩|⟨m,z,rfl,j⟩
  .have c:Hid _:=j;clear j r;go_wp2
   go_ret3
   exact⟨⟨_,_,by rw [c.out];rfl,by rw [c.out];simp [xV,yD],by rw [c.out];simp⟩,_,rfl⟩
  .have c:Hid _:=j;clear j r;obtain⟨g,rfl⟩:=p.rowAt (by omega);have C:=p.c0;obtain⟨_,E,h2,v,k,I,x⟩:=p.cells m z;change Hid _ at x;have D:decide ((m:Int)<0)=false:=decide_eq_false (by omega);cases d:vs[m].mark
   .rw [d] at h2;have f:Hid _:=d;clear d;go_wp2;go_quiet (fail);go_wp2
    go_ret3
    exact⟨⟨.slice v vs[m].body.length k,vs[m].num,by rw [c.out];simp [yD,f.out],by rw [c.out];simp only [xV,yD,f.out,cond_false];exact⟨λ_=>⟨vs[m],v,k,rfl,rfl,x⟩,λh=>absurd rfl h⟩,
     by rw [c.out];intro _ u A;cases A;rfl⟩,_,by rw [World.drewN_drewN]⟩
   .rw [d] at h2;have f:Hid _:=d;clear d;go_wp2
    go_ret3
    exact⟨⟨_,_,by rw [c.out];simp [yD,f.out];exact⟨rfl,rfl⟩,by rw [c.out];simp [xV,yD,f.out],by rw [c.out];simp [yD,f.out]⟩,_,rfl⟩
theorem JW(w:World)(u v:zB)(j k:Value)(l:j.oneCell'=true)(m:k.oneCell'=true)(g:u.key.size<=9223372036854775807)(c:v.key.size<=9223372036854775807):
 Calls Tryz.prog 157 #[.agg #[.string u.key,.int .i64 u.num,.bool u.mark,j],.agg #[.string v.key,.int .i64 v.num,.bool v.mark,k]] w λe w'=>e=.returned (.bool (u.ahead v))/\za (λ_=>False) w w':=by
 cases b:qu u.key v.key
 .have a:Hid _:=b;clear b;by_cases d:u.key.toList=v.key.toList
  .have f:Hid _:=qN.1 d;go_enter Tryz.func157,Tryz.ntmps157;go_wp2_with (go_at_call 189;refine(xv _ u.key v.key g c).mono ?_;rintro e h ⟨rfl,n,rfl⟩;rw [a.out]);go_ret;exact⟨zd (by unfold zB.ahead;rw [a.out,aJ f.out];simp),((za.alloc _ _ _).trans (za.alloc _ _ _) iL).trans kD iL⟩
  .have i:(u.key.toList==v.key.toList)=false:=by simpa using d
   have f:Hid _:=mt qN.2 d;go_enter Tryz.func157,Tryz.ntmps157;go_wp2_with (go_at_call 189;refine(xv _ u.key v.key g c).mono ?_;rintro e h ⟨rfl,n,rfl⟩;rw [a.out]);go_ret;exact⟨zd (by unfold zB.ahead;rw [a.out,decide_eq_false f.out];simp),((za.alloc _ _ _).trans (za.alloc _ _ _) iL).trans kD iL⟩
 .have a:Hid _:=b;clear b;go_enter Tryz.func157,Tryz.ntmps157;go_wp2_with (go_at_call 189;refine(xv _ u.key v.key g c).mono ?_;rintro e h ⟨rfl,n,rfl⟩;rw [a.out]);go_ret;exact⟨zd (by unfold zB.ahead;rw [a.out];simp),((za.alloc _ _ _).trans (za.alloc _ _ _) iL).trans kD iL⟩
theorem Y6(w:World)(v:zB)(u:Value)(x:u.oneCell'=true)(c:v.key.size<=9223372036854775807)(p k:ByteArray)(g:p.size<=9223372036854775807)(h:k.size<=9223372036854775807)(n:Int):
 Calls Tryz.prog 156 #[.agg #[.string v.key,.int .i64 v.num,.bool v.mark,u],.string p,.string k,.int .i64 n] w λe w'=>e=.returned (.bool (qU v p k n))/\za (λ_=>False) w w':=by
 have a:∀r s,za (λ_=>False) w ((w.alloc s).drewN r):=λr s=>(za.alloc _ _ _).trans kD iL;change Hid _ at a;cases j:p.data.toList.isPrefixOf v.key.data.toList
 .have b:Hid _:=j;clear j;go_enter Tryz.func156,Tryz.ntmps156
  go_wp2_with (first
   |(go_at_call 188;refine(xF _ v.key p c g).mono ?_;rintro e d ⟨rfl,rfl⟩;rw [b.out])
   |(go_at_call 189;refine(xv _ k v.key h c).mono ?_;rintro e d ⟨rfl,n,rfl⟩;generalize qu k v.key=lb))
  go_ret;exact⟨zd (by unfold qU;rw [b.out];rfl),a _ _⟩
 .have b:Hid _:=j;clear j;by_cases l:k.toList=[]
  .have o:Hid (k=ByteArray.empty):=by show k=ByteArray.empty;exact qN.1 (by rw [l,eC];rfl)
   go_enter Tryz.func156,Tryz.ntmps156
   go_wp2_with (first
    |(go_at_call 188;refine(xF _ v.key p c g).mono ?_;rintro e d ⟨rfl,rfl⟩;rw [b.out])
    |(go_at_call 189;refine(xv _ k v.key h c).mono ?_;rintro e d ⟨rfl,n,rfl⟩;generalize qu k v.key=lb))
   go_ret;exact⟨zd (by unfold qU;rw [b.out,aJ o.out];rfl),a _ _⟩
  .have o:Hid (¬k=ByteArray.empty):=by show ¬k=ByteArray.empty;exact λe=>l (by rw [e,eC];rfl)
   cases m:qu k v.key
   .have f:Hid _:=m;clear m;by_cases i:v.key.toList=k.toList
    .have q:Hid _:=qN.1 i;go_enter Tryz.func156,Tryz.ntmps156
     go_wp2_with (first
      |(go_at_call 188;refine(xF _ v.key p c g).mono ?_;rintro e d ⟨rfl,rfl⟩;rw [b.out])
      |(go_at_call 189;refine(xv _ k v.key h c).mono ?_;rintro e d ⟨rfl,n,rfl⟩;rw [f.out]))
     go_ret;exact⟨zd (by unfold qU;rw [b.out,f.out,decide_eq_false o.out,aJ q.out];simp [l]),a _ _⟩
    .have t:(v.key.toList==k.toList)=false:=by simpa using i
     have q:Hid _:=mt qN.2 i;go_enter Tryz.func156,Tryz.ntmps156
     go_wp2_with (first
      |(go_at_call 188;refine(xF _ v.key p c g).mono ?_;rintro e d ⟨rfl,rfl⟩;rw [b.out])
      |(go_at_call 189;refine(xv _ k v.key h c).mono ?_;rintro e d ⟨rfl,n,rfl⟩;rw [f.out]))
     go_ret;exact⟨zd (by unfold qU;rw [b.out,f.out,decide_eq_false o.out,decide_eq_false q.out];simp [l]),a _ _⟩
   .have f:Hid _:=m;clear m;go_enter Tryz.func156,Tryz.ntmps156
    go_wp2_with (first
     |(go_at_call 188;refine(xF _ v.key p c g).mono ?_;rintro e d ⟨rfl,rfl⟩;rw [b.out])
     |(go_at_call 189;refine(xv _ k v.key h c).mono ?_;rintro e d ⟨rfl,n,rfl⟩;rw [f.out]))
    go_ret;exact⟨zd (by unfold qU;rw [b.out,f.out];simp),a _ _⟩
def qH(p k:ByteArray)(n m:Int):Int:=
 if (p≠ByteArray.empty/\zp p.data.toList=false)\/(k≠ByteArray.empty/\zp k.data.toList=false) then 2 else if n<0\/m<1\/50<m then 4 else 0
theorem v7(k:ByteArray):k.toList=[]↔k=ByteArray.empty:=
 ⟨λh=>qN.1 (by rw [h,eC];rfl),λh=>by rw [h,eC];rfl⟩
theorem Jc(k:Bool):(xd k !=0)= !k:=by cases k<;>rfl
theorem vU(w:World)(p k:ByteArray)(g:p.size<=maxLen)(j:k.size<=maxLen)(n m:Int):
 Calls Tryz.prog 155 #[.string p,.string k,.int .i64 n,.int .i64 m] w λe w'=>e=.returned (.int .i64 (qH p k n m))/\w'=w:=by
 have hfin:∀c a,zp p.data.toList=c->zp k.data.toList=a->∀d,(if (¬p.toList=[]/\c=false)\/(¬k.toList=[]/\a=false) then 2 else if n<0\/m<1\/50<m then (4:Int) else 0)=d->Ending.returned (.int .i64 d)=.returned (.int .i64 (qH p k n m)):=
  λc a b h2 d h=>by rw [<-h];unfold qH;rw [b,h2];simp only [ne_eq,<-v7]
 change Hid _ at hfin;generalize b:zp p.data.toList=c;generalize h2:zp k.data.toList=a;change Hid _ at b h2;have f:=Jc c;have i:=Jc a;go_enter Tryz.func155,Tryz.ntmps155;go_wp2_with fail;refine(y7 _ _ g b).mono ?_;rintro e w' ⟨rfl,rfl⟩;go_wp2_with fail;refine(y7 _ _ j h2).mono ?_;rintro e w' ⟨rfl,rfl⟩;go_wp2
 all_goals
  go_ret;refine⟨hfin c a b h2 _ ?_,rfl⟩;clear hfin b h2 f i g j
  first
   |(simp_all;done)
   |(simp_all;omega)
end ref
namespace ref
open Go.ChangeShapes Go.WideShapes Go.ChangeAt Go.RowKit disk
open keys (zh zd zx zq zp up xd)
attribute [local go_sem ↓] Go.wp_at_zero Go.wp_at_succ
variable {w:World}{cs:List (List Value)}{vs:List zB}{F G:Nat->Prop}{b cap:Nat}{last:Int}{a:Option Addr}
theorem yY.one{P:Nat->Prop}(h:yY w P cs vs):∀u∈cs.flatten,u.oneCell'=true:=λu b=>by
 obtain⟨c,f,b⟩:=eW.1 b;obtain⟨i,d,rfl⟩:=ed f;obtain⟨a,cap,e,_⟩:=(h.each i d (by rw [<-h.len];exact d)).at_;rw [e] at b;simp only [ar,ic,or_false] at b;rcases b with rfl|rfl|rfl|rfl<;>rfl
theorem q9.copied{g:World}(h:q9 w F G b vs last a cap cs)(f:Option Addr)(d:Nat)
 (j:g.ownsRow 0 123 4 (.slice f vs.length d) vs.length cs.flatten) (i:(w.alloc (.cells #[.slice none 0 0,.int .i64 last] 164)).drew.grownBy g none)
 (n:(Value.slice f vs.length d).ownBlock=none\/(Value.slice f vs.length d).ownBlock=some (w.heap.size+1)) (m:g.heap[w.heap.size]? =some (.cells #[.slice none 0 0,.int .i64 last] 164)):
 zJ (g.setCell ⟨w.heap.size,0,none⟩ (.slice f vs.length d)) (λk=>w.heap.size<=k) G w.heap.size vs last/\za (λ_=>False) w (g.setCell ⟨w.heap.size,0,none⟩ (.slice f vs.length d)):=by
 have l:∀k,(Value.slice f vs.length d).ownBlock=some k->k=w.heap.size+1:=λk c=>by rcases n with e|e<;>rw [e] at c<;>simp at c;omega
 have k1:za (λ_=>False) w g:=((za.alloc _ w _).trans (za.drew _ _) iL).trans (za.grown (S:=λ_=>False) i (λk c=>by cases c)) iL;have k2:=za.setCell (S:=λk=>k=w.heap.size) g ⟨w.heap.size,0,none⟩ (.slice f vs.length d) rfl;have k3:=k1.trans k2 (λk c=>.inr (by omega));refine⟨⟨f,d,cs,?_,?_,h.tells.kept k3 nF,aF _,λk c=>?_,λc=>?_⟩,k3⟩;.rw [heap_setCell_same g w.heap.size 0 _ _ _ m];rfl
 .exact k2.owns j (λk c e=>by have:=l k c;omega)
 .show w.heap.size<=k;have:=l k c;omega
 .have:=l _ c;omega
theorem ux(w:World)(F G:Nat->Prop)(b:Nat)(vs:List zB)(last:Int)(h:zJ w F G b vs last)(r:vs.length<=2199023255552):
 Calls Tryz.prog 94 #[.pointer (some ⟨b,0,none⟩)] w λe w'=>e=.returned (.pointer (some ⟨w.heap.size,0,none⟩))/\zJ w' (λk=>w.heap.size<=k) G w.heap.size vs last/\za (λ_=>False) w w':=by
 obtain⟨a,cap,cs,h⟩:=h;have z:=h.c0;have y:=h.c1;have A:=h.lt;have p:Hid _:=h;obtain⟨j,l,n,o,m⟩:=yv Tryz.infoKept;have g:Hid (Tryz.prog.info? 123=some j/\j.zero=some (.agg #[.string ByteArray.empty,.int .i64 0,.bool false,.slice none 0 0])/\j.size=4/\j.bytes=56):=⟨l,n,o,m⟩;clear l n o m h
 have u:Hid (q9 (w.alloc (.cells #[.slice none 0 0,.int .i64 last] 164)).drew F G b vs last a cap cs):=
  p.kept ((za.alloc (λ_=>False) w _).trans (za.drew _ _) iL) nF nF
 go_enter Tryz.func94,Tryz.ntmps94;go_wp2
 go_region_law ((refine jJ rfl (.tmp 14) (.tmp 18) 162 rfl 123 j _ 4 56 Tryz.underlying162 g.1 g.2.1 g.2.2.1 g.2.2.2 rfl (by omega) _ vs.length cs.flatten (by rfl) (by rfl) (by exact u.row) p.tells.one (by unfold maxLen;omega) (by omega) ?_;intro t x q d c i;have f:q.heap[w.heap.size]? =some (.cells #[.slice none 0 0,.int .i64 last] 164):=(c.block w.heap.size (by simp) (by simp)).trans (ac w _);have v:=aG q w.heap.size 0 _ _ _ f;have s:=aa q w.heap.size 0 _ _ f;change Hid _ at c d i f))
 all_goals
  go_wp2;go_ret;exact⟨rfl,p.copied t x d c (by have:=i.out;simpa using this) f⟩
theorem q9.added{f j:World}(h:q9 w F G b vs last a cap cs)(D:∀k,F k->¬G k)(v:zB)
 (d:Option Addr) (i:Nat) (n:f.ownsRow 0 5 1 (.slice d v.body.length i) v.body.length (v.body.map qy)) (B:w.grownBy f none)
 (u:(Value.slice d v.body.length i).ownBlock=none\/(Value.slice d v.body.length i).ownBlock=some w.heap.size)
 (J:Obj) (g l:Nat) (q:j.ownsRow 0 123 4 (.slice (some ⟨g,0,none⟩) (vs.length+1) l) (vs.length+1) (cs.flatten++[.string v.key,.int .i64 v.num,.bool v.mark,.slice d v.body.length i]))
 (C:(f.alloc J).grownBy j (Value.slice a vs.length cap).ownBlock) (m:(Value.slice a vs.length cap).ownBlock=some g\/g=f.heap.size+1):
 q9 (j.setCell ⟨b,0,none⟩ (.slice (some ⟨g,0,none⟩) (vs.length+1) l)) (λk=>F k\/w.heap.size<=k) (λk=>G k\/w.heap.size<=k) b (vs++[v]) last (some ⟨g,0,none⟩) l (cs++[[.string v.key,.int .i64 v.num,.bool v.mark,.slice d v.body.length i]])/\
  za F w (j.setCell ⟨b,0,none⟩ (.slice (some ⟨g,0,none⟩) (vs.length+1) l)):=by
 have E:=h.lt;have k1:za (λ_=>False) w f:=za.grown B (λk c=>by cases c);have k2:za (λ_=>False) f (f.alloc J):=za.alloc _ _ _;have k3:=za.grown C (λk c=>c);have r:=(k2.mono fE).trans k3 iL;have s:=(k1.mono fE).trans r iL;have y:=za.setCell (S:=λk=>k=b) j ⟨b,0,none⟩ (.slice (some ⟨g,0,none⟩) (vs.length+1) l) rfl;have t:=(s.mono (λk c=>h.foot2 k c)).trans y (λk c=>.inl (by rw [c];exact h.foot));have o:(vs++[v]).length=vs.length+1:=by simp
 have A:g≠b:=by
  have:=k1.size;rcases m with e|e;.exact λH=>h.apart (by rw [e,H])
  .omega
 have x:∀k,(Value.slice d v.body.length i).ownBlock=some k->k=w.heap.size:=λk c=>by rcases u with e|e<;>rw [e] at c<;>simp at c;omega
 refine⟨⟨?_,?_,?_,.inl h.foot,?_,?_⟩,t⟩
 .rw [o];have e:=(s.block b E (λe=>h.apart e)).trans h.head;rw [heap_setCell_same j b 0 _ _ _ e];rfl
 .rw [o];have:=y.owns q (λk c e=>by simp [Value.ownBlock] at c;omega);simpa using this
 .refine yY.snoc ((h.tells.kept t (λk c I=>D k I c)).mono (λk c _=>.inl c)) ⟨d,i,rfl,?_⟩
  have z:=r.owns n (λk c e=>by
   have K:=x k c;have h2:=(h.row.lt k e).2
   omega)
  have p:=y.owns z (λk c e=>by have:=x k c;omega);exact zO.of_own 5 p rfl _ (λk c=>.inr (by rw [x k c];exact aF _))
 .intro k c;rw [o] at c;simp [Value.ownBlock] at c;subst c;rcases m with e|e;.exact .inl (h.foot2 _ e)
  .exact .inr (by have:=k1.size;omega)
 .rw [o];simp [Value.ownBlock];exact A
theorem q9.told(h:q9 w F G b vs last a cap cs)(n:Int)(f:∀k,G k->k<w.heap.size->k≠b):
 q9 (w.setCell ⟨b,1,none⟩ (.int .i64 n)) F G b vs n a cap cs:=by
 have d:=za.setCell (S:=λk=>k=b) w ⟨b,1,none⟩ (.int .i64 n) rfl;refine⟨?_,d.owns h.row (λk j e=>h.apart (by rw [j,e])),?_,h.foot,h.foot2,h.apart⟩;.rw [heap_setCell_same w b 1 _ _ _ h.head];rfl
 .have g:=h.tells.mono (Q:=λk=>G k/\k<w.heap.size) (λi c l=>⟨c,l⟩);exact(g.kept d (λi c e=>f i c.1 c.2 e)).mono (λi c _=>c.1)
theorem dj(w:World)(F G P:Nat->Prop)(b:Nat)(vs:List zB)(last:Int)(h:zJ w F G b vs last)(E:∀k,F k->¬G k)(M:vs.length<=2199023255552)(u:ByteArray)(n:Int)(f:Bool)
 (H:Option Addr) (K:Nat) (l:List UInt8) (B:zO w P H l) (W:l.length<=140737488355328):
 Calls Tryz.prog 95 #[.pointer (some ⟨b,0,none⟩),.string u,.int .i64 n,.bool f,.slice H l.length K] w λe w'=>e=.returned (.tuple #[])/\
  zJ w' (λk=>F k\/w.heap.size<=k) (λk=>G k\/w.heap.size<=k) b (vs++[⟨u,n,f,l⟩]) (max last n)/\za F w w':=by
 obtain⟨a,cap,cs,h⟩:=h;have Z:=h.lt;have V:Hid _:=B;obtain⟨z,i,p,q,o⟩:=yv Tryz.infoKept;have v:Hid (Tryz.prog.info? 123=some z/\z.zero=some (.agg #[.string ByteArray.empty,.int .i64 0,.bool false,.slice none 0 0])/\z.size=4/\z.bytes=56):=⟨i,p,q,o⟩;clear i p q o;obtain⟨A,i,p,q,o⟩:=yv Tryz.infoU8;have r:Hid (Tryz.prog.info? 5=some A/\A.zero=some (.int .u8 0)/\A.size=1/\A.bytes=1):=⟨i,p,q,o⟩;change Hid _ at h;clear i p q o B;go_enter Tryz.func95,Tryz.ntmps95
 go_wp2_with (first
  |(refine yN P rfl (.tmp 11) (.tmp 12) 35 rfl 5 A _ Tryz.underlying35 r.1 r.2.1 r.2.2.1 r.2.2.2 rfl H K l (by rfl) (by rfl) (by exact V) W ?_;intro I L D s d y;have m:Hid _:=h.kept (za.grown (S:=λ_=>False) d (λk j=>by cases j)) nF nF;have aa:=m.c0;have ab:=m.fz 0;have N:=m.lt;change Hid _ at s d y)
  |(refine wpList_append_lies _ rfl (.tmp 18) (.tmp 24) 162 rfl 0 123 z _ 4 56 Tryz.underlying162 v.1 v.2.1 v.2.2.1 v.2.2.2 rfl (by omega) (.slice a vs.length cap) vs.length cs.flatten (by rfl) (by exact m.row.alloc _) ⟨D.heap.size,0,none⟩ 1 1 [.string u,.int .i64 n,.bool f,.slice I l.length L] (by rfl) (by rfl) (by exact World.news_of_block (ac D _)) (by simp [Value.oneCell']) (by omega) (by unfold maxLen;omega) (by omega) (aj _) (D.heap.size+1) (by simp) ?_;intro g T J t c C Q;have x:Hid _:=q9.added h E ⟨u,n,f,l⟩ I L s d y _ g T t c C;have U:J.cell? ⟨b,0,none⟩=some (.slice a vs.length cap):=(c.cell_far ⟨b,0,none⟩ (by simp;omega) (λe=>m.apart e.symm)).trans (by simpa using m.kept (za.alloc (λ_=>False) D _) nF nF |>.c0);have O:J.frozen? ⟨b,0,none⟩=false:=(c.frozen_far ⟨b,0,none⟩ (by simp;omega) (λe=>m.apart e.symm)).trans (by simpa using m.kept (za.alloc (λ_=>False) D _) nF nF |>.fz 0);have X:=x.1.c1;have R:=x.1.fz 1;clear t c C))
 .go_end0;have B:F b:=h.foot
  have Y:=x.1.told n (λk j _ e=>by
   subst e;rcases j with j|j;.exact E _ B j
   .omega)
  exact⟨rfl,⟨_,_,_,by rw [show max last n=n from by omega];exact Y⟩,x.2.trans (za.setCell (S:=λk=>k=b) _ ⟨b,1,none⟩ _ rfl) (λk j=>.inl (by rw [j];exact B))⟩
 .go_end0;exact⟨rfl,⟨_,_,_,by rw [show max last n=last from by omega];exact x.1⟩,x.2⟩
theorem Zu(vs:List zB)(k:Nat)(h:k<vs.length)(a:ByteArray)(n:Int):
 yj (vs.take (k+1)) a n=if vs[k].key=a/\vs[k].num=n then yj (vs.take k) a n else yj (vs.take k) a n++[vs[k]]:=by
 unfold yj;rw [ao h,lP];by_cases b:vs[k].key=a/\vs[k].num=n;.rw [aB b];simp [b.1,b.2]
 .rw [aw b]
  have:(!(decide (vs[k].key=a)&&decide (vs[k].num=n)))=true:=by rw [iy,i4];simp only [ne_eq,aW,aR];exact b
  rw [eX,aB this];rfl
theorem Qq(vs:List zB)(k:Nat)(a:ByteArray)(n:Int):(yj (vs.take k) a n).length<=vs.length:=by
 unfold yj;exact aD (ip _ _) (by rw [aC];omega)
structure dz (w wr:World) (F G:Nat->Prop) (b:Nat) (vs:List zB) (last:Int) (a:Option Addr) (cap:Nat) (cs:List (List Value)) (us:List zB) (x:Value):Prop where
 ref:q9 wr F G b vs last a cap cs
 kept:za (λ_=>False) w wr
 row:∃a' cap' ds,x=.slice a' us.length cap'/\wr.ownsRow 0 123 4 (.slice a' us.length cap') us.length ds.flatten/\yY wr G ds us/\∀k,(Value.slice a' us.length cap').ownBlock=some k->w.heap.size<=k
theorem dz.pushed{wr m:World}{us:List zB}{s:Option Addr}{f:Nat}{u:List (List Value)}
 (p:q9 wr F G b vs last a cap cs) (h:za (λ_=>False) w wr) (j:yY wr G u us) (i:∀k,(Value.slice s us.length f).ownBlock=some k->w.heap.size<=k)
 (t:∀k,G k->k<w.heap.size) (hF:∀k,F k->k<w.heap.size) (v:zB) (l:Option Addr) (d:Nat) (z:zO wr G l v.body) (A:Obj) (g o:Nat)
 (x:m.ownsRow 0 123 4 (.slice (some ⟨g,0,none⟩) (us.length+1) o) (us.length+1) (u.flatten++[.string v.key,.int .i64 v.num,.bool v.mark,.slice l v.body.length d]))
 (n:(wr.alloc A).grownBy m (Value.slice s us.length f).ownBlock) (y:(Value.slice s us.length f).ownBlock=some g\/g=wr.heap.size+1):
 dz w m F G b vs last a cap cs (us++[v]) (.slice (some ⟨g,0,none⟩) (us.length+1) o):=by
 have k2:za (λk=>w.heap.size<=k) wr m:=((za.alloc _ wr A).trans (za.grown (S:=λk=>w.heap.size<=k) n (λk c=>i k c)) iL);have q:(us++[v]).length=us.length+1:=by simp
 refine⟨p.kept k2 (λk c r=>by have:=hF k c;omega) (λk c r=>by have:=t k c;omega),h.trans k2 (λk c=>.inr c),some ⟨g,0,none⟩,o,u++[[.string v.key,.int .i64 v.num,.bool v.mark,.slice l v.body.length d]],by rw [q],?_,?_,?_⟩;.rw [q];simpa using x
 .exact(j.kept k2 (λk c r=>by have:=t k c;omega)).snoc ⟨l,d,rfl,z.kept k2 (λk c r=>by have:=t k c;omega)⟩
 .intro k c;rw [q] at c;simp [Value.ownBlock] at c;subst c;rcases y with e|e;.exact i _ e
  .have:=h.size;omega
theorem dz.done{wr:World}{us:List zB}{n:List (List Value)}{h:Option Addr}{c:Nat}
 (i:q9 wr F G b vs last a cap cs) (l:za (λ_=>False) w wr) (o:wr.ownsRow 0 123 4 (.slice h us.length c) us.length n.flatten) (j:yY wr G n us)
 (f:∀k,(Value.slice h us.length c).ownBlock=some k->w.heap.size<=k) (p:∀k,F k->¬G k) (hF:∀k,F k->k<w.heap.size):
 zJ (wr.setCell ⟨b,0,none⟩ (.slice h us.length c)) (λk=>F k\/w.heap.size<=k) G b us last/\za F w (wr.setCell ⟨b,0,none⟩ (.slice h us.length c)):=by
 have m:=za.setCell (S:=λk=>k=b) wr ⟨b,0,none⟩ (.slice h us.length c) rfl;have g:=i.foot;have q:=hF b g;refine⟨⟨h,c,n,?_,m.owns o (λk d e=>by have:=f k d;omega),j.kept m (λk d e=>p b g (by rw [<-e];exact d)),.inl g,λk d=>.inr (f k d),λd=>by have:=f _ d;omega⟩,?_⟩;.rw [heap_setCell_same wr b 0 _ _ _ i.head];rfl
 .exact(l.mono fE).trans m (λk d=>.inl (by rw [d];exact g))
theorem Y7(w:World)(F G:Nat->Prop)(b:Nat)(vs:List zB)(last:Int)(h:zJ w F G b vs last)(V:∀k,F k->¬G k)(hF:∀k,F k->k<w.heap.size)(S:∀k,G k->k<w.heap.size)(W:vs.length<=2199023255552)(j:ByteArray)(n:Int):
 Calls Tryz.prog 102 #[.pointer (some ⟨b,0,none⟩),.string j,.int .i64 n] w λe w'=>e=.returned (.tuple #[])/\
  zJ w' (λk=>F k\/w.heap.size<=k) G b (yj vs j n) last/\za F w w':=by
 obtain⟨a,cap,cs,h⟩:=h;have Z:Hid _:=h;obtain⟨y,D,H,I,E⟩:=yv Tryz.infoKept;have p:Hid (Tryz.prog.info? 123=some y/\y.zero=some (.agg #[.string ByteArray.empty,.int .i64 0,.bool false,.slice none 0 0])/\y.size=4/\y.bytes=56):=⟨D,H,I,E⟩;clear D H I E;clear h;go_enter Tryz.func102,Tryz.ntmps102;go_wp2;go_loopw [6,7] (λai i wr=>∃k:Nat,k<=vs.length/\i=.int .i64 k/\dz w wr F G b vs last a cap cs (yj (vs.take k) j n) ai) (λ_ i _=>vs.length-(intOf i).toNat)
 case atStart=>exact⟨0,aj _,rfl,Z,za.refl _ _,none,0,[],rfl,aV w 0 123 4,yY.nil _ _,λk T=>by cases T⟩
 case round=>
  obtain⟨k,T,rfl,O⟩:=hrel;obtain⟨c,m,K,v,N,rfl,s,f,q⟩:=O;have ad:=c.c0;have ae:=c.fz 0;change Hid _ at c m s f q;by_cases z:k<vs.length
  .have P:Hid _:=Zu vs k z j n;have ab:=Qq vs k j n;generalize x:yj (vs.take k) j n=us at*;clear x;obtain⟨g,rfl⟩:=c.rowAt (by omega);obtain⟨ah,af,h2,C,t,ak,B⟩:=c.cells k z;change Hid _ at B;by_cases u:vs[k].key.toList=j.toList
   .by_cases o:vs[k].num=n
    .have U:(vs[k].num !=n)=false:=by simpa using o
     have A:Hid _:=o;clear o;have R:Hid _:=qN.1 u;go_wp2;go_roundw
     case rel=>exact⟨k+1,by omega,by go_num,by rw [P.out,aB ⟨R.out,A.out⟩];exact⟨c,m,K,v,N,rfl,s,f,q⟩⟩
     case measure=>simp [intOf];omega
    .have U:(vs[k].num !=n)=true:=by simpa using o
     have A:Hid _:=o;clear o;go_wp2_with (refine wpList_append_lies _ rfl (.tmp 39) (.tmp 47) 162 rfl 0 123 y _ 4 56 Tryz.underlying162 p.1 p.2.1 p.2.2.1 p.2.2.2 rfl (by omega) (.slice K us.length v) us.length N.flatten (by rfl) (by exact er s _) ⟨wr.heap.size,0,none⟩ 1 1 [.string vs[k].key,.int .i64 vs[k].num,.bool vs[k].mark,.slice C vs[k].body.length t] (by rfl) (by rfl) (by exact World.news_of_block (ac wr _)) (by simp [Value.oneCell']) (by omega) (by unfold maxLen;omega) (by omega) (aj _) (wr.heap.size+1) (by simp) ?_;intro M Q Y l d r L;have J:Hid _:=dz.pushed c m f q S hF vs[k] C t B _ M Q l d r;clear l d r);go_roundw
     case rel=>exact⟨k+1,by omega,by go_num,by rw [P.out,aw (λh=>A.out h.2)];exact J⟩
     case measure=>simp [intOf];omega
   .have ag:(vs[k].key.toList !=j.toList)=true:=by simpa using u
    go_wp2_with (refine wpList_append_lies _ rfl (.tmp 39) (.tmp 47) 162 rfl 0 123 y _ 4 56 Tryz.underlying162 p.1 p.2.1 p.2.2.1 p.2.2.2 rfl (by omega) (.slice K us.length v) us.length N.flatten (by rfl) (by exact er s _) ⟨wr.heap.size,0,none⟩ 1 1 [.string vs[k].key,.int .i64 vs[k].num,.bool vs[k].mark,.slice C vs[k].body.length t] (by rfl) (by rfl) (by exact World.news_of_block (ac wr _)) (by simp [Value.oneCell']) (by omega) (by unfold maxLen;omega) (by omega) (aj _) (wr.heap.size+1) (by simp) ?_;intro M Q Y l d r L;have J:Hid _:=dz.pushed c m f q S hF vs[k] C t B _ M Q l d r;clear l d r);go_roundw
    case rel=>exact⟨k+1,by omega,by go_num,by rw [P.out,aw (λh=>u (qN.2 h.1))];exact J⟩
    case measure=>simp [intOf];omega
  .have e:vs.take k=vs:=an (by omega);have A:Hid _:=e;clear e;generalize x:yj (vs.take k) j n=us at*;have aa:Hid _:=x;clear x;go_wp2;go_end0;have X:yj vs j n=us:=by rw [<-aa.out,A.out]
   rw [X];exact⟨rfl,dz.done c m s f q V hF⟩
end ref
namespace book
open Go.ChangeShapes Go.WideShapes Go.ChangeAt Go.RowKit disk ref
open keys (zh zd zx zq)
variable {w w':World}{P T:Nat->Prop}{t:TypeId}{a:Option Addr}{n g:Nat}{z:Value}{ss:List (Option Addr×Nat×Nat)}
def vM(i d:Nat):Int:=((i/251^d%251:Nat):Int)
theorem JX(w:World)(i d:Nat)(c:i<=9223372036854775807)(j:d<=2):
 Calls Tryz.prog 112 #[.int .i64 i,.int .i64 d] w λe w'=>e=.returned (.int .u8 (vM i d))/\w'=w:=by
 go_enter Tryz.func112,Tryz.ntmps112;go_wp2;go_loop [0,5] (λl t=>∃k:Nat,k<=d/\t=.int .i64 k/\l=.int .i64 ((i/251^k:Nat):Int)) (λ_ t=>d-(intOf t).toNat)
 case atStart=>exact⟨0,aj _,rfl,by simp⟩
 case round=>
  obtain⟨k,h,rfl,rfl⟩:=hrel;have g:i/251^k<=9223372036854775807:=aD (Nat.div_le_self _ _) c;by_cases f:k<d
  .have b:i/251^(k+1)=i/251^k/251:=by rw [lQ,l5]
   generalize i/251^k=q at*;change Hid _ at b;go_wp2;go_round
   case rel=>exact⟨k+1,by omega,by go_num,by rw [b.out];go_num⟩
   case measure=>simp [intOf];omega
  .have e:k=d:=by omega
   have a:vM i d=((i/251^k%251:Nat):Int):=by rw [e];rfl
   change Hid _ at a;clear e;generalize i/251^k=q at*;go_wp2;go_ret;exact⟨zh (by rw [a.out];simp [go_sem];try omega),rfl⟩
theorem vu(w:World)(i d:Int)(b:0<=i)(f:i<=9223372036854775807)(a:0<=d)(c:d<=2):
 Calls Tryz.prog 112 #[.int .i64 i,.int .i64 d] w λe w'=>e=.returned (.int .u8 (vM i.toNat d.toNat))/\w'=w:=by
 obtain⟨n,rfl⟩:=lw b;obtain⟨m,rfl⟩:=lw a;exact JX w n m (by omega) (by omega)
def gw(w:World)(P:Nat->Prop)(t:TypeId)(a:Option Addr)(n:Nat):Prop:=
 n=0\/∃b cur,a=some ⟨b,0,none⟩/\P b/\w.heap[b]? =some (.cells cur t (0,0))/\n<=cur.size
def cf(w:World)(a:Option Addr)(n:Nat)(z:Value):Prop:=∀j,j<n->∀b,a=some ⟨b,0,none⟩->w.cell? ⟨b,j,none⟩=some z
theorem gw.kept(h:gw w P t a n)(k:za T w w')(g:∀i,P i->¬T i):gw w' P t a n:=by
 rcases h with h|⟨b,c,f,h2,d,e⟩;.exact .inl h
 .exact .inr ⟨b,c,f,h2,(k.block b (lT d) (g b h2)).trans d,e⟩
theorem gw.set(h:gw w P t a n)(g j:Nat)(v:Value):gw (w.setCell ⟨g,j,none⟩ v) P t a n:=by
 rcases h with h|⟨b,f,d,h2,i,c⟩;.exact .inl h
 .by_cases e:b=g
  .subst e;exact .inr ⟨b,_,d,h2,heap_setCell_same w b j _ _ _ i,by simpa using c⟩
  .exact .inr ⟨b,f,d,h2,(ir w ⟨g,j,none⟩ b v e).trans i,c⟩
theorem cf.kept(h:cf w a n z)(e:gw w P t a n)(k:za T w w')(f:∀i,P i->¬T i):cf w' a n z:=by
 intro j g b c;rcases e with e|⟨b',m,d,h2,l,o⟩;.omega
 .rw [d] at c;cases c;exact(k.cell (a:=⟨b,j,none⟩) (lT l) (f b h2)).trans (h j g b d)
theorem zL{b j k:Nat}{v u:Value}(h:w.cell? ⟨b,k,none⟩=some u):(w.setCell ⟨g,j,none⟩ v).cell? ⟨b,k,none⟩=some (if b=g/\k=j then v else u):=by
 by_cases e:b=g/\k=j
 .obtain⟨rfl,rfl⟩:=e;rw [aB ⟨rfl,rfl⟩,World.cell?_setCell_same w _ _ h]
 .rw [aw e,World.cell?_setCell_other w _ _ _ (by intro h2;simp at h2;exact e ⟨h2.1.symm,h2.2.symm⟩)];exact h
theorem cf.set(h:cf w a n z)(g j:Nat):cf (w.setCell ⟨g,j,none⟩ z) a n z:=by
 intro i d b c;rw [zL (h i d b c)];simp
def gx(s:Option Addr×Nat×Nat):Value:=.slice s.1 s.2.1 s.2.2
structure xH (w:World) (P:Nat->Prop) (g:Nat) (ss:List (Option Addr×Nat×Nat)):Prop where
 head:w.heap[g]? =some (.cells (ss.map gx).toArray 35 (0,0))
 room:∀s∈ss,gw w P 5 s.1 s.2.1
 gP:¬P g
 few:∀s∈ss,s.2.1<=9223372036854775807
 len:ss.length<=100
theorem xH.kept(h:xH w P g ss)(k:za T w w')(c:∀i,P i->¬T i)(a:¬T g):xH w' P g ss:=
 ⟨(k.block g (lT h.head) a).trans h.head,λs b=>(h.room s b).kept k c,h.gP,h.few,h.len⟩
theorem xH.set(h:xH w P g ss)(b j:Nat)(v:Value)(a:P b):xH (w.setCell ⟨b,j,none⟩ v) P g ss:=
 ⟨(ir w ⟨b,j,none⟩ g v (λe=>h.gP (by rw [e];exact a))).trans h.head,λs c=>(h.room s c).set b j v,h.gP,h.few,h.len⟩
theorem xH.cell(h:xH w P g ss)(i:Nat)(a:i<ss.length):w.cell? ⟨g,i,none⟩=some (.slice ss[i].1 ss[i].2.1 ss[i].2.2):=by
 rw [aG w g i _ _ _ h.head];simp [a,gx]
def xH.Are(w:World)(ss:List (Option Addr×Nat×Nat))(z:Value):Prop:=∀s∈ss,cf w s.1 s.2.1 z
theorem xH.Are.kept(h:xH.Are w ss z)(b:xH w P g ss)(k:za T w w')(c:∀i,P i->¬T i):xH.Are w' ss z:=
 λs a=>(h s a).kept (b.room s a) k c
theorem yT(w:World)(P:Nat->Prop)(g cap:Nat)(ss:List (Option Addr×Nat×Nat))(h:xH w P g ss)(z:Int)(N:0<=z)(O:z<=255):
 Calls Tryz.prog 113 #[.slice (some ⟨g,0,none⟩) ss.length cap,.int .u8 z] w λe w'=>e=.returned (.tuple #[])/\xH w' P g ss/\xH.Are w' ss (.int .u8 z)/\za P w w':=by
 have H:Hid _:=h;have E:=h.len;clear h;go_enter Tryz.func113,Tryz.ntmps113;go_wp2;go_loopw [4] (λt wr=>∃k:Nat,k<=ss.length/\t=.int .i64 k/\xH wr P g ss/\(∀i (f:i<ss.length),i<k->cf wr ss[i].1 ss[i].2.1 (.int .u8 z))/\za P w wr) (λt _=>ss.length-(intOf t).toNat)
 case atStart=>exact⟨0,aj _,rfl,H,λ_ _ h=>by omega,za.refl _ _⟩
 case round=>
  obtain⟨k,T,rfl,B,C,d⟩:=hrel;change Hid _ at B C d;by_cases l:k<ss.length
  .go_wp2;go_loopw [5] (λt u=>∃m:Nat,m<=ss[k].2.1/\t=.int .i64 m/\xH u P g ss/\(∀i (f:i<ss.length),i<k->cf u ss[i].1 ss[i].2.1 (.int .u8 z))/\cf u ss[k].1 m (.int .u8 z)/\za P w u) (λt _=>ss[k].2.1-(intOf t).toNat)
   case atStart=>exact⟨0,aj _,rfl,B,C,λj K=>by omega,d⟩
   case round=>
    obtain⟨m,U,rfl,c,n,p,a⟩:=hrel;have I:=c.cell k l;have J:=c.few ss[k] (ai l);change Hid _ at c n p a;by_cases G:m<ss[k].2.1
    .have r:=c.room ss[k] (ai l);rcases r with R|⟨b,o,y,h2,A,V⟩;.omega
     .have D:wr.cell? ⟨b,m,none⟩=some o[m]:=by rw [aG wr b m _ _ _ A];simp
      have L:=aa wr b m _ _ A;rw [y] at I;have M:m<o.size:=by omega
      change Hid _ at y h2;clear A;generalize o[m]=Q at*;go_wp2;go_roundw
      case rel=>
       refine⟨m+1,by omega,by go_num,c.set b m _ h2,λi f v=>(n i f v).set b m,?_,a.trans (za.setCell (S:=P) _ ⟨b,m,none⟩ _ h2) iL⟩;intro j K b' q;have e:b'=b:=by have:=y.out;rw [this] at q;cases q;rfl
       subst e;by_cases x:j=m;.subst x;rw [zL D];simp
       .rw [zL (p.out j (by omega) b' q)];simp
      case measure=>simp [intOf];omega
    .go_wp2;go_roundw
     case rel=>
      refine⟨k+1,by omega,by go_num,c,λi f v=>?_,a⟩;by_cases e:i=k
      .subst e;have x:m=ss[i].2.1:=by omega
       rw [<-x];exact p.out
      .exact n i f (by omega)
     case measure=>simp [intOf];omega
  .go_wp2;go_end0;refine⟨rfl,B,λs F=>?_,d⟩;obtain⟨i,f,rfl⟩:=ed F;exact C i f (by omega)
theorem qD(w:World)(P:Nat->Prop)(g cap:Nat)(ss:List (Option Addr×Nat×Nat))(h:xH w P g ss)(z:Int)(i:xH.Are w ss (.int .u8 z)):
 Calls Tryz.prog 111 #[.slice (some ⟨g,0,none⟩) ss.length cap,.int .u8 z] w λe w'=>e=.returned (.bool true)/\w'=w:=by
 have j:=h.len;change Hid _ at h i;go_enter Tryz.func111,Tryz.ntmps111;go_wp2;go_loop [5] (λt=>∃k:Nat,k<=ss.length/\t=.int .i64 k) (λt=>ss.length-(intOf t).toNat)
 case atStart=>exact⟨0,aj _,rfl⟩
 case round=>
  obtain⟨k,u,rfl⟩:=hrel;by_cases a:k<ss.length
  .have l:=h.cell k a;have n:=h.few ss[k] (ai a);go_wp2;go_loop [6] (λt=>∃m:Nat,m<=ss[k].2.1/\t=.int .i64 m) (λt=>ss[k].2.1-(intOf t).toNat)
   case atStart=>exact⟨0,aj _,rfl⟩
   case round=>
    obtain⟨m,v,rfl⟩:=hrel;by_cases d:m<ss[k].2.1
    .have c:=h.room ss[k] (ai a);rcases c with r|⟨b,p,f,h2,o,s⟩;.omega
     .have q:=i.out ss[k] (ai a) m d b f;rw [f] at l;clear f h2 o;go_wp2;go_round
      case rel=>exact⟨m+1,by omega,by go_num⟩
      case measure=>simp [intOf];omega
    .go_wp2;go_round
     case rel=>exact⟨k+1,by omega,by go_num⟩
     case measure=>simp [intOf];omega
  .go_wp2;go_ret;exact⟨rfl,rfl⟩
end book
end Go.Proofs.YtcoengihaobddaaGreatDoor
