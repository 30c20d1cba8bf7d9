/- Part 4 of 36 of a proof: Ref2, Ref3, Ref3b, Ref4, Book1 -/
import Derived.Test.YtcoengihaobddaaGreatDoorJc03
set_option maxHeartbeats 8000000
set_option linter.unusedVariables false
set_option linter.unusedSimpArgs false
set_option maxRecDepth 8000
namespace Go.Proofs.YtcoengihaobddaaGreatDoor
namespace ref
open Go.ChangeShapes Go.WideShapes Go.ChangeAt Go.RowKit disk
open keys (zh ze zy zs)
theorem Qm.whole{vs:List zB}{a:ByteArray}{t:Value}(h:Qm vs a vs.length t):
 (t=.int .i64 (-1)/\qe vs a=none)\/∃(m:Nat) (h:m<vs.length),t=.int .i64 (m:Int)/\qe vs a=some vs[m]:=by
 unfold Qm at h;rw [eN] at h;rcases h with h|⟨m,b,_,h2,c⟩;.exact .inl h
 .exact .inr ⟨m,b,h2,c⟩
def vV(vs:List zB)(key:ByteArray):Bool:=match qe vs key with
 |none=>true
 |some v=>v.mark
theorem Va(w:World)(F G:Nat->Prop)(b:Nat)(vs:List zB)(last:Int)(h:zG w F G b vs last)(l:vs.length<=9223372036854775807)(c:ByteArray):
 Calls Tryz.prog 152 #[.pointer (some ⟨b,0,none⟩),.string c] w λe w'=>e=.returned (.bool (vV vs c))/\∃n,w'=w.drewN n:=by
 have p:Hid _:=h;obtain⟨a,cap,cs,h⟩:=h;have j:Hid _:=h;clear h;go_enter Tryz.func152,Tryz.ntmps152;go_wp2_with fail;refine(xn _ F G b vs last p.out l c).mono ?_;rintro e s ⟨⟨i,rfl,f⟩,n,rfl⟩;rcases f.whole with⟨rfl,d⟩|⟨m,o,rfl,d⟩
 .have k:Hid _:=d;clear d f;go_wp2;go_ret;exact⟨ze (by simp [vV,k.out]),_,rfl⟩
 .have k:Hid _:=d;clear d f;obtain⟨g,rfl⟩:=j.out.rowAt (by omega);have q:=j.out.c0;obtain⟨_,_,h2,_⟩:=j.out.cells m o;have r:decide ((m:Int)<0)=false:=decide_eq_false (by omega);go_wp2;go_ret;exact⟨ze (by simp [vV,k.out]),_,rfl⟩
theorem xK(w:World)(n:Int)(b:0<=n)(a:n<=4611686018427387904):
 Calls Tryz.prog 98 #[.int .i64 n] w λe w'=>e=.returned (.int .i64 (yP n.toNat))/\w'=w:=by
 go_enter Tryz.func98,Tryz.ntmps98;go_wp2;go_ret;exact⟨zh (by unfold yP;omega),rfl⟩
theorem fw(vs:List zB)(k:Nat)(h:k<vs.length):zl (vs.take (k+1))=zl (vs.take k)+yP vs[k].body.length:=by
 unfold zl;rw [ao h,eh,mH];simp
theorem cG{vs:List zB}(h:∀v∈vs,v.body.length<=1000):zl vs<=12*vs.length:=by
 unfold zl
 induction vs with
 |nil=>simp
 |cons v l a=>
  have c:=a (λu b=>h u (am _ b));have h2:=h v (al ..);simp only [aO,List.sum_cons,ae];have:yP v.body.length<=12:=by unfold yP;omega
  omega
def vW(vs:List zB)(more:Nat)(blocks:Int):Bool:=decide (2*((more:Int)+zl vs)+24<=blocks)
theorem jt(w:World)(F G:Nat->Prop)(b:Nat)(vs:List zB)(last:Int)(h:zG w F G b vs last)(q:vs.length<=4398046511104)(j:∀v∈vs,v.body.length<=1000)(c:Int)(A:0<=c)(B:c<=1125899906842624)(d:Int):
 Calls Tryz.prog 151 #[.pointer (some ⟨b,0,none⟩),.int .i64 c,.int .i64 d] w λe w'=>e=.returned (.bool (vW vs c.toNat d))/\w'=w:=by
 obtain⟨a,cap,cs,h⟩:=h;have x:=h.c0;change Hid _ at h j;go_enter Tryz.func151,Tryz.ntmps151;go_wp2;go_loop [7,8] (λt i=>∃k:Nat,k<=vs.length/\i=.int .i64 k/\t=.int .i64 (c+(zl (vs.take k):Nat))) (λ_ i=>vs.length-(intOf i).toNat)
 case atStart=>exact⟨0,aj _,rfl,by simp [zl]⟩
 case round=>
  obtain⟨k,D,rfl,rfl⟩:=hrel;have m:=cG (vs:=vs.take k) (λv s=>j v (aP s));have n:(vs.take k).length<=vs.length:=by rw [aC];omega
  generalize l:zl (vs.take k)=y at*;change Hid _ at l;have u:y<=52776558133248:=by omega
  clear m n;by_cases f:k<vs.length
  .have r:Hid _:=fw vs k f;obtain⟨g,rfl⟩:=h.rowAt (by omega);obtain⟨_,_,_,E,p,H,_⟩:=h.cells k f;have C:=j.out vs[k] (ai f);have z:yP vs[k].body.length<=12:=by unfold yP;omega
   go_wp2_with (go_at_call 98;refine(xK _ _ (by omega) (by omega)).mono ?_;rintro e w' ⟨rfl,rfl⟩);go_round
   case rel=>exact⟨k+1,by omega,by go_num,by rw [r.out,l.out];go_num⟩
   case measure=>simp [intOf];omega
  .have o:zl vs=y:=by
    have e:vs.take k=vs:=an (by omega);rw [<-l.out,e]
   change Hid _ at o;go_wp2;go_ret;exact⟨ze (by unfold vW;rw [o.out];congr 1;apply propext;omega),rfl⟩
theorem JV(A B:List UInt8)(k:Nat)(b:k<A.length)(a:k<B.length):qC (A.drop k) (B.drop k)=if A[k]=B[k] then qC (A.drop (k+1)) (B.drop (k+1)) else decide (A[k]<B[k]):=by
 rw [aI b,aI a];rfl
theorem ux(A B:List UInt8)(k:Nat)(h:A.length<=k\/B.length<=k)(c:k<=A.length)(h2:k<=B.length):qC (A.drop k) (B.drop k)=decide (A.length<B.length):=by
 by_cases b:A.length<=k
 .rw [eo b];by_cases a:B.length<=k;.rw [eo a,decide_eq_false (by omega)];rfl
  .rw [aI (by omega),aJ (by omega)];rfl
 .have a:B.length<=k:=h.resolve_left b;rw [aI (i:=k) (l:=A) (by omega),eo a,decide_eq_false (by omega)];rfl
theorem dw(a b:ByteArray)(k:Nat)(d:k<a.size)(f:k<b.size)(r:Bool)(h:qC (a.data.toList.drop k) (b.data.toList.drop k)=r):
 ((a[k].toNat:Int)=b[k].toNat->qC (a.data.toList.drop (k+1)) (b.data.toList.drop (k+1))=r)/\(¬(a[k].toNat:Int)=b[k].toNat->decide ((a[k].toNat:Int)<b[k].toNat)=r):=by
 rw [JV a.data.toList b.data.toList k (by simpa using d) (by simpa using f)] at h;have g:a.data.toList[k]'(by simpa using d)=a[k]:=rfl;have c:b.data.toList[k]'(by simpa using f)=b[k]:=rfl;rw [g,c] at h;constructor
 .intro e;rw [aB (lK.1 (by omega))] at h;exact h
 .intro e;rw [aw (λc=>e (by rw [c]))] at h;rw [<-h];congr 1;apply propext;rw [lB];omega
theorem xB(w:World)(a b:ByteArray)(p:a.size<=9223372036854775807)(o:b.size<=9223372036854775807):
 Calls Tryz.prog 189 #[.string a,.string b] w λe w'=>e=.returned (.bool (qw a b))/\∃n,w'=w.drewN n:=by
 go_enter Tryz.func189,Tryz.ntmps189;go_wp2;go_loopw [5] (λi wr=>∃k:Nat,k<=a.size/\k<=b.size/\i=.int .i64 k/\qC (a.data.toList.drop k) (b.data.toList.drop k)=qw a b/\∃n,wr=w.drewN n) (λi _=>a.size-(intOf i).toNat)
 case atStart=>exact⟨0,aj _,aj _,rfl,rfl,0,rfl⟩
 case round=>
  obtain⟨k,f,d,rfl,c,n,rfl⟩:=hrel;change Hid _ at c;by_cases l:k<a.size
  .by_cases h2:k<b.size
   .have h:Hid _:=dw a b k l h2 _ c.out;by_cases e:(a[k].toNat:Int)=b[k].toNat
    .have j:((a[k].toNat:Int) !=b[k].toNat)=false:=by simpa using e
     have g:Hid _:=e;clear e;go_wp2;go_quiet (fail);go_wp2;go_roundw
     case rel=>exact⟨k+1,by omega,by omega,by go_num,h.1 g,_,rfl⟩
     case measure=>simp [intOf];omega
    .have j:((a[k].toNat:Int) !=b[k].toNat)=true:=by simpa using e
     have g:Hid _:=e;clear e;go_wp2;go_quiet (fail);go_wp2;go_quiet (fail);go_wp2;go_ret;exact⟨ze (by rw [<-h.2 g.out];congr 1;apply propext;omega),_,by rw [World.drewN_drewN,World.drewN_drewN]⟩
   .go_wp2;go_ret;exact⟨ze (by rw [<-c.out,ux _ _ k (by simp;omega) (by simpa using f) (by simpa using d)];simp),_,rfl⟩
  .have m:decide ((k:Int)<a.size)=false:=decide_eq_false (by omega);go_wp2;go_ret;exact⟨ze (by rw [<-c.out,ux _ _ k (by simp;omega) (by simpa using f) (by simpa using d)];simp),_,rfl⟩
theorem gw(a b:ByteArray)(h:b.size<=a.size):((a.extract 0 b.size).toList==b.toList)=b.data.toList.isPrefixOf a.data.toList:=by
 rw [eC,eC,ByteArray.data_extract,Array.toList_extract,Bool.eq_iff_iff,mx,List.isPrefixOf_iff_prefix,List.prefix_iff_eq_take];simp [my]
theorem kX(a b:ByteArray)(h:a.size<b.size):b.data.toList.isPrefixOf a.data.toList=false:=by
 rw [i4];intro h2;have:=(List.isPrefixOf_iff_prefix.1 h2).length_le;simp at this;omega
theorem xL(w:World)(a b:ByteArray)(d:a.size<=9223372036854775807)(c:b.size<=9223372036854775807):
 Calls Tryz.prog 188 #[.string a,.string b] w λe w'=>e=.returned (.bool (b.data.toList.isPrefixOf a.data.toList))/\w'=w:=by
 by_cases h:b.size<=a.size
 .go_enter Tryz.func188,Tryz.ntmps188;go_wp2;go_ret;exact⟨ze (gw a b h),rfl⟩
 .go_enter Tryz.func188,Tryz.ntmps188;go_wp2;go_ret;exact⟨ze (kX a b (by omega)).symm,rfl⟩
end ref
namespace ref
open Go.ChangeShapes Go.WideShapes Go.ChangeAt Go.RowKit disk
open keys (zh ze zy zs zq ur xh)
theorem xe(s:ByteArray)(w:World)(a:s.size<=maxLen){k:Bool}(h:zq s.data.toList=k):
 Calls Tryz.prog 90 #[.string s] w λe w'=>e=.returned (.int .i64 (xh k))/\w'=w:=by
 rw [<-h];exact ur s w a
def fR:Bool->Nat->Int
 |false,_=>2
 |true,n=>if 300<n then 3 else 0
def qT:Bool->Bool->Int
 |false,_=>2
 |true,true=>5
 |true,false=>0
theorem Zt(w:World)(s:ByteArray)(d:s.size<=maxLen)(a:Option Addr)(n cap:Nat):
 Calls Tryz.prog 93 #[.string s,.slice a n cap] w λe w'=>e=.returned (.int .i64 (fR (zq s.data.toList) n))/\w'=w:=by
 cases b:zq s.data.toList
 .have c:Hid _:=b;clear b;go_enter Tryz.func93,Tryz.ntmps93;go_wp2_with (go_at_call 90;refine(xe _ _ d c).mono ?_;rintro e w' ⟨rfl,rfl⟩;unfold xh);go_ret;exact⟨rfl,rfl⟩
 .have c:Hid _:=b;clear b;by_cases f:300<n
  .go_enter Tryz.func93,Tryz.ntmps93;go_wp2_with (go_at_call 90;refine(xe _ _ d c).mono ?_;rintro e w' ⟨rfl,rfl⟩;unfold xh);go_ret;exact⟨zh (aB f).symm,rfl⟩
  .go_enter Tryz.func93,Tryz.ntmps93;go_wp2_with (go_at_call 90;refine(xe _ _ d c).mono ?_;rintro e w' ⟨rfl,rfl⟩;unfold xh);go_ret;exact⟨zh (aw f).symm,rfl⟩
theorem fS(w:World)(F G:Nat->Prop)(b:Nat)(vs:List zB)(last:Int)(h:zG w F G b vs last)(d:vs.length<=9223372036854775807)(s:ByteArray)(g:s.size<=maxLen):
 Calls Tryz.prog 100 #[.pointer (some ⟨b,0,none⟩),.string s] w λe w'=>e=.returned (.int .i64 (qT (zq s.data.toList) (vV vs s)))/\∃n,w'=w.drewN n:=by
 change Hid _ at h;cases a:zq s.data.toList
 .have c:Hid _:=a;clear a;go_enter Tryz.func100,Tryz.ntmps100;go_wp2_with (go_at_call 90;refine(xe _ _ g c).mono ?_;rintro e w' ⟨rfl,rfl⟩;unfold xh);go_ret;exact⟨rfl,0,rfl⟩
 .have c:Hid _:=a;clear a;cases f:vV vs s
  all_goals
   change Hid _ at f;go_enter Tryz.func100,Tryz.ntmps100
   go_wp2_with (first
    |(go_at_call 90;refine(xe _ _ g c).mono ?_;rintro e w' ⟨rfl,rfl⟩;unfold xh)
    |(go_at_call 152;refine(Va _ F G b vs last h d s).mono ?_;rintro e w' ⟨rfl,n,rfl⟩;rw [f.out]))
   go_ret;exact⟨rfl,_,rfl⟩
def Y5:Bool->Option zB->Int
 |false,_=>2
 |true,none=>5
 |true,some _=>0
theorem dx(w:World)(F G:Nat->Prop)(b:Nat)(vs:List zB)(last:Int)(h:zG w F G b vs last)(c:vs.length<=9223372036854775807)(s:ByteArray)(j:s.size<=maxLen)(n:Int):
 Calls Tryz.prog 101 #[.pointer (some ⟨b,0,none⟩),.string s,.int .i64 n] w λe w'=>e=.returned (.int .i64 (Y5 (zq s.data.toList) (yl vs s n)))/\w'=w:=by
 change Hid _ at h;cases f:zq s.data.toList
 .have d:Hid _:=f;clear f;go_enter Tryz.func101,Tryz.ntmps101;go_wp2_with (go_at_call 90;refine(xe _ _ j d).mono ?_;rintro e w' ⟨rfl,rfl⟩;unfold xh);go_ret;exact⟨rfl,rfl⟩
 .have d:Hid _:=f;clear f;rcases dv vs s n with⟨a,h2⟩|⟨i,k,a,h2⟩
  .rw [h2];have g:Hid _:=a;clear a h2;go_enter Tryz.func101,Tryz.ntmps101
   go_wp2_with (first
    |(go_at_call 90;refine(xe _ _ j d).mono ?_;rintro e w' ⟨rfl,rfl⟩;unfold xh)
    |(go_at_call 153;refine(xi _ F G b vs last h c s n).mono ?_;rintro e w' ⟨rfl,rfl⟩;rw [g.out]))
   go_ret;exact⟨rfl,rfl⟩
  .rw [h2];have g:Hid _:=a;clear a h2;go_enter Tryz.func101,Tryz.ntmps101
   go_wp2_with (first
    |(go_at_call 90;refine(xe _ _ j d).mono ?_;rintro e w' ⟨rfl,rfl⟩;unfold xh)
    |(go_at_call 153;refine(xi _ F G b vs last h c s n).mono ?_;rintro e w' ⟨rfl,rfl⟩;rw [g.out]))
   go_ret;exact⟨rfl,rfl⟩
def yG:Bool->Option zB->Int
 |false,_=>2
 |true,none=>5
 |true,some v=>cond v.mark 5 0
def x8(w:World)(G:Nat->Prop)(o:Option zB)(x:Value)(c:Int):Prop:=
 (c=0->∃u a cap,o=some u/\x=.slice a u.body.length cap/\zL w G a u.body)/\(c≠0->x=.slice none 0 0)
theorem Gt(w:World)(F G:Nat->Prop)(b:Nat)(vs:List zB)(last:Int)(h:zG w F G b vs last)(c:vs.length<=9223372036854775807)(s:ByteArray)(o:s.size<=maxLen)(n:Int):
 Calls Tryz.prog 107 #[.pointer (some ⟨b,0,none⟩),.string s,.int .i64 n] w λe w'=>
  (∃y,e=.returned (.tuple #[y,.int .i64 (yG (zq s.data.toList) (yl vs s n))])/\x8 w G (yl vs s n) y (yG (zq s.data.toList) (yl vs s n)))/\w'=w:=by
 have q:Hid _:=h;obtain⟨a,cap,cs,h⟩:=h;have r:Hid _:=h;clear h;cases p:zq s.data.toList
 .have k:Hid _:=p;clear p;go_enter Tryz.func107,Tryz.ntmps107;go_wp2_with (go_at_call 90;refine(xe _ _ o k).mono ?_;rintro e w' ⟨rfl,rfl⟩;unfold xh);go_ret2;exact⟨⟨_,rfl,by simp [x8,yG]⟩,rfl⟩
 .have k:Hid _:=p;clear p;rcases dv vs s n with⟨l,h2⟩|⟨i,v,l,h2⟩
  .rw [h2];have m:Hid _:=l;clear l h2;go_enter Tryz.func107,Tryz.ntmps107
   go_wp2_with (first
    |(go_at_call 90;refine(xe _ _ o k).mono ?_;rintro e w' ⟨rfl,rfl⟩;unfold xh)
    |(go_at_call 153;refine(xi _ F G b vs last q c s n).mono ?_;rintro e w' ⟨rfl,rfl⟩;rw [m.out]))
   go_ret2;exact⟨⟨_,rfl,by simp [x8,yG]⟩,rfl⟩
  .rw [h2];have m:Hid _:=l;clear l h2;obtain⟨g,rfl⟩:=r.rowAt (by omega);have x:=r.c0;obtain⟨_,_,h2,u,j,A,t⟩:=r.cells i v;change Hid _ at t;have z:decide ((i:Int)<0)=false:=decide_eq_false (by omega);cases d:vs[i].mark
   .rw [d] at h2;have f:Hid _:=d;clear d;go_enter Tryz.func107,Tryz.ntmps107
    go_wp2_with (first
     |(go_at_call 90;refine(xe _ _ o k).mono ?_;rintro e w' ⟨rfl,rfl⟩;unfold xh)
     |(go_at_call 153;refine(xi _ F G b vs last q c s n).mono ?_;rintro e w' ⟨rfl,rfl⟩;rw [m.out]))
    go_ret2;exact⟨⟨.slice u vs[i].body.length j,by simp [yG,f.out],by simp only [x8,yG,f.out,cond_false];exact⟨λ_=>⟨vs[i],u,j,rfl,rfl,t⟩,λh=>absurd rfl h⟩⟩,rfl⟩
   .rw [d] at h2;have f:Hid _:=d;clear d;go_enter Tryz.func107,Tryz.ntmps107
    go_wp2_with (first
     |(go_at_call 90;refine(xe _ _ o k).mono ?_;rintro e w' ⟨rfl,rfl⟩;unfold xh)
     |(go_at_call 153;refine(xi _ F G b vs last q c s n).mono ?_;rintro e w' ⟨rfl,rfl⟩;rw [m.out]))
    go_ret2;exact⟨⟨_,by simp [yG,f.out];rfl,by simp [x8,yG,f.out]⟩,rfl⟩
theorem UG(w:World)(F G:Nat->Prop)(b:Nat)(vs:List zB)(last:Int)(h:zG w F G b vs last)(o:vs.length<=9223372036854775807)(s:ByteArray)(x:s.size<=maxLen):
 Calls Tryz.prog 103 #[.pointer (some ⟨b,0,none⟩),.string s] w λe w'=>
  (∃C n,e=.returned (.tuple #[C,.int .i64 n,.int .i64 (yG (zq s.data.toList) (qe vs s))])/\x8 w G (qe vs s) C (yG (zq s.data.toList) (qe vs s))/\
   (yG (zq s.data.toList) (qe vs s)=0->∀u,qe vs s=some u->n=u.num))/\∃n,w'=w.drewN n:=by
 have A:Hid _:=h;obtain⟨a,cap,cs,h⟩:=h;have p:Hid _:=h;clear h;cases l:zq s.data.toList
 .have q:Hid _:=l;clear l;go_enter Tryz.func103,Tryz.ntmps103;go_wp2_with (go_at_call 90;refine(xe _ _ x q).mono ?_;rintro e w' ⟨rfl,rfl⟩;unfold xh)
  go_ret3
  exact⟨⟨_,_,rfl,by simp [x8,yG],by simp [yG]⟩,0,rfl⟩
 .have q:Hid _:=l;clear l;go_enter Tryz.func103,Tryz.ntmps103;go_wp2_with (go_at_call 90;refine(xe _ _ x q).mono ?_;rintro e w' ⟨rfl,rfl⟩;unfold xh);refine(xn _ F G b vs last A o s).mono ?_;rintro e E ⟨⟨i,rfl,r⟩,I,rfl⟩;rcases r.whole with⟨rfl,k⟩|⟨m,z,rfl,k⟩
  .have c:Hid _:=k;clear k r;go_wp2
   go_ret3
   exact⟨⟨_,_,by rw [c.out];rfl,by rw [c.out];simp [x8,yG],by rw [c.out];simp⟩,_,rfl⟩
  .have c:Hid _:=k;clear k r;obtain⟨g,rfl⟩:=p.rowAt (by omega);have B:=p.c0;obtain⟨_,H,h2,v,j,J,t⟩:=p.cells m z;change Hid _ at t;have D:decide ((m:Int)<0)=false:=decide_eq_false (by omega);cases d:vs[m].mark
   .rw [d] at h2;have f:Hid _:=d;clear d;go_wp2;go_quiet (fail);go_wp2
    go_ret3
    exact⟨⟨.slice v vs[m].body.length j,vs[m].num,by rw [c.out];simp [yG,f.out],by rw [c.out];simp only [x8,yG,f.out,cond_false];exact⟨λ_=>⟨vs[m],v,j,rfl,rfl,t⟩,λh=>absurd rfl h⟩,
     by rw [c.out];intro _ u y;cases y;rfl⟩,_,by rw [World.drewN_drewN]⟩
   .rw [d] at h2;have f:Hid _:=d;clear d;go_wp2
    go_ret3
    exact⟨⟨_,_,by rw [c.out];simp [yG,f.out];exact⟨rfl,rfl⟩,by rw [c.out];simp [x8,yG,f.out],by rw [c.out];simp [yG,f.out]⟩,_,rfl⟩
theorem JW(w:World)(u v:zB)(j k:Value)(m:j.oneCell'=true)(l:k.oneCell'=true)(d:u.key.size<=9223372036854775807)(g:v.key.size<=9223372036854775807):
 Calls Tryz.prog 157 #[.agg #[.string u.key,.int .i64 u.num,.bool u.mark,j],.agg #[.string v.key,.int .i64 v.num,.bool v.mark,k]] w λe w'=>e=.returned (.bool (u.ahead v))/\za (λ_=>False) w w':=by
 cases b:qw u.key v.key
 .have a:Hid _:=b;clear b;by_cases c:u.key.toList=v.key.toList
  .have f:Hid _:=qP.1 c;go_enter Tryz.func157,Tryz.ntmps157;go_wp2_with (go_at_call 189;refine(xB _ u.key v.key d g).mono ?_;rintro e h ⟨rfl,n,rfl⟩;rw [a.out]);go_ret;exact⟨ze (by unfold zB.ahead;rw [a.out,aJ f.out];simp),((za.alloc _ _ _).trans (za.alloc _ _ _) iL).trans kD iL⟩
  .have i:(u.key.toList==v.key.toList)=false:=by simpa using c
   have f:Hid _:=mt qP.2 c;go_enter Tryz.func157,Tryz.ntmps157;go_wp2_with (go_at_call 189;refine(xB _ u.key v.key d g).mono ?_;rintro e h ⟨rfl,n,rfl⟩;rw [a.out]);go_ret;exact⟨ze (by unfold zB.ahead;rw [a.out,decide_eq_false f.out];simp),((za.alloc _ _ _).trans (za.alloc _ _ _) iL).trans kD iL⟩
 .have a:Hid _:=b;clear b;go_enter Tryz.func157,Tryz.ntmps157;go_wp2_with (go_at_call 189;refine(xB _ u.key v.key d g).mono ?_;rintro e h ⟨rfl,n,rfl⟩;rw [a.out]);go_ret;exact⟨ze (by unfold zB.ahead;rw [a.out];simp),((za.alloc _ _ _).trans (za.alloc _ _ _) iL).trans kD iL⟩
theorem Y6(w:World)(v:zB)(u:Value)(x:u.oneCell'=true)(c:v.key.size<=9223372036854775807)(p k:ByteArray)(g:p.size<=9223372036854775807)(i:k.size<=9223372036854775807)(n:Int):
 Calls Tryz.prog 156 #[.agg #[.string v.key,.int .i64 v.num,.bool v.mark,u],.string p,.string k,.int .i64 n] w λe w'=>e=.returned (.bool (qW v p k n))/\za (λ_=>False) w w':=by
 have a:∀r t,za (λ_=>False) w ((w.alloc t).drewN r):=λr t=>(za.alloc _ _ _).trans kD iL;change Hid _ at a;cases l:p.data.toList.isPrefixOf v.key.data.toList
 .have b:Hid _:=l;clear l;go_enter Tryz.func156,Tryz.ntmps156
  go_wp2_with (first
   |(go_at_call 188;refine(xL _ v.key p c g).mono ?_;rintro e d ⟨rfl,rfl⟩;rw [b.out])
   |(go_at_call 189;refine(xB _ k v.key i c).mono ?_;rintro e d ⟨rfl,n,rfl⟩;generalize qw k v.key=lb))
  go_ret;exact⟨ze (by unfold qW;rw [b.out];rfl),a _ _⟩
 .have b:Hid _:=l;clear l;by_cases m:k.toList=[]
  .have o:Hid (k=ByteArray.empty):=by show k=ByteArray.empty;exact qP.1 (by rw [m,eC];rfl)
   go_enter Tryz.func156,Tryz.ntmps156
   go_wp2_with (first
    |(go_at_call 188;refine(xL _ v.key p c g).mono ?_;rintro e d ⟨rfl,rfl⟩;rw [b.out])
    |(go_at_call 189;refine(xB _ k v.key i c).mono ?_;rintro e d ⟨rfl,n,rfl⟩;generalize qw k v.key=lb))
   go_ret;exact⟨ze (by unfold qW;rw [b.out,aJ o.out];rfl),a _ _⟩
  .have o:Hid (¬k=ByteArray.empty):=by show ¬k=ByteArray.empty;exact λe=>m (by rw [e,eC];rfl)
   cases j:qw k v.key
   .have f:Hid _:=j;clear j;by_cases h:v.key.toList=k.toList
    .have q:Hid _:=qP.1 h;go_enter Tryz.func156,Tryz.ntmps156
     go_wp2_with (first
      |(go_at_call 188;refine(xL _ v.key p c g).mono ?_;rintro e d ⟨rfl,rfl⟩;rw [b.out])
      |(go_at_call 189;refine(xB _ k v.key i c).mono ?_;rintro e d ⟨rfl,n,rfl⟩;rw [f.out]))
     go_ret;exact⟨ze (by unfold qW;rw [b.out,f.out,decide_eq_false o.out,aJ q.out];simp [m]),a _ _⟩
    .have s:(v.key.toList==k.toList)=false:=by simpa using h
     have q:Hid _:=mt qP.2 h;go_enter Tryz.func156,Tryz.ntmps156
     go_wp2_with (first
      |(go_at_call 188;refine(xL _ v.key p c g).mono ?_;rintro e d ⟨rfl,rfl⟩;rw [b.out])
      |(go_at_call 189;refine(xB _ k v.key i c).mono ?_;rintro e d ⟨rfl,n,rfl⟩;rw [f.out]))
     go_ret;exact⟨ze (by unfold qW;rw [b.out,f.out,decide_eq_false o.out,decide_eq_false q.out];simp [m]),a _ _⟩
   .have f:Hid _:=j;clear j;go_enter Tryz.func156,Tryz.ntmps156
    go_wp2_with (first
     |(go_at_call 188;refine(xL _ v.key p c g).mono ?_;rintro e d ⟨rfl,rfl⟩;rw [b.out])
     |(go_at_call 189;refine(xB _ k v.key i c).mono ?_;rintro e d ⟨rfl,n,rfl⟩;rw [f.out]))
    go_ret;exact⟨ze (by unfold qW;rw [b.out,f.out];simp),a _ _⟩
def qH(p k:ByteArray)(n m:Int):Int:=
 if (p≠ByteArray.empty/\zq p.data.toList=false)\/(k≠ByteArray.empty/\zq k.data.toList=false) then 2 else if n<0\/m<1\/50<m then 4 else 0
theorem ua(k:ByteArray):k.toList=[]↔k=ByteArray.empty:=
 ⟨λh=>qP.1 (by rw [h,eC];rfl),λh=>by rw [h,eC];rfl⟩
theorem Jc(k:Bool):(xh k !=0)= !k:=by cases k<;>rfl
theorem vX(w:World)(p k:ByteArray)(f:p.size<=maxLen)(i:k.size<=maxLen)(n m:Int):
 Calls Tryz.prog 155 #[.string p,.string k,.int .i64 n,.int .i64 m] w λe w'=>e=.returned (.int .i64 (qH p k n m))/\w'=w:=by
 have hfin:∀a b,zq p.data.toList=a->zq k.data.toList=b->∀d,(if (¬p.toList=[]/\a=false)\/(¬k.toList=[]/\b=false) then 2 else if n<0\/m<1\/50<m then (4:Int) else 0)=d->Ending.returned (.int .i64 d)=.returned (.int .i64 (qH p k n m)):=
  λa b c h2 d h=>by rw [<-h];unfold qH;rw [c,h2];simp only [ne_eq,<-ua]
 change Hid _ at hfin;generalize c:zq p.data.toList=a;generalize h2:zq k.data.toList=b;change Hid _ at c h2;have j:=Jc a;have g:=Jc b;go_enter Tryz.func155,Tryz.ntmps155;go_wp2_with fail;refine(xe _ _ f c).mono ?_;rintro e w' ⟨rfl,rfl⟩;go_wp2_with fail;refine(xe _ _ i h2).mono ?_;rintro e w' ⟨rfl,rfl⟩;go_wp2
 all_goals
  go_ret;refine⟨hfin a b c h2 _ ?_,rfl⟩;clear hfin c h2 j g f i
  first
   |(simp_all;done)
   |(simp_all;omega)
end ref
namespace ref
open Go.ChangeShapes Go.WideShapes Go.ChangeAt Go.RowKit disk
open keys (zh ze zy zs zq ur xh)
attribute [local go_sem ↓] Go.wp_at_zero Go.wp_at_succ
variable {w:World}{cs:List (List Value)}{vs:List zB}{F G:Nat->Prop}{b cap:Nat}{last:Int}{a:Option Addr}
theorem y7.one{P:Nat->Prop}(h:y7 w P cs vs):∀u∈cs.flatten,u.oneCell'=true:=λu b=>by
 obtain⟨c,f,b⟩:=eW.1 b;obtain⟨i,d,rfl⟩:=ed f;obtain⟨a,cap,e,_⟩:=(h.each i d (by rw [<-h.len];exact d)).at_;rw [e] at b;simp only [ar,ic,or_false] at b;rcases b with rfl|rfl|rfl|rfl<;>rfl
theorem yc.copied{f:World}(h:yc w F G b vs last a cap cs)(d:Option Addr)(g:Nat)
 (j:f.ownsRow 0 123 4 (.slice d vs.length g) vs.length cs.flatten) (i:(w.alloc (.cells #[.slice none 0 0,.int .i64 last] 164)).drew.grownBy f none)
 (n:(Value.slice d vs.length g).ownBlock=none\/(Value.slice d vs.length g).ownBlock=some (w.heap.size+1)) (m:f.heap[w.heap.size]? =some (.cells #[.slice none 0 0,.int .i64 last] 164)):
 zG (f.setCell ⟨w.heap.size,0,none⟩ (.slice d vs.length g)) (λk=>w.heap.size<=k) G w.heap.size vs last/\za (λ_=>False) w (f.setCell ⟨w.heap.size,0,none⟩ (.slice d vs.length g)):=by
 have l:∀k,(Value.slice d vs.length g).ownBlock=some k->k=w.heap.size+1:=λk c=>by rcases n with e|e<;>rw [e] at c<;>simp at c;omega
 have k1:za (λ_=>False) w f:=((za.alloc _ w _).trans (za.drew _ _) iL).trans (za.grown (S:=λ_=>False) i (λk c=>by cases c)) iL;have k2:=za.setCell (S:=λk=>k=w.heap.size) f ⟨w.heap.size,0,none⟩ (.slice d vs.length g) rfl;have k3:=k1.trans k2 (λk c=>.inr (by omega));refine⟨⟨d,g,cs,?_,?_,h.tells.kept k3 nF,aF _,λk c=>?_,λc=>?_⟩,k3⟩;.rw [heap_setCell_same f w.heap.size 0 _ _ _ m];rfl
 .exact k2.owns j (λk c e=>by have:=l k c;omega)
 .show w.heap.size<=k;have:=l k c;omega
 .have:=l _ c;omega
theorem uy(w:World)(F G:Nat->Prop)(b:Nat)(vs:List zB)(last:Int)(h:zG w F G b vs last)(t:vs.length<=2199023255552):
 Calls Tryz.prog 94 #[.pointer (some ⟨b,0,none⟩)] w λe w'=>e=.returned (.pointer (some ⟨w.heap.size,0,none⟩))/\zG w' (λk=>w.heap.size<=k) G w.heap.size vs last/\za (λ_=>False) w w':=by
 obtain⟨a,cap,cs,h⟩:=h;have y:=h.c0;have z:=h.c1;have A:=h.lt;have p:Hid _:=h;obtain⟨i,o,m,n,l⟩:=yy Tryz.infoKept;have g:Hid (Tryz.prog.info? 123=some i/\i.zero=some (.agg #[.string ByteArray.empty,.int .i64 0,.bool false,.slice none 0 0])/\i.size=4/\i.bytes=56):=⟨o,m,n,l⟩;clear o m n l h
 have r:Hid (yc (w.alloc (.cells #[.slice none 0 0,.int .i64 last] 164)).drew F G b vs last a cap cs):=
  p.kept ((za.alloc (λ_=>False) w _).trans (za.drew _ _) iL) nF nF
 go_enter Tryz.func94,Tryz.ntmps94;go_wp2
 go_region_law ((refine jN rfl (.tmp 14) (.tmp 18) 162 rfl 123 i _ 4 56 Tryz.underlying162 g.1 g.2.1 g.2.2.1 g.2.2.2 rfl (by omega) _ vs.length cs.flatten (by rfl) (by rfl) (by exact r.row) p.tells.one (by unfold maxLen;omega) (by omega) ?_;intro u x q d c j;have f:q.heap[w.heap.size]? =some (.cells #[.slice none 0 0,.int .i64 last] 164):=(c.block w.heap.size (by simp) (by simp)).trans (ac w _);have v:=aG q w.heap.size 0 _ _ _ f;have s:=aa q w.heap.size 0 _ _ f;change Hid _ at c d j f))
 all_goals
  go_wp2;go_ret;exact⟨rfl,p.copied u x d c (by have:=j.out;simpa using this) f⟩
theorem yc.added{f j:World}(h:yc w F G b vs last a cap cs)(C:∀k,F k->¬G k)(v:zB)
 (d:Option Addr) (i:Nat) (n:f.ownsRow 0 5 1 (.slice d v.body.length i) v.body.length (v.body.map qA)) (D:w.grownBy f none)
 (x:(Value.slice d v.body.length i).ownBlock=none\/(Value.slice d v.body.length i).ownBlock=some w.heap.size)
 (J:Obj) (g l:Nat) (q:j.ownsRow 0 123 4 (.slice (some ⟨g,0,none⟩) (vs.length+1) l) (vs.length+1) (cs.flatten++[.string v.key,.int .i64 v.num,.bool v.mark,.slice d v.body.length i]))
 (A:(f.alloc J).grownBy j (Value.slice a vs.length cap).ownBlock) (m:(Value.slice a vs.length cap).ownBlock=some g\/g=f.heap.size+1):
 yc (j.setCell ⟨b,0,none⟩ (.slice (some ⟨g,0,none⟩) (vs.length+1) l)) (λk=>F k\/w.heap.size<=k) (λk=>G k\/w.heap.size<=k) b (vs++[v]) last (some ⟨g,0,none⟩) l (cs++[[.string v.key,.int .i64 v.num,.bool v.mark,.slice d v.body.length i]])/\
  za F w (j.setCell ⟨b,0,none⟩ (.slice (some ⟨g,0,none⟩) (vs.length+1) l)):=by
 have H:=h.lt;have k1:za (λ_=>False) w f:=za.grown D (λk c=>by cases c);have k2:za (λ_=>False) f (f.alloc J):=za.alloc _ _ _;have k3:=za.grown A (λk c=>c);have s:=(k2.mono fE).trans k3 iL;have t:=(k1.mono fE).trans s iL;have z:=za.setCell (S:=λk=>k=b) j ⟨b,0,none⟩ (.slice (some ⟨g,0,none⟩) (vs.length+1) l) rfl;have r:=(t.mono (λk c=>h.foot2 k c)).trans z (λk c=>.inl (by rw [c];exact h.foot));have o:(vs++[v]).length=vs.length+1:=by simp
 have B:g≠b:=by
  have:=k1.size;rcases m with e|e;.exact λI=>h.apart (by rw [e,I])
  .omega
 have u:∀k,(Value.slice d v.body.length i).ownBlock=some k->k=w.heap.size:=λk c=>by rcases x with e|e<;>rw [e] at c<;>simp at c;omega
 refine⟨⟨?_,?_,?_,.inl h.foot,?_,?_⟩,r⟩
 .rw [o];have e:=(t.block b H (λe=>h.apart e)).trans h.head;rw [heap_setCell_same j b 0 _ _ _ e];rfl
 .rw [o];have:=z.owns q (λk c e=>by simp [Value.ownBlock] at c;omega);simpa using this
 .refine y7.snoc ((h.tells.kept r (λk c E=>C k E c)).mono (λk c _=>.inl c)) ⟨d,i,rfl,?_⟩
  have y:=s.owns n (λk c e=>by
   have K:=u k c;have h2:=(h.row.lt k e).2
   omega)
  have p:=z.owns y (λk c e=>by have:=u k c;omega);exact zL.of_own 5 p rfl _ (λk c=>.inr (by rw [u k c];exact aF _))
 .intro k c;rw [o] at c;simp [Value.ownBlock] at c;subst c;rcases m with e|e;.exact .inl (h.foot2 _ e)
  .exact .inr (by have:=k1.size;omega)
 .rw [o];simp [Value.ownBlock];exact B
theorem yc.told(h:yc w F G b vs last a cap cs)(n:Int)(f:∀k,G k->k<w.heap.size->k≠b):
 yc (w.setCell ⟨b,1,none⟩ (.int .i64 n)) F G b vs n a cap cs:=by
 have d:=za.setCell (S:=λk=>k=b) w ⟨b,1,none⟩ (.int .i64 n) rfl;refine⟨?_,d.owns h.row (λk g e=>h.apart (by rw [g,e])),?_,h.foot,h.foot2,h.apart⟩;.rw [heap_setCell_same w b 1 _ _ _ h.head];rfl
 .have l:=h.tells.mono (Q:=λk=>G k/\k<w.heap.size) (λi c j=>⟨c,j⟩);exact(l.kept d (λi c e=>f i c.1 c.2 e)).mono (λi c _=>c.1)
theorem di(w:World)(F G P:Nat->Prop)(b:Nat)(vs:List zB)(last:Int)(h:zG w F G b vs last)(E:∀k,F k->¬G k)(U:vs.length<=2199023255552)(t:ByteArray)(n:Int)(f:Bool)
 (H:Option Addr) (K:Nat) (l:List UInt8) (y:zL w P H l) (X:l.length<=140737488355328):
 Calls Tryz.prog 95 #[.pointer (some ⟨b,0,none⟩),.string t,.int .i64 n,.bool f,.slice H l.length K] w λe w'=>e=.returned (.tuple #[])/\
  zG w' (λk=>F k\/w.heap.size<=k) (λk=>G k\/w.heap.size<=k) b (vs++[⟨t,n,f,l⟩]) (max last n)/\za F w w':=by
 obtain⟨a,cap,cs,h⟩:=h;have Z:=h.lt;have T:Hid _:=y;obtain⟨B,q,i,m,o⟩:=yy Tryz.infoKept;have v:Hid (Tryz.prog.info? 123=some B/\B.zero=some (.agg #[.string ByteArray.empty,.int .i64 0,.bool false,.slice none 0 0])/\B.size=4/\B.bytes=56):=⟨q,i,m,o⟩;clear q i m o;obtain⟨C,q,i,m,o⟩:=yy Tryz.infoU8;have s:Hid (Tryz.prog.info? 5=some C/\C.zero=some (.int .u8 0)/\C.size=1/\C.bytes=1):=⟨q,i,m,o⟩;change Hid _ at h;clear q i m o y;go_enter Tryz.func95,Tryz.ntmps95
 go_wp2_with (first
  |(refine yQ P rfl (.tmp 11) (.tmp 12) 35 rfl 5 C _ Tryz.underlying35 s.1 s.2.1 s.2.2.1 s.2.2.2 rfl H K l (by rfl) (by rfl) (by exact T) X ?_;intro L J D u d A;have p:Hid _:=h.kept (za.grown (S:=λ_=>False) d (λk j=>by cases j)) nF nF;have aa:=p.c0;have ab:=p.fz 0;have Y:=p.lt;change Hid _ at u d A)
  |(refine wpList_append_lies _ rfl (.tmp 18) (.tmp 24) 162 rfl 0 123 B _ 4 56 Tryz.underlying162 v.1 v.2.1 v.2.2.1 v.2.2.2 rfl (by omega) (.slice a vs.length cap) vs.length cs.flatten (by rfl) (by exact p.row.alloc _) ⟨D.heap.size,0,none⟩ 1 1 [.string t,.int .i64 n,.bool f,.slice L l.length J] (by rfl) (by rfl) (by exact World.news_of_block (ac D _)) (by simp [Value.oneCell']) (by omega) (by unfold maxLen;omega) (by omega) (aj _) (D.heap.size+1) (by simp) ?_;intro g V I r c z Q;have x:Hid _:=yc.added h E ⟨t,n,f,l⟩ L J u d A _ g V r c z;have W:I.cell? ⟨b,0,none⟩=some (.slice a vs.length cap):=(c.cell_far ⟨b,0,none⟩ (by simp;omega) (λe=>p.apart e.symm)).trans (by simpa using p.kept (za.alloc (λ_=>False) D _) nF nF |>.c0);have O:I.frozen? ⟨b,0,none⟩=false:=(c.frozen_far ⟨b,0,none⟩ (by simp;omega) (λe=>p.apart e.symm)).trans (by simpa using p.kept (za.alloc (λ_=>False) D _) nF nF |>.fz 0);have R:=x.1.c1;have M:=x.1.fz 1;clear r c z))
 .go_end0;have y:F b:=h.foot
  have N:=x.1.told n (λk j _ e=>by
   subst e;rcases j with j|j;.exact E _ y j
   .omega)
  exact⟨rfl,⟨_,_,_,by rw [show max last n=n from by omega];exact N⟩,x.2.trans (za.setCell (S:=λk=>k=b) _ ⟨b,1,none⟩ _ rfl) (λk j=>.inl (by rw [j];exact y))⟩
 .go_end0;exact⟨rfl,⟨_,_,_,by rw [show max last n=last from by omega];exact x.1⟩,x.2⟩
theorem Zu(vs:List zB)(k:Nat)(h:k<vs.length)(a:ByteArray)(n:Int):
 ym (vs.take (k+1)) a n=if vs[k].key=a/\vs[k].num=n then ym (vs.take k) a n else ym (vs.take k) a n++[vs[k]]:=by
 unfold ym;rw [ao h,lP];by_cases b:vs[k].key=a/\vs[k].num=n;.rw [aB b];simp [b.1,b.2]
 .rw [aw b]
  have:(!(decide (vs[k].key=a)&&decide (vs[k].num=n)))=true:=by rw [iy,i4];simp only [ne_eq,aW,aR];exact b
  rw [eX,aB this];rfl
theorem Qq(vs:List zB)(k:Nat)(a:ByteArray)(n:Int):(ym (vs.take k) a n).length<=vs.length:=by
 unfold ym;exact aD (ip _ _) (by rw [aC];omega)
structure dy (w wr:World) (F G:Nat->Prop) (b:Nat) (vs:List zB) (last:Int) (a:Option Addr) (cap:Nat) (cs:List (List Value)) (us:List zB) (x:Value):Prop where
 ref:yc wr F G b vs last a cap cs
 kept:za (λ_=>False) w wr
 row:∃a' cap' ds,x=.slice a' us.length cap'/\wr.ownsRow 0 123 4 (.slice a' us.length cap') us.length ds.flatten/\y7 wr G ds us/\∀k,(Value.slice a' us.length cap').ownBlock=some k->w.heap.size<=k
theorem dy.pushed{wr l:World}{us:List zB}{t:Option Addr}{f:Nat}{u:List (List Value)}
 (s:yc wr F G b vs last a cap cs) (h:za (λ_=>False) w wr) (i:y7 wr G u us) (j:∀k,(Value.slice t us.length f).ownBlock=some k->w.heap.size<=k)
 (r:∀k,G k->k<w.heap.size) (hF:∀k,F k->k<w.heap.size) (v:zB) (m:Option Addr) (d:Nat) (z:zL wr G m v.body) (A:Obj) (g o:Nat)
 (p:l.ownsRow 0 123 4 (.slice (some ⟨g,0,none⟩) (us.length+1) o) (us.length+1) (u.flatten++[.string v.key,.int .i64 v.num,.bool v.mark,.slice m v.body.length d]))
 (n:(wr.alloc A).grownBy l (Value.slice t us.length f).ownBlock) (y:(Value.slice t us.length f).ownBlock=some g\/g=wr.heap.size+1):
 dy w l F G b vs last a cap cs (us++[v]) (.slice (some ⟨g,0,none⟩) (us.length+1) o):=by
 have k2:za (λk=>w.heap.size<=k) wr l:=((za.alloc _ wr A).trans (za.grown (S:=λk=>w.heap.size<=k) n (λk c=>j k c)) iL);have q:(us++[v]).length=us.length+1:=by simp
 refine⟨s.kept k2 (λk c x=>by have:=hF k c;omega) (λk c x=>by have:=r k c;omega),h.trans k2 (λk c=>.inr c),some ⟨g,0,none⟩,o,u++[[.string v.key,.int .i64 v.num,.bool v.mark,.slice m v.body.length d]],by rw [q],?_,?_,?_⟩;.rw [q];simpa using p
 .exact(i.kept k2 (λk c x=>by have:=r k c;omega)).snoc ⟨m,d,rfl,z.kept k2 (λk c x=>by have:=r k c;omega)⟩
 .intro k c;rw [q] at c;simp [Value.ownBlock] at c;subst c;rcases y with e|e;.exact j _ e
  .have:=h.size;omega
theorem dy.done{wr:World}{us:List zB}{o:List (List Value)}{h:Option Addr}{c:Nat}
 (j:yc wr F G b vs last a cap cs) (l:za (λ_=>False) w wr) (m:wr.ownsRow 0 123 4 (.slice h us.length c) us.length o.flatten) (i:y7 wr G o us)
 (f:∀k,(Value.slice h us.length c).ownBlock=some k->w.heap.size<=k) (p:∀k,F k->¬G k) (hF:∀k,F k->k<w.heap.size):
 zG (wr.setCell ⟨b,0,none⟩ (.slice h us.length c)) (λk=>F k\/w.heap.size<=k) G b us last/\za F w (wr.setCell ⟨b,0,none⟩ (.slice h us.length c)):=by
 have n:=za.setCell (S:=λk=>k=b) wr ⟨b,0,none⟩ (.slice h us.length c) rfl;have g:=j.foot;have q:=hF b g;refine⟨⟨h,c,o,?_,n.owns m (λk d e=>by have:=f k d;omega),i.kept n (λk d e=>p b g (by rw [<-e];exact d)),.inl g,λk d=>.inr (f k d),λd=>by have:=f _ d;omega⟩,?_⟩;.rw [heap_setCell_same wr b 0 _ _ _ j.head];rfl
 .exact(l.mono fE).trans n (λk d=>.inl (by rw [d];exact g))
theorem Y7(w:World)(F G:Nat->Prop)(b:Nat)(vs:List zB)(last:Int)(h:zG w F G b vs last)(S:∀k,F k->¬G k)(hF:∀k,F k->k<w.heap.size)(V:∀k,G k->k<w.heap.size)(X:vs.length<=2199023255552)(j:ByteArray)(n:Int):
 Calls Tryz.prog 102 #[.pointer (some ⟨b,0,none⟩),.string j,.int .i64 n] w λe w'=>e=.returned (.tuple #[])/\
  zG w' (λk=>F k\/w.heap.size<=k) G b (ym vs j n) last/\za F w w':=by
 obtain⟨a,cap,cs,h⟩:=h;have aa:Hid _:=h;obtain⟨y,I,D,E,H⟩:=yy Tryz.infoKept;have p:Hid (Tryz.prog.info? 123=some y/\y.zero=some (.agg #[.string ByteArray.empty,.int .i64 0,.bool false,.slice none 0 0])/\y.size=4/\y.bytes=56):=⟨I,D,E,H⟩;clear I D E H;clear h;go_enter Tryz.func102,Tryz.ntmps102;go_wp2;go_loopw [6,7] (λah i wr=>∃k:Nat,k<=vs.length/\i=.int .i64 k/\dy w wr F G b vs last a cap cs (ym (vs.take k) j n) ah) (λ_ i _=>vs.length-(intOf i).toNat)
 case atStart=>exact⟨0,aj _,rfl,aa,za.refl _ _,none,0,[],rfl,aV w 0 123 4,y7.nil _ _,λk R=>by cases R⟩
 case round=>
  obtain⟨k,R,rfl,J⟩:=hrel;obtain⟨c,m,M,u,N,rfl,s,d,r⟩:=J;have ab:=c.c0;have ae:=c.fz 0;change Hid _ at c m s d r;by_cases z:k<vs.length
  .have P:Hid _:=Zu vs k z j n;have ad:=Qq vs k j n;generalize x:ym (vs.take k) j n=us at*;clear x;obtain⟨g,rfl⟩:=c.rowAt (by omega);obtain⟨ag,ai,h2,C,t,ak,B⟩:=c.cells k z;change Hid _ at B;by_cases v:vs[k].key.toList=j.toList
   .by_cases o:vs[k].num=n
    .have U:(vs[k].num !=n)=false:=by simpa using o
     have A:Hid _:=o;clear o;have T:Hid _:=qP.1 v;go_wp2;go_roundw
     case rel=>exact⟨k+1,by omega,by go_num,by rw [P.out,aB ⟨T.out,A.out⟩];exact⟨c,m,M,u,N,rfl,s,d,r⟩⟩
     case measure=>simp [intOf];omega
    .have U:(vs[k].num !=n)=true:=by simpa using o
     have A:Hid _:=o;clear o;go_wp2_with (refine wpList_append_lies _ rfl (.tmp 39) (.tmp 47) 162 rfl 0 123 y _ 4 56 Tryz.underlying162 p.1 p.2.1 p.2.2.1 p.2.2.2 rfl (by omega) (.slice M us.length u) us.length N.flatten (by rfl) (by exact er s _) ⟨wr.heap.size,0,none⟩ 1 1 [.string vs[k].key,.int .i64 vs[k].num,.bool vs[k].mark,.slice C vs[k].body.length t] (by rfl) (by rfl) (by exact World.news_of_block (ac wr _)) (by simp [Value.oneCell']) (by omega) (by unfold maxLen;omega) (by omega) (aj _) (wr.heap.size+1) (by simp) ?_;intro L O W l f q K;have Q:Hid _:=dy.pushed c m d r V hF vs[k] C t B _ L O l f q;clear l f q);go_roundw
     case rel=>exact⟨k+1,by omega,by go_num,by rw [P.out,aw (λh=>A.out h.2)];exact Q⟩
     case measure=>simp [intOf];omega
   .have af:(vs[k].key.toList !=j.toList)=true:=by simpa using v
    go_wp2_with (refine wpList_append_lies _ rfl (.tmp 39) (.tmp 47) 162 rfl 0 123 y _ 4 56 Tryz.underlying162 p.1 p.2.1 p.2.2.1 p.2.2.2 rfl (by omega) (.slice M us.length u) us.length N.flatten (by rfl) (by exact er s _) ⟨wr.heap.size,0,none⟩ 1 1 [.string vs[k].key,.int .i64 vs[k].num,.bool vs[k].mark,.slice C vs[k].body.length t] (by rfl) (by rfl) (by exact World.news_of_block (ac wr _)) (by simp [Value.oneCell']) (by omega) (by unfold maxLen;omega) (by omega) (aj _) (wr.heap.size+1) (by simp) ?_;intro L O W l f q K;have Q:Hid _:=dy.pushed c m d r V hF vs[k] C t B _ L O l f q;clear l f q);go_roundw
    case rel=>exact⟨k+1,by omega,by go_num,by rw [P.out,aw (λh=>v (qP.2 h.1))];exact Q⟩
    case measure=>simp [intOf];omega
  .have e:vs.take k=vs:=an (by omega);have A:Hid _:=e;clear e;generalize x:ym (vs.take k) j n=us at*;have Z:Hid _:=x;clear x;go_wp2;go_end0;have Y:ym vs j n=us:=by rw [<-Z.out,A.out]
   rw [Y];exact⟨rfl,dy.done c m s d r S hF⟩
end ref
namespace book
open Go.ChangeShapes Go.WideShapes Go.ChangeAt Go.RowKit disk ref
open keys (zh ze zy zs)
variable {w w':World}{P T:Nat->Prop}{t:TypeId}{a:Option Addr}{n g:Nat}{z:Value}{ss:List (Option Addr×Nat×Nat)}
def vP(i d:Nat):Int:=((i/251^d%251:Nat):Int)
theorem JX(w:World)(i d:Nat)(c:i<=9223372036854775807)(g:d<=2):
 Calls Tryz.prog 112 #[.int .i64 i,.int .i64 d] w λe w'=>e=.returned (.int .u8 (vP i d))/\w'=w:=by
 go_enter Tryz.func112,Tryz.ntmps112;go_wp2;go_loop [0,5] (λj t=>∃k:Nat,k<=d/\t=.int .i64 k/\j=.int .i64 ((i/251^k:Nat):Int)) (λ_ t=>d-(intOf t).toNat)
 case atStart=>exact⟨0,aj _,rfl,by simp⟩
 case round=>
  obtain⟨k,h,rfl,rfl⟩:=hrel;have l:i/251^k<=9223372036854775807:=aD (Nat.div_le_self _ _) c;by_cases f:k<d
  .have b:i/251^(k+1)=i/251^k/251:=by rw [lQ,l5]
   generalize i/251^k=q at*;change Hid _ at b;go_wp2;go_round
   case rel=>exact⟨k+1,by omega,by go_num,by rw [b.out];go_num⟩
   case measure=>simp [intOf];omega
  .have e:k=d:=by omega
   have a:vP i d=((i/251^k%251:Nat):Int):=by rw [e];rfl
   change Hid _ at a;clear e;generalize i/251^k=q at*;go_wp2;go_ret;exact⟨zh (by rw [a.out];simp [go_sem];try omega),rfl⟩
theorem vx(w:World)(i d:Int)(b:0<=i)(f:i<=9223372036854775807)(a:0<=d)(c:d<=2):
 Calls Tryz.prog 112 #[.int .i64 i,.int .i64 d] w λe w'=>e=.returned (.int .u8 (vP i.toNat d.toNat))/\w'=w:=by
 obtain⟨n,rfl⟩:=lw b;obtain⟨m,rfl⟩:=lw a;exact JX w n m (by omega) (by omega)
def gx(w:World)(P:Nat->Prop)(t:TypeId)(a:Option Addr)(n:Nat):Prop:=
 n=0\/∃b cur,a=some ⟨b,0,none⟩/\P b/\w.heap[b]? =some (.cells cur t (0,0))/\n<=cur.size
def cf(w:World)(a:Option Addr)(n:Nat)(z:Value):Prop:=∀j,j<n->∀b,a=some ⟨b,0,none⟩->w.cell? ⟨b,j,none⟩=some z
theorem gx.kept(h:gx w P t a n)(k:za T w w')(g:∀i,P i->¬T i):gx w' P t a n:=by
 rcases h with h|⟨b,c,f,h2,d,e⟩;.exact .inl h
 .exact .inr ⟨b,c,f,h2,(k.block b (lT d) (g b h2)).trans d,e⟩
theorem gx.set(h:gx w P t a n)(g j:Nat)(v:Value):gx (w.setCell ⟨g,j,none⟩ v) P t a n:=by
 rcases h with h|⟨b,c,f,h2,i,d⟩;.exact .inl h
 .by_cases e:b=g
  .subst e;exact .inr ⟨b,_,f,h2,heap_setCell_same w b j _ _ _ i,by simpa using d⟩
  .exact .inr ⟨b,c,f,h2,(ir w ⟨g,j,none⟩ b v e).trans i,d⟩
theorem cf.kept(h:cf w a n z)(c:gx w P t a n)(k:za T w w')(l:∀i,P i->¬T i):cf w' a n z:=by
 intro j f b e;rcases c with c|⟨b',m,d,h2,g,o⟩;.omega
 .rw [d] at e;cases e;exact(k.cell (a:=⟨b,j,none⟩) (lT g) (l b h2)).trans (h j f b d)
theorem zM{b j k:Nat}{v u:Value}(h:w.cell? ⟨b,k,none⟩=some u):(w.setCell ⟨g,j,none⟩ v).cell? ⟨b,k,none⟩=some (if b=g/\k=j then v else u):=by
 by_cases e:b=g/\k=j
 .obtain⟨rfl,rfl⟩:=e;rw [aB ⟨rfl,rfl⟩,World.cell?_setCell_same w _ _ h]
 .rw [aw e,World.cell?_setCell_other w _ _ _ (by intro h2;simp at h2;exact e ⟨h2.1.symm,h2.2.symm⟩)];exact h
theorem cf.set(h:cf w a n z)(g j:Nat):cf (w.setCell ⟨g,j,none⟩ z) a n z:=by
 intro i d b c;rw [zM (h i d b c)];simp
def gy(s:Option Addr×Nat×Nat):Value:=.slice s.1 s.2.1 s.2.2
structure xM (w:World) (P:Nat->Prop) (g:Nat) (ss:List (Option Addr×Nat×Nat)):Prop where
 head:w.heap[g]? =some (.cells (ss.map gy).toArray 35 (0,0))
 room:∀s∈ss,gx w P 5 s.1 s.2.1
 gP:¬P g
 few:∀s∈ss,s.2.1<=9223372036854775807
 len:ss.length<=100
theorem xM.kept(h:xM w P g ss)(k:za T w w')(a:∀i,P i->¬T i)(b:¬T g):xM w' P g ss:=
 ⟨(k.block g (lT h.head) b).trans h.head,λs c=>(h.room s c).kept k a,h.gP,h.few,h.len⟩
theorem xM.set(h:xM w P g ss)(b j:Nat)(v:Value)(c:P b):xM (w.setCell ⟨b,j,none⟩ v) P g ss:=
 ⟨(ir w ⟨b,j,none⟩ g v (λe=>h.gP (by rw [e];exact c))).trans h.head,λs a=>(h.room s a).set b j v,h.gP,h.few,h.len⟩
theorem xM.cell(h:xM w P g ss)(i:Nat)(a:i<ss.length):w.cell? ⟨g,i,none⟩=some (.slice ss[i].1 ss[i].2.1 ss[i].2.2):=by
 rw [aG w g i _ _ _ h.head];simp [a,gy]
def xM.Are(w:World)(ss:List (Option Addr×Nat×Nat))(z:Value):Prop:=∀s∈ss,cf w s.1 s.2.1 z
theorem xM.Are.kept(h:xM.Are w ss z)(c:xM w P g ss)(k:za T w w')(b:∀i,P i->¬T i):xM.Are w' ss z:=
 λs a=>(h s a).kept (c.room s a) k b
theorem yX(w:World)(P:Nat->Prop)(g cap:Nat)(ss:List (Option Addr×Nat×Nat))(h:xM w P g ss)(z:Int)(M:0<=z)(N:z<=255):
 Calls Tryz.prog 113 #[.slice (some ⟨g,0,none⟩) ss.length cap,.int .u8 z] w λe w'=>e=.returned (.tuple #[])/\xM w' P g ss/\xM.Are w' ss (.int .u8 z)/\za P w w':=by
 have H:Hid _:=h;have E:=h.len;clear h;go_enter Tryz.func113,Tryz.ntmps113;go_wp2;go_loopw [4] (λt wr=>∃k:Nat,k<=ss.length/\t=.int .i64 k/\xM wr P g ss/\(∀i (f:i<ss.length),i<k->cf wr ss[i].1 ss[i].2.1 (.int .u8 z))/\za P w wr) (λt _=>ss.length-(intOf t).toNat)
 case atStart=>exact⟨0,aj _,rfl,H,λ_ _ h=>by omega,za.refl _ _⟩
 case round=>
  obtain⟨k,R,rfl,A,C,d⟩:=hrel;change Hid _ at A C d;by_cases l:k<ss.length
  .go_wp2;go_loopw [5] (λt r=>∃m:Nat,m<=ss[k].2.1/\t=.int .i64 m/\xM r P g ss/\(∀i (f:i<ss.length),i<k->cf r ss[i].1 ss[i].2.1 (.int .u8 z))/\cf r ss[k].1 m (.int .u8 z)/\za P w r) (λt _=>ss[k].2.1-(intOf t).toNat)
   case atStart=>exact⟨0,aj _,rfl,A,C,λj I=>by omega,d⟩
   case round=>
    obtain⟨m,V,rfl,c,p,n,a⟩:=hrel;have K:=c.cell k l;have J:=c.few ss[k] (ai l);change Hid _ at c p n a;by_cases G:m<ss[k].2.1
    .have u:=c.room ss[k] (ai l);rcases u with Q|⟨b,o,x,h2,B,U⟩;.omega
     .have D:wr.cell? ⟨b,m,none⟩=some o[m]:=by rw [aG wr b m _ _ _ B];simp
      have L:=aa wr b m _ _ B;rw [x] at K;have O:m<o.size:=by omega
      change Hid _ at x h2;clear B;generalize o[m]=T at*;go_wp2;go_roundw
      case rel=>
       refine⟨m+1,by omega,by go_num,c.set b m _ h2,λi f v=>(p i f v).set b m,?_,a.trans (za.setCell (S:=P) _ ⟨b,m,none⟩ _ h2) iL⟩;intro j I b' q;have e:b'=b:=by have:=x.out;rw [this] at q;cases q;rfl
       subst e;by_cases y:j=m;.subst y;rw [zM D];simp
       .rw [zM (n.out j (by omega) b' q)];simp
      case measure=>simp [intOf];omega
    .go_wp2;go_roundw
     case rel=>
      refine⟨k+1,by omega,by go_num,c,λi f v=>?_,a⟩;by_cases e:i=k
      .subst e;have y:m=ss[i].2.1:=by omega
       rw [<-y];exact n.out
      .exact p i f (by omega)
     case measure=>simp [intOf];omega
  .go_wp2;go_end0;refine⟨rfl,A,λs F=>?_,d⟩;obtain⟨i,f,rfl⟩:=ed F;exact C i f (by omega)
theorem qE(w:World)(P:Nat->Prop)(g cap:Nat)(ss:List (Option Addr×Nat×Nat))(h:xM w P g ss)(z:Int)(i:xM.Are w ss (.int .u8 z)):
 Calls Tryz.prog 111 #[.slice (some ⟨g,0,none⟩) ss.length cap,.int .u8 z] w λe w'=>e=.returned (.bool true)/\w'=w:=by
 have l:=h.len;change Hid _ at h i;go_enter Tryz.func111,Tryz.ntmps111;go_wp2;go_loop [5] (λt=>∃k:Nat,k<=ss.length/\t=.int .i64 k) (λt=>ss.length-(intOf t).toNat)
 case atStart=>exact⟨0,aj _,rfl⟩
 case round=>
  obtain⟨k,u,rfl⟩:=hrel;by_cases a:k<ss.length
  .have o:=h.cell k a;have n:=h.few ss[k] (ai a);go_wp2;go_loop [6] (λt=>∃m:Nat,m<=ss[k].2.1/\t=.int .i64 m) (λt=>ss[k].2.1-(intOf t).toNat)
   case atStart=>exact⟨0,aj _,rfl⟩
   case round=>
    obtain⟨m,s,rfl⟩:=hrel;by_cases d:m<ss[k].2.1
    .have c:=h.room ss[k] (ai a);rcases c with r|⟨b,p,f,h2,j,v⟩;.omega
     .have q:=i.out ss[k] (ai a) m d b f;rw [f] at o;clear f h2 j;go_wp2;go_round
      case rel=>exact⟨m+1,by omega,by go_num⟩
      case measure=>simp [intOf];omega
    .go_wp2;go_round
     case rel=>exact⟨k+1,by omega,by go_num⟩
     case measure=>simp [intOf];omega
  .go_wp2;go_ret;exact⟨rfl,rfl⟩
end book
end Go.Proofs.YtcoengihaobddaaGreatDoor
