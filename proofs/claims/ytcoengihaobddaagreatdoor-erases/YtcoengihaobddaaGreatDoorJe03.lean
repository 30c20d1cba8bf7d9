/- Part 3 of 50 of a proof: Tr2, Tree1, Tree2, Ref1, Tree3, Tree4, Tree5, Disk3b, Chg1 -/
import Derived.Test.YtcoengihaobddaaGreatDoorJe02
import Derived.Lib.Bytealg
import Derived.Deep.RegionHeld3
import Derived.Laws.IdiomStrings
set_option maxHeartbeats 8000000
set_option linter.unusedVariables false
set_option linter.unusedSimpArgs false
set_option maxRecDepth 8000
namespace Go.Proofs.YtcoengihaobddaaGreatDoor
namespace prog
open ref
variable {l:List En}{e:En}{p:Pl}
def zr(l:List En)(p:Pl):Nat:=(l.filter λx=>x.pl.lt p).length
theorem xi.cut(h:xi l)(p:Pl):l.take (zr l p)=l.filter (λb=>b.pl.lt p)/\l.drop (zr l p)=l.filter (λb=> !b.pl.lt p):=by
 induction l with
 |nil=>simp [zr]
 |cons a l j=>
  unfold xi at h;rw [aR] at h
  cases c:a.pl.lt p with
  |true=>
   obtain⟨m,k⟩:=j h.2;have e:zr (a::l) p=zr l p+1:=by simp [zr,c]
   rw [e,iB,iN,m,k];simp [c]
  |false=>
   have f:∀b∈l,b.pl.lt p=false:=λb d=>by
    cases g:b.pl.lt p with
    |false=>rfl
    |true=>have:=Pl.trans (h.1 b d) g;rw [c] at this;cases this
   have e:zr (a::l) p=0:=by simp [zr,c];exact f
   have i:l.filter (λb=>b.pl.lt p)=[]:=iO.2 (λb d=>by rw [f b d];simp);have n:l.filter (λb=> !b.pl.lt p)=l:=eT.2 (λb d=>by rw [f b d];rfl);rw [e];simp [c,i,n]
theorem jF(l:List En)(p:Pl):zr l p<=l.length:=ir _ _
theorem xi.at_lt(h:xi l)(p:Pl)(i:Nat)(e:i<l.length):l[i].pl.lt p=decide (i<zr l p):=by
 obtain⟨c,d⟩:=h.cut p;by_cases b:i<zr l p
 .rw [aG b];have a:l[i]∈l.take (zr l p):=iT.2 ⟨i,by omega,rfl⟩;rw [c,eA] at a;exact a.2
 .rw [decide_eq_false b];have a:l[i]∈l.drop (zr l p):=l9.2 ⟨i-zr l p,by omega,by congr 1;omega⟩;rw [d,eA] at a;simpa using a.2
def yP(e:En)(l:List En):List En:=l.filter (λx=>x.pl.lt e.pl)++e::l.filter (λx=> !x.pl.lt e.pl)
theorem vp{a:En}:a∈yP e l↔a=e\/a∈l:=by
 simp only [yP,aj,aq,eA,ij];constructor
 .rintro(h|h|h);.exact .inr h.1
  .exact .inl h
  .exact .inr h.1
 .rintro(h|h);.exact .inr (.inl h)
  .cases b:a.pl.lt e.pl with
   |true=>exact .inl ⟨h,rfl⟩
   |false=>exact .inr (.inr ⟨h,rfl⟩)
theorem vr(e:En)(l:List En):(yP e l).Perm (e::l):=by
 unfold yP;refine List.perm_middle.trans (List.Perm.cons e ?_)
 induction l with
 |nil=>exact eN _
 |cons a l b=>
  cases c:a.pl.lt e.pl with
  |true=>simp only [hE,c,Bool.not_true,if_true,lI,if_false,a9];exact b.cons a
  |false=>simp only [hE,c,Bool.not_false,if_true,lI,if_false];exact List.perm_middle.trans (b.cons a)
theorem xi.ins(h:xi l)(f:∀c∈l,c.pl≠e.pl):xi (yP e l):=by
 unfold xi yP;refine ep.2 ⟨h.filter _,aR.2 ⟨λc a=>?_,h.filter _⟩,λc a g b=>?_⟩
 .rw [eA] at a;exact Pl.total (λd=>f c a.1 d) (by simpa using a.2)
 .rw [eA] at a;rcases aq.1 b with rfl|b;.exact a.2
  .rw [eA] at b;exact Pl.lt_of_lt_not a.2 (by simpa using b.2)
theorem Ga{A M B:List En}(d:∀a∈A,a.pl.lt e.pl=true)(c:∀a∈B,a.pl.lt e.pl=false):yP e (A++(M++B))=A++(yP e M++B):=by
 have g:=eT.2 d;have h:A.filter (λa=> !a.pl.lt e.pl)=[]:=iO.2 (λa b=>by rw [d a b];simp);have f:B.filter (λa=>a.pl.lt e.pl)=[]:=iO.2 (λa b=>by rw [c a b];simp);have i:B.filter (λa=> !a.pl.lt e.pl)=B:=eT.2 (λa b=>by rw [c a b];rfl);simp [yP,g,h,f,i]
theorem xi.ins_at(h:xi l):l.take (zr l e.pl)++e::l.drop (zr l e.pl)=yP e l:=by
 obtain⟨a,b⟩:=h.cut e.pl;rw [a,b];rfl
def ye(p:Pl)(l:List En):List En:=haveI:=Pl.dec;l.filter λx=>decide (x.pl≠p)
theorem j6(h:∀a∈l,a.pl≠p):ye p l=l:=eT.2 (λa b=>by simpa using h a b)
theorem kN(p:Pl)(A B:List En):ye p (A++B)=ye p A++ye p B:=by simp [ye]
theorem cq{a:En}:a∈ye p l↔a∈l/\a.pl≠p:=by simp [ye]
theorem xi.del(h:xi l):xi (ye p l):=lq _ h
theorem xi.apart(h:xi l):∀(i j:Nat) (c:i<l.length) (b:j<l.length),l[i].pl=l[j].pl->i=j:=λi j c b e=>by
 rcases mo i j with a|a|a
 .have:=eB.1 h i j c b a;rw [e] at this;exact absurd this (Pl.irrefl _)
 .exact a
 .have:=eB.1 h j i b c a;rw [e] at this;exact absurd this (Pl.irrefl _)
theorem xi.find(h:xi l)(p:Pl):(∀(c:zr l p<l.length),l[zr l p].pl=p->l.take (zr l p)++l.drop (zr l p+1)=ye p l)/\
 ((∀(c:zr l p<l.length),l[zr l p].pl≠p)->∀f∈l,f.pl≠p):=by
 obtain⟨r,u⟩:=h.cut p;constructor
 .intro c j;have g:l=l.take (zr l p)++l[zr l p]::l.drop (zr l p+1):=by rw [<-aL,aA]
  have o:∀f∈l.take (zr l p),f.pl≠p:=λf a e=>by rw [r,eA,e] at a;exact Pl.irrefl _ a.2
  have m:∀f∈l.drop (zr l p+1),f.pl≠p:=λf a e=>by unfold xi at h;rw [g] at h;have:=(aR.1 (ep.1 h).2.1).1 f a;rw [j,e] at this;exact Pl.irrefl _ this
  conv=>rhs;rw [g]
  rw [kN,j6 o,show ye p (l[zr l p]::l.drop (zr l p+1))=ye p (l.drop (zr l p+1)) from by unfold ye;rw [hE,az (by simp [j])],j6 m]
 .intro q f a e;obtain⟨i,c,rfl⟩:=ei a;have b:=h.at_lt p i c;rw [e] at b;have t:¬i<zr l p:=λs=>by rw [aG s] at b;exact Pl.irrefl _ b
  have d:zr l p<l.length:=by omega
  by_cases n:zr l p=i;.exact q d (by simp only [n];exact e)
  .have:=eB.1 h (zr l p) i d c (by omega);have k:=h.at_lt p _ d;rw [e] at this;rw [this] at k;simp at k
def zK(l:List En)(p:Pl):Nat:=haveI:=Pl.dec;if h:zr l p<l.length then (if l[zr l p].pl=p then zr l p else zr l p-1) else zr l p-1
theorem Qg(p:Pl)(h:l≠[]):zK l p<l.length:=by
 have:=jF l p;have:0<l.length:=List.length_pos_iff.2 h;unfold zK;split;.split<;>omega
 .omega
theorem Kids.items_srt{h:Nat}{a:List (Pl×Tr h)}(k:Kids a):xi (a.map λc=>(⟨c.1,false,0,c.2.blk⟩:En)):=List.Pairwise.map _ (λ_ _ h=>h) k.places
theorem Kids.child{h:Nat}{a:List (Pl×Tr h)}(k:Kids a)(J:a≠[])(p:Pl):∃A q t B,a=A++(q,t)::B/\A.length=zK (a.map λc=>(⟨c.1,false,0,c.2.blk⟩:En)) p/\(A≠[]->¬p.lt q=true)/\(∀b∈B,p.lt b.1=true):=by
 have u:=k.items_srt;generalize C:(a.map λc=>(⟨c.1,false,0,c.2.blk⟩:En))=l at u ⊢;have w:l.length=a.length:=by rw [<-C];simp
 have d:∀i (g:i<a.length),l[i]'(by omega)=⟨a[i].1,false,0,a[i].2.blk⟩:=λi g=>by subst C;simp
 have x:l≠[]:=λe=>J (ed (by rw [<-w,e];rfl));have L:=Qg p x;have y:zK l p<a.length:=by omega
 have E:a=a.take (zK l p)++a[zK l p]::a.drop (zK l p+1):=by rw [<-aL,aA]
 have M:=jF l p;refine⟨a.take (zK l p),a[zK l p].1,a[zK l p].2,a.drop (zK l p+1),E,by simp;omega,λz=>?_,λb G=>?_⟩
 ·
  have o:0<zK l p:=by
   rcases mL (zK l p) with v|v;.rw [v] at z;simp at z
   .exact v
  have j:=u.at_lt p (zK l p) L;rw [d _ y] at j;simp only at j;by_cases r:zK l p<zr l p;.rw [aG r] at j;exact Pl.asymm j
  ·
   have:∃g:zr l p<l.length,l[zr l p].pl=p/\zK l p=zr l p:=by
    unfold zK at r o ⊢;split at r
    next g=>
     split at r
     next f=>exact⟨g,f,by rw [dif_pos g,aB f]⟩
     next f=>rw [dif_pos g,az f] at o;omega
    next g=>rw [dif_neg g] at o;omega
   obtain⟨g,f,F⟩:=this
   have I:a[zK l p].1=p:=by have:=d (zr l p) (by omega);rw [this] at f;simp only [F];exact f
   rw [I];exact Pl.irrefl _
 ·
  obtain⟨i,g,rfl⟩:=l9.1 G;have s:zK l p+1+i<a.length:=by omega
  have j:=u.at_lt p (zK l p+1+i) (by omega);rw [d _ s] at j;simp only at j
  have N:zr l p<=zK l p+1:=by
   unfold zK;split;.split<;>omega
   .omega
  rw [decide_eq_false (by omega)] at j;by_cases f:a[zK l p+1+i].1=p
  ·
   have H:zr l p=zK l p+1+i:=by
    have K:=u.find p;by_cases D:∃g:zr l p<l.length,l[zr l p].pl=p
    .obtain⟨m,n⟩:=D;exact u.apart _ _ m (by omega) (by rw [n,d _ s];exact f.symm)
    .exact absurd (by rw [d _ s];exact f) (K.2 (λm n=>D ⟨m,n⟩) (l[zK l p+1+i]'(by omega)) (ag _))
   have O:zK l p=zr l p:=by
    have m:zr l p<l.length:=by omega
    have n:l[zr l p].pl=p:=by have:=d (zK l p+1+i) s;simp only [H];rw [this];exact f
    unfold zK;rw [dif_pos m,aB n]
   omega
  .exact Pl.total f (by rw [j];simp)
end prog
namespace prog
open Go.ChangeShapes Go.WideShapes Go.ChangeAt Go.RowKit disk ref
open keys (zg zd zq zl)
variable {w:World}{P:Nat->Prop}{es:List En}
def VF(a b:ByteArray):Int:=if qD a b then -1 else if qD b a then 1 else 0
theorem cmpL:∀a b:List UInt8,Lib.compareBytes a b=if qN a b then -1 else if qN b a then 1 else 0
 |[],[]=>by simp [Lib.compareBytes,qN]
 |[],_::_=>by simp [Lib.compareBytes,qN]
 |_::_,[]=>by simp [Lib.compareBytes,qN]
 |a::l,b::r=>by
  have f:=cmpL l r;unfold Lib.compareBytes qN;by_cases c:a<b
  .have:a≠b:=UInt8.ne_of_lt c;simp [c,this]
  .by_cases d:b<a
   .have:a≠b:=(UInt8.ne_of_lt d).symm;have g:b≠a:=this.symm;simp [c,d,this,g]
   .have e:a=b:=by
     rw [lQ] at c d;exact l4.1 (by omega)
    subst e;simp [c,f]
theorem DQ(a b:ByteArray):Lib.compareBytes a.data.toList b.data.toList=VF a b:=cmpL _ _
theorem ZQ(a b:ByteArray)(w:World):Calls Tryz.prog 211 #[.string a,.string b] w λe w'=>e=.returned (.int .i64 (VF a b))/\w'=w:=by
 go_enter Tryz.func211,Tryz.ntmps211;go_wp2;rw [run_callFunc_extern Tryz.func217 (by kernel_rfl) (by kernel_rfl) (by kernel_rfl) (e:=Extern.BytealgCompare.compare) (by kernel_rfl),Lib.run_compareString];simp only [Result.andThen];rw [Oper.upon_value];go_wp2;go_ret;exact⟨zg (DQ a b),rfl⟩
theorem ct(a b:ByteArray)(w:World):Calls Tryz.prog 204 #[.string a,.string b] w λe w'=>e=.returned (.int .i64 (VF a b))/\w'=w:=by
 go_enter Tryz.func204,Tryz.ntmps204;go_wp2_with (go_at_call 211;refine(ZQ _ _ _).mono ?_;rintro e w' ⟨rfl,rfl⟩);go_ret;exact⟨rfl,rfl⟩
def Gb(x y:Int):Int:=if x<y then -1 else if y<x then 1 else 0
theorem VG(a:Int)(w:World):Calls Tryz.prog 212 #[.int .i64 a] w λe w'=>e=.returned (.bool false)/\w'=w:=by
 go_enter Tryz.func212,Tryz.ntmps212;go_wp2;go_ret;exact⟨rfl,rfl⟩
theorem JH(b a:Int)(w:World):Calls Tryz.prog 205 #[.int .i64 b,.int .i64 a] w λe w'=>e=.returned (.int .i64 (Gb b a))/\w'=w:=by
 go_enter Tryz.func205,Tryz.ntmps205;go_wp2_with (go_at_call 212;refine(VG _ _).mono ?_;rintro e w' ⟨rfl,rfl⟩)
 all_goals
  go_ret;refine⟨zg ?_,rfl⟩;unfold Gb
  (repeat' split)<;>omega
def Wr(x y:Int):Int:=if x=0 then y else x
theorem VH(w:World)(b:Nat)(f c:Int)(m:w.cell? ⟨b,0,none⟩=some (.int .i64 f))(o:w.cell? ⟨b,1,none⟩=some (.int .i64 c)):
 Calls Tryz.prog 203 #[.slice (some ⟨b,0,none⟩) 2 2] w λe w'=>e=.returned (.int .i64 (Wr f c))/\w'=w:=by
 go_enter Tryz.func203,Tryz.ntmps203;go_wp2;go_loop [8] (λt=>∃k:Nat,k<=2/\t=.int .i64 k/\(1<=k->f=0)/\(2<=k->c=0)) (λt=>2-(intOf t).toNat)
 case atStart=>exact⟨0,by omega,rfl,by omega,by omega⟩
 case round=>
  obtain⟨k,n,rfl,d,j⟩:=hrel;rcases (by omega:k=0\/k=1\/k=2) with rfl|rfl|rfl
  .by_cases h:f=0
   .subst h;go_wp2;go_round
    case rel=>exact⟨1,by omega,by go_num,by simp,by omega⟩
    case measure=>simp [intOf]
   .have i:(f !=0)=true:=by simpa using h
    have l:Hid _:=h;go_wp2;go_ret;exact⟨zg (az l.out).symm,rfl⟩
  .have a:=d (by omega);subst a;by_cases h:c=0
   .subst h;go_wp2;go_round
    case rel=>exact⟨2,by omega,by go_num,by simp,by simp⟩
    case measure=>simp [intOf]
   .have i:(c !=0)=true:=by simpa using h
    go_wp2;go_ret;exact⟨zg (aB rfl).symm,rfl⟩
  .have a:=d (by omega);have g:=j (by omega);subst a;subst g;go_wp2;go_ret;exact⟨rfl,rfl⟩
def cu(a b:Pl):Int:=Wr (VF a.key b.key) (Gb b.num a.num)
theorem Gc(a b:Pl):cu a b<0↔a.lt b=true:=by
 unfold cu Wr VF Gb;rw [Pl.lt_iff];cases g:qD a.key b.key
 .cases c:qD b.key a.key
  .have e:a.key=b.key:=by
    by_cases e:a.key=b.key;.exact e
    .have:=xo e g;rw [c] at this;cases this
   simp [e];by_cases d:b.num<a.num;.simp [d]
   .by_cases f:a.num<b.num;.simp [d,f]
    .simp [d,f]
  .have e:a.key≠b.key:=λe=>by rw [e,y5] at c;cases c
   simp [e]
 .simp
def WJ(a:Pl):Value:=.agg #[.string a.key,.int .i64 a.num]
theorem QP(w:World)(a b:Pl):Calls Tryz.prog 197 #[.agg #[.string a.key,.int .i64 a.num],.agg #[.string b.key,.int .i64 b.num]] w λe w'=>e=.returned (.int .i64 (cu a b))/\Kept (λ_=>False) w w':=by
 go_enter Tryz.func197,Tryz.ntmps197;go_wp2;have f:((w.alloc (.cells #[.string a.key,.int .i64 a.num] 107)).alloc (.cells #[.string b.key,.int .i64 b.num] 107)).cell? ⟨w.heap.size,0,none⟩=some (.string a.key):=by simp
 have d:((w.alloc (.cells #[.string a.key,.int .i64 a.num] 107)).alloc (.cells #[.string b.key,.int .i64 b.num] 107)).cell? ⟨w.heap.size,1,none⟩=some (.int .i64 a.num):=by simp
 have h:((w.alloc (.cells #[.string a.key,.int .i64 a.num] 107)).alloc (.cells #[.string b.key,.int .i64 b.num] 107)).cell? ⟨w.heap.size+1,0,none⟩=some (.string b.key):=by simp
 have g:((w.alloc (.cells #[.string a.key,.int .i64 a.num] 107)).alloc (.cells #[.string b.key,.int .i64 b.num] 107)).cell? ⟨w.heap.size+1,1,none⟩=some (.int .i64 b.num):=by simp
 have c:Hid (Kept (λ_=>False) w ((w.alloc (.cells #[.string a.key,.int .i64 a.num] 107)).alloc (.cells #[.string b.key,.int .i64 b.num] 107))):=(Kept.alloc _ _ _).trans (Kept.alloc _ _ _) iL;generalize ((w.alloc (.cells #[.string a.key,.int .i64 a.num] 107)).alloc (.cells #[.string b.key,.int .i64 b.num] 107))=i at*
 go_region_held3 (λw'=>w'.cell? ⟨w.heap.size,0,none⟩=some (.string a.key)/\w'.cell? ⟨w.heap.size,1,none⟩=some (.int .i64 a.num)/\w'.cell? ⟨w.heap.size+1,0,none⟩=some (.string b.key)/\w'.cell? ⟨w.heap.size+1,1,none⟩=some (.int .i64 b.num)) (go_keep) ((first
  |(go_at_call 204;refine(ct _ _ _).mono ?_;rintro e w' ⟨rfl,rfl⟩)
  |(go_at_call 205;refine(JH _ _ _).mono ?_;rintro e w' ⟨rfl,rfl⟩)
  |(go_at_call 203;refine(VH _ _ (VF a.key b.key) (Gb b.num a.num) (by simp) (by simp)).mono ?_;rintro e w' ⟨rfl,rfl⟩)))
 all_goals
  go_wp2;go_ret;exact⟨rfl,(c.out.trans (Kept.alloc (λ_=>False) i _) iL).trans (Kept.drew (λ_=>False) _) iL⟩
def qE(e:En):List Value:=[.string e.pl.key,.int .i64 e.pl.num,.bool e.mark,.int .i64 (e.size:Int),.int .i64 (e.at_:Int)]
structure ql (w:World) (P:Nat->Prop) (a:Option Addr) (es:List En):Prop where
 at_:es=[]\/∃g o,a=some ⟨g,o,none⟩/\P g/\g<w.heap.size/\∀k (hk:k<es.length),w.rangeAt g (o+k*5) (qE es[k])
 few:es.length<=1000
theorem ql.kept{w':World}{X:Nat->Prop}{a:Option Addr}(h:ql w P a es)(k:Kept X w w')(m:∀i,P i->¬X i):ql w' P a es:=
 ⟨h.at_.imp id (λ⟨g,n,l,b,c,f⟩=>⟨g,n,l,b,au c k.size,λj d t v e=>(k.cell (a:=⟨g,n+j*5+t,none⟩) c (m g b)).trans (f j d t v e)⟩),h.few⟩
theorem ql.cells{g c:Nat}(h:ql w P (some ⟨g,c,none⟩) es)(k:Nat)(b:k<es.length):
 w.cell? ⟨g,c+k*5,none⟩=some (.string es[k].pl.key)/\w.cell? ⟨g,c+k*5+1,none⟩=some (.int .i64 es[k].pl.num)/\w.cell? ⟨g,c+k*5+2,none⟩=some (.bool es[k].mark)/\w.cell? ⟨g,c+k*5+3,none⟩=some (.int .i64 (es[k].size:Int))/\w.cell? ⟨g,c+k*5+4,none⟩=some (.int .i64 (es[k].at_:Int))/\P g/\g<w.heap.size:=by
 rcases h.at_ with i|⟨l,m,f,d,j,e⟩;.rw [i] at b;simp at b
 .cases f;have a:=e k b;exact⟨a 0 _ rfl,a 1 _ rfl,a 2 _ rfl,a 3 _ rfl,a 4 _ rfl,d,j⟩
theorem ql.base{a:Option Addr}(h:ql w P a es)(b:0<es.length):∃g e,a=some ⟨g,e,none⟩:=by
 rcases h.at_ with d|⟨g,e,c,_⟩;.rw [d] at b;simp at b
 .exact⟨g,e,c⟩
theorem fY(w:World)(e:En)(p:Pl):Calls Tryz.prog 196 #[.agg #[.string e.pl.key,.int .i64 e.pl.num,.bool e.mark,.int .i64 (e.size:Int),.int .i64 (e.at_:Int)],.agg #[.string p.key,.int .i64 p.num]] w λr w'=>r=.returned (.int .i64 (cu e.pl p))/\Kept (λ_=>False) w w':=by
 go_enter Tryz.func196,Tryz.ntmps196;go_wp2_with (go_at_call 197;refine(QP _ e.pl p).mono ?_;rintro r b ⟨rfl,a⟩;change Hid _ at a);go_ret;exact⟨rfl,((Kept.alloc (λ_=>False) w _).trans (Kept.alloc _ _ _) iL).trans a iL⟩
theorem ZR(w:World)(P:Nat->Prop)(a:Option Addr)(cap:Nat)(es:List En)(h:ql w P a es)(U:xi es)(p:Pl):
 Calls Tryz.prog 195 #[.slice a es.length cap,.agg #[.string p.key,.int .i64 p.num],.func (.func 196) #[] #[]] w λr w'=>(∃f,r=.returned (.tuple #[.int .i64 (zr es p:Nat),.bool f]))/\Kept (λ_=>False) w w':=by
 have D:Hid _:=h;have ac:Hid (xi es):=U;have ad:=h.few;have T:=jF es p;have V:Hid (Kept (λ_=>False) w (w.alloc (.cells #[.string p.key,.int .i64 p.num] 107))):=Kept.alloc _ _ _;clear h U;go_enter Tryz.func195,Tryz.ntmps195;go_wp2;have N:Hid ((w.alloc (.cells #[.string p.key,.int .i64 p.num] 107)).heap[w.heap.size]? =some (.cells #[.string p.key,.int .i64 p.num] 107 (0,0))):=heap_alloc_new w _;have ah:(w.alloc (.cells #[.string p.key,.int .i64 p.num] 107)).heap.size=w.heap.size+1:=by simp
 generalize (w.alloc (.cells #[.string p.key,.int .i64 p.num] 107))=ai at*;go_loopw [9,10] (λaa ab wr=>∃i j:Nat,i<=zr es p/\zr es p<=j/\j<=es.length/\aa=.int .i64 i/\ab=.int .i64 j/\Kept (λ_=>False) ai wr) (λaa ab _=>(intOf ab-intOf aa).toNat)
 case atStart=>exact⟨0,es.length,by omega,T,by omega,rfl,rfl,Kept.refl _ _⟩
 case round=>
  obtain⟨i,j,aj,ak,af,rfl,rfl,n⟩:=hrel;have s:Hid _:=V.trans n iL;have t:=(n.block w.heap.size (by omega) (λd=>d)).trans N.out;have x:wr.cell? ⟨w.heap.size,0,none⟩=some (.string p.key):=cR t rfl;have u:wr.cell? ⟨w.heap.size,1,none⟩=some (.int .i64 p.num):=cR t rfl;have o:=(lT t);change Hid _ at n;clear t;by_cases ae:i<j
  .obtain⟨g,l,rfl⟩:=D.base (by omega);have W:(i+j)/2<es.length:=by omega
   obtain⟨E,z,B,C,A,Y,k⟩:=(D.kept s nF).cells ((i+j)/2) W
   have F:Hid (cu es[(i+j)/2].pl p<0↔(i+j)/2<zr es p):=by show cu es[(i+j)/2].pl p<0↔(i+j)/2<zr es p;rw [Gc,ac.at_lt p _ W];simp
   generalize v:(i+j)/2=m at*;generalize es[m]=e at*;have ag:((i:Int)+(j:Int))/2=(m:Int):=by omega
   change Hid _ at v;have G:(m:Int)<(es.length:Int):=by omega
   by_cases y:cu e.pl p<0
   .have H:Hid _:=F.1 y;go_wp2;go_region_held3 (λw'=>w'.cell? ⟨g,l+m*5,none⟩=some (.string e.pl.key)/\w'.cell? ⟨g,l+m*5+1,none⟩=some (.int .i64 e.pl.num)/\w'.cell? ⟨g,l+m*5+2,none⟩=some (.bool e.mark)/\w'.cell? ⟨g,l+m*5+3,none⟩=some (.int .i64 (e.size:Int))/\w'.cell? ⟨g,l+m*5+4,none⟩=some (.int .i64 (e.at_:Int))/\w'.cell? ⟨w.heap.size,0,none⟩=some (.string p.key)/\w'.cell? ⟨w.heap.size,1,none⟩=some (.int .i64 p.num)) (go_keep) ((go_at_call 196;refine(fY _ e p).mono ?_;rintro r K ⟨rfl,c⟩;have q:Hid _:=c;have R:=(c.cell (a:=⟨g,l+m*5,none⟩) k (λd=>d)).trans E;have Q:=(c.cell (a:=⟨g,l+m*5+1,none⟩) k (λd=>d)).trans z;have J:=(c.cell (a:=⟨g,l+m*5+2,none⟩) k (λd=>d)).trans B;have L:=(c.cell (a:=⟨g,l+m*5+3,none⟩) k (λd=>d)).trans C;have X:=(c.cell (a:=⟨g,l+m*5+4,none⟩) k (λd=>d)).trans A;have M:=(c.cell (a:=⟨w.heap.size,0,none⟩) o (λd=>d)).trans x;have O:=(c.cell (a:=⟨w.heap.size,1,none⟩) o (λd=>d)).trans u;clear c))
    all_goals
     go_wp2;go_roundw
     case rel=>exact⟨m+1,j,by have:=H.out;omega,by omega,by omega,by go_num,rfl,n.trans (Kept.trans (b:=wr.drew) (Kept.drew _ _) q iL) iL⟩
     case measure=>have:=v.out;simp only [intOf];omega
   .have H:Hid _:=mV (mt F.2 y);go_wp2;go_region_held3 (λw'=>w'.cell? ⟨g,l+m*5,none⟩=some (.string e.pl.key)/\w'.cell? ⟨g,l+m*5+1,none⟩=some (.int .i64 e.pl.num)/\w'.cell? ⟨g,l+m*5+2,none⟩=some (.bool e.mark)/\w'.cell? ⟨g,l+m*5+3,none⟩=some (.int .i64 (e.size:Int))/\w'.cell? ⟨g,l+m*5+4,none⟩=some (.int .i64 (e.at_:Int))/\w'.cell? ⟨w.heap.size,0,none⟩=some (.string p.key)/\w'.cell? ⟨w.heap.size,1,none⟩=some (.int .i64 p.num)) (go_keep) ((go_at_call 196;refine(fY _ e p).mono ?_;rintro r K ⟨rfl,c⟩;have q:Hid _:=c;have R:=(c.cell (a:=⟨g,l+m*5,none⟩) k (λd=>d)).trans E;have Q:=(c.cell (a:=⟨g,l+m*5+1,none⟩) k (λd=>d)).trans z;have J:=(c.cell (a:=⟨g,l+m*5+2,none⟩) k (λd=>d)).trans B;have L:=(c.cell (a:=⟨g,l+m*5+3,none⟩) k (λd=>d)).trans C;have X:=(c.cell (a:=⟨g,l+m*5+4,none⟩) k (λd=>d)).trans A;have M:=(c.cell (a:=⟨w.heap.size,0,none⟩) o (λd=>d)).trans x;have O:=(c.cell (a:=⟨w.heap.size,1,none⟩) o (λd=>d)).trans u;clear c))
    all_goals
     go_wp2;go_roundw
     case rel=>exact⟨i,m,by omega,by have:=H.out;omega,by omega,rfl,rfl,n.trans (Kept.trans (b:=wr.drew) (Kept.drew _ _) q iL) iL⟩
     case measure=>have:=v.out;simp only [intOf];omega
  .have I:i=zr es p:=by omega
   have Z:Hid _:=I;by_cases S:i<es.length
   .obtain⟨g,l,rfl⟩:=D.base (by omega);obtain⟨E,z,B,C,A,Y,k⟩:=(D.kept s nF).cells i S;generalize es[i]=e at*;have G:(i:Int)<(es.length:Int):=by omega
    clear I;go_wp2;go_region_held3 (λw'=>w'.cell? ⟨g,l+i*5,none⟩=some (.string e.pl.key)/\w'.cell? ⟨g,l+i*5+1,none⟩=some (.int .i64 e.pl.num)/\w'.cell? ⟨g,l+i*5+2,none⟩=some (.bool e.mark)/\w'.cell? ⟨g,l+i*5+3,none⟩=some (.int .i64 (e.size:Int))/\w'.cell? ⟨g,l+i*5+4,none⟩=some (.int .i64 (e.at_:Int))/\w'.cell? ⟨w.heap.size,0,none⟩=some (.string p.key)/\w'.cell? ⟨w.heap.size,1,none⟩=some (.int .i64 p.num)) (go_keep) ((go_at_call 196;refine(fY _ e p).mono ?_;rintro r K ⟨rfl,c⟩;have q:Hid _:=c;have R:=(c.cell (a:=⟨g,l+i*5,none⟩) k (λd=>d)).trans E;have Q:=(c.cell (a:=⟨g,l+i*5+1,none⟩) k (λd=>d)).trans z;have J:=(c.cell (a:=⟨g,l+i*5+2,none⟩) k (λd=>d)).trans B;have L:=(c.cell (a:=⟨g,l+i*5+3,none⟩) k (λd=>d)).trans C;have X:=(c.cell (a:=⟨g,l+i*5+4,none⟩) k (λd=>d)).trans A;have M:=(c.cell (a:=⟨w.heap.size,0,none⟩) o (λd=>d)).trans x;have O:=(c.cell (a:=⟨w.heap.size,1,none⟩) o (λd=>d)).trans u;clear c))
    all_goals
     go_wp2;go_ret2;exact⟨⟨_,by rw [<-Z.out];rfl⟩,s.trans (Kept.trans (b:=wr.drew) (Kept.drew _ _) q iL) iL⟩
   .have G:=decide_eq_false (by omega);clear I;go_wp2;go_quiet (fail);go_wp2;go_ret2;exact⟨⟨_,by rw [<-Z.out];rfl⟩,s.trans (S':=λ_=>False) kD iL⟩
end prog
namespace ref
open Go.ChangeShapes Go.WideShapes Go.ChangeAt Go.RowKit disk
open keys (zg zd zq zl)
theorem yr{a b:ByteArray}:a.toList=b.toList↔a=b:=⟨λh=>uF (by rw [<-eU,<-eU,h]),λh=>by rw [h]⟩
def fc(vs:List zw)(k:ByteArray)(n:Int):Int:=((vs.findIdx? λv=>decide (v.key=k)&&decide (v.num=n)).map λi=>(i:Int)).getD (-1)
theorem Gd{vs:List zw}{k:ByteArray}{n:Int}{i:Nat}(f:i<vs.length)(c:vs[i].key=k)(g:vs[i].num=n)(a:∀j (b:j<vs.length),j<i->¬(vs[j].key=k/\vs[j].num=n)):fc vs k n=(i:Int):=by
 have:vs.findIdx? (λv=>decide (v.key=k)&&decide (v.num=n))=some i:=ic.2 ⟨f,by simp [c,g],λj b=>by have:=a j (by omega) b;simp;exact λe d=>this ⟨e,d⟩⟩;simp [fc,this]
theorem VI{vs:List zw}{k:ByteArray}{n:Int}(a:∀j (b:j<vs.length),¬(vs[j].key=k/\vs[j].num=n)):fc vs k n= -1:=by
 have:vs.findIdx? (λv=>decide (v.key=k)&&decide (v.num=n))=none:=iE.2 λf e=>by obtain⟨j,b,rfl⟩:=ei e;have:=a j b;simp;exact λd c=>this ⟨d,c⟩
 simp [fc,this]
theorem cv(vs:List zw)(k:ByteArray)(n:Int):(fc vs k n= -1/\qK vs k n=none)\/∃(i:Nat) (h:i<vs.length),fc vs k n=(i:Int)/\qK vs k n=some vs[i]:=by
 cases h:vs.findIdx? (λv=>decide (v.key=k)&&decide (v.num=n)) with
 |none=>
  left;refine⟨by simp [fc,h],lG.2 λf e=>by rw [iE.1 h f e];simp⟩
 |some i=>
  right;obtain⟨a,d,c⟩:=ic.1 h;refine⟨i,a,by simp [fc,h],?_⟩;exact List.find?_eq_some_iff_getElem.2 ⟨d,i,a,rfl,λj b=>by have:=c j b;rw [Bool.not_eq_true] at this;rw [this];rfl⟩
theorem xN(w:World)(F v:Nat->Prop)(b:Nat)(vs:List zw)(m:Int)(h:qo w F v b vs m)(q:vs.length<=9223372036854775807)(c:ByteArray)(n:Int):
 Calls Tryz.prog 153 #[.pointer (some ⟨b,0,none⟩),.string c,.int .i64 n] w λe w'=>e=.returned (.int .i64 (fc vs c n))/\w'=w:=by
 obtain⟨a,cap,x,h⟩:=h;have r:=h.c0;have o:Hid _:=h;clear h;go_enter Tryz.func153,Tryz.ntmps153;go_wp2;go_loop [7] (λi=>∃k:Nat,k<=vs.length/\i=.int .i64 k/\∀j (f:j<vs.length),j<k->¬(vs[j].key=c/\vs[j].num=n)) (λi=>vs.length-(intOf i).toNat)
 case atStart=>exact⟨0,ai _,rfl,λ_ _ h=>by omega⟩
 case round=>
  obtain⟨k,u,rfl,d⟩:=hrel;change Hid _ at d;by_cases l:k<vs.length
  .obtain⟨g,rfl⟩:=o.rowAt (by omega);obtain⟨t,y,_⟩:=o.cells k l
   have next:¬(vs[k].key=c/\vs[k].num=n)->∀j (f:j<vs.length),j<k+1->¬(vs[j].key=c/\vs[j].num=n):=λp j f s=>by
    by_cases e:j=k;.subst e;exact p
    .exact d j f (by omega)
   change Hid _ at next
   go_wp2
   .go_ret;exact⟨zg (Gd l (yr.1 ‹_›) (zl ‹_›) d).symm,rfl⟩
   all_goals
    go_round
    case rel=>exact⟨k+1,by omega,by go_num,next (λh=>by first|exact absurd (yr.2 h.1) ‹_› |exact absurd h.2 (zq ‹_›))⟩
    case measure=>simp [intOf];omega
  .go_wp2;go_ret;exact⟨zg (VI λj f=>d j f (by omega)).symm,rfl⟩
def Y2(vs:List zw)(key:ByteArray)(k:Nat)(t:Value):Prop:=
 (t=.int .i64 (-1)/\zO (vs.take k) key=none)\/∃(m:Nat) (h:m<vs.length),m<k/\t=.int .i64 (m:Int)/\zO (vs.take k) key=some vs[m]
theorem Y3(vs:List zw)(a:ByteArray)(k:Nat)(h:k<vs.length):zO (vs.take (k+1)) a=vk a (zO (vs.take k) a) vs[k]:=by
 unfold zO;rw [ar h,lN];rfl
theorem xV(w:World)(F I:Nat->Prop)(b:Nat)(vs:List zw)(u:Int)(h:qo w F I b vs u)(A:vs.length<=9223372036854775807)(d:ByteArray):
 Calls Tryz.prog 154 #[.pointer (some ⟨b,0,none⟩),.string d] w λe w'=>(∃i,e=.returned i/\Y2 vs d vs.length i)/\∃n,w'=w.drewN n:=by
 obtain⟨a,cap,J,h⟩:=h;have s:Hid _:=h;clear h;go_enter Tryz.func154,Tryz.ntmps154;go_wp2;go_loopw [5,6] (λt i wr=>∃k:Nat,k<=vs.length/\i=.int .i64 k/\Y2 vs d k t/\∃n,wr=w.drewN n) (λ_ i _=>vs.length-(intOf i).toNat)
 case atStart=>exact⟨0,ai _,rfl,.inl ⟨rfl,rfl⟩,0,rfl⟩
 case round=>
  obtain⟨k,H,rfl,f,L,rfl⟩:=hrel;change Hid _ at f;have B:=s.c0;by_cases l:k<vs.length
  .have q:=Y3 vs d k l;obtain⟨g,rfl⟩:=s.rowAt (by omega);obtain⟨G,K,_⟩:=s.cells k l;change Hid _ at q;rcases f.out with⟨rfl,o⟩|⟨m,v,E,rfl,j⟩
   .have p:Hid _:=o;clear o;by_cases c:vs[k].key.toList=d.toList
    .have x:(decide ((-1:Int)<0))=true:=rfl;go_wp2;go_quiet (fail);go_wp2;go_roundw
     case rel=>exact⟨k+1,by omega,by go_num,.inr ⟨k,l,by omega,rfl,by rw [q.out,p.out];exact aB (yr.1 c)⟩,_,rfl⟩
     case measure=>simp [intOf];omega
    .have x:(vs[k].key.toList==d.toList)=false:=by simpa using c
     have z:=decide_eq_false c;go_wp2;go_quiet (fail);go_wp2;go_roundw
     case rel=>exact⟨k+1,by omega,by go_num,.inl ⟨rfl,by rw [q.out,p.out];exact az (λh=>c (yr.2 h))⟩,_,rfl⟩
     case measure=>simp [intOf];omega
   .have p:Hid _:=j;clear j;obtain⟨_,M,_⟩:=s.cells m v;have C:decide ((m:Int)<0)=false:=decide_eq_false (by omega);have D:(m:Int)<(vs.length:Int):=by omega
    by_cases c:vs[k].key.toList=d.toList
    .by_cases r:vs[m].num<vs[k].num
     .have y:=aG r;go_wp2;go_quiet (fail);go_wp2;go_roundw
      case rel=>exact⟨k+1,by omega,by go_num,.inr ⟨k,l,by omega,rfl,by rw [q.out,p.out];exact aB ⟨yr.1 c,r⟩⟩,_,rfl⟩
      case measure=>simp [intOf];omega
     .have y:=decide_eq_false r;go_wp2;go_quiet (fail);go_wp2;go_roundw
      case rel=>exact⟨k+1,by omega,by go_num,.inr ⟨m,v,by omega,rfl,by rw [q.out,p.out];exact az (λh=>by have:=h.2;omega)⟩,_,rfl⟩
      case measure=>simp [intOf];omega
    .have x:(vs[k].key.toList==d.toList)=false:=by simpa using c
     have z:=decide_eq_false c;go_wp2;go_quiet (fail);go_wp2;go_roundw
     case rel=>exact⟨k+1,by omega,by go_num,.inr ⟨m,v,by omega,rfl,by rw [q.out,p.out];exact az (λh=>c (yr.2 h.1))⟩,_,rfl⟩
     case measure=>simp [intOf];omega
  .have e:k=vs.length:=by omega
   go_wp2;go_ret;refine⟨⟨_,rfl,?_⟩,_,rfl⟩;rw [<-e];exact f.out
end ref
namespace prog
open Go.ChangeShapes Go.WideShapes Go.ChangeAt Go.RowKit disk ref
open keys (zg zd zq zl)
variable {l:List UInt8}{b:UInt8}
theorem Kept.alloc2(w:World)(b a:Obj):Kept (λ_=>False) w ((w.alloc b).alloc a):=(Kept.alloc _ _ _).trans (Kept.alloc _ _ _) iL
theorem kf(w:World)(P:Nat->Prop)(a:Option Addr)(cap:Nat)(es:List En)(h:ql w P a es)(d:xi es)(k:Int)(p:Pl):
 Calls Tryz.prog 175 #[.agg #[.int .u8 k,.slice a es.length cap],.agg #[.string p.key,.int .i64 p.num]] w λr w'=>r=.returned (.int .i64 (zr es p:Nat))/\Kept (λ_=>False) w w':=by
 have e:Hid _:=h;change Hid _ at d;clear h;have c:Hid (Kept (λ_=>False) w ((w.alloc (.cells #[.int .u8 k,.slice a es.length cap] 209)).alloc (.cells #[.string p.key,.int .i64 p.num] 107))):=Kept.alloc2 _ _ _;go_enter Tryz.func175,Tryz.ntmps175;go_wp2_with (go_at_call 195;refine(ZR _ P a cap es (e.kept c nF) d p).mono ?_;rintro r g ⟨⟨f,rfl⟩,b⟩;change Hid _ at b);go_ret;exact⟨rfl,c.trans b iL⟩
theorem uJ(w:World)(P:Nat->Prop)(a:Option Addr)(cap:Nat)(es:List En)(h:ql w P a es)(A:xi es)(k:Int)(p:Pl):
 Calls Tryz.prog 176 #[.agg #[.int .u8 k,.slice a es.length cap],.agg #[.string p.key,.int .i64 p.num]] w λr w'=>r=.returned (.int .i64 (zK es p:Nat))/\Kept (λ_=>False) w w':=by
 have B:Hid _:=h;have F:Hid (xi es):=A;have H:=h.few;have L:=jF es p;clear h A;have l:Hid (Kept (λ_=>False) w ((w.alloc (.cells #[.int .u8 k,.slice a es.length cap] 209)).alloc (.cells #[.string p.key,.int .i64 p.num] 107))):=Kept.alloc2 _ _ _;go_enter Tryz.func176,Tryz.ntmps176;go_wp2_with (go_at_call 175;refine(kf _ P a cap es (B.kept l nF) F k p).mono ?_;rintro r f ⟨rfl,c⟩;have y:Hid (Kept (λ_=>False) _ f):=c;have K:f.cell? ⟨w.heap.size,1,none⟩=some (.slice a es.length cap):=(c.cell (a:=⟨w.heap.size,1,none⟩) (by simp;omega) (λj=>j)).trans (by simp);have M:f.cell? ⟨w.heap.size+1,0,none⟩=some (.string p.key):=(c.cell (a:=⟨w.heap.size+1,0,none⟩) (by simp) (λj=>j)).trans (by simp);have J:f.cell? ⟨w.heap.size+1,1,none⟩=some (.int .i64 p.num):=(c.cell (a:=⟨w.heap.size+1,1,none⟩) (by simp) (λj=>j)).trans (by simp);have q:Hid (ql f P a es):=(B.kept l nF).kept c nF;clear c);have d:Hid (Kept (λ_=>False) w f):=l.trans y iL;by_cases e:zr es p<es.length
 .obtain⟨g,U,rfl⟩:=q.base (by omega);obtain⟨I,D,S,T,R,O,Q⟩:=q.cells (zr es p) e;have z:((zr es p:Nat):Int)<(es.length:Int):=by omega
  by_cases b:es[zr es p].pl=p
  .have i:Hid (zK es p=zr es p):=by show zK es p=_;unfold zK;rw [dif_pos e,aB b]
   have n:es[zr es p].pl.key=p.key:=by rw [b]
   have s:es[zr es p].pl.num=p.num:=by rw [b]
   rw [n] at I;rw [s] at D;clear b n s;generalize zr es p=m at*;go_quiet (fail);go_wp2;go_ret;exact⟨by rw [i.out];rfl,d.trans (S':=λ_=>False) kD iL⟩
  .have i:Hid (zK es p=zr es p-1):=by show zK es p=_;unfold zK;rw [dif_pos e,az b]
   have v:¬(es[zr es p].pl.key=p.key/\es[zr es p].pl.num=p.num):=λ⟨u,t⟩=>b (by cases G:es[zr es p].pl;cases p;rw [G] at u t;simp only at u t;rw [u,t]);clear b;generalize zr es p=m at*;generalize es[m].pl.key=x at*;generalize es[m].pl.num=E at*;by_cases o:x=p.key
   .subst o;have N:(E==p.num)=false:=by simpa using v
    go_quiet (fail);go_wp2
    all_goals
     go_ret;exact⟨zg (by rw [i.out];omega),d.trans (S':=λ_=>False) kD iL⟩
   .have C:(x.toList==p.key.toList)=false:=by
     have:=mt yr.1 o;simpa using this
    go_quiet (fail);go_wp2
    all_goals
     go_ret;exact⟨zg (by rw [i.out];omega),d.trans (S':=λ_=>False) kD iL⟩
 .have i:Hid (zK es p=zr es p-1):=by show zK es p=_;unfold zK;rw [dif_neg e]
  have z:=decide_eq_false (by omega);generalize zr es p=m at*;go_quiet (fail);go_wp2
  all_goals
   go_ret;exact⟨zg (by rw [i.out];omega),d.trans (S':=λ_=>False) kD iL⟩
theorem JI(r:ByteArray)(h:0<r.size):r.data.toList=(r.extract 0 (r.size-1)).data.toList++[r[r.size-1]]:=by
 rw [ByteArray.data_extract,Array.toList_extract];have a:r.data.toList.length=r.size:=by simp
 rw [List.extract_eq_take_drop,mh,Nat.sub_zero];have:r[r.size-1]=r.data.toList[r.size-1]'(by omega):=by simp;rfl
 rw [this,<-ar (by omega),ao (by omega)]
theorem Ge(h:b≠0):cut (l++[b])=l++[b]:=by
 unfold cut;rw [List.reverse_append,List.reverse_singleton,List.singleton_append,List.dropWhile_cons,az (by simpa using h),List.reverse_cons,List.reverse_reverse]
theorem Gf{m:List UInt8}(h:l=m++[b])(a:b=0):cut l=cut m:=by rw [h,a,YP]
theorem Gg{m:List UInt8}(h:l=m++[b])(a:¬b=0):cut l=l:=by rw [h,Ge a]
theorem QQ(w:World)(s:ByteArray)(k:s.size<=1000):
 Calls Tryz.prog 207 #[.string s,.int .u8 0] w λe w'=>(∃r:ByteArray,e=.returned (.string r)/\r.data.toList=cut s.data.toList)/\w'=w:=by
 go_enter Tryz.func207,Tryz.ntmps207;go_wp2;go_loop [0] (λt=>∃r:ByteArray,t=.string r/\cut r.data.toList=cut s.data.toList/\r.size<=1000) (λt=>match t with|.string r=>r.size|_=>0)
 case atStart=>exact⟨s,rfl,rfl,k⟩
 case round=>
  obtain⟨r,rfl,g,l⟩:=hrel;have d:Hid (cut r.data.toList=cut s.data.toList):=g;clear g;by_cases i:0<r.size
  .have b:Hid _:=JI r i;by_cases a:r[r.size-1]=0
   .have f:((r[r.size-1].toNat:Int)==0)=true:=by rw [a];rfl
    have c:Hid _:=a;clear a;go_wp2;go_round
    case rel=>exact⟨r.extract 0 (r.size-1),rfl,by rw [<-d.out,Gf b.out c.out],by simp;omega⟩
    case measure=>simp;omega
   .have f:((r[r.size-1].toNat:Int)==0)=false:=by
     have:r[r.size-1].toNat≠0:=λe=>a (l4.1 e);simp;omega
    have c:Hid (¬r[r.size-1]=0):=a;clear a;go_wp2;go_ret;exact⟨⟨r,rfl,by rw [<-d.out,Gg b.out c.out]⟩,rfl⟩
  .have h:r.data.toList.length=r.size:=by simp
   have j:Hid (r.data.toList=[]):=ed (by omega);clear h;go_wp2;go_ret;exact⟨⟨r,rfl,by rw [<-d.out,j.out];rfl⟩,rfl⟩
theorem kZ(w:World)(s:ByteArray)(d:s.size<=1000):
 Calls Tryz.prog 202 #[.string s,.string ⟨#[0]⟩] w λe w'=>(∃r:ByteArray,e=.returned (.string r)/\r.data.toList=cut s.data.toList)/\w'=w:=by
 by_cases b:s.toList=[]
 .have c:Hid (s.data.toList=[]):=by show s.data.toList=[];rw [<-eU];exact b
  go_enter Tryz.func202,Tryz.ntmps202;go_wp2;go_ret;exact⟨⟨s,rfl,by rw [c.out];rfl⟩,rfl⟩
 .have g:(s.toList==[])=false:=by simpa using b
  go_enter Tryz.func202,Tryz.ntmps202;go_wp2_with (go_at_call 207;refine(QQ _ s d).mono ?_;rintro e w' ⟨⟨r,rfl,a⟩,rfl⟩;have f:Hid _:=a;clear a);go_ret;exact⟨⟨r,rfl,f.out⟩,rfl⟩
def B6:Array Value:=#[.string ⟨#[]⟩,.int .i64 0,.bool false,.int .i64 0,.int .i64 0]
theorem Y4(w:World)(b:Nat)(t:TypeId)(l:List UInt8)(h:xh w b t l)(d cap:Nat)(e:d+8<=l.length)(k:List UInt8)(a:(l.drop d).take 8=k):
 (convert 35 9 (.slice (some ⟨b,d,none⟩) 8 cap)).run Tryz.prog w=.ok (.string ⟨k.toArray⟩) w:=by
 have c:k.length=8:=by rw [<-a];simp;omega
 have:=run_convert_bytes_back (P:=Tryz.prog) w 35 9 5 ⟨b,d,none⟩ cap k Tryz.underlying35 Tryz.underlying5 Tryz.underlying9 (λj f=>by
  rw [eO,h.cell (d+j) (by omega)];subst a
  simp)
 rw [c] at this;exact this
theorem jl(l:List UInt8)(a i n m:Nat)(h:i+n<=m):(((l.drop a).take m).drop i).take n=(l.drop (a+i)).take n:=by
 rw [mJ,iJ,eE (by omega),eI]
theorem cw(w:World)(b:Nat)(t:TypeId)(l:List UInt8)(h:xh w b t l)(i cap:Nat)(W:i+20<=l.length)(P:20<=cap)(e:En)(d:e.Ok)(L:(l.drop i).take 20=vm e):
 Calls Tryz.prog 194 #[.int .u8 5,.slice (some ⟨b,i,none⟩) 20 cap] w λr w'=>r=.returned (.agg (qE e).toArray)/\Kept (λ_=>False) w w':=by
 obtain⟨C,y,u,x⟩:=g8 d (bytesOf 2 (qZ e));have D:qq e++bytesOf 2 (qZ e)=(l.drop i).take 20:=L.symm;rw [D] at C y u x;have G:(l.drop i).take 8=keyBytes e.pl.key:=by rw [<-C,iJ];rfl
 have O:(l.drop (i+8)).take 8=bytesOf 8 e.pl.num.toNat:=by rw [<-y,jl _ _ _ _ _ (by omega)]
 have H:(l.drop (i+16)).take 2=bytesOf 2 e.at_:=by rw [<-u,jl _ _ _ _ _ (by omega)]
 have K:(l.drop (i+18)).take 2=bytesOf 2 (qZ e):=by rw [<-x,mJ,eI]
 have N:Hid (numOf ((l.drop (i+8)).take 8)=e.pl.num.toNat):=by show numOf ((l.drop (i+8)).take 8)=e.pl.num.toNat;have:=YR d;rw [O];omega
 have E:Hid (numOf ((l.drop (i+16)).take 2)=e.at_):=by show numOf ((l.drop (i+16)).take 2)=e.at_;rw [H];exact KU d
 have s:Hid (numOf ((l.drop (i+18)).take 2)=qZ e):=by show numOf ((l.drop (i+18)).take 2)=qZ e;rw [K];exact Vx d
 have S:=d.num1;have V:=d.num0;have T:=d.at_;have U:=d.size;have o:∀(r:ByteArray),r.data.toList=cut (ByteArray.data ⟨(keyBytes e.pl.key).toArray⟩).toList->r=e.pl.key:=λr m=>uF (by rw [m];exact KT _ d.zero)
 have k:(ByteArray.size ⟨(keyBytes e.pl.key).toArray⟩)<=1000:=by
  have:(ByteArray.size ⟨(keyBytes e.pl.key).toArray⟩)=(keyBytes e.pl.key).length:=by simp [ByteArray.size]
  rw [this,xz _ d.key];omega
 have M:Hid (Kept (λ_=>False) w ((w.alloc (.cells B6 109)).alloc (.cells B6 109))):=Kept.alloc2 _ _ _;have q:=Y4 _ b t l (h.kept M (λB=>B)) i cap (by omega) _ G;unfold B6 at q;change Hid _ at h d o k;clear C y u x D L G O H K;have p:((e.pl.num.toNat:Nat):Int)=e.pl.num:=by omega
 have F:Hid (e.mark=true->e.size=0):=d.mark;have f:∀(A:World) (J I:Obj),A=(w.alloc J).alloc I->xh A b t l:=λA J I e=>by rw [e];exact h.kept (Kept.alloc2 w _ _) (λB=>B)
 change Hid _ at p f
 cases g:e.mark with
 |false=>
  have z:Hid _:=g;have j:qZ e=e.size:=by simp [qZ,g]
  rw [j] at s;have R:((e.size:Int)==65535)=false:=by simp;omega
  clear g j;go_enter Tryz.func194,Tryz.ntmps194;go_wp2_with fail;refine(kZ _ _ k).mono ?_;rintro r c ⟨⟨r,rfl,m⟩,a⟩;rw [a];have n:=o.out r m;subst n;clear m a c;go_wp2_with fail;refine(yQ _ b t l (f _ _ _ rfl) (i+8) 8 (cap-8) e.pl.num.toNat (by omega) (by omega) N (by omega)).mono ?_;rintro r c ⟨rfl,a⟩;rw [a,p.out];clear a c;go_wp2_with fail;refine(yQ _ b t l (f _ _ _ rfl) (i+16) 2 (cap-16) e.at_ (by omega) (by omega) E (by omega)).mono ?_;rintro r c ⟨rfl,a⟩;rw [a];clear a c;go_wp2_with fail;refine(yQ _ b t l (f _ _ _ rfl) (i+18) 2 (cap-18) e.size (by omega) (by omega) s (by omega)).mono ?_;rintro r c ⟨rfl,a⟩;rw [a];clear a c;go_wp2;refine bodyPost_ret (v:=.agg (qE e).toArray) (results_cell_row Tryz.results194 _ _ w.heap.size 109 (qE e).toArray (0,0) _ rfl (by rw [heap_alloc2_old];unfold qE;rw [z.out]) Tryz.underlying109 rfl (by kernel_rfl)) rfl ⟨rfl,Kept.alloc2 _ _ _⟩
 |true=>
  have z:Hid _:=g;have j:qZ e=65535:=by simp [qZ,g]
  rw [j] at s;have Q:Hid (e.size=0):=F.out g;clear g j;go_enter Tryz.func194,Tryz.ntmps194;go_wp2_with fail;refine(kZ _ _ k).mono ?_;rintro r c ⟨⟨r,rfl,m⟩,a⟩;rw [a];have n:=o.out r m;subst n;clear m a c;go_wp2_with fail;refine(yQ _ b t l (f _ _ _ rfl) (i+8) 8 (cap-8) e.pl.num.toNat (by omega) (by omega) N (by omega)).mono ?_;rintro r c ⟨rfl,a⟩;rw [a,p.out];clear a c;go_wp2_with fail;refine(yQ _ b t l (f _ _ _ rfl) (i+16) 2 (cap-16) e.at_ (by omega) (by omega) E (by omega)).mono ?_;rintro r c ⟨rfl,a⟩;rw [a];clear a c;go_wp2_with fail;refine(yQ _ b t l (f _ _ _ rfl) (i+18) 2 (cap-18) 65535 (by omega) (by omega) s (by omega)).mono ?_;rintro r c ⟨rfl,a⟩;rw [a];clear a c;go_wp2;refine bodyPost_ret (v:=.agg (qE e).toArray) (results_cell_row Tryz.results194 _ _ w.heap.size 109 (qE e).toArray (0,0) _ rfl (by rw [heap_alloc2_old];unfold qE;rw [z.out,Q.out];rfl) Tryz.underlying109 rfl (by kernel_rfl)) rfl ⟨rfl,Kept.alloc2 _ _ _⟩
theorem fZ(w:World)(b:Nat)(t:TypeId)(l:List UInt8)(h:xh w b t l)(d cap:Nat)(P:d+18<=l.length)(K:18<=cap)(e:En)(a:e.Ok)(F:(l.drop d).take 18=qq e)(H:e.mark=false)(E:e.size=0):
 Calls Tryz.prog 194 #[.int .u8 4,.slice (some ⟨b,d,none⟩) 18 cap] w λr w'=>r=.returned (.agg (qE e).toArray)/\Kept (λ_=>False) w w':=by
 obtain⟨u,p,o,y⟩:=g8 a [];have x:qq e++[]=(l.drop d).take 18:=by rw [aM];exact F.symm
 rw [x] at u p o y;have A:(l.drop d).take 8=keyBytes e.pl.key:=by rw [<-u,iJ];rfl
 have I:(l.drop (d+8)).take 8=bytesOf 8 e.pl.num.toNat:=by rw [<-p,jl _ _ _ _ _ (by omega)]
 have B:(l.drop (d+16)).take 2=bytesOf 2 e.at_:=by rw [<-o,jl _ _ _ _ _ (by omega)]
 have L:Hid (numOf ((l.drop (d+8)).take 8)=e.pl.num.toNat):=by show numOf ((l.drop (d+8)).take 8)=e.pl.num.toNat;have:=YR a;rw [I];omega
 have J:Hid (numOf ((l.drop (d+16)).take 2)=e.at_):=by show numOf ((l.drop (d+16)).take 2)=e.at_;rw [B];exact KU a
 have M:=a.num1;have O:=a.num0;have N:=a.at_;have m:∀(r:ByteArray),r.data.toList=cut (ByteArray.data ⟨(keyBytes e.pl.key).toArray⟩).toList->r=e.pl.key:=λr k=>uF (by rw [k];exact KT _ a.zero)
 have g:(ByteArray.size ⟨(keyBytes e.pl.key).toArray⟩)<=1000:=by
  have:(ByteArray.size ⟨(keyBytes e.pl.key).toArray⟩)=(keyBytes e.pl.key).length:=by simp [ByteArray.size]
  rw [this,xz _ a.key];omega
 have G:Hid (Kept (λ_=>False) w ((w.alloc (.cells B6 109)).alloc (.cells B6 109))):=Kept.alloc2 _ _ _;have j:=Y4 _ b t l (h.kept G (λs=>s)) d cap (by omega) _ A;unfold B6 at j;change Hid _ at h a m g;clear u p o y x F A I B;have n:((e.pl.num.toNat:Nat):Int)=e.pl.num:=by omega
 change Hid _ at H E;have i:∀(q:World) (D C:Obj),q=(w.alloc D).alloc C->xh q b t l:=λq D C e=>by rw [e];exact h.kept (Kept.alloc2 w _ _) (λs=>s)
 change Hid _ at n i;go_enter Tryz.func194,Tryz.ntmps194;go_wp2_with fail;refine(kZ _ _ g).mono ?_;rintro r f ⟨⟨r,rfl,k⟩,c⟩;rw [c];have z:=m.out r k;subst z;clear k c f;go_wp2_with fail;refine(yQ _ b t l (i _ _ _ rfl) (d+8) 8 (cap-8) e.pl.num.toNat (by omega) (by omega) L (by omega)).mono ?_;rintro r f ⟨rfl,c⟩;rw [c,n.out];clear c f;go_wp2_with fail;refine(yQ _ b t l (i _ _ _ rfl) (d+16) 2 (cap-16) e.at_ (by omega) (by omega) J (by omega)).mono ?_;rintro r f ⟨rfl,c⟩;rw [c];clear c f;go_wp2;refine bodyPost_ret (v:=.agg (qE e).toArray) (results_cell_row Tryz.results194 _ _ w.heap.size 109 (qE e).toArray (0,0) _ rfl (by rw [heap_alloc2_old];unfold qE;rw [H.out,E.out];rfl) Tryz.underlying109 rfl (by kernel_rfl)) rfl ⟨rfl,Kept.alloc2 _ _ _⟩
end prog
namespace disk
open Go.ChangeShapes Go.WideShapes Go.ChangeAt Go.RowKit
theorem Gh(w:World)(bd:Nat)(S:Nat->Prop)(D:Dk)(i l:Option Addr)(bc j:Nat)(h:zn w bd S D i l bc j)(a:Int)(q:zs a)(g:a<0\/D.bs.length<=a)(s:0<=D.reads)(y:D.reads<=4611686018427387904):
 Calls Tryz.prog 81 #[.pointer (some ⟨bd,0,none⟩),.int .i64 a] w λe w'=>
  e=.returned (.agg (D.look a).toArray)/\zn w' bd S {D with reads:=D.reads+1} i l bc j/\Kept (λk=>k=bd) w w':=by
 obtain⟨b,d,B⟩:∃b:List Value,b=z9/\∀w,(zeroValue 131).run Tryz.prog w=.ok (.agg b.toArray) w:=⟨z9,rfl,qa Tryz.infoBlock⟩
 have p:Hid (D.look a=b):=by show D.look a=b;unfold Dk.look;rw [az (by omega),d]
 have c:Hid (zW b):=by rw [d];exact zI
 clear d;have t:=h.c0;have z:=h.c3;have u:=h.fz 3;have A:=h.lt bd h.bdS;have f:Hid _:=qc Tryz.infoBlock;obtain⟨r,x⟩:=q;have m:Hid _:=h.set_reads (D.reads+1)
 have o:Hid (zn ((w.setCell ⟨bd,3,none⟩ (.int .i64 (D.reads+1))).alloc (.cells b.toArray 131)) bd S {D with reads:=D.reads+1} i l bc j):=
  m.kept (Kept.alloc (λ_=>False) _ _) nF
 have n:Hid (Kept (λk=>k=bd) w ((w.setCell ⟨bd,3,none⟩ (.int .i64 (D.reads+1))).alloc (.cells b.toArray 131))):=
  (Kept.setCell (S:=λk=>k=bd) w _ _ rfl).trans (Kept.alloc _ _ _) iL
 clear h m;rcases g with g|g
 .go_enter Tryz.func81,Tryz.ntmps81;go_wp2_with (refine zi rfl 131 (.tmp 4) (.tmp 26) rfl _ _ b (by simp) rfl rfl (by rw [c.1];exact f) (by simp) c.2 ?_);refine bodyPost_ret (v:=.agg b.toArray) (results_cell_row Tryz.results81 _ _ w.heap.size 131 _ (0,0) _ rfl (by have:=heap_alloc_new (w.setCell ⟨bd,3,none⟩ (.int .i64 (D.reads+1))) (.cells b.toArray 131);simpa using this) Tryz.underlying131 rfl (by rw [aw,c.1];exact f)) rfl ⟨by rw [p.out],o,n⟩
 .go_enter Tryz.func81,Tryz.ntmps81;go_wp2_with (refine zi rfl 131 (.tmp 4) (.tmp 26) rfl _ _ b (by simp) rfl rfl (by rw [c.1];exact f) (by simp) c.2 ?_);refine bodyPost_ret (v:=.agg b.toArray) (results_cell_row Tryz.results81 _ _ w.heap.size 131 _ (0,0) _ rfl (by have:=heap_alloc_new (w.setCell ⟨bd,3,none⟩ (.int .i64 (D.reads+1))) (.cells b.toArray 131);simpa using this) Tryz.underlying131 rfl (by rw [aw,c.1];exact f)) rfl ⟨by rw [p.out],o,n⟩
theorem kg(w:World)(bd:Nat)(S:Nat->Prop)(D:Dk)(h:ze w bd S D)(a:Int)(o:zs a)(f:0<=D.reads)(g:D.reads<=4611686018427387904):
 Calls Tryz.prog 81 #[.pointer (some ⟨bd,0,none⟩),.int .i64 a] w λe w'=>
  e=.returned (.agg (D.look a).toArray)/\ze w' bd S {D with reads:=D.reads+1}/\Kept (λk=>k=bd) w w':=by
 obtain⟨c,d,bc,b,h⟩:=h;by_cases n:a<0\/D.bs.length<=a;.exact(Gh w bd S D c d bc b h a o n f g).mono λe w' ⟨m,j,l⟩=>⟨m,⟨c,d,bc,b,j⟩,l⟩
 .obtain⟨i,rfl⟩:∃i:Nat,a=i:=⟨a.toNat,by omega⟩;exact(DP w bd S D c d bc b h i (by omega) f g).mono λe w' ⟨m,j,l⟩=>⟨m,⟨c,d,bc,b,j⟩,l⟩
end disk
namespace prog
open Go.ChangeShapes Go.WideShapes Go.ChangeAt Go.RowKit disk ref
open keys (zg zd zq zl)
variable {w:World}{bc bd cap:Nat}{T:Nat->Prop}{a:Option Addr}
structure Ck where
 ws:List (Nat×List Value)
 full:Bool
structure qO (w:World) (bc bd:Nat) (T:Nat->Prop) (C:Ck) (a:Option Addr) (cap:Nat):Prop where
 ok:∀p∈C.ws,zW p.2
 head:w.heap[bc]? =some (.cells #[.pointer (some ⟨bd,0,none⟩),.slice a C.ws.length cap,.bool C.full] 197 (0,0))
 row:w.ownsRow 0 160 129 (.slice a C.ws.length cap) C.ws.length (C.ws.map zR).flatten
 own:∀k,T k↔(k=bc\/(Value.slice a C.ws.length cap).ownBlock=some k)
 ap:(Value.slice a C.ws.length cap).ownBlock≠some bc
 few:C.ws.length<=1000
theorem qO.bcT{C:Ck}(h:qO w bc bd T C a cap):T bc:=(h.own bc).2 (.inl rfl)
theorem qO.lt{C:Ck}(h:qO w bc bd T C a cap):∀k,T k->k<w.heap.size:=λk c=>by
 rcases (h.own k).1 c with rfl|b;.exact(lT h.head)
 .exact(h.row.lt k b).2
theorem qO.kept{w':World}{X:Nat->Prop}{C:Ck}(h:qO w bc bd T C a cap)(k:Kept X w w')(b:∀i,T i->¬X i):qO w' bc bd T C a cap:=by
 refine⟨h.ok,?_,k.owns h.row (λi c=>b i ((h.own i).2 (.inr c))),h.own,h.ap,h.few⟩;rw [k.block bc (h.lt bc h.bcT) (b bc h.bcT)];exact h.head
theorem qO.c0{C:Ck}(h:qO w bc bd T C a cap):w.cell? ⟨bc,0,none⟩=some (.pointer (some ⟨bd,0,none⟩)):=cR h.head rfl
theorem qO.c1{C:Ck}(h:qO w bc bd T C a cap):w.cell? ⟨bc,1,none⟩=some (.slice a C.ws.length cap):=cR h.head rfl
theorem qO.c2{C:Ck}(h:qO w bc bd T C a cap):w.cell? ⟨bc,2,none⟩=some (.bool C.full):=cR h.head rfl
theorem qO.fz{C:Ck}(h:qO w bc bd T C a cap)(i:Nat):w.frozen? ⟨bc,i,none⟩=false:=aa w bc i _ _ h.head
theorem qO.rowAt{C:Ck}(h:qO w bc bd T C a cap)(f:0<C.ws.length):∃g,a=some ⟨g,0,none⟩:=by
 rcases h.row.2 with⟨_,e⟩|⟨g,c,d,b,_⟩;.omega
 .cases b;exact⟨g,rfl⟩
theorem qO.wlen{C:Ck}(h:qO w bc bd T C a cap):∀b∈C.ws.map zR,b.length=129:=λb d=>by
 obtain⟨p,c,rfl⟩:=av.1 d;simp [zR,(h.ok p c).1]
theorem qO.range{C:Ck}{g:Nat}(h:qO w bc bd T C (some ⟨g,0,none⟩) cap)(i:Nat)(b:i<C.ws.length):w.rangeAt g (i*129) (.int .i64 (C.ws[i].1:Int)::C.ws[i].2):=by
 have a:=h.row;rw [show C.ws.length=(C.ws.map zR).length from by simp] at a;have:=q9 a h.wlen i (by simpa using b);simpa [zR] using this
def Chg(w:World)(bc bd:Nat)(T:Nat->Prop)(C:Ck):Prop:=∃a cap,qO w bc bd T C a cap
theorem Chg.kept{w':World}{X:Nat->Prop}{C:Ck}(h:Chg w bc bd T C)(k:Kept X w w')(b:∀i,T i->¬X i):Chg w' bc bd T C:=by
 obtain⟨a,cap,h⟩:=h;exact⟨a,cap,h.kept k b⟩
theorem Chg.lt{C:Ck}(h:Chg w bc bd T C):∀k,T k->k<w.heap.size:=by
 obtain⟨a,cap,h⟩:=h;exact h.lt
def yy(ws:List (Nat×List Value))(i:Int):Option Nat:=ws.findIdx? λp=>decide ((p.1:Int)=i)
def BD:Option Nat->Int
 |some k=>k
 |none=> -1
theorem Tryz.infoCw:(Tryz.prog.info? 160).map (λi=>(i.zero,i.size,i.bytes))=some (some (.agg yN.toArray),129,136):=by kernel_rfl
theorem Qh{ws:List (Nat×List Value)}{i:Int}{k:Nat}(c:k<ws.length)(d:∀j (a:j<ws.length),j<k->¬(ws[j].1:Int)=i)(b:(ws[k].1:Int)=i):yy ws i=some k:=by
 unfold yy;rw [ic];exact⟨c,by simpa using b,λj a=>by simpa using d j (by omega) a⟩
theorem Y5{ws:List (Nat×List Value)}{i:Int}(c:∀j (a:j<ws.length),¬(ws[j].1:Int)=i):yy ws i=none:=by
 unfold yy;rw [iE];intro p b;obtain⟨j,a,rfl⟩:=ei b;simpa using c j a
theorem xN(w:World)(bc bd:Nat)(T:Nat->Prop)(C:Ck)(a:Option Addr)(cap:Nat)(h:qO w bc bd T C a cap)(i:Int):
 Calls Tryz.prog 172 #[.pointer (some ⟨bc,0,none⟩),.int .i64 i] w λe w'=>e=.returned (.int .i64 (BD (yy C.ws i)))/\Kept (λ_=>False) w w':=by
 obtain⟨r,x,J⟩:∃r:List Value,r=yN/\∀w,(zeroValue 160).run Tryz.prog w=.ok (.agg r.toArray) w:=⟨yN,rfl,qa Tryz.infoCw⟩;have v:Hid (r.length=129):=by rw [x];exact et (· +1) zI.1
 clear x;have m:Hid _:=qc Tryz.infoCw;have K:=h.c1;have I:=h.few;have A:Hid _:=h;clear h;go_enter Tryz.func172,Tryz.ntmps172;go_wp2;go_loopw [12] (λt wr=>∃k:Nat,k<=C.ws.length/\t=.int .i64 k/\(∀j (l:j<C.ws.length),j<k->¬(C.ws[j].1:Int)=i)/\Kept (λ_=>False) w wr) (λt _=>C.ws.length-(intOf t).toNat)
 case atStart=>exact⟨0,ai _,rfl,λ_ _ h=>by omega,Kept.refl _ _⟩
 case round=>
  obtain⟨k,L,rfl,p,c⟩:=hrel;change Hid _ at p c;by_cases n:k<C.ws.length
  .obtain⟨g,rfl⟩:=A.rowAt (by omega);have D:Hid _:=(A.kept c.out nF).range k n;have b:Hid (zW C.ws[k].2):=A.ok _ (ag n)
   have F:Hid (∀j (l:j<C.ws.length),j<k+1->¬(C.ws[k].1:Int)=i->¬(C.ws[j].1:Int)=i):=λj l u B=>by
    by_cases e:j=k;.subst e;exact B
    .exact p.out j l (by omega)
   have s:Hid ((C.ws[k].1:Int)=i->yy C.ws i=some k):=λH=>Qh n p.out H;generalize G:C.ws[k]=q at*;obtain⟨f,o⟩:=q;clear G;simp only at F s;have y:Hid (Kept (λ_=>False) w (wr.alloc (.cells (.int .i64 (f:Int)::o).toArray 160))):=c.trans (Kept.alloc _ _ _) iL;by_cases d:(f:Int)=i
   .have E:((f:Int)==i)=true:=by simp [d]
    have z:Hid _:=d;clear d
    go_wp2_with (first
     |(show wpList _ _ _ ({dst:=some 16,op:=.load _ _,type:=_,pos:=_,after:=_,guard:=_}::_) _ _;refine wpList_load_mid rfl 160 (.tmp 15) rfl _ _ rfl (.int .i64 (f:Int)::o) _ D.out Tryz.underlying160 rfl (by rw [ae,b.1];exact m.out) ?_)
     |(show wpList _ _ _ ({dst:=none,op:=.store _ _ _,type:=_,pos:=_,after:=_,guard:=_}::_) _ _;refine zi rfl 160 (.tmp 6) (.tmp 16) rfl _ _ (.int .i64 (f:Int)::o) rfl rfl rfl (by rw [ae,b.1];exact m.out) (by rw [ae,b.1];simpa using v.out) (aZ.2 ⟨rfl,b.2⟩) ?_))
    go_ret;exact⟨by rw [s.out z.out];rfl,y.out⟩
   .have E:((f:Int)==i)=false:=by simpa using d
    have z:Hid _:=d;clear d
    go_wp2_with (first
     |(show wpList _ _ _ ({dst:=some 16,op:=.load _ _,type:=_,pos:=_,after:=_,guard:=_}::_) _ _;refine wpList_load_mid rfl 160 (.tmp 15) rfl _ _ rfl (.int .i64 (f:Int)::o) _ D.out Tryz.underlying160 rfl (by rw [ae,b.1];exact m.out) ?_)
     |(show wpList _ _ _ ({dst:=none,op:=.store _ _ _,type:=_,pos:=_,after:=_,guard:=_}::_) _ _;refine zi rfl 160 (.tmp 6) (.tmp 16) rfl _ _ (.int .i64 (f:Int)::o) rfl rfl rfl (by rw [ae,b.1];exact m.out) (by rw [ae,b.1];simpa using v.out) (aZ.2 ⟨rfl,b.2⟩) ?_))
    go_roundw
    case rel=>exact⟨k+1,by omega,by go_num,λj l u=>F.out j l u z.out,y.out⟩
    case measure=>simp [intOf];omega
  .have s:Hid _:=Y5 (λj l=>p.out j l (by omega));go_wp2;go_ret;exact⟨by rw [s.out];rfl,c.out⟩
theorem cy(w:World)(bc bd:Nat)(T:Nat->Prop)(C:Ck)(h:Chg w bc bd T C):
 Calls Tryz.prog 139 #[.pointer (some ⟨bc,0,none⟩)] w λe w'=>e=.returned (.bool (C.full||decide (18<C.ws.length)))/\w'=w:=by
 obtain⟨a,cap,h⟩:=h;have f:=h.c1;have b:=h.c2;have d:=h.few;clear h;cases c:C.full
 .rw [c] at b;go_enter Tryz.func139,Tryz.ntmps139;go_wp2;go_ret;exact⟨zd (by simp;omega),rfl⟩
 .rw [c] at b;go_enter Tryz.func139,Tryz.ntmps139;go_wp2;go_ret;exact⟨zd (by simp),rfl⟩
theorem Qi(w:World)(bd:Nat)(b:bd<w.heap.size):
 Calls Tryz.prog 73 #[.pointer (some ⟨bd,0,none⟩)] w λe w'=>e=.returned (.pointer (some ⟨w.heap.size,0,none⟩))/\Chg w' w.heap.size bd (λk=>k=w.heap.size) ⟨[],false⟩/\Kept (λ_=>False) w w':=by
 go_enter Tryz.func73,Tryz.ntmps73;go_wp2;go_ret;refine⟨rfl,⟨none,0,λp a=>(by cases a),?_,aP _ 0 160 129,λk=>by simp [Value.ownBlock],by simp [Value.ownBlock],by simp⟩,Kept.alloc _ _ _⟩;exact heap_alloc_new w _
end prog
end Go.Proofs.YtcoengihaobddaaGreatDoor
