/- Part 16 of 36 of a proof: Tree1, Tree2, Tree3, Tree4, Tree5, Tree6, Tree7 -/
import Derived.Test.YtcoengihaobddaaGreatDoorJc15
import Derived.Lib.Bytealg
import Derived.Laws.IdiomStrings
import Derived.Deep.RegionWith
import Derived.Shelf.Abstract
import Derived.Lib.BufferWrite
set_option maxHeartbeats 8000000
set_option linter.unusedVariables false
set_option linter.unusedSimpArgs false
set_option maxRecDepth 8000
namespace Go.Proofs.YtcoengihaobddaaGreatDoor
namespace prog
open Go.ChangeShapes Go.WideShapes Go.ChangeAt Go.RowKit disk ref
open keys (zh ze zy zs)
variable {w:World}{P:Nat->Prop}{a:Option Addr}{es:List En}{l:List UInt8}{b:UInt8}
def Ki(a b:ByteArray):Int:=if qw a b then -1 else if qw b a then 1 else 0
theorem cmpL:∀a b:List UInt8,Lib.compareBytes a b=if qC a b then -1 else if qC b a then 1 else 0
 |[],[]=>by simp [Lib.compareBytes,qC]
 |[],_::_=>by simp [Lib.compareBytes,qC]
 |_::_,[]=>by simp [Lib.compareBytes,qC]
 |a::l,b::r=>by
  have d:=cmpL l r;unfold Lib.compareBytes qC;by_cases c:a<b
  .have:a≠b:=UInt8.ne_of_lt c;simp [c,this]
  .by_cases h2:b<a
   .have:a≠b:=(UInt8.ne_of_lt h2).symm;have f:b≠a:=this.symm;simp [c,h2,this,f]
   .have e:a=b:=by
     rw [lB] at c h2;exact lK.1 (by omega)
    subst e;simp [c,d]
theorem UU(a b:ByteArray):Lib.compareBytes a.data.toList b.data.toList=Ki a b:=cmpL _ _
theorem ck(a b:ByteArray)(w:World):Calls Tryz.prog 211 #[.string a,.string b] w λe w'=>e=.returned (.int .i64 (Ki a b))/\w'=w:=by
 go_enter Tryz.func211,Tryz.ntmps211;go_wp2;rw [run_callFunc_extern Tryz.func217 (by kernel_rfl) (by kernel_rfl) (by kernel_rfl) (e:=Extern.BytealgCompare.compare) (by kernel_rfl),Lib.run_compareString];simp only [Result.andThen];rw [Oper.upon_value];go_wp2;go_ret;exact⟨zh (UU a b),rfl⟩
theorem dK(a b:ByteArray)(w:World):Calls Tryz.prog 204 #[.string a,.string b] w λe w'=>e=.returned (.int .i64 (Ki a b))/\w'=w:=by
 go_enter Tryz.func204,Tryz.ntmps204;go_wp2_with (go_at_call 211;refine(ck _ _ _).mono ?_;rintro e w' ⟨rfl,rfl⟩);go_ret;exact⟨rfl,rfl⟩
def VE(x y:Int):Int:=if x<y then -1 else if y<x then 1 else 0
theorem Kj(a:Int)(w:World):Calls Tryz.prog 212 #[.int .i64 a] w λe w'=>e=.returned (.bool false)/\w'=w:=by
 go_enter Tryz.func212,Tryz.ntmps212;go_wp2;go_ret;exact⟨rfl,rfl⟩
theorem Xq(b a:Int)(w:World):Calls Tryz.prog 205 #[.int .i64 b,.int .i64 a] w λe w'=>e=.returned (.int .i64 (VE b a))/\w'=w:=by
 go_enter Tryz.func205,Tryz.ntmps205;go_wp2_with (go_at_call 212;refine(Kj _ _).mono ?_;rintro e w' ⟨rfl,rfl⟩)
 all_goals
  go_ret;refine⟨zh ?_,rfl⟩;unfold VE
  (repeat' split)<;>omega
def Dd(x y:Int):Int:=if x=0 then y else x
theorem Kk(w:World)(b:Nat)(f c:Int)(l:w.cell? ⟨b,0,none⟩=some (.int .i64 f))(n:w.cell? ⟨b,1,none⟩=some (.int .i64 c)):
 Calls Tryz.prog 203 #[.slice (some ⟨b,0,none⟩) 2 2] w λe w'=>e=.returned (.int .i64 (Dd f c))/\w'=w:=by
 go_enter Tryz.func203,Tryz.ntmps203;go_wp2;go_loop [8] (λt=>∃k:Nat,k<=2/\t=.int .i64 k/\(1<=k->f=0)/\(2<=k->c=0)) (λt=>2-(intOf t).toNat)
 case atStart=>exact⟨0,by omega,rfl,by omega,by omega⟩
 case round=>
  obtain⟨k,m,rfl,d,i⟩:=hrel;rcases (by omega:k=0\/k=1\/k=2) with rfl|rfl|rfl
  .by_cases h:f=0
   .subst h;go_wp2;go_round
    case rel=>exact⟨1,by omega,by go_num,by simp,by omega⟩
    case measure=>simp [intOf]
   .have h2:(f !=0)=true:=by simpa using h
    have j:Hid _:=h;go_wp2;go_ret;exact⟨zh (aw j.out).symm,rfl⟩
  .have a:=d (by omega);subst a;by_cases h:c=0
   .subst h;go_wp2;go_round
    case rel=>exact⟨2,by omega,by go_num,by simp,by simp⟩
    case measure=>simp [intOf]
   .have h2:(c !=0)=true:=by simpa using h
    go_wp2;go_ret;exact⟨zh (aB rfl).symm,rfl⟩
  .have a:=d (by omega);have g:=i (by omega);subst a;subst g;go_wp2;go_ret;exact⟨rfl,rfl⟩
def dL(a b:Pl):Int:=Dd (Ki a.key b.key) (VE b.num a.num)
theorem VF(a b:Pl):dL a b<0↔a.lt b=true:=by
 unfold dL Dd Ki VE;rw [Pl.lt_iff];cases f:qw a.key b.key
 .cases h2:qw b.key a.key
  .have e:a.key=b.key:=by
    by_cases e:a.key=b.key;.exact e
    .have:=yT e f;rw [h2] at this;cases this
   simp [e];by_cases c:b.num<a.num;.simp [c]
   .by_cases d:a.num<b.num;.simp [c,d]
    .simp [c,d]
  .have e:a.key≠b.key:=λe=>by rw [e,yE] at h2;cases h2
   simp [e]
 .simp
def Dv(a:Pl):Value:=.agg #[.string a.key,.int .i64 a.num]
theorem ZN(w:World)(a b:Pl):Calls Tryz.prog 197 #[.agg #[.string a.key,.int .i64 a.num],.agg #[.string b.key,.int .i64 b.num]] w λe w'=>e=.returned (.int .i64 (dL a b))/\za (λ_=>False) w w':=by
 go_enter Tryz.func197,Tryz.ntmps197;go_wp2;have f:((w.alloc (.cells #[.string a.key,.int .i64 a.num] 107)).alloc (.cells #[.string b.key,.int .i64 b.num] 107)).cell? ⟨w.heap.size,0,none⟩=some (.string a.key):=by simp
 have d:((w.alloc (.cells #[.string a.key,.int .i64 a.num] 107)).alloc (.cells #[.string b.key,.int .i64 b.num] 107)).cell? ⟨w.heap.size,1,none⟩=some (.int .i64 a.num):=by simp
 have h:((w.alloc (.cells #[.string a.key,.int .i64 a.num] 107)).alloc (.cells #[.string b.key,.int .i64 b.num] 107)).cell? ⟨w.heap.size+1,0,none⟩=some (.string b.key):=by simp
 have g:((w.alloc (.cells #[.string a.key,.int .i64 a.num] 107)).alloc (.cells #[.string b.key,.int .i64 b.num] 107)).cell? ⟨w.heap.size+1,1,none⟩=some (.int .i64 b.num):=by simp
 have c:Hid (za (λ_=>False) w ((w.alloc (.cells #[.string a.key,.int .i64 a.num] 107)).alloc (.cells #[.string b.key,.int .i64 b.num] 107))):=(za.alloc _ _ _).trans (za.alloc _ _ _) iL;generalize ((w.alloc (.cells #[.string a.key,.int .i64 a.num] 107)).alloc (.cells #[.string b.key,.int .i64 b.num] 107))=i at*
 go_region_held3 (λw'=>w'.cell? ⟨w.heap.size,0,none⟩=some (.string a.key)/\w'.cell? ⟨w.heap.size,1,none⟩=some (.int .i64 a.num)/\w'.cell? ⟨w.heap.size+1,0,none⟩=some (.string b.key)/\w'.cell? ⟨w.heap.size+1,1,none⟩=some (.int .i64 b.num)) (go_keep) ((first
  |(go_at_call 204;refine(dK _ _ _).mono ?_;rintro e w' ⟨rfl,rfl⟩)
  |(go_at_call 205;refine(Xq _ _ _).mono ?_;rintro e w' ⟨rfl,rfl⟩)
  |(go_at_call 203;refine(Kk _ _ (Ki a.key b.key) (VE b.num a.num) (by simp) (by simp)).mono ?_;rintro e w' ⟨rfl,rfl⟩)))
 all_goals
  go_wp2;go_ret;exact⟨rfl,(c.out.trans (za.alloc (λ_=>False) i _) iL).trans (za.drew (λ_=>False) _) iL⟩
def qt(e:En):List Value:=[.string e.pl.key,.int .i64 e.pl.num,.bool e.mark,.int .i64 (e.size:Int),.int .i64 (e.at_:Int)]
structure qg (w:World) (P:Nat->Prop) (a:Option Addr) (es:List En):Prop where
 at_:es=[]\/∃g o,a=some ⟨g,o,none⟩/\P g/\g<w.heap.size/\∀k (hk:k<es.length),w.rangeAt g (o+k*5) (qt es[k])
 few:es.length<=1000
theorem qg.kept{w':World}{X:Nat->Prop}(h:qg w P a es)(k:za X w w')(l:∀i,P i->¬X i):qg w' P a es:=
 ⟨h.at_.imp id (λ⟨g,m,f,h2,b,e⟩=>⟨g,m,f,h2,ay b k.size,λj c t v d=>(k.cell (a:=⟨g,m+j*5+t,none⟩) b (l g h2)).trans (e j c t v d)⟩),h.few⟩
theorem qg.cells{g c:Nat}(h:qg w P (some ⟨g,c,none⟩) es)(k:Nat)(b:k<es.length):
 w.cell? ⟨g,c+k*5,none⟩=some (.string es[k].pl.key)/\w.cell? ⟨g,c+k*5+1,none⟩=some (.int .i64 es[k].pl.num)/\w.cell? ⟨g,c+k*5+2,none⟩=some (.bool es[k].mark)/\w.cell? ⟨g,c+k*5+3,none⟩=some (.int .i64 (es[k].size:Int))/\w.cell? ⟨g,c+k*5+4,none⟩=some (.int .i64 (es[k].at_:Int))/\P g/\g<w.heap.size:=by
 rcases h.at_ with f|⟨j,l,e,h2,i,d⟩;.rw [f] at b;simp at b
 .cases e;have a:=d k b;exact⟨a 0 _ rfl,a 1 _ rfl,a 2 _ rfl,a 3 _ rfl,a 4 _ rfl,h2,i⟩
theorem qg.base(h:qg w P a es)(b:0<es.length):∃g e,a=some ⟨g,e,none⟩:=by
 rcases h.at_ with d|⟨g,e,c,_⟩;.rw [d] at b;simp at b
 .exact⟨g,e,c⟩
theorem gH(w:World)(e:En)(p:Pl):Calls Tryz.prog 196 #[.agg #[.string e.pl.key,.int .i64 e.pl.num,.bool e.mark,.int .i64 (e.size:Int),.int .i64 (e.at_:Int)],.agg #[.string p.key,.int .i64 p.num]] w λr w'=>r=.returned (.int .i64 (dL e.pl p))/\za (λ_=>False) w w':=by
 go_enter Tryz.func196,Tryz.ntmps196;go_wp2_with (go_at_call 197;refine(ZN _ e.pl p).mono ?_;rintro r b ⟨rfl,a⟩;change Hid _ at a);go_ret;exact⟨rfl,((za.alloc (λ_=>False) w _).trans (za.alloc _ _ _) iL).trans a iL⟩
theorem cn(w:World)(P:Nat->Prop)(a:Option Addr)(R:Nat)(es:List En)(h:qg w P a es)(V:yO es)(p:Pl):
 Calls Tryz.prog 195 #[.slice a es.length R,.agg #[.string p.key,.int .i64 p.num],.func (.func 196) #[] #[]] w λr w'=>(∃f,r=.returned (.tuple #[.int .i64 (zt es p:Nat),.bool f]))/\za (λ_=>False) w w':=by
 have D:Hid _:=h;have ae:Hid (yO es):=V;have af:=h.few;have U:=xW es p;have W:Hid (za (λ_=>False) w (w.alloc (.cells #[.string p.key,.int .i64 p.num] 107))):=za.alloc _ _ _;clear h V;go_enter Tryz.func195,Tryz.ntmps195;go_wp2;have N:Hid ((w.alloc (.cells #[.string p.key,.int .i64 p.num] 107)).heap[w.heap.size]? =some (.cells #[.string p.key,.int .i64 p.num] 107 (0,0))):=ac w _;have aj:(w.alloc (.cells #[.string p.key,.int .i64 p.num] 107)).heap.size=w.heap.size+1:=by simp
 generalize (w.alloc (.cells #[.string p.key,.int .i64 p.num] 107))=ak at*;go_loopw [9,10] (λab ad wr=>∃i j:Nat,i<=zt es p/\zt es p<=j/\j<=es.length/\ab=.int .i64 i/\ad=.int .i64 j/\za (λ_=>False) ak wr) (λab ad _=>(intOf ad-intOf ab).toNat)
 case atStart=>exact⟨0,es.length,by omega,U,by omega,rfl,rfl,za.refl _ _⟩
 case round=>
  obtain⟨i,j,al,am,ah,rfl,rfl,n⟩:=hrel;have s:Hid _:=W.trans n iL;have t:=(n.block w.heap.size (by omega) (λd=>d)).trans N.out;have x:wr.cell? ⟨w.heap.size,0,none⟩=some (.string p.key):=cR t rfl;have u:wr.cell? ⟨w.heap.size,1,none⟩=some (.int .i64 p.num):=cR t rfl;have o:=(lT t);change Hid _ at n;clear t;by_cases ag:i<j
  .obtain⟨g,l,rfl⟩:=D.base (by omega);have X:(i+j)/2<es.length:=by omega
   obtain⟨E,z,B,C,A,Z,k⟩:=(D.kept s nF).cells ((i+j)/2) X
   have F:Hid (dL es[(i+j)/2].pl p<0↔(i+j)/2<zt es p):=by show dL es[(i+j)/2].pl p<0↔(i+j)/2<zt es p;rw [VF,ae.at_lt p _ X];simp
   generalize v:(i+j)/2=m at*;generalize es[m]=e at*;have ai:((i:Int)+(j:Int))/2=(m:Int):=by omega
   change Hid _ at v;have G:(m:Int)<(es.length:Int):=by omega
   by_cases y:dL e.pl p<0
   .have H:Hid _:=F.1 y;go_wp2;go_region_held3 (λw'=>w'.cell? ⟨g,l+m*5,none⟩=some (.string e.pl.key)/\w'.cell? ⟨g,l+m*5+1,none⟩=some (.int .i64 e.pl.num)/\w'.cell? ⟨g,l+m*5+2,none⟩=some (.bool e.mark)/\w'.cell? ⟨g,l+m*5+3,none⟩=some (.int .i64 (e.size:Int))/\w'.cell? ⟨g,l+m*5+4,none⟩=some (.int .i64 (e.at_:Int))/\w'.cell? ⟨w.heap.size,0,none⟩=some (.string p.key)/\w'.cell? ⟨w.heap.size,1,none⟩=some (.int .i64 p.num)) (go_keep) ((go_at_call 196;refine(gH _ e p).mono ?_;rintro r K ⟨rfl,c⟩;have q:Hid _:=c;have S:=(c.cell (a:=⟨g,l+m*5,none⟩) k (λd=>d)).trans E;have Q:=(c.cell (a:=⟨g,l+m*5+1,none⟩) k (λd=>d)).trans z;have J:=(c.cell (a:=⟨g,l+m*5+2,none⟩) k (λd=>d)).trans B;have L:=(c.cell (a:=⟨g,l+m*5+3,none⟩) k (λd=>d)).trans C;have Y:=(c.cell (a:=⟨g,l+m*5+4,none⟩) k (λd=>d)).trans A;have M:=(c.cell (a:=⟨w.heap.size,0,none⟩) o (λd=>d)).trans x;have O:=(c.cell (a:=⟨w.heap.size,1,none⟩) o (λd=>d)).trans u;clear c))
    all_goals
     go_wp2;go_roundw
     case rel=>exact⟨m+1,j,by have:=H.out;omega,by omega,by omega,by go_num,rfl,n.trans (za.trans (b:=wr.drew) (za.drew _ _) q iL) iL⟩
     case measure=>have:=v.out;simp only [intOf];omega
   .have H:Hid _:=mD (mt F.2 y);go_wp2;go_region_held3 (λw'=>w'.cell? ⟨g,l+m*5,none⟩=some (.string e.pl.key)/\w'.cell? ⟨g,l+m*5+1,none⟩=some (.int .i64 e.pl.num)/\w'.cell? ⟨g,l+m*5+2,none⟩=some (.bool e.mark)/\w'.cell? ⟨g,l+m*5+3,none⟩=some (.int .i64 (e.size:Int))/\w'.cell? ⟨g,l+m*5+4,none⟩=some (.int .i64 (e.at_:Int))/\w'.cell? ⟨w.heap.size,0,none⟩=some (.string p.key)/\w'.cell? ⟨w.heap.size,1,none⟩=some (.int .i64 p.num)) (go_keep) ((go_at_call 196;refine(gH _ e p).mono ?_;rintro r K ⟨rfl,c⟩;have q:Hid _:=c;have S:=(c.cell (a:=⟨g,l+m*5,none⟩) k (λd=>d)).trans E;have Q:=(c.cell (a:=⟨g,l+m*5+1,none⟩) k (λd=>d)).trans z;have J:=(c.cell (a:=⟨g,l+m*5+2,none⟩) k (λd=>d)).trans B;have L:=(c.cell (a:=⟨g,l+m*5+3,none⟩) k (λd=>d)).trans C;have Y:=(c.cell (a:=⟨g,l+m*5+4,none⟩) k (λd=>d)).trans A;have M:=(c.cell (a:=⟨w.heap.size,0,none⟩) o (λd=>d)).trans x;have O:=(c.cell (a:=⟨w.heap.size,1,none⟩) o (λd=>d)).trans u;clear c))
    all_goals
     go_wp2;go_roundw
     case rel=>exact⟨i,m,by omega,by have:=H.out;omega,by omega,rfl,rfl,n.trans (za.trans (b:=wr.drew) (za.drew _ _) q iL) iL⟩
     case measure=>have:=v.out;simp only [intOf];omega
  .have I:i=zt es p:=by omega
   have aa:Hid _:=I;by_cases T:i<es.length
   .obtain⟨g,l,rfl⟩:=D.base (by omega);obtain⟨E,z,B,C,A,Z,k⟩:=(D.kept s nF).cells i T;generalize es[i]=e at*;have G:(i:Int)<(es.length:Int):=by omega
    clear I;go_wp2;go_region_held3 (λw'=>w'.cell? ⟨g,l+i*5,none⟩=some (.string e.pl.key)/\w'.cell? ⟨g,l+i*5+1,none⟩=some (.int .i64 e.pl.num)/\w'.cell? ⟨g,l+i*5+2,none⟩=some (.bool e.mark)/\w'.cell? ⟨g,l+i*5+3,none⟩=some (.int .i64 (e.size:Int))/\w'.cell? ⟨g,l+i*5+4,none⟩=some (.int .i64 (e.at_:Int))/\w'.cell? ⟨w.heap.size,0,none⟩=some (.string p.key)/\w'.cell? ⟨w.heap.size,1,none⟩=some (.int .i64 p.num)) (go_keep) ((go_at_call 196;refine(gH _ e p).mono ?_;rintro r K ⟨rfl,c⟩;have q:Hid _:=c;have S:=(c.cell (a:=⟨g,l+i*5,none⟩) k (λd=>d)).trans E;have Q:=(c.cell (a:=⟨g,l+i*5+1,none⟩) k (λd=>d)).trans z;have J:=(c.cell (a:=⟨g,l+i*5+2,none⟩) k (λd=>d)).trans B;have L:=(c.cell (a:=⟨g,l+i*5+3,none⟩) k (λd=>d)).trans C;have Y:=(c.cell (a:=⟨g,l+i*5+4,none⟩) k (λd=>d)).trans A;have M:=(c.cell (a:=⟨w.heap.size,0,none⟩) o (λd=>d)).trans x;have O:=(c.cell (a:=⟨w.heap.size,1,none⟩) o (λd=>d)).trans u;clear c))
    all_goals
     go_wp2;go_ret2;exact⟨⟨_,by rw [<-aa.out];rfl⟩,s.trans (za.trans (b:=wr.drew) (za.drew _ _) q iL) iL⟩
   .have G:=decide_eq_false (by omega);clear I;go_wp2;go_quiet (fail);go_wp2;go_ret2;exact⟨⟨_,by rw [<-aa.out];rfl⟩,s.trans (S':=λ_=>False) kD iL⟩
theorem za.alloc2(w:World)(b a:Obj):za (λ_=>False) w ((w.alloc b).alloc a):=(za.alloc _ _ _).trans (za.alloc _ _ _) iL
theorem jw(w:World)(P:Nat->Prop)(a:Option Addr)(b:Nat)(es:List En)(h:qg w P a es)(e:yO es)(k:Int)(p:Pl):
 Calls Tryz.prog 175 #[.agg #[.int .u8 k,.slice a es.length b],.agg #[.string p.key,.int .i64 p.num]] w λr w'=>r=.returned (.int .i64 (zt es p:Nat))/\za (λ_=>False) w w':=by
 have g:Hid _:=h;change Hid _ at e;clear h;have d:Hid (za (λ_=>False) w ((w.alloc (.cells #[.int .u8 k,.slice a es.length b] 209)).alloc (.cells #[.string p.key,.int .i64 p.num] 107))):=za.alloc2 _ _ _;go_enter Tryz.func175,Tryz.ntmps175;go_wp2_with (go_at_call 195;refine(cn _ P a b es (g.kept d nF) e p).mono ?_;rintro r i ⟨⟨f,rfl⟩,c⟩;change Hid _ at c);go_ret;exact⟨rfl,d.trans c iL⟩
theorem vB(w:World)(P:Nat->Prop)(a:Option Addr)(e:Nat)(es:List En)(h:qg w P a es)(A:yO es)(k:Int)(p:Pl):
 Calls Tryz.prog 176 #[.agg #[.int .u8 k,.slice a es.length e],.agg #[.string p.key,.int .i64 p.num]] w λr w'=>r=.returned (.int .i64 (zI es p:Nat))/\za (λ_=>False) w w':=by
 have B:Hid _:=h;have F:Hid (yO es):=A;have H:=h.few;have L:=xW es p;clear h A;have n:Hid (za (λ_=>False) w ((w.alloc (.cells #[.int .u8 k,.slice a es.length e] 209)).alloc (.cells #[.string p.key,.int .i64 p.num] 107))):=za.alloc2 _ _ _;go_enter Tryz.func176,Tryz.ntmps176;go_wp2_with (go_at_call 175;refine(jw _ P a e es (B.kept n nF) F k p).mono ?_;rintro r i ⟨rfl,c⟩;have y:Hid (za (λ_=>False) _ i):=c;have K:i.cell? ⟨w.heap.size,1,none⟩=some (.slice a es.length e):=(c.cell (a:=⟨w.heap.size,1,none⟩) (by simp;omega) (λl=>l)).trans (by simp);have M:i.cell? ⟨w.heap.size+1,0,none⟩=some (.string p.key):=(c.cell (a:=⟨w.heap.size+1,0,none⟩) (by simp) (λl=>l)).trans (by simp);have J:i.cell? ⟨w.heap.size+1,1,none⟩=some (.int .i64 p.num):=(c.cell (a:=⟨w.heap.size+1,1,none⟩) (by simp) (λl=>l)).trans (by simp);have s:Hid (qg i P a es):=(B.kept n nF).kept c nF;clear c);have d:Hid (za (λ_=>False) w i):=n.trans y iL;by_cases f:zt es p<es.length
 .obtain⟨g,U,rfl⟩:=s.base (by omega);obtain⟨I,D,S,T,R,O,Q⟩:=s.cells (zt es p) f;have z:((zt es p:Nat):Int)<(es.length:Int):=by omega
  by_cases b:es[zt es p].pl=p
  .have j:Hid (zI es p=zt es p):=by show zI es p=_;unfold zI;rw [dif_pos f,aB b]
   have o:es[zt es p].pl.key=p.key:=by rw [b]
   have t:es[zt es p].pl.num=p.num:=by rw [b]
   rw [o] at I;rw [t] at D;clear b o t;generalize zt es p=m at*;go_quiet (fail);go_wp2;go_ret;exact⟨by rw [j.out];rfl,d.trans (S':=λ_=>False) kD iL⟩
  .have j:Hid (zI es p=zt es p-1):=by show zI es p=_;unfold zI;rw [dif_pos f,aw b]
   have v:¬(es[zt es p].pl.key=p.key/\es[zt es p].pl.num=p.num):=λ⟨u,h2⟩=>b (by cases G:es[zt es p].pl;cases p;rw [G] at u h2;simp only at u h2;rw [u,h2]);clear b;generalize zt es p=m at*;generalize es[m].pl.key=x at*;generalize es[m].pl.num=E at*;by_cases q:x=p.key
   .subst q;have N:(E==p.num)=false:=by simpa using v
    go_quiet (fail);go_wp2
    all_goals
     go_ret;exact⟨zh (by rw [j.out];omega),d.trans (S':=λ_=>False) kD iL⟩
   .have C:(x.toList==p.key.toList)=false:=by
     have:=mt qP.1 q;simpa using this
    go_quiet (fail);go_wp2
    all_goals
     go_ret;exact⟨zh (by rw [j.out];omega),d.trans (S':=λ_=>False) kD iL⟩
 .have j:Hid (zI es p=zt es p-1):=by show zI es p=_;unfold zI;rw [dif_neg f]
  have z:=decide_eq_false (by omega);generalize zt es p=m at*;go_quiet (fail);go_wp2
  all_goals
   go_ret;exact⟨zh (by rw [j.out];omega),d.trans (S':=λ_=>False) kD iL⟩
theorem Xr(r:ByteArray)(h:0<r.size):r.data.toList=(r.extract 0 (r.size-1)).data.toList++[r[r.size-1]]:=by
 rw [ByteArray.data_extract,Array.toList_extract];have a:r.data.toList.length=r.size:=by simp
 rw [List.extract_eq_take_drop,mo,Nat.sub_zero];have:r[r.size-1]=r.data.toList[r.size-1]'(by omega):=by simp;rfl
 rw [this,<-ao (by omega),an (by omega)]
theorem VG(h:b≠0):cut (l++[b])=l++[b]:=by
 unfold cut;rw [List.reverse_append,List.reverse_singleton,List.singleton_append,List.dropWhile_cons,aw (by simpa using h),List.reverse_cons,List.reverse_reverse]
theorem VH{m:List UInt8}(h:l=m++[b])(a:b=0):cut l=cut m:=by rw [h,a,QE]
theorem VI{m:List UInt8}(h:l=m++[b])(a:¬b=0):cut l=l:=by rw [h,VG a]
theorem ZO(w:World)(s:ByteArray)(k:s.size<=1000):
 Calls Tryz.prog 207 #[.string s,.int .u8 0] w λe w'=>(∃r:ByteArray,e=.returned (.string r)/\r.data.toList=cut s.data.toList)/\w'=w:=by
 go_enter Tryz.func207,Tryz.ntmps207;go_wp2;go_loop [0] (λt=>∃r:ByteArray,t=.string r/\cut r.data.toList=cut s.data.toList/\r.size<=1000) (λt=>match t with|.string r=>r.size|_=>0)
 case atStart=>exact⟨s,rfl,rfl,k⟩
 case round=>
  obtain⟨r,rfl,g,l⟩:=hrel;have d:Hid (cut r.data.toList=cut s.data.toList):=g;clear g;by_cases i:0<r.size
  .have b:Hid _:=Xr r i;by_cases a:r[r.size-1]=0
   .have f:((r[r.size-1].toNat:Int)==0)=true:=by rw [a];rfl
    have c:Hid _:=a;clear a;go_wp2;go_round
    case rel=>exact⟨r.extract 0 (r.size-1),rfl,by rw [<-d.out,VH b.out c.out],by simp;omega⟩
    case measure=>simp;omega
   .have f:((r[r.size-1].toNat:Int)==0)=false:=by
     have:r[r.size-1].toNat≠0:=λe=>a (lK.1 e);simp;omega
    have c:Hid (¬r[r.size-1]=0):=a;clear a;go_wp2;go_ret;exact⟨⟨r,rfl,by rw [<-d.out,VI b.out c.out]⟩,rfl⟩
  .have h:r.data.toList.length=r.size:=by simp
   have j:Hid (r.data.toList=[]):=aY (by omega);clear h;go_wp2;go_ret;exact⟨⟨r,rfl,by rw [<-d.out,j.out];rfl⟩,rfl⟩
theorem jQ(w:World)(s:ByteArray)(d:s.size<=1000):
 Calls Tryz.prog 202 #[.string s,.string ⟨#[0]⟩] w λe w'=>(∃r:ByteArray,e=.returned (.string r)/\r.data.toList=cut s.data.toList)/\w'=w:=by
 by_cases b:s.toList=[]
 .have c:Hid (s.data.toList=[]):=by show s.data.toList=[];rw [<-eC];exact b
  go_enter Tryz.func202,Tryz.ntmps202;go_wp2;go_ret;exact⟨⟨s,rfl,by rw [c.out];rfl⟩,rfl⟩
 .have g:(s.toList==[])=false:=by simpa using b
  go_enter Tryz.func202,Tryz.ntmps202;go_wp2_with (go_at_call 207;refine(ZO _ s d).mono ?_;rintro e w' ⟨⟨r,rfl,a⟩,rfl⟩;have f:Hid _:=a;clear a);go_ret;exact⟨⟨r,rfl,f.out⟩,rfl⟩
def GQ:Array Value:=#[.string ⟨#[]⟩,.int .i64 0,.bool false,.int .i64 0,.int .i64 0]
theorem QN(w:World)(b:Nat)(t:TypeId)(l:List UInt8)(h:yN w b t l)(e a:Nat)(f:e+8<=l.length)(k:List UInt8)(c:(l.drop e).take 8=k):
 (convert 35 9 (.slice (some ⟨b,e,none⟩) 8 a)).run Tryz.prog w=.ok (.string ⟨k.toArray⟩) w:=by
 have d:k.length=8:=by rw [<-c];simp;omega
 have:=run_convert_bytes_back (P:=Tryz.prog) w 35 9 5 ⟨b,e,none⟩ a k Tryz.underlying35 Tryz.underlying5 Tryz.underlying9 (λj g=>by
  rw [eO,h.cell (e+j) (by omega)];subst c
  simp)
 rw [d] at this;exact this
theorem xF(l:List UInt8)(a i n m:Nat)(h:i+n<=m):(((l.drop a).take m).drop i).take n=(l.drop (a+i)).take n:=by
 rw [ml,iu,a8 (by omega),eA]
theorem dM(w:World)(b:Nat)(t:TypeId)(l:List UInt8)(h:yN w b t l)(j d:Nat)(X:j+20<=l.length)(Q:20<=d)(e:En)(f:e.Ok)(M:(l.drop j).take 20=j8 e):
 Calls Tryz.prog 194 #[.int .u8 5,.slice (some ⟨b,j,none⟩) 20 d] w λr w'=>r=.returned (.agg (qt e).toArray)/\za (λ_=>False) w w':=by
 obtain⟨D,z,x,y⟩:=uI f (bytesOf 2 (qM e));have E:qk e++bytesOf 2 (qM e)=(l.drop j).take 20:=M.symm;rw [E] at D z x y;have H:(l.drop j).take 8=keyBytes e.pl.key:=by rw [<-D,iu];rfl
 have P:(l.drop (j+8)).take 8=bytesOf 8 e.pl.num.toNat:=by rw [<-z,xF _ _ _ _ _ (by omega)]
 have I:(l.drop (j+16)).take 2=bytesOf 2 e.at_:=by rw [<-x,xF _ _ _ _ _ (by omega)]
 have L:(l.drop (j+18)).take 2=bytesOf 2 (qM e):=by rw [<-y,ml,eA]
 have O:Hid (numOf ((l.drop (j+8)).take 8)=e.pl.num.toNat):=by show numOf ((l.drop (j+8)).take 8)=e.pl.num.toNat;have:=QG f;rw [P];omega
 have F:Hid (numOf ((l.drop (j+16)).take 2)=e.at_):=by show numOf ((l.drop (j+16)).take 2)=e.at_;rw [I];exact Jj f
 have u:Hid (numOf ((l.drop (j+18)).take 2)=qM e):=by show numOf ((l.drop (j+18)).take 2)=qM e;rw [L];exact Kg f
 have T:=f.num1;have W:=f.num0;have U:=f.at_;have V:=f.size;have p:∀(r:ByteArray),r.data.toList=cut (ByteArray.data ⟨(keyBytes e.pl.key).toArray⟩).toList->r=e.pl.key:=λr n=>vu (by rw [n];exact Ji _ f.zero)
 have m:(ByteArray.size ⟨(keyBytes e.pl.key).toArray⟩)<=1000:=by
  have:(ByteArray.size ⟨(keyBytes e.pl.key).toArray⟩)=(keyBytes e.pl.key).length:=by simp [ByteArray.size]
  rw [this,yZ _ f.key];omega
 have N:Hid (za (λ_=>False) w ((w.alloc (.cells GQ 109)).alloc (.cells GQ 109))):=za.alloc2 _ _ _;have s:=QN _ b t l (h.kept N (λC=>C)) j d (by omega) _ H;unfold GQ at s;change Hid _ at h f p m;clear D z x y E M H P I L;have q:((e.pl.num.toNat:Nat):Int)=e.pl.num:=by omega
 have G:Hid (e.mark=true->e.size=0):=f.mark;have g:∀(B:World) (K J:Obj),B=(w.alloc K).alloc J->yN B b t l:=λB K J e=>by rw [e];exact h.kept (za.alloc2 w _ _) (λC=>C)
 change Hid _ at q g
 cases i:e.mark with
 |false=>
  have A:Hid _:=i;have k:qM e=e.size:=by simp [qM,i]
  rw [k] at u;have S:((e.size:Int)==65535)=false:=by simp;omega
  clear i k;go_enter Tryz.func194,Tryz.ntmps194;go_wp2_with fail;refine(jQ _ _ m).mono ?_;rintro r c ⟨⟨r,rfl,n⟩,a⟩;rw [a];have o:=p.out r n;subst o;clear n a c;go_wp2_with fail;refine(yA _ b t l (g _ _ _ rfl) (j+8) 8 (d-8) e.pl.num.toNat (by omega) (by omega) O (by omega)).mono ?_;rintro r c ⟨rfl,a⟩;rw [a,q.out];clear a c;go_wp2_with fail;refine(yA _ b t l (g _ _ _ rfl) (j+16) 2 (d-16) e.at_ (by omega) (by omega) F (by omega)).mono ?_;rintro r c ⟨rfl,a⟩;rw [a];clear a c;go_wp2_with fail;refine(yA _ b t l (g _ _ _ rfl) (j+18) 2 (d-18) e.size (by omega) (by omega) u (by omega)).mono ?_;rintro r c ⟨rfl,a⟩;rw [a];clear a c;go_wp2;refine bodyPost_ret (v:=.agg (qt e).toArray) (results_cell_row Tryz.results194 _ _ w.heap.size 109 (qt e).toArray (0,0) _ rfl (by rw [heap_alloc2_old];unfold qt;rw [A.out]) Tryz.underlying109 rfl (by kernel_rfl)) rfl ⟨rfl,za.alloc2 _ _ _⟩
 |true=>
  have A:Hid _:=i;have k:qM e=65535:=by simp [qM,i]
  rw [k] at u;have R:Hid (e.size=0):=G.out i;clear i k;go_enter Tryz.func194,Tryz.ntmps194;go_wp2_with fail;refine(jQ _ _ m).mono ?_;rintro r c ⟨⟨r,rfl,n⟩,a⟩;rw [a];have o:=p.out r n;subst o;clear n a c;go_wp2_with fail;refine(yA _ b t l (g _ _ _ rfl) (j+8) 8 (d-8) e.pl.num.toNat (by omega) (by omega) O (by omega)).mono ?_;rintro r c ⟨rfl,a⟩;rw [a,q.out];clear a c;go_wp2_with fail;refine(yA _ b t l (g _ _ _ rfl) (j+16) 2 (d-16) e.at_ (by omega) (by omega) F (by omega)).mono ?_;rintro r c ⟨rfl,a⟩;rw [a];clear a c;go_wp2_with fail;refine(yA _ b t l (g _ _ _ rfl) (j+18) 2 (d-18) 65535 (by omega) (by omega) u (by omega)).mono ?_;rintro r c ⟨rfl,a⟩;rw [a];clear a c;go_wp2;refine bodyPost_ret (v:=.agg (qt e).toArray) (results_cell_row Tryz.results194 _ _ w.heap.size 109 (qt e).toArray (0,0) _ rfl (by rw [heap_alloc2_old];unfold qt;rw [A.out,R.out];rfl) Tryz.underlying109 rfl (by kernel_rfl)) rfl ⟨rfl,za.alloc2 _ _ _⟩
theorem gI(w:World)(b:Nat)(t:TypeId)(l:List UInt8)(h:yN w b t l)(f c:Nat)(Q:f+18<=l.length)(L:18<=c)(e:En)(a:e.Ok)(G:(l.drop f).take 18=qk e)(I:e.mark=false)(F:e.size=0):
 Calls Tryz.prog 194 #[.int .u8 4,.slice (some ⟨b,f,none⟩) 18 c] w λr w'=>r=.returned (.agg (qt e).toArray)/\za (λ_=>False) w w':=by
 obtain⟨x,q,p,z⟩:=uI a [];have y:qk e++[]=(l.drop f).take 18:=by rw [aM];exact G.symm
 rw [y] at x q p z;have B:(l.drop f).take 8=keyBytes e.pl.key:=by rw [<-x,iu];rfl
 have J:(l.drop (f+8)).take 8=bytesOf 8 e.pl.num.toNat:=by rw [<-q,xF _ _ _ _ _ (by omega)]
 have C:(l.drop (f+16)).take 2=bytesOf 2 e.at_:=by rw [<-p,xF _ _ _ _ _ (by omega)]
 have M:Hid (numOf ((l.drop (f+8)).take 8)=e.pl.num.toNat):=by show numOf ((l.drop (f+8)).take 8)=e.pl.num.toNat;have:=QG a;rw [J];omega
 have K:Hid (numOf ((l.drop (f+16)).take 2)=e.at_):=by show numOf ((l.drop (f+16)).take 2)=e.at_;rw [C];exact Jj a
 have N:=a.num1;have P:=a.num0;have O:=a.at_;have n:∀(r:ByteArray),r.data.toList=cut (ByteArray.data ⟨(keyBytes e.pl.key).toArray⟩).toList->r=e.pl.key:=λr m=>vu (by rw [m];exact Ji _ a.zero)
 have i:(ByteArray.size ⟨(keyBytes e.pl.key).toArray⟩)<=1000:=by
  have:(ByteArray.size ⟨(keyBytes e.pl.key).toArray⟩)=(keyBytes e.pl.key).length:=by simp [ByteArray.size]
  rw [this,yZ _ a.key];omega
 have H:Hid (za (λ_=>False) w ((w.alloc (.cells GQ 109)).alloc (.cells GQ 109))):=za.alloc2 _ _ _;have k:=QN _ b t l (h.kept H (λu=>u)) f c (by omega) _ B;unfold GQ at k;change Hid _ at h a n i;clear x q p z y G B J C;have o:((e.pl.num.toNat:Nat):Int)=e.pl.num:=by omega
 change Hid _ at I F;have j:∀(s:World) (E D:Obj),s=(w.alloc E).alloc D->yN s b t l:=λs E D e=>by rw [e];exact h.kept (za.alloc2 w _ _) (λu=>u)
 change Hid _ at o j;go_enter Tryz.func194,Tryz.ntmps194;go_wp2_with fail;refine(jQ _ _ i).mono ?_;rintro r g ⟨⟨r,rfl,m⟩,d⟩;rw [d];have A:=n.out r m;subst A;clear m d g;go_wp2_with fail;refine(yA _ b t l (j _ _ _ rfl) (f+8) 8 (c-8) e.pl.num.toNat (by omega) (by omega) M (by omega)).mono ?_;rintro r g ⟨rfl,d⟩;rw [d,o.out];clear d g;go_wp2_with fail;refine(yA _ b t l (j _ _ _ rfl) (f+16) 2 (c-16) e.at_ (by omega) (by omega) K (by omega)).mono ?_;rintro r g ⟨rfl,d⟩;rw [d];clear d g;go_wp2;refine bodyPost_ret (v:=.agg (qt e).toArray) (results_cell_row Tryz.results194 _ _ w.heap.size 109 (qt e).toArray (0,0) _ rfl (by rw [heap_alloc2_old];unfold qt;rw [I.out,F.out];rfl) Tryz.underlying109 rfl (by kernel_rfl)) rfl ⟨rfl,za.alloc2 _ _ _⟩
theorem Tryz.infoEntry:(Tryz.prog.info? 109).map (λi=>(i.zero,i.size,i.bytes))=some (some (.agg #[.string ⟨#[]⟩,.int .i64 0,.bool false,.int .i64 0,.int .i64 0]),5,48):=by kernel_rfl
theorem qg.of_own{c:Nat}(h:w.ownsRow 0 109 5 (.slice a es.length c) es.length (es.map qt).flatten)(p:∀j,(Value.slice a es.length c).ownBlock=some j->P j)(f:es.length<=1000):qg w P a es:=by
 refine⟨?_,f⟩;rcases h.2 with⟨_,q⟩|⟨g,i,r,o,_,m,_⟩;.exact .inl (aY q)
 .cases o;refine .inr ⟨g,0,rfl,p g rfl,(lT m),λk n=>?_⟩;have d:=h;rw [show es.length=(es.map qt).length from by simp] at d;have:=yr d (λb l=>by obtain⟨e,_,rfl⟩:=au.1 l;rfl) k (by simpa using n);simpa using this
def Xs(args:Array Value):Sem Value:=Builtin.append_ #[207, 207] 207 args
theorem dj(args:Array Value):Builtin.append_ #[207, 207] 207 args=Xs args:=rfl
theorem QO(w:World)(c:Option Addr)(i a:Nat)(h:List Value)(f:w.ownsRow 0 109 5 (.slice c i a) i h)(b:Nat)(e:En)(o:w.heap[b]? =some (.cells (qt e).toArray 109 (0,0)))(p:i<=1000):
 ∃g d w',(Xs #[.slice c i a,.slice (some ⟨b,0,none⟩) 1 1]).run Tryz.prog w=.ok (.slice (some ⟨g,0,none⟩) (i+1) d) w'/\w'.ownsRow 0 109 5 (.slice (some ⟨g,0,none⟩) (i+1) d) (i+1) (h++qt e)/\w.grownBy w' (Value.slice c i a).ownBlock/\((Value.slice c i a).ownBlock=some g\/g=w.heap.size)/\g<w'.heap.size:=by
 obtain⟨n,m,k,l,j⟩:=eZ Tryz.infoEntry;exact run_append_lies (P:=Tryz.prog) (w:=w) 207 207 0 109 n _ 5 48 Tryz.underlying207 m k l j rfl (by omega) (.slice c i a) i h f ⟨b,0,none⟩ 1 1 (qt e) rfl (World.news_of_block o) (by simp [qt,Value.oneCell']) (by omega) (by unfold maxLen;omega) (by omega) (aj _) _ rfl
structure VJ (T:TypeId) (f:FuncId) (a:Addr):Prop where
 meth:∀w,(method 392 T (.pointer (some a)) "Read").run Tryz.prog w=.ok (f,.pointer (some a)) w
 ent:∀args w,(callFunc f args).run Tryz.prog w=.ok (.enter f args) w
theorem gJ(a:Addr):VJ 29 81 a:=⟨λw=>by kernel_rfl,enters_of Tryz.func81 (by kernel_rfl) rfl⟩
theorem dN(a:Addr):VJ 142 192 a:=⟨λw=>by kernel_rfl,enters_of Tryz.func192 (by kernel_rfl) rfl⟩
theorem Gy{wr c:World}{a i d B k:Nat}{o:Option Addr}{z:List Value}(v:wr.heap[a]? =some (.cells #[.int .u8 (k:Int),.slice o i d] 209 (0,0)))(A:wr.ownsRow 0 109 5 (.slice o i d) i z)(h:∀j,(Value.slice o i d).ownBlock=some j->B<=j)(O:a<B)(G:za (λ_=>False) wr.drew c)(e:En)(J:i<=1000):
 c.cell? ⟨a,0,none⟩=some (.int .u8 (k:Int))/\c.cell? ⟨a,1,none⟩=some (.slice o i d)/\c.frozen? ⟨a,1,none⟩=false/\a<c.heap.size/\
  ∃g m f,(Xs #[.slice o i d,.slice (some ⟨c.heap.size,0,none⟩) 1 1]).run Tryz.prog (c.alloc (.cells (qt e).toArray 109))=.ok (.slice (some ⟨g,0,none⟩) (i+1) m) f/\f.cell? ⟨a,1,none⟩=some (.slice o i d)/\f.frozen? ⟨a,1,none⟩=false/\
   (za (λj=>j=a\/B<=j) wr (f.setCell ⟨a,1,none⟩ (.slice (some ⟨g,0,none⟩) (i+1) m))/\(f.setCell ⟨a,1,none⟩ (.slice (some ⟨g,0,none⟩) (i+1) m)).heap[a]? =some (.cells #[.int .u8 (k:Int),.slice (some ⟨g,0,none⟩) (i+1) m] 209 (0,0))/\
    (f.setCell ⟨a,1,none⟩ (.slice (some ⟨g,0,none⟩) (i+1) m)).ownsRow 0 109 5 (.slice (some ⟨g,0,none⟩) (i+1) m) (i+1) (z++qt e)/\∀j,(Value.slice (some ⟨g,0,none⟩) (i+1) m).ownBlock=some j->B<=j\/wr.heap.size<=j):=by
 have D:=(lT v);have p:za (λ_=>False) wr c:=za.trans (b:=wr.drew) (za.drew _ wr) G iL;have n:=(p.block a D (λx=>x)).trans v;have r:=(lT n);have C:za (λ_=>False) c (c.alloc (.cells (qt e).toArray 109)):=za.alloc _ _ _;have u:=(C.block a r (λx=>x)).trans n;refine⟨cR n rfl,cR n rfl,aa c a 1 _ _ n,r,?_⟩;obtain⟨g,m,f,y,w,t,F,M⟩:=QO (c.alloc (.cells (qt e).toArray 109)) o i d z ((p.trans C iL).owns A nF) c.heap.size e (ac c _) J;have H:=za.grown t (λj l=>l);have q:=(H.block a (lT u) (λK=>by have:=h a K;omega)).trans u;have I:=za.setCell (S:=λj=>j=a) f ⟨a,1,none⟩ (.slice (some ⟨g,0,none⟩) (i+1) m) rfl;have L:(c.alloc (.cells (qt e).toArray 109)).heap.size=c.heap.size+1:=by simp
 have E:B<=g\/wr.heap.size<=g:=by
  rcases F with s|s;.exact .inl (h g s)
  .right;have:=p.size;omega
 refine⟨g,m,f,y,cR q rfl,aa f a 1 _ _ q,?_,?_,?_,λj l=>by simp [Value.ownBlock] at l;rw [<-l];exact E⟩;.exact(((p.trans C iL).mono fE).trans H (λj l=>.inl (.inr (h j l)))).trans I (λj l=>.inl (.inl l))
 .rw [heap_setCell_same f a 1 _ _ _ q];rfl
 .refine I.owns w (λj l N=>?_);simp [Value.ownBlock] at l;rcases E with s|s<;>omega
theorem cq(w:World)(b:Nat)(t:TypeId)(l:List UInt8)(h:yN w b t l)(k f a:Nat)(m:k=4\/k=5)(d:f+zk k<=l.length)(c:zk k<=a)(e:En)(i:e.Ok)(g:(l.drop f).take (zk k)=jP k e)(j:k=4->e.mark=false/\e.size=0):
 Calls Tryz.prog 194 #[.int .u8 (k:Int),.slice (some ⟨b,f,none⟩) (zk k) a] w λr w'=>r=.returned (.agg (qt e).toArray)/\za (λ_=>False) w w':=by
 rcases m with rfl|rfl;.exact gI w b t l h f a d c e i g (j rfl).1 (j rfl).2
 .exact dM w b t l h f a d c e i g
section
attribute [local go_sem ↓] dj
theorem QP(w:World)(T:TypeId)(f:FuncId)(a:Addr)(U:VJ T f a)(X:Nat->Prop)(a6:World->Prop)(J:Nat)(k:Nat)(es:List En)(ag:k=4\/k=5)(R:∀e∈es,e.Ok)(aQ:k=4->∀e∈es,e.mark=false/\e.size=0)(ad:es.length<=6)
 (A:∀ah,za (λ_=>False) w ah->Calls Tryz.prog f #[.pointer (some a),.int .i64 J] ah λe c=>e=.returned (.agg (zm (zc k es)).toArray)/\za X ah c/\a6 c) (aN:∀i,X i->i<w.heap.size):
 Calls Tryz.prog 174 #[.iface T (.pointer (some a)),.int .i64 J] w λe w'=>∃c o d,e=.returned (.agg #[.int .u8 (k:Int),.slice o es.length d])/\za X w c/\a6 c/\za (λi=>w.heap.size<=i) c w'/\qg w' (λb=>w.heap.size<=b) o es/\w'.ownsRow 0 109 5 (.slice o es.length d) es.length (es.map qt).flatten/\(∀j,(Value.slice o es.length d).ownBlock=some j->w.heap.size<=j):=by
 obtain⟨I,Q,bf⟩:∃I:List Value,I=zX/\∀w,(zeroValue 154).run Tryz.prog w=.ok (.agg I.toArray) w:=⟨zX,rfl,zY Tryz.infoPage⟩;have aC:Hid (zT I):=by rw [Q];exact zH
 clear Q;have a3:Hid _:=zZ Tryz.infoPage;have G:=U.meth;have Z:=U.ent;have y:Hid _:=cO ag R ad;have F:Hid _:=yf y.out;have O:Hid (za (λ_=>False) w (w.alloc (.cells #[.int .u8 0,.slice none 0 0] 209))):=za.alloc _ _ _;change Hid _ at A;go_enter Tryz.func174,Tryz.ntmps174;go_wp2_with fail;refine(A _ O).mono ?_;rintro e c ⟨rfl,B,aE⟩;change Hid _ at B aE
 go_wp2_with (first
  |(show wpList _ _ _ ({dst:=none,op:=.store _ (.tmp 5) (.tmp 10),type:=_,pos:=_,after:=_,guard:=_}::_) _ _;refine zi rfl 154 (.tmp 5) (.tmp 10) rfl _ _ (zm (zc k es)) (by simp) rfl rfl (by rw [F.1];exact a3) (by rw [aq,aC.1,F.1]) F.2 ?_;have aG:Hid (qR (c.alloc (.cells (zm (zc k es)).toArray 154)) c.heap.size (zc k es)):=⟨⟨ac c _⟩,y⟩)
  |(go_at_call 144;refine(ve _ _ _ aG).mono ?_;rintro e aF ⟨rfl,rfl⟩;have M:(zc k es).kind=k:=rfl;rw [M]))
 have W:Hid (qR ((c.alloc (.cells (zm (zc k es)).toArray 154)).alloc (.cells #[.int .u8 (k:Int),.slice none 0 0] 209)) c.heap.size (zc k es)):=aG.kept (za.alloc (λ_=>False) _ _) (λz=>z);refine(vA _ _ _ W).mono ?_;rintro e aF ⟨rfl,D⟩;rw [D];have n:(zc k es).items.length=es.length:=by simp [zc]
 rw [n];clear D aF M;have av:Hid (((c.alloc (.cells (zm (zc k es)).toArray 154)).alloc (.cells #[.int .u8 (k:Int),.slice none 0 0] 209)).heap[c.heap.size+1]? =some (.cells #[.int .u8 (k:Int),.slice none 0 0] 209 (0,0))):=eF c _ _;have N:Hid (za (λ_=>False) c ((c.alloc (.cells (zm (zc k es)).toArray 154)).alloc (.cells #[.int .u8 (k:Int),.slice none 0 0] 209))):=za.alloc2 _ _ _;have ba:((c.alloc (.cells (zm (zc k es)).toArray 154)).alloc (.cells #[.int .u8 (k:Int),.slice none 0 0] 209)).heap.size=c.heap.size+2:=by simp
 have a7:w.heap.size+1<=c.heap.size:=by have:=B.size;simpa using this
 generalize ((c.alloc (.cells (zm (zc k es)).toArray 154)).alloc (.cells #[.int .u8 (k:Int),.slice none 0 0] 209))=aL at*;obtain⟨bi,ar,ax,aA,am⟩:=eZ Tryz.infoEntry;clear ar ax aA am G Z;go_wp2;go_loopw [14] (λt wr=>∃(i:Nat) (o:Option Addr) (d:Nat),i<=es.length/\t=.int .i64 i/\za (λj=>j=c.heap.size+1\/aL.heap.size<=j) aL wr/\wr.heap[c.heap.size+1]? =some (.cells #[.int .u8 (k:Int),.slice o i d] 209 (0,0))/\wr.ownsRow 0 109 5 (.slice o i d) i ((es.take i).map qt).flatten/\∀j,(Value.slice o i d).ownBlock=some j->aL.heap.size<=j) (λt _=>es.length-(intOf t).toNat)
 case atStart=>exact⟨0,none,0,aj _,rfl,za.refl _ _,av,aV _ 0 109 5,λj p=>by cases p⟩
 case round=>
  obtain⟨i,o,d,bg,rfl,m,x,u,l⟩:=hrel;have aD:Hid _:=u;have a4:wr.cell? ⟨c.heap.size+1,0,none⟩=some (.int .u8 (k:Int)):=cR x rfl;have bc:wr.cell? ⟨c.heap.size+1,1,none⟩=some (.slice o i d):=cR x rfl;have aK:=(lT x);have K:Hid (qR wr c.heap.size (zc k es)):=W.kept m (λau=>by omega);change Hid _ at m x l;clear u;by_cases q:i<es.length
  .have aH:=n;have aB:Hid ((zc k es).items[i]'(by rw [n];exact q)=jP k es[i]):=by show (zc k es).items[i]'(by rw [n];exact q)=_;simp [zc]
   have ay:Hid es[i].Ok:=R _ (ai q);have E:=y.item i (by rw [n];exact q);rw [aB.out] at E;have az:Hid ((es.take (i+1)).map qt=(es.take i).map qt++[qt es[i]]):=by show _=_;rw [ao q,eh];rfl
   have ab:Hid (QJ c.heap.size (zc k es).kind i=.slice (some ⟨c.heap.size,4+i*zk k,none⟩) (zk k) (124-i*zk k)):=rfl;have af:Hid (((zc k es).bytes.drop (4+i*zk k)).take (zk k)=jP k es[i]):=E;have a5:=y.len
   have aS:i*zk k+zk k<=124:=by have H:(i+1)*zk k<=(zc k es).items.length*zk k:=ee _ (by rw [n];exact q);have h2:=y.fits;have aT:(zc k es).kind=k:=rfl;rw [aT] at h2;rw [eJ,iU] at H;omega
   have an:1<=zk k:=by rcases ag with rfl|rfl<;>decide
   have aO:Hid (k=4->es[i].mark=false/\es[i].size=0):=λh=>aQ h _ (ai q);clear E;generalize es[i]=e at*;generalize bh:i*zk k=bb at*;go_wp2
   go_region_law ((first
    |(go_simp;go_at_call 84;refine(QM _ c.heap.size (zc k es) (by exact K.kept (za.drew (λ_=>False) wr) (λz=>z)) i (by rw [n];exact q) (by exact an)).mono ?_;rintro r aw ⟨rfl,L⟩;rw [L,ab.out];clear L aw;dsimp only)
    |(go_simp;go_at_call 194;refine(cq _ c.heap.size _ _ (by exact(K.kept (za.drew (λ_=>False) wr) (λz=>z)).bs) k (4+bb) (124-bb) ag (by omega) (by omega) e ay af aO).mono ?_;rintro r aw ⟨rfl,P⟩;have Y:Hid _:=Gy x aD l (by omega) P e (by omega);obtain⟨aY,aR,a0,aI,g,aU,bd,ae,aP,a1,C⟩:=Y.out;change Hid _ at C;clear P Y;unfold qt at ae ⊢;dsimp only)))
   all_goals
    go_wp2;go_roundw
    case rel=>
     obtain⟨aX,aJ,aW,a2⟩:=C.out;refine⟨i+1,some ⟨g,0,none⟩,aU,by omega,by go_num,m.trans aX (λj p=>.inl p),aJ,?_,λj p=>?_⟩;.rw [az.out,eV];simpa using aW
     .rcases a2 j p with H|H;.exact H
      .have:=m.size;omega
    case measure=>simp [intOf];omega
  .have ap:i=es.length:=by omega
   subst ap
   have s:Hid (wr.heap[w.heap.size]? =some (.cells #[.int .u8 0,.slice none 0 0] 209 (0,0))):=by show wr.heap[w.heap.size]? =_;rw [m.block w.heap.size (by omega) (by omega),N.block w.heap.size (by omega) (λz=>z),B.block w.heap.size (by simp) (λau=>by have:=aN _ au;omega)];exact ac w _
   have a8:wr.cell? ⟨w.heap.size,0,none⟩=some (.int .u8 0):=cR s.out rfl;have a9:wr.cell? ⟨w.heap.size,1,none⟩=some (.slice none 0 0):=cR s.out rfl;have aM:=aa wr w.heap.size 0 _ _ s.out;have aZ:=aa wr w.heap.size 1 _ _ s.out;go_wp2;have ak:=heap_setCell_same wr w.heap.size 0 _ _ (.int .u8 (k:Int)) s.out;have al:=heap_setCell_same _ w.heap.size 1 _ _ (.slice o es.length d) ak;have V:za (λj=>j=w.heap.size) wr ((wr.setCell ⟨w.heap.size,0,none⟩ (.int .u8 (k:Int))).setCell ⟨w.heap.size,1,none⟩ (.slice o es.length d)):=(za.setCell (S:=λj=>j=w.heap.size) wr ⟨w.heap.size,0,none⟩ _ rfl).trans (za.setCell (S:=λj=>j=w.heap.size) _ ⟨w.heap.size,1,none⟩ _ rfl) iL;refine bodyPost_ret (v:=.agg #[.int .u8 (k:Int),.slice o es.length d]) (results_cell_row Tryz.results174 _ _ w.heap.size 209 _ (0,0) _ rfl al Tryz.underlying209 rfl (by kernel_rfl)) rfl ⟨c,o,d,rfl,?_,aE,?_,?_⟩;.exact(O.mono fE).trans B iL
   .exact((N.mono fE).trans m (λj p=>.inl (by omega))).trans V (λj p=>.inl (by omega))
   .have D:=aD.out;rw [eN] at D;have u:=V.owns (v:=.slice o es.length d) D (λj p be=>by have:=l.out j p;omega);exact⟨qg.of_own u (λj p=>by have:=l.out j p;omega) (by omega),u,λj p=>by have:=l.out j p;omega⟩
end
def Dl(args:Array Value):Sem Value:=Builtin.copy_ #[35, 9] 3 args
theorem Gz(args:Array Value):Builtin.copy_ #[35, 9] 3 args=Dl args:=rfl
theorem Jl:(Tryz.prog.info? 5).map (·.size)=some 1:=by kernel_rfl
theorem Jm(w:World)(b:Nat)(t:TypeId)(l:List UInt8)(h:yN w b t l)(f c:Nat)(m:f+8<=l.length)(a:ByteArray)(d:a.size<=8):
 ∃w',(Dl #[.slice (some ⟨b,f,none⟩) 8 c,.string a]).run Tryz.prog w=.ok (goInt a.size) w'/\yN w' b t (qG l f a.data.toList)/\za (λi=>i=b) w w':=by
 have g:=Lib.run_copy_row_string (P:=Tryz.prog) w 35 9 3 5 b f 8 c a (l.map qA).toArray t Tryz.underlying35 Jl h.at_ d (by simp;omega);refine⟨_,g,⟨?_⟩,⟨rfl,rfl,rfl,by simp,λk _ d=>setRow_other w b k _ (λe=>d (by rw [e]))⟩⟩;rw [setRow_heap w b _ _ t _ h.at_];congr 2;have j:a.data.toList.length=a.size:=by simp
 unfold qG Lib.byteCells;rw [j];simp [qA,iP,ms]
theorem VK(l:List UInt8)(b:Nat)(a:ByteArray)(c:a.data.toList.length<=8)(f:(l.drop b).take 8=List.replicate 8 0)(g:b+8<=l.length):qG l b a.data.toList=qG l b (keyBytes a):=by
 have e:l.drop (b+a.data.toList.length)=List.replicate (8-a.data.toList.length) 0++l.drop (b+8):=by
  have d:l.drop b=List.replicate 8 0++l.drop (b+8):=by rw [<-eA,<-f,aE]
  rw [<-eA,d,eY (by simpa using c),List.drop_replicate]
 unfold qG;rw [e,yZ _ c,keyBytes];simp
theorem cT(l:List UInt8)(a:Nat)(e:En)(b:e.Ok)(g:(l.drop a).take 8=List.replicate 8 0)(h:a+18<=l.length):
 qG (qG (qG l a e.pl.key.data.toList) (a+8) (bytesOf 8 e.pl.num.toNat)) (a+16) (bytesOf 2 e.at_)=qG l a (qk e):=by
 have f:=yZ _ b.key;have h2:=zP 8 e.pl.num.toNat;have i:=zP 2 e.at_;have c:=gG l a (keyBytes e.pl.key) (bytesOf 8 e.pl.num.toNat) (by omega);have d:=gG l a (keyBytes e.pl.key++bytesOf 8 e.pl.num.toNat) (bytesOf 2 e.at_) (by rw [ag];omega);rw [f] at c;rw [ag,f,h2] at d;rw [VK l a e.pl.key b.key g (by omega),c,show a+16=a+(8+8) from by omega,d];rfl
theorem Kl(l:List UInt8)(a:Nat)(e:En)(d:e.Ok)(f:a+20<=l.length):qG (qG l a (qk e)) (a+18) (bytesOf 2 (qM e))=qG l a (j8 e):=by
 have c:=xE d;have h2:=zP 2 (qM e);have b:=gG l a (qk e) (bytesOf 2 (qM e)) (by omega);rw [c] at b;exact b
section
attribute [local go_sem ↓] Gz
theorem uK(w:World)(b:Nat)(t:TypeId)(l:List UInt8)(h:yN w b t l)(k a:Nat)(U:k+18<=l.length)(T:18<=a)(e:En)(j:e.Ok)(K:(l.drop k).take 8=List.replicate 8 0):
 Calls Tryz.prog 193 #[.int .u8 4,.slice (some ⟨b,k,none⟩) 18 a,.agg #[.string e.pl.key,.int .i64 e.pl.num,.bool e.mark,.int .i64 (e.size:Int),.int .i64 (e.at_:Int)]] w λr w'=>r=.returned (.tuple #[])/\yN w' b t (qG l k (qk e))/\za (λi=>i=b) w w':=by
 obtain⟨m,X⟩:∃m:Nat,e.pl.num=m:=⟨e.pl.num.toNat,by have:=j.num0;omega⟩;have x:Hid _:=cT l k e j K U;have L:e.pl.num.toNat=m:=by omega
 rw [L] at x;have J:m<9223372036854775808:=by have:=j.num1;omega
 have af:=j.at_;have I:e.pl.key.size<=8:=by have:=j.key;simpa using this
 have ab:=h.lt;have A:Hid ((w.alloc (.cells #[.string e.pl.key,.int .i64 (m:Int),.bool e.mark,.int .i64 (e.size:Int),.int .i64 (e.at_:Int)] 109)).heap[w.heap.size]? =some (.cells #[.string e.pl.key,.int .i64 (m:Int),.bool e.mark,.int .i64 (e.size:Int),.int .i64 (e.at_:Int)] 109 (0,0))):=ac w _;have z:Hid (za (λ_=>False) w (w.alloc (.cells #[.string e.pl.key,.int .i64 (m:Int),.bool e.mark,.int .i64 (e.size:Int),.int .i64 (e.at_:Int)] 109))):=za.alloc _ _ _;have Y:Hid _:=h;rw [X];have ai:(8:Int)<=(a:Int):=by omega
 have ae:¬a=8:=by omega
 have P:¬a=16:=by omega
 have W:(16:Int)<=(a:Int):=by omega
 have Q:(18:Int)<=(a:Int):=by omega
 have s:Hid ((qG l k e.pl.key.data.toList).length=l.length):=jv _ _ _ (by have:=j.key;omega);clear h K j;go_enter Tryz.func193,Tryz.ntmps193;go_wp2;have ag:(w.alloc (.cells #[.string e.pl.key,.int .i64 (m:Int),.bool e.mark,.int .i64 (e.size:Int),.int .i64 (e.at_:Int)] 109)).heap.size=w.heap.size+1:=by simp
 have G:Hid _:=Y.kept z (λg=>g);generalize (w.alloc (.cells #[.string e.pl.key,.int .i64 (m:Int),.bool e.mark,.int .i64 (e.size:Int),.int .i64 (e.at_:Int)] 109))=F at*;have aj:F.cell? ⟨w.heap.size,0,none⟩=some (.string e.pl.key):=cR A.out rfl;obtain⟨n,V,B,p⟩:=Jm F.drew b t l (G.kept (za.drew (λ_=>False) F) (λg=>g)) k a (by omega) e.pl.key I;have c:=(p.block w.heap.size (by show w.heap.size<F.heap.size;omega) (by omega)).trans A.out;have ah:n.cell? ⟨w.heap.size,1,none⟩=some (.int .i64 (m:Int)):=cR c rfl;change Hid _ at B p c;have R:n.cell? ⟨w.heap.size,0,none⟩=some (.string e.pl.key):=cR c.out rfl;go_region_held3 (λw'=>w'.cell? ⟨w.heap.size,0,none⟩=some (.string e.pl.key)) (go_keep) (fail);have D:=(lT c);go_wp2;go_region_held3 (λw'=>w'.cell? ⟨w.heap.size,1,none⟩=some (.int .i64 (m:Int))) (go_keep) ((go_at_call 138;refine(qQ _ b t _ (by exact B.kept (za.drew (λ_=>False) n) (λg=>g)) (k+8) 8 (a-8) (by rw [s.out];omega) (by omega) m J).mono ?_;rintro r v ⟨rfl,y,o⟩;have d:=(o.block w.heap.size D (by omega)).trans c.out;have ad:v.cell? ⟨w.heap.size,1,none⟩=some (.int .i64 (m:Int)):=(cR d rfl);change Hid _ at y o d));have E:=(lT d);have S:v.cell? ⟨w.heap.size,4,none⟩=some (.int .i64 (e.at_:Int)):=cR d.out rfl;have H:Hid ((qG (qG l k e.pl.key.data.toList) (k+8) (bytesOf 8 m)).length=l.length):=(jv _ _ _ (by rw [s.out,zP];omega)).trans s.out;go_wp2;go_region_held3 (λw'=>w'.cell? ⟨w.heap.size,4,none⟩=some (.int .i64 (e.at_:Int))) (go_keep) ((go_at_call 138;refine(qQ _ b t _ (by exact y.kept (za.drew (λ_=>False) v) (λg=>g)) (k+16) 2 (a-16) (by rw [H.out];omega) (by omega) e.at_ (by omega)).mono ?_;rintro r q ⟨rfl,C,u⟩;have f:=(u.block w.heap.size E (by omega)).trans d.out;have aa:q.cell? ⟨w.heap.size,4,none⟩=some (.int .i64 (e.at_:Int)):=(cR f rfl);change Hid _ at C u f));have O:q.cell? ⟨w.heap.size,2,none⟩=some (.bool e.mark):=cR f.out rfl;have Z:q.cell? ⟨w.heap.size,3,none⟩=some (.int .i64 (e.size:Int)):=cR f.out rfl;have M:Hid (yN q b t (qG l k (qk e))):=by have:=C.out;rw [x.out] at this;exact this
 have N:Hid (za (λi=>i=b) w q):=(((z.mono fE).trans (za.trans (b:=F.drew) (za.drew _ F) p iL) iL).trans (za.trans (b:=n.drew) (za.drew _ n) o iL) iL).trans (za.trans (b:=v.drew) (za.drew _ v) u iL) iL;go_wp2
 all_goals
  go_end0;exact⟨rfl,M,N⟩
theorem fX(w:World)(b:Nat)(t:TypeId)(l:List UInt8)(h:yN w b t l)(o a:Nat)(af:o+20<=l.length)(ae:20<=a)(e:En)(f:e.Ok)(W:(l.drop o).take 8=List.replicate 8 0):
 Calls Tryz.prog 193 #[.int .u8 5,.slice (some ⟨b,o,none⟩) 20 a,.agg #[.string e.pl.key,.int .i64 e.pl.num,.bool e.mark,.int .i64 (e.size:Int),.int .i64 (e.at_:Int)]] w λr w'=>r=.returned (.tuple #[])/\yN w' b t (qG l o (j8 e))/\za (λi=>i=b) w w':=by
 obtain⟨m,am⟩:∃m:Nat,e.pl.num=m:=⟨e.pl.num.toNat,by have:=f.num0;omega⟩;have G:Hid _:=Kl l o e f af;have Z:Hid _:=xE f;have au:=f.size;have H:Hid _:=cT l o e f W (by omega);have X:e.pl.num.toNat=m:=by omega
 rw [X] at H;have Y:m<9223372036854775808:=by have:=f.num1;omega
 have aw:=f.at_;have V:e.pl.key.size<=8:=by have:=f.key;simpa using this
 have ap:=h.lt;have K:Hid ((w.alloc (.cells #[.string e.pl.key,.int .i64 (m:Int),.bool e.mark,.int .i64 (e.size:Int),.int .i64 (e.at_:Int)] 109)).heap[w.heap.size]? =some (.cells #[.string e.pl.key,.int .i64 (m:Int),.bool e.mark,.int .i64 (e.size:Int),.int .i64 (e.at_:Int)] 109 (0,0))):=ac w _;have I:Hid (za (λ_=>False) w (w.alloc (.cells #[.string e.pl.key,.int .i64 (m:Int),.bool e.mark,.int .i64 (e.size:Int),.int .i64 (e.at_:Int)] 109))):=za.alloc _ _ _;have an:Hid _:=h;rw [am];have az:(8:Int)<=(a:Int):=by omega
 have ar:¬a=8:=by omega
 have ab:¬a=16:=by omega
 have al:¬a=18:=by omega
 have ah:(16:Int)<=(a:Int):=by omega
 have aj:(18:Int)<=(a:Int):=by omega
 have E:Hid ((qG l o e.pl.key.data.toList).length=l.length):=jv _ _ _ (by have:=f.key;omega);clear h W f;go_enter Tryz.func193,Tryz.ntmps193;go_wp2;have ax:(w.alloc (.cells #[.string e.pl.key,.int .i64 (m:Int),.bool e.mark,.int .i64 (e.size:Int),.int .i64 (e.at_:Int)] 109)).heap.size=w.heap.size+1:=by simp
 have T:Hid _:=an.kept I (λp=>p);generalize (w.alloc (.cells #[.string e.pl.key,.int .i64 (m:Int),.bool e.mark,.int .i64 (e.size:Int),.int .i64 (e.at_:Int)] 109))=S at*;have av:S.cell? ⟨w.heap.size,0,none⟩=some (.string e.pl.key):=cR K.out rfl;obtain⟨y,ag,O,A⟩:=Jm S.drew b t l (T.kept (za.drew (λ_=>False) S) (λp=>p)) o a (by omega) e.pl.key V;have c:=(A.block w.heap.size (by show w.heap.size<S.heap.size;omega) (by omega)).trans K.out;have ay:y.cell? ⟨w.heap.size,1,none⟩=some (.int .i64 (m:Int)):=cR c rfl;change Hid _ at O A c;have ad:y.cell? ⟨w.heap.size,0,none⟩=some (.string e.pl.key):=cR c.out rfl;go_region_held3 (λw'=>w'.cell? ⟨w.heap.size,0,none⟩=some (.string e.pl.key)) (go_keep) (fail);have Q:=(lT c);go_wp2;go_region_held3 (λw'=>w'.cell? ⟨w.heap.size,1,none⟩=some (.int .i64 (m:Int))) (go_keep) ((go_at_call 138;refine(qQ _ b t _ (by exact O.kept (za.drew (λ_=>False) y) (λp=>p)) (o+8) 8 (a-8) (by rw [E.out];omega) (by omega) m Y).mono ?_;rintro r F ⟨rfl,M,z⟩;have d:=(z.block w.heap.size Q (by omega)).trans c.out;have aq:F.cell? ⟨w.heap.size,1,none⟩=some (.int .i64 (m:Int)):=(cR d rfl);change Hid _ at M z d));have R:=(lT d);have ak:F.cell? ⟨w.heap.size,4,none⟩=some (.int .i64 (e.at_:Int)):=cR d.out rfl;have U:Hid ((qG (qG l o e.pl.key.data.toList) (o+8) (bytesOf 8 m)).length=l.length):=(jv _ _ _ (by rw [E.out,zP];omega)).trans E.out;go_wp2;go_region_held3 (λw'=>w'.cell? ⟨w.heap.size,4,none⟩=some (.int .i64 (e.at_:Int))) (go_keep) ((go_at_call 138;refine(qQ _ b t _ (by exact M.kept (za.drew (λ_=>False) F) (λp=>p)) (o+16) 2 (a-16) (by rw [U.out];omega) (by omega) e.at_ (by omega)).mono ?_;rintro r B ⟨rfl,P,v⟩;have g:=(v.block w.heap.size R (by omega)).trans d.out;have ai:B.cell? ⟨w.heap.size,4,none⟩=some (.int .i64 (e.at_:Int)):=(cR g rfl);change Hid _ at P v g));have C:B.cell? ⟨w.heap.size,2,none⟩=some (.bool e.mark):=cR g.out rfl;have ao:B.cell? ⟨w.heap.size,3,none⟩=some (.int .i64 (e.size:Int)):=cR g.out rfl;have J:Hid (yN B b t (qG l o (qk e))):=by have:=P.out;rw [H.out] at this;exact this
 have N:Hid (za (λi=>i=b) w B):=(((I.mono fE).trans (za.trans (b:=S.drew) (za.drew _ S) A iL) iL).trans (za.trans (b:=y.drew) (za.drew _ y) z iL) iL).trans (za.trans (b:=F.drew) (za.drew _ F) v iL) iL;have L:Hid ((qG l o (qk e)).length=l.length):=jv _ _ _ (by rw [Z.out];omega)
 cases q:e.mark with
 |false=>
  rw [q] at C;have u:Hid (qM e=e.size):=by show qM e=_;unfold qM;rw [q];rfl
  go_wp2_with (go_at_call 138;refine(qQ _ b t _ J (o+18) 2 (a-18) (by rw [L.out];omega) (by omega) e.size (by omega)).mono ?_;rintro r aa ⟨rfl,n,k⟩;have x:Hid _:=n;have D:Hid _:=k;clear n k);go_end0;refine⟨rfl,?_,N.trans D iL⟩;have s:=x.out;have j:=G.out;rw [u.out] at j;rw [j] at s;exact s
 |true=>
  rw [q] at C;have u:Hid (qM e=65535):=by show qM e=_;unfold qM;rw [q];rfl
  go_wp2_with (go_at_call 138;refine(qQ _ b t _ J (o+18) 2 (a-18) (by rw [L.out];omega) (by omega) 65535 (by omega)).mono ?_;rintro r aa ⟨rfl,n,k⟩;have x:Hid _:=n;have D:Hid _:=k;clear n k);go_end0;refine⟨rfl,?_,N.trans D iL⟩;have s:=x.out;have j:=G.out;rw [u.out] at j;rw [j] at s;exact s
end
end prog
end Go.Proofs.YtcoengihaobddaaGreatDoor
