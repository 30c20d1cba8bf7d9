/- Part 16 of 36 of a proof: Tree1, Tree2, Tree3, Tree4, Tree5, Tree6, Tree7 -/
import Derived.Test.YtcoengihaobddaaGreatDoorJb15
import Derived.Lib.Bytealg
import Derived.Laws.IdiomStrings
import Derived.Deep.RegionWith
import Derived.Shelf.Abstract
import Derived.Lib.BufferWrite
set_option maxHeartbeats 8000000
set_option linter.unusedVariables false
set_option linter.unusedSimpArgs false
set_option maxRecDepth 8000
namespace Go.Proofs.YtcoengihaobddaaGreatDoor
namespace prog
open Go.ChangeShapes Go.WideShapes Go.ChangeAt Go.RowKit disk ref
open keys (zh zd zx zq)
variable {w:World}{P:Nat->Prop}{a:Option Addr}{es:List En}{l:List UInt8}{b:UInt8}
def Ki(a b:ByteArray):Int:=if qu a b then -1 else if qu b a then 1 else 0
theorem cmpL:∀a b:List UInt8,Lib.compareBytes a b=if qB a b then -1 else if qB b a then 1 else 0
 |[],[]=>by simp [Lib.compareBytes,qB]
 |[],_::_=>by simp [Lib.compareBytes,qB]
 |_::_,[]=>by simp [Lib.compareBytes,qB]
 |a::l,b::r=>by
  have f:=cmpL l r;unfold Lib.compareBytes qB;by_cases c:a<b
  .have:a≠b:=UInt8.ne_of_lt c;simp [c,this]
  .by_cases h2:b<a
   .have:a≠b:=(UInt8.ne_of_lt h2).symm;have d:b≠a:=this.symm;simp [c,h2,this,d]
   .have e:a=b:=by
     rw [lB] at c h2;exact lK.1 (by omega)
    subst e;simp [c,f]
theorem UU(a b:ByteArray):Lib.compareBytes a.data.toList b.data.toList=Ki a b:=cmpL _ _
theorem ck(a b:ByteArray)(w:World):Calls Tryz.prog 211 #[.string a,.string b] w λe w'=>e=.returned (.int .i64 (Ki a b))/\w'=w:=by
 go_enter Tryz.func211,Tryz.ntmps211;go_wp2;rw [run_callFunc_extern Tryz.func217 (by kernel_rfl) (by kernel_rfl) (by kernel_rfl) (e:=Extern.BytealgCompare.compare) (by kernel_rfl),Lib.run_compareString];simp only [Result.andThen];rw [Oper.upon_value];go_wp2;go_ret;exact⟨zh (UU a b),rfl⟩
theorem dL(a b:ByteArray)(w:World):Calls Tryz.prog 204 #[.string a,.string b] w λe w'=>e=.returned (.int .i64 (Ki a b))/\w'=w:=by
 go_enter Tryz.func204,Tryz.ntmps204;go_wp2_with (go_at_call 211;refine(ck _ _ _).mono ?_;rintro e w' ⟨rfl,rfl⟩);go_ret;exact⟨rfl,rfl⟩
def VE(x y:Int):Int:=if x<y then -1 else if y<x then 1 else 0
theorem Kj(a:Int)(w:World):Calls Tryz.prog 212 #[.int .i64 a] w λe w'=>e=.returned (.bool false)/\w'=w:=by
 go_enter Tryz.func212,Tryz.ntmps212;go_wp2;go_ret;exact⟨rfl,rfl⟩
theorem Xq(a b:Int)(w:World):Calls Tryz.prog 205 #[.int .i64 a,.int .i64 b] w λe w'=>e=.returned (.int .i64 (VE a b))/\w'=w:=by
 go_enter Tryz.func205,Tryz.ntmps205;go_wp2_with (go_at_call 212;refine(Kj _ _).mono ?_;rintro e w' ⟨rfl,rfl⟩)
 all_goals
  go_ret;refine⟨zh ?_,rfl⟩;unfold VE
  (repeat' split)<;>omega
def Dd(x y:Int):Int:=if x=0 then y else x
theorem Kk(w:World)(b:Nat)(f g:Int)(m:w.cell? ⟨b,0,none⟩=some (.int .i64 f))(l:w.cell? ⟨b,1,none⟩=some (.int .i64 g)):
 Calls Tryz.prog 203 #[.slice (some ⟨b,0,none⟩) 2 2] w λe w'=>e=.returned (.int .i64 (Dd f g))/\w'=w:=by
 go_enter Tryz.func203,Tryz.ntmps203;go_wp2;go_loop [8] (λt=>∃k:Nat,k<=2/\t=.int .i64 k/\(1<=k->f=0)/\(2<=k->g=0)) (λt=>2-(intOf t).toNat)
 case atStart=>exact⟨0,by omega,rfl,by omega,by omega⟩
 case round=>
  obtain⟨k,n,rfl,c,i⟩:=hrel;rcases (by omega:k=0\/k=1\/k=2) with rfl|rfl|rfl
  .by_cases h:f=0
   .subst h;go_wp2;go_round
    case rel=>exact⟨1,by omega,by go_num,by simp,by omega⟩
    case measure=>simp [intOf]
   .have h2:(f !=0)=true:=by simpa using h
    have j:Hid _:=h;go_wp2;go_ret;exact⟨zh (aw j.out).symm,rfl⟩
  .have a:=c (by omega);subst a;by_cases h:g=0
   .subst h;go_wp2;go_round
    case rel=>exact⟨2,by omega,by go_num,by simp,by simp⟩
    case measure=>simp [intOf]
   .have h2:(g !=0)=true:=by simpa using h
    go_wp2;go_ret;exact⟨zh (aB rfl).symm,rfl⟩
  .have a:=c (by omega);have d:=i (by omega);subst a;subst d;go_wp2;go_ret;exact⟨rfl,rfl⟩
def dM(a b:Pl):Int:=Dd (Ki a.key b.key) (VE b.num a.num)
theorem VF(a b:Pl):dM a b<0↔a.lt b=true:=by
 unfold dM Dd Ki VE;rw [Pl.lt_iff];cases f:qu a.key b.key
 .cases h2:qu b.key a.key
  .have e:a.key=b.key:=by
    by_cases e:a.key=b.key;.exact e
    .have:=yQ e f;rw [h2] at this;cases this
   simp [e];by_cases c:b.num<a.num;.simp [c]
   .by_cases d:a.num<b.num;.simp [c,d]
    .simp [c,d]
  .have e:a.key≠b.key:=λe=>by rw [e,yB] at h2;cases h2
   simp [e]
 .simp
def Dv(a:Pl):Value:=.agg #[.string a.key,.int .i64 a.num]
theorem ZN(w:World)(a b:Pl):Calls Tryz.prog 197 #[.agg #[.string a.key,.int .i64 a.num],.agg #[.string b.key,.int .i64 b.num]] w λe w'=>e=.returned (.int .i64 (dM a b))/\za (λ_=>False) w w':=by
 go_enter Tryz.func197,Tryz.ntmps197;go_wp2;have g:((w.alloc (.cells #[.string a.key,.int .i64 a.num] 107)).alloc (.cells #[.string b.key,.int .i64 b.num] 107)).cell? ⟨w.heap.size,0,none⟩=some (.string a.key):=by simp
 have h:((w.alloc (.cells #[.string a.key,.int .i64 a.num] 107)).alloc (.cells #[.string b.key,.int .i64 b.num] 107)).cell? ⟨w.heap.size,1,none⟩=some (.int .i64 a.num):=by simp
 have d:((w.alloc (.cells #[.string a.key,.int .i64 a.num] 107)).alloc (.cells #[.string b.key,.int .i64 b.num] 107)).cell? ⟨w.heap.size+1,0,none⟩=some (.string b.key):=by simp
 have f:((w.alloc (.cells #[.string a.key,.int .i64 a.num] 107)).alloc (.cells #[.string b.key,.int .i64 b.num] 107)).cell? ⟨w.heap.size+1,1,none⟩=some (.int .i64 b.num):=by simp
 have c:Hid (za (λ_=>False) w ((w.alloc (.cells #[.string a.key,.int .i64 a.num] 107)).alloc (.cells #[.string b.key,.int .i64 b.num] 107))):=(za.alloc _ _ _).trans (za.alloc _ _ _) iL;generalize ((w.alloc (.cells #[.string a.key,.int .i64 a.num] 107)).alloc (.cells #[.string b.key,.int .i64 b.num] 107))=i at*
 go_region_held3 (λw'=>w'.cell? ⟨w.heap.size,0,none⟩=some (.string a.key)/\w'.cell? ⟨w.heap.size,1,none⟩=some (.int .i64 a.num)/\w'.cell? ⟨w.heap.size+1,0,none⟩=some (.string b.key)/\w'.cell? ⟨w.heap.size+1,1,none⟩=some (.int .i64 b.num)) (go_keep) ((first
  |(go_at_call 204;refine(dL _ _ _).mono ?_;rintro e w' ⟨rfl,rfl⟩)
  |(go_at_call 205;refine(Xq _ _ _).mono ?_;rintro e w' ⟨rfl,rfl⟩)
  |(go_at_call 203;refine(Kk _ _ (Ki a.key b.key) (VE b.num a.num) (by simp) (by simp)).mono ?_;rintro e w' ⟨rfl,rfl⟩)))
 all_goals
  go_wp2;go_ret;exact⟨rfl,(c.out.trans (za.alloc (λ_=>False) i _) iL).trans (za.drew (λ_=>False) _) iL⟩
def qr(e:En):List Value:=[.string e.pl.key,.int .i64 e.pl.num,.bool e.mark,.int .i64 (e.size:Int),.int .i64 (e.at_:Int)]
structure qe (w:World) (P:Nat->Prop) (a:Option Addr) (es:List En):Prop where
 at_:es=[]\/∃g o,a=some ⟨g,o,none⟩/\P g/\g<w.heap.size/\∀k (hk:k<es.length),w.rangeAt g (o+k*5) (qr es[k])
 few:es.length<=1000
theorem qe.kept{w':World}{X:Nat->Prop}(h:qe w P a es)(k:za X w w')(f:∀i,P i->¬X i):qe w' P a es:=
 ⟨h.at_.imp id (λ⟨g,m,e,h2,b,c⟩=>⟨g,m,e,h2,ay b k.size,λj l t v d=>(k.cell (a:=⟨g,m+j*5+t,none⟩) b (f g h2)).trans (c j l t v d)⟩),h.few⟩
theorem qe.cells{g c:Nat}(h:qe w P (some ⟨g,c,none⟩) es)(k:Nat)(b:k<es.length):
 w.cell? ⟨g,c+k*5,none⟩=some (.string es[k].pl.key)/\w.cell? ⟨g,c+k*5+1,none⟩=some (.int .i64 es[k].pl.num)/\w.cell? ⟨g,c+k*5+2,none⟩=some (.bool es[k].mark)/\w.cell? ⟨g,c+k*5+3,none⟩=some (.int .i64 (es[k].size:Int))/\w.cell? ⟨g,c+k*5+4,none⟩=some (.int .i64 (es[k].at_:Int))/\P g/\g<w.heap.size:=by
 rcases h.at_ with d|⟨l,j,f,h2,i,e⟩;.rw [d] at b;simp at b
 .cases f;have a:=e k b;exact⟨a 0 _ rfl,a 1 _ rfl,a 2 _ rfl,a 3 _ rfl,a 4 _ rfl,h2,i⟩
theorem qe.base(h:qe w P a es)(b:0<es.length):∃g e,a=some ⟨g,e,none⟩:=by
 rcases h.at_ with c|⟨g,e,d,_⟩;.rw [c] at b;simp at b
 .exact⟨g,e,d⟩
theorem gI(w:World)(e:En)(p:Pl):Calls Tryz.prog 196 #[.agg #[.string e.pl.key,.int .i64 e.pl.num,.bool e.mark,.int .i64 (e.size:Int),.int .i64 (e.at_:Int)],.agg #[.string p.key,.int .i64 p.num]] w λr w'=>r=.returned (.int .i64 (dM e.pl p))/\za (λ_=>False) w w':=by
 go_enter Tryz.func196,Tryz.ntmps196;go_wp2_with (go_at_call 197;refine(ZN _ e.pl p).mono ?_;rintro r b ⟨rfl,a⟩;change Hid _ at a);go_ret;exact⟨rfl,((za.alloc (λ_=>False) w _).trans (za.alloc _ _ _) iL).trans a iL⟩
theorem cn(w:World)(P:Nat->Prop)(a:Option Addr)(K:Nat)(es:List En)(h:qe w P a es)(L:yL es)(p:Pl):
 Calls Tryz.prog 195 #[.slice a es.length K,.agg #[.string p.key,.int .i64 p.num],.func (.func 196) #[] #[]] w λr w'=>(∃f,r=.returned (.tuple #[.int .i64 (zt es p:Nat),.bool f]))/\za (λ_=>False) w w':=by
 have z:Hid _:=h;have ae:Hid (yL es):=L;have ab:=h.few;have Z:=xQ es p;have W:Hid (za (λ_=>False) w (w.alloc (.cells #[.string p.key,.int .i64 p.num] 107))):=za.alloc _ _ _;clear h L;go_enter Tryz.func195,Tryz.ntmps195;go_wp2;have Q:Hid ((w.alloc (.cells #[.string p.key,.int .i64 p.num] 107)).heap[w.heap.size]? =some (.cells #[.string p.key,.int .i64 p.num] 107 (0,0))):=ac w _;have ah:(w.alloc (.cells #[.string p.key,.int .i64 p.num] 107)).heap.size=w.heap.size+1:=by simp
 generalize (w.alloc (.cells #[.string p.key,.int .i64 p.num] 107))=am at*;go_loopw [9,10] (λad af wr=>∃i j:Nat,i<=zt es p/\zt es p<=j/\j<=es.length/\ad=.int .i64 i/\af=.int .i64 j/\za (λ_=>False) am wr) (λad af _=>(intOf af-intOf ad).toNat)
 case atStart=>exact⟨0,es.length,by omega,Z,by omega,rfl,rfl,za.refl _ _⟩
 case round=>
  obtain⟨i,j,al,ak,ai,rfl,rfl,n⟩:=hrel;have t:Hid _:=W.trans n iL;have s:=(n.block w.heap.size (by omega) (λd=>d)).trans Q.out;have y:wr.cell? ⟨w.heap.size,0,none⟩=some (.string p.key):=cR s rfl;have x:wr.cell? ⟨w.heap.size,1,none⟩=some (.int .i64 p.num):=cR s rfl;have o:=(lT s);change Hid _ at n;clear s;by_cases ag:i<j
  .obtain⟨g,l,rfl⟩:=z.base (by omega);have S:(i+j)/2<es.length:=by omega
   obtain⟨A,E,D,B,C,N,k⟩:=(z.kept t nF).cells ((i+j)/2) S
   have G:Hid (dM es[(i+j)/2].pl p<0↔(i+j)/2<zt es p):=by show dM es[(i+j)/2].pl p<0↔(i+j)/2<zt es p;rw [VF,ae.at_lt p _ S];simp
   generalize u:(i+j)/2=m at*;generalize es[m]=e at*;have aj:((i:Int)+(j:Int))/2=(m:Int):=by omega
   change Hid _ at u;have F:(m:Int)<(es.length:Int):=by omega
   by_cases v:dM e.pl p<0
   .have H:Hid _:=G.1 v;go_wp2;go_region_held3 (λw'=>w'.cell? ⟨g,l+m*5,none⟩=some (.string e.pl.key)/\w'.cell? ⟨g,l+m*5+1,none⟩=some (.int .i64 e.pl.num)/\w'.cell? ⟨g,l+m*5+2,none⟩=some (.bool e.mark)/\w'.cell? ⟨g,l+m*5+3,none⟩=some (.int .i64 (e.size:Int))/\w'.cell? ⟨g,l+m*5+4,none⟩=some (.int .i64 (e.at_:Int))/\w'.cell? ⟨w.heap.size,0,none⟩=some (.string p.key)/\w'.cell? ⟨w.heap.size,1,none⟩=some (.int .i64 p.num)) (go_keep) ((go_at_call 196;refine(gI _ e p).mono ?_;rintro r U ⟨rfl,c⟩;have q:Hid _:=c;have R:=(c.cell (a:=⟨g,l+m*5,none⟩) k (λd=>d)).trans A;have M:=(c.cell (a:=⟨g,l+m*5+1,none⟩) k (λd=>d)).trans E;have aa:=(c.cell (a:=⟨g,l+m*5+2,none⟩) k (λd=>d)).trans D;have V:=(c.cell (a:=⟨g,l+m*5+3,none⟩) k (λd=>d)).trans B;have T:=(c.cell (a:=⟨g,l+m*5+4,none⟩) k (λd=>d)).trans C;have Y:=(c.cell (a:=⟨w.heap.size,0,none⟩) o (λd=>d)).trans y;have J:=(c.cell (a:=⟨w.heap.size,1,none⟩) o (λd=>d)).trans x;clear c))
    all_goals
     go_wp2;go_roundw
     case rel=>exact⟨m+1,j,by have:=H.out;omega,by omega,by omega,by go_num,rfl,n.trans (za.trans (b:=wr.drew) (za.drew _ _) q iL) iL⟩
     case measure=>have:=u.out;simp only [intOf];omega
   .have H:Hid _:=mD (mt G.2 v);go_wp2;go_region_held3 (λw'=>w'.cell? ⟨g,l+m*5,none⟩=some (.string e.pl.key)/\w'.cell? ⟨g,l+m*5+1,none⟩=some (.int .i64 e.pl.num)/\w'.cell? ⟨g,l+m*5+2,none⟩=some (.bool e.mark)/\w'.cell? ⟨g,l+m*5+3,none⟩=some (.int .i64 (e.size:Int))/\w'.cell? ⟨g,l+m*5+4,none⟩=some (.int .i64 (e.at_:Int))/\w'.cell? ⟨w.heap.size,0,none⟩=some (.string p.key)/\w'.cell? ⟨w.heap.size,1,none⟩=some (.int .i64 p.num)) (go_keep) ((go_at_call 196;refine(gI _ e p).mono ?_;rintro r U ⟨rfl,c⟩;have q:Hid _:=c;have R:=(c.cell (a:=⟨g,l+m*5,none⟩) k (λd=>d)).trans A;have M:=(c.cell (a:=⟨g,l+m*5+1,none⟩) k (λd=>d)).trans E;have aa:=(c.cell (a:=⟨g,l+m*5+2,none⟩) k (λd=>d)).trans D;have V:=(c.cell (a:=⟨g,l+m*5+3,none⟩) k (λd=>d)).trans B;have T:=(c.cell (a:=⟨g,l+m*5+4,none⟩) k (λd=>d)).trans C;have Y:=(c.cell (a:=⟨w.heap.size,0,none⟩) o (λd=>d)).trans y;have J:=(c.cell (a:=⟨w.heap.size,1,none⟩) o (λd=>d)).trans x;clear c))
    all_goals
     go_wp2;go_roundw
     case rel=>exact⟨i,m,by omega,by have:=H.out;omega,by omega,rfl,rfl,n.trans (za.trans (b:=wr.drew) (za.drew _ _) q iL) iL⟩
     case measure=>have:=u.out;simp only [intOf];omega
  .have I:i=zt es p:=by omega
   have X:Hid _:=I;by_cases O:i<es.length
   .obtain⟨g,l,rfl⟩:=z.base (by omega);obtain⟨A,E,D,B,C,N,k⟩:=(z.kept t nF).cells i O;generalize es[i]=e at*;have F:(i:Int)<(es.length:Int):=by omega
    clear I;go_wp2;go_region_held3 (λw'=>w'.cell? ⟨g,l+i*5,none⟩=some (.string e.pl.key)/\w'.cell? ⟨g,l+i*5+1,none⟩=some (.int .i64 e.pl.num)/\w'.cell? ⟨g,l+i*5+2,none⟩=some (.bool e.mark)/\w'.cell? ⟨g,l+i*5+3,none⟩=some (.int .i64 (e.size:Int))/\w'.cell? ⟨g,l+i*5+4,none⟩=some (.int .i64 (e.at_:Int))/\w'.cell? ⟨w.heap.size,0,none⟩=some (.string p.key)/\w'.cell? ⟨w.heap.size,1,none⟩=some (.int .i64 p.num)) (go_keep) ((go_at_call 196;refine(gI _ e p).mono ?_;rintro r U ⟨rfl,c⟩;have q:Hid _:=c;have R:=(c.cell (a:=⟨g,l+i*5,none⟩) k (λd=>d)).trans A;have M:=(c.cell (a:=⟨g,l+i*5+1,none⟩) k (λd=>d)).trans E;have aa:=(c.cell (a:=⟨g,l+i*5+2,none⟩) k (λd=>d)).trans D;have V:=(c.cell (a:=⟨g,l+i*5+3,none⟩) k (λd=>d)).trans B;have T:=(c.cell (a:=⟨g,l+i*5+4,none⟩) k (λd=>d)).trans C;have Y:=(c.cell (a:=⟨w.heap.size,0,none⟩) o (λd=>d)).trans y;have J:=(c.cell (a:=⟨w.heap.size,1,none⟩) o (λd=>d)).trans x;clear c))
    all_goals
     go_wp2;go_ret2;exact⟨⟨_,by rw [<-X.out];rfl⟩,t.trans (za.trans (b:=wr.drew) (za.drew _ _) q iL) iL⟩
   .have F:=decide_eq_false (by omega);clear I;go_wp2;go_quiet (fail);go_wp2;go_ret2;exact⟨⟨_,by rw [<-X.out];rfl⟩,t.trans (S':=λ_=>False) kD iL⟩
theorem za.alloc2(w:World)(a b:Obj):za (λ_=>False) w ((w.alloc a).alloc b):=(za.alloc _ _ _).trans (za.alloc _ _ _) iL
theorem jr(w:World)(P:Nat->Prop)(a:Option Addr)(b:Nat)(es:List En)(h:qe w P a es)(e:yL es)(k:Int)(p:Pl):
 Calls Tryz.prog 175 #[.agg #[.int .u8 k,.slice a es.length b],.agg #[.string p.key,.int .i64 p.num]] w λr w'=>r=.returned (.int .i64 (zt es p:Nat))/\za (λ_=>False) w w':=by
 have g:Hid _:=h;change Hid _ at e;clear h;have c:Hid (za (λ_=>False) w ((w.alloc (.cells #[.int .u8 k,.slice a es.length b] 209)).alloc (.cells #[.string p.key,.int .i64 p.num] 107))):=za.alloc2 _ _ _;go_enter Tryz.func175,Tryz.ntmps175;go_wp2_with (go_at_call 195;refine(cn _ P a b es (g.kept c nF) e p).mono ?_;rintro r i ⟨⟨f,rfl⟩,d⟩;change Hid _ at d);go_ret;exact⟨rfl,c.trans d iL⟩
theorem vy(w:World)(P:Nat->Prop)(a:Option Addr)(d:Nat)(es:List En)(h:qe w P a es)(v:yL es)(k:Int)(p:Pl):
 Calls Tryz.prog 176 #[.agg #[.int .u8 k,.slice a es.length d],.agg #[.string p.key,.int .i64 p.num]] w λr w'=>r=.returned (.int .i64 (zH es p:Nat))/\za (λ_=>False) w w':=by
 have x:Hid _:=h;have G:Hid (yL es):=v;have F:=h.few;have Q:=xQ es p;clear h v;have n:Hid (za (λ_=>False) w ((w.alloc (.cells #[.int .u8 k,.slice a es.length d] 209)).alloc (.cells #[.string p.key,.int .i64 p.num] 107))):=za.alloc2 _ _ _;go_enter Tryz.func176,Tryz.ntmps176;go_wp2_with (go_at_call 175;refine(jr _ P a d es (x.kept n nF) G k p).mono ?_;rintro r i ⟨rfl,c⟩;have B:Hid (za (λ_=>False) _ i):=c;have K:i.cell? ⟨w.heap.size,1,none⟩=some (.slice a es.length d):=(c.cell (a:=⟨w.heap.size,1,none⟩) (by simp;omega) (λl=>l)).trans (by simp);have N:i.cell? ⟨w.heap.size+1,0,none⟩=some (.string p.key):=(c.cell (a:=⟨w.heap.size+1,0,none⟩) (by simp) (λl=>l)).trans (by simp);have L:i.cell? ⟨w.heap.size+1,1,none⟩=some (.int .i64 p.num):=(c.cell (a:=⟨w.heap.size+1,1,none⟩) (by simp) (λl=>l)).trans (by simp);have o:Hid (qe i P a es):=(x.kept n nF).kept c nF;clear c);have e:Hid (za (λ_=>False) w i):=n.trans B iL;by_cases f:zt es p<es.length
 .obtain⟨g,U,rfl⟩:=o.base (by omega);obtain⟨E,I,T,R,S,J,O⟩:=o.cells (zt es p) f;have A:((zt es p:Nat):Int)<(es.length:Int):=by omega
  by_cases b:es[zt es p].pl=p
  .have j:Hid (zH es p=zt es p):=by show zH es p=_;unfold zH;rw [dif_pos f,aB b]
   have q:es[zt es p].pl.key=p.key:=by rw [b]
   have t:es[zt es p].pl.num=p.num:=by rw [b]
   rw [q] at E;rw [t] at I;clear b q t;generalize zt es p=m at*;go_quiet (fail);go_wp2;go_ret;exact⟨by rw [j.out];rfl,e.trans (S':=λ_=>False) kD iL⟩
  .have j:Hid (zH es p=zt es p-1):=by show zH es p=_;unfold zH;rw [dif_pos f,aw b]
   have y:¬(es[zt es p].pl.key=p.key/\es[zt es p].pl.num=p.num):=λ⟨u,h2⟩=>b (by cases C:es[zt es p].pl;cases p;rw [C] at u h2;simp only at u h2;rw [u,h2]);clear b;generalize zt es p=m at*;generalize es[m].pl.key=z at*;generalize es[m].pl.num=D at*;by_cases s:z=p.key
   .subst s;have M:(D==p.num)=false:=by simpa using y
    go_quiet (fail);go_wp2
    all_goals
     go_ret;exact⟨zh (by rw [j.out];omega),e.trans (S':=λ_=>False) kD iL⟩
   .have H:(z.toList==p.key.toList)=false:=by
     have:=mt qN.1 s;simpa using this
    go_quiet (fail);go_wp2
    all_goals
     go_ret;exact⟨zh (by rw [j.out];omega),e.trans (S':=λ_=>False) kD iL⟩
 .have j:Hid (zH es p=zt es p-1):=by show zH es p=_;unfold zH;rw [dif_neg f]
  have A:=decide_eq_false (by omega);generalize zt es p=m at*;go_quiet (fail);go_wp2
  all_goals
   go_ret;exact⟨zh (by rw [j.out];omega),e.trans (S':=λ_=>False) kD iL⟩
theorem Xr(r:ByteArray)(h:0<r.size):r.data.toList=(r.extract 0 (r.size-1)).data.toList++[r[r.size-1]]:=by
 rw [ByteArray.data_extract,Array.toList_extract];have a:r.data.toList.length=r.size:=by simp
 rw [List.extract_eq_take_drop,mo,Nat.sub_zero];have:r[r.size-1]=r.data.toList[r.size-1]'(by omega):=by simp;rfl
 rw [this,<-ao (by omega),an (by omega)]
theorem VG(h:b≠0):cut (l++[b])=l++[b]:=by
 unfold cut;rw [List.reverse_append,List.reverse_singleton,List.singleton_append,List.dropWhile_cons,aw (by simpa using h),List.reverse_cons,List.reverse_reverse]
theorem VH{m:List UInt8}(h:l=m++[b])(a:b=0):cut l=cut m:=by rw [h,a,QE]
theorem VI{m:List UInt8}(h:l=m++[b])(a:¬b=0):cut l=l:=by rw [h,VG a]
theorem ZO(w:World)(s:ByteArray)(i:s.size<=1000):
 Calls Tryz.prog 207 #[.string s,.int .u8 0] w λe w'=>(∃r:ByteArray,e=.returned (.string r)/\r.data.toList=cut s.data.toList)/\w'=w:=by
 go_enter Tryz.func207,Tryz.ntmps207;go_wp2;go_loop [0] (λt=>∃r:ByteArray,t=.string r/\cut r.data.toList=cut s.data.toList/\r.size<=1000) (λt=>match t with|.string r=>r.size|_=>0)
 case atStart=>exact⟨s,rfl,rfl,i⟩
 case round=>
  obtain⟨r,rfl,h,l⟩:=hrel;have d:Hid (cut r.data.toList=cut s.data.toList):=h;clear h;by_cases j:0<r.size
  .have b:Hid _:=Xr r j;by_cases a:r[r.size-1]=0
   .have g:((r[r.size-1].toNat:Int)==0)=true:=by rw [a];rfl
    have c:Hid _:=a;clear a;go_wp2;go_round
    case rel=>exact⟨r.extract 0 (r.size-1),rfl,by rw [<-d.out,VH b.out c.out],by simp;omega⟩
    case measure=>simp;omega
   .have g:((r[r.size-1].toNat:Int)==0)=false:=by
     have:r[r.size-1].toNat≠0:=λe=>a (lK.1 e);simp;omega
    have c:Hid (¬r[r.size-1]=0):=a;clear a;go_wp2;go_ret;exact⟨⟨r,rfl,by rw [<-d.out,VI b.out c.out]⟩,rfl⟩
  .have f:r.data.toList.length=r.size:=by simp
   have k:Hid (r.data.toList=[]):=aY (by omega);clear f;go_wp2;go_ret;exact⟨⟨r,rfl,by rw [<-d.out,k.out];rfl⟩,rfl⟩
theorem jM(w:World)(s:ByteArray)(c:s.size<=1000):
 Calls Tryz.prog 202 #[.string s,.string ⟨#[0]⟩] w λe w'=>(∃r:ByteArray,e=.returned (.string r)/\r.data.toList=cut s.data.toList)/\w'=w:=by
 by_cases b:s.toList=[]
 .have f:Hid (s.data.toList=[]):=by show s.data.toList=[];rw [<-eC];exact b
  go_enter Tryz.func202,Tryz.ntmps202;go_wp2;go_ret;exact⟨⟨s,rfl,by rw [f.out];rfl⟩,rfl⟩
 .have g:(s.toList==[])=false:=by simpa using b
  go_enter Tryz.func202,Tryz.ntmps202;go_wp2_with (go_at_call 207;refine(ZO _ s c).mono ?_;rintro e w' ⟨⟨r,rfl,a⟩,rfl⟩;have d:Hid _:=a;clear a);go_ret;exact⟨⟨r,rfl,d.out⟩,rfl⟩
def GQ:Array Value:=#[.string ⟨#[]⟩,.int .i64 0,.bool false,.int .i64 0,.int .i64 0]
theorem QN(w:World)(b:Nat)(t:TypeId)(l:List UInt8)(h:yK w b t l)(c a:Nat)(g:c+8<=l.length)(k:List UInt8)(d:(l.drop c).take 8=k):
 (convert 35 9 (.slice (some ⟨b,c,none⟩) 8 a)).run Tryz.prog w=.ok (.string ⟨k.toArray⟩) w:=by
 have e:k.length=8:=by rw [<-d];simp;omega
 have:=run_convert_bytes_back (P:=Tryz.prog) w 35 9 5 ⟨b,c,none⟩ a k Tryz.underlying35 Tryz.underlying5 Tryz.underlying9 (λj f=>by
  rw [eO,h.cell (c+j) (by omega)];subst d
  simp)
 rw [e] at this;exact this
theorem xA(l:List UInt8)(a i n m:Nat)(h:i+n<=m):(((l.drop a).take m).drop i).take n=(l.drop (a+i)).take n:=by
 rw [ml,iu,a8 (by omega),eA]
theorem dN(w:World)(b:Nat)(t:TypeId)(l:List UInt8)(h:yK w b t l)(j d:Nat)(X:j+20<=l.length)(Q:20<=d)(e:En)(f:e.Ok)(O:(l.drop j).take 20=jY e):
 Calls Tryz.prog 194 #[.int .u8 5,.slice (some ⟨b,j,none⟩) 20 d] w λr w'=>r=.returned (.agg (qr e).toArray)/\za (λ_=>False) w w':=by
 obtain⟨B,A,y,z⟩:=uH f (bytesOf 2 (qK e));have I:qk e++bytesOf 2 (qK e)=(l.drop j).take 20:=O.symm;rw [I] at B A y z;have E:(l.drop j).take 8=keyBytes e.pl.key:=by rw [<-B,iu];rfl
 have F:(l.drop (j+8)).take 8=bytesOf 8 e.pl.num.toNat:=by rw [<-A,xA _ _ _ _ _ (by omega)]
 have L:(l.drop (j+16)).take 2=bytesOf 2 e.at_:=by rw [<-y,xA _ _ _ _ _ (by omega)]
 have K:(l.drop (j+18)).take 2=bytesOf 2 (qK e):=by rw [<-z,ml,eA]
 have H:Hid (numOf ((l.drop (j+8)).take 8)=e.pl.num.toNat):=by show numOf ((l.drop (j+8)).take 8)=e.pl.num.toNat;have:=QG f;rw [F];omega
 have M:Hid (numOf ((l.drop (j+16)).take 2)=e.at_):=by show numOf ((l.drop (j+16)).take 2)=e.at_;rw [L];exact Jj f
 have s:Hid (numOf ((l.drop (j+18)).take 2)=qK e):=by show numOf ((l.drop (j+18)).take 2)=qK e;rw [K];exact Kg f
 have S:=f.num1;have W:=f.num0;have U:=f.at_;have T:=f.size;have p:∀(r:ByteArray),r.data.toList=cut (ByteArray.data ⟨(keyBytes e.pl.key).toArray⟩).toList->r=e.pl.key:=λr m=>vq (by rw [m];exact Ji _ f.zero)
 have n:(ByteArray.size ⟨(keyBytes e.pl.key).toArray⟩)<=1000:=by
  have:(ByteArray.size ⟨(keyBytes e.pl.key).toArray⟩)=(keyBytes e.pl.key).length:=by simp [ByteArray.size]
  rw [this,yV _ f.key];omega
 have N:Hid (za (λ_=>False) w ((w.alloc (.cells GQ 109)).alloc (.cells GQ 109))):=za.alloc2 _ _ _;have u:=QN _ b t l (h.kept N (λC=>C)) j d (by omega) _ E;unfold GQ at u;change Hid _ at h f p n;clear B A y z I O E F L K;have q:((e.pl.num.toNat:Nat):Int)=e.pl.num:=by omega
 have P:Hid (e.mark=true->e.size=0):=f.mark;have i:∀(D:World) (G J:Obj),D=(w.alloc G).alloc J->yK D b t l:=λD G J e=>by rw [e];exact h.kept (za.alloc2 w _ _) (λC=>C)
 change Hid _ at q i
 cases g:e.mark with
 |false=>
  have x:Hid _:=g;have k:qK e=e.size:=by simp [qK,g]
  rw [k] at s;have V:((e.size:Int)==65535)=false:=by simp;omega
  clear g k;go_enter Tryz.func194,Tryz.ntmps194;go_wp2_with fail;refine(jM _ _ n).mono ?_;rintro r c ⟨⟨r,rfl,m⟩,a⟩;rw [a];have o:=p.out r m;subst o;clear m a c;go_wp2_with fail;refine(yx _ b t l (i _ _ _ rfl) (j+8) 8 (d-8) e.pl.num.toNat (by omega) (by omega) H (by omega)).mono ?_;rintro r c ⟨rfl,a⟩;rw [a,q.out];clear a c;go_wp2_with fail;refine(yx _ b t l (i _ _ _ rfl) (j+16) 2 (d-16) e.at_ (by omega) (by omega) M (by omega)).mono ?_;rintro r c ⟨rfl,a⟩;rw [a];clear a c;go_wp2_with fail;refine(yx _ b t l (i _ _ _ rfl) (j+18) 2 (d-18) e.size (by omega) (by omega) s (by omega)).mono ?_;rintro r c ⟨rfl,a⟩;rw [a];clear a c;go_wp2;refine bodyPost_ret (v:=.agg (qr e).toArray) (results_cell_row Tryz.results194 _ _ w.heap.size 109 (qr e).toArray (0,0) _ rfl (by rw [heap_alloc2_old];unfold qr;rw [x.out]) Tryz.underlying109 rfl (by kernel_rfl)) rfl ⟨rfl,za.alloc2 _ _ _⟩
 |true=>
  have x:Hid _:=g;have k:qK e=65535:=by simp [qK,g]
  rw [k] at s;have R:Hid (e.size=0):=P.out g;clear g k;go_enter Tryz.func194,Tryz.ntmps194;go_wp2_with fail;refine(jM _ _ n).mono ?_;rintro r c ⟨⟨r,rfl,m⟩,a⟩;rw [a];have o:=p.out r m;subst o;clear m a c;go_wp2_with fail;refine(yx _ b t l (i _ _ _ rfl) (j+8) 8 (d-8) e.pl.num.toNat (by omega) (by omega) H (by omega)).mono ?_;rintro r c ⟨rfl,a⟩;rw [a,q.out];clear a c;go_wp2_with fail;refine(yx _ b t l (i _ _ _ rfl) (j+16) 2 (d-16) e.at_ (by omega) (by omega) M (by omega)).mono ?_;rintro r c ⟨rfl,a⟩;rw [a];clear a c;go_wp2_with fail;refine(yx _ b t l (i _ _ _ rfl) (j+18) 2 (d-18) 65535 (by omega) (by omega) s (by omega)).mono ?_;rintro r c ⟨rfl,a⟩;rw [a];clear a c;go_wp2;refine bodyPost_ret (v:=.agg (qr e).toArray) (results_cell_row Tryz.results194 _ _ w.heap.size 109 (qr e).toArray (0,0) _ rfl (by rw [heap_alloc2_old];unfold qr;rw [x.out,R.out];rfl) Tryz.underlying109 rfl (by kernel_rfl)) rfl ⟨rfl,za.alloc2 _ _ _⟩
theorem gJ(w:World)(b:Nat)(t:TypeId)(l:List UInt8)(h:yK w b t l)(f c:Nat)(Q:f+18<=l.length)(K:18<=c)(e:En)(a:e.Ok)(I:(l.drop f).take 18=qk e)(E:e.mark=false)(J:e.size=0):
 Calls Tryz.prog 194 #[.int .u8 4,.slice (some ⟨b,f,none⟩) 18 c] w λr w'=>r=.returned (.agg (qr e).toArray)/\za (λ_=>False) w w':=by
 obtain⟨s,q,p,C⟩:=uH a [];have D:qk e++[]=(l.drop f).take 18:=by rw [aM];exact I.symm
 rw [D] at s q p C;have y:(l.drop f).take 8=keyBytes e.pl.key:=by rw [<-s,iu];rfl
 have A:(l.drop (f+8)).take 8=bytesOf 8 e.pl.num.toNat:=by rw [<-q,xA _ _ _ _ _ (by omega)]
 have G:(l.drop (f+16)).take 2=bytesOf 2 e.at_:=by rw [<-p,xA _ _ _ _ _ (by omega)]
 have L:Hid (numOf ((l.drop (f+8)).take 8)=e.pl.num.toNat):=by show numOf ((l.drop (f+8)).take 8)=e.pl.num.toNat;have:=QG a;rw [A];omega
 have M:Hid (numOf ((l.drop (f+16)).take 2)=e.at_):=by show numOf ((l.drop (f+16)).take 2)=e.at_;rw [G];exact Jj a
 have N:=a.num1;have P:=a.num0;have O:=a.at_;have n:∀(r:ByteArray),r.data.toList=cut (ByteArray.data ⟨(keyBytes e.pl.key).toArray⟩).toList->r=e.pl.key:=λr k=>vq (by rw [k];exact Ji _ a.zero)
 have i:(ByteArray.size ⟨(keyBytes e.pl.key).toArray⟩)<=1000:=by
  have:(ByteArray.size ⟨(keyBytes e.pl.key).toArray⟩)=(keyBytes e.pl.key).length:=by simp [ByteArray.size]
  rw [this,yV _ a.key];omega
 have H:Hid (za (λ_=>False) w ((w.alloc (.cells GQ 109)).alloc (.cells GQ 109))):=za.alloc2 _ _ _;have m:=QN _ b t l (h.kept H (λu=>u)) f c (by omega) _ y;unfold GQ at m;change Hid _ at h a n i;clear s q p C D I y A G;have o:((e.pl.num.toNat:Nat):Int)=e.pl.num:=by omega
 change Hid _ at E J;have j:∀(x:World) (B F:Obj),x=(w.alloc B).alloc F->yK x b t l:=λx B F e=>by rw [e];exact h.kept (za.alloc2 w _ _) (λu=>u)
 change Hid _ at o j;go_enter Tryz.func194,Tryz.ntmps194;go_wp2_with fail;refine(jM _ _ i).mono ?_;rintro r g ⟨⟨r,rfl,k⟩,d⟩;rw [d];have z:=n.out r k;subst z;clear k d g;go_wp2_with fail;refine(yx _ b t l (j _ _ _ rfl) (f+8) 8 (c-8) e.pl.num.toNat (by omega) (by omega) L (by omega)).mono ?_;rintro r g ⟨rfl,d⟩;rw [d,o.out];clear d g;go_wp2_with fail;refine(yx _ b t l (j _ _ _ rfl) (f+16) 2 (c-16) e.at_ (by omega) (by omega) M (by omega)).mono ?_;rintro r g ⟨rfl,d⟩;rw [d];clear d g;go_wp2;refine bodyPost_ret (v:=.agg (qr e).toArray) (results_cell_row Tryz.results194 _ _ w.heap.size 109 (qr e).toArray (0,0) _ rfl (by rw [heap_alloc2_old];unfold qr;rw [E.out,J.out];rfl) Tryz.underlying109 rfl (by kernel_rfl)) rfl ⟨rfl,za.alloc2 _ _ _⟩
theorem Tryz.infoEntry:(Tryz.prog.info? 109).map (λi=>(i.zero,i.size,i.bytes))=some (some (.agg #[.string ⟨#[]⟩,.int .i64 0,.bool false,.int .i64 0,.int .i64 0]),5,48):=by kernel_rfl
theorem qe.of_own{c:Nat}(h:w.ownsRow 0 109 5 (.slice a es.length c) es.length (es.map qr).flatten)(n:∀j,(Value.slice a es.length c).ownBlock=some j->P j)(o:es.length<=1000):qe w P a es:=by
 refine⟨?_,o⟩;rcases h.2 with⟨_,m⟩|⟨g,p,r,l,_,f,_⟩;.exact .inl (aY m)
 .cases l;refine .inr ⟨g,0,rfl,n g rfl,(lT f),λk q=>?_⟩;have d:=h;rw [show es.length=(es.map qr).length from by simp] at d;have:=ym d (λb i=>by obtain⟨e,_,rfl⟩:=au.1 i;rfl) k (by simpa using q);simpa using this
def Xs(args:Array Value):Sem Value:=Builtin.append_ #[207, 207] 207 args
theorem dl(args:Array Value):Builtin.append_ #[207, 207] 207 args=Xs args:=rfl
theorem QO(w:World)(c:Option Addr)(i a:Nat)(f:List Value)(h:w.ownsRow 0 109 5 (.slice c i a) i f)(b:Nat)(e:En)(n:w.heap[b]? =some (.cells (qr e).toArray 109 (0,0)))(p:i<=1000):
 ∃g d w',(Xs #[.slice c i a,.slice (some ⟨b,0,none⟩) 1 1]).run Tryz.prog w=.ok (.slice (some ⟨g,0,none⟩) (i+1) d) w'/\w'.ownsRow 0 109 5 (.slice (some ⟨g,0,none⟩) (i+1) d) (i+1) (f++qr e)/\w.grownBy w' (Value.slice c i a).ownBlock/\((Value.slice c i a).ownBlock=some g\/g=w.heap.size)/\g<w'.heap.size:=by
 obtain⟨o,j,l,m,k⟩:=eZ Tryz.infoEntry;exact run_append_lies (P:=Tryz.prog) (w:=w) 207 207 0 109 o _ 5 48 Tryz.underlying207 j l m k rfl (by omega) (.slice c i a) i f h ⟨b,0,none⟩ 1 1 (qr e) rfl (World.news_of_block n) (by simp [qr,Value.oneCell']) (by omega) (by unfold maxLen;omega) (by omega) (aj _) _ rfl
structure VJ (T:TypeId) (f:FuncId) (a:Addr):Prop where
 meth:∀w,(method 392 T (.pointer (some a)) "Read").run Tryz.prog w=.ok (f,.pointer (some a)) w
 ent:∀args w,(callFunc f args).run Tryz.prog w=.ok (.enter f args) w
theorem gK(a:Addr):VJ 29 81 a:=⟨λw=>by kernel_rfl,enters_of Tryz.func81 (by kernel_rfl) rfl⟩
theorem dO(a:Addr):VJ 142 192 a:=⟨λw=>by kernel_rfl,enters_of Tryz.func192 (by kernel_rfl) rfl⟩
theorem Gy{wr c:World}{a i d B k:Nat}{o:Option Addr}{w:List Value}(v:wr.heap[a]? =some (.cells #[.int .u8 (k:Int),.slice o i d] 209 (0,0)))(C:wr.ownsRow 0 109 5 (.slice o i d) i w)(f:∀j,(Value.slice o i d).ownBlock=some j->B<=j)(O:a<B)(G:za (λ_=>False) wr.drew c)(e:En)(K:i<=1000):
 c.cell? ⟨a,0,none⟩=some (.int .u8 (k:Int))/\c.cell? ⟨a,1,none⟩=some (.slice o i d)/\c.frozen? ⟨a,1,none⟩=false/\a<c.heap.size/\
  ∃g l h,(Xs #[.slice o i d,.slice (some ⟨c.heap.size,0,none⟩) 1 1]).run Tryz.prog (c.alloc (.cells (qr e).toArray 109))=.ok (.slice (some ⟨g,0,none⟩) (i+1) l) h/\h.cell? ⟨a,1,none⟩=some (.slice o i d)/\h.frozen? ⟨a,1,none⟩=false/\
   (za (λj=>j=a\/B<=j) wr (h.setCell ⟨a,1,none⟩ (.slice (some ⟨g,0,none⟩) (i+1) l))/\(h.setCell ⟨a,1,none⟩ (.slice (some ⟨g,0,none⟩) (i+1) l)).heap[a]? =some (.cells #[.int .u8 (k:Int),.slice (some ⟨g,0,none⟩) (i+1) l] 209 (0,0))/\
    (h.setCell ⟨a,1,none⟩ (.slice (some ⟨g,0,none⟩) (i+1) l)).ownsRow 0 109 5 (.slice (some ⟨g,0,none⟩) (i+1) l) (i+1) (w++qr e)/\∀j,(Value.slice (some ⟨g,0,none⟩) (i+1) l).ownBlock=some j->B<=j\/wr.heap.size<=j):=by
 have E:=(lT v);have p:za (λ_=>False) wr c:=za.trans (b:=wr.drew) (za.drew _ wr) G iL;have n:=(p.block a E (λx=>x)).trans v;have q:=(lT n);have y:za (λ_=>False) c (c.alloc (.cells (qr e).toArray 109)):=za.alloc _ _ _;have u:=(y.block a q (λx=>x)).trans n;refine⟨cR n rfl,cR n rfl,aa c a 1 _ _ n,q,?_⟩;obtain⟨g,l,h,z,A,t,I,M⟩:=QO (c.alloc (.cells (qr e).toArray 109)) o i d w ((p.trans y iL).owns C nF) c.heap.size e (ac c _) K;have D:=za.grown t (λj m=>m);have r:=(D.block a (lT u) (λJ=>by have:=f a J;omega)).trans u;have F:=za.setCell (S:=λj=>j=a) h ⟨a,1,none⟩ (.slice (some ⟨g,0,none⟩) (i+1) l) rfl;have L:(c.alloc (.cells (qr e).toArray 109)).heap.size=c.heap.size+1:=by simp
 have H:B<=g\/wr.heap.size<=g:=by
  rcases I with s|s;.exact .inl (f g s)
  .right;have:=p.size;omega
 refine⟨g,l,h,z,cR r rfl,aa h a 1 _ _ r,?_,?_,?_,λj m=>by simp [Value.ownBlock] at m;rw [<-m];exact H⟩;.exact(((p.trans y iL).mono fE).trans D (λj m=>.inl (.inr (f j m)))).trans F (λj m=>.inl (.inl m))
 .rw [heap_setCell_same h a 1 _ _ _ r];rfl
 .refine F.owns A (λj m N=>?_);simp [Value.ownBlock] at m;rcases H with s|s<;>omega
theorem cq(w:World)(b:Nat)(t:TypeId)(l:List UInt8)(h:yK w b t l)(k d a:Nat)(m:k=4\/k=5)(i:d+zk k<=l.length)(c:zk k<=a)(e:En)(f:e.Ok)(g:(l.drop d).take (zk k)=jL k e)(j:k=4->e.mark=false/\e.size=0):
 Calls Tryz.prog 194 #[.int .u8 (k:Int),.slice (some ⟨b,d,none⟩) (zk k) a] w λr w'=>r=.returned (.agg (qr e).toArray)/\za (λ_=>False) w w':=by
 rcases m with rfl|rfl;.exact gJ w b t l h d a i c e f g (j rfl).1 (j rfl).2
 .exact dN w b t l h d a i c e f g
section
attribute [local go_sem ↓] dl
theorem QP(w:World)(T:TypeId)(f:FuncId)(a:Addr)(W:VJ T f a)(X:Nat->Prop)(bc:World->Prop)(R:Nat)(k:Nat)(es:List En)(Z:k=4\/k=5)(N:∀e∈es,e.Ok)(a1:k=4->∀e∈es,e.mark=false/\e.size=0)(ae:es.length<=6)
 (C:∀ah,za (λ_=>False) w ah->Calls Tryz.prog f #[.pointer (some a),.int .i64 R] ah λe c=>e=.returned (.agg (zl (zc k es)).toArray)/\za X ah c/\bc c) (aR:∀i,X i->i<w.heap.size):
 Calls Tryz.prog 174 #[.iface T (.pointer (some a)),.int .i64 R] w λe w'=>∃c o d,e=.returned (.agg #[.int .u8 (k:Int),.slice o es.length d])/\za X w c/\bc c/\za (λi=>w.heap.size<=i) c w'/\qe w' (λb=>w.heap.size<=b) o es/\w'.ownsRow 0 109 5 (.slice o es.length d) es.length (es.map qr).flatten/\(∀j,(Value.slice o es.length d).ownBlock=some j->w.heap.size<=j):=by
 obtain⟨I,P,bi⟩:∃I:List Value,I=zW/\∀w,(zeroValue 154).run Tryz.prog w=.ok (.agg I.toArray) w:=⟨zW,rfl,zX Tryz.infoPage⟩;have av:Hid (zS I):=by rw [P];exact zG
 clear P;have aJ:Hid _:=zY Tryz.infoPage;have G:=W.meth;have ag:=W.ent;have y:Hid _:=cO Z N ae;have D:Hid _:=yc y.out;have V:Hid (za (λ_=>False) w (w.alloc (.cells #[.int .u8 0,.slice none 0 0] 209))):=za.alloc _ _ _;change Hid _ at C;go_enter Tryz.func174,Tryz.ntmps174;go_wp2_with fail;refine(C _ V).mono ?_;rintro e c ⟨rfl,B,ar⟩;change Hid _ at B ar
 go_wp2_with (first
  |(show wpList _ _ _ ({dst:=none,op:=.store _ (.tmp 5) (.tmp 10),type:=_,pos:=_,after:=_,guard:=_}::_) _ _;refine zi rfl 154 (.tmp 5) (.tmp 10) rfl _ _ (zl (zc k es)) (by simp) rfl rfl (by rw [D.1];exact aJ) (by rw [aq,av.1,D.1]) D.2 ?_;have au:Hid (qP (c.alloc (.cells (zl (zc k es)).toArray 154)) c.heap.size (zc k es)):=⟨⟨ac c _⟩,y⟩)
  |(go_at_call 144;refine(kZ _ _ _ au).mono ?_;rintro e aD ⟨rfl,rfl⟩;have O:(zc k es).kind=k:=rfl;rw [O]))
 have M:Hid (qP ((c.alloc (.cells (zl (zc k es)).toArray 154)).alloc (.cells #[.int .u8 (k:Int),.slice none 0 0] 209)) c.heap.size (zc k es)):=au.kept (za.alloc (λ_=>False) _ _) (λz=>z);refine(vx _ _ _ M).mono ?_;rintro e aD ⟨rfl,F⟩;rw [F];have n:(zc k es).items.length=es.length:=by simp [zc]
 rw [n];clear F aD O;have az:Hid (((c.alloc (.cells (zl (zc k es)).toArray 154)).alloc (.cells #[.int .u8 (k:Int),.slice none 0 0] 209)).heap[c.heap.size+1]? =some (.cells #[.int .u8 (k:Int),.slice none 0 0] 209 (0,0))):=eF c _ _;have U:Hid (za (λ_=>False) c ((c.alloc (.cells (zl (zc k es)).toArray 154)).alloc (.cells #[.int .u8 (k:Int),.slice none 0 0] 209))):=za.alloc2 _ _ _;have a4:((c.alloc (.cells (zl (zc k es)).toArray 154)).alloc (.cells #[.int .u8 (k:Int),.slice none 0 0] 209)).heap.size=c.heap.size+2:=by simp
 have a9:w.heap.size+1<=c.heap.size:=by have:=B.size;simpa using this
 generalize ((c.alloc (.cells (zl (zc k es)).toArray 154)).alloc (.cells #[.int .u8 (k:Int),.slice none 0 0] 209))=aS at*;obtain⟨bg,ak,aw,aG,aE⟩:=eZ Tryz.infoEntry;clear ak aw aG aE G ag;go_wp2;go_loopw [14] (λt wr=>∃(i:Nat) (o:Option Addr) (d:Nat),i<=es.length/\t=.int .i64 i/\za (λj=>j=c.heap.size+1\/aS.heap.size<=j) aS wr/\wr.heap[c.heap.size+1]? =some (.cells #[.int .u8 (k:Int),.slice o i d] 209 (0,0))/\wr.ownsRow 0 109 5 (.slice o i d) i ((es.take i).map qr).flatten/\∀j,(Value.slice o i d).ownBlock=some j->aS.heap.size<=j) (λt _=>es.length-(intOf t).toNat)
 case atStart=>exact⟨0,none,0,aj _,rfl,za.refl _ _,az,aV _ 0 109 5,λj p=>by cases p⟩
 case round=>
  obtain⟨i,o,d,be,rfl,m,x,s,l⟩:=hrel;have ax:Hid _:=s;have a6:wr.cell? ⟨c.heap.size+1,0,none⟩=some (.int .u8 (k:Int)):=cR x rfl;have a8:wr.cell? ⟨c.heap.size+1,1,none⟩=some (.slice o i d):=cR x rfl;have aT:=(lT x);have L:Hid (qP wr c.heap.size (zc k es)):=M.kept m (λam=>by omega);change Hid _ at m x l;clear s;by_cases q:i<es.length
  .have aI:=n;have aC:Hid ((zc k es).items[i]'(by rw [n];exact q)=jL k es[i]):=by show (zc k es).items[i]'(by rw [n];exact q)=_;simp [zc]
   have ay:Hid es[i].Ok:=N _ (ai q);have E:=y.item i (by rw [n];exact q);rw [aC.out] at E;have aF:Hid ((es.take (i+1)).map qr=(es.take i).map qr++[qr es[i]]):=by show _=_;rw [ao q,eh];rfl
   have af:Hid (QJ c.heap.size (zc k es).kind i=.slice (some ⟨c.heap.size,4+i*zk k,none⟩) (zk k) (124-i*zk k)):=rfl;have ad:Hid (((zc k es).bytes.drop (4+i*zk k)).take (zk k)=jL k es[i]):=E;have a7:=y.len
   have aZ:i*zk k+zk k<=124:=by have H:(i+1)*zk k<=(zc k es).items.length*zk k:=ee _ (by rw [n];exact q);have h2:=y.fits;have aM:(zc k es).kind=k:=rfl;rw [aM] at h2;rw [eJ,iU] at H;omega
   have aB:1<=zk k:=by rcases Z with rfl|rfl<;>decide
   have aL:Hid (k=4->es[i].mark=false/\es[i].size=0):=λh=>a1 h _ (ai q);clear E;generalize es[i]=e at*;generalize bd:i*zk k=a5 at*;go_wp2
   go_region_law ((first
    |(go_simp;go_at_call 84;refine(QM _ c.heap.size (zc k es) (by exact L.kept (za.drew (λ_=>False) wr) (λz=>z)) i (by rw [n];exact q) (by exact aB)).mono ?_;rintro r al ⟨rfl,Q⟩;rw [Q,af.out];clear Q al;dsimp only)
    |(go_simp;go_at_call 194;refine(cq _ c.heap.size _ _ (by exact(L.kept (za.drew (λ_=>False) wr) (λz=>z)).bs) k (4+a5) (124-a5) Z (by omega) (by omega) e ay ad aL).mono ?_;rintro r al ⟨rfl,J⟩;have Y:Hid _:=Gy x ax l (by omega) J e (by omega);obtain⟨a0,a2,aK,aH,g,aW,bf,ab,aX,aQ,A⟩:=Y.out;change Hid _ at A;clear J Y;unfold qr at ab ⊢;dsimp only)))
   all_goals
    go_wp2;go_roundw
    case rel=>
     obtain⟨aU,a3,aP,aN⟩:=A.out;refine⟨i+1,some ⟨g,0,none⟩,aW,by omega,by go_num,m.trans aU (λj p=>.inl p),a3,?_,λj p=>?_⟩;.rw [aF.out,eV];simpa using aP
     .rcases aN j p with H|H;.exact H
      .have:=m.size;omega
    case measure=>simp [intOf];omega
  .have an:i=es.length:=by omega
   subst an
   have u:Hid (wr.heap[w.heap.size]? =some (.cells #[.int .u8 0,.slice none 0 0] 209 (0,0))):=by show wr.heap[w.heap.size]? =_;rw [m.block w.heap.size (by omega) (by omega),U.block w.heap.size (by omega) (λz=>z),B.block w.heap.size (by simp) (λam=>by have:=aR _ am;omega)];exact ac w _
   have bb:wr.cell? ⟨w.heap.size,0,none⟩=some (.int .u8 0):=cR u.out rfl;have ba:wr.cell? ⟨w.heap.size,1,none⟩=some (.slice none 0 0):=cR u.out rfl;have aO:=aa wr w.heap.size 0 _ _ u.out;have aY:=aa wr w.heap.size 1 _ _ u.out;go_wp2;have aA:=heap_setCell_same wr w.heap.size 0 _ _ (.int .u8 (k:Int)) u.out;have ap:=heap_setCell_same _ w.heap.size 1 _ _ (.slice o es.length d) aA;have K:za (λj=>j=w.heap.size) wr ((wr.setCell ⟨w.heap.size,0,none⟩ (.int .u8 (k:Int))).setCell ⟨w.heap.size,1,none⟩ (.slice o es.length d)):=(za.setCell (S:=λj=>j=w.heap.size) wr ⟨w.heap.size,0,none⟩ _ rfl).trans (za.setCell (S:=λj=>j=w.heap.size) _ ⟨w.heap.size,1,none⟩ _ rfl) iL;refine bodyPost_ret (v:=.agg #[.int .u8 (k:Int),.slice o es.length d]) (results_cell_row Tryz.results174 _ _ w.heap.size 209 _ (0,0) _ rfl ap Tryz.underlying209 rfl (by kernel_rfl)) rfl ⟨c,o,d,rfl,?_,ar,?_,?_⟩;.exact(V.mono fE).trans B iL
   .exact((U.mono fE).trans m (λj p=>.inl (by omega))).trans K (λj p=>.inl (by omega))
   .have F:=ax.out;rw [eN] at F;have s:=K.owns (v:=.slice o es.length d) F (λj p bh=>by have:=l.out j p;omega);exact⟨qe.of_own s (λj p=>by have:=l.out j p;omega) (by omega),s,λj p=>by have:=l.out j p;omega⟩
end
def Dl(args:Array Value):Sem Value:=Builtin.copy_ #[35, 9] 3 args
theorem Gz(args:Array Value):Builtin.copy_ #[35, 9] 3 args=Dl args:=rfl
theorem Jl:(Tryz.prog.info? 5).map (·.size)=some 1:=by kernel_rfl
theorem Jm(w:World)(b:Nat)(t:TypeId)(l:List UInt8)(h:yK w b t l)(f c:Nat)(m:f+8<=l.length)(a:ByteArray)(d:a.size<=8):
 ∃w',(Dl #[.slice (some ⟨b,f,none⟩) 8 c,.string a]).run Tryz.prog w=.ok (goInt a.size) w'/\yK w' b t (qG l f a.data.toList)/\za (λi=>i=b) w w':=by
 have j:=Lib.run_copy_row_string (P:=Tryz.prog) w 35 9 3 5 b f 8 c a (l.map qy).toArray t Tryz.underlying35 Jl h.at_ d (by simp;omega);refine⟨_,j,⟨?_⟩,⟨rfl,rfl,rfl,by simp,λk _ d=>setRow_other w b k _ (λe=>d (by rw [e]))⟩⟩;rw [setRow_heap w b _ _ t _ h.at_];congr 2;have g:a.data.toList.length=a.size:=by simp
 unfold qG Lib.byteCells;rw [g];simp [qy,iP,ms]
theorem VK(l:List UInt8)(b:Nat)(a:ByteArray)(c:a.data.toList.length<=8)(d:(l.drop b).take 8=List.replicate 8 0)(g:b+8<=l.length):qG l b a.data.toList=qG l b (keyBytes a):=by
 have e:l.drop (b+a.data.toList.length)=List.replicate (8-a.data.toList.length) 0++l.drop (b+8):=by
  have f:l.drop b=List.replicate 8 0++l.drop (b+8):=by rw [<-eA,<-d,aE]
  rw [<-eA,f,eY (by simpa using c),List.drop_replicate]
 unfold qG;rw [e,yV _ c,keyBytes];simp
theorem cT(l:List UInt8)(a:Nat)(e:En)(d:e.Ok)(g:(l.drop a).take 8=List.replicate 8 0)(h:a+18<=l.length):
 qG (qG (qG l a e.pl.key.data.toList) (a+8) (bytesOf 8 e.pl.num.toNat)) (a+16) (bytesOf 2 e.at_)=qG l a (qk e):=by
 have b:=yV _ d.key;have h2:=zP 8 e.pl.num.toNat;have i:=zP 2 e.at_;have f:=gH l a (keyBytes e.pl.key) (bytesOf 8 e.pl.num.toNat) (by omega);have c:=gH l a (keyBytes e.pl.key++bytesOf 8 e.pl.num.toNat) (bytesOf 2 e.at_) (by rw [ag];omega);rw [b] at f;rw [ag,b,h2] at c;rw [VK l a e.pl.key d.key g (by omega),f,show a+16=a+(8+8) from by omega,c];rfl
theorem Kl(l:List UInt8)(b:Nat)(e:En)(c:e.Ok)(f:b+20<=l.length):qG (qG l b (qk e)) (b+18) (bytesOf 2 (qK e))=qG l b (jY e):=by
 have d:=xz c;have h2:=zP 2 (qK e);have a:=gH l b (qk e) (bytesOf 2 (qK e)) (by omega);rw [d] at a;exact a
section
attribute [local go_sem ↓] Gz
theorem uJ(w:World)(b:Nat)(t:TypeId)(l:List UInt8)(h:yK w b t l)(k a:Nat)(Z:k+18<=l.length)(T:18<=a)(e:En)(j:e.Ok)(N:(l.drop k).take 8=List.replicate 8 0):
 Calls Tryz.prog 193 #[.int .u8 4,.slice (some ⟨b,k,none⟩) 18 a,.agg #[.string e.pl.key,.int .i64 e.pl.num,.bool e.mark,.int .i64 (e.size:Int),.int .i64 (e.at_:Int)]] w λr w'=>r=.returned (.tuple #[])/\yK w' b t (qG l k (qk e))/\za (λi=>i=b) w w':=by
 obtain⟨m,V⟩:∃m:Nat,e.pl.num=m:=⟨e.pl.num.toNat,by have:=j.num0;omega⟩;have A:Hid _:=cT l k e j N Z;have M:e.pl.num.toNat=m:=by omega
 rw [M] at A;have L:m<9223372036854775808:=by have:=j.num1;omega
 have ad:=j.at_;have H:e.pl.key.size<=8:=by have:=j.key;simpa using this
 have ab:=h.lt;have C:Hid ((w.alloc (.cells #[.string e.pl.key,.int .i64 (m:Int),.bool e.mark,.int .i64 (e.size:Int),.int .i64 (e.at_:Int)] 109)).heap[w.heap.size]? =some (.cells #[.string e.pl.key,.int .i64 (m:Int),.bool e.mark,.int .i64 (e.size:Int),.int .i64 (e.at_:Int)] 109 (0,0))):=ac w _;have y:Hid (za (λ_=>False) w (w.alloc (.cells #[.string e.pl.key,.int .i64 (m:Int),.bool e.mark,.int .i64 (e.size:Int),.int .i64 (e.at_:Int)] 109))):=za.alloc _ _ _;have R:Hid _:=h;rw [V];have af:(8:Int)<=(a:Int):=by omega
 have ai:¬a=8:=by omega
 have Q:¬a=16:=by omega
 have P:(16:Int)<=(a:Int):=by omega
 have U:(18:Int)<=(a:Int):=by omega
 have n:Hid ((qG l k e.pl.key.data.toList).length=l.length):=jq _ _ _ (by have:=j.key;omega);clear h N j;go_enter Tryz.func193,Tryz.ntmps193;go_wp2;have ae:(w.alloc (.cells #[.string e.pl.key,.int .i64 (m:Int),.bool e.mark,.int .i64 (e.size:Int),.int .i64 (e.at_:Int)] 109)).heap.size=w.heap.size+1:=by simp
 have K:Hid _:=R.kept y (λg=>g);generalize (w.alloc (.cells #[.string e.pl.key,.int .i64 (m:Int),.bool e.mark,.int .i64 (e.size:Int),.int .i64 (e.at_:Int)] 109))=F at*;have aj:F.cell? ⟨w.heap.size,0,none⟩=some (.string e.pl.key):=cR C.out rfl;obtain⟨u,Y,x,q⟩:=Jm F.drew b t l (K.kept (za.drew (λ_=>False) F) (λg=>g)) k a (by omega) e.pl.key H;have d:=(q.block w.heap.size (by show w.heap.size<F.heap.size;omega) (by omega)).trans C.out;have ag:u.cell? ⟨w.heap.size,1,none⟩=some (.int .i64 (m:Int)):=cR d rfl;change Hid _ at x q d;have O:u.cell? ⟨w.heap.size,0,none⟩=some (.string e.pl.key):=cR d.out rfl;go_region_held3 (λw'=>w'.cell? ⟨w.heap.size,0,none⟩=some (.string e.pl.key)) (go_keep) (fail);have D:=(lT d);go_wp2;go_region_held3 (λw'=>w'.cell? ⟨w.heap.size,1,none⟩=some (.int .i64 (m:Int))) (go_keep) ((go_at_call 138;refine(qO _ b t _ (by exact x.kept (za.drew (λ_=>False) u) (λg=>g)) (k+8) 8 (a-8) (by rw [n.out];omega) (by omega) m L).mono ?_;rintro r v ⟨rfl,z,p⟩;have c:=(p.block w.heap.size D (by omega)).trans d.out;have ah:v.cell? ⟨w.heap.size,1,none⟩=some (.int .i64 (m:Int)):=(cR c rfl);change Hid _ at z p c));have E:=(lT c);have aa:v.cell? ⟨w.heap.size,4,none⟩=some (.int .i64 (e.at_:Int)):=cR c.out rfl;have I:Hid ((qG (qG l k e.pl.key.data.toList) (k+8) (bytesOf 8 m)).length=l.length):=(jq _ _ _ (by rw [n.out,zP];omega)).trans n.out;go_wp2;go_region_held3 (λw'=>w'.cell? ⟨w.heap.size,4,none⟩=some (.int .i64 (e.at_:Int))) (go_keep) ((go_at_call 138;refine(qO _ b t _ (by exact z.kept (za.drew (λ_=>False) v) (λg=>g)) (k+16) 2 (a-16) (by rw [I.out];omega) (by omega) e.at_ (by omega)).mono ?_;rintro r o ⟨rfl,B,s⟩;have f:=(s.block w.heap.size E (by omega)).trans c.out;have S:o.cell? ⟨w.heap.size,4,none⟩=some (.int .i64 (e.at_:Int)):=(cR f rfl);change Hid _ at B s f));have X:o.cell? ⟨w.heap.size,2,none⟩=some (.bool e.mark):=cR f.out rfl;have W:o.cell? ⟨w.heap.size,3,none⟩=some (.int .i64 (e.size:Int)):=cR f.out rfl;have G:Hid (yK o b t (qG l k (qk e))):=by have:=B.out;rw [A.out] at this;exact this
 have J:Hid (za (λi=>i=b) w o):=(((y.mono fE).trans (za.trans (b:=F.drew) (za.drew _ F) q iL) iL).trans (za.trans (b:=u.drew) (za.drew _ u) p iL) iL).trans (za.trans (b:=v.drew) (za.drew _ v) s iL) iL;go_wp2
 all_goals
  go_end0;exact⟨rfl,G,J⟩
theorem fY(w:World)(b:Nat)(t:TypeId)(l:List UInt8)(h:yK w b t l)(o a:Nat)(aj:o+20<=l.length)(ab:20<=a)(e:En)(f:e.Ok)(Z:(l.drop o).take 8=List.replicate 8 0):
 Calls Tryz.prog 193 #[.int .u8 5,.slice (some ⟨b,o,none⟩) 20 a,.agg #[.string e.pl.key,.int .i64 e.pl.num,.bool e.mark,.int .i64 (e.size:Int),.int .i64 (e.at_:Int)]] w λr w'=>r=.returned (.tuple #[])/\yK w' b t (qG l o (jY e))/\za (λi=>i=b) w w':=by
 obtain⟨m,af⟩:∃m:Nat,e.pl.num=m:=⟨e.pl.num.toNat,by have:=f.num0;omega⟩;have I:Hid _:=Kl l o e f aj;have U:Hid _:=xz f;have ap:=f.size;have G:Hid _:=cT l o e f Z (by omega);have V:e.pl.num.toNat=m:=by omega
 rw [V] at G;have T:m<9223372036854775808:=by have:=f.num1;omega
 have au:=f.at_;have W:e.pl.key.size<=8:=by have:=f.key;simpa using this
 have ar:=h.lt;have H:Hid ((w.alloc (.cells #[.string e.pl.key,.int .i64 (m:Int),.bool e.mark,.int .i64 (e.size:Int),.int .i64 (e.at_:Int)] 109)).heap[w.heap.size]? =some (.cells #[.string e.pl.key,.int .i64 (m:Int),.bool e.mark,.int .i64 (e.size:Int),.int .i64 (e.at_:Int)] 109 (0,0))):=ac w _;have M:Hid (za (λ_=>False) w (w.alloc (.cells #[.string e.pl.key,.int .i64 (m:Int),.bool e.mark,.int .i64 (e.size:Int),.int .i64 (e.at_:Int)] 109))):=za.alloc _ _ _;have ao:Hid _:=h;rw [af];have aw:(8:Int)<=(a:Int):=by omega
 have aq:¬a=8:=by omega
 have an:¬a=16:=by omega
 have ae:¬a=18:=by omega
 have am:(16:Int)<=(a:Int):=by omega
 have ad:(18:Int)<=(a:Int):=by omega
 have A:Hid ((qG l o e.pl.key.data.toList).length=l.length):=jq _ _ _ (by have:=f.key;omega);clear h Z f;go_enter Tryz.func193,Tryz.ntmps193;go_wp2;have av:(w.alloc (.cells #[.string e.pl.key,.int .i64 (m:Int),.bool e.mark,.int .i64 (e.size:Int),.int .i64 (e.at_:Int)] 109)).heap.size=w.heap.size+1:=by simp
 have Y:Hid _:=ao.kept M (λp=>p);generalize (w.alloc (.cells #[.string e.pl.key,.int .i64 (m:Int),.bool e.mark,.int .i64 (e.size:Int),.int .i64 (e.at_:Int)] 109))=S at*;have az:S.cell? ⟨w.heap.size,0,none⟩=some (.string e.pl.key):=cR H.out rfl;obtain⟨x,ah,J,B⟩:=Jm S.drew b t l (Y.kept (za.drew (λ_=>False) S) (λp=>p)) o a (by omega) e.pl.key W;have d:=(B.block w.heap.size (by show w.heap.size<S.heap.size;omega) (by omega)).trans H.out;have ax:x.cell? ⟨w.heap.size,1,none⟩=some (.int .i64 (m:Int)):=cR d rfl;change Hid _ at J B d;have al:x.cell? ⟨w.heap.size,0,none⟩=some (.string e.pl.key):=cR d.out rfl;go_region_held3 (λw'=>w'.cell? ⟨w.heap.size,0,none⟩=some (.string e.pl.key)) (go_keep) (fail);have R:=(lT d);go_wp2;go_region_held3 (λw'=>w'.cell? ⟨w.heap.size,1,none⟩=some (.int .i64 (m:Int))) (go_keep) ((go_at_call 138;refine(qO _ b t _ (by exact J.kept (za.drew (λ_=>False) x) (λp=>p)) (o+8) 8 (a-8) (by rw [A.out];omega) (by omega) m T).mono ?_;rintro r D ⟨rfl,N,u⟩;have c:=(u.block w.heap.size R (by omega)).trans d.out;have ay:D.cell? ⟨w.heap.size,1,none⟩=some (.int .i64 (m:Int)):=(cR c rfl);change Hid _ at N u c));have Q:=(lT c);have ak:D.cell? ⟨w.heap.size,4,none⟩=some (.int .i64 (e.at_:Int)):=cR c.out rfl;have X:Hid ((qG (qG l o e.pl.key.data.toList) (o+8) (bytesOf 8 m)).length=l.length):=(jq _ _ _ (by rw [A.out,zP];omega)).trans A.out;go_wp2;go_region_held3 (λw'=>w'.cell? ⟨w.heap.size,4,none⟩=some (.int .i64 (e.at_:Int))) (go_keep) ((go_at_call 138;refine(qO _ b t _ (by exact N.kept (za.drew (λ_=>False) D) (λp=>p)) (o+16) 2 (a-16) (by rw [X.out];omega) (by omega) e.at_ (by omega)).mono ?_;rintro r s ⟨rfl,O,v⟩;have g:=(v.block w.heap.size Q (by omega)).trans c.out;have aa:s.cell? ⟨w.heap.size,4,none⟩=some (.int .i64 (e.at_:Int)):=(cR g rfl);change Hid _ at O v g));have y:s.cell? ⟨w.heap.size,2,none⟩=some (.bool e.mark):=cR g.out rfl;have ag:s.cell? ⟨w.heap.size,3,none⟩=some (.int .i64 (e.size:Int)):=cR g.out rfl;have P:Hid (yK s b t (qG l o (qk e))):=by have:=O.out;rw [G.out] at this;exact this
 have L:Hid (za (λi=>i=b) w s):=(((M.mono fE).trans (za.trans (b:=S.drew) (za.drew _ S) B iL) iL).trans (za.trans (b:=x.drew) (za.drew _ x) u iL) iL).trans (za.trans (b:=D.drew) (za.drew _ D) v iL) iL;have K:Hid ((qG l o (qk e)).length=l.length):=jq _ _ _ (by rw [U.out];omega)
 cases q:e.mark with
 |false=>
  rw [q] at y;have F:Hid (qK e=e.size):=by show qK e=_;unfold qK;rw [q];rfl
  go_wp2_with (go_at_call 138;refine(qO _ b t _ P (o+18) 2 (a-18) (by rw [K.out];omega) (by omega) e.size (by omega)).mono ?_;rintro r ai ⟨rfl,k,n⟩;have z:Hid _:=k;have C:Hid _:=n;clear k n);go_end0;refine⟨rfl,?_,L.trans C iL⟩;have E:=z.out;have j:=I.out;rw [F.out] at j;rw [j] at E;exact E
 |true=>
  rw [q] at y;have F:Hid (qK e=65535):=by show qK e=_;unfold qK;rw [q];rfl
  go_wp2_with (go_at_call 138;refine(qO _ b t _ P (o+18) 2 (a-18) (by rw [K.out];omega) (by omega) 65535 (by omega)).mono ?_;rintro r ai ⟨rfl,k,n⟩;have z:Hid _:=k;have C:Hid _:=n;clear k n);go_end0;refine⟨rfl,?_,L.trans C iL⟩;have E:=z.out;have j:=I.out;rw [F.out] at j;rw [j] at E;exact E
end
end prog
end Go.Proofs.YtcoengihaobddaaGreatDoor
