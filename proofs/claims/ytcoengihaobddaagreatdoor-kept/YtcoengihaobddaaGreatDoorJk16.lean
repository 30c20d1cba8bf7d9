/- Part 16 of 34 of a proof: Tree1, Tree2, Tree3, Tree4, Tree5, Tree6 -/
import Derived.Test.YtcoengihaobddaaGreatDoorJk15
import Derived.Lib.Bytealg
import Derived.Laws.IdiomStrings
import Derived.Deep.RegionWith
import Derived.Shelf.Abstract
set_option maxHeartbeats 8000000
set_option linter.unusedVariables false
set_option linter.unusedSimpArgs false
set_option maxRecDepth 8000
namespace Go.Proofs.YtcoengihaobddaaGreatDoor
namespace prog
open Go.ChangeShapes Go.WideShapes Go.ChangeAt Go.RowKit disk ref
open keys (ze zd zr zn)
def Xg(a b:ByteArray):Int:=if y6 a b then -1 else if y6 b a then 1 else 0
theorem cmpL:∀a b:List UInt8,Lib.compareBytes a b=if yv a b then -1 else if yv b a then 1 else 0
 |[],[]=>by simp [Lib.compareBytes,yv]
 |[],_::_=>by simp [Lib.compareBytes,yv]
 |_::_,[]=>by simp [Lib.compareBytes,yv]
 |a::l,b::r=>by
  have ih:=cmpL l r
  unfold Lib.compareBytes yv
  by_cases h1:a<b
  ·have:a≠b:=UInt8.ne_of_lt h1
   simp [h1,this]
  ·by_cases h2:b<a
   ·have:a≠b:=(UInt8.ne_of_lt h2).symm
    have h3:b≠a:=this.symm
    simp [h1,h2,this,h3]
   ·have e:a=b:=by
     rw [UInt8.lt_iff_toNat_lt] at h1 h2
     exact UInt8.toNat_inj.1 (by omega)
    subst e
    simp [h1,ih]
theorem Kx(a b:ByteArray):Lib.compareBytes a.data.toList b.data.toList=Xg a b:=cmpL _ _
theorem fX(a b:ByteArray)(w:World):Calls Tryz.prog 211 #[.string a,.string b] w fun e w'=>e=.returned (.int .i64 (Xg a b))∧w'=w:=by
 go_enter Tryz.func211,Tryz.ntmps211
 go_wp2
 rw [run_callFunc_extern Tryz.func217 (by kernel_rfl) (by kernel_rfl) (by kernel_rfl) (e:=Extern.BytealgCompare.compare) (by kernel_rfl),Lib.run_compareString]
 simp only [Result.andThen]
 rw [Oper.upon_value]
 go_wp2
 go_ret
 exact⟨ze (Kx a b),rfl⟩
theorem gV(a b:ByteArray)(w:World):Calls Tryz.prog 204 #[.string a,.string b] w fun e w'=>e=.returned (.int .i64 (Xg a b))∧w'=w:=by
 go_enter Tryz.func204,Tryz.ntmps204
 go_wp2_with (go_at_call 211;refine(fX _ _ _).mono ?_;rintro e w' ⟨rfl,rfl⟩)
 go_ret
 exact⟨rfl,rfl⟩
def Jr(x y:Int):Int:=if x<y then -1 else if y<x then 1 else 0
theorem Xh(x:Int)(w:World):Calls Tryz.prog 212 #[.int .i64 x] w fun e w'=>e=.returned (.bool false)∧w'=w:=by
 go_enter Tryz.func212,Tryz.ntmps212
 go_wp2
 go_ret
 exact⟨rfl,rfl⟩
theorem QF(x y:Int)(w:World):Calls Tryz.prog 205 #[.int .i64 x,.int .i64 y] w fun e w'=>e=.returned (.int .i64 (Jr x y))∧w'=w:=by
 go_enter Tryz.func205,Tryz.ntmps205
 go_wp2_with (go_at_call 212;refine(Xh _ _).mono ?_;rintro e w' ⟨rfl,rfl⟩)
 all_goals
  go_ret
  refine⟨ze ?_,rfl⟩
  unfold Jr
  (repeat' split)<;>omega
def VN(x y:Int):Int:=if x=0 then y else x
theorem Xi(w:World)(b:Nat)(x y:Int)(h0:w.cell? ⟨b,0,none⟩=some (.int .i64 x))(h1:w.cell? ⟨b,1,none⟩=some (.int .i64 y)):
 Calls Tryz.prog 203 #[.slice (some ⟨b,0,none⟩) 2 2] w fun e w'=>e=.returned (.int .i64 (VN x y))∧w'=w:=by
 go_enter Tryz.func203,Tryz.ntmps203
 go_wp2
 go_loop [8] (fun t=>∃k:Nat,k≤2∧t=.int .i64 k∧(1≤k→x=0)∧(2≤k→y=0)) (fun t=>2-(intOf t).toNat)
 case atStart=>exact⟨0,by omega,rfl,by omega,by omega⟩
 case round=>
  obtain⟨k,hk,rfl,hx,hy⟩:=hrel
  rcases (by omega:k=0∨k=1∨k=2) with rfl|rfl|rfl
  ·by_cases h:x=0
   ·subst h
    go_wp2
    go_round
    case rel=>exact⟨1,by omega,by go_num,by simp,by omega⟩
    case measure=>simp [intOf]
   ·have h2:(x !=0)=true:=by simpa using h
    have HX:Hid _:=h
    go_wp2
    go_ret
    exact⟨ze (if_neg HX.out).symm,rfl⟩
  ·have hx0:=hx (by omega)
   subst hx0
   by_cases h:y=0
   ·subst h
    go_wp2
    go_round
    case rel=>exact⟨2,by omega,by go_num,by simp,by simp⟩
    case measure=>simp [intOf]
   ·have h2:(y !=0)=true:=by simpa using h
    go_wp2
    go_ret
    exact⟨ze (if_pos rfl).symm,rfl⟩
  ·have hx0:=hx (by omega)
   have hy0:=hy (by omega)
   subst hx0
   subst hy0
   go_wp2
   go_ret
   exact⟨rfl,rfl⟩
def gW(a b:Pl):Int:=VN (Xg a.key b.key) (Jr b.num a.num)
theorem Js(a b:Pl):gW a b<0↔a.lt b=true:=by
 unfold gW VN Xg Jr
 rw [Pl.lt_iff]
 cases h1:y6 a.key b.key
 ·cases h2:y6 b.key a.key
  ·have e:a.key=b.key:=by
    by_cases e:a.key=b.key
    ·exact e
    ·have:=uE e h1;rw [h2] at this;cases this
   simp [e]
   by_cases h3:b.num<a.num
   ·simp [h3]
   ·by_cases h4:a.num<b.num
    ·simp [h3,h4]
    ·simp [h3,h4]
  ·have e:a.key≠b.key:=fun e=>by rw [e,vk] at h2;cases h2
   simp [e]
 ·simp
def Uq(a:Pl):Value:=.agg #[.string a.key,.int .i64 a.num]
theorem bD(w:World)(a b:Pl):Calls Tryz.prog 197 #[.agg #[.string a.key,.int .i64 a.num],.agg #[.string b.key,.int .i64 b.num]] w fun e w'=>e=.returned (.int .i64 (gW a b))∧Kept (fun _=>False) w w':=by
 go_enter Tryz.func197,Tryz.ntmps197
 go_wp2
 have h20:((w.alloc (.cells #[.string a.key,.int .i64 a.num] 107)).alloc (.cells #[.string b.key,.int .i64 b.num] 107)).cell? ⟨w.heap.size,0,none⟩=some (.string a.key):=by simp
 have h21:((w.alloc (.cells #[.string a.key,.int .i64 a.num] 107)).alloc (.cells #[.string b.key,.int .i64 b.num] 107)).cell? ⟨w.heap.size,1,none⟩=some (.int .i64 a.num):=by simp
 have h30:((w.alloc (.cells #[.string a.key,.int .i64 a.num] 107)).alloc (.cells #[.string b.key,.int .i64 b.num] 107)).cell? ⟨w.heap.size+1,0,none⟩=some (.string b.key):=by simp
 have h31:((w.alloc (.cells #[.string a.key,.int .i64 a.num] 107)).alloc (.cells #[.string b.key,.int .i64 b.num] 107)).cell? ⟨w.heap.size+1,1,none⟩=some (.int .i64 b.num):=by simp
 have HK:Hid (Kept (fun _=>False) w ((w.alloc (.cells #[.string a.key,.int .i64 a.num] 107)).alloc (.cells #[.string b.key,.int .i64 b.num] 107))):=(Kept.alloc _ _ _).trans (Kept.alloc _ _ _) iL
 generalize ((w.alloc (.cells #[.string a.key,.int .i64 a.num] 107)).alloc (.cells #[.string b.key,.int .i64 b.num] 107))=W at*
 go_region_held3 (fun w'=>w'.cell? ⟨w.heap.size,0,none⟩=some (.string a.key)∧w'.cell? ⟨w.heap.size,1,none⟩=some (.int .i64 a.num)∧w'.cell? ⟨w.heap.size+1,0,none⟩=some (.string b.key)∧w'.cell? ⟨w.heap.size+1,1,none⟩=some (.int .i64 b.num)) (go_keep) ((first
  |(go_at_call 204;refine(gV _ _ _).mono ?_;rintro e w' ⟨rfl,rfl⟩)
  |(go_at_call 205;refine(QF _ _ _).mono ?_;rintro e w' ⟨rfl,rfl⟩)
  |(go_at_call 203;refine(Xi _ _ (Xg a.key b.key) (Jr b.num a.num) (by simp) (by simp)).mono ?_;rintro e w' ⟨rfl,rfl⟩)))
 all_goals
  go_wp2
  go_ret
  exact⟨rfl,(HK.out.trans (Kept.alloc (fun _=>False) W _) iL).trans (Kept.drew (fun _=>False) _) iL⟩
def qp(e:En):List Value:=[.string e.pl.key,.int .i64 e.pl.num,.bool e.mark,.int .i64 (e.size:Int),.int .i64 (e.at_:Int)]
structure zH (w:World) (P:Nat→Prop) (a:Option Addr) (es:List En):Prop where
 at_:es=[]∨∃g o,a=some ⟨g,o,none⟩∧P g∧g<w.heap.size∧∀k (hk:k<es.length),w.rangeAt g (o+k*5) (qp es[k])
 few:es.length≤1000
theorem zH.kept{w w':World}{P X:Nat→Prop}{a:Option Addr}{es:List En}(h:zH w P a es)(k:Kept X w w')(hn:∀i,P i→¬X i):zH w' P a es:=
 ⟨h.at_.imp id (fun ⟨g,o,h1,h2,h3,h4⟩=>⟨g,o,h1,h2,Nat.lt_of_lt_of_le h3 k.size,fun j hj t v hv=>(k.cell (a:=⟨g,o+j*5+t,none⟩) h3 (hn g h2)).trans (h4 j hj t v hv)⟩),h.few⟩
theorem zH.cells{w:World}{P:Nat→Prop}{g o:Nat}{es:List En}(h:zH w P (some ⟨g,o,none⟩) es)(k:Nat)(hk:k<es.length):
 w.cell? ⟨g,o+k*5,none⟩=some (.string es[k].pl.key)∧w.cell? ⟨g,o+k*5+1,none⟩=some (.int .i64 es[k].pl.num)∧w.cell? ⟨g,o+k*5+2,none⟩=some (.bool es[k].mark)∧w.cell? ⟨g,o+k*5+3,none⟩=some (.int .i64 (es[k].size:Int))∧w.cell? ⟨g,o+k*5+4,none⟩=some (.int .i64 (es[k].at_:Int))∧P g∧g<w.heap.size:=by
 rcases h.at_ with h0|⟨g',o',h1,h2,h3,h4⟩
 ·rw [h0] at hk;simp at hk
 ·cases h1
  have hx:=h4 k hk
  exact⟨hx 0 _ rfl,hx 1 _ rfl,hx 2 _ rfl,hx 3 _ rfl,hx 4 _ rfl,h2,h3⟩
theorem zH.base{w:World}{P:Nat→Prop}{a:Option Addr}{es:List En}(h:zH w P a es)(hn:0<es.length):∃g o,a=some ⟨g,o,none⟩:=by
 rcases h.at_ with h0|⟨g,o,h1,_⟩
 ·rw [h0] at hn;simp at hn
 ·exact⟨g,o,h1⟩
theorem ua(w:World)(e:En)(p:Pl):Calls Tryz.prog 196 #[.agg #[.string e.pl.key,.int .i64 e.pl.num,.bool e.mark,.int .i64 (e.size:Int),.int .i64 (e.at_:Int)],.agg #[.string p.key,.int .i64 p.num]] w fun r w'=>r=.returned (.int .i64 (gW e.pl p))∧Kept (fun _=>False) w w':=by
 go_enter Tryz.func196,Tryz.ntmps196
 go_wp2_with (go_at_call 197;refine(bD _ e.pl p).mono ?_;rintro r w1 ⟨rfl,hk1⟩;have HK1:Hid _:=hk1;clear hk1)
 go_ret
 exact⟨rfl,((Kept.alloc (fun _=>False) w _).trans (Kept.alloc _ _ _) iL).trans HK1.out iL⟩
theorem fY(w:World)(P:Nat→Prop)(a:Option Addr)(cap:Nat)(es:List En)(h:zH w P a es)(hs:yg es)(p:Pl):
 Calls Tryz.prog 195 #[.slice a es.length cap,.agg #[.string p.key,.int .i64 p.num],.func (.func 196) #[] #[]] w fun r w'=>(∃f,r=.returned (.tuple #[.int .i64 (zm es p:Nat),.bool f]))∧Kept (fun _=>False) w w':=by
 have HH:Hid _:=h
 have HS:Hid (yg es):=hs
 have hfew:=h.few
 have hfl:=xh es p
 have HK0:Hid (Kept (fun _=>False) w (w.alloc (.cells #[.string p.key,.int .i64 p.num] 107))):=Kept.alloc _ _ _
 clear h hs
 go_enter Tryz.func195,Tryz.ntmps195
 go_wp2
 have HB0:Hid ((w.alloc (.cells #[.string p.key,.int .i64 p.num] 107)).heap[w.heap.size]? =some (.cells #[.string p.key,.int .i64 p.num] 107 (0,0))):=heap_alloc_new w _
 have hsz:(w.alloc (.cells #[.string p.key,.int .i64 p.num] 107)).heap.size=w.heap.size+1:=by simp
 generalize (w.alloc (.cells #[.string p.key,.int .i64 p.num] 107))=W at*
 go_loopw [9,10] (fun x y wr=>∃i j:Nat,i≤zm es p∧zm es p≤j∧j≤es.length∧x=.int .i64 i∧y=.int .i64 j∧Kept (fun _=>False) W wr) (fun x y _=>(intOf y-intOf x).toNat)
 case atStart=>exact⟨0,es.length,by omega,hfl,by omega,rfl,rfl,Kept.refl _ _⟩
 case round=>
  obtain⟨i,j,hi,hj,hjl,rfl,rfl,hkept⟩:=hrel
  have HK:Hid _:=hkept
  have HKW:Hid (Kept (fun _=>False) w wr):=HK0.out.trans hkept iL
  have hbp:wr.heap[w.heap.size]? =some (.cells #[.string p.key,.int .i64 p.num] 107 (0,0)):=(hkept.block w.heap.size (by omega) (fun hf=>hf)).trans HB0.out
  have hp0:wr.cell? ⟨w.heap.size,0,none⟩=some (.string p.key):=cR hbp rfl
  have hp1:wr.cell? ⟨w.heap.size,1,none⟩=some (.int .i64 p.num):=cR hbp rfl
  have hwl:w.heap.size<wr.heap.size:=(lT hbp)
  clear hkept hbp
  by_cases hlt:i<j
  ·obtain⟨g,o,rfl⟩:=HH.out.base (by omega)
   have hm:(i+j)/2<es.length:=by omega
   obtain⟨c0,c1,c2,c3,c4,hPg,hgl⟩:=(HH.out.kept HKW.out nF).cells ((i+j)/2) hm
   have HAT:Hid (gW es[(i+j)/2].pl p<0↔(i+j)/2<zm es p):=by
    show gW es[(i+j)/2].pl p<0↔(i+j)/2<zm es p
    rw [Js,HS.out.at_lt p _ hm];simp
   generalize hmm:(i+j)/2=m at*
   have HMM:Hid ((i+j)/2=m):=hmm
   generalize es[m]=e at*
   have hm0:((i:Int)+(j:Int))/2=(m:Int):=by omega
   clear hmm
   have hmI:(m:Int)<(es.length:Int):=by omega
   by_cases hcmp:gW e.pl p<0
   ·have HC:Hid _:=HAT.out.1 hcmp
    go_wp2
    go_region_held3 (fun w'=>w'.cell? ⟨g,o+m*5,none⟩=some (.string e.pl.key)∧w'.cell? ⟨g,o+m*5+1,none⟩=some (.int .i64 e.pl.num)∧w'.cell? ⟨g,o+m*5+2,none⟩=some (.bool e.mark)∧w'.cell? ⟨g,o+m*5+3,none⟩=some (.int .i64 (e.size:Int))∧w'.cell? ⟨g,o+m*5+4,none⟩=some (.int .i64 (e.at_:Int))∧w'.cell? ⟨w.heap.size,0,none⟩=some (.string p.key)∧w'.cell? ⟨w.heap.size,1,none⟩=some (.int .i64 p.num)) (go_keep) ((go_at_call 196;refine(ua _ e p).mono ?_;rintro r w1 ⟨rfl,hk1⟩;have HK1:Hid (Kept (fun _=>False) wr.drew w1):=hk1;have d0:=(hk1.cell (a:=⟨g,o+m*5,none⟩) hgl (fun hf=>hf)).trans c0;have d1:=(hk1.cell (a:=⟨g,o+m*5+1,none⟩) hgl (fun hf=>hf)).trans c1;have d2:=(hk1.cell (a:=⟨g,o+m*5+2,none⟩) hgl (fun hf=>hf)).trans c2;have d3:=(hk1.cell (a:=⟨g,o+m*5+3,none⟩) hgl (fun hf=>hf)).trans c3;have d4:=(hk1.cell (a:=⟨g,o+m*5+4,none⟩) hgl (fun hf=>hf)).trans c4;have q0:=(hk1.cell (a:=⟨w.heap.size,0,none⟩) hwl (fun hf=>hf)).trans hp0;have q1:=(hk1.cell (a:=⟨w.heap.size,1,none⟩) hwl (fun hf=>hf)).trans hp1;clear hk1))
    all_goals
     go_wp2
     go_roundw
     case rel=>exact⟨m+1,j,by have:=HC.out;omega,by omega,by omega,by go_num,rfl,HK.out.trans (Kept.trans (b:=wr.drew) (Kept.drew _ _) HK1.out iL) iL⟩
     case measure=>have:=HMM.out;simp only [intOf];omega
   ·have HC:Hid (zm es p≤m):=Nat.le_of_not_lt (mt HAT.out.2 hcmp)
    go_wp2
    go_region_held3 (fun w'=>w'.cell? ⟨g,o+m*5,none⟩=some (.string e.pl.key)∧w'.cell? ⟨g,o+m*5+1,none⟩=some (.int .i64 e.pl.num)∧w'.cell? ⟨g,o+m*5+2,none⟩=some (.bool e.mark)∧w'.cell? ⟨g,o+m*5+3,none⟩=some (.int .i64 (e.size:Int))∧w'.cell? ⟨g,o+m*5+4,none⟩=some (.int .i64 (e.at_:Int))∧w'.cell? ⟨w.heap.size,0,none⟩=some (.string p.key)∧w'.cell? ⟨w.heap.size,1,none⟩=some (.int .i64 p.num)) (go_keep) ((go_at_call 196;refine(ua _ e p).mono ?_;rintro r w1 ⟨rfl,hk1⟩;have HK1:Hid (Kept (fun _=>False) wr.drew w1):=hk1;have d0:=(hk1.cell (a:=⟨g,o+m*5,none⟩) hgl (fun hf=>hf)).trans c0;have d1:=(hk1.cell (a:=⟨g,o+m*5+1,none⟩) hgl (fun hf=>hf)).trans c1;have d2:=(hk1.cell (a:=⟨g,o+m*5+2,none⟩) hgl (fun hf=>hf)).trans c2;have d3:=(hk1.cell (a:=⟨g,o+m*5+3,none⟩) hgl (fun hf=>hf)).trans c3;have d4:=(hk1.cell (a:=⟨g,o+m*5+4,none⟩) hgl (fun hf=>hf)).trans c4;have q0:=(hk1.cell (a:=⟨w.heap.size,0,none⟩) hwl (fun hf=>hf)).trans hp0;have q1:=(hk1.cell (a:=⟨w.heap.size,1,none⟩) hwl (fun hf=>hf)).trans hp1;clear hk1))
    all_goals
     go_wp2
     go_roundw
     case rel=>exact⟨i,m,by omega,by have:=HC.out;omega,by omega,rfl,rfl,HK.out.trans (Kept.trans (b:=wr.drew) (Kept.drew _ _) HK1.out iL) iL⟩
     case measure=>have:=HMM.out;simp only [intOf];omega
  ·have e1:i=zm es p:=by omega
   have HE:Hid _:=e1
   by_cases hin:i<es.length
   ·obtain⟨g,o,rfl⟩:=HH.out.base (by omega)
    obtain⟨c0,c1,c2,c3,c4,hPg,hgl⟩:=(HH.out.kept HKW.out nF).cells i hin
    generalize es[i]=e at*
    have hmI:(i:Int)<(es.length:Int):=by omega
    clear e1
    go_wp2
    go_region_held3 (fun w'=>w'.cell? ⟨g,o+i*5,none⟩=some (.string e.pl.key)∧w'.cell? ⟨g,o+i*5+1,none⟩=some (.int .i64 e.pl.num)∧w'.cell? ⟨g,o+i*5+2,none⟩=some (.bool e.mark)∧w'.cell? ⟨g,o+i*5+3,none⟩=some (.int .i64 (e.size:Int))∧w'.cell? ⟨g,o+i*5+4,none⟩=some (.int .i64 (e.at_:Int))∧w'.cell? ⟨w.heap.size,0,none⟩=some (.string p.key)∧w'.cell? ⟨w.heap.size,1,none⟩=some (.int .i64 p.num)) (go_keep) ((go_at_call 196;refine(ua _ e p).mono ?_;rintro r w1 ⟨rfl,hk1⟩;have HK1:Hid (Kept (fun _=>False) wr.drew w1):=hk1;have d0:=(hk1.cell (a:=⟨g,o+i*5,none⟩) hgl (fun hf=>hf)).trans c0;have d1:=(hk1.cell (a:=⟨g,o+i*5+1,none⟩) hgl (fun hf=>hf)).trans c1;have d2:=(hk1.cell (a:=⟨g,o+i*5+2,none⟩) hgl (fun hf=>hf)).trans c2;have d3:=(hk1.cell (a:=⟨g,o+i*5+3,none⟩) hgl (fun hf=>hf)).trans c3;have d4:=(hk1.cell (a:=⟨g,o+i*5+4,none⟩) hgl (fun hf=>hf)).trans c4;have q0:=(hk1.cell (a:=⟨w.heap.size,0,none⟩) hwl (fun hf=>hf)).trans hp0;have q1:=(hk1.cell (a:=⟨w.heap.size,1,none⟩) hwl (fun hf=>hf)).trans hp1;clear hk1))
    all_goals
     go_wp2
     go_ret2
     exact⟨⟨_,by rw [←HE.out];rfl⟩,HKW.out.trans (Kept.trans (b:=wr.drew) (Kept.drew _ _) HK1.out iL) iL⟩
   ·have hmI:decide ((i:Int)<(es.length:Int))=false:=decide_eq_false (by omega)
    clear e1
    go_wp2
    go_quiet (fail)
    go_wp2
    go_ret2
    exact⟨⟨_,by rw [←HE.out];rfl⟩,HKW.out.trans (S':=fun _=>False) kD iL⟩
theorem Kept.alloc2(w:World)(o1 o2:Obj):Kept (fun _=>False) w ((w.alloc o1).alloc o2):=(Kept.alloc _ _ _).trans (Kept.alloc _ _ _) iL
theorem xC(w:World)(P:Nat→Prop)(a:Option Addr)(cap:Nat)(es:List En)(h:zH w P a es)(hs:yg es)(k:Int)(p:Pl):
 Calls Tryz.prog 175 #[.agg #[.int .u8 k,.slice a es.length cap],.agg #[.string p.key,.int .i64 p.num]] w fun r w'=>r=.returned (.int .i64 (zm es p:Nat))∧Kept (fun _=>False) w w':=by
 have HH:Hid _:=h
 have HS:Hid (yg es):=hs
 clear h hs
 have HK0:Hid (Kept (fun _=>False) w ((w.alloc (.cells #[.int .u8 k,.slice a es.length cap] 209)).alloc (.cells #[.string p.key,.int .i64 p.num] 107))):=Kept.alloc2 _ _ _
 go_enter Tryz.func175,Tryz.ntmps175
 go_wp2_with (go_at_call 195;refine(fY _ P a cap es (HH.out.kept HK0.out nF) HS.out p).mono ?_;rintro r w1 ⟨⟨f,rfl⟩,hk1⟩;have HK1:Hid _:=hk1;clear hk1)
 go_ret
 exact⟨rfl,HK0.out.trans HK1.out iL⟩
theorem j8(w:World)(P:Nat→Prop)(a:Option Addr)(cap:Nat)(es:List En)(h:zH w P a es)(hs:yg es)(k:Int)(p:Pl):
 Calls Tryz.prog 176 #[.agg #[.int .u8 k,.slice a es.length cap],.agg #[.string p.key,.int .i64 p.num]] w fun r w'=>r=.returned (.int .i64 (zw es p:Nat))∧Kept (fun _=>False) w w':=by
 have HH:Hid _:=h
 have HS:Hid (yg es):=hs
 have hfew:=h.few
 have hfl:=xh es p
 clear h hs
 have HK0:Hid (Kept (fun _=>False) w ((w.alloc (.cells #[.int .u8 k,.slice a es.length cap] 209)).alloc (.cells #[.string p.key,.int .i64 p.num] 107))):=Kept.alloc2 _ _ _
 go_enter Tryz.func176,Tryz.ntmps176
 go_wp2_with (go_at_call 175;refine(xC _ P a cap es (HH.out.kept HK0.out nF) HS.out k p).mono ?_;rintro r w1 ⟨rfl,hk1⟩;have HK1:Hid (Kept (fun _=>False) _ w1):=hk1;have hn1:w1.cell? ⟨w.heap.size,1,none⟩=some (.slice a es.length cap):=(hk1.cell (a:=⟨w.heap.size,1,none⟩) (by simp;omega) (fun hf=>hf)).trans (by simp);have hp0:w1.cell? ⟨w.heap.size+1,0,none⟩=some (.string p.key):=(hk1.cell (a:=⟨w.heap.size+1,0,none⟩) (by simp) (fun hf=>hf)).trans (by simp);have hp1:w1.cell? ⟨w.heap.size+1,1,none⟩=some (.int .i64 p.num):=(hk1.cell (a:=⟨w.heap.size+1,1,none⟩) (by simp) (fun hf=>hf)).trans (by simp);have HR1:Hid (zH w1 P a es):=(HH.out.kept HK0.out nF).kept hk1 nF;clear hk1)
 have HKW:Hid (Kept (fun _=>False) w w1):=HK0.out.trans HK1.out iL
 by_cases hin:zm es p<es.length
 ·obtain⟨g,o,rfl⟩:=HR1.out.base (by omega)
  obtain⟨c0,c1,c2,c3,c4,hPg,hgl⟩:=HR1.out.cells (zm es p) hin
  have hmI:((zm es p:Nat):Int)<(es.length:Int):=by omega
  by_cases heq:es[zm es p].pl=p
  ·have HE:Hid (zw es p=zm es p):=by show zw es p=_;unfold zw;rw [dif_pos hin,if_pos heq]
   have hk2:es[zm es p].pl.key=p.key:=by rw [heq]
   have hn2:es[zm es p].pl.num=p.num:=by rw [heq]
   rw [hk2] at c0
   rw [hn2] at c1
   clear heq hk2 hn2
   generalize zm es p=m at*
   go_quiet (fail)
   go_wp2
   go_ret
   exact⟨by rw [HE.out];rfl,HKW.out.trans (S':=fun _=>False) kD iL⟩
  ·have HE:Hid (zw es p=zm es p-1):=by show zw es p=_;unfold zw;rw [dif_pos hin,if_neg heq]
   have hne:¬(es[zm es p].pl.key=p.key∧es[zm es p].pl.num=p.num):=fun ⟨h1,h2⟩=>heq (by cases hx:es[zm es p].pl;cases p;rw [hx] at h1 h2;simp only at h1 h2;rw [h1,h2])
   clear heq
   generalize zm es p=m at*
   generalize es[m].pl.key=ek at*
   generalize es[m].pl.num=en at*
   by_cases hkk:ek=p.key
   ·subst hkk
    have hnn:(en==p.num)=false:=by simpa using hne
    go_quiet (fail)
    go_wp2
    all_goals
     go_ret
     exact⟨ze (by rw [HE.out];omega),HKW.out.trans (S':=fun _=>False) kD iL⟩
   ·have hkk2:(ek.toList==p.key.toList)=false:=by
     have:=mt vn.1 hkk
     simpa using this
    go_quiet (fail)
    go_wp2
    all_goals
     go_ret
     exact⟨ze (by rw [HE.out];omega),HKW.out.trans (S':=fun _=>False) kD iL⟩
 ·have HE:Hid (zw es p=zm es p-1):=by show zw es p=_;unfold zw;rw [dif_neg hin]
  have hmI:decide (((zm es p:Nat):Int)<(es.length:Int))=false:=decide_eq_false (by omega)
  generalize zm es p=m at*
  go_quiet (fail)
  go_wp2
  all_goals
   go_ret
   exact⟨ze (by rw [HE.out];omega),HKW.out.trans (S':=fun _=>False) kD iL⟩
theorem QG(r:ByteArray)(h:0<r.size):r.data.toList=(r.extract 0 (r.size-1)).data.toList++[r[r.size-1]]:=by
 rw [ByteArray.data_extract,Array.toList_extract]
 have hl:r.data.toList.length=r.size:=by simp
 rw [List.extract_eq_take_drop,List.drop_zero,Nat.sub_zero]
 have:r[r.size-1]=r.data.toList[r.size-1]'(by omega):=by simp;rfl
 rw [this,←List.take_succ_eq_append_getElem (by omega),List.take_of_length_le (by omega)]
theorem Jt{l:List UInt8}{b:UInt8}(h:b≠0):cut (l++[b])=l++[b]:=by
 unfold cut
 rw [List.reverse_append,List.reverse_singleton,List.singleton_append,List.dropWhile_cons,if_neg (by simpa using h),List.reverse_cons,List.reverse_reverse]
theorem Ju{l m:List UInt8}{b:UInt8}(h:l=m++[b])(hb:b=0):cut l=cut m:=by rw [h,hb,cL]
theorem Jv{l m:List UInt8}{b:UInt8}(h:l=m++[b])(hb:¬b=0):cut l=l:=by rw [h,Jt hb]
theorem bG(w:World)(s:ByteArray)(hs:s.size≤1000):
 Calls Tryz.prog 207 #[.string s,.int .u8 0] w fun e w'=>(∃r:ByteArray,e=.returned (.string r)∧r.data.toList=cut s.data.toList)∧w'=w:=by
 go_enter Tryz.func207,Tryz.ntmps207
 go_wp2
 go_loop [0] (fun t=>∃r:ByteArray,t=.string r∧cut r.data.toList=cut s.data.toList∧r.size≤1000) (fun t=>match t with|.string r=>r.size|_=>0)
 case atStart=>exact⟨s,rfl,rfl,hs⟩
 case round=>
  obtain⟨r,rfl,hr,hl⟩:=hrel
  have HR:Hid (cut r.data.toList=cut s.data.toList):=hr
  clear hr
  by_cases h0:0<r.size
  ·have HSN:Hid _:=QG r h0
   by_cases hz:r[r.size-1]=0
   ·have hz2:((r[r.size-1].toNat:Int)==0)=true:=by rw [hz];rfl
    have HZ:Hid _:=hz
    clear hz
    go_wp2
    go_round
    case rel=>exact⟨r.extract 0 (r.size-1),rfl,by rw [←HR.out,Ju HSN.out HZ.out],by simp;omega⟩
    case measure=>simp;omega
   ·have hz2:((r[r.size-1].toNat:Int)==0)=false:=by
     have:r[r.size-1].toNat≠0:=fun e=>hz (UInt8.toNat_inj.1 e)
     simp;omega
    have HZ:Hid (¬r[r.size-1]=0):=hz
    clear hz
    go_wp2
    go_ret
    exact⟨⟨r,rfl,by rw [←HR.out,Jv HSN.out HZ.out]⟩,rfl⟩
  ·have hrl:r.data.toList.length=r.size:=by simp
   have HE:Hid (r.data.toList=[]):=List.eq_nil_of_length_eq_zero (by omega)
   clear hrl
   go_wp2
   go_ret
   exact⟨⟨r,rfl,by rw [←HR.out,HE.out];rfl⟩,rfl⟩
theorem ja(w:World)(s:ByteArray)(hs:s.size≤1000):
 Calls Tryz.prog 202 #[.string s,.string ⟨#[0]⟩] w fun e w'=>(∃r:ByteArray,e=.returned (.string r)∧r.data.toList=cut s.data.toList)∧w'=w:=by
 by_cases h0:s.toList=[]
 ·have HE:Hid (s.data.toList=[]):=by show s.data.toList=[];rw [←ByteArray.toList_eq];exact h0
  go_enter Tryz.func202,Tryz.ntmps202
  go_wp2
  go_ret
  exact⟨⟨s,rfl,by rw [HE.out];rfl⟩,rfl⟩
 ·have h1:(s.toList==[])=false:=by simpa using h0
  go_enter Tryz.func202,Tryz.ntmps202
  go_wp2_with (go_at_call 207;refine(bG _ s hs).mono ?_;rintro e w' ⟨⟨r,rfl,hr⟩,rfl⟩;have HR:Hid _:=hr;clear hr)
  go_ret
  exact⟨⟨r,rfl,HR.out⟩,rfl⟩
def Vh:Array Value:=#[.string ⟨#[]⟩,.int .i64 0,.bool false,.int .i64 0,.int .i64 0]
theorem cV(w:World)(b:Nat)(t:TypeId)(l:List UInt8)(h:yl w b t l)(o cap:Nat)(ho:o+8≤l.length)(k:List UInt8)(hk:(l.drop o).take 8=k):
 (convert 35 9 (.slice (some ⟨b,o,none⟩) 8 cap)).run Tryz.prog w=.ok (.string ⟨k.toArray⟩) w:=by
 have hkl:k.length=8:=by rw [←hk];simp;omega
 have:=run_convert_bytes_back (P:=Tryz.prog) w 35 9 5 ⟨b,o,none⟩ cap k Tryz.underlying35 Tryz.underlying5 Tryz.underlying9 (fun j hj=>by
  rw [Addr.add_mid,h.cell (o+j) (by omega)]
  subst hk
  simp)
 rw [hkl] at this
 exact this
theorem yQ(l:List UInt8)(o i n m:Nat)(h:i+n≤m):(((l.drop o).take m).drop i).take n=(l.drop (o+i)).take n:=by
 rw [List.drop_take,List.take_take,Nat.min_eq_left (by omega),List.drop_drop]
theorem gX(w:World)(b:Nat)(t:TypeId)(l:List UInt8)(h:yl w b t l)(o cap:Nat)(ho:o+20≤l.length)(hcap:20≤cap)(e:En)(he:e.Ok)(hi:(l.drop o).take 20=jg e):
 Calls Tryz.prog 194 #[.int .u8 5,.slice (some ⟨b,o,none⟩) 20 cap] w fun r w'=>r=.returned (.agg (qp e).toArray)∧Kept (fun _=>False) w w':=by
 have HH:Hid _:=h
 have HE:Hid _:=he
 obtain⟨p1,p2,p3,p4⟩:=vv he (bytesOf 2 (qB e))
 have e0:zZ e++bytesOf 2 (qB e)=(l.drop o).take 20:=hi.symm
 rw [e0] at p1 p2 p3 p4
 have q1:(l.drop o).take 8=keyBytes e.pl.key:=by rw [←p1,List.take_take];rfl
 have q2:(l.drop (o+8)).take 8=bytesOf 8 e.pl.num.toNat:=by rw [←p2,yQ _ _ _ _ _ (by omega)]
 have q3:(l.drop (o+16)).take 2=bytesOf 2 e.at_:=by rw [←p3,yQ _ _ _ _ _ (by omega)]
 have q4:(l.drop (o+18)).take 2=bytesOf 2 (qB e):=by rw [←p4,List.drop_take,List.drop_drop]
 have Q2:Hid (numOf ((l.drop (o+8)).take 8)=e.pl.num.toNat):=by
  show numOf ((l.drop (o+8)).take 8)=e.pl.num.toNat
  have:=cN he
  rw [q2];omega
 have Q3:Hid (numOf ((l.drop (o+16)).take 2)=e.at_):=by show numOf ((l.drop (o+16)).take 2)=e.at_;rw [q3];exact Yz he
 have Q4:Hid (numOf ((l.drop (o+18)).take 2)=qB e):=by show numOf ((l.drop (o+18)).take 2)=qB e;rw [q4];exact Xe he
 have hn1:=he.num1
 have hn0:=he.num0
 have hat:=he.at_
 have hsz:=he.size
 have hkk:∀(r:ByteArray),r.data.toList=cut (ByteArray.data ⟨(keyBytes e.pl.key).toArray⟩).toList→r=e.pl.key:=fun r hr=>jY (by rw [hr];exact Yy _ he.zero)
 have HKK:Hid _:=hkk
 have hksz:(ByteArray.size ⟨(keyBytes e.pl.key).toArray⟩)≤1000:=by
  have:(ByteArray.size ⟨(keyBytes e.pl.key).toArray⟩)=(keyBytes e.pl.key).length:=by simp [ByteArray.size]
  rw [this,yD _ he.key];omega
 have HKSZ:Hid _:=hksz
 have HK0:Hid (Kept (fun _=>False) w ((w.alloc (.cells Vh 109)).alloc (.cells Vh 109))):=Kept.alloc2 _ _ _
 have hconv:=cV _ b t l (HH.out.kept HK0.out (fun hf=>hf)) o cap (by omega) _ q1
 unfold Vh at hconv
 clear p1 p2 p3 p4 e0 hi q1 q2 q3 q4 h he hkk hksz
 have hnn:((e.pl.num.toNat:Nat):Int)=e.pl.num:=by omega
 have HNN:Hid _:=hnn
 have HMK:Hid (e.mark=true→e.size=0):=HE.out.mark
 have hks:∀(wq:World) (o1 o2:Obj),wq=(w.alloc o1).alloc o2→yl wq b t l:=fun wq o1 o2 e=>by rw [e];exact HH.out.kept (Kept.alloc2 w _ _) (fun hf=>hf)
 have HKS:Hid _:=hks
 clear hks hnn
 cases hmk:e.mark with
 |false=>
  have HM:Hid _:=hmk
  have hse:qB e=e.size:=by simp [qB,hmk]
  rw [hse] at Q4
  have hne:((e.size:Int)==65535)=false:=by simp;omega
  clear hmk hse
  go_enter Tryz.func194,Tryz.ntmps194
  go_wp2_with fail
  refine(ja _ _ HKSZ.out).mono ?_
  rintro r w1 ⟨⟨r,rfl,hr⟩,hw⟩
  rw [hw]
  have hr2:=HKK.out r hr
  subst hr2
  clear hr hw w1
  go_wp2_with fail
  refine(ye _ b t l (HKS.out _ _ _ rfl) (o+8) 8 (cap-8) e.pl.num.toNat (by omega) (by omega) Q2.out (by omega)).mono ?_
  rintro r w1 ⟨rfl,hw⟩
  rw [hw,HNN.out]
  clear hw w1
  go_wp2_with fail
  refine(ye _ b t l (HKS.out _ _ _ rfl) (o+16) 2 (cap-16) e.at_ (by omega) (by omega) Q3.out (by omega)).mono ?_
  rintro r w1 ⟨rfl,hw⟩
  rw [hw]
  clear hw w1
  go_wp2_with fail
  refine(ye _ b t l (HKS.out _ _ _ rfl) (o+18) 2 (cap-18) e.size (by omega) (by omega) Q4.out (by omega)).mono ?_
  rintro r w1 ⟨rfl,hw⟩
  rw [hw]
  clear hw w1
  go_wp2
  refine bodyPost_ret (v:=.agg (qp e).toArray) (results_cell_row Tryz.results194 _ _ w.heap.size 109 (qp e).toArray (0,0) _ rfl (by rw [heap_alloc2_old];unfold qp;rw [HM.out]) Tryz.underlying109 rfl (by kernel_rfl)) rfl ⟨rfl,Kept.alloc2 _ _ _⟩
 |true=>
  have HM:Hid _:=hmk
  have hse:qB e=65535:=by simp [qB,hmk]
  rw [hse] at Q4
  have HZ:Hid (e.size=0):=HMK.out hmk
  clear hmk hse
  go_enter Tryz.func194,Tryz.ntmps194
  go_wp2_with fail
  refine(ja _ _ HKSZ.out).mono ?_
  rintro r w1 ⟨⟨r,rfl,hr⟩,hw⟩
  rw [hw]
  have hr2:=HKK.out r hr
  subst hr2
  clear hr hw w1
  go_wp2_with fail
  refine(ye _ b t l (HKS.out _ _ _ rfl) (o+8) 8 (cap-8) e.pl.num.toNat (by omega) (by omega) Q2.out (by omega)).mono ?_
  rintro r w1 ⟨rfl,hw⟩
  rw [hw,HNN.out]
  clear hw w1
  go_wp2_with fail
  refine(ye _ b t l (HKS.out _ _ _ rfl) (o+16) 2 (cap-16) e.at_ (by omega) (by omega) Q3.out (by omega)).mono ?_
  rintro r w1 ⟨rfl,hw⟩
  rw [hw]
  clear hw w1
  go_wp2_with fail
  refine(ye _ b t l (HKS.out _ _ _ rfl) (o+18) 2 (cap-18) 65535 (by omega) (by omega) Q4.out (by omega)).mono ?_
  rintro r w1 ⟨rfl,hw⟩
  rw [hw]
  clear hw w1
  go_wp2
  refine bodyPost_ret (v:=.agg (qp e).toArray) (results_cell_row Tryz.results194 _ _ w.heap.size 109 (qp e).toArray (0,0) _ rfl (by rw [heap_alloc2_old];unfold qp;rw [HM.out,HZ.out];rfl) Tryz.underlying109 rfl (by kernel_rfl)) rfl ⟨rfl,Kept.alloc2 _ _ _⟩
theorem ub(w:World)(b:Nat)(t:TypeId)(l:List UInt8)(h:yl w b t l)(o cap:Nat)(ho:o+18≤l.length)(hcap:18≤cap)(e:En)(he:e.Ok)(hi:(l.drop o).take 18=zZ e)(hm:e.mark=false)(hz:e.size=0):
 Calls Tryz.prog 194 #[.int .u8 4,.slice (some ⟨b,o,none⟩) 18 cap] w fun r w'=>r=.returned (.agg (qp e).toArray)∧Kept (fun _=>False) w w':=by
 have HH:Hid _:=h
 have HE:Hid _:=he
 obtain⟨p1,p2,p3,p4⟩:=vv he []
 have e0:zZ e++[]=(l.drop o).take 18:=by rw [List.append_nil];exact hi.symm
 rw [e0] at p1 p2 p3 p4
 have q1:(l.drop o).take 8=keyBytes e.pl.key:=by rw [←p1,List.take_take];rfl
 have q2:(l.drop (o+8)).take 8=bytesOf 8 e.pl.num.toNat:=by rw [←p2,yQ _ _ _ _ _ (by omega)]
 have q3:(l.drop (o+16)).take 2=bytesOf 2 e.at_:=by rw [←p3,yQ _ _ _ _ _ (by omega)]
 have Q2:Hid (numOf ((l.drop (o+8)).take 8)=e.pl.num.toNat):=by
  show numOf ((l.drop (o+8)).take 8)=e.pl.num.toNat
  have:=cN he
  rw [q2];omega
 have Q3:Hid (numOf ((l.drop (o+16)).take 2)=e.at_):=by show numOf ((l.drop (o+16)).take 2)=e.at_;rw [q3];exact Yz he
 have hn1:=he.num1
 have hn0:=he.num0
 have hat:=he.at_
 have hsz:=he.size
 have hkk:∀(r:ByteArray),r.data.toList=cut (ByteArray.data ⟨(keyBytes e.pl.key).toArray⟩).toList→r=e.pl.key:=fun r hr=>jY (by rw [hr];exact Yy _ he.zero)
 have HKK:Hid _:=hkk
 have hksz:(ByteArray.size ⟨(keyBytes e.pl.key).toArray⟩)≤1000:=by
  have:(ByteArray.size ⟨(keyBytes e.pl.key).toArray⟩)=(keyBytes e.pl.key).length:=by simp [ByteArray.size]
  rw [this,yD _ he.key];omega
 have HKSZ:Hid _:=hksz
 have HK0:Hid (Kept (fun _=>False) w ((w.alloc (.cells Vh 109)).alloc (.cells Vh 109))):=Kept.alloc2 _ _ _
 have hconv:=cV _ b t l (HH.out.kept HK0.out (fun hf=>hf)) o cap (by omega) _ q1
 unfold Vh at hconv
 clear p1 p2 p3 p4 e0 hi q1 q2 q3 h he hkk hksz
 have hnn:((e.pl.num.toNat:Nat):Int)=e.pl.num:=by omega
 have HNN:Hid _:=hnn
 have HM:Hid _:=hm
 have HZ:Hid _:=hz
 clear hm hz
 have hks:∀(wq:World) (o1 o2:Obj),wq=(w.alloc o1).alloc o2→yl wq b t l:=fun wq o1 o2 e=>by rw [e];exact HH.out.kept (Kept.alloc2 w _ _) (fun hf=>hf)
 have HKS:Hid _:=hks
 clear hks hnn
 go_enter Tryz.func194,Tryz.ntmps194
 go_wp2_with fail
 refine(ja _ _ HKSZ.out).mono ?_
 rintro r w1 ⟨⟨r,rfl,hr⟩,hw⟩
 rw [hw]
 have hr2:=HKK.out r hr
 subst hr2
 clear hr hw w1
 go_wp2_with fail
 refine(ye _ b t l (HKS.out _ _ _ rfl) (o+8) 8 (cap-8) e.pl.num.toNat (by omega) (by omega) Q2.out (by omega)).mono ?_
 rintro r w1 ⟨rfl,hw⟩
 rw [hw,HNN.out]
 clear hw w1
 go_wp2_with fail
 refine(ye _ b t l (HKS.out _ _ _ rfl) (o+16) 2 (cap-16) e.at_ (by omega) (by omega) Q3.out (by omega)).mono ?_
 rintro r w1 ⟨rfl,hw⟩
 rw [hw]
 clear hw w1
 go_wp2
 refine bodyPost_ret (v:=.agg (qp e).toArray) (results_cell_row Tryz.results194 _ _ w.heap.size 109 (qp e).toArray (0,0) _ rfl (by rw [heap_alloc2_old];unfold qp;rw [HM.out,HZ.out];rfl) Tryz.underlying109 rfl (by kernel_rfl)) rfl ⟨rfl,Kept.alloc2 _ _ _⟩
theorem Tryz.infoEntry:(Tryz.prog.info? 109).map (fun i=>(i.zero,i.size,i.bytes))=some (some (.agg #[.string ⟨#[]⟩,.int .i64 0,.bool false,.int .i64 0,.int .i64 0]),5,48):=by kernel_rfl
theorem zH.of_own{w:World}{a:Option Addr}{cap:Nat}{es:List En}{P:Nat→Prop}(h:w.ownsRow 0 109 5 (.slice a es.length cap) es.length (es.map qp).flatten)(hP:∀j,(Value.slice a es.length cap).ownBlock=some j→P j)(hl:es.length≤1000):zH w P a es:=by
 refine⟨?_,hl⟩
 rcases h.2 with⟨_,h1⟩|⟨g,cap',cur,hv,_,hg,_⟩
 ·exact .inl (List.eq_nil_of_length_eq_zero h1)
 ·cases hv
  refine .inr ⟨g,0,rfl,hP g rfl,(lT hg),fun k hk=>?_⟩
  have hr:=h
  rw [show es.length=(es.map qp).length from by simp] at hr
  have:=qI hr (fun b hb=>by obtain⟨e,_,rfl⟩:=List.mem_map.1 hb;rfl) k (by simpa using hk)
  simpa using this
def QH(args:Array Value):Sem Value:=Builtin.append_ #[207, 207] 207 args
theorem gl(args:Array Value):Builtin.append_ #[207, 207] 207 args=QH args:=rfl
theorem cW(w:World)(a':Option Addr)(i cap':Nat)(xs:List Value)(hown:w.ownsRow 0 109 5 (.slice a' i cap') i xs)(b:Nat)(e:En)(hb:w.heap[b]? =some (.cells (qp e).toArray 109 (0,0)))(hi:i≤1000):
 ∃g cap w',(QH #[.slice a' i cap',.slice (some ⟨b,0,none⟩) 1 1]).run Tryz.prog w=.ok (.slice (some ⟨g,0,none⟩) (i+1) cap) w'∧w'.ownsRow 0 109 5 (.slice (some ⟨g,0,none⟩) (i+1) cap) (i+1) (xs++qp e)∧w.grownBy w' (Value.slice a' i cap').ownBlock∧((Value.slice a' i cap').ownBlock=some g∨g=w.heap.size)∧g<w'.heap.size:=by
 obtain⟨i0,hi0,hz0,hz1,hz2⟩:=info_parts Tryz.infoEntry
 exact run_append_lies (P:=Tryz.prog) (w:=w) 207 207 0 109 i0 _ 5 48 Tryz.underlying207 hi0 hz0 hz1 hz2 rfl (by omega) (.slice a' i cap') i xs hown ⟨b,0,none⟩ 1 1 (qp e) rfl (World.news_of_block hb) (by simp [qp,Value.oneCell']) (by omega) (by unfold maxLen;omega) (by omega) (Nat.zero_le _) _ rfl
structure Jw (T:TypeId) (f:FuncId) (a:Addr):Prop where
 meth:∀w,(method 392 T (.pointer (some a)) "Read").run Tryz.prog w=.ok (f,.pointer (some a)) w
 ent:∀args w,(callFunc f args).run Tryz.prog w=.ok (.enter f args) w
theorem ud(a:Addr):Jw 29 81 a:=⟨fun w=>by kernel_rfl,enters_of Tryz.func81 (by kernel_rfl) rfl⟩
theorem gY(a:Addr):Jw 142 192 a:=⟨fun w=>by kernel_rfl,enters_of Tryz.func192 (by kernel_rfl) rfl⟩
theorem K3{wr w3:World}{b6 i cap' B k:Nat}{a':Option Addr}{xs:List Value}(hb6:wr.heap[b6]? =some (.cells #[.int .u8 (k:Int),.slice a' i cap'] 209 (0,0)))(hrow:wr.ownsRow 0 109 5 (.slice a' i cap') i xs)(hfresh:∀j,(Value.slice a' i cap').ownBlock=some j→B≤j)(hB:b6<B)(hk3:Kept (fun _=>False) wr.drew w3)(e:En)(hi:i≤1000):
 w3.cell? ⟨b6,0,none⟩=some (.int .u8 (k:Int))∧w3.cell? ⟨b6,1,none⟩=some (.slice a' i cap')∧w3.frozen? ⟨b6,1,none⟩=false∧b6<w3.heap.size∧
  ∃g cp w4,(QH #[.slice a' i cap',.slice (some ⟨w3.heap.size,0,none⟩) 1 1]).run Tryz.prog (w3.alloc (.cells (qp e).toArray 109))=.ok (.slice (some ⟨g,0,none⟩) (i+1) cp) w4∧w4.cell? ⟨b6,1,none⟩=some (.slice a' i cap')∧w4.frozen? ⟨b6,1,none⟩=false∧
   (Kept (fun j=>j=b6∨B≤j) wr (w4.setCell ⟨b6,1,none⟩ (.slice (some ⟨g,0,none⟩) (i+1) cp))∧(w4.setCell ⟨b6,1,none⟩ (.slice (some ⟨g,0,none⟩) (i+1) cp)).heap[b6]? =some (.cells #[.int .u8 (k:Int),.slice (some ⟨g,0,none⟩) (i+1) cp] 209 (0,0))∧
    (w4.setCell ⟨b6,1,none⟩ (.slice (some ⟨g,0,none⟩) (i+1) cp)).ownsRow 0 109 5 (.slice (some ⟨g,0,none⟩) (i+1) cp) (i+1) (xs++qp e)∧∀j,(Value.slice (some ⟨g,0,none⟩) (i+1) cp).ownBlock=some j→B≤j∨wr.heap.size≤j):=by
 have hlt:=(lT hb6)
 have k03:Kept (fun _=>False) wr w3:=Kept.trans (b:=wr.drew) (Kept.drew _ wr) hk3 iL
 have hb3:w3.heap[b6]? =_:=(k03.block b6 hlt (fun hf=>hf)).trans hb6
 have hlt3:=(lT hb3)
 have kA:Kept (fun _=>False) w3 (w3.alloc (.cells (qp e).toArray 109)):=Kept.alloc _ _ _
 have hbA:(w3.alloc (.cells (qp e).toArray 109)).heap[b6]? =_:=(kA.block b6 hlt3 (fun hf=>hf)).trans hb3
 refine⟨cR hb3 rfl,cR hb3 rfl,frozen_of_row w3 b6 1 _ _ hb3,hlt3,?_⟩
 obtain⟨g,cp,w4,hrun,hown,hgrow,hat,hgl⟩:=cW (w3.alloc (.cells (qp e).toArray 109)) a' i cap' xs ((k03.trans kA iL).owns hrow nF) w3.heap.size e (heap_alloc_new w3 _) hi
 have kG:Kept (fun j=>(Value.slice a' i cap').ownBlock=some j) (w3.alloc (.cells (qp e).toArray 109)) w4:=Kept.grown hgrow (fun j hj=>hj)
 have hb4:w4.heap[b6]? =_:=(kG.block b6 (lT hbA) (fun hc=>by have:=hfresh b6 hc;omega)).trans hbA
 have kS:=Kept.setCell (S:=fun j=>j=b6) w4 ⟨b6,1,none⟩ (.slice (some ⟨g,0,none⟩) (i+1) cp) rfl
 have hsA:(w3.alloc (.cells (qp e).toArray 109)).heap.size=w3.heap.size+1:=by simp
 have hg:B≤g∨wr.heap.size≤g:=by
  rcases hat with h1|h1
  ·exact .inl (hfresh g h1)
  ·right;have:=k03.size;omega
 refine⟨g,cp,w4,hrun,cR hb4 rfl,frozen_of_row w4 b6 1 _ _ hb4,?_,?_,?_,fun j hj=>by simp [Value.ownBlock] at hj;rw [←hj];exact hg⟩
 ·exact(((k03.trans kA iL).mono fE).trans kG (fun j hj=>.inl (.inr (hfresh j hj)))).trans kS (fun j hj=>.inl (.inl hj))
 ·rw [heap_setCell_same w4 b6 1 _ _ _ hb4];rfl
 ·refine kS.owns hown (fun j hj e0=>?_)
  simp [Value.ownBlock] at hj
  rcases hg with h1|h1<;>omega
theorem fZ(w:World)(b:Nat)(t:TypeId)(l:List UInt8)(h:yl w b t l)(k o cap:Nat)(hk:k=4∨k=5)(ho:o+zk k≤l.length)(hcap:zk k≤cap)(e:En)(he:e.Ok)(hi:(l.drop o).take (zk k)=xB k e)(h4:k=4→e.mark=false∧e.size=0):
 Calls Tryz.prog 194 #[.int .u8 (k:Int),.slice (some ⟨b,o,none⟩) (zk k) cap] w fun r w'=>r=.returned (.agg (qp e).toArray)∧Kept (fun _=>False) w w':=by
 rcases hk with rfl|rfl
 ·exact ub w b t l h o cap ho hcap e he hi (h4 rfl).1 (h4 rfl).2
 ·exact gX w b t l h o cap ho hcap e he hi
section
attribute [local go_sem ↓] gl
theorem cX(w:World)(T:TypeId)(f:FuncId)(a:Addr)(hrd:Jw T f a)(X:Nat→Prop)(R:World→Prop)(at_:Nat)(k:Nat)(es:List En)(hk:k=4∨k=5)(hes:∀e∈es,e.Ok)(h4:k=4→∀e∈es,e.mark=false∧e.size=0)(hlen:es.length≤6)
 (hcall:∀w0,Kept (fun _=>False) w w0→Calls Tryz.prog f #[.pointer (some a),.int .i64 at_] w0 fun e w1=>e=.returned (.agg (zl (za k es)).toArray)∧Kept X w0 w1∧R w1) (hX:∀i,X i→i<w.heap.size):
 Calls Tryz.prog 174 #[.iface T (.pointer (some a)),.int .i64 at_] w fun e w'=>∃w1 a' cap',e=.returned (.agg #[.int .u8 (k:Int),.slice a' es.length cap'])∧Kept X w w1∧R w1∧Kept (fun i=>w.heap.size≤i) w1 w'∧zH w' (fun b=>w.heap.size≤b) a' es∧w'.ownsRow 0 109 5 (.slice a' es.length cap') es.length (es.map qp).flatten∧(∀j,(Value.slice a' es.length cap').ownBlock=some j→w.heap.size≤j):=by
 obtain⟨Zb,hZb,hz⟩:∃Zb:List Value,Zb=zT∧∀w,(zeroValue 154).run Tryz.prog w=.ok (.agg Zb.toArray) w:=⟨zT,rfl,zV Tryz.infoPage⟩
 have HZb:Hid (zy Zb):=by rw [hZb];exact zF
 clear hZb
 have HI:Hid ((Tryz.prog.info? 154).map (·.size)=some 128):=zS Tryz.infoPage
 have hmeth:=hrd.meth
 have hent:=hrd.ent
 have HPO:Hid (za k es).Ok:=dr hk hes hlen
 have HBO:Hid (zy (zl (za k es))):=qP HPO.out
 have HC:Hid _:=hcall
 have HK0:Hid (Kept (fun _=>False) w (w.alloc (.cells #[.int .u8 0,.slice none 0 0] 209))):=Kept.alloc _ _ _
 clear hcall
 go_enter Tryz.func174,Tryz.ntmps174
 go_wp2_with fail
 refine(HC.out _ HK0.out).mono ?_
 rintro e w1 ⟨rfl,hk1,hR⟩
 have HK1:Hid _:=hk1
 have HR:Hid (R w1):=hR
 clear hk1 hR
 go_wp2_with (first
  |(show wpList _ _ _ ({dst:=none,op:=.store _ (.tmp 5) (.tmp 10),type:=_,pos:=_,after:=_,guard:=_}::_) _ _;refine zg rfl 154 (.tmp 5) (.tmp 10) rfl _ _ (zl (za k es)) (by simp) rfl rfl (by rw [HBO.out.1];exact HI.out) (by rw [List.size_toArray,HZb.out.1,HBO.out.1]) HBO.out.2 ?_;have HP:Hid (qu (w1.alloc (.cells (zl (za k es)).toArray 154)) w1.heap.size (za k es)):=⟨⟨heap_alloc_new w1 _⟩,HPO.out⟩)
  |(go_at_call 144;refine(jN _ _ _ HP.out).mono ?_;rintro e w2 ⟨rfl,rfl⟩;have hkd:(za k es).kind=k:=rfl;rw [hkd]))
 have HPW:Hid (qu ((w1.alloc (.cells (zl (za k es)).toArray 154)).alloc (.cells #[.int .u8 (k:Int),.slice none 0 0] 209)) w1.heap.size (za k es)):=HP.out.kept (Kept.alloc (fun _=>False) _ _) (fun hf=>hf)
 refine(j7 _ _ _ HPW.out).mono ?_
 rintro e w2 ⟨rfl,hw⟩
 rw [hw]
 have hcnt:(za k es).items.length=es.length:=by simp [za]
 rw [hcnt]
 clear hw w2 hkd
 have HB6:Hid (((w1.alloc (.cells (zl (za k es)).toArray 154)).alloc (.cells #[.int .u8 (k:Int),.slice none 0 0] 209)).heap[w1.heap.size+1]? =some (.cells #[.int .u8 (k:Int),.slice none 0 0] 209 (0,0))):=heap_alloc2_new w1 _ _
 have HK2:Hid (Kept (fun _=>False) w1 ((w1.alloc (.cells (zl (za k es)).toArray 154)).alloc (.cells #[.int .u8 (k:Int),.slice none 0 0] 209))):=Kept.alloc2 _ _ _
 have hWs:((w1.alloc (.cells (zl (za k es)).toArray 154)).alloc (.cells #[.int .u8 (k:Int),.slice none 0 0] 209)).heap.size=w1.heap.size+2:=by simp
 have hs1:w.heap.size+1≤w1.heap.size:=by have:=HK1.out.size;simpa using this
 generalize ((w1.alloc (.cells (zl (za k es)).toArray 154)).alloc (.cells #[.int .u8 (k:Int),.slice none 0 0] 209))=W at*
 obtain⟨i0,hi0,hz0,hz1,hz2⟩:=info_parts Tryz.infoEntry
 have HI0:Hid (Tryz.prog.info? 109=some i0∧i0.zero=some (.agg #[.string ⟨#[]⟩,.int .i64 0,.bool false,.int .i64 0,.int .i64 0])∧i0.size=5∧i0.bytes=48):=⟨hi0,hz0,hz1,hz2⟩
 clear hi0 hz0 hz1 hz2 hmeth hent
 go_wp2
 go_loopw [14] (fun t wr=>∃(i:Nat) (a':Option Addr) (cap':Nat),i≤es.length∧t=.int .i64 i∧Kept (fun j=>j=w1.heap.size+1∨W.heap.size≤j) W wr∧wr.heap[w1.heap.size+1]? =some (.cells #[.int .u8 (k:Int),.slice a' i cap'] 209 (0,0))∧wr.ownsRow 0 109 5 (.slice a' i cap') i ((es.take i).map qp).flatten∧∀j,(Value.slice a' i cap').ownBlock=some j→W.heap.size≤j) (fun t _=>es.length-(intOf t).toNat)
 case atStart=>exact⟨0,none,0,Nat.zero_le _,rfl,Kept.refl _ _,HB6.out,World.ownsRow_nil _ 0 109 5,fun j hj=>by cases hj⟩
 case round=>
  obtain⟨i,a',cap',hi,rfl,hkept,hb6,hrow,hfresh⟩:=hrel
  have HK:Hid _:=hkept
  have HB:Hid _:=hb6
  have HW:Hid _:=hrow
  have HF:Hid _:=hfresh
  have hc0:wr.cell? ⟨w1.heap.size+1,0,none⟩=some (.int .u8 (k:Int)):=cR hb6 rfl
  have hc1:wr.cell? ⟨w1.heap.size+1,1,none⟩=some (.slice a' i cap'):=cR hb6 rfl
  have hf1:=frozen_of_row wr (w1.heap.size+1) 1 _ _ hb6
  have hlt6:=(lT hb6)
  have HPR:Hid (qu wr w1.heap.size (za k es)):=HPW.out.kept hkept (fun hc=>by omega)
  clear hkept hb6 hrow hfresh
  by_cases hlt:i<es.length
  ·have hitem:(za k es).items.length=es.length:=hcnt
   have HIT:Hid ((za k es).items[i]'(by rw [hcnt];exact hlt)=xB k es[i]):=by show (za k es).items[i]'(by rw [hcnt];exact hlt)=_;simp [za]
   have HEO:Hid es[i].Ok:=hes _ (List.getElem_mem hlt)
   have HIB:=HPO.out.item i (by rw [hcnt];exact hlt)
   rw [HIT.out] at HIB
   have HSN:Hid ((es.take (i+1)).map qp=(es.take i).map qp++[qp es[i]]):=by show _=_;rw [List.take_succ_eq_append_getElem hlt,List.map_append];rfl
   have HIT2:Hid (cQ w1.heap.size (za k es).kind i=.slice (some ⟨w1.heap.size,4+i*zk k,none⟩) (zk k) (124-i*zk k)):=rfl
   have HIB2:Hid (((za k es).bytes.drop (4+i*zk k)).take (zk k)=xB k es[i]):=HIB
   have hpl:=HPO.out.len
   have hfit:i*zk k+zk k≤124:=by
    have h1:(i+1)*zk k≤(za k es).items.length*zk k:=Nat.mul_le_mul_right _ (by rw [hcnt];exact hlt)
    have h2:=HPO.out.fits
    have h3:(za k es).kind=k:=rfl
    rw [h3] at h2
    rw [Nat.add_mul,Nat.one_mul] at h1
    omega
   have hw1:1≤zk k:=by rcases hk with rfl|rfl<;>decide
   have H4:Hid (k=4→es[i].mark=false∧es[i].size=0):=fun h=>h4 h _ (List.getElem_mem hlt)
   clear HIB
   generalize es[i]=e at*
   generalize hx:i*zk k=x at*
   go_wp2
   go_region_law ((first
    |(go_simp;go_at_call 84;refine(cU _ w1.heap.size (za k es) (by exact HPR.out.kept (Kept.drew (fun _=>False) wr) (fun hf=>hf)) i (by rw [hcnt];exact hlt) (by exact hw1)).mono ?_;rintro r w3 ⟨rfl,hw3⟩;rw [hw3,HIT2.out];clear hw3 w3;dsimp only)
    |(go_simp;go_at_call 194;refine(fZ _ w1.heap.size _ _ (by exact(HPR.out.kept (Kept.drew (fun _=>False) wr) (fun hf=>hf)).bs) k (4+x) (124-x) hk (by omega) (by omega) e HEO.out HIB2.out H4.out).mono ?_;rintro r w3 ⟨rfl,hk3⟩;have HLM:Hid _:=K3 HB.out HW.out HF.out (by omega) hk3 e (by omega);obtain⟨hc03,hc13,hf13,hlt63,g,cp,w4,hrun,hc14,hf14,hdone⟩:=HLM.out;have HDN:Hid _:=hdone;clear hk3 hdone HLM;unfold qp at hrun ⊢;dsimp only)))
   all_goals
    go_wp2
    go_roundw
    case rel=>
     obtain⟨d1,d2,d3,d4⟩:=HDN.out
     refine⟨i+1,some ⟨g,0,none⟩,cp,by omega,by go_num,HK.out.trans d1 (fun j hj=>.inl hj),d2,?_,fun j hj=>?_⟩
     ·rw [HSN.out,List.flatten_append];simpa using d3
     ·rcases d4 j hj with h1|h1
      ·exact h1
      ·have:=HK.out.size;omega
    case measure=>simp [intOf];omega
  ·have hie:i=es.length:=by omega
   subst hie
   have HRES:Hid (wr.heap[w.heap.size]? =some (.cells #[.int .u8 0,.slice none 0 0] 209 (0,0))):=by
    show wr.heap[w.heap.size]? =_
    rw [HK.out.block w.heap.size (by omega) (by omega),HK2.out.block w.heap.size (by omega) (fun hf=>hf),HK1.out.block w.heap.size (by simp) (fun hc=>by have:=hX _ hc;omega)]
    exact heap_alloc_new w _
   have hr0:wr.cell? ⟨w.heap.size,0,none⟩=some (.int .u8 0):=cR HRES.out rfl
   have hr1:wr.cell? ⟨w.heap.size,1,none⟩=some (.slice none 0 0):=cR HRES.out rfl
   have hrf0:=frozen_of_row wr w.heap.size 0 _ _ HRES.out
   have hrf1:=frozen_of_row wr w.heap.size 1 _ _ HRES.out
   go_wp2
   have hh1:=heap_setCell_same wr w.heap.size 0 _ _ (.int .u8 (k:Int)) HRES.out
   have hh2:=heap_setCell_same _ w.heap.size 1 _ _ (.slice a' es.length cap') hh1
   have hkS:Kept (fun j=>j=w.heap.size) wr ((wr.setCell ⟨w.heap.size,0,none⟩ (.int .u8 (k:Int))).setCell ⟨w.heap.size,1,none⟩ (.slice a' es.length cap')):=(Kept.setCell (S:=fun j=>j=w.heap.size) wr ⟨w.heap.size,0,none⟩ _ rfl).trans (Kept.setCell (S:=fun j=>j=w.heap.size) _ ⟨w.heap.size,1,none⟩ _ rfl) iL
   refine bodyPost_ret (v:=.agg #[.int .u8 (k:Int),.slice a' es.length cap']) (results_cell_row Tryz.results174 _ _ w.heap.size 209 _ (0,0) _ rfl hh2 Tryz.underlying209 rfl (by kernel_rfl)) rfl ⟨w1,a',cap',rfl,?_,HR.out,?_,?_⟩
   ·exact(HK0.out.mono fE).trans HK1.out iL
   ·exact((HK2.out.mono fE).trans HK.out (fun j hj=>.inl (by omega))).trans hkS (fun j hj=>.inl (by omega))
   ·have hw:=HW.out
    rw [List.take_length] at hw
    have hrow:=hkS.owns (v:=.slice a' es.length cap') hw (fun j hj e0=>by have:=HF.out j hj;omega)
    exact⟨zH.of_own hrow (fun j hj=>by have:=HF.out j hj;omega) (by omega),hrow,fun j hj=>by have:=HF.out j hj;omega⟩
end
end prog
end Go.Proofs.YtcoengihaobddaaGreatDoor
