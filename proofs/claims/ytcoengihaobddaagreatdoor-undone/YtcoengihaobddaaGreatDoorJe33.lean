/- Part 33 of 50 of a proof: Law17, Book5 -/
import Derived.Test.YtcoengihaobddaaGreatDoorJe18
set_option maxHeartbeats 8000000
set_option linter.unusedVariables false
set_option linter.unusedSimpArgs false
set_option maxRecDepth 8000
namespace Go.Proofs.YtcoengihaobddaaGreatDoor
namespace law
open Go.RowKit disk ref book
open keys (zh)
def Z8(v:zw):List Value:=[.string v.key,.int .i64 v.num,.bool v.mark,.int .i64 (v.body.length:Int)]
def zJ(l:List zw):List Value:=(l.map Z8).flatten
structure uv (w w':World) (L:List zw) (m:Nat) (x:Value) (more:Bool):Prop where
 more:more=decide (m<L.length)
 at_:∃a c,x=.slice a (L.take m).length c/\w'.ownsRow 0 94 4 (.slice a (L.take m).length c) (L.take m).length (zJ (L.take m))/\∀k,(Value.slice a (L.take m).length c).ownBlock=some k->w.heap.size<=k
structure yg (M:za):Prop where
 live:∀(w:World) (bd bs:Nat) (S:Nat->Prop) (D:Dk) (V:zP) (p k:ByteArray) (n m:Int),zD M w bd bs S D V->p.size<=maxLen->k.size<=maxLen->zs n->zs m->
  Calls Tryz.prog 45 #[.pointer (some ⟨bs,0,none⟩),.string p,.string k,.int .i64 n,.int .i64 m] w λe w'=>∃D' S' x more,e=.returned (.tuple #[.agg #[x,.bool more],.int .i64 (qR p k n m)])/\xm M w w' bd bs S S' D D' 1000 (some bd)/\M.Live D' V/\
   (qR p k n m=0->∃L,qB V.vs p k n L/\uv w w' L m.toNat x more)/\(qR p k n m≠0->x=.slice none 0 0/\more=false)/\∀j,x.ownBlock=some j->¬S' j
 shut:∀(w:World) (bs:Nat) (p k:ByteArray) (n m:Int),M.Sto w bs none->p.size<=maxLen->k.size<=maxLen->
  Calls Tryz.prog 45 #[.pointer (some ⟨bs,0,none⟩),.string p,.string k,.int .i64 n,.int .i64 m] w λe w'=>e=.returned (.tuple #[.agg #[.slice none 0 0,.bool false],.int .i64 (yH true (qR p k n m))])/\M.Sto w' bs none/\Kept (λk=>k=bs) w w'
end law
namespace law
open Go.ChangeShapes Go.WideShapes Go.ChangeAt Go.RowKit disk ref book
open keys (zg zd zq zl)
theorem u9{w:World}{a:Option Addr}{c:Nat}{e:List zw}(h:w.ownsRow 0 94 4 (.slice a e.length c) e.length (zJ e))(p:0<e.length):∃g,a=some ⟨g,0,none⟩/\g<w.heap.size/\∀k (f:k<e.length),w.cell? ⟨g,k*4,none⟩=some (.string e[k].key)/\w.cell? ⟨g,k*4+1,none⟩=some (.int .i64 e[k].num)/\w.cell? ⟨g,k*4+2,none⟩=some (.bool e[k].mark)/\w.cell? ⟨g,k*4+3,none⟩=some (.int .i64 (e[k].body.length:Int)):=by
 have n:=h;rcases h.2 with⟨_,q⟩|⟨g,cap,o,i,_,m,_⟩;.omega
 .simp only [Value.slice.injEq] at i;obtain⟨rfl,_,rfl⟩:=i;refine⟨g,rfl,(lT m),λk f=>?_⟩
  have d:w.rangeAt g (k*4) ((e.map Z8)[k]'(by simpa using f)):=by refine q9 (l:=e.map Z8) (c:=4) (by rw [eF];exact n) (λb j=>?_) k (by simpa using f);obtain⟨v,_,rfl⟩:=av.1 j;rfl
  rw [ig] at d;exact⟨d 0 _ rfl,d 1 _ rfl,d 2 _ rfl,d 3 _ rfl⟩
theorem Z9(w:World)(g h:Option Addr)(d f:Nat)(b:List zw)(m:Bool)(W:b.length<=1000)(C:w.ownsRow 0 94 4 (.slice g b.length d) b.length (zJ b))(y:w.ownsRow 0 94 4 (.slice h b.length f) b.length (zJ b)):
 Calls Tryz.prog 109 #[.agg #[.slice g b.length d,.bool m],.agg #[.slice h b.length f,.bool m]] w λe w'=>e=.returned (.bool true)/\Kept (λ_=>False) w w':=by
 change Hid _ at C y;have s:Hid (Kept (λ_=>False) w ((w.alloc (.cells #[.slice g b.length d,.bool m] 90)).alloc (.cells #[.slice h b.length f,.bool m] 90))):=(Kept.alloc _ _ _).trans (Kept.alloc _ _ _) iL;have G:Hid (((w.alloc (.cells #[.slice g b.length d,.bool m] 90)).alloc (.cells #[.slice h b.length f,.bool m] 90)).heap[w.heap.size]? =some (.cells #[.slice g b.length d,.bool m] 90 (0,0))):=((Kept.alloc (λ_=>False) _ _).block w.heap.size (by simp) id).trans (heap_alloc_new w _)
 have H:Hid (((w.alloc (.cells #[.slice g b.length d,.bool m] 90)).alloc (.cells #[.slice h b.length f,.bool m] 90)).heap[w.heap.size+1]? =some (.cells #[.slice h b.length f,.bool m] 90 (0,0))):=by have:=heap_alloc_new (w.alloc (.cells #[.slice g b.length d,.bool m] 90)) (.cells #[.slice h b.length f,.bool m] 90);rw [World.size_alloc] at this;exact this
 have L:((w.alloc (.cells #[.slice g b.length d,.bool m] 90)).alloc (.cells #[.slice h b.length f,.bool m] 90)).heap.size=w.heap.size+2:=by simp
 go_enter Tryz.func109,Tryz.ntmps109;go_wp2_with fail;generalize ((w.alloc (.cells #[.slice g b.length d,.bool m] 90)).alloc (.cells #[.slice h b.length f,.bool m] 90))=Q at*;go_loopw [5] (λt wr=>∃i:Nat,i<=b.length/\t=.int .i64 i/\Kept (λ_=>False) Q wr) (λt _=>b.length-(intOf t).toNat)
 case atStart=>exact⟨0,ai _,rfl,Kept.refl _ _⟩
 case round=>
  obtain⟨i,Y,rfl,j⟩:=hrel;have V:=j.size;have A:Hid (wr.heap[w.heap.size]? =_):=(j.block _ (by omega) id).trans G.out;have F:Hid (wr.heap[w.heap.size+1]? =_):=(j.block _ (by omega) id).trans H.out;change Hid _ at j;have ab:wr.cell? ⟨w.heap.size,0,none⟩=some (.slice g b.length d):=cR A.out rfl;have U:wr.cell? ⟨w.heap.size+1,0,none⟩=some (.slice h b.length f):=cR F.out rfl;by_cases p:i<b.length
  .obtain⟨o,rfl,k,q⟩:=u9 C (by omega);obtain⟨n,rfl,l,r⟩:=u9 y (by omega);obtain⟨I,E,z,u⟩:=q i p;obtain⟨x,B,J,D⟩:=r i p;have c:Hid _:=s.trans j iL;have S:=(c.cell (a:=⟨o,i*4,none⟩) k id).trans I;have P:=(c.cell (a:=⟨o,i*4+1,none⟩) k id).trans E;have Z:=(c.cell (a:=⟨o,i*4+2,none⟩) k id).trans z;have O:=(c.cell (a:=⟨o,i*4+3,none⟩) k id).trans u;have T:=(c.cell (a:=⟨n,i*4,none⟩) l id).trans x;have X:=(c.cell (a:=⟨n,i*4+1,none⟩) l id).trans B;have R:=(c.cell (a:=⟨n,i*4+2,none⟩) l id).trans J;have aa:=(c.cell (a:=⟨n,i*4+3,none⟩) l id).trans D;have K:n<wr.heap.size:=by have:=c.size;omega
   clear q r I E z u x B J D;generalize b[i]=v at*;have M:(i:Int)<(b.length:Int):=by omega
   have N:w.heap.size<wr.heap.size/\w.heap.size+1<wr.heap.size:=by omega
   go_wp2;go_roundw
   case rel=>exact⟨i+1,by omega,by go_num,(j.trans (Kept.alloc (λ_=>False) _ _) iL).trans (Kept.alloc (λ_=>False) _ _) iL⟩
   case measure=>simp [intOf];omega
  .have e:i=b.length:=by omega
   subst e;go_wp2;go_ret;exact⟨rfl,s.trans j iL⟩
end law
end Go.Proofs.YtcoengihaobddaaGreatDoor
