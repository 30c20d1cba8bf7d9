/- Part 1 of 36 of a proof: DiskWorld, DiskRows, RefData, RefWorld, Mem, KeysWalks, Disk1, Disk2 -/
import Derived.Test.YtcoengihaobddaaGreatDoorRows
import Derived.WalkKit
import Derived.ProofKit
import Derived.Deep.MidRow
import Derived.Laws.AppendOwn
import Derived.Deep.AppendLies
import Derived.OpenShut
import Derived.ShutString
import Derived.Laws.MakeOwn
set_option maxHeartbeats 8000000
set_option linter.unusedVariables false
set_option linter.unusedSimpArgs false
set_option maxRecDepth 8000
namespace Go.Proofs.YtcoengihaobddaaGreatDoor
abbrev aa:=@Go.frozen_of_row
abbrev ac:=@Go.heap_alloc_new
abbrev ae:=@List.length_cons
abbrev af:=@List.mem_append_left
abbrev ag:=@List.length_append
abbrev ah:=@List.mem_append
abbrev ai:=@List.getElem_mem
abbrev aj:=@Nat.zero_le
abbrev ak:=@List.append_assoc
abbrev al:=@List.mem_cons_self
abbrev am:=@List.mem_cons_of_mem
abbrev an:=@List.take_of_length_le
abbrev ao:=@List.take_succ_eq_append_getElem
abbrev aq:=@List.size_toArray
abbrev ar:=@List.mem_cons
abbrev au:=@List.mem_map
abbrev av:=@List.mem_append_right
abbrev aw:=@if_neg
abbrev ay:=@Nat.lt_of_lt_of_le
abbrev az:=@List.mem_singleton
abbrev aA:=@List.getD_eq_getElem?_getD
abbrev aB:=@if_pos
abbrev aC:=@List.length_take
abbrev aD:=@Nat.le_trans
abbrev aE:=@List.take_append_drop
abbrev aF:=@Nat.le_refl
abbrev aG:=@Go.cell_of_row
abbrev aH:=@List.getElem?_eq_getElem
abbrev aI:=@List.drop_eq_getElem_cons
abbrev aJ:=@decide_eq_true
abbrev aK:=@List.nil_append
abbrev aL:=@List.pairwise_cons
abbrev aM:=@List.append_nil
abbrev aN:=@List.nodup_append
abbrev aO:=@List.map_cons
abbrev aP:=@List.mem_of_mem_take
abbrev aQ:=@List.forall_mem_cons
abbrev aR:=@decide_eq_true_eq
abbrev aS:=@List.length_drop
abbrev aT:=@List.cons_append
abbrev aU:=@List.flatten_cons
abbrev aV:=@Go.World.ownsRow_nil
abbrev aW:=@Bool.and_eq_true
abbrev aX:=@List.pairwise_append
abbrev aY:=@List.eq_nil_of_length_eq_zero
abbrev aZ:=@List.take_append_of_le_length
abbrev a8:=@Nat.min_eq_left
abbrev a9:=@Int.add_assoc
abbrev eb:=@Int.le_refl
abbrev ed:=@List.getElem_of_mem
abbrev ee:=@Nat.mul_le_mul_right
abbrev eh:=@List.map_append
abbrev ei:=@List.mem_filter
abbrev eo:=@List.drop_of_length_le
abbrev er:=@Go.World.ownsRow.alloc
abbrev et:=@List.getElem?_eq_some_iff
abbrev ew:=@List.length_set
abbrev ez:=@List.length_map
abbrev eA:=@List.drop_drop
abbrev eB:=@List.pairwise_iff_getElem
abbrev eC:=@Go.ByteArray.toList_eq
abbrev eD:=@Go.Result.andThen_ok
abbrev eE:=@Nat.le_of_eq
abbrev eF:=@Go.heap_alloc2_new
abbrev eG:=@Option.some.inj
abbrev eH:=@List.cons.injEq
abbrev eI:=@trivial
abbrev eJ:=@Nat.add_mul
abbrev eK:=@List.mem_of_mem_drop
abbrev eM:=@List.perm_append_comm
abbrev eN:=@List.take_length
abbrev eO:=@Go.Addr.add_mid
abbrev eQ:=@List.findIdx?_eq_some_iff_getElem
abbrev eR:=@List.Perm.refl
abbrev eS:=@Prod.mk.injEq
abbrev eT:=@Nat.zero_add
abbrev eU:=@List.filter_eq_self
abbrev eV:=@List.flatten_append
abbrev eW:=@List.mem_flatten
abbrev eX:=@List.filter_cons
abbrev eY:=@List.drop_append_of_le_length
abbrev eZ:=@Go.info_parts
abbrev hE:=@List.set_eq_take_append_cons_drop
abbrev hO:=@List.length_nil
abbrev ia:=@List.getElem_map
abbrev ic:=@List.not_mem_nil
abbrev ie:=@Go.Sem.run_bind
abbrev ig:=@List.map_nil
abbrev ii:=@Go.run_underlying
abbrev ij:=@Option.some.injEq
abbrev ik:=@Array.length_toList
abbrev il:=@List.mem_or_eq_of_mem_set
abbrev im:=@List.findIdx?_eq_none_iff
abbrev io:=@List.getElem?_append_left
abbrev ip:=@List.length_filter_le
abbrev iq:=@List.length_singleton
abbrev ir:=@Go.heap_setCell_other
abbrev iu:=@List.take_take
abbrev iw:=@Ne.symm
abbrev ix:=@of_decide_eq_true
abbrev iy:=@Bool.not_eq_true'
abbrev iz:=@List.take_succ_cons
abbrev iA:=@List.filter_eq_nil_iff
abbrev iB:=@List.getElem?_append_right
abbrev iC:=@List.length_eraseIdx_of_lt
abbrev iD:=@List.all_eq_true
abbrev iE:=@List.take_left
abbrev iF:=@of_decide_eq_false
abbrev iG:=@Nat.add_comm
abbrev iH:=@List.getElem_append_left
abbrev iI:=@Go.Sem.run_pure
abbrev iJ:=@Nat.lt_or_ge
abbrev iK:=@List.getElem?_set_ne
abbrev iM:=@List.nodup_cons
abbrev iN:=@Array.replicate_succ
abbrev iO:=@Array.replicate_zero
abbrev iP:=@List.map_take
abbrev iQ:=@List.toList_toArray
abbrev iR:=@List.append_toArray
abbrev iS:=@List.drop_left
abbrev iT:=@Option.getD_some
abbrev iU:=@Nat.one_mul
abbrev iV:=@List.append_eq_nil_iff
abbrev iW:=@List.drop_length_add_append
abbrev iX:=@List.append_of_mem
abbrev iY:=@Bool.or_eq_true
abbrev iZ:=@Array.getElem?_toList
abbrev i3:=@List.Perm.append_left
abbrev i4:=@Bool.eq_false_iff
abbrev i5:=@List.push_toArray
abbrev i6:=@List.getElem_append_right
abbrev i7:=@Array.getElem?_eq_getElem
abbrev i8:=@List.mem_take_iff_getElem
abbrev i9:=@List.Pairwise.filter
abbrev lf:=@Nat.pow_le_pow_right
abbrev lg:=@Bool.or_eq_false_iff
abbrev lh:=@Nat.le_of_lt
abbrev li:=@List.map_toArray
abbrev lj:=@List.eq_of_mem_replicate
abbrev lm:=@List.drop_length
abbrev ln:=@List.map_map
abbrev lp:=@List.drop_succ_cons
abbrev lq:=@List.replicate_append_replicate
abbrev lr:=@List.eraseIdx_eq_take_drop_succ
abbrev lw:=@Int.eq_ofNat_of_zero_le
abbrev lx:=@Nat.add_sub_cancel_left
abbrev ly:=@Nat.le_mul_of_pos_right
abbrev lz:=@List.find?_eq_none
abbrev lA:=@List.getElem?_set_self
abbrev lB:=@UInt8.lt_iff_toNat_lt
abbrev lC:=@Int.le_trans
abbrev lD:=@Nat.add_zero
abbrev lE:=@List.take_length_add_append
abbrev lF:=@Array.ext'
abbrev lG:=@List.flatten_nil
abbrev lH:=@Nat.add_assoc
abbrev lI:=@Bool.true_and
abbrev lJ:=@List.perm_iff_count
abbrev lK:=@UInt8.toNat_inj
abbrev lM:=@List.foldl_cons
abbrev lN:=@List.getElem?_take
abbrev lO:=@List.getElem?_drop
abbrev lP:=@List.filter_append
abbrev lQ:=@Nat.pow_succ
abbrev lS:=@Bool.false_eq_true
abbrev lU:=@List.map_set
abbrev lV:=@Bool.false_and
abbrev lW:=@List.foldl_append
abbrev lX:=@List.filter_congr
abbrev lY:=@List.getElem_take
abbrev lZ:=@List.getElem_drop
abbrev l0:=@List.getElem?_map
abbrev l4:=@List.count_append
abbrev l5:=@Nat.div_div_eq_div_mul
abbrev l9:=@List.length_pos_of_mem
abbrev ma:=@Go.RowKit.Below.heap_alloc
abbrev mc:=@Go.World.cell?_of_block
abbrev md:=@Go.wpList_plain
abbrev me:=@List.mem_of_getElem?
abbrev mf:=@Nat.mul_sub_one
abbrev mg:=@List.replicate_succ
abbrev mh:=@Int.toNat_of_nonneg
abbrev mi:=@List.takeWhile_cons
abbrev mj:=@List.map_congr_left
abbrev ml:=@List.drop_take
abbrev mn:=@List.take_zero
abbrev mo:=@List.drop_zero
abbrev mp:=@List.filter_filter
abbrev mq:=@Nat.eq_zero_or_pos
abbrev mr:=@Nat.lt_of_le_of_lt
abbrev ms:=@List.map_drop
abbrev mu:=@Int.toNat_natCast
abbrev mw:=@List.length_range
abbrev mx:=@beq_iff_eq
abbrev my:=@eq_comm
abbrev mz:=@List.take_append
abbrev mA:=@decide_false
abbrev mB:=@List.ext_getElem
abbrev mC:=@Array.toList_map
abbrev mD:=@Nat.le_of_not_lt
abbrev mE:=@List.getElem_set
abbrev mF:=@Nat.mod_eq_of_lt
abbrev mG:=@List.take_prefix
abbrev mH:=@List.sum_append
abbrev mI:=@List.filter_nil
abbrev mJ:=@Nat.and_le_left
abbrev mK:=@Nat.testBit_and
abbrev mL:=@List.count_cons
abbrev mM:=@decide_true
abbrev mN:=@Nat.pow_pos
theorem cR {w:World}{b i:Nat}{cs:Array Value}{t:TypeId}{f:Nat×Nat}{v:Value}(h:w.heap[b]? =some (.cells cs t f))(e:cs[i]? =some v):w.cell? ⟨b,i,none⟩=some v:=by rw [aG w b i _ _ _ h];exact e
theorem iL {α:Type}{p q:α->Prop}:∀i,p i->p i\/q i:=λ_ h=>.inl h
theorem nF {α:Type}{p:α->Prop}:∀i,p i->¬False:=λ_ _ h=>h
theorem fE {α:Type}{p:α->Prop}:∀i,False->p i:=λ_ h=>h.elim
theorem lT {α:Type}{a:Array α}{i:Nat}{v:α}(h:a[i]? =some v):i<a.size:=(Array.getElem?_eq_some_iff.1 h).1
theorem GR {p:Prop}(h:p):Go.RowKit.Hid p:=h
namespace disk
open Go.RowKit
variable {S:Nat->Prop}{w w':World}{c bd bc pc g cap:Nat}{e:TypeId}{ba pa:Option Addr}{α:Type}{l:List (List Value)}
structure za (S:Nat->Prop) (w w':World):Prop where
 os:w'.os=w.os
 tape:w'.tape=w.tape
 output:w'.output=w.output
 size:w.heap.size<=w'.heap.size
 block:∀k,k<w.heap.size->¬S k->w'.heap[k]? =w.heap[k]?
theorem kD (a:w'.os=w.os:=by rfl)(b:w'.tape=w.tape:=by rfl)(c:w'.output=w.output:=by rfl)(d:w.heap.size<=w'.heap.size:=by exact Nat.le_refl _)(e:∀k,k<w.heap.size->¬S k->w'.heap[k]? =w.heap[k]?:=by intros;rfl):za S w w':=⟨a,b,c,d,e⟩
theorem za.refl(S:Nat->Prop)(w:World):za S w w:=kD
theorem za.trans{S':Nat->Prop}{a b c:World}(h:za S a b)(k:za S' b c)(g:∀i,S' i->S i\/a.heap.size<=i):za S a c:=
 ⟨k.os.trans h.os,k.tape.trans h.tape,k.output.trans h.output,aD h.size k.size,λi e f=>
  (k.block i (ay e h.size) (λj=>by rcases g i j with d|d;exact f d;omega)).trans (h.block i e f)⟩
theorem za.mono{S':Nat->Prop}{a b:World}(h:za S a b)(c:∀i,S i->S' i):za S' a b:=
 ⟨h.os,h.tape,h.output,h.size,λi e f=>h.block i e (λd=>f (c i d))⟩
theorem za.alloc(S:Nat->Prop)(w:World)(b:Obj):za S w (w.alloc b):=⟨rfl,rfl,rfl,by simp,λk a _=>ma w b k a⟩
theorem za.drew(S:Nat->Prop)(w:World):za S w w.drew:=kD
theorem za.setCell(w:World)(a:Addr)(v:Value)(h:S a.block):za S w (w.setCell a v):=
 ⟨rfl,rfl,rfl,by simp,λk _ b=>ir w a k v (λe=>b (by rw [e];exact h))⟩
theorem za.setCells(b:Nat)(h:S b):∀(vs:List Value) (a:Nat) (w:World),za S w (w.setCells b a vs)
 |[],_,w=>za.refl S w
 |v::r,a,w=>(za.setCell w ⟨b,a,none⟩ v h).trans (za.setCells b h r (a+1) _) (λ_ c=>.inl c)
theorem za.grown{b:Option Nat}(a:w.grownBy w' b)(h:∀k,b=some k->S k):za S w w':=
 ⟨a.os,a.tape,a.output,a.size,λk c d=>a.block k c (λe=>d (h k e.symm))⟩
theorem za.below{B:Nat}(h:za S w w')(a:∀k,S k->B<=k)(d:B<=w.heap.size):Below B w w':=
 ⟨h.os,h.tape,h.output,h.size,λk c=>h.block k (by omega) (λb=>by have:=a k b;omega)⟩
theorem za.cell(h:za S w w'){a:Addr}(b:a.block<w.heap.size)(c:¬S a.block):w'.cell? a=w.cell? a:=
 mc (h.block a.block b c)
theorem za.frozen(h:za S w w'){a:Addr}(b:a.block<w.heap.size)(c:¬S a.block):w'.frozen? a=w.frozen? a:=
 World.frozen?_of_block (h.block a.block b c)
theorem za.owns(h:za S w w'){a:Nat}{b:Nat}{v:Value}{n:Nat}{i:List Value}(f:w.ownsRow a e b v n i)
 (m:∀k,v.ownBlock=some k->¬S k):w'.ownsRow a e b v n i:=by
 refine⟨f.1,?_⟩;rcases f.2 with j|⟨g,cap,d,rfl,l,c,rest⟩;.exact .inl j
 .refine .inr ⟨g,cap,d,rfl,l,?_,rest⟩;rw [h.block g (lT c) (m g rfl)];exact c
def zT(b:List Value):Prop:=b.length=128/\∀v∈b,v.oneCell'=true
def zN(p:Nat×List Value):List Value:=.int .i64 (p.1:Int)::p.2
structure Dk where
 bs:List (List Value)
 ps:List (Nat×List Value)
 fuse:Int
 reads:Int
structure Dk.Ok (D:Dk):Prop where
 bs:∀b∈D.bs,zT b
 ps:∀p∈D.ps,p.1<D.bs.length/\zT p.2
 few:D.bs.length<=1000
structure zo (w:World) (bd:Nat) (S:Nat->Prop) (D:Dk) (ba pa:Option Addr) (bc pc:Nat):Prop where
 ok:D.Ok
 head:w.heap[bd]? =some (.cells #[.slice ba D.bs.length bc,.slice pa D.ps.length pc,.int .i64 D.fuse,.int .i64 D.reads] 118 (0,0))
 rows:w.ownsRow 0 131 128 (.slice ba D.bs.length bc) D.bs.length D.bs.flatten
 pend:w.ownsRow 0 133 129 (.slice pa D.ps.length pc) D.ps.length (D.ps.map zN).flatten
 own:∀k,S k↔(k=bd\/(Value.slice ba D.bs.length bc).ownBlock=some k\/(Value.slice pa D.ps.length pc).ownBlock=some k)
 ap1:(Value.slice ba D.bs.length bc).ownBlock≠some bd
 ap2:(Value.slice pa D.ps.length pc).ownBlock≠some bd
 ap3:∀k,(Value.slice ba D.bs.length bc).ownBlock=some k->(Value.slice pa D.ps.length pc).ownBlock≠some k
def zg(w:World)(bd:Nat)(S:Nat->Prop)(D:Dk):Prop:=∃ba pa bc pc,zo w bd S D ba pa bc pc
theorem zo.lt{D:Dk}(h:zo w bd S D ba pa bc pc):∀k,S k->k<w.heap.size:=λk b=>by
 rcases (h.own k).1 b with rfl|a|a;.exact(lT h.head)
 .exact(h.rows.lt k a).2
 .exact(h.pend.lt k a).2
theorem zg.lt{D:Dk}(h:zg w bd S D):∀k,S k->k<w.heap.size:=by
 obtain⟨ba,pa,bc,pc,h⟩:=h;exact h.lt
theorem zo.bdS{D:Dk}(h:zo w bd S D ba pa bc pc):S bd:=(h.own bd).2 (.inl rfl)
theorem zg.bdS{D:Dk}(h:zg w bd S D):S bd:=by
 obtain⟨ba,pa,bc,pc,h⟩:=h;exact h.bdS
theorem zg.ok{D:Dk}(h:zg w bd S D):D.Ok:=by
 obtain⟨ba,pa,bc,pc,h⟩:=h;exact h.ok
theorem zo.kept{T:Nat->Prop}{D:Dk}(h:zo w bd S D ba pa bc pc)(k:za T w w')(a:∀i,S i->¬T i):zo w' bd S D ba pa bc pc:=by
 refine⟨h.ok,?_,k.owns h.rows (λi b=>a i ((h.own i).2 (.inr (.inl b)))),k.owns h.pend (λi b=>a i ((h.own i).2 (.inr (.inr b)))),h.own,h.ap1,h.ap2,h.ap3⟩;rw [k.block bd (h.lt bd h.bdS) (a bd h.bdS)];exact h.head
theorem zg.kept{T:Nat->Prop}{D:Dk}(h:zg w bd S D)(k:za T w w')(a:∀i,S i->¬T i):zg w' bd S D:=by
 obtain⟨ba,pa,bc,pc,h⟩:=h;exact⟨ba,pa,bc,pc,h.kept k a⟩
theorem zo.c0{D:Dk}(h:zo w bd S D ba pa bc pc):w.cell? ⟨bd,0,none⟩=some (.slice ba D.bs.length bc):=cR h.head rfl
theorem zo.c1{D:Dk}(h:zo w bd S D ba pa bc pc):w.cell? ⟨bd,1,none⟩=some (.slice pa D.ps.length pc):=cR h.head rfl
theorem zo.c2{D:Dk}(h:zo w bd S D ba pa bc pc):w.cell? ⟨bd,2,none⟩=some (.int .i64 D.fuse):=cR h.head rfl
theorem zo.c3{D:Dk}(h:zo w bd S D ba pa bc pc):w.cell? ⟨bd,3,none⟩=some (.int .i64 D.reads):=cR h.head rfl
theorem zo.fz{D:Dk}(h:zo w bd S D ba pa bc pc)(i:Nat):w.frozen? ⟨bd,i,none⟩=false:=aa w bd i _ _ h.head
theorem Qe(c:Nat):∀(l:List (List α)),(∀b∈l,b.length=c)->l.flatten.length=l.length*c
 |[],_=>by simp
 |b::l,h=>by rw [aU,ag,Qe c l (λd a=>h d (am _ a)),h b (al ..),ae,eJ];omega
theorem gp(c:Nat):∀(l:List (List α)),(∀b∈l,b.length=c)->∀i,i<=l.length->l.flatten.drop (i*c)=(l.drop i).flatten
 |_,_,0,_=>by simp
 |[],_,i+1,hi=>by simp at hi
 |b::l,h,i+1,hi=>by have a:=h b (al ..);rw [aU,lp,eJ,iU,<-a,iG,<-eA,iS,a];exact gp c l (λe d=>h e (am _ d)) i (by simpa using hi)
theorem cD(c:Nat):∀(l:List (List α)),(∀b∈l,b.length=c)->∀i,i<=l.length->l.flatten.take (i*c)=(l.take i).flatten
 |_,_,0,_=>by simp
 |[],_,i+1,hi=>by simp at hi
 |b::l,h,i+1,hi=>by have a:=h b (al ..);rw [aU,iz,aU,eJ,iU,<-a,iG,lE,a];rw [cD c l (λe d=>h e (am _ d)) i (by simpa using hi)]
theorem X9(c:Nat)(l:List (List α))(h:∀b∈l,b.length=c)(i:Nat)(a:i<l.length):(l.flatten.drop (i*c)).take c=l[i]:=by
 rw [gp c l h i (lh a),aI a,aU];have d:=h l[i] (ai a)
 conv=>lhs;rw [<-d]
 exact iE ..
theorem KZ(c:Nat)(l:List (List α))(h:∀b∈l,b.length=c)(i:Nat)(a:i<l.length)(v:List α):
 l.flatten.take (i*c)++v++l.flatten.drop (i*c+c)=(l.set i v).flatten:=by
 rw [cD c l h i (lh a),show i*c+c=(i+1)*c from by rw [eJ,iU],gp c l h (i+1) a,hE,aB a];simp
theorem xd(b k:Nat)(h:k≠b):∀(vs:List Value) (a:Nat) (w:World),(w.setCells b a vs).heap[k]? =w.heap[k]?
 |[],_,_=>rfl
 |v::r,a,w=>by rw [World.setCells,xd b k h r (a+1)];exact ir w ⟨b,a,none⟩ k v h
theorem Ja(A B:List Value)(v:Value)(a k:Nat)(h:A.length=a):(A++v::B).take (a+1)=A++[v]/\(A++v::B).drop (a+1+k)=B.drop k:=by
 subst h;refine⟨by rw [lE];rfl,?_⟩;rw [lH,<-eA,iS,iG,lp]
theorem qa(b:Nat)(t:TypeId):∀(vs:List Value) (c:Nat) (w:World) (a:Array Value),w.heap[b]? =some (.cells a t (0,0))->c+vs.length<=a.size->
 (w.setCells b c vs).heap[b]? =some (.cells (a.toList.take c++vs++a.toList.drop (c+vs.length)).toArray t (0,0))
 |[],c,w,a,h,_=>by rw [World.setCells,h];simp
 |v::r,c,w,a,h,hl=>by
  simp only [ae] at hl;have d:c<a.size:=by omega
  rw [World.setCells,qa b t r (c+1) _ (a.setIfInBounds c v) (by rw [heap_setCell_same w b c a t v h]) (by simp;omega)];congr 2;apply lF;simp only [Array.toList_setIfInBounds,ae];rw [hE,aB (by simpa using d)];obtain⟨k1,k2⟩:=Ja (a.toList.take c) (a.toList.drop (c+1)) v c r.length (by simp;omega);rw [k1,k2,eA,show c+1+r.length=c+(r.length+1) from by omega];simp
theorem yr(h:w.ownsRow 0 e c (.slice (some ⟨g,0,none⟩) l.length cap) l.length l.flatten)
 (d:∀b∈l,b.length=c) (i:Nat) (f:i<l.length):w.rangeAt g (i*c) l[i]:=by
 intro j v a;have m:j<c:=by have:=(et.1 a).1;rw [d l[i] (ai f)] at this;exact this
 have k:=h.cells (g:=g) rfl (i*c+j) v (by
  rw [<-X9 c l d i f,lN,aB m,lO] at a
  exact a)
 rw [eO] at k;simpa using k
theorem dp(h:w.ownsRow 0 e c (.slice (some ⟨g,0,none⟩) l.length cap) l.length l.flatten)
 (a:∀b∈l,b.length=c) (i:Nat) (d:i<l.length):w.there g (i*c) c:=by
 intro j k;refine⟨?_,?_⟩
 .have:=(yr h a i d).isSome j (by rw [a l[i] (ai d)];exact k);exact this
 .rcases h.2 with⟨n,_⟩|⟨q,m,p,f,_,o,_⟩;.cases n
  .cases f;exact aa w g _ _ _ o
theorem dq(h:w.ownsRow 0 e c (.slice (some ⟨g,0,none⟩) l.length cap) l.length l.flatten)
 (m:∀b∈l,b.length=c) (i:Nat) (q:i<l.length) (v:List Value) (k:v.length=c):
 (w.setCells g (i*c) v).ownsRow 0 e c (.slice (some ⟨g,0,none⟩) l.length cap) l.length (l.set i v).flatten:=by
 have o:∀b∈l.set i v,b.length=c:=λb d=>by
  rcases il d with d|rfl;.exact m b d
  .exact k
 refine⟨by rw [Qe c _ o,ew],?_⟩;rcases h.2 with⟨y,_⟩|⟨A,x,a,r,d,z,j,n,p,f⟩;.cases y
 .cases r
  have u:i*c+v.length<=l.length*c:=by rw [k];have:=ee c (show i+1<=l.length from q);rw [eJ,iU] at this;exact this
  have t:l.length*c<=a.size:=by rw [p];exact ee c j
  refine .inr ⟨g,cap,_,rfl,d,qa g e v (i*c) w a z (by omega),j,n,?_,?_⟩;.simp only [aq,ag,aC,aS,ik];omega
  .rw [iQ,<-KZ c l m i q v,<-f];have s:(a.toList.take (i*c)).length=i*c:=by simp;omega
   rw [iu,a8 (by omega),ak,ak,mz,s,an (by rw [s];omega),mz,
    an (show v.length<=l.length*c-i*c by omega),k,ml]
   congr 3;omega
end disk
namespace ref
variable {a b k:ByteArray}{n:Int}
structure zB where
 key:ByteArray
 num:Int
 mark:Bool
 body:List UInt8
def qC:List UInt8->List UInt8->Bool
 |[],[]=>false
 |[],_::_=>true
 |_::_,[]=>false
 |a::l,b::r=>if a=b then qC l r else decide (a<b)
def qw(a b:ByteArray):Bool:=qC a.data.toList b.data.toList
theorem kC:∀l,qC l l=false
 |[]=>rfl
 |a::l=>by simp [qC,kC l]
theorem kQ:∀a b c,qC a b=true->qC b c=true->qC a c=true
 |[],[],c,h,_=>by simp [qC] at h
 |[],b::l,[],_,h=>by simp [qC] at h
 |[],b::l,c::r,_,_=>rfl
 |a::l,[],c,h,_=>by simp [qC] at h
 |a::l,b::r,[],_,h=>by simp [qC] at h
 |a::l,b::r,c::t,h1,h2=>by
  unfold qC at h1 h2 ⊢;by_cases e:a=b
  .subst e;rw [aB rfl] at h1;by_cases d:a=c;.rw [aB d] at h2 ⊢;exact kQ l r t h1 h2
   .rw [aw d] at h2 ⊢;exact h2
  .rw [aw e] at h1;by_cases d:b=c;.subst d;rw [aw e];exact h1
   .rw [aw d] at h2;have f:a<c:=UInt8.lt_trans (ix h1) (ix h2);have g:a≠c:=UInt8.ne_of_lt f;rw [aw g];exact aJ f
theorem fp:∀a b,a≠b->qC a b=false->qC b a=true
 |[],[],h,_=>absurd rfl h
 |[],b::l,_,h=>by simp [qC] at h
 |a::l,[],_,_=>rfl
 |a::l,b::r,h,h1=>by
  unfold qC at h1 ⊢;by_cases e:a=b
  .subst e;rw [aB rfl] at h1 ⊢;exact fp l r (λe=>h (by rw [e])) h1
  .rw [aw e] at h1;rw [aw (iw e)];have h2:¬a<b:=iF h1;refine aJ ?_;have c:a.toNat≠b.toNat:=λh=>e (lK.1 h);rw [lB] at h2 ⊢;omega
theorem Qf(a b:List UInt8)(h:qC a b=true):qC b a=false:=by
 cases h2:qC b a with
 |false=>rfl
 |true=>have:=kQ a b a h h2;rw [kC] at this;cases this
theorem vu(h:a.data.toList=b.data.toList):a=b:=by
 cases a;cases b;congr 1;exact lF h
theorem yE(a:ByteArray):qw a a=false:=kC _
theorem jG{c:ByteArray}(h:qw a b=true)(k:qw b c=true):qw a c=true:=kQ _ _ _ h k
theorem yT(h:a≠b)(k:qw a b=false):qw b a=true:=fp _ _ (λe=>h (vu e)) k
theorem fq(h:qw a b=true):qw b a=false:=Qf _ _ h
def zB.ahead(a b:zB):Bool:=qw a.key b.key||(decide (a.key=b.key)&&decide (b.num<a.num))
theorem zB.ahead_iff(a b:zB):a.ahead b=true↔qw a.key b.key=true\/(a.key=b.key/\b.num<a.num):=by
 simp [zB.ahead]
theorem zB.ahead_irrefl(a:zB):¬a.ahead a=true:=by
 rw [zB.ahead_iff,yE];simp
theorem zB.ahead_trans{a b c:zB}(h:a.ahead b=true)(k:b.ahead c=true):a.ahead c=true:=by
 rw [zB.ahead_iff] at*;rcases h with h|⟨h,h'⟩<;>rcases k with k|⟨k,d⟩
 .exact .inl (jG h k)
 .exact .inl (by rw [<-k];exact h)
 .exact .inl (by rw [h];exact k)
 .exact .inr ⟨h.trans k,by omega⟩
theorem zB.ahead_total{a b:zB}(h:¬(a.key=b.key/\a.num=b.num))(k:¬a.ahead b=true):b.ahead a=true:=by
 rw [zB.ahead_iff] at*;by_cases e:a.key=b.key
 .right;refine⟨e.symm,?_⟩;by_cases h2:b.num<a.num;.exact absurd (.inr ⟨e,h2⟩) k
  .have:a.num≠b.num:=λc=>h ⟨e,c⟩;omega
 .left
  cases h2:qw a.key b.key with
  |true=>exact absurd (.inl h2) k
  |false=>exact yT e h2
theorem zB.ahead_asymm{a b:zB}(h:a.ahead b=true):¬b.ahead a=true:=λk=>zB.ahead_irrefl a (zB.ahead_trans h k)
def jp(vs:List zB):Prop:=vs.Pairwise λa b=>¬(a.key=b.key/\a.num=b.num)
theorem jp.sub{vs us:List zB}(h:jp vs)(p:us.Sublist vs):jp us:=List.Pairwise.sublist p h
def vS(k:ByteArray)(b:Option zB)(v:zB):Option zB:=
 match b with
 |none=>if v.key=k then some v else none
 |some u=>if v.key=k/\u.num<v.num then some v else some u
def qe(vs:List zB)(k:ByteArray):Option zB:=vs.foldl (vS k) none
theorem kR(k:ByteArray):∀(vs:List zB) (b:Option zB),(∀u,b=some u->u.key=k)->
 (∀v,vs.foldl (vS k) b=some v->v.key=k/\(v∈vs\/b=some v)/\(∀u∈vs,u.key=k->u.num<=v.num)/\(∀u,b=some u->u.num<=v.num))/\
 (vs.foldl (vS k) b=none->b=none/\∀u∈vs,u.key≠k)
 |[],b,hb=>⟨λv d=>⟨hb v d,.inr d,by simp,λu a=>by rw [List.foldl_nil] at d;rw [d] at a;cases a;omega⟩,λh=>⟨h,by simp⟩⟩
 |x::vs,b,hb=>by
  have n:∀u,vS k b x=some u->u.key=k:=by
   intro u a;unfold vS at a
   cases b with
   |none=>simp only at a;split at a<;>cases a;assumption
   |some l=>simp only at a;split at a<;>cases a;exact(‹_/\_›).1;exact hb _ rfl
  obtain⟨p,h2⟩:=kR k vs (vS k b x) n;rw [lM];constructor
  .intro v d;obtain⟨o,j,q,c⟩:=p v d
   have i:(x.key=k->x.num<=v.num)/\(∀u,b=some u->u.num<=v.num)/\(vS k b x=some v->v∈x::vs\/b=some v):=by
    unfold vS at c ⊢
    cases b with
    |none=>
     simp only at c ⊢;by_cases g:x.key=k
     .rw [aB g] at c ⊢;exact⟨λ_=>c x rfl,(by simp),λe=>.inl (by cases e;simp)⟩
     .rw [aw g];exact⟨λe=>absurd e g,(by simp),λe=>by cases e⟩
    |some l=>
     simp only at c ⊢;by_cases g:x.key=k/\l.num<x.num
     .rw [aB g] at c ⊢;have:=c x rfl;exact⟨λ_=>this,λu a=>by cases a;omega,λe=>.inl (by cases e;simp)⟩
     .rw [aw g] at c ⊢;have:=c l rfl;exact⟨λe=>by have:¬l.num<x.num:=λh=>g ⟨e,h⟩;omega,λu a=>by cases a;exact this,λe=>.inr e⟩
   refine⟨o,?_,?_,i.2.1⟩
   .rcases j with j|j;.exact .inl (am _ j)
    .exact i.2.2 j
   .intro u a;rcases ar.1 a with rfl|a;.exact i.1
    .exact q u a
  .intro d;obtain⟨f,m⟩:=h2 d
   have:b=none/\x.key≠k:=by
    unfold vS at f
    cases b with
    |none=>simp only at f;split at f;cases f;exact⟨rfl, ‹_›⟩
    |some l=>simp only at f;split at f<;>cases f
   refine⟨this.1,λu a=>?_⟩;rcases ar.1 a with rfl|a;.exact this.2
   .exact m u a
theorem kT{vs:List zB}{v:zB}(h:qe vs k=some v):v.key=k/\v∈vs/\∀u∈vs,u.key=k->u.num<=v.num:=by
 obtain⟨b,c,a,_⟩:=(kR k vs none (by simp)).1 v h;exact⟨b,c.resolve_right (by simp),a⟩
theorem Qg{vs:List zB}(h:qe vs k=none):∀u∈vs,u.key≠k:=((kR k vs none (by simp)).2 h).2
def yl(vs:List zB)(k:ByteArray)(n:Int):Option zB:=vs.find? λv=>decide (v.key=k)&&decide (v.num=n)
theorem jU{vs:List zB}{v:zB}(h:yl vs k n=some v):v.key=k/\v.num=n/\v∈vs:=by
 have a:=List.find?_some h;simp only [aW,aR] at a;exact⟨a.1,a.2,List.mem_of_find?_eq_some h⟩
theorem JN{vs:List zB}(h:yl vs k n=none):∀u∈vs,¬(u.key=k/\u.num=n):=by
 intro u a ⟨h1,h2⟩;have:=lz.1 h u a;simp [h1,h2] at this
def ym(vs:List zB)(k:ByteArray)(n:Int):List zB:=vs.filter λv=> !(decide (v.key=k)&&decide (v.num=n))
def yP(n:Nat):Nat:=1+(n+99)/100
def zl(vs:List zB):Nat:=(vs.map λv=>yP v.body.length).sum
theorem Qh{vs us:List zB}(h:vs.Perm us):zl vs=zl us:=by
 unfold zl;exact(h.map _).sum_nat
def qW(v:zB)(p k:ByteArray)(n:Int):Bool:=
 p.data.toList.isPrefixOf v.key.data.toList&&(decide (k=ByteArray.empty)||qw k v.key||(decide (v.key=k)&&decide (v.num<n)))
structure yz (vs:List zB) (p k:ByteArray) (n:Int) (L:List zB):Prop where
 sorted:L.Pairwise λa b=>a.ahead b=true
 perm:L.Perm (vs.filter λv=>qW v p k n)
theorem vT:∀(a b:List zB),a.Pairwise (λx c=>x.ahead c=true)->b.Pairwise (λx c=>x.ahead c=true)->a.Perm b->a=b
 |[],b,_,_,p=>(List.perm_nil.1 p.symm).symm
 |x::a,[],_,_,p=>(List.perm_nil.1 p)
 |x::a,c::b,ha,hb,p=>by
  rw [aL] at ha hb
  have e:x=c:=by
   have f:x∈c::b:=p.subset (al ..);have d:c∈x::a:=p.symm.subset (al ..);rcases ar.1 f with e|f;.exact e
   .rcases ar.1 d with e|d;.exact e.symm
    .exact absurd (ha.1 c d) (zB.ahead_asymm (hb.1 x f))
  subst e;rw [vT a b ha.2 hb.2 ((List.perm_cons x).1 p)]
theorem yz.unique{vs us:List zB}{p:ByteArray}{L a:List zB}(h:yz vs p k n L)(g:yz us p k n a)(e:vs.Perm us):L=a:=
 vT L a h.sorted g.sorted (h.perm.trans ((e.filter _).trans g.perm.symm))
def YX(v:zB):List zB->List zB
 |[]=>[v]
 |u::l=>if v.ahead u then v::u::l else u::YX v l
theorem gr(v:zB):∀l,(YX v l).Perm (v::l)
 |[]=>eR _
 |u::l=>by
  unfold YX;split;.exact eR _
  .exact((gr v l).cons u).trans (List.Perm.swap v u l)
theorem fs(v:zB):∀l:List zB,l.Pairwise (λc d=>c.ahead d=true)->(∀u∈l,¬(v.key=u.key/\v.num=u.num))->(YX v l).Pairwise λc d=>c.ahead d=true
 |[],_,_=>by simp [YX]
 |u::l,h,hn=>by
  rw [aL] at h;unfold YX;split
  next b=>
   rw [aL];refine⟨λc a=>?_,aL.2 h⟩;rcases ar.1 a with rfl|a;.exact b
   .exact zB.ahead_trans b (h.1 c a)
  next b=>
   rw [aL];refine⟨λc a=>?_,fs v l h.2 (λd e=>hn d (am _ e))⟩;rcases ar.1 ((gr v l).subset a) with rfl|a;.exact zB.ahead_total (hn u (al ..)) b
   .exact h.1 c a
def K0(l:List zB):List zB:=l.foldr YX []
theorem v7:∀l,(K0 l).Perm l
 |[]=>eR _
 |v::l=>(gr v _).trans ((v7 l).cons v)
theorem uq:∀l,jp l->(K0 l).Pairwise λc b=>c.ahead b=true
 |[],_=>List.Pairwise.nil
 |v::l,h=>by unfold jp at h;rw [aL] at h;exact fs v _ (uq l h.2) (λu a=>h.1 u ((v7 l).subset a))
theorem ft(vs:List zB)(h:jp vs)(p k:ByteArray)(n:Int):yz vs p k n (K0 (vs.filter λv=>qW v p k n)):=
 ⟨uq _ (h.sub List.filter_sublist),v7 _⟩
end ref
namespace ref
open Go.RowKit disk
variable {w w':World}{P T Q F G:Nat->Prop}{a:Option Addr}{l:List UInt8}{cs:List (List Value)}{b cap:Nat}{last:Int}
def zL(w:World)(P:Nat->Prop)(a:Option Addr)(l:List UInt8):Prop:=
 l=[]\/∃b o,a=some ⟨b,o,none⟩/\P b/\b<w.heap.size/\∀j (h:j<l.length),w.cell? ⟨b,o+j,none⟩=some (.int .u8 (l[j].toNat:Int))
theorem zL.kept(h:zL w P a l)(k:za T w w')(g:∀i,P i->¬T i):zL w' P a l:=by
 rcases h with h|⟨b,m,f,h2,c,e⟩;.exact .inl h
 .exact .inr ⟨b,m,f,h2,ay c k.size,λj d=>(k.cell (a:=⟨b,m+j,none⟩) c (g b h2)).trans (e j d)⟩
theorem zL.mono(h:zL w P a l)(f:∀i,P i->i<w.heap.size->Q i):zL w Q a l:=by
 rcases h with h|⟨b,g,e,h2,c,d⟩;.exact .inl h
 .exact .inr ⟨b,g,e,f b h2 c,c,d⟩
structure vU (w:World) (P:Nat->Prop) (cs:List Value) (v:zB):Prop where
 at_:∃a cap,cs=[.string v.key,.int .i64 v.num,.bool v.mark,.slice a v.body.length cap]/\zL w P a v.body
theorem vU.kept{cs:List Value}{v:zB}(h:vU w P cs v)(k:za T w w')(c:∀i,P i->¬T i):vU w' P cs v:=by
 obtain⟨a,cap,b,h2⟩:=h.at_;exact⟨a,cap,b,h2.kept k c⟩
theorem vU.mono{cs:List Value}{v:zB}(h:vU w P cs v)(c:∀i,P i->i<w.heap.size->Q i):vU w Q cs v:=by
 obtain⟨a,cap,b,h2⟩:=h.at_;exact⟨a,cap,b,h2.mono c⟩
theorem vU.len{cs:List Value}{v:zB}(h:vU w P cs v):cs.length=4:=by
 obtain⟨a,cap,rfl,_⟩:=h.at_;rfl
structure y7 (w:World) (P:Nat->Prop) (cs:List (List Value)) (vs:List zB):Prop where
 len:cs.length=vs.length
 each:∀i (h:i<cs.length) (h':i<vs.length),vU w P cs[i] vs[i]
theorem y7.kept{vs:List zB}(h:y7 w P cs vs)(k:za T w w')(b:∀i,P i->¬T i):y7 w' P cs vs:=
 ⟨h.len,λi a h2=>(h.each i a h2).kept k b⟩
theorem y7.mono{vs:List zB}(h:y7 w P cs vs)(b:∀i,P i->i<w.heap.size->Q i):y7 w Q cs vs:=
 ⟨h.len,λi a h2=>(h.each i a h2).mono b⟩
theorem y7.four{vs:List zB}(h:y7 w P cs vs):∀c∈cs,c.length=4:=λc b=>by
 obtain⟨i,a,rfl⟩:=ed b;exact(h.each i a (by rw [<-h.len];exact a)).len
theorem y7.nil(w:World)(P:Nat->Prop):y7 w P [] []:=⟨rfl,λi h=>by simp at h⟩
theorem y7.snoc{vs:List zB}(h:y7 w P cs vs){c:List Value}{v:zB}(d:vU w P c v):y7 w P (cs++[c]) (vs++[v]):=by
 refine⟨by simp [h.len],λi f h2=>?_⟩;by_cases a:i<cs.length
 .rw [iH a,iH (by rw [<-h.len];exact a)];exact h.each i a _
 .have b:=h.len;have e:i=cs.length:=by simp at f;omega
  subst e;rw [i6 (by omega),i6 (by omega)];simpa [b] using d
structure yc (w:World) (F G:Nat->Prop) (b:Nat) (vs:List zB) (last:Int) (a:Option Addr) (cap:Nat) (cs:List (List Value)):Prop where
 head:w.heap[b]? =some (.cells #[.slice a vs.length cap,.int .i64 last] 164 (0,0))
 row:w.ownsRow 0 123 4 (.slice a vs.length cap) vs.length cs.flatten
 tells:y7 w G cs vs
 foot:F b
 foot2:∀k,(Value.slice a vs.length cap).ownBlock=some k->F k
 apart:(Value.slice a vs.length cap).ownBlock≠some b
def zG(w:World)(F G:Nat->Prop)(b:Nat)(vs:List zB)(last:Int):Prop:=∃a cap cs,yc w F G b vs last a cap cs
theorem yc.lt{vs:List zB}(h:yc w F G b vs last a cap cs):b<w.heap.size:=(lT h.head)
theorem yc.kept{vs:List zB}(h:yc w F G b vs last a cap cs)(k:za T w w')(c:∀i,F i->¬T i)(d:∀i,G i->¬T i):yc w' F G b vs last a cap cs:=
 ⟨(k.block b h.lt (c b h.foot)).trans h.head,k.owns h.row (λi e=>c i (h.foot2 i e)),h.tells.kept k d,h.foot,h.foot2,h.apart⟩
theorem zG.kept{vs:List zB}(h:zG w F G b vs last)(k:za T w w')(d:∀i,F i->¬T i)(c:∀i,G i->¬T i):zG w' F G b vs last:=by
 obtain⟨a,cap,cs,h⟩:=h;exact⟨a,cap,cs,h.kept k d c⟩
theorem zG.mono{F' G':Nat->Prop}{vs:List zB}(h:zG w F G b vs last)(d:∀i,F i->i<w.heap.size->F' i)(e:∀i,G i->i<w.heap.size->G' i):zG w F' G' b vs last:=by
 obtain⟨a,cap,cs,h⟩:=h;exact⟨a,cap,cs,h.head,h.row,h.tells.mono e,d b h.foot h.lt,λk c=>d k (h.foot2 k c) (h.row.lt k c).2,h.apart⟩
theorem yc.c0{vs:List zB}(h:yc w F G b vs last a cap cs):w.cell? ⟨b,0,none⟩=some (.slice a vs.length cap):=cR h.head rfl
theorem yc.c1{vs:List zB}(h:yc w F G b vs last a cap cs):w.cell? ⟨b,1,none⟩=some (.int .i64 last):=cR h.head rfl
theorem yc.fz{vs:List zB}(h:yc w F G b vs last a cap cs)(i:Nat):w.frozen? ⟨b,i,none⟩=false:=aa w b i _ _ h.head
theorem yc.rowAt{vs:List zB}(h:yc w F G b vs last a cap cs)(j:0<vs.length):∃g,a=some ⟨g,0,none⟩:=by
 rcases h.row.2 with⟨e,i⟩|⟨g,d,f,c,_⟩;.simp at e;omega
 .cases c;exact⟨g,rfl⟩
theorem yc.range{vs:List zB}{g:Nat}(h:yc w F G b vs last (some ⟨g,0,none⟩) cap cs)(i:Nat)(f:i<vs.length):
 ∃c a,w.rangeAt g (i*4) [.string vs[i].key,.int .i64 vs[i].num,.bool vs[i].mark,.slice c vs[i].body.length a]/\zL w G c vs[i].body:=by
 have d:=h.tells.len;have j:=h.row;rw [<-d] at j;have k:=yr j h.tells.four i (by rw [d];exact f);obtain⟨c,a,e,l⟩:=(h.tells.each i (by rw [d];exact f) f).at_;rw [e] at k;exact⟨c,a,k,l⟩
theorem yc.cells{vs:List zB}{g:Nat}(h:yc w F G b vs last (some ⟨g,0,none⟩) cap cs)(i:Nat)(f:i<vs.length):
 w.cell? ⟨g,i*4,none⟩=some (.string vs[i].key)/\w.cell? ⟨g,i*4+1,none⟩=some (.int .i64 vs[i].num)/\w.cell? ⟨g,i*4+2,none⟩=some (.bool vs[i].mark)/\
  ∃c a,w.cell? ⟨g,i*4+3,none⟩=some (.slice c vs[i].body.length a)/\zL w G c vs[i].body:=by
 obtain⟨c,a,d,e⟩:=h.range i f;exact⟨d 0 _ rfl,d 1 _ rfl,d 2 _ rfl,c,a,d 3 _ rfl,e⟩
def qA(b:UInt8):Value:=.int .u8 (b.toNat:Int)
theorem vv(l:List UInt8):∀u∈l.map qA,u.oneCell'=true:=λu a=>by
 obtain⟨b,_,rfl⟩:=au.1 a;rfl
theorem zL.of_own{b:Nat}{n:Nat}(e:TypeId)(h:w.ownsRow b e 1 (.slice a n cap) n (l.map qA))(f:n=l.length)(P:Nat->Prop)(o:∀k,(Value.slice a n cap).ownBlock=some k->P k):zL w P a l:=by
 subst f;rcases h.2 with⟨r,p⟩|⟨g,c,q,i,s,d,_⟩;.exact .inl (aY p)
 .cases i;refine .inr ⟨g,0,rfl,o g rfl,(lT d),λj m=>?_⟩;have:=h.cells (g:=g) rfl j (qA l[j]) (by simp [m]);rw [eO] at this;simpa [qA] using this
theorem dr{P:Program}(w:World)(Q:Nat->Prop)(t x e:TypeId)(i:TypeInfo)(z:Value)(k:P.underlying t=some (.slice e))(n:P.info? e=some i)(E:i.zero=some z)
 (c:i.size=1) (r:i.bytes=1) (y:z.cells.size=1) (a:Option Addr) (cap:Nat) (l:List UInt8) (B:zL w Q a l) (m:l.length<=140737488355328):
 ∃f d w',(Builtin.append_ #[t,t] x #[.slice none 0 0,.slice a l.length cap]).run P w=.ok (.slice f l.length d) w'/\w'.ownsRow 0 e 1 (.slice f l.length d) l.length (l.map qA)/\w.grownBy w' none/\
  ((Value.slice f l.length d).ownBlock=none\/(Value.slice f l.length d).ownBlock=some w.heap.size):=by
 have q:l.length<=maxLen:=by unfold maxLen;omega
 rcases B with rfl|⟨b,J,rfl,_,_,I⟩
 .refine⟨none,0,w,?_,aV w 0 e 1,⟨rfl,rfl,rfl,aF _,λ_ _ _=>rfl⟩,.inl rfl⟩
  cases a with
  |none=>simp [Builtin.append_,ii k,sizeOf,typeInfo,n,Builtin.lenOf,Builtin.firstCells]
  |some L=>simp [Builtin.append_,ii k,sizeOf,typeInfo,n,Builtin.lenOf,Builtin.firstCells,loadCells,loadCellsFrom]
 .obtain⟨p,w',s,h2,v,_,C⟩:=run_append_own_at (P:=P) w 0 t x e i z 1 1 k n E c r y (by omega) (.slice none 0 0) 0 [] (aV w 0 e 1) ⟨b,J,none⟩ l.length cap (l.map qA) (by simp) (λj u F=>by
   obtain⟨A,rfl⟩:=et.1 F;simp only [ez] at A
   rw [eO];simpa [qA] using I j A) (vv l) (by simpa using q) (by simpa using m) (aj _)
  simp only [eT,aK] at h2;have g:p.ownBlock=none\/p.ownBlock=some w.heap.size:=C;rcases h2.2 with⟨o,D⟩|⟨K,h,H,o,_⟩
  .subst o;have G:l=[]:=aY D;subst G;exact⟨none,0,w',s,h2,v,g⟩
  .subst o;exact⟨_,h,w',s,h2,v,g⟩
theorem cd{P:Program}(D:Nat->Prop){m:Oper}{a:Act}{B:Act->World->Prop}{Q:Exit->Act->World->Prop}(s C:Operand)(t:TypeId)
 (n:m.op=.call {callee:=.builtin .append,args:=#[s,C],argTypes:=#[t,t] })
 (e:TypeId) (i:TypeInfo) (z:Value) (p:P.underlying t=some (.slice e)) (v:P.info? e=some i) (A:i.zero=some z) (d:i.size=1) (j:i.bytes=1) (k:z.cells.size=1)
 (f:Option Addr) (cap:Nat) (l:List UInt8) (r:a.eval s=.slice none 0 0) (x:a.eval C=.slice f l.length cap) (u:zL w D f l) (g:l.length<=140737488355328)
 (h:∀c b w',w'.ownsRow 0 e 1 (.slice c l.length b) l.length (l.map qA)->w.grownBy w' none->((Value.slice c l.length b).ownBlock=none\/(Value.slice c l.length b).ownBlock=some w.heap.size)->B (a.put m.dst (.slice c l.length b)) w'):m.wp P a w B Q:=by
 obtain⟨c,b,w',o,h2,q,y⟩:=dr (P:=P) w D t m.type e i z p v A d j k f cap l u g;unfold Oper.wp execOp;simp only [n,resolve,invoke,builtin,ie,iI,eD,li,aO,ig,r,x,o];exact h c b w' h2 q y
theorem yQ{P:Program}(E:Nat->Prop){f:Array Oper}{rest:List Oper}{o:Oper}{a:Act}{Q:Exit->Act->World->Prop}(k:o.guard=none)(s r:Operand)(t:TypeId)
 (y:o.op=.call {callee:=.builtin .append,args:=#[s,r],argTypes:=#[t,t] })
 (e:TypeId) (i:TypeInfo) (z:Value) (p:P.underlying t=some (.slice e)) (C:P.info? e=some i) (x:i.zero=some z) (d:i.size=1) (m:i.bytes=1) (n:z.cells.size=1)
 (j:Option Addr) (cap:Nat) (l:List UInt8) (B:a.eval s=.slice none 0 0) (D:a.eval r=.slice j l.length cap) (q:zL w E j l) (g:l.length<=140737488355328)
 (h:∀c b w',w'.ownsRow 0 e 1 (.slice c l.length b) l.length (l.map qA)->w.grownBy w' none->((Value.slice c l.length b).ownBlock=none\/(Value.slice c l.length b).ownBlock=some w.heap.size)->wpList P f Q rest (a.put o.dst (.slice c l.length b)) w'):wpList P f Q (o::rest) a w:=
 md k λ_ v=>cd E s r t y e i z p C x d m n j cap l B D q g λc b w' h2 A u=>v _ _ (h c b w' h2 A u)
theorem yy{P:Program}{t:TypeId}{z:Value}{s:Nat}(h:(P.info? t).map (λi=>(i.zero,i.size,i.bytes))=some (some z,s,b)):∃i,P.info? t=some i/\i.zero=some z/\i.size=s/\i.bytes=b:=by
 cases a:P.info? t with
 |none=>rw [a] at h;cases h
 |some i=>rw [a] at h;simp only [Option.map_some,ij,eS] at h;exact⟨i,rfl,h.1,h.2.1,h.2.2⟩
theorem Tryz.infoU8:(Tryz.prog.info? 5).map (λi=>(i.zero,i.size,i.bytes))=some (some (.int .u8 0),1,1):=by kernel_rfl
theorem Tryz.infoKept:(Tryz.prog.info? 123).map (λi=>(i.zero,i.size,i.bytes))=some (some (.agg #[.string ByteArray.empty,.int .i64 0,.bool false,.slice none 0 0]),4,56):=by kernel_rfl
end ref
namespace keys
open Go.ChangeShapes Go.WideShapes Go.ChangeAt Go.RowKit
open Go.ChangeMaps (open_string shut_string)
variable {a b:Int}
def kU(c:Int):Bool:=(decide (97<=c)&&decide (c<=122))||(decide (48<=c)&&decide (c<=57))||(c==45)||(c==47)
def v8(l:List UInt8):Bool:=l.all λc=>kU (c.toNat:Int)
def zq(l:List UInt8):Bool:=decide (1<=l.length)&&decide (l.length<=8)&&v8 l
theorem JO(s:ByteArray)(k:Nat)(h:k<s.size):s.data.toList.take (k+1)=s.data.toList.take k++[s[k]]:=by
 rw [ao (by simpa using h)];rfl
theorem dt(s:ByteArray)(k:Nat)(h:k<s.size):v8 (s.data.toList.take (k+1))=(v8 (s.data.toList.take k)&&kU (s[k].toNat:Int)):=by
 rw [JO s k h];simp [v8]
theorem K1(s:ByteArray)(k:Nat)(h:k<s.size)(a:kU (s[k].toNat:Int)=false):v8 s.data.toList=false:=by
 have e:s.data.toList=s.data.toList.take (k+1)++s.data.toList.drop (k+1):=(aE _ _).symm;rw [e];have h2:=dt s k h;rw [a,Bool.and_false] at h2;unfold v8 at h2 ⊢;rw [List.all_append,h2,lV]
theorem zh{k:IntKind}(h:a=b):Ending.returned (.int k a)=.returned (.int k b):=by rw [h]
theorem ze{a b:Bool}(h:a=b):Ending.returned (.bool a)=.returned (.bool b):=by rw [h]
theorem kV(c:Int)(h:(97<=c/\c<=122)\/(48<=c/\c<=57)\/c=45\/c=47):true=kU c:=by
 unfold kU;simp only [Bool.true_eq,iY,aW,aR,mx];omega
theorem de(c:Int)(a:c<97\/122<c)(h2:c<48\/57<c)(b:¬c=45)(d:¬c=47):false=kU c:=by
 symm;rw [i4];unfold kU;simp only [ne_eq,iY,aW,aR,mx];omega
theorem zy(h:(a==b)=false):¬a=b:=by simpa using h
theorem zs(h:(a==b)=true):a=b:=by simpa using h
theorem Qi(c:Int)(w:World)(b:0<=c)(a:c<=255):
 Calls Tryz.prog 71 #[.int .u8 c] w λe w'=>e=.returned (.bool (kU c))/\w'=w:=by
 go_enter Tryz.func71,Tryz.ntmps71;go_wp2;.go_ret;exact⟨ze (kV c (by omega)),rfl⟩
 .go_ret;exact⟨ze (de c (by omega) (by omega) (zy ‹_›) (zy ‹_›)),rfl⟩
 .go_ret;exact⟨ze (kV c (by omega)),rfl⟩
 .go_ret;exact⟨ze (de c (by omega) (by omega) (zy ‹_›) (zy ‹_›)),rfl⟩
 .go_ret;exact⟨ze (kV c (.inr (.inr (.inl (zs ‹_›))))),rfl⟩
 .go_ret;exact⟨ze (kV c (.inr (.inr (.inr (zs ‹_›))))),rfl⟩
 .go_ret;exact⟨ze (de c (by omega) (by omega) (zy ‹_›) (zy ‹_›)),rfl⟩
theorem ql(s:ByteArray)(w:World)(m:s.size<=maxLen):
 Calls Tryz.prog 49 #[.string s] w λe w'=>e=.returned (.bool (zq s.data.toList))/\w'=w:=by
 unfold maxLen at m;by_cases g:s.size<1
 .go_enter Tryz.func49,Tryz.ntmps49;go_wp2;go_ret;refine⟨ze ?_,rfl⟩;have:¬1<=s.data.toList.length:=by simpa using g
  simp only [zq,this,mA,lV]
 .by_cases f:8<s.size
  .go_enter Tryz.func49,Tryz.ntmps49;go_wp2;go_ret;refine⟨ze ?_,rfl⟩;have:¬s.data.toList.length<=8:=by simpa using f
   simp only [zq,this,mA,lV,Bool.and_false]
  .have a:zq s.data.toList=v8 s.data.toList:=by
    have l:1<=s.data.toList.length:=by simp;omega
    have h2:s.data.toList.length<=8:=by simp;omega
    simp only [zq,l,h2,mM,lI]
   change Hid _ at a;go_enter Tryz.func49,Tryz.ntmps49;go_wp2;go_loop [14] (λi=>∃k:Nat,k<=s.size/\i=.int .i64 k/\v8 (s.data.toList.take k)=true) (λi=>s.size-(intOf i).toNat)
   case atStart=>exact⟨0,aj _,rfl,rfl⟩
   case round=>
    obtain⟨k,n,rfl,b⟩:=hrel;change Hid _ at b;by_cases c:k<s.size
    .cases d:kU (s[k].toNat:Int)
     .go_wp2_with (go_at_call 71;refine(Qi _ _ (by omega) (by have:=s[k].toNat_lt;omega)).mono ?_;rintro e w' ⟨rfl,rfl⟩);go_ret;exact⟨ze (by rw [a.out,K1 s k c d]),rfl⟩
     .have j:Hid (v8 (s.data.toList.take (k+1))=true):=by
       show v8 (s.data.toList.take (k+1))=true;rw [dt s k c,b.out,d];rfl
      go_wp2_with (go_at_call 71;refine(Qi _ _ (by omega) (by have:=s[k].toNat_lt;omega)).mono ?_;rintro e w' ⟨rfl,rfl⟩);go_round
      case rel=>exact⟨k+1,by omega,by go_num,j⟩
      case measure=>simp [intOf];omega
    .go_wp2;go_ret;refine⟨ze ?_,rfl⟩;rw [a.out];have h:=b.out;rw [an (by simp;omega)] at h;exact h.symm
def xh:Bool->Int
 |true=>0
 |false=>2
theorem cE(s:ByteArray)(w:World)(a:s.size<=maxLen):
 Calls Tryz.prog 89 #[.string s] w λe w'=>e=.returned (.int .i64 (xh (zq s.data.toList)))/\w'=w:=by
 cases b:zq s.data.toList
 all_goals
  go_enter Tryz.func89,Tryz.ntmps89;go_wp2_with (go_at_call 49;refine(ql _ _ a).mono ?_;rintro e w' ⟨rfl,rfl⟩);go_ret;exact⟨rfl,rfl⟩
theorem ur(s:ByteArray)(w:World)(n:s.size<=maxLen):
 Calls Tryz.prog 90 #[.string s] w λe w'=>e=.returned (.int .i64 (xh (zq s.data.toList)))/\w'=w:=by
 unfold maxLen at n;by_cases g:s.size<1
 .go_enter Tryz.func90,Tryz.ntmps90;go_wp2;go_ret;refine⟨zh ?_,rfl⟩;have:¬1<=s.data.toList.length:=by simpa using g
  simp only [zq,this,mA,lV];rfl
 .by_cases f:8<s.size
  .go_enter Tryz.func90,Tryz.ntmps90;go_wp2;go_ret;refine⟨zh ?_,rfl⟩;have:¬s.data.toList.length<=8:=by simpa using f
   simp only [zq,this,mA,lV,Bool.and_false];rfl
  .have a:zq s.data.toList=v8 s.data.toList:=by
    have l:1<=s.data.toList.length:=by simp;omega
    have h2:s.data.toList.length<=8:=by simp;omega
    simp only [zq,l,h2,mM,lI]
   change Hid _ at a;go_enter Tryz.func90,Tryz.ntmps90;go_wp2;go_loop [3] (λi=>∃k:Nat,k<=s.size/\i=.int .i64 k/\v8 (s.data.toList.take k)=true) (λi=>s.size-(intOf i).toNat)
   case atStart=>exact⟨0,aj _,rfl,rfl⟩
   case round=>
    obtain⟨k,p,rfl,b⟩:=hrel;change Hid _ at b;by_cases c:k<s.size
    .have j:Hid (true=kU (s[k].toNat:Int)->v8 (s.data.toList.take (k+1))=true):=by
      intro d;show v8 (s.data.toList.take (k+1))=true;rw [dt s k c,b.out,<-d];rfl
     have m:Hid (false=kU (s[k].toNat:Int)->(2:Int)=xh (zq s.data.toList)):=by intro d;rw [a.out,K1 s k c d.symm];rfl
     have o:(0:Int)<=s[k].toNat:=by omega
     go_wp2
     all_goals
      first
       |(go_round
         case rel=>
          simp only [bne_eq_false_iff_eq] at*;exact⟨k+1,by omega,by go_num,j (kV _ (by omega))⟩
         case measure=>simp [intOf];omega)
       |(go_ret
         simp only [bne_iff_ne,ne_eq] at*
         exact⟨zh (m (de _ (by omega) (by omega) (by omega) (by omega))),eI⟩)
    .go_wp2;go_ret;refine⟨zh ?_,rfl⟩;have h:=b.out;rw [an (by simp;omega)] at h;rw [a.out,h];rfl
theorem walk(b:ByteArray)(a:b.size<=maxLen)(w:World):
 Calls Tryz.prog 57 #[.string b] w λe w'=>e=.returned (.bool true)/\Grown w w':=by
 go_enter Tryz.func57,Tryz.ntmps57
 go_wp2_with (first
  |(go_at_call 89;refine(cE _ _ a).mono ?_;rintro e w' ⟨rfl,rfl⟩)
  |(go_at_call 90;refine(ur _ _ a).mono ?_;rintro e w' ⟨rfl,rfl⟩))
 go_ret;exact⟨by simp,Grown.refl _⟩
end keys
namespace disk
open Go.ChangeShapes Go.WideShapes Go.ChangeAt Go.RowKit
variable {w:World}{bd bc pc:Nat}{S:Nat->Prop}{ba pa:Option Addr}{n:Int}
theorem zo.set_fuse{D:Dk}(h:zo w bd S D ba pa bc pc)(n:Int):
 zo (w.setCell ⟨bd,2,none⟩ (.int .i64 n)) bd S {D with fuse:=n} ba pa bc pc:=by
 refine⟨⟨h.ok.bs,h.ok.ps,h.ok.few⟩,?_,?_,?_,h.own,h.ap1,h.ap2,h.ap3⟩;.rw [heap_setCell_same w bd 2 _ _ _ h.head];rfl
 .exact(za.setCell (S:=λk=>k=bd) w ⟨bd,2,none⟩ _ rfl).owns h.rows (λk a e=>h.ap1 (by rw [a,e]))
 .exact(za.setCell (S:=λk=>k=bd) w ⟨bd,2,none⟩ _ rfl).owns h.pend (λk a e=>h.ap2 (by rw [a,e]))
theorem zo.set_reads{D:Dk}(h:zo w bd S D ba pa bc pc)(n:Int):
 zo (w.setCell ⟨bd,3,none⟩ (.int .i64 n)) bd S {D with reads:=n} ba pa bc pc:=by
 refine⟨⟨h.ok.bs,h.ok.ps,h.ok.few⟩,?_,?_,?_,h.own,h.ap1,h.ap2,h.ap3⟩;.rw [heap_setCell_same w bd 3 _ _ _ h.head];rfl
 .exact(za.setCell (S:=λk=>k=bd) w ⟨bd,3,none⟩ _ rfl).owns h.rows (λk a e=>h.ap1 (by rw [a,e]))
 .exact(za.setCell (S:=λk=>k=bd) w ⟨bd,3,none⟩ _ rfl).owns h.pend (λk a e=>h.ap2 (by rw [a,e]))
def qx(n:Int):Int:=if 0<n then n-1 else n
def zD(n:Int):Prop:= -9223372036854775808<=n/\n<=9223372036854775807
theorem K2(h:0<n):qx n=n-1:=aB h
theorem JP(h:¬0<n):qx n=n:=aw h
theorem zo.at_fuse{D:Dk}(h:zo w bd S D ba pa bc pc)(e:D.fuse=n):zo w bd S {D with fuse:=n} ba pa bc pc:=by
 subst e;exact h
theorem uu(w:World)(bd:Nat)(S:Nat->Prop)(D:Dk)(ba pa:Option Addr)(bc pc:Nat)(h:zo w bd S D ba pa bc pc)(g:zD D.fuse):
 Calls Tryz.prog 65 #[.pointer (some ⟨bd,0,none⟩)] w λe w'=>
  e=.returned (.bool (!(D.fuse==0)))/\zo w' bd S {D with fuse:=qx D.fuse} ba pa bc pc/\za (λk=>k=bd) w w':=by
 have m:=h.c2;have l:=h.fz 2;obtain⟨i,j⟩:=g;have d:=h.set_fuse (D.fuse-1);change Hid _ at d h;generalize a:D.fuse=n at*;change Hid _ at a;by_cases c:n=0
 .subst c;go_enter Tryz.func65,Tryz.ntmps65;go_wp2;go_ret;exact⟨rfl,h.at_fuse a,za.refl _ _⟩
 .by_cases f:0<n
  .have b:Hid _:=K2 f;go_enter Tryz.func65,Tryz.ntmps65;go_wp2;go_ret;exact⟨by simp [c],by rw [b.out];exact d,za.setCell _ _ _ rfl⟩
  .have b:Hid _:=JP f;go_enter Tryz.func65,Tryz.ntmps65;go_wp2;go_ret;exact⟨by simp,by rw [b.out];exact h.at_fuse a,za.refl _ _⟩
theorem jq(w:World)(bd:Nat)(S:Nat->Prop)(D:Dk)(ba pa:Option Addr)(bc pc:Nat)(h:zo w bd S D ba pa bc pc):
 Calls Tryz.prog 54 #[.pointer (some ⟨bd,0,none⟩)] w λe w'=>e=.returned (.int .i64 D.bs.length)/\w'=w:=by
 have a:=h.c0;clear h;go_enter Tryz.func54,Tryz.ntmps54;go_wp2;go_ret;exact⟨rfl,rfl⟩
theorem qE(w:World)(bd:Nat)(S:Nat->Prop)(D:Dk)(ba pa:Option Addr)(bc pc:Nat)(h:zo w bd S D ba pa bc pc):
 Calls Tryz.prog 86 #[.pointer (some ⟨bd,0,none⟩)] w λe w'=>e=.returned (.int .i64 D.reads)/\w'=w:=by
 have a:=h.c3;clear h;go_enter Tryz.func86,Tryz.ntmps86;go_wp2;go_ret;exact⟨rfl,rfl⟩
theorem uv(w:World)(bd:Nat)(S:Nat->Prop)(D:Dk)(ba pa:Option Addr)(bc pc:Nat)(h:zo w bd S D ba pa bc pc)(n:Int):
 Calls Tryz.prog 43 #[.pointer (some ⟨bd,0,none⟩),.int .i64 n] w λe w'=>e=.returned (.tuple #[])/\zo w' bd S {D with fuse:=n} ba pa bc pc/\za (λk=>k=bd) w w':=by
 have c:=h.c2;have b:=h.fz 2;have a:Hid _:=h.set_fuse n;clear h;go_enter Tryz.func43,Tryz.ntmps43;go_wp2;go_end0;exact⟨rfl,a,za.setCell _ _ _ rfl⟩
def zX:List Value:=List.replicate 128 (.int .u8 0)
theorem Tryz.infoBlock:(Tryz.prog.info? 131).map (λi=>(i.zero,i.size,i.bytes))=some (some (.agg zX.toArray),128,128):=by kernel_rfl
theorem zH:zT zX:=⟨by simp [zX],λv a=>by rw [lj a];rfl⟩
theorem v9:∀n,(List.replicate n zX).flatten=List.replicate (n*128) (Value.int .u8 0)
 |0=>by simp
 |n+1=>by rw [mg,aU,v9 n,eJ,iU,iG,<-lq];rfl
theorem YY(z:Array Value)(v:Value)(b:0<z.size)(h:∀i (d:i<z.size),z[i]=v)(n:Nat):(madeCells z n).toList=List.replicate n v:=by
 apply mB;.simp [madeCells]
 .intro i c h2;have a:i%z.size<z.size:=Nat.mod_lt _ b;simp only [madeCells,mC,ia,Array.getElem_toList,Array.getElem_range,List.getElem_replicate];rw [getElem!_pos z _ a];exact h _ a
theorem YZ(n:Nat):(madeCells (Value.agg zX.toArray).cells n).toList=List.replicate n (Value.int .u8 0):=by
 have e:(Value.agg zX.toArray).cells=zX.toArray:=rfl;have a:zX.toArray.size=128:=by rw [aq];exact zH.1
 rw [e];refine YY _ _ (by omega) (λi b=>?_) n;rw [List.getElem_toArray];exact lj (ai _)
def Dk.fresh(n:Nat):Dk:={bs:=List.replicate n zX,ps:=[],fuse:= -1,reads:=0}
def jV(n:Int):Nat:=if n<0\/1000<n then 0 else n.toNat
theorem du(w:World)(n:Nat)(e:n<=1000):
 zo ((w.alloc (.cells (madeCells (Value.agg zX.toArray).cells (n*128)) 131)).alloc
  (.cells #[.slice (some ⟨w.heap.size,0,none⟩) n n,.slice none 0 0,.int .i64 (-1),.int .i64 0] 118)) (w.heap.size+1) (λk=>k=w.heap.size+1\/k=w.heap.size) (Dk.fresh n) (some ⟨w.heap.size,0,none⟩) none n 0:=by
 have a:(List.replicate n zX).length=n:=by simp
 refine⟨⟨λb d=>by rw [lj d];exact zH,λp c=>(by cases c),by simpa [Dk.fresh] using e⟩,?_,?_,aV _ _ _ _,?_,?_,?_,?_⟩
 .simp only [Dk.fresh,a,hO];exact eF w _ _
 .simp only [Dk.fresh,a];refine er ⟨?_,.inr ⟨w.heap.size,n,_,rfl,aj _,ac w _,aF _,by unfold maxLen;omega,by rw [size_madeCells],?_⟩⟩ _;.rw [v9];simp
  .rw [YZ,v9,an (by simp)]
 .intro k;simp [Value.ownBlock,my]
 .simp [Value.ownBlock]
 .simp [Value.ownBlock]
 .intro k _;simp [Value.ownBlock]
theorem jH(w:World)(n:Int)(s:zD n):
 Calls Tryz.prog 39 #[.int .i64 n] w λe w'=>
  e=.returned (.pointer (some ⟨w.heap.size+1,0,none⟩))/\zg w' (w.heap.size+1) (λk=>k=w.heap.size+1\/k=w.heap.size) (Dk.fresh (jV n))/\za (λ_=>False) w w':=by
 obtain⟨r,o,j,l,i⟩:=eZ Tryz.infoBlock;obtain⟨t,x⟩:=s
 have f:Hid (∀m:Nat,m<=1000->∀g:World,(Instr.makeSlice 115 (.int .i64 m) (.int .i64 m)).run Tryz.prog g=
  .ok (.slice (some ⟨g.heap.size,0,none⟩) m m) (g.alloc (.cells (madeCells (Value.agg zX.toArray).cells (m*128)) 131))):=λm p g=>by
  have:=run_make (P:=Tryz.prog) g 115 131 r _ Tryz.underlying115 o j .i64 .i64 m m (by omega) (by omega) (by rw [i];omega) (by omega);rw [l] at this;simpa using this
 clear o j l i;by_cases d:n<0\/1000<n
 .have h:Hid (jV n=0):=aB d;have b:∀g:World,(Instr.makeSlice 115 (.int .i64 0) (.int .i64 0)).run Tryz.prog g=.ok (.slice (some ⟨g.heap.size,0,none⟩) 0 0) (g.alloc (.cells (madeCells (Value.agg zX.toArray).cells (0*128)) 131)):=f.out 0 (by omega);generalize c:madeCells (Value.agg zX.toArray).cells (0*128)=v at b;have a:Hid (madeCells (Value.agg zX.toArray).cells (0*128)=v):=c;clear c f;by_cases q:n<0
  .clear d;go_enter Tryz.func39,Tryz.ntmps39;go_wp2;go_ret;refine⟨rfl,?_,(za.alloc _ _ _).trans (za.alloc _ _ _) iL⟩;rw [h.out,<-a.out];exact⟨_,_,_,_,du w 0 (by omega)⟩
  .have u:1000<n:=by omega
   clear d;go_enter Tryz.func39,Tryz.ntmps39;go_wp2;go_ret;refine⟨rfl,?_,(za.alloc _ _ _).trans (za.alloc _ _ _) iL⟩;rw [h.out,<-a.out];exact⟨_,_,_,_,du w 0 (by omega)⟩
 .obtain⟨m,rfl⟩:∃m:Nat,n=m:=⟨n.toNat,by omega⟩;have q:¬(m:Int)<0:=by omega
  have p:m<=1000:=by omega
  have h:Hid (jV (m:Int)=m):=by show jV (m:Int)=m;unfold jV;rw [aw d];simp
  have b:=f.out m p;generalize c:madeCells (Value.agg zX.toArray).cells (m*128)=v at b;have a:Hid _:=c;clear c f d;go_enter Tryz.func39,Tryz.ntmps39;go_wp2;go_ret;refine⟨rfl,?_,(za.alloc _ _ _).trans (za.alloc _ _ _) iL⟩;rw [h.out,<-a.out];exact⟨_,_,_,_,du w m p⟩
end disk
end Go.Proofs.YtcoengihaobddaaGreatDoor
