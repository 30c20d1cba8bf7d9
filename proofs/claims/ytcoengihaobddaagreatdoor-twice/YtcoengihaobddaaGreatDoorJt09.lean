/- Part 9 of 26 of a proof: Keep8, Keep9, Law14 -/
import Derived.Test.YtcoengihaobddaaGreatDoorJt08
set_option maxHeartbeats 8000000
set_option linter.unusedVariables false
set_option linter.unusedSimpArgs false
set_option maxRecDepth 8000
namespace Go.Proofs.YtcoengihaobddaaGreatDoor
open Go.ChangeShapes Go.WideShapes Go.ChangeAt Go.RowKit disk ref book
open keys (zj zc zs zm zr)
namespace keep
open law (qz ze yB qU x8 zY Ql vZ)
theorem fd(l r:List zI):zY (l++r)=zY l++zY r:=by unfold zY;simp
theorem gp(l:List zI):(zY l).length=l.length*4:=by
 unfold zY
 induction l with
 |nil=>rfl
 |cons v l ih=>simp only [List.map_cons,List.flatten_cons,List.length_append,List.length_cons,ih];simp [Ql];omega
theorem Zv(L:List zI)(n m:Nat):L.take (n+((L.drop n).take m).length)=L.take n++(L.drop n).take m:=by
 rw [List.take_add]
 congr 1
 rw [List.length_take]
 by_cases h:m≤(L.drop n).length
 ·rw [Nat.min_eq_left h]
 ·rw [Nat.min_eq_right (by omega),List.take_of_length_le (Nat.le_refl _),List.take_of_length_le (by omega)]
theorem QJ(L:List zI)(n:Nat)(h:n<L.length):fb L (n+1)=L[n].key∧fx L (n+1)=L[n].num:=by
 unfold fb fx;simp [h]
theorem fT{k:ByteArray}(h:zr k.data.toList=true):k.size≤8:=by
 unfold zr at h
 simp only [Bool.and_eq_true,decide_eq_true_eq] at h
 simpa using h.1.2
structure Zx (M:ze) (w wr:World) (bd bs:Nat) (S:Nat→Prop) (D:Dk) (V:qz) (L:List zI) (m i n:Nat) (a:Option Addr) (c:Nat) (S':Nat→Prop) (D':Dk):Prop where
 ni:n=i*m
 nlt:n=0∨n<L.length
 fore:qU M wr bd bs S' D' V
 foot:∀k,S' k→S k∨w.heap.size≤k
 kept:za (fun k=>S k∨k=bs) w wr
 reads0:D.reads≤D'.reads
 reads1:D'.reads≤D.reads+1000*(i:Int)
 size:D'.bs.length=D.bs.length
 row:Row wr a c (L.take n)
 new:∀k,(Value.slice a n c).ownBlock=some k→w.heap.size≤k∧¬S' k
 nil:n=0→a=none∧c=0
section
variable {M:ze} {w wr w2 w5:World} {bd bs:Nat} {S S' S2:Nat→Prop} {D D' D2:Dk} {V:qz} {L KK:List zI} {m i n q c c2:Nat} {a:Option Addr}
structure Zy (M:ze) (w w5:World) (bd bs:Nat) (S:Nat→Prop) (D:Dk) (V:qz) (L:List zI) (i n:Nat) (a5:Option Addr) (c5:Nat) (S2:Nat→Prop) (D2:Dk):Prop where
 fore:qU M w5 bd bs S2 D2 V
 foot:∀k,S2 k→S k∨w.heap.size≤k
 kept:za (fun k=>S k∨k=bs) w w5
 reads0:D.reads≤D2.reads
 reads1:D2.reads≤D.reads+1000*((i:Int)+1)
 size:D2.bs.length=D.bs.length
 row:Row w5 a5 c5 (L.take n)
 new:∀k,(Value.slice a5 n c5).ownBlock=some k→w.heap.size≤k∧¬S2 k
theorem Zx.page(h:Zx M w wr bd bs S D V L m i n a c S' D')(haft:x8 M wr w2 bd bs S' S2 D' D2 1000 (some bd))(hlive:M.Live D2 V)(hbs:bs<w.heap.size)(hrd:D2.reads≤2305843009213693952)(T:Nat→Prop)(k5:za T w2 w5)(hT:∀k,T k→w.heap.size≤k∧¬S2 k)(a5:Option Addr)(c5 n':Nat)(hrow:Row w5 a5 c5 (L.take n'))(hnew:∀k,(Value.slice a5 n' c5).ownBlock=some k→w.heap.size≤k∧¬S2 k):Zy M w w5 bd bs S D V L i n' a5 c5 S2 D2:=by
 have hfoot:∀k,S2 k→S k∨w.heap.size≤k:=fun k hk=>by
  rcases haft.foot k hk with h1|h1
  ·exact h.foot k h1
  ·exact .inr (by have:=h.kept.size;omega)
 have nbs:¬S2 bs:=fun hk=>by
  rcases haft.foot bs hk with h1|h1
  ·exact h.fore.apart h1
  ·have:=h.kept.size;omega
 have r0:=h.reads0
 have r1:=h.reads1
 have s0:=haft.reads0
 have s1:=haft.reads1
 have f0:=h.fore.reads0
 refine⟨qU.kept ⟨haft.disk,nbs,haft.sto,hlive,haft.fuse,by omega,hrd,h.fore.few⟩ k5 (fun k hk hc=>(hT k hc).2 hk) (fun hc=>by have:=(hT bs hc).1;omega),hfoot,?_,by omega,by omega,haft.size.trans h.size,hrow,hnew⟩
 refine(h.kept.trans (haft.kept.mono (S':=fun k=>S' k∨k=bs) (fun k hk=>hk)) (fun k hk=>?_)).trans k5 (fun k hk=>.inr (hT k hk).1)
 rcases hk with hk|hk
 ·exact(h.foot k hk).imp .inl id
 ·exact .inl (.inr hk)
theorem Zx.first(h:Zx M w wr bd bs S D V L m i 0 none 0 S' D')(haft:x8 M wr w2 bd bs S' S2 D' D2 1000 (some bd))(hlive:M.Live D2 V)(hbs:bs<w.heap.size)(hrd:D2.reads≤2305843009213693952)(htp:L.take (0+q)=L.take 0++KK)(hq:KK.length=q)(o:Obj)(a5:Option Addr)(c5:Nat)
 (hown:w5.ownsRow 0 94 4 (.slice a5 q c5) q (zY KK)) (hgrow:(w2.alloc o).grownBy w5 none) (hat:(Value.slice a5 q c5).ownBlock=none∨(Value.slice a5 q c5).ownBlock=some (w2.alloc o).heap.size):Zy M w w5 bd bs S D V L i q a5 c5 S2 D2:=by
 have e:L.take q=KK:=by simpa using htp
 have h1:=h.kept.size
 have h2:=haft.kept.size
 refine h.page haft hlive hbs hrd (fun _=>False) ((za.alloc _ w2 o).trans (za.grown hgrow (fun k hk=>by cases hk)) iL) fE a5 c5 q ?_ (fun k hk=>?_)
 ·unfold Row
  rw [e,hq]
  exact hown
 ·have e2:k=w2.heap.size+1:=by
   rcases hat with h3|h3<;>rw [h3] at hk<;>simp at hk;omega
  exact⟨by omega,fun hs=>by have:=haft.disk.lt k hs;omega⟩
theorem Zx.next(h:Zx M w wr bd bs S D V L m i n a c S' D')(haft:x8 M wr w2 bd bs S' S2 D' D2 1000 (some bd))(hlive:M.Live D2 V)(hbs:bs<w.heap.size)(hrd:D2.reads≤2305843009213693952)(htp:L.take (n+q)=L.take n++KK)(hq:KK.length=q)(hn:n+q≤L.length)(o:Obj)(g5 c5:Nat)
 (hown:w5.ownsRow 0 94 4 (.slice (some ⟨g5,0,none⟩) (n+q) c5) (n+q) (zY (L.take n)++zY KK)) (hgrow:(w2.alloc o).grownBy w5 (Value.slice a n c).ownBlock) (hat:(Value.slice a n c).ownBlock=some g5∨g5=w2.heap.size+1):Zy M w w5 bd bs S D V L i (n+q) (some ⟨g5,0,none⟩) c5 S2 D2:=by
 have h1:=h.kept.size
 have h2:=haft.kept.size
 have hold:∀k,(Value.slice a n c).ownBlock=some k→w.heap.size≤k∧¬S2 k:=fun k hk=>by
  have h3:=h.new k hk
  refine⟨h3.1,fun hs=>?_⟩
  rcases haft.foot k hs with h4|h4
  ·exact h3.2 h4
  ·have hl:n≤L.length:=by omega
   have h5:k<wr.heap.size:=by
    have hr:wr.ownsRow 0 94 4 (.slice a (L.take n).length c) (L.take n).length (zY (L.take n)):=h.row
    rw [List.length_take,Nat.min_eq_left hl] at hr
    exact(hr.lt k hk).2
   omega
 refine h.page haft hlive hbs hrd (fun k=>(Value.slice a n c).ownBlock=some k) ((za.alloc _ w2 o).trans (za.grown hgrow (fun k hk=>hk)) iL) hold _ _ _ ?_ (fun k hk=>?_)
 ·unfold Row
  rw [List.length_take,Nat.min_eq_left hn,htp,fd]
  exact hown
 ·obtain rfl:g5=k:=by simpa [Value.ownBlock] using hk
  rcases hat with h3|h3
  ·exact hold _ h3
  ·exact⟨by omega,fun hs=>by have:=haft.disk.lt _ hs;omega⟩
theorem Zy.last{a5:Option Addr}{c5:Nat}(h:Zy M w w5 bd bs S D V L i n a5 c5 S2 D2)(h0:0<n)(hn:n≤L.length):∃g j,a5=some ⟨g,0,none⟩∧g<w5.heap.size∧j+1=n∧w5.cell? ⟨g,j*4,none⟩=some (.string (fb L n))∧w5.cell? ⟨g,j*4+1,none⟩=some (.int .i64 (fx L n)):=by
 have hl:(L.take n).length=n:=by rw [List.length_take,Nat.min_eq_left hn]
 obtain⟨g,e,hg,hc⟩:=h.row.cells (by omega)
 obtain⟨j,rfl⟩:∃j,n=j+1:=⟨n-1,by omega⟩
 obtain⟨c0,c1,_,_⟩:=hc j (by omega)
 obtain⟨e1,e2⟩:=QJ L j (by omega)
 rw [List.getElem_take] at c0 c1
 exact⟨g,j,e,hg,rfl,by rw [e1];exact c0,by rw [e2];exact c1⟩
theorem Zy.on{a5:Option Addr}{c5 n':Nat}(h:Zy M w w5 bd bs S D V L i n' a5 c5 S2 D2)(ni:n'=(i+1)*m)(hn:n'<L.length)(h0:0<n'):Zx M w w5 bd bs S D V L m (i+1) n' a5 c5 S2 D2:=
 ⟨ni,.inr hn,h.fore,h.foot,h.kept,h.reads0,by have:=h.reads1;push_cast;omega,h.size,h.row,h.new,fun e=>by omega⟩
theorem Zy.done{a5:Option Addr}{c5 n':Nat}{p:ByteArray}(h:Zy M w w5 bd bs S D V L i n' a5 c5 S2 D2)(hi:i<2000)(hn:n'=L.length)(hL:qB V.vs p ByteArray.empty 0 L):∃D' S' a c L',Ending.returned (Value.tuple #[.slice a5 n' c5,.bool true])=.returned (.tuple #[.slice a L'.length c,.bool true])∧x8 M w w5 bd bs S S' D D' 2000000 (some bd)∧M.Live D' V∧qB V.vs p ByteArray.empty 0 L'∧Row w5 a c L'∧∀k,(Value.slice a L'.length c).ownBlock=some k→w.heap.size≤k∧¬S' k:=by
 subst hn
 have hr:=h.row
 rw [List.take_length] at hr
 have r1:=h.reads1
 exact⟨D2,S2,a5,c5,L,rfl,⟨h.fore.disk,h.foot,h.fore.sto,h.kept,h.reads0,by omega,h.size,h.fore.fuse⟩,h.fore.live,hL,hr,h.new⟩
end
set_option maxRecDepth 60000 in
theorem bB(M:ze)(A:yB M)(w:World)(bd bs:Nat)(S:Nat→Prop)(D:Dk)(V:qz)(F:qU M w bd bs S D V)(p:ByteArray)(hp:p=ByteArray.empty∨zr p.data.toList=true)(hps:p.size≤8)(m:Nat)(m1:1≤m)(m2:m≤50)(hlen:V.vs.length≤1000)(hrd:D.reads≤1000000000000):
 Calls Tryz.prog 20 #[.pointer (some ⟨bs,0,none⟩),.string p,.int .i64 (m:Int)] w fun e w'=>∃D' S' a c L,e=.returned (.tuple #[.slice a L.length c,.bool true])∧x8 M w w' bd bs S S' D D' 2000000 (some bd)∧M.Live D' V∧qB V.vs p ByteArray.empty 0 L∧Row w' a c L∧∀k,(Value.slice a L.length c).ownBlock=some k→w.heap.size≤k∧¬S' k:=by
 have hgood:=F.live.good
 obtain⟨L,hL⟩:∃L,qB V.vs p ByteArray.empty 0 L:=⟨_,fF V.vs hgood.apart p ByteArray.empty 0⟩
 have hne:∀v∈V.vs,v.key≠ByteArray.empty:=fun v hv e=>by
  have:=hgood.key v hv
  rw [e] at this
  exact absurd this (by decide)
 have hLl:L.length≤1000:=by
  rw [hL.perm.length_eq]
  exact Nat.le_trans (List.length_filter_le _ _) hlen
 have hmem:∀v∈L,v∈V.vs:=fun v hv=>(List.mem_filter.1 (hL.perm.subset hv)).1
 have hplk:∀n,n≤L.length→yn p (fb L n) (fx L n) m=0∧(fb L n).size≤8∧zF (fx L n):=fun n hn=>by
  have h1:(fb L n=ByteArray.empty∧fx L n=0)∨∃v∈V.vs,fb L n=v.key∧fx L n=v.num:=by
   by_cases h0:n=0
   ·subst h0;exact .inl ⟨rfl,rfl⟩
   ·obtain⟨j,rfl⟩:∃j,n=j+1:=⟨n-1,by omega⟩
    obtain⟨e1,e2⟩:=QJ L j (by omega)
    exact .inr ⟨L[j],hmem _ (List.getElem_mem _),e1,e2⟩
  have hn0:=F.few
  have h2:(fb L n=ByteArray.empty∨zr (fb L n).data.toList=true)∧0≤fx L n∧fx L n≤2305843009213693952∧(fb L n).size≤8:=by
   rcases h1 with⟨e1,e2⟩|⟨v,hv,e1,e2⟩
   ·rw [e1,e2];exact⟨.inl rfl,by omega,by omega,by decide⟩
   ·have h3:=hgood.num v hv
    have h4:=hgood.key v hv
    rw [e1,e2]
    refine⟨.inr h4,by omega,by omega,?_⟩
    have:=fT h4
    exact this
  refine⟨?_,h2.2.2.2,⟨by omega,by omega⟩⟩
  unfold yn
  rw [if_neg,if_neg (by omega)]
  rintro(⟨h3,h4⟩|⟨h3,h4⟩)
  ·rcases hp with h5|h5
   ·exact h3 h5
   ·rw [h5] at h4;cases h4
  ·rcases h2.1 with h5|h5
   ·exact h3 h5
   ·rw [h5] at h4;cases h4
 have HL:Hid (qB V.vs p ByteArray.empty 0 L):=hL
 have HPL:Hid (∀n,n≤L.length→yn p (fb L n) (fx L n) m=0∧(fb L n).size≤8∧zF (fx L n)):=hplk
 have HNE:Hid (∀v∈V.vs,v.key≠ByteArray.empty):=hne
 have HF:Hid (qU M w bd bs S D V):=F
 obtain⟨i0,hi0,hz0,hz1,hz2⟩:=y6 Tryz.infoVer
 have HI0:Hid (Tryz.prog.info? 94=some i0∧i0.zero=some (.agg #[.string ⟨#[]⟩,.int .i64 0,.bool false,.int .i64 0])∧i0.size=4∧i0.bytes=40):=⟨hi0,hz0,hz1,hz2⟩
 have hbsw:=M.sto_lt _ _ _ F.sto
 clear hi0 hz0 hz1 hz2 hL hplk hne F hmem hgood hp
 go_enter Tryz.func20,Tryz.ntmps20
 go_wp2_with fail
 go_loopw [8,9,10,11] (fun x ky nu t wr=>∃i n:Nat,∃a c S' D',x=.slice a n c∧ky=.string (fb L n)∧nu=.int .i64 (fx L n)∧t=.int .i64 (i:Int)∧Zx M w wr bd bs S D V L m i n a c S' D') (fun _ _ _ t _=>2000-(intOf t).toNat)
 case atStart=>
  exact⟨0,0,none,0,S,D,rfl,rfl,rfl,rfl,⟨by simp,.inl rfl,HF.out,fun k hk=>.inl hk,za.refl _ _,Int.le_refl _,by omega,rfl,Row.nil w,fun k hk=>(by cases hk),fun _=>⟨rfl,rfl⟩⟩⟩
 case round=>
  obtain⟨i,n,a,c,S',D',rfl,rfl,rfl,rfl,hinv⟩:=hrel
  have HV:Hid (Zx M w wr bd bs S D V L m i n a c S' D'):=hinv
  have hni:=hinv.ni
  have hnl:=hinv.nlt
  have hr0:=hinv.reads0
  have hr1:=hinv.reads1
  have hnL:n≤L.length:=by omega
  have hi2:i≤n:=by rw [hni];exact Nat.le_mul_of_pos_right i (by omega)
  have hi3:(i:Int)<2000:=by omega
  obtain⟨q0,q1,q2⟩:=HPL.out n hnL
  have HQ0:Hid (yn p (fb L n) (fx L n) m=0):=q0
  have hbs2:=HF.out.reads0
  clear hinv q0 hni
  generalize hK:fb L n=K at*
  generalize hN:fx L n=N at*
  have HKN:Hid (fb L n=K∧fx L n=N):=⟨hK,hN⟩
  clear hK hN
  go_wp2_with fail
  refine(A.live wr bd bs S' D' V p K N m HV.out.fore (by unfold maxLen;omega) (by unfold maxLen;omega) q2 ⟨by omega,by omega⟩).mono ?_
  rintro e w2 ⟨D2,S2,x,more,rfl,haft,hlive,hpage,_,hx2⟩
  rw [HQ0.out]
  obtain⟨L',hL',hpg⟩:=hpage HQ0.out
  obtain rfl:L'=L.drop n:=hL'.unique (by have:=qB.behind HL.out HNE.out n hnL;rw [HKN.out.1,HKN.out.2] at this;exact this) (List.Perm.refl _)
  obtain⟨a2,c2,rfl,hown2,hfr2⟩:=hpg.at_
  have hmore:=hpg.more
  have hm0:((m:Int)).toNat=m:=by simp
  rw [hm0] at hown2 hfr2 hmore hx2
  simp only [hm0]
  have HAFT:Hid (x8 M wr w2 bd bs S' S2 D' D2 1000 (some bd)):=haft
  have HLV:Hid (M.Live D2 V):=hlive
  have hql:((L.drop n).take m).length=min m (L.length-n):=by rw [List.length_take,List.length_drop]
  have HTP:Hid (L.take (n+((L.drop n).take m).length)=L.take n++(L.drop n).take m):=Zv L n m
  generalize hKK:(L.drop n).take m=KK at*
  generalize hq:KK.length=q at*
  have HO2:Hid (w2.ownsRow 0 94 4 (.slice a2 q c2) q (zY KK)):=hown2
  have HF2:Hid (∀k,(Value.slice a2 q c2).ownBlock=some k→wr.heap.size≤k∧¬S2 k):=fun k hk=>⟨hfr2 k hk,hx2 k hk⟩
  have hld:(L.drop n).length=L.length-n:=List.length_drop
  rw [hld] at hmore
  have hsz2:=haft.kept.size
  have HKL:Hid (KK.length=q):=hq
  clear hpage hpg haft hlive hL' hown2 hfr2 hx2 hKK hld hq
  have hb3:∀v,(w2.alloc (.cells #[v,.bool more] 90)).heap[w2.heap.size]? =some (.cells #[v,.bool more] 90 (0,0)):=fun v=>heap_alloc_new w2 _
  have HOA:Hid (∀o,(w2.alloc o).ownsRow 0 94 4 (.slice a2 q c2) q (zY KK)):=fun o=>World.ownsRow.alloc HO2.out o
  by_cases hn0:n=0
  ·subst hn0
   obtain⟨rfl,rfl⟩:=HV.out.nil rfl
   cases more with
   |true=>
    have hm3:m<L.length-0:=of_decide_eq_true hmore.symm
    have eq:q=m:=by omega
    subst eq
    clear hmore hql
    go_wp2_with (refine xO rfl (.tmp 47) (.tmp 49) 44 rfl 94 i0 _ 4 40 Tryz.underlying44 HI0.out.1 HI0.out.2.1 HI0.out.2.2.1 HI0.out.2.2.2 rfl (by omega) (.slice a2 q c2) q (zY KK) (by rfl) (by rfl) (HOA.out _) (jm KK) (by unfold maxLen;omega) (by omega) ?_;intro a5 c5 w5 hown5 hgrow5 hat5;have hc51:w5.cell? ⟨w2.heap.size,1,none⟩=some (.bool true):=(hgrow5.cell_far ⟨w2.heap.size,1,none⟩ (by simp) (fun e=>by cases e)).trans ((cell_of_row _ _ 1 _ _ _ (hb3 _)).trans rfl);have HX:Hid (Zy M w w5 bd bs S D V L i q a5 c5 S2 D2):=Zx.first HV.out HAFT.out HLV.out hbsw (by have:=HAFT.out.reads1;omega) HTP.out HKL.out _ a5 c5 hown5 hgrow5 hat5;clear hown5 hgrow5 hat5;obtain⟨g5,j,rfl,hg5,hj,hk0,hk1⟩:=HX.out.last (by omega) (by omega);have hjI:(j:Int)<(q:Int):=(by omega);have hw1:IntKind.i64.wrap ((q:Int)-1)=(j:Int):=(by rw [show (q:Int)-1=(j:Int) by omega];exact IntWalk.i64_in _ (by omega)))
    go_roundw
    case rel=>exact⟨i+1,q,_,_,S2,D2,rfl,rfl,rfl,by go_num,HX.out.on (by have:=HV.out.ni;rw [Nat.add_mul,←this];omega) (by omega) (by omega)⟩
    case measure=>simp [intOf];omega
   |false=>
    have hm3:¬m<L.length-0:=of_decide_eq_false hmore.symm
    have HEQ:Hid (q=L.length):=by show q=_;omega
    have hqm:q≤m:=by omega
    have hqI:(q:Int)≤(m:Int):=by omega
    clear hmore hql hm3
    go_wp2_with (refine xO rfl (.tmp 47) (.tmp 49) 44 rfl 94 i0 _ 4 40 Tryz.underlying44 HI0.out.1 HI0.out.2.1 HI0.out.2.2.1 HI0.out.2.2.2 rfl (by omega) (.slice a2 q c2) q (zY KK) (by rfl) (by rfl) (HOA.out _) (jm KK) (by unfold maxLen;omega) (by omega) ?_;intro a5 c5 w5 hown5 hgrow5 hat5;have hc51:w5.cell? ⟨w2.heap.size,1,none⟩=some (.bool false):=(hgrow5.cell_far ⟨w2.heap.size,1,none⟩ (by simp) (fun e=>by cases e)).trans ((cell_of_row _ _ 1 _ _ _ (hb3 _)).trans rfl);have HX:Hid (Zy M w w5 bd bs S D V L i q a5 c5 S2 D2):=Zx.first HV.out HAFT.out HLV.out hbsw (by have:=HAFT.out.reads1;omega) HTP.out HKL.out _ a5 c5 hown5 hgrow5 hat5;clear hown5 hgrow5 hat5)
    go_ret2
    exact HX.out.done (by omega) HEQ.out HL.out
  ·obtain⟨g2,rfl⟩:∃g2,a2=some ⟨g2,0,none⟩:=by
    rcases HO2.out.2 with⟨h0,h1⟩|⟨g,cap',cur,hv,_⟩
    ·omega
    ·cases hv;exact⟨g,rfl⟩
   have HRL:Hid (∀k,(Value.slice a n c).ownBlock=some k→k<w2.heap.size):=fun k hk=>by
    have hr:wr.ownsRow 0 94 4 (.slice a (L.take n).length c) (L.take n).length (zY (L.take n)):=HV.out.row
    rw [List.length_take,Nat.min_eq_left hnL] at hr
    have:=(hr.lt k hk).2
    omega
   have HRA:Hid (∀o,(w2.alloc o).ownsRow 0 94 4 (.slice a n c) n (zY (L.take n))):=fun o=>World.ownsRow.alloc (by
    have hr:wr.ownsRow 0 94 4 (.slice a (L.take n).length c) (L.take n).length (zY (L.take n)):=HV.out.row
    rw [List.length_take,Nat.min_eq_left hnL] at hr
    refine HAFT.out.kept.owns hr (fun k hk hc=>?_)
    have h3:=HV.out.new k hk
    rcases hc with hc|hc
    ·exact h3.2 hc
    ·omega) o
   cases more with
   |true=>
    have hm3:m<L.length-n:=of_decide_eq_true hmore.symm
    have eq:q=m:=by omega
    subst eq
    clear hmore hql
    go_wp2_with (refine wpList_append_lies _ rfl (.tmp 47) (.tmp 49) 44 rfl 0 94 i0 _ 4 40 Tryz.underlying44 HI0.out.1 HI0.out.2.1 HI0.out.2.2.1 HI0.out.2.2.2 rfl (by omega) (.slice a n c) n (zY (L.take n)) (by rfl) (HRA.out _) ⟨g2,0,none⟩ q c2 (zY KK) (by rfl) (by rw [gp,HKL.out]) (by exact(HOA.out _).cells (g:=g2) rfl) (jm KK) (by omega) (by unfold maxLen;omega) (by omega) (Nat.zero_le _) (w2.heap.size+1) (by simp) ?_;intro g5 c5 w5 hown5 hgrow5 hat5 hlt5;have hc51:w5.cell? ⟨w2.heap.size,1,none⟩=some (.bool true):=(hgrow5.cell_far ⟨w2.heap.size,1,none⟩ (by simp) (fun e=>Nat.lt_irrefl _ (HRL.out _ e.symm))).trans ((cell_of_row _ _ 1 _ _ _ (hb3 _)).trans rfl);have HX:Hid (Zy M w w5 bd bs S D V L i (n+q) (some ⟨g5,0,none⟩) c5 S2 D2):=Zx.next HV.out HAFT.out HLV.out hbsw (by have:=HAFT.out.reads1;omega) HTP.out HKL.out (by omega) _ g5 c5 hown5 hgrow5 hat5;clear hown5 hgrow5 hat5;obtain⟨g6,j,e6,hg5,hj,hk0,hk1⟩:=HX.out.last (by omega) (by omega);obtain rfl:g5=g6:=(by simpa using e6);have hjI:(j:Int)<(n:Int)+(q:Int):=(by omega);have hw1:IntKind.i64.wrap ((n:Int)+(q:Int)-1)=(j:Int):=(by rw [show (n:Int)+(q:Int)-1=(j:Int) by omega];exact IntWalk.i64_in _ (by omega)))
    go_roundw
    case rel=>exact⟨i+1,n+q,_,_,S2,D2,rfl,rfl,rfl,by go_num,HX.out.on (by have:=HV.out.ni;rw [Nat.add_mul,←this];omega) (by omega) (by omega)⟩
    case measure=>simp [intOf];omega
   |false=>
    have hm3:¬m<L.length-n:=of_decide_eq_false hmore.symm
    have HEQ:Hid (n+q=L.length):=by show n+q=_;omega
    have hqm:q≤m:=by omega
    have hqp:0<q:=by omega
    have hnq:n+q≤L.length:=by omega
    have hqI:(q:Int)≤(m:Int):=by omega
    clear hmore hql hm3
    go_wp2_with (refine wpList_append_lies _ rfl (.tmp 47) (.tmp 49) 44 rfl 0 94 i0 _ 4 40 Tryz.underlying44 HI0.out.1 HI0.out.2.1 HI0.out.2.2.1 HI0.out.2.2.2 rfl (by omega) (.slice a n c) n (zY (L.take n)) (by rfl) (HRA.out _) ⟨g2,0,none⟩ q c2 (zY KK) (by rfl) (by rw [gp,HKL.out]) (by exact(HOA.out _).cells (g:=g2) rfl) (jm KK) (by omega) (by unfold maxLen;omega) (by omega) (Nat.zero_le _) (w2.heap.size+1) (by simp) ?_;intro g5 c5 w5 hown5 hgrow5 hat5 hlt5;have hc51:w5.cell? ⟨w2.heap.size,1,none⟩=some (.bool false):=(hgrow5.cell_far ⟨w2.heap.size,1,none⟩ (by simp) (fun e=>Nat.lt_irrefl _ (HRL.out _ e.symm))).trans ((cell_of_row _ _ 1 _ _ _ (hb3 _)).trans rfl);have HX:Hid (Zy M w w5 bd bs S D V L i (n+q) (some ⟨g5,0,none⟩) c5 S2 D2):=Zx.next HV.out HAFT.out HLV.out hbsw (by have:=HAFT.out.reads1;omega) HTP.out HKL.out (by omega) _ g5 c5 hown5 hgrow5 hat5;clear hown5 hgrow5 hat5)
    go_ret2
    exact HX.out.done (by omega) HEQ.out HL.out
end keep
namespace keep
open law (qz ze yb yI yB qU x8 zY Ql vZ)
theorem bC(v:zI):ya v ByteArray.empty ByteArray.empty 0=true:=by unfold ya;simp
theorem qB.all{vs L:List zI}(h:qB vs ByteArray.empty ByteArray.empty 0 L):L.Perm vs:=by
 have:=h.perm
 rwa [List.filter_eq_self.2 (fun v _=>bC v)] at this
section
variable {M:ze} {w w':World} {bd bs:Nat} {S S':Nat→Prop} {D D':Dk} {V:qz} {most:Int}
theorem x8.far(h:x8 M w w' bd bs S S' D D' most (some bd)){k:Nat}(hk:k<w.heap.size)(hs:¬S k)(hb:k≠bs):w'.heap[k]? =w.heap[k]? ∧¬S' k:=
 ⟨h.kept.block k hk (fun hc=>hc.elim hs hb),fun hc=>by
  rcases h.foot k hc with h1|h1
  ·exact hs h1
  ·omega⟩
end
end keep
namespace law
structure Xg (M:ze):Prop where
 live:∀(w:World) (bd bs:Nat) (S:Nat→Prop) (D:Dk) (V:qz) (key:ByteArray),qU M w bd bs S D V→key.size≤maxLen→
  Calls Tryz.prog 30 #[.pointer (some ⟨bs,0,none⟩),.string key] w fun e w'=>∃D' S' c n q,e=.returned (.tuple #[.int .i64 n,.int .i64 c])∧x8 M w w' bd bs S S' D D' 40 q∧
   Chg M D D' V (V.add key true []) bd (vR (zr key.data.toList) (Xz V.vs key)) c 1 q∧n=if c=0 then V.n0+1 else 0
 shut:∀(w:World) (bs:Nat) (key:ByteArray),M.Sto w bs none→key.size≤maxLen→
  Calls Tryz.prog 30 #[.pointer (some ⟨bs,0,none⟩),.string key] w fun e w'=>e=.returned (.tuple #[.int .i64 0,.int .i64 (if zr key.data.toList=true then 8 else 2)])∧M.Sto w' bs none∧za (fun k=>k=bs) w w'
end law
end Go.Proofs.YtcoengihaobddaaGreatDoor
