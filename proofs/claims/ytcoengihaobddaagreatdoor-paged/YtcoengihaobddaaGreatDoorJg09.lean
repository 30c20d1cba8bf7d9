/- Part 9 of 25 of a proof: Keep8, Keep9, Law8, Play -/
import Derived.Test.YtcoengihaobddaaGreatDoorJg08
set_option maxHeartbeats 8000000
set_option linter.unusedVariables false
set_option linter.unusedSimpArgs false
set_option maxRecDepth 8000
namespace Go.Proofs.YtcoengihaobddaaGreatDoor
namespace keep
open Go.ChangeShapes Go.WideShapes Go.ChangeAt Go.RowKit disk ref book
open law (qO zi xw qG jq z9 dD vP)
open keys (zg zc zs zm zv)
theorem gJ(l r:List zE):z9 (l++r)=z9 l++z9 r:=by unfold z9;simp
theorem uW(l:List zE):(z9 l).length=l.length*4:=by
 unfold z9
 induction l with
 |nil=>rfl
 |cons v l ih=>simp only [List.map_cons,List.flatten_cons,List.length_append,List.length_cons,ih];simp [dD];omega
theorem cW(L:List zE)(n m:Nat):L.take (n+((L.drop n).take m).length)=L.take n++(L.drop n).take m:=by
 rw [List.take_add]
 congr 1
 rw [List.length_take]
 by_cases h:m≤(L.drop n).length
 ·rw [Nat.min_eq_left h]
 ·rw [Nat.min_eq_right (by omega),List.take_of_length_le (Nat.le_refl _),List.take_of_length_le (by omega)]
theorem Qg(L:List zE)(n:Nat)(h:n<L.length):gH L (n+1)=L[n].key∧g9 L (n+1)=L[n].num:=by
 unfold gH g9;simp [h]
theorem fv{k:ByteArray}(h:zv k.data.toList=true):k.size≤8:=by
 unfold zv at h
 simp only [Bool.and_eq_true,decide_eq_true_eq] at h
 simpa using h.1.2
structure cX (M:zi) (w wr:World) (bd bs:Nat) (S:Nat→Prop) (D:Dk) (V:qO) (L:List zE) (m i n:Nat) (a:Option Addr) (c:Nat) (S':Nat→Prop) (D':Dk):Prop where
 ni:n=i*m
 nlt:n=0∨n<L.length
 fore:qG M wr bd bs S' D' V
 foot:∀k,S' k→S k∨w.heap.size≤k
 kept:za (fun k=>S k∨k=bs) w wr
 reads0:D.reads≤D'.reads
 reads1:D'.reads≤D.reads+1000*(i:Int)
 size:D'.bs.length=D.bs.length
 row:Row wr a c (L.take n)
 new:∀k,(Value.slice a n c).ownBlock=some k→w.heap.size≤k∧¬S' k
 nil:n=0→a=none∧c=0
section
variable {M:zi} {w wr w2 w5:World} {bd bs:Nat} {S S' S2:Nat→Prop} {D D' D2:Dk} {V:qO} {L KK:List zE} {m i n q c c2:Nat} {a:Option Addr}
structure cY (M:zi) (w w5:World) (bd bs:Nat) (S:Nat→Prop) (D:Dk) (V:qO) (L:List zE) (i n:Nat) (a5:Option Addr) (c5:Nat) (S2:Nat→Prop) (D2:Dk):Prop where
 fore:qG M w5 bd bs S2 D2 V
 foot:∀k,S2 k→S k∨w.heap.size≤k
 kept:za (fun k=>S k∨k=bs) w w5
 reads0:D.reads≤D2.reads
 reads1:D2.reads≤D.reads+1000*((i:Int)+1)
 size:D2.bs.length=D.bs.length
 row:Row w5 a5 c5 (L.take n)
 new:∀k,(Value.slice a5 n c5).ownBlock=some k→w.heap.size≤k∧¬S2 k
theorem cX.page(h:cX M w wr bd bs S D V L m i n a c S' D')(haft:jq M wr w2 bd bs S' S2 D' D2 1000 (some bd))(hlive:M.Live D2 V)(hbs:bs<w.heap.size)(hrd:D2.reads≤2305843009213693952)(T:Nat→Prop)(k5:za T w2 w5)(hT:∀k,T k→w.heap.size≤k∧¬S2 k)(a5:Option Addr)(c5 n':Nat)(hrow:Row w5 a5 c5 (L.take n'))(hnew:∀k,(Value.slice a5 n' c5).ownBlock=some k→w.heap.size≤k∧¬S2 k):cY M w w5 bd bs S D V L i n' a5 c5 S2 D2:=by
 have hfoot:∀k,S2 k→S k∨w.heap.size≤k:=fun k hk=>by
  rcases haft.foot k hk with h1|h1
  ·exact h.foot k h1
  ·exact .inr (by have:=h.kept.size;omega)
 have nbs:¬S2 bs:=fun hk=>by
  rcases haft.foot bs hk with h1|h1
  ·exact h.fore.apart h1
  ·have:=h.kept.size;omega
 have r0:=h.reads0
 have r1:=h.reads1
 have s0:=haft.reads0
 have s1:=haft.reads1
 have f0:=h.fore.reads0
 refine⟨qG.kept ⟨haft.disk,nbs,haft.sto,hlive,haft.fuse,by omega,hrd,h.fore.few⟩ k5 (fun k hk hc=>(hT k hc).2 hk) (fun hc=>by have:=(hT bs hc).1;omega),hfoot,?_,by omega,by omega,haft.size.trans h.size,hrow,hnew⟩
 refine(h.kept.trans (haft.kept.mono (S':=fun k=>S' k∨k=bs) (fun k hk=>hk)) (fun k hk=>?_)).trans k5 (fun k hk=>.inr (hT k hk).1)
 rcases hk with hk|hk
 ·exact(h.foot k hk).imp .inl id
 ·exact .inl (.inr hk)
theorem cX.first(h:cX M w wr bd bs S D V L m i 0 none 0 S' D')(haft:jq M wr w2 bd bs S' S2 D' D2 1000 (some bd))(hlive:M.Live D2 V)(hbs:bs<w.heap.size)(hrd:D2.reads≤2305843009213693952)(htp:L.take (0+q)=L.take 0++KK)(hq:KK.length=q)(o:Obj)(a5:Option Addr)(c5:Nat)
 (hown:w5.ownsRow 0 94 4 (.slice a5 q c5) q (z9 KK)) (hgrow:(w2.alloc o).grownBy w5 none) (hat:(Value.slice a5 q c5).ownBlock=none∨(Value.slice a5 q c5).ownBlock=some (w2.alloc o).heap.size):cY M w w5 bd bs S D V L i q a5 c5 S2 D2:=by
 have e:L.take q=KK:=by simpa using htp
 have h1:=h.kept.size
 have h2:=haft.kept.size
 refine h.page haft hlive hbs hrd (fun _=>False) ((za.alloc _ w2 o).trans (za.grown hgrow (fun k hk=>by cases hk)) iL) fE a5 c5 q ?_ (fun k hk=>?_)
 ·unfold Row
  rw [e,hq]
  exact hown
 ·have e2:k=w2.heap.size+1:=by
   rcases hat with h3|h3<;>rw [h3] at hk<;>simp at hk;omega
  exact⟨by omega,fun hs=>by have:=haft.disk.lt k hs;omega⟩
theorem cX.next(h:cX M w wr bd bs S D V L m i n a c S' D')(haft:jq M wr w2 bd bs S' S2 D' D2 1000 (some bd))(hlive:M.Live D2 V)(hbs:bs<w.heap.size)(hrd:D2.reads≤2305843009213693952)(htp:L.take (n+q)=L.take n++KK)(hq:KK.length=q)(hn:n+q≤L.length)(o:Obj)(g5 c5:Nat)
 (hown:w5.ownsRow 0 94 4 (.slice (some ⟨g5,0,none⟩) (n+q) c5) (n+q) (z9 (L.take n)++z9 KK)) (hgrow:(w2.alloc o).grownBy w5 (Value.slice a n c).ownBlock) (hat:(Value.slice a n c).ownBlock=some g5∨g5=w2.heap.size+1):cY M w w5 bd bs S D V L i (n+q) (some ⟨g5,0,none⟩) c5 S2 D2:=by
 have h1:=h.kept.size
 have h2:=haft.kept.size
 have hold:∀k,(Value.slice a n c).ownBlock=some k→w.heap.size≤k∧¬S2 k:=fun k hk=>by
  have h3:=h.new k hk
  refine⟨h3.1,fun hs=>?_⟩
  rcases haft.foot k hs with h4|h4
  ·exact h3.2 h4
  ·have hl:n≤L.length:=by omega
   have h5:k<wr.heap.size:=by
    have hr:wr.ownsRow 0 94 4 (.slice a (L.take n).length c) (L.take n).length (z9 (L.take n)):=h.row
    rw [List.length_take,Nat.min_eq_left hl] at hr
    exact(hr.lt k hk).2
   omega
 refine h.page haft hlive hbs hrd (fun k=>(Value.slice a n c).ownBlock=some k) ((za.alloc _ w2 o).trans (za.grown hgrow (fun k hk=>hk)) iL) hold _ _ _ ?_ (fun k hk=>?_)
 ·unfold Row
  rw [List.length_take,Nat.min_eq_left hn,htp,gJ]
  exact hown
 ·obtain rfl:g5=k:=by simpa [Value.ownBlock] using hk
  rcases hat with h3|h3
  ·exact hold _ h3
  ·exact⟨by omega,fun hs=>by have:=haft.disk.lt _ hs;omega⟩
theorem cY.last{a5:Option Addr}{c5:Nat}(h:cY M w w5 bd bs S D V L i n a5 c5 S2 D2)(h0:0<n)(hn:n≤L.length):∃g j,a5=some ⟨g,0,none⟩∧g<w5.heap.size∧j+1=n∧w5.cell? ⟨g,j*4,none⟩=some (.string (gH L n))∧w5.cell? ⟨g,j*4+1,none⟩=some (.int .i64 (g9 L n)):=by
 have hl:(L.take n).length=n:=by rw [List.length_take,Nat.min_eq_left hn]
 obtain⟨g,e,hg,hc⟩:=h.row.cells (by omega)
 obtain⟨j,rfl⟩:∃j,n=j+1:=⟨n-1,by omega⟩
 obtain⟨c0,c1,_,_⟩:=hc j (by omega)
 obtain⟨e1,e2⟩:=Qg L j (by omega)
 rw [List.getElem_take] at c0 c1
 exact⟨g,j,e,hg,rfl,by rw [e1];exact c0,by rw [e2];exact c1⟩
theorem cY.on{a5:Option Addr}{c5 n':Nat}(h:cY M w w5 bd bs S D V L i n' a5 c5 S2 D2)(ni:n'=(i+1)*m)(hn:n'<L.length)(h0:0<n'):cX M w w5 bd bs S D V L m (i+1) n' a5 c5 S2 D2:=
 ⟨ni,.inr hn,h.fore,h.foot,h.kept,h.reads0,by have:=h.reads1;push_cast;omega,h.size,h.row,h.new,fun e=>by omega⟩
theorem cY.done{a5:Option Addr}{c5 n':Nat}{p:ByteArray}(h:cY M w w5 bd bs S D V L i n' a5 c5 S2 D2)(hi:i<2000)(hn:n'=L.length)(hL:qg V.vs p ByteArray.empty 0 L):∃D' S' a c L',Ending.returned (Value.tuple #[.slice a5 n' c5,.bool true])=.returned (.tuple #[.slice a L'.length c,.bool true])∧jq M w w5 bd bs S S' D D' 2000000 (some bd)∧M.Live D' V∧qg V.vs p ByteArray.empty 0 L'∧Row w5 a c L'∧∀k,(Value.slice a L'.length c).ownBlock=some k→w.heap.size≤k∧¬S' k:=by
 subst hn
 have hr:=h.row
 rw [List.take_length] at hr
 have r1:=h.reads1
 exact⟨D2,S2,a5,c5,L,rfl,⟨h.fore.disk,h.foot,h.fore.sto,h.kept,h.reads0,by omega,h.size,h.fore.fuse⟩,h.fore.live,hL,hr,h.new⟩
end
set_option maxRecDepth 60000 in
theorem ju(M:zi)(A:xw M)(w:World)(bd bs:Nat)(S:Nat→Prop)(D:Dk)(V:qO)(F:qG M w bd bs S D V)(p:ByteArray)(hp:p=ByteArray.empty∨zv p.data.toList=true)(hps:p.size≤8)(m:Nat)(m1:1≤m)(m2:m≤50)(hlen:V.vs.length≤1000)(hrd:D.reads≤1000000000000):
 Calls Tryz.prog 20 #[.pointer (some ⟨bs,0,none⟩),.string p,.int .i64 (m:Int)] w fun e w'=>∃D' S' a c L,e=.returned (.tuple #[.slice a L.length c,.bool true])∧jq M w w' bd bs S S' D D' 2000000 (some bd)∧M.Live D' V∧qg V.vs p ByteArray.empty 0 L∧Row w' a c L∧∀k,(Value.slice a L.length c).ownBlock=some k→w.heap.size≤k∧¬S' k:=by
 have hgood:=F.live.good
 obtain⟨L,hL⟩:∃L,qg V.vs p ByteArray.empty 0 L:=⟨_,fe V.vs hgood.apart p ByteArray.empty 0⟩
 have hne:∀v∈V.vs,v.key≠ByteArray.empty:=fun v hv e=>by
  have:=hgood.key v hv
  rw [e] at this
  exact absurd this (by decide)
 have hLl:L.length≤1000:=by
  rw [hL.perm.length_eq]
  exact Nat.le_trans (List.length_filter_le _ _) hlen
 have hmem:∀v∈L,v∈V.vs:=fun v hv=>(List.mem_filter.1 (hL.perm.subset hv)).1
 have hplk:∀n,n≤L.length→yb p (gH L n) (g9 L n) m=0∧(gH L n).size≤8∧zu (g9 L n):=fun n hn=>by
  have h1:(gH L n=ByteArray.empty∧g9 L n=0)∨∃v∈V.vs,gH L n=v.key∧g9 L n=v.num:=by
   by_cases h0:n=0
   ·subst h0;exact .inl ⟨rfl,rfl⟩
   ·obtain⟨j,rfl⟩:∃j,n=j+1:=⟨n-1,by omega⟩
    obtain⟨e1,e2⟩:=Qg L j (by omega)
    exact .inr ⟨L[j],hmem _ (List.getElem_mem _),e1,e2⟩
  have hn0:=F.few
  have h2:(gH L n=ByteArray.empty∨zv (gH L n).data.toList=true)∧0≤g9 L n∧g9 L n≤2305843009213693952∧(gH L n).size≤8:=by
   rcases h1 with⟨e1,e2⟩|⟨v,hv,e1,e2⟩
   ·rw [e1,e2];exact⟨.inl rfl,by omega,by omega,by decide⟩
   ·have h3:=hgood.num v hv
    have h4:=hgood.key v hv
    rw [e1,e2]
    refine⟨.inr h4,by omega,by omega,?_⟩
    have:=fv h4
    exact this
  refine⟨?_,h2.2.2.2,⟨by omega,by omega⟩⟩
  unfold yb
  rw [if_neg,if_neg (by omega)]
  rintro(⟨h3,h4⟩|⟨h3,h4⟩)
  ·rcases hp with h5|h5
   ·exact h3 h5
   ·rw [h5] at h4;cases h4
  ·rcases h2.1 with h5|h5
   ·exact h3 h5
   ·rw [h5] at h4;cases h4
 have HL:Hid (qg V.vs p ByteArray.empty 0 L):=hL
 have HPL:Hid (∀n,n≤L.length→yb p (gH L n) (g9 L n) m=0∧(gH L n).size≤8∧zu (g9 L n)):=hplk
 have HNE:Hid (∀v∈V.vs,v.key≠ByteArray.empty):=hne
 have HF:Hid (qG M w bd bs S D V):=F
 obtain⟨i0,hi0,hz0,hz1,hz2⟩:=yB Tryz.infoVer
 have HI0:Hid (Tryz.prog.info? 94=some i0∧i0.zero=some (.agg #[.string ⟨#[]⟩,.int .i64 0,.bool false,.int .i64 0])∧i0.size=4∧i0.bytes=40):=⟨hi0,hz0,hz1,hz2⟩
 have hbsw:=M.sto_lt _ _ _ F.sto
 clear hi0 hz0 hz1 hz2 hL hplk hne F hmem hgood hp
 go_enter Tryz.func20,Tryz.ntmps20
 go_wp2_with fail
 go_loopw [8,9,10,11] (fun x ky nu t wr=>∃i n:Nat,∃a c S' D',x=.slice a n c∧ky=.string (gH L n)∧nu=.int .i64 (g9 L n)∧t=.int .i64 (i:Int)∧cX M w wr bd bs S D V L m i n a c S' D') (fun _ _ _ t _=>2000-(intOf t).toNat)
 case atStart=>
  exact⟨0,0,none,0,S,D,rfl,rfl,rfl,rfl,⟨by simp,.inl rfl,HF.out,fun k hk=>.inl hk,za.refl _ _,Int.le_refl _,by omega,rfl,Row.nil w,fun k hk=>(by cases hk),fun _=>⟨rfl,rfl⟩⟩⟩
 case round=>
  obtain⟨i,n,a,c,S',D',rfl,rfl,rfl,rfl,hinv⟩:=hrel
  have HV:Hid (cX M w wr bd bs S D V L m i n a c S' D'):=hinv
  have hni:=hinv.ni
  have hnl:=hinv.nlt
  have hr0:=hinv.reads0
  have hr1:=hinv.reads1
  have hnL:n≤L.length:=by omega
  have hi2:i≤n:=by rw [hni];exact Nat.le_mul_of_pos_right i (by omega)
  have hi3:(i:Int)<2000:=by omega
  obtain⟨q0,q1,q2⟩:=HPL.out n hnL
  have HQ0:Hid (yb p (gH L n) (g9 L n) m=0):=q0
  have hbs2:=HF.out.reads0
  clear hinv q0 hni
  generalize hK:gH L n=K at*
  generalize hN:g9 L n=N at*
  have HKN:Hid (gH L n=K∧g9 L n=N):=⟨hK,hN⟩
  clear hK hN
  go_wp2_with fail
  refine(A.live wr bd bs S' D' V p K N m HV.out.fore (by unfold maxLen;omega) (by unfold maxLen;omega) q2 ⟨by omega,by omega⟩).mono ?_
  rintro e w2 ⟨D2,S2,x,more,rfl,haft,hlive,hpage,_,hx2⟩
  rw [HQ0.out]
  obtain⟨L',hL',hpg⟩:=hpage HQ0.out
  obtain rfl:L'=L.drop n:=hL'.unique (by have:=qg.behind HL.out HNE.out n hnL;rw [HKN.out.1,HKN.out.2] at this;exact this) (List.Perm.refl _)
  obtain⟨a2,c2,rfl,hown2,hfr2⟩:=hpg.at_
  have hmore:=hpg.more
  have hm0:((m:Int)).toNat=m:=by simp
  rw [hm0] at hown2 hfr2 hmore hx2
  simp only [hm0]
  have HAFT:Hid (jq M wr w2 bd bs S' S2 D' D2 1000 (some bd)):=haft
  have HLV:Hid (M.Live D2 V):=hlive
  have hql:((L.drop n).take m).length=min m (L.length-n):=by rw [List.length_take,List.length_drop]
  have HTP:Hid (L.take (n+((L.drop n).take m).length)=L.take n++(L.drop n).take m):=cW L n m
  generalize hKK:(L.drop n).take m=KK at*
  generalize hq:KK.length=q at*
  have HO2:Hid (w2.ownsRow 0 94 4 (.slice a2 q c2) q (z9 KK)):=hown2
  have HF2:Hid (∀k,(Value.slice a2 q c2).ownBlock=some k→wr.heap.size≤k∧¬S2 k):=fun k hk=>⟨hfr2 k hk,hx2 k hk⟩
  have hld:(L.drop n).length=L.length-n:=List.length_drop
  rw [hld] at hmore
  have hsz2:=haft.kept.size
  have HKL:Hid (KK.length=q):=hq
  clear hpage hpg haft hlive hL' hown2 hfr2 hx2 hKK hld hq
  have hb3:∀v,(w2.alloc (.cells #[v,.bool more] 90)).heap[w2.heap.size]? =some (.cells #[v,.bool more] 90 (0,0)):=fun v=>heap_alloc_new w2 _
  have HOA:Hid (∀o,(w2.alloc o).ownsRow 0 94 4 (.slice a2 q c2) q (z9 KK)):=fun o=>World.ownsRow.alloc HO2.out o
  by_cases hn0:n=0
  ·subst hn0
   obtain⟨rfl,rfl⟩:=HV.out.nil rfl
   cases more with
   |true=>
    have hm3:m<L.length-0:=of_decide_eq_true hmore.symm
    have eq:q=m:=by omega
    subst eq
    clear hmore hql
    go_wp2_with (refine xD rfl (.tmp 47) (.tmp 49) 44 rfl 94 i0 _ 4 40 Tryz.underlying44 HI0.out.1 HI0.out.2.1 HI0.out.2.2.1 HI0.out.2.2.2 rfl (by omega) (.slice a2 q c2) q (z9 KK) (by rfl) (by rfl) (HOA.out _) (ja KK) (by unfold maxLen;omega) (by omega) ?_;intro a5 c5 w5 hown5 hgrow5 hat5;have hc51:w5.cell? ⟨w2.heap.size,1,none⟩=some (.bool true):=(hgrow5.cell_far ⟨w2.heap.size,1,none⟩ (by simp) (fun e=>by cases e)).trans ((cell_of_row _ _ 1 _ _ _ (hb3 _)).trans rfl);have HX:Hid (cY M w w5 bd bs S D V L i q a5 c5 S2 D2):=cX.first HV.out HAFT.out HLV.out hbsw (by have:=HAFT.out.reads1;omega) HTP.out HKL.out _ a5 c5 hown5 hgrow5 hat5;clear hown5 hgrow5 hat5;obtain⟨g5,j,rfl,hg5,hj,hk0,hk1⟩:=HX.out.last (by omega) (by omega);have hjI:(j:Int)<(q:Int):=(by omega);have hw1:IntKind.i64.wrap ((q:Int)-1)=(j:Int):=(by rw [show (q:Int)-1=(j:Int) by omega];exact IntWalk.i64_in _ (by omega)))
    go_roundw
    case rel=>exact⟨i+1,q,_,_,S2,D2,rfl,rfl,rfl,by go_num,HX.out.on (by have:=HV.out.ni;rw [Nat.add_mul,←this];omega) (by omega) (by omega)⟩
    case measure=>simp [intOf];omega
   |false=>
    have hm3:¬m<L.length-0:=of_decide_eq_false hmore.symm
    have HEQ:Hid (q=L.length):=by show q=_;omega
    have hqm:q≤m:=by omega
    have hqI:(q:Int)≤(m:Int):=by omega
    clear hmore hql hm3
    go_wp2_with (refine xD rfl (.tmp 47) (.tmp 49) 44 rfl 94 i0 _ 4 40 Tryz.underlying44 HI0.out.1 HI0.out.2.1 HI0.out.2.2.1 HI0.out.2.2.2 rfl (by omega) (.slice a2 q c2) q (z9 KK) (by rfl) (by rfl) (HOA.out _) (ja KK) (by unfold maxLen;omega) (by omega) ?_;intro a5 c5 w5 hown5 hgrow5 hat5;have hc51:w5.cell? ⟨w2.heap.size,1,none⟩=some (.bool false):=(hgrow5.cell_far ⟨w2.heap.size,1,none⟩ (by simp) (fun e=>by cases e)).trans ((cell_of_row _ _ 1 _ _ _ (hb3 _)).trans rfl);have HX:Hid (cY M w w5 bd bs S D V L i q a5 c5 S2 D2):=cX.first HV.out HAFT.out HLV.out hbsw (by have:=HAFT.out.reads1;omega) HTP.out HKL.out _ a5 c5 hown5 hgrow5 hat5;clear hown5 hgrow5 hat5)
    go_ret2
    exact HX.out.done (by omega) HEQ.out HL.out
  ·obtain⟨g2,rfl⟩:∃g2,a2=some ⟨g2,0,none⟩:=by
    rcases HO2.out.2 with⟨h0,h1⟩|⟨g,cap',cur,hv,_⟩
    ·omega
    ·cases hv;exact⟨g,rfl⟩
   have HRL:Hid (∀k,(Value.slice a n c).ownBlock=some k→k<w2.heap.size):=fun k hk=>by
    have hr:wr.ownsRow 0 94 4 (.slice a (L.take n).length c) (L.take n).length (z9 (L.take n)):=HV.out.row
    rw [List.length_take,Nat.min_eq_left hnL] at hr
    have:=(hr.lt k hk).2
    omega
   have HRA:Hid (∀o,(w2.alloc o).ownsRow 0 94 4 (.slice a n c) n (z9 (L.take n))):=fun o=>World.ownsRow.alloc (by
    have hr:wr.ownsRow 0 94 4 (.slice a (L.take n).length c) (L.take n).length (z9 (L.take n)):=HV.out.row
    rw [List.length_take,Nat.min_eq_left hnL] at hr
    refine HAFT.out.kept.owns hr (fun k hk hc=>?_)
    have h3:=HV.out.new k hk
    rcases hc with hc|hc
    ·exact h3.2 hc
    ·omega) o
   cases more with
   |true=>
    have hm3:m<L.length-n:=of_decide_eq_true hmore.symm
    have eq:q=m:=by omega
    subst eq
    clear hmore hql
    go_wp2_with (refine wpList_append_lies _ rfl (.tmp 47) (.tmp 49) 44 rfl 0 94 i0 _ 4 40 Tryz.underlying44 HI0.out.1 HI0.out.2.1 HI0.out.2.2.1 HI0.out.2.2.2 rfl (by omega) (.slice a n c) n (z9 (L.take n)) (by rfl) (HRA.out _) ⟨g2,0,none⟩ q c2 (z9 KK) (by rfl) (by rw [uW,HKL.out]) (by exact(HOA.out _).cells (g:=g2) rfl) (ja KK) (by omega) (by unfold maxLen;omega) (by omega) (Nat.zero_le _) (w2.heap.size+1) (by simp) ?_;intro g5 c5 w5 hown5 hgrow5 hat5 hlt5;have hc51:w5.cell? ⟨w2.heap.size,1,none⟩=some (.bool true):=(hgrow5.cell_far ⟨w2.heap.size,1,none⟩ (by simp) (fun e=>Nat.lt_irrefl _ (HRL.out _ e.symm))).trans ((cell_of_row _ _ 1 _ _ _ (hb3 _)).trans rfl);have HX:Hid (cY M w w5 bd bs S D V L i (n+q) (some ⟨g5,0,none⟩) c5 S2 D2):=cX.next HV.out HAFT.out HLV.out hbsw (by have:=HAFT.out.reads1;omega) HTP.out HKL.out (by omega) _ g5 c5 hown5 hgrow5 hat5;clear hown5 hgrow5 hat5;obtain⟨g6,j,e6,hg5,hj,hk0,hk1⟩:=HX.out.last (by omega) (by omega);obtain rfl:g5=g6:=(by simpa using e6);have hjI:(j:Int)<(n:Int)+(q:Int):=(by omega);have hw1:IntKind.i64.wrap ((n:Int)+(q:Int)-1)=(j:Int):=(by rw [show (n:Int)+(q:Int)-1=(j:Int) by omega];exact IntWalk.i64_in _ (by omega)))
    go_roundw
    case rel=>exact⟨i+1,n+q,_,_,S2,D2,rfl,rfl,rfl,by go_num,HX.out.on (by have:=HV.out.ni;rw [Nat.add_mul,←this];omega) (by omega) (by omega)⟩
    case measure=>simp [intOf];omega
   |false=>
    have hm3:¬m<L.length-n:=of_decide_eq_false hmore.symm
    have HEQ:Hid (n+q=L.length):=by show n+q=_;omega
    have hqm:q≤m:=by omega
    have hqp:0<q:=by omega
    have hnq:n+q≤L.length:=by omega
    have hqI:(q:Int)≤(m:Int):=by omega
    clear hmore hql hm3
    go_wp2_with (refine wpList_append_lies _ rfl (.tmp 47) (.tmp 49) 44 rfl 0 94 i0 _ 4 40 Tryz.underlying44 HI0.out.1 HI0.out.2.1 HI0.out.2.2.1 HI0.out.2.2.2 rfl (by omega) (.slice a n c) n (z9 (L.take n)) (by rfl) (HRA.out _) ⟨g2,0,none⟩ q c2 (z9 KK) (by rfl) (by rw [uW,HKL.out]) (by exact(HOA.out _).cells (g:=g2) rfl) (ja KK) (by omega) (by unfold maxLen;omega) (by omega) (Nat.zero_le _) (w2.heap.size+1) (by simp) ?_;intro g5 c5 w5 hown5 hgrow5 hat5 hlt5;have hc51:w5.cell? ⟨w2.heap.size,1,none⟩=some (.bool false):=(hgrow5.cell_far ⟨w2.heap.size,1,none⟩ (by simp) (fun e=>Nat.lt_irrefl _ (HRL.out _ e.symm))).trans ((cell_of_row _ _ 1 _ _ _ (hb3 _)).trans rfl);have HX:Hid (cY M w w5 bd bs S D V L i (n+q) (some ⟨g5,0,none⟩) c5 S2 D2):=cX.next HV.out HAFT.out HLV.out hbsw (by have:=HAFT.out.reads1;omega) HTP.out HKL.out (by omega) _ g5 c5 hown5 hgrow5 hat5;clear hown5 hgrow5 hat5)
    go_ret2
    exact HX.out.done (by omega) HEQ.out HL.out
end keep
namespace keep
open Go.ChangeShapes Go.WideShapes Go.ChangeAt Go.RowKit disk ref book
open law (qO zi yS y7 xw qG jq z9 dD vP)
open keys (zg zc zs zm zv)
theorem cd{n:Int}(h:zu n):zu (n.tdiv 50):=by
 have e:(n.tdiv 50).natAbs=n.natAbs/50:=Int.natAbs_tdiv n 50
 unfold zu at h ⊢
 omega
theorem dS(v:zE):qA v ByteArray.empty ByteArray.empty 0=true:=by unfold qA;simp
theorem qg.all{vs L:List zE}(h:qg vs ByteArray.empty ByteArray.empty 0 L):L.Perm vs:=by
 have:=h.perm
 rwa [List.filter_eq_self.2 (fun v _=>dS v)] at this
theorem qg.pre{vs L:List zE}(h:qg vs ByteArray.empty ByteArray.empty 0 L)(p:ByteArray):qg vs p ByteArray.empty 0 (pre p L):=by
 refine⟨h.sorted.sublist List.filter_sublist,?_⟩
 have e:(fun v:zE=>qA v p ByteArray.empty 0)=fun v=>p.data.toList.isPrefixOf v.key.data.toList:=by
  funext v;unfold qA;simp
 rw [e]
 exact(qg.all h).filter _
section
variable {M:zi} {w w':World} {bd bs:Nat} {S S':Nat→Prop} {D D':Dk} {V:qO} {most:Int}
theorem qG.aft(F:qG M w bd bs S D V)(h:jq M w w' bd bs S S' D D' most (some bd))(hl:M.Live D' V)(hr:D'.reads≤2305843009213693952):qG M w' bd bs S' D' V:=
 ⟨h.disk,fun hk=>by
  rcases h.foot bs hk with h1|h1
  ·exact F.apart h1
  ·have:=M.sto_lt _ _ _ F.sto;omega,h.sto,hl,h.fuse,by have:=F.reads0;have:=h.reads0;omega,hr,F.few⟩
theorem jq.far(h:jq M w w' bd bs S S' D D' most (some bd)){k:Nat}(hk:k<w.heap.size)(hs:¬S k)(hb:k≠bs):w'.heap[k]? =w.heap[k]? ∧¬S' k:=
 ⟨h.kept.block k hk (fun hc=>hc.elim hs hb),fun hc=>by
  rcases h.foot k hc with h1|h1
  ·exact hs h1
  ·omega⟩
theorem Row.aft{a:Option Addr}{c:Nat}{L:List zE}(hr:Row w a c L)(h:jq M w w' bd bs S S' D D' most (some bd))(hn:∀k,(Value.slice a L.length c).ownBlock=some k→¬S k∧k≠bs):Row w' a c L∧∀k,(Value.slice a L.length c).ownBlock=some k→¬S' k∧k≠bs:=
 ⟨hr.kept h.kept (fun k hk hc=>hc.elim (hn k hk).1 (hn k hk).2),fun k hk=>⟨(jq.far h (World.ownsRow.lt hr k hk).2 (hn k hk).1 (hn k hk).2).2,(hn k hk).2⟩⟩
end
set_option maxRecDepth 60000 in
theorem cZ(M:zi)(AO:yS M)(AP:y7 M)(AL:xw M)(hM:∀f,M.Fu f→f≠0)(w:World)(Q:Nat→Prop)(hQ:∀k,Q k→k<w.heap.size)(a:Option Addr)(cap:Nat)(ods:List ft)(h:Yq w Q a ods)(hlen:ods.length≤2000000000000)(most:Int)(hmost:zu most)(which:Int)(hwhich:zu which):
 Calls Tryz.prog 9 #[.slice a ods.length cap,.int .i64 most,.int .i64 which] w fun e w'=>e=.returned (.bool true)∧za (fun _=>False) w w':=by
 have HC:Hid (Yq w Q a ods):=h
 have HQ:Hid (∀k,Q k→k<w.heap.size):=hQ
 have HMO:Hid (zu most):=hmost
 have HWH:Hid (zu which):=hwhich
 clear h hQ hmost hwhich
 go_enter Tryz.func9,Tryz.ntmps9
 go_wp2_with fail
 refine(dR M AO AP hM _ Q HQ.out a cap ods HC.out hlen).mono ?_
 rintro e w1 ⟨X,bp,D,V,rfl,⟨bd,bs,S,a',cap',cs',G',hs⟩,hfit,hk1,hx,hmk⟩
 obtain⟨hc0,hc1,hc2,hc3,hc5,hc6,hfz⟩:=hs.c
 have HS:Hid (yk M w1 X bp bd bs S D V a' cap' cs' G'):=hs
 have HK1:Hid (za (fun _=>False) w w1):=hk1
 have HX:Hid (∀k,X k→w.heap.size≤k):=hx
 have hbp:=hs.lt
 have hbs:=hs.xlt bs hs.xb
 have hrd:=hfit.reads
 have hlw:=xx V.vs
 have hwt:=hfit.weight
 have HF1:Hid (qG M w1 bd bs S D V):=hs.fore
 have HPS:Hid (¬S bp∧bp≠bs):=⟨hs.pS,hs.pb⟩
 have HKS:Hid (∀v∈V.vs,v.key.size≤8):=fun v hv=>fv (hs.fore.live.good.key v hv)
 have HPK:Hid (∀W,Calls Tryz.prog 21 #[.int .i64 most,.int .i64 50] W fun e w'=>e=.returned (.int .i64 (yu most 50:Int))∧w'=W):=fun W=>xR W most 50 HMO.out (by omega) (by omega)
 have hp1:yu most 50<50:=by have:=jL most 50 (by omega);omega
 have HPK2:Hid (∀W,Calls Tryz.prog 21 #[.int .i64 (most.tdiv 50),.int .i64 50] W fun e w'=>e=.returned (.int .i64 (yu (most.tdiv 50) 50:Int))∧w'=W):=fun W=>xR W _ 50 (cd HMO.out) (by omega) (by omega)
 have hwq:IntKind.i64.wrap (most.tdiv 50)=most.tdiv 50:=IntWalk.i64_in _ (cd HMO.out)
 have hp2:yu (most.tdiv 50) 50<50:=by have:=jL (most.tdiv 50) 50 (by omega);omega
 have HPK3:Hid (∀W,Calls Tryz.prog 21 #[.int .i64 which,.int .i64 12] W fun e w'=>e=.returned (.int .i64 (yu which 12:Int))∧w'=W):=fun W=>xR W which 12 HWH.out (by omega) (by omega)
 have hp3:yu which 12<12:=by have:=jL which 12 (by omega);omega
 generalize yu most 50=r at*
 generalize yu (most.tdiv 50) 50=r2 at*
 generalize yu which 12=r3 at*
 obtain⟨ky,hky,hkb,hks⟩:=uT r3 hp3
 have HKY:Hid (kf[r3]? =some (.string ky)∧zv ky.data.toList=true):=⟨hky,hkb⟩
 have hp3I:(r3:Int)<12:=by omega
 obtain⟨m1,hm1⟩:∃m,m=r+1:=⟨_,rfl⟩
 obtain⟨m2,hm2⟩:∃m,m=r2+1:=⟨_,rfl⟩
 have hw1:IntKind.i64.wrap (1+(r:Int))=(m1:Int):=by rw [show 1+(r:Int)=(m1:Int) by omega];exact IntWalk.i64_in _ (by omega)
 have hw2:IntKind.i64.wrap (1+(r2:Int))=(m2:Int):=by rw [show 1+(r2:Int)=(m2:Int) by omega];exact IntWalk.i64_in _ (by omega)
 have hm1b:1≤m1∧m1≤50:=by omega
 have hm2b:1≤m2∧m2≤50:=by omega
 have hvl:V.vs.length≤473:=by omega
 clear hs hk1 hx hc0 hc3 hc5 hfz hfit hmk hky hkb hm1 hm2
 go_wp2_with fail
 go_region_held3 (fun w'=>w'.cell? ⟨bp,1,none⟩=some (.pointer (some ⟨bs,0,none⟩))) (go_keep) ((first
  |(go_at_call 21;refine(HPK.out _).mono ?_;rintro e w9 ⟨rfl,rfl⟩)
  |(go_at_call 20;refine(ju M AL w1.drew bd bs S D V (qG.kept HF1.out (za.drew (fun _=>False) w1) nF (fun hf=>hf)) ⟨#[]⟩ (.inl rfl) (by decide) m1 hm1b.1 hm1b.2 (by omega) (by omega)).mono ?_;rintro e w2 ⟨D2,S2,a2,c2,L,rfl,haft,hlive,hL,hrow,hnew⟩;have haft1:jq M w1 w2 bd bs S S2 D D2 2000000 (some bd):=⟨haft.disk,haft.foot,haft.sto,⟨haft.kept.os,haft.kept.tape,haft.kept.output,haft.kept.size,haft.kept.block⟩,haft.reads0,haft.reads1,haft.size,haft.fuse⟩;have HA2:Hid (jq M w1 w2 bd bs S S2 D D2 2000000 (some bd)):=haft1;have HF2:Hid (qG M w2 bd bs S2 D2 V):=qG.aft HF1.out haft1 hlive (by have:=haft1.reads1;omega);have HL:Hid (qg V.vs ByteArray.empty ByteArray.empty 0 L):=hL;have HR2:Hid (Row w2 a2 c2 L):=hrow;have HN2:Hid (∀k,(Value.slice a2 L.length c2).ownBlock=some k→¬S2 k∧k≠bs):=(fun k hk=>⟨(hnew k hk).2,by have h9:w1.heap.size≤k:=(hnew k hk).1;omega⟩);have hfar:=jq.far haft1 hbp HPS.out.1 HPS.out.2;have HP2:Hid (¬S2 bp):=hfar.2;have hh2:w2.heap[bp]? =_:=hfar.1.trans HS.out.head;have HH2:Hid (w2.heap[bp]? =some (.cells #[.pointer (some ⟨bd,0,none⟩),.pointer (some ⟨bs,0,none⟩),.slice a' V.vs.length cap',.int .i64 V.n0,.int .i64 (-1),.int .i64 0,.bool true] 33 (0,0))):=hh2;have hc12:w2.cell? ⟨bp,1,none⟩=some (.pointer (some ⟨bs,0,none⟩)):=(cell_of_row w2 bp 1 _ _ _ hh2).trans rfl;have hbp2:bp<w2.heap.size:=(by have:=haft1.kept.size;omega);have hrd2:D2.reads≤6000000:=(by have:=haft1.reads1;omega);clear haft haft1 hlive hL hrow hnew hfar hh2)))
 have hLl:L.length=V.vs.length:=(qg.all HL.out).length_eq
 have HLL:Hid (L.length=V.vs.length):=hLl
 have hLb:L.length≤473:=by omega
 clear hLl
 go_wp2_with fail
 refine(ju M AL w2 bd bs S2 D2 V HF2.out ⟨#[]⟩ (.inl rfl) (by decide) 50 (by omega) (by omega) (by omega) (by omega)).mono ?_
 rintro e w3 ⟨D3,S3,a3,c3,L3,rfl,haft,hlive,hL3,hrow,hnew⟩
 obtain rfl:L3=L:=hL3.unique HL.out (List.Perm.refl _)
 have HA3:Hid (jq M w2 w3 bd bs S2 S3 D2 D3 2000000 (some bd)):=haft
 have HF3:Hid (qG M w3 bd bs S3 D3 V):=qG.aft HF2.out haft hlive (by have:=haft.reads1;omega)
 have h23:=Row.aft HR2.out haft HN2.out
 have HR3:Hid (Row w3 a2 c2 L3):=h23.1
 have HN3:Hid (∀k,(Value.slice a2 L3.length c2).ownBlock=some k→¬S3 k∧k≠bs):=h23.2
 have HQ3:Hid (Row w3 a3 c3 L3):=hrow
 have HM3:Hid (∀k,(Value.slice a3 L3.length c3).ownBlock=some k→¬S3 k∧k≠bs):=fun k hk=>⟨(hnew k hk).2,by have h9:=(hnew k hk).1;have:=HA2.out.kept.size;omega⟩
 have hfar:=jq.far haft hbp2 HP2.out HPS.out.2
 have HP3:Hid (¬S3 bp):=hfar.2
 have HH3:Hid (w3.heap[bp]? =some (.cells #[.pointer (some ⟨bd,0,none⟩),.pointer (some ⟨bs,0,none⟩),.slice a' V.vs.length cap',.int .i64 V.n0,.int .i64 (-1),.int .i64 0,.bool true] 33 (0,0))):=hfar.1.trans HH2.out
 have hbp3:bp<w3.heap.size:=by have:=haft.kept.size;omega
 have hrd3:D3.reads≤8000000:=by have:=haft.reads1;omega
 clear haft hlive hL3 hrow hnew h23 hfar
 go_wp2_with fail
 refine(fo _).mono ?_
 rintro e w4 ⟨rfl,hk4,hb4⟩
 have HK4:Hid (za (fun _=>False) w3 w4):=hk4
 have HF4:Hid (qG M w4 bd bs S3 D3 V):=qG.kept HF3.out hk4 nF (fun hf=>hf)
 have HR4:Hid (Row w4 a2 c2 L3):=HR3.out.kept hk4 nF
 have HQ4:Hid (Row w4 a3 c3 L3):=HQ3.out.kept hk4 nF
 have hh4:w4.heap[bp]? =_:=(hk4.block bp hbp3 (fun hf=>hf)).trans HH3.out
 have HH4:Hid (w4.heap[bp]? =some (.cells #[.pointer (some ⟨bd,0,none⟩),.pointer (some ⟨bs,0,none⟩),.slice a' V.vs.length cap',.int .i64 V.n0,.int .i64 (-1),.int .i64 0,.bool true] 33 (0,0))):=hh4
 have hc14:w4.cell? ⟨bp,1,none⟩=some (.pointer (some ⟨bs,0,none⟩)):=(cell_of_row w4 bp 1 _ _ _ hh4).trans rfl
 have hck:w4.cell? ⟨w3.heap.size,r3,none⟩=some (.string ky):=(cell_of_row w4 _ r3 _ _ _ hb4).trans HKY.out.1
 have hw34:w3.heap.size<w4.heap.size:=(lT hb4)
 have hbp4:bp<w4.heap.size:=by omega
 clear hk4 hb4 hh4
 go_wp2_with (go_at_call 21;refine(HPK3.out _).mono ?_;rintro e w9 ⟨rfl,hw9⟩;rw [hw9];clear hw9 w9)
 go_region_held3 (fun w'=>w'.cell? ⟨bp,1,none⟩=some (.pointer (some ⟨bs,0,none⟩))) (go_keep) ((first
  |(go_at_call 21;refine(HPK2.out _).mono ?_;rintro e w9 ⟨rfl,rfl⟩)
  |(go_at_call 20;refine(ju M AL w4.drew bd bs S3 D3 V (qG.kept HF4.out (za.drew (fun _=>False) w4) nF (fun hf=>hf)) ky (.inr HKY.out.2) hks m2 hm2b.1 hm2b.2 (by omega) (by omega)).mono ?_;rintro e w5 ⟨D5,S5,a5,c5,L5,rfl,haft,hlive,hL5,hrow,hnew⟩;have haft1:jq M w4 w5 bd bs S3 S5 D3 D5 2000000 (some bd):=⟨haft.disk,haft.foot,haft.sto,⟨haft.kept.os,haft.kept.tape,haft.kept.output,haft.kept.size,haft.kept.block⟩,haft.reads0,haft.reads1,haft.size,haft.fuse⟩;have HA5:Hid (jq M w4 w5 bd bs S3 S5 D3 D5 2000000 (some bd)):=haft1;obtain rfl:L5=pre ky L3:=hL5.unique (qg.pre HL.out ky) (List.Perm.refl _);have HR5:Hid (Row w5 a5 c5 (pre ky L3)):=hrow;have h45:=Row.aft HR4.out haft1 HN3.out;have HAl:Hid (Row w5 a2 c2 L3):=h45.1;have HOn:Hid (Row w5 a3 c3 L3):=(Row.aft HQ4.out haft1 HM3.out).1;have hfar:=jq.far haft1 hbp4 HP3.out HPS.out.2;have hh5:w5.heap[bp]? =_:=hfar.1.trans HH4.out;have HH5:Hid (w5.heap[bp]? =some (.cells #[.pointer (some ⟨bd,0,none⟩),.pointer (some ⟨bs,0,none⟩),.slice a' V.vs.length cap',.int .i64 V.n0,.int .i64 (-1),.int .i64 0,.bool true] 33 (0,0))):=hh5;have hc15:w5.cell? ⟨bp,1,none⟩=some (.pointer (some ⟨bs,0,none⟩)):=(cell_of_row w5 bp 1 _ _ _ hh5).trans rfl;have hbp5:bp<w5.heap.size:=(by have:=haft1.kept.size;omega);clear haft haft1 hlive hL5 hrow hnew hfar hh5 h45)))
 have hpl:(pre ky L3).length≤473:=Nat.le_trans (List.length_filter_le _ _) hLb
 generalize hpp:pre ky L3=L5 at*
 have HPP:Hid (pre ky L3=L5):=hpp
 clear hpp
 go_wp2_with fail
 refine(uV w5 a2 a3 c2 c3 L3 (by omega) HAl.out HOn.out).mono ?_
 rintro e w6 ⟨rfl,n6,hw6⟩
 have k6:za (fun _=>False) w5 w6:=by rw [hw6];exact kD
 have HK6:Hid (za (fun _=>False) w5 w6):=k6
 have HR6:Hid (Row w6 a5 c5 L5):=HR5.out.kept k6 nF
 have HAl6:Hid (Row w6 a2 c2 L3):=HAl.out.kept k6 nF
 have hh6:w6.heap[bp]? =_:=(k6.block bp hbp5 (fun hf=>hf)).trans HH5.out
 have HH6:Hid (w6.heap[bp]? =some (.cells #[.pointer (some ⟨bd,0,none⟩),.pointer (some ⟨bs,0,none⟩),.slice a' V.vs.length cap',.int .i64 V.n0,.int .i64 (-1),.int .i64 0,.bool true] 33 (0,0))):=hh6
 have hbp6:bp<w6.heap.size:=by have:=k6.size;omega
 clear hw6 k6 hh6
 have HKL:Hid (∀v∈L3,v.key.size≤8):=fun v hv=>HKS.out v ((qg.all HL.out).subset hv)
 go_wp2_with fail
 refine(vI w6 a2 c2 L3 (by omega) HAl6.out (fun k hk=>(World.ownsRow.lt HAl6.out k hk).2) ky hks HKL.out).mono ?_
 rw [HPP.out]
 rintro e w7 ⟨a7,c7,rfl,hr7,hk7,hn7⟩
 have HR7:Hid (Row w7 a7 c7 L5):=hr7
 have HR57:Hid (Row w7 a5 c5 L5):=HR6.out.kept hk7 nF
 have HAl7:Hid (Row w7 a2 c2 L3):=HAl6.out.kept hk7 nF
 have HK7:Hid (za (fun _=>False) w6 w7):=hk7
 have HH7:Hid (w7.heap[bp]? =some (.cells #[.pointer (some ⟨bd,0,none⟩),.pointer (some ⟨bs,0,none⟩),.slice a' V.vs.length cap',.int .i64 V.n0,.int .i64 (-1),.int .i64 0,.bool true] 33 (0,0))):=(hk7.block bp hbp6 (fun hf=>hf)).trans HH6.out
 have hbp7:bp<w7.heap.size:=by have:=hk7.size;omega
 clear hr7 hk7 hn7
 go_wp2_with fail
 refine(uV w7 a5 a7 c5 c7 L5 (by omega) HR57.out HR7.out).mono ?_
 rintro e w8 ⟨rfl,n8,hw8⟩
 have k8:za (fun _=>False) w7 w8:=by rw [hw8];exact kD
 have HK8:Hid (za (fun _=>False) w7 w8):=k8
 have HAl8:Hid (Row w8 a2 c2 L3):=HAl7.out.kept k8 nF
 have HH8:Hid (w8.heap[bp]? =some (.cells #[.pointer (some ⟨bd,0,none⟩),.pointer (some ⟨bs,0,none⟩),.slice a' V.vs.length cap',.int .i64 V.n0,.int .i64 (-1),.int .i64 0,.bool true] 33 (0,0))):=(k8.block bp hbp7 (fun hf=>hf)).trans HH7.out
 have hbp8:bp<w8.heap.size:=by have:=k8.size;omega
 clear hw8 k8
 go_wp2_with fail
 refine(fq w8 a2 c2 L3 (by omega) HAl8.out HL.out.sorted HKL.out).mono ?_
 rintro e w9 ⟨rfl,hk9⟩
 have HK9:Hid (za (fun _=>False) w8 w9):=hk9
 have hh9:w9.heap[bp]? =_:=(hk9.block bp hbp8 (fun hf=>hf)).trans HH8.out
 have hc29:w9.cell? ⟨bp,2,none⟩=some (.slice a' V.vs.length cap'):=(cell_of_row w9 bp 2 _ _ _ hh9).trans rfl
 have hbeq:((V.vs.length:Int)==(V.vs.length:Int))=true:=by simp
 rw [HLL.out]
 clear hk9 hh9
 go_wp2
 go_ret
 refine⟨rfl,?_⟩
 have kk:za (fun k=>w.heap.size≤k) w w9:=by
  have k5:za (fun k=>w.heap.size≤k) w w5:=by
   have s1:=HK1.out.size
   have g1:∀k,S k→w.heap.size≤k:=fun k hk=>HX.out k (HS.out.xS k hk)
   have gb:w.heap.size≤bs:=HX.out bs HS.out.xb
   have g2:∀k,S2 k→w.heap.size≤k:=fun k hk=>(HA2.out.foot k hk).elim (g1 k) (fun h=>by omega)
   have t2:=HA2.out.kept.size
   have g3:∀k,S3 k→w.heap.size≤k:=fun k hk=>(HA3.out.foot k hk).elim (g2 k) (fun h=>by omega)
   refine((((HK1.out.mono fE).trans HA2.out.kept (fun k hk=>.inl ?_)).trans HA3.out.kept (fun k hk=>.inl ?_)).trans HK4.out fE).trans HA5.out.kept (fun k hk=>.inl ?_)
   ·exact hk.elim (g1 k) (fun e=>by rw [e];exact gb)
   ·exact hk.elim (g2 k) (fun e=>by rw [e];exact gb)
   ·exact hk.elim (g3 k) (fun e=>by rw [e];exact gb)
  exact(((k5.trans HK6.out fE).trans HK7.out fE).trans HK8.out fE).trans HK9.out fE
 exact⟨kk.os,kk.tape,kk.output,kk.size,fun k hk _=>kk.block k hk (by omega)⟩
end keep
namespace law
open Go.ChangeShapes Go.WideShapes Go.ChangeAt Go.RowKit disk ref book
open keys (zg zc zs zm zv)
end law
namespace law
open Go.RowKit disk ref book
structure gK (M:zi) (w:World) (base bp t:Nat) (ones:List (Nat×(Nat→Prop))) (la:Option Addr) (lc:Nat) (F H:Nat→Prop) (a b:Option Addr) (ca cb:Nat) (es vs:List gw):Prop where
 row:w.ownsRow 0 120 1 (.slice la ones.length lc) ones.length (ones.map fun o=>vM o.1)
 book:Z9 w bp (.slice la ones.length lc) F H a b ca cb es vs
 one:∀i (hi:i<ones.length),One M w ones[i].2 ones[i].1 t
 apart:∀i j (hi:i<ones.length) (hj:j<ones.length),i≠j→∀k,ones[i].2 k→¬ones[j].2 k
 sep:∀i (hi:i<ones.length) k,ones[i].2 k→¬F k∧¬H k∧k≠bp
 rsep:∀i (hi:i<ones.length) k,ones[i].2 k→(Value.slice la ones.length lc).ownBlock≠some k
 rowF:∀k,(Value.slice la ones.length lc).ownBlock=some k→¬F k∧¬H k∧k≠bp∧base≤k
 bX:∀i (hi:i<ones.length) k,ones[i].2 k→base≤k
 bF:∀k,F k→base≤k
 bH:∀k,H k→base≤k
 bP:base≤bp
 fewE:es.length≤t
 fewV:vs.length≤t
 fewO:ones.length≤t
def Xt(M:zi)(w:World)(base bp t:Nat):Prop:=∃ones la lc F H a b ca cb es vs,gK M w base bp t ones la lc F H a b ca cb es vs
theorem One.lt{M:zi}{w:World}{X:Nat→Prop}{bo t:Nat}(o:One M w X bo t):∀k,X k→k<w.heap.size:=by
 obtain⟨h,bd,D,S,R,ib,V,last,o⟩:=o;exact o.xlt
end law
end Go.Proofs.YtcoengihaobddaaGreatDoor
