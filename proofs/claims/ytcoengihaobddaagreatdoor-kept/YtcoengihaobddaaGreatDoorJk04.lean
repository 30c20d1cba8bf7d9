/- Part 4 of 34 of a proof: Ref2, Ref3, Ref3b, Ref4, Book1 -/
import Derived.Test.YtcoengihaobddaaGreatDoorJk03
set_option maxHeartbeats 8000000
set_option linter.unusedVariables false
set_option linter.unusedSimpArgs false
set_option maxRecDepth 8000
namespace Go.Proofs.YtcoengihaobddaaGreatDoor
namespace ref
open Go.ChangeShapes Go.WideShapes Go.ChangeAt Go.RowKit disk
open keys (ze zd zr zn)
def Vk(vs:List qa)(key:ByteArray):Bool:=match yJ vs key with
 |none=>true
 |some v=>v.mark
theorem jw(w:World)(n:Int)(h0:0≤n)(h1:n≤4611686018427387904):
 Calls Tryz.prog 98 #[.int .i64 n] w fun e w'=>e=.returned (.int .i64 (qr n.toNat))∧w'=w:=by
 go_enter Tryz.func98,Tryz.ntmps98
 go_wp2
 go_ret
 exact⟨ze (by unfold qr;omega),rfl⟩
theorem jH(vs:List qa)(k:Nat)(h:k<vs.length):weight (vs.take (k+1))=weight (vs.take k)+qr vs[k].body.length:=by
 unfold weight;rw [List.take_succ_eq_append_getElem h,List.map_append,List.sum_append];simp
theorem v6{vs:List qa}(h:∀v∈vs,v.body.length≤1000):weight vs≤12*vs.length:=by
 unfold weight
 induction vs with
 |nil=>simp
 |cons v l ih=>
  have h1:=ih (fun u hu=>h u (List.mem_cons_of_mem _ hu))
  have h2:=h v (List.mem_cons_self ..)
  simp only [List.map_cons,List.sum_cons,List.length_cons]
  have:qr v.body.length≤12:=by unfold qr;omega
  omega
def xT(vs:List qa)(more:Nat)(blocks:Int):Bool:=decide (2*((more:Int)+weight vs)+24≤blocks)
theorem xz(w:World)(F G:Nat→Prop)(b:Nat)(vs:List qa)(last:Int)(h:qy w F G b vs last)(hlen:vs.length≤4398046511104)(hb:∀v∈vs,v.body.length≤1000)(more:Int)(hm0:0≤more)(hm1:more≤1125899906842624)(blocks:Int):
 Calls Tryz.prog 151 #[.pointer (some ⟨b,0,none⟩),.int .i64 more,.int .i64 blocks] w fun e w'=>e=.returned (.bool (xT vs more.toNat blocks))∧w'=w:=by
 obtain⟨a,cap,cs,h⟩:=h
 have hc0:=h.c0
 have HH:Hid _:=h
 have HB:Hid _:=hb
 clear h hb
 go_enter Tryz.func151,Tryz.ntmps151
 go_wp2
 go_loop [7,8] (fun t i=>∃k:Nat,k≤vs.length∧i=.int .i64 k∧t=.int .i64 (more+(weight (vs.take k):Nat))) (fun _ i=>vs.length-(intOf i).toNat)
 case atStart=>exact⟨0,Nat.zero_le _,rfl,by simp [weight]⟩
 case round=>
  obtain⟨k,hk,rfl,rfl⟩:=hrel
  have hwl:=v6 (vs:=vs.take k) (fun v hv=>HB.out v (List.mem_of_mem_take hv))
  have htl:(vs.take k).length≤vs.length:=by rw [List.length_take];omega
  generalize hW:weight (vs.take k)=W at*
  have HW:Hid _:=hW
  clear hW
  have hW2:W≤52776558133248:=by omega
  clear hwl htl
  by_cases hlt:k<vs.length
  ·have HS:Hid _:=jH vs k hlt
   obtain⟨g,rfl⟩:=HH.out.rowAt (by omega)
   obtain⟨_,_,_,a',cap',h3,_⟩:=HH.out.cells k hlt
   have hb1:=HB.out vs[k] (List.getElem_mem hlt)
   have hwv:qr vs[k].body.length≤12:=by unfold qr;omega
   go_wp2_with (go_at_call 98;refine(jw _ _ (by omega) (by omega)).mono ?_;rintro e w' ⟨rfl,rfl⟩)
   go_round
   case rel=>exact⟨k+1,by omega,by go_num,by rw [HS.out,HW.out];go_num⟩
   case measure=>simp [intOf];omega
  ·have he:weight vs=W:=by
    have e:vs.take k=vs:=List.take_of_length_le (by omega)
    rw [←HW.out,e]
   have HE:Hid _:=he
   clear he
   go_wp2
   go_ret
   exact⟨zd (by unfold xT;rw [HE.out];congr 1;apply propext;omega),rfl⟩
end ref
namespace ref
open Go.ChangeShapes Go.WideShapes Go.ChangeAt Go.RowKit disk
open keys (ze zd zr zn zu gh vl)
theorem Qk(s:ByteArray)(w:World)(hs:s.size≤maxLen){k:Bool}(h:zu s.data.toList=k):
 Calls Tryz.prog 90 #[.string s] w fun e w'=>e=.returned (.int .i64 (vl k))∧w'=w:=by
 rw [←h];exact gh s w hs
def kB:Bool→Nat→Int
 |false,_=>2
 |true,n=>if 300<n then 3 else 0
def qO:Bool→Bool→Int
 |false,_=>2
 |true,true=>5
 |true,false=>0
theorem dW(w:World)(s:ByteArray)(hs:s.size≤maxLen)(a:Option Addr)(n cap:Nat):
 Calls Tryz.prog 93 #[.string s,.slice a n cap] w fun e w'=>e=.returned (.int .i64 (kB (zu s.data.toList) n))∧w'=w:=by
 cases hk:zu s.data.toList
 ·have HK:Hid _:=hk
  clear hk
  go_enter Tryz.func93,Tryz.ntmps93
  go_wp2_with (go_at_call 90;refine(Qk _ _ hs HK.out).mono ?_;rintro e w' ⟨rfl,rfl⟩;unfold vl)
  go_ret
  exact⟨rfl,rfl⟩
 ·have HK:Hid _:=hk
  clear hk
  by_cases hn:300<n
  ·go_enter Tryz.func93,Tryz.ntmps93
   go_wp2_with (go_at_call 90;refine(Qk _ _ hs HK.out).mono ?_;rintro e w' ⟨rfl,rfl⟩;unfold vl)
   go_ret
   exact⟨ze (if_pos hn).symm,rfl⟩
  ·go_enter Tryz.func93,Tryz.ntmps93
   go_wp2_with (go_at_call 90;refine(Qk _ _ hs HK.out).mono ?_;rintro e w' ⟨rfl,rfl⟩;unfold vl)
   go_ret
   exact⟨ze (if_neg hn).symm,rfl⟩
def Vl:Bool→Option qa→Int
 |false,_=>2
 |true,none=>5
 |true,some _=>0
def gy:Bool→Option qa→Int
 |false,_=>2
 |true,none=>5
 |true,some v=>cond v.mark 5 0
def VJ(w:World)(G:Nat→Prop)(o:Option qa)(x:Value)(c:Int):Prop:=
 (c=0→∃u a cap,o=some u∧x=.slice a u.body.length cap∧zv w G a u.body)∧(c≠0→x=.slice none 0 0)
def Yq(p k:ByteArray)(n m:Int):Int:=
 if (p≠ByteArray.empty∧zu p.data.toList=false)∨(k≠ByteArray.empty∧zu k.data.toList=false) then 2 else if n<0∨m<1∨50<m then 4 else 0
end ref
namespace ref
open Go.ChangeShapes Go.WideShapes Go.ChangeAt Go.RowKit disk
open keys (ze zd zr zn zu gh vl)
attribute [local go_sem ↓] Go.wp_at_zero Go.wp_at_succ
theorem xl.one{w:World}{P:Nat→Prop}{cs:List (List Value)}{vs:List qa}(h:xl w P cs vs):∀u∈cs.flatten,u.oneCell'=true:=fun u hu=>by
 obtain⟨c,hc,hu⟩:=List.mem_flatten.1 hu
 obtain⟨i,hi,rfl⟩:=List.getElem_of_mem hc
 obtain⟨a,cap,e,_⟩:=(h.each i hi (by rw [←h.len];exact hi)).at_
 rw [e] at hu
 simp only [List.mem_cons,List.not_mem_nil,or_false] at hu
 rcases hu with rfl|rfl|rfl|rfl<;>rfl
theorem qT.copied{w w2:World}{F G:Nat→Prop}{b:Nat}{vs:List qa}{last:Int}{a:Option Addr}{cap:Nat}{cs:List (List Value)}(h:qT w F G b vs last a cap cs)(a1:Option Addr)(c1:Nat)
 (hown:w2.ownsRow 0 123 4 (.slice a1 vs.length c1) vs.length cs.flatten) (hgrow:(w.alloc (.cells #[.slice none 0 0,.int .i64 last] 164)).drew.grownBy w2 none)
 (hat:(Value.slice a1 vs.length c1).ownBlock=none∨(Value.slice a1 vs.length c1).ownBlock=some (w.heap.size+1)) (hb2:w2.heap[w.heap.size]? =some (.cells #[.slice none 0 0,.int .i64 last] 164)):
 qy (w2.setCell ⟨w.heap.size,0,none⟩ (.slice a1 vs.length c1)) (fun k=>w.heap.size≤k) G w.heap.size vs last∧Kept (fun _=>False) w (w2.setCell ⟨w.heap.size,0,none⟩ (.slice a1 vs.length c1)):=by
 have e1:∀k,(Value.slice a1 vs.length c1).ownBlock=some k→k=w.heap.size+1:=fun k hk=>by
  rcases hat with e|e<;>rw [e] at hk<;>simp at hk;omega
 have k1:Kept (fun _=>False) w w2:=((Kept.alloc _ w _).trans (Kept.drew _ _) iL).trans (Kept.grown (S:=fun _=>False) hgrow (fun k hk=>by cases hk)) iL
 have k2:=Kept.setCell (S:=fun k=>k=w.heap.size) w2 ⟨w.heap.size,0,none⟩ (.slice a1 vs.length c1) rfl
 have k3:Kept (fun _=>False) w (w2.setCell ⟨w.heap.size,0,none⟩ (.slice a1 vs.length c1)):=k1.trans k2 (fun k hk=>.inr (by omega))
 refine⟨⟨a1,c1,cs,?_,?_,h.tells.kept k3 nF,Nat.le_refl _,fun k hk=>?_,fun hk=>?_⟩,k3⟩
 ·rw [heap_setCell_same w2 w.heap.size 0 _ _ _ hb2];rfl
 ·exact k2.owns hown (fun k hk e=>by have:=e1 k hk;omega)
 ·show w.heap.size≤k
  have:=e1 k hk;omega
 ·have:=e1 _ hk;omega
theorem X0(w:World)(F G:Nat→Prop)(b:Nat)(vs:List qa)(last:Int)(h:qy w F G b vs last)(hlen:vs.length≤2199023255552):
 Calls Tryz.prog 94 #[.pointer (some ⟨b,0,none⟩)] w fun e w'=>e=.returned (.pointer (some ⟨w.heap.size,0,none⟩))∧qy w' (fun k=>w.heap.size≤k) G w.heap.size vs last∧Kept (fun _=>False) w w':=by
 obtain⟨a,cap,cs,h⟩:=h
 have hc0:=h.c0
 have hc1:=h.c1
 have hb:=h.lt
 have HH:Hid _:=h
 obtain⟨i0,hi0,hz0,hz1,hz2⟩:=y5 Tryz.infoKept
 have HI0:Hid (Tryz.prog.info? 123=some i0∧i0.zero=some (.agg #[.string ByteArray.empty,.int .i64 0,.bool false,.slice none 0 0])∧i0.size=4∧i0.bytes=56):=⟨hi0,hz0,hz1,hz2⟩
 clear hi0 hz0 hz1 hz2 h
 have hne:w.heap.size≠b:=by omega
 have H1:Hid (qT (w.alloc (.cells #[.slice none 0 0,.int .i64 last] 164)).drew F G b vs last a cap cs):=
  HH.out.kept ((Kept.alloc (fun _=>False) w _).trans (Kept.drew _ _) iL) nF nF
 go_enter Tryz.func94,Tryz.ntmps94
 go_wp2
 go_region_law ((refine x8 rfl (.tmp 14) (.tmp 18) 162 rfl 123 i0 _ 4 56 Tryz.underlying162 HI0.out.1 HI0.out.2.1 HI0.out.2.2.1 HI0.out.2.2.2 rfl (by omega) _ vs.length cs.flatten (by rfl) (by rfl) (by exact H1.out.row) HH.out.tells.one (by unfold maxLen;omega) (by omega) ?_;intro a1 c1 w2 hown1 hgrow1 hat1;have HG1:Hid _:=hgrow1;have HO1:Hid _:=hown1;have HA1:Hid _:=hat1;have hb2:w2.heap[w.heap.size]? =some (.cells #[.slice none 0 0,.int .i64 last] 164):=(hgrow1.block w.heap.size (by simp) (by simp)).trans (heap_alloc_new w _);have hcN0:=cell_of_row w2 w.heap.size 0 _ _ _ hb2;have hfN0:=frozen_of_row w2 w.heap.size 0 _ _ hb2;have HB2:Hid _:=hb2;clear hgrow1 hown1 hat1 hb2))
 all_goals
  go_wp2
  go_ret
  exact⟨rfl,HH.out.copied a1 c1 HO1.out HG1.out (by have:=HA1.out;simpa using this) HB2.out⟩
theorem qT.added{w w2 w3:World}{F G:Nat→Prop}{b:Nat}{vs:List qa}{last:Int}{a:Option Addr}{cap:Nat}{cs:List (List Value)}(h:qT w F G b vs last a cap cs)(hFG:∀k,F k→¬G k)(v:qa)
 (a1:Option Addr) (c1:Nat) (hown1:w2.ownsRow 0 5 1 (.slice a1 v.body.length c1) v.body.length (v.body.map qc)) (hg1:w.grownBy w2 none)
 (hat1:(Value.slice a1 v.body.length c1).ownBlock=none∨(Value.slice a1 v.body.length c1).ownBlock=some w.heap.size)
 (o:Obj) (g c2:Nat) (hown2:w3.ownsRow 0 123 4 (.slice (some ⟨g,0,none⟩) (vs.length+1) c2) (vs.length+1) (cs.flatten++[.string v.key,.int .i64 v.num,.bool v.mark,.slice a1 v.body.length c1]))
 (hg2:(w2.alloc o).grownBy w3 (Value.slice a vs.length cap).ownBlock) (hat2:(Value.slice a vs.length cap).ownBlock=some g∨g=w2.heap.size+1):
 qT (w3.setCell ⟨b,0,none⟩ (.slice (some ⟨g,0,none⟩) (vs.length+1) c2)) (fun k=>F k∨w.heap.size≤k) (fun k=>G k∨w.heap.size≤k) b (vs++[v]) last (some ⟨g,0,none⟩) c2 (cs++[[.string v.key,.int .i64 v.num,.bool v.mark,.slice a1 v.body.length c1]])∧
  Kept F w (w3.setCell ⟨b,0,none⟩ (.slice (some ⟨g,0,none⟩) (vs.length+1) c2)):=by
 have hb:=h.lt
 have k1:Kept (fun _=>False) w w2:=Kept.grown hg1 (fun k hk=>by cases hk)
 have k2:Kept (fun _=>False) w2 (w2.alloc o):=Kept.alloc _ _ _
 have k3:Kept (fun k=>(Value.slice a vs.length cap).ownBlock=some k) (w2.alloc o) w3:=Kept.grown hg2 (fun k hk=>hk)
 have k23:Kept (fun k=>(Value.slice a vs.length cap).ownBlock=some k) w2 w3:=(k2.mono fE).trans k3 iL
 have k13:Kept (fun k=>(Value.slice a vs.length cap).ownBlock=some k) w w3:=(k1.mono fE).trans k23 iL
 have k4:=Kept.setCell (S:=fun k=>k=b) w3 ⟨b,0,none⟩ (.slice (some ⟨g,0,none⟩) (vs.length+1) c2) rfl
 have k14:Kept F w (w3.setCell ⟨b,0,none⟩ (.slice (some ⟨g,0,none⟩) (vs.length+1) c2)):=(k13.mono (fun k hk=>h.foot2 k hk)).trans k4 (fun k hk=>.inl (by rw [hk];exact h.foot))
 have hl:(vs++[v]).length=vs.length+1:=by simp
 have hgb:g≠b:=by
  have:=k1.size
  rcases hat2 with e|e
  ·exact fun e2=>h.apart (by rw [e,e2])
  ·omega
 have e1:∀k,(Value.slice a1 v.body.length c1).ownBlock=some k→k=w.heap.size:=fun k hk=>by
  rcases hat1 with e|e<;>rw [e] at hk<;>simp at hk;omega
 refine⟨⟨?_,?_,?_,.inl h.foot,?_,?_⟩,k14⟩
 ·rw [hl]
  have e:w3.heap[b]? =_:=(k13.block b hb (fun e=>h.apart e)).trans h.head
  rw [heap_setCell_same w3 b 0 _ _ _ e];rfl
 ·rw [hl]
  have:=k4.owns hown2 (fun k hk e=>by simp [Value.ownBlock] at hk;omega)
  simpa using this
 ·refine xl.snoc ((h.tells.kept k14 (fun k hk hf=>hFG k hf hk)).mono (fun k hk _=>.inl hk)) ⟨a1,c1,rfl,?_⟩
  have hrow:w3.ownsRow 0 5 1 (.slice a1 v.body.length c1) v.body.length (v.body.map qc):=k23.owns hown1 (fun k hk e=>by
   have h1:=e1 k hk
   have h2:=(h.row.lt k e).2
   omega)
  have hrow2:=k4.owns hrow (fun k hk e=>by have:=e1 k hk;omega)
  exact zv.of_own 5 hrow2 rfl _ (fun k hk=>.inr (by rw [e1 k hk];exact Nat.le_refl _))
 ·intro k hk
  rw [hl] at hk
  simp [Value.ownBlock] at hk
  subst hk
  rcases hat2 with e|e
  ·exact .inl (h.foot2 _ e)
  ·exact .inr (by have:=k1.size;omega)
 ·rw [hl];simp [Value.ownBlock];exact hgb
theorem qT.told{w:World}{F G:Nat→Prop}{b:Nat}{vs:List qa}{last:Int}{a:Option Addr}{cap:Nat}{cs:List (List Value)}(h:qT w F G b vs last a cap cs)(n:Int)(hFG:∀k,G k→k<w.heap.size→k≠b):
 qT (w.setCell ⟨b,1,none⟩ (.int .i64 n)) F G b vs n a cap cs:=by
 have k4:=Kept.setCell (S:=fun k=>k=b) w ⟨b,1,none⟩ (.int .i64 n) rfl
 refine⟨?_,k4.owns h.row (fun k hk e=>h.apart (by rw [hk,e])),?_,h.foot,h.foot2,h.apart⟩
 ·rw [heap_setCell_same w b 1 _ _ _ h.head];rfl
 ·have h1:=h.tells.mono (Q:=fun k=>G k∧k<w.heap.size) (fun i hi hl=>⟨hi,hl⟩)
  exact(h1.kept k4 (fun i hi e=>hFG i hi.1 hi.2 e)).mono (fun i hi _=>hi.1)
theorem Yr(w:World)(F G P:Nat→Prop)(b:Nat)(vs:List qa)(last:Int)(h:qy w F G b vs last)(hFG:∀k,F k→¬G k)(hlen:vs.length≤2199023255552)(key:ByteArray)(n:Int)(mark:Bool)
 (ab:Option Addr) (cb:Nat) (l:List UInt8) (hb:zv w P ab l) (hl:l.length≤140737488355328):
 Calls Tryz.prog 95 #[.pointer (some ⟨b,0,none⟩),.string key,.int .i64 n,.bool mark,.slice ab l.length cb] w fun e w'=>e=.returned (.tuple #[])∧
  qy w' (fun k=>F k∨w.heap.size≤k) (fun k=>G k∨w.heap.size≤k) b (vs++[⟨key,n,mark,l⟩]) (max last n)∧Kept F w w':=by
 obtain⟨a,cap,cs,h⟩:=h
 have hlt:=h.lt
 have HH:Hid _:=h
 have HB:Hid _:=hb
 obtain⟨i0,hi0,hz0,hz1,hz2⟩:=y5 Tryz.infoKept
 have HI0:Hid (Tryz.prog.info? 123=some i0∧i0.zero=some (.agg #[.string ByteArray.empty,.int .i64 0,.bool false,.slice none 0 0])∧i0.size=4∧i0.bytes=56):=⟨hi0,hz0,hz1,hz2⟩
 clear hi0 hz0 hz1 hz2
 obtain⟨j0,hi0,hz0,hz1,hz2⟩:=y5 Tryz.infoU8
 have HJ0:Hid (Tryz.prog.info? 5=some j0∧j0.zero=some (.int .u8 0)∧j0.size=1∧j0.bytes=1):=⟨hi0,hz0,hz1,hz2⟩
 clear hi0 hz0 hz1 hz2 h hb
 go_enter Tryz.func95,Tryz.ntmps95
 go_wp2_with (first
  |(refine yw P rfl (.tmp 11) (.tmp 12) 35 rfl 5 j0 _ Tryz.underlying35 HJ0.out.1 HJ0.out.2.1 HJ0.out.2.2.1 HJ0.out.2.2.2 rfl ab cb l (by rfl) (by rfl) (by exact HB.out) hl ?_;intro a1 c1 w2 hown1 hgrow1 hat1;have HO1:Hid _:=hown1;have HG1:Hid _:=hgrow1;have HA1:Hid _:=hat1;have H2:Hid (qT w2 F G b vs last a cap cs):=HH.out.kept (Kept.grown (S:=fun _=>False) hgrow1 (fun k hk=>by cases hk)) nF nF;have hc0:=H2.out.c0;have hf0:=H2.out.fz 0;have hlt2:=H2.out.lt;clear hown1 hgrow1 hat1)
  |(refine wpList_append_lies _ rfl (.tmp 18) (.tmp 24) 162 rfl 0 123 i0 _ 4 56 Tryz.underlying162 HI0.out.1 HI0.out.2.1 HI0.out.2.2.1 HI0.out.2.2.2 rfl (by omega) (.slice a vs.length cap) vs.length cs.flatten (by rfl) (by exact H2.out.row.alloc _) ⟨w2.heap.size,0,none⟩ 1 1 [.string key,.int .i64 n,.bool mark,.slice a1 l.length c1] (by rfl) (by rfl) (by exact World.news_of_block (heap_alloc_new w2 _)) (by simp [Value.oneCell']) (by omega) (by unfold maxLen;omega) (by omega) (Nat.zero_le _) (w2.heap.size+1) (by simp) ?_;intro g c2 w3 hown2 hgrow2 hat2 hlt3;have HX:Hid _:=qT.added HH.out hFG ⟨key,n,mark,l⟩ a1 c1 HO1.out HG1.out HA1.out _ g c2 hown2 hgrow2 hat2;have hcc0:w3.cell? ⟨b,0,none⟩=some (.slice a vs.length cap):=(hgrow2.cell_far ⟨b,0,none⟩ (by simp;omega) (fun e=>H2.out.apart e.symm)).trans (by simpa using H2.out.kept (Kept.alloc (fun _=>False) w2 _) nF nF |>.c0);have hff0:w3.frozen? ⟨b,0,none⟩=false:=(hgrow2.frozen_far ⟨b,0,none⟩ (by simp;omega) (fun e=>H2.out.apart e.symm)).trans (by simpa using H2.out.kept (Kept.alloc (fun _=>False) w2 _) nF nF |>.fz 0);have hcc1:=HX.out.1.c1;have hff1:=HX.out.1.fz 1;clear hown2 hgrow2 hat2))
 ·go_end0
  have hb:F b:=HH.out.foot
  have ht:=HX.out.1.told n (fun k hk _ e=>by
   subst e
   rcases hk with hk|hk
   ·exact hFG _ hb hk
   ·omega)
  exact⟨rfl,⟨_,_,_,by rw [show max last n=n from by omega];exact ht⟩,HX.out.2.trans (Kept.setCell (S:=fun k=>k=b) _ ⟨b,1,none⟩ _ rfl) (fun k hk=>.inl (by rw [hk];exact hb))⟩
 ·go_end0
  exact⟨rfl,⟨_,_,_,by rw [show max last n=last from by omega];exact HX.out.1⟩,HX.out.2⟩
structure VV (w wr:World) (F G:Nat→Prop) (b:Nat) (vs:List qa) (last:Int) (a:Option Addr) (cap:Nat) (cs:List (List Value)) (us:List qa) (x:Value):Prop where
 ref:qT wr F G b vs last a cap cs
 kept:Kept (fun _=>False) w wr
 row:∃a' cap' ds,x=.slice a' us.length cap'∧wr.ownsRow 0 123 4 (.slice a' us.length cap') us.length ds.flatten∧xl wr G ds us∧∀k,(Value.slice a' us.length cap').ownBlock=some k→w.heap.size≤k
end ref
namespace book
open Go.ChangeShapes Go.WideShapes Go.ChangeAt Go.RowKit disk ref
open keys (ze zd zr zn)
def VK(i d:Nat):Int:=((i/251^d%251:Nat):Int)
def gA(w:World)(P:Nat→Prop)(t:TypeId)(a:Option Addr)(n:Nat):Prop:=
 n=0∨∃b cur,a=some ⟨b,0,none⟩∧P b∧w.heap[b]? =some (.cells cur t (0,0))∧n≤cur.size
def fV(w:World)(a:Option Addr)(n:Nat)(z:Value):Prop:=∀j,j<n→∀b,a=some ⟨b,0,none⟩→w.cell? ⟨b,j,none⟩=some z
theorem gA.kept{w w':World}{P T:Nat→Prop}{t:TypeId}{a:Option Addr}{n:Nat}(h:gA w P t a n)(k:Kept T w w')(hn:∀i,P i→¬T i):gA w' P t a n:=by
 rcases h with h|⟨b,cur,h1,h2,h3,h4⟩
 ·exact .inl h
 ·exact .inr ⟨b,cur,h1,h2,(k.block b (lT h3) (hn b h2)).trans h3,h4⟩
theorem gA.set{w:World}{P:Nat→Prop}{t:TypeId}{a:Option Addr}{n:Nat}(h:gA w P t a n)(g j:Nat)(v:Value):gA (w.setCell ⟨g,j,none⟩ v) P t a n:=by
 rcases h with h|⟨b,cur,h1,h2,h3,h4⟩
 ·exact .inl h
 ·by_cases e:b=g
  ·subst e
   exact .inr ⟨b,_,h1,h2,heap_setCell_same w b j _ _ _ h3,by simpa using h4⟩
  ·exact .inr ⟨b,cur,h1,h2,(heap_setCell_other w ⟨g,j,none⟩ b v e).trans h3,h4⟩
theorem fV.kept{w w':World}{P T:Nat→Prop}{t:TypeId}{a:Option Addr}{n:Nat}{z:Value}(h:fV w a n z)(hr:gA w P t a n)(k:Kept T w w')(hn:∀i,P i→¬T i):fV w' a n z:=by
 intro j hj b hb
 rcases hr with hr|⟨b',cur,h1,h2,h3,h4⟩
 ·omega
 ·rw [h1] at hb;cases hb
  exact(k.cell (a:=⟨b,j,none⟩) (lT h3) (hn b h2)).trans (h j hj b h1)
theorem jx{w:World}{b g j k:Nat}{v u:Value}(h:w.cell? ⟨b,k,none⟩=some u):(w.setCell ⟨g,j,none⟩ v).cell? ⟨b,k,none⟩=some (if b=g∧k=j then v else u):=by
 by_cases e:b=g∧k=j
 ·obtain⟨rfl,rfl⟩:=e
  rw [if_pos ⟨rfl,rfl⟩,World.cell?_setCell_same w _ _ h]
 ·rw [if_neg e,World.cell?_setCell_other w _ _ _ (by intro h2;simp at h2;exact e ⟨h2.1.symm,h2.2.symm⟩)];exact h
theorem fV.set{w:World}{a:Option Addr}{n:Nat}{z:Value}(h:fV w a n z)(g j:Nat):fV (w.setCell ⟨g,j,none⟩ z) a n z:=by
 intro i hi b hb
 rw [jx (h i hi b hb)];simp
def dX(s:Option Addr×Nat×Nat):Value:=.slice s.1 s.2.1 s.2.2
structure xP (w:World) (P:Nat→Prop) (g:Nat) (ss:List (Option Addr×Nat×Nat)):Prop where
 head:w.heap[g]? =some (.cells (ss.map dX).toArray 35 (0,0))
 room:∀s∈ss,gA w P 5 s.1 s.2.1
 gP:¬P g
 few:∀s∈ss,s.2.1≤9223372036854775807
 len:ss.length≤100
theorem xP.kept{w w':World}{P T:Nat→Prop}{g:Nat}{ss:List (Option Addr×Nat×Nat)}(h:xP w P g ss)(k:Kept T w w')(hn:∀i,P i→¬T i)(hg:¬T g):xP w' P g ss:=
 ⟨(k.block g (lT h.head) hg).trans h.head,fun s hs=>(h.room s hs).kept k hn,h.gP,h.few,h.len⟩
theorem xP.set{w:World}{P:Nat→Prop}{g:Nat}{ss:List (Option Addr×Nat×Nat)}(h:xP w P g ss)(b j:Nat)(v:Value)(hb:P b):xP (w.setCell ⟨b,j,none⟩ v) P g ss:=
 ⟨(heap_setCell_other w ⟨b,j,none⟩ g v (fun e=>h.gP (by rw [e];exact hb))).trans h.head,fun s hs=>(h.room s hs).set b j v,h.gP,h.few,h.len⟩
theorem xP.cell{w:World}{P:Nat→Prop}{g:Nat}{ss:List (Option Addr×Nat×Nat)}(h:xP w P g ss)(i:Nat)(hi:i<ss.length):w.cell? ⟨g,i,none⟩=some (.slice ss[i].1 ss[i].2.1 ss[i].2.2):=by
 rw [cell_of_row w g i _ _ _ h.head];simp [hi,dX]
def xP.Are(w:World)(ss:List (Option Addr×Nat×Nat))(z:Value):Prop:=∀s∈ss,fV w s.1 s.2.1 z
theorem xP.Are.kept{w w':World}{P T:Nat→Prop}{g:Nat}{ss:List (Option Addr×Nat×Nat)}{z:Value}(h:xP.Are w ss z)(hl:xP w P g ss)(k:Kept T w w')(hn:∀i,P i→¬T i):xP.Are w' ss z:=
 fun s hs=>(h s hs).kept (hl.room s hs) k hn
theorem yU(w:World)(P:Nat→Prop)(g cap:Nat)(ss:List (Option Addr×Nat×Nat))(h:xP w P g ss)(z:Int)(hz0:0≤z)(hz1:z≤255):
 Calls Tryz.prog 113 #[.slice (some ⟨g,0,none⟩) ss.length cap,.int .u8 z] w fun e w'=>e=.returned (.tuple #[])∧xP w' P g ss∧xP.Are w' ss (.int .u8 z)∧Kept P w w':=by
 have HH:Hid _:=h
 have hlen:=h.len
 clear h
 go_enter Tryz.func113,Tryz.ntmps113
 go_wp2
 go_loopw [4] (fun t wr=>∃k:Nat,k≤ss.length∧t=.int .i64 k∧xP wr P g ss∧(∀i (hi:i<ss.length),i<k→fV wr ss[i].1 ss[i].2.1 (.int .u8 z))∧Kept P w wr) (fun t _=>ss.length-(intOf t).toNat)
 case atStart=>exact⟨0,Nat.zero_le _,rfl,HH.out,fun _ _ h=>by omega,Kept.refl _ _⟩
 case round=>
  obtain⟨k,hk,rfl,hl,ha,hkept⟩:=hrel
  have HL:Hid _:=hl
  have HA:Hid _:=ha
  have HK:Hid _:=hkept
  clear hl ha hkept
  by_cases hlt:k<ss.length
  ·go_wp2
   go_loopw [5] (fun t wq=>∃m:Nat,m≤ss[k].2.1∧t=.int .i64 m∧xP wq P g ss∧(∀i (hi:i<ss.length),i<k→fV wq ss[i].1 ss[i].2.1 (.int .u8 z))∧fV wq ss[k].1 m (.int .u8 z)∧Kept P w wq) (fun t _=>ss[k].2.1-(intOf t).toNat)
   case atStart=>exact⟨0,Nat.zero_le _,rfl,HL.out,HA.out,fun j hj=>by omega,HK.out⟩
   case round=>
    obtain⟨m,hm,rfl,hl2,ha2,hz2,hkept2⟩:=hrel
    have hc:=hl2.cell k hlt
    have hfew:=hl2.few ss[k] (List.getElem_mem hlt)
    have HL2:Hid _:=hl2
    have HA2:Hid _:=ha2
    have HZ2:Hid _:=hz2
    have HK2:Hid _:=hkept2
    clear hl2 ha2 hz2 hkept2
    by_cases hlt2:m<ss[k].2.1
    ·have hroom:=HL2.out.room ss[k] (List.getElem_mem hlt)
     rcases hroom with h0|⟨b,cur,h1,h2,h3,h4⟩
     ·omega
     ·have hcb:wr.cell? ⟨b,m,none⟩=some cur[m]:=by rw [cell_of_row wr b m _ _ _ h3];simp
      have hfb:=frozen_of_row wr b m _ _ h3
      rw [h1] at hc
      have H1:Hid _:=h1
      have HP:Hid _:=h2
      have hm2:m<cur.size:=by omega
      clear h1 h2 h3
      generalize cur[m]=cm at*
      go_wp2
      go_roundw
      case rel=>
       refine⟨m+1,by omega,by go_num,HL2.out.set b m _ HP.out,fun i hi hik=>(HA2.out i hi hik).set b m,?_,HK2.out.trans (Kept.setCell (S:=P) _ ⟨b,m,none⟩ _ HP.out) iL⟩
       intro j hj b' hb'
       have e:b'=b:=by have:=H1.out;rw [this] at hb';cases hb';rfl
       subst e
       by_cases e2:j=m
       ·subst e2;rw [jx hcb];simp
       ·rw [jx (HZ2.out j (by omega) b' hb')];simp
      case measure=>simp [intOf];omega
    ·go_wp2
     go_roundw
     case rel=>
      refine⟨k+1,by omega,by go_num,HL2.out,fun i hi hik=>?_,HK2.out⟩
      by_cases e:i=k
      ·subst e;have e2:m=ss[i].2.1:=by omega
       rw [←e2];exact HZ2.out
      ·exact HA2.out i hi (by omega)
     case measure=>simp [intOf];omega
  ·go_wp2
   go_end0
   refine⟨rfl,HL.out,fun s hs=>?_,HK.out⟩
   obtain⟨i,hi,rfl⟩:=List.getElem_of_mem hs
   exact HA.out i hi (by omega)
theorem vZ(w:World)(P:Nat→Prop)(g cap:Nat)(ss:List (Option Addr×Nat×Nat))(h:xP w P g ss)(z:Int)(hz:xP.Are w ss (.int .u8 z)):
 Calls Tryz.prog 111 #[.slice (some ⟨g,0,none⟩) ss.length cap,.int .u8 z] w fun e w'=>e=.returned (.bool true)∧w'=w:=by
 have HH:Hid _:=h
 have HZ:Hid _:=hz
 have hlen:=h.len
 clear h hz
 go_enter Tryz.func111,Tryz.ntmps111
 go_wp2
 go_loop [5] (fun t=>∃k:Nat,k≤ss.length∧t=.int .i64 k) (fun t=>ss.length-(intOf t).toNat)
 case atStart=>exact⟨0,Nat.zero_le _,rfl⟩
 case round=>
  obtain⟨k,hk,rfl⟩:=hrel
  by_cases hlt:k<ss.length
  ·have hc:=HH.out.cell k hlt
   have hfew:=HH.out.few ss[k] (List.getElem_mem hlt)
   go_wp2
   go_loop [6] (fun t=>∃m:Nat,m≤ss[k].2.1∧t=.int .i64 m) (fun t=>ss[k].2.1-(intOf t).toNat)
   case atStart=>exact⟨0,Nat.zero_le _,rfl⟩
   case round=>
    obtain⟨m,hm,rfl⟩:=hrel
    by_cases hlt2:m<ss[k].2.1
    ·have hroom:=HH.out.room ss[k] (List.getElem_mem hlt)
     rcases hroom with h0|⟨b,cur,h1,h2,h3,h4⟩
     ·omega
     ·have hcb:=HZ.out ss[k] (List.getElem_mem hlt) m hlt2 b h1
      rw [h1] at hc
      clear h1 h2 h3
      go_wp2
      go_round
      case rel=>exact⟨m+1,by omega,by go_num⟩
      case measure=>simp [intOf];omega
    ·go_wp2
     go_round
     case rel=>exact⟨k+1,by omega,by go_num⟩
     case measure=>simp [intOf];omega
  ·go_wp2
   go_ret
   exact⟨rfl,rfl⟩
end book
end Go.Proofs.YtcoengihaobddaaGreatDoor
