/- Part 4 of 28 of a proof: Ref2, Ref3, Ref3b, Ref4, Book1 -/
import Derived.Test.YtcoengihaobddaaGreatDoorJe02
import Derived.Test.YtcoengihaobddaaGreatDoorJe01
import Derived.Test.YtcoengihaobddaaGreatDoorJe03
namespace Go.Proofs.YtcoengihaobddaaGreatDoor.ref
open Go.ChangeShapes Go.WideShapes Go.ChangeAt Go.RowKit disk
open keys (ret_int ret_bool beq_no beq_yes)
set_option linter.unusedVariables false
theorem NewAt.whole {vs:List Ver} {key:ByteArray} {t:Value} (h:NewAt vs key vs.length t):
 (t=.int .i64 (-1)∧newestV vs key=none)∨∃(m:Nat) (h:m<vs.length),t=.int .i64 (m:Int)∧newestV vs key=some vs[m]:=by
 unfold NewAt at h
 rw [List.take_length] at h
 rcases h with h|⟨m,h1,_,h2,h3⟩
 ·exact .inl h
 ·exact .inr ⟨m,h1,h2,h3⟩
def bareB (vs:List Ver) (key:ByteArray):Bool:=match newestV vs key with
 |none=>true
 |some v=>v.mark
set_option maxHeartbeats 400000 in
theorem bare_any (w:World) (F G:Nat→Prop) (b:Nat) (vs:List Ver) (last:Int) (h:RefAt w F G b vs last) (hlen:vs.length≤9223372036854775807) (key:ByteArray):
 Calls Tryz.prog 152 #[.pointer (some ⟨b,0,none⟩),.string key] w fun e w'=>e=.returned (.bool (bareB vs key))∧∃n,w'=w.drewN n:=by
 have HH:Hid _:=h
 obtain ⟨a,cap,cs,h⟩:=h
 have HI:Hid _:=h
 clear h
 go_enter Tryz.func152,Tryz.ntmps152
 go_wp2_with fail
 refine (newest_any _ F G b vs last HH.out hlen key).mono ?_
 rintro e w1 ⟨⟨i,rfl,hi⟩,n,rfl⟩
 rcases hi.whole with ⟨rfl,hv⟩|⟨m,hm,rfl,hv⟩
 ·have HV:Hid _:=hv
  clear hv hi
  go_wp2
  go_ret
  exact ⟨ret_bool (by simp [bareB,HV.out]),_,rfl⟩
 ·have HV:Hid _:=hv
  clear hv hi
  obtain ⟨g,rfl⟩:=HI.out.rowAt (by omega)
  have hc0:=HI.out.c0
  obtain ⟨_,_,h2,_⟩:=HI.out.cells m hm
  have hm0:decide ((m:Int)<0)=false:=decide_eq_false (by omega)
  go_wp2
  go_ret
  exact ⟨ret_bool (by simp [bareB,HV.out]),_,rfl⟩
theorem weight_any (w:World) (n:Int) (h0:0≤n) (h1:n≤4611686018427387904):
 Calls Tryz.prog 98 #[.int .i64 n] w fun e w'=>e=.returned (.int .i64 (weigh n.toNat))∧w'=w:=by
 go_enter Tryz.func98,Tryz.ntmps98
 go_wp2
 go_ret
 exact ⟨ret_int (by unfold weigh;omega),rfl⟩
theorem weight_snoc (vs:List Ver) (k:Nat) (h:k<vs.length):weight (vs.take (k+1))=weight (vs.take k)+weigh vs[k].body.length:=by
 unfold weight;rw [List.take_succ_eq_append_getElem h,List.map_append,List.sum_append];simp
theorem weight_le {vs:List Ver} (h:∀v∈vs,v.body.length≤1000):weight vs≤12*vs.length:=by
 unfold weight
 induction vs with
 |nil=>simp
 |cons v l ih=>
  have h1:=ih (fun u hu=>h u (List.mem_cons_of_mem _ hu))
  have h2:=h v (List.mem_cons_self ..)
  simp only [List.map_cons,List.sum_cons,List.length_cons]
  have:weigh v.body.length≤12:=by unfold weigh;omega
  omega
def fitsB (vs:List Ver) (more:Nat) (blocks:Int):Bool:=decide (2*((more:Int)+weight vs)+24≤blocks)
set_option maxHeartbeats 400000 in
theorem fits_any (w:World) (F G:Nat→Prop) (b:Nat) (vs:List Ver) (last:Int) (h:RefAt w F G b vs last) (hlen:vs.length≤4398046511104) (hb:∀v∈vs,v.body.length≤1000) (more:Int) (hm0:0≤more) (hm1:more≤1125899906842624) (blocks:Int):
 Calls Tryz.prog 151 #[.pointer (some ⟨b,0,none⟩),.int .i64 more,.int .i64 blocks] w fun e w'=>e=.returned (.bool (fitsB vs more.toNat blocks))∧w'=w:=by
 obtain ⟨a,cap,cs,h⟩:=h
 have hc0:=h.c0
 have HH:Hid _:=h
 have HB:Hid _:=hb
 clear h hb
 go_enter Tryz.func151,Tryz.ntmps151
 go_wp2
 go_loop [7,8] (fun t i=>∃k:Nat,k≤vs.length∧i=.int .i64 k∧t=.int .i64 (more+(weight (vs.take k):Nat))) (fun _ i=>vs.length-(intOf i).toNat)
 case atStart=>exact ⟨0,Nat.zero_le _,rfl,by simp [weight]⟩
 case round=>
  obtain ⟨k,hk,rfl,rfl⟩:=hrel
  have hwl:=weight_le (vs:=vs.take k) (fun v hv=>HB.out v (List.mem_of_mem_take hv))
  have htl:(vs.take k).length≤vs.length:=by rw [List.length_take];omega
  generalize hW:weight (vs.take k)=W at*
  have HW:Hid _:=hW
  clear hW
  have hW2:W≤52776558133248:=by omega
  clear hwl htl
  by_cases hlt:k<vs.length
  ·have HS:Hid _:=weight_snoc vs k hlt
   obtain ⟨g,rfl⟩:=HH.out.rowAt (by omega)
   obtain ⟨_,_,_,a',cap',h3,_⟩:=HH.out.cells k hlt
   have hb1:=HB.out vs[k] (List.getElem_mem hlt)
   have hwv:weigh vs[k].body.length≤12:=by unfold weigh;omega
   go_wp2_with (go_at_call 98;refine (weight_any _ _ (by omega) (by omega)).mono ?_;rintro e w' ⟨rfl,rfl⟩)
   go_round
   case rel=>exact ⟨k+1,by omega,by go_num,by rw [HS.out,HW.out];go_num⟩
   case measure=>simp [intOf];omega
  ·have he:weight vs=W:=by
    have e:vs.take k=vs:=List.take_of_length_le (by omega)
    rw [←HW.out,e]
   have HE:Hid _:=he
   clear he
   go_wp2
   go_ret
   exact ⟨ret_bool (by unfold fitsB;rw [HE.out];congr 1;apply propext;omega),rfl⟩
end Go.Proofs.YtcoengihaobddaaGreatDoor.ref
namespace Go.Proofs.YtcoengihaobddaaGreatDoor.ref
open Go.ChangeShapes Go.WideShapes Go.ChangeAt Go.RowKit disk
open keys (ret_int ret_bool beq_no beq_yes keyB ref_any codeB)
set_option linter.unusedVariables false
theorem key_is (s:ByteArray) (w:World) (hs:s.size≤maxLen) {k:Bool} (h:keyB s.data.toList=k):
 Calls Tryz.prog 90 #[.string s] w fun e w'=>e=.returned (.int .i64 (codeB k))∧w'=w:=by
 rw [←h];exact ref_any s w hs
def putE:Bool→Nat→Int
 |false,_=>2
 |true,n=>if 300<n then 3 else 0
def delE:Bool→Bool→Int
 |false,_=>2
 |true,true=>5
 |true,false=>0
set_option maxHeartbeats 400000 in
theorem putError_any (w:World) (s:ByteArray) (hs:s.size≤maxLen) (a:Option Addr) (n cap:Nat):
 Calls Tryz.prog 93 #[.string s,.slice a n cap] w fun e w'=>e=.returned (.int .i64 (putE (keyB s.data.toList) n))∧w'=w:=by
 cases hk:keyB s.data.toList
 ·have HK:Hid _:=hk
  clear hk
  go_enter Tryz.func93,Tryz.ntmps93
  go_wp2_with (go_at_call 90;refine (key_is _ _ hs HK.out).mono ?_;rintro e w' ⟨rfl,rfl⟩;unfold codeB)
  go_ret
  exact ⟨rfl,rfl⟩
 ·have HK:Hid _:=hk
  clear hk
  by_cases hn:300<n
  ·go_enter Tryz.func93,Tryz.ntmps93
   go_wp2_with (go_at_call 90;refine (key_is _ _ hs HK.out).mono ?_;rintro e w' ⟨rfl,rfl⟩;unfold codeB)
   go_ret
   exact ⟨ret_int (if_pos hn).symm,rfl⟩
  ·go_enter Tryz.func93,Tryz.ntmps93
   go_wp2_with (go_at_call 90;refine (key_is _ _ hs HK.out).mono ?_;rintro e w' ⟨rfl,rfl⟩;unfold codeB)
   go_ret
   exact ⟨ret_int (if_neg hn).symm,rfl⟩
set_option maxHeartbeats 400000 in
theorem deleteError_any (w:World) (F G:Nat→Prop) (b:Nat) (vs:List Ver) (last:Int) (h:RefAt w F G b vs last) (hlen:vs.length≤9223372036854775807) (s:ByteArray) (hs:s.size≤maxLen):
 Calls Tryz.prog 100 #[.pointer (some ⟨b,0,none⟩),.string s] w fun e w'=>e=.returned (.int .i64 (delE (keyB s.data.toList) (bareB vs s)))∧∃n,w'=w.drewN n:=by
 have HH:Hid _:=h
 clear h
 cases hk:keyB s.data.toList
 ·have HK:Hid _:=hk
  clear hk
  go_enter Tryz.func100,Tryz.ntmps100
  go_wp2_with (go_at_call 90;refine (key_is _ _ hs HK.out).mono ?_;rintro e w' ⟨rfl,rfl⟩;unfold codeB)
  go_ret
  exact ⟨rfl,0,rfl⟩
 ·have HK:Hid _:=hk
  clear hk
  cases hb:bareB vs s
  all_goals
   have HB:Hid _:=hb
   clear hb
   go_enter Tryz.func100,Tryz.ntmps100
   go_wp2_with (first
    |(go_at_call 90;refine (key_is _ _ hs HK.out).mono ?_;rintro e w' ⟨rfl,rfl⟩;unfold codeB)
    |(go_at_call 152;refine (bare_any _ F G b vs last HH.out hlen s).mono ?_;rintro e w' ⟨rfl,n,rfl⟩;rw [HB.out]))
   go_ret
   exact ⟨rfl,_,rfl⟩
def eraE:Bool→Option Ver→Int
 |false,_=>2
 |true,none=>5
 |true,some _=>0
set_option maxHeartbeats 400000 in
theorem eraseError_any (w:World) (F G:Nat→Prop) (b:Nat) (vs:List Ver) (last:Int) (h:RefAt w F G b vs last) (hlen:vs.length≤9223372036854775807) (s:ByteArray) (hs:s.size≤maxLen) (n:Int):
 Calls Tryz.prog 101 #[.pointer (some ⟨b,0,none⟩),.string s,.int .i64 n] w fun e w'=>e=.returned (.int .i64 (eraE (keyB s.data.toList) (findV vs s n)))∧w'=w:=by
 have HH:Hid _:=h
 clear h
 cases hk:keyB s.data.toList
 ·have HK:Hid _:=hk
  clear hk
  go_enter Tryz.func101,Tryz.ntmps101
  go_wp2_with (go_at_call 90;refine (key_is _ _ hs HK.out).mono ?_;rintro e w' ⟨rfl,rfl⟩;unfold codeB)
  go_ret
  exact ⟨rfl,rfl⟩
 ·have HK:Hid _:=hk
  clear hk
  rcases findI_spec vs s n with ⟨h1,h2⟩|⟨i,hi,h1,h2⟩
  ·rw [h2]
   have H1:Hid _:=h1
   clear h1 h2
   go_enter Tryz.func101,Tryz.ntmps101
   go_wp2_with (first
    |(go_at_call 90;refine (key_is _ _ hs HK.out).mono ?_;rintro e w' ⟨rfl,rfl⟩;unfold codeB)
    |(go_at_call 153;refine (find_any _ F G b vs last HH.out hlen s n).mono ?_;rintro e w' ⟨rfl,rfl⟩;rw [H1.out]))
   go_ret
   exact ⟨rfl,rfl⟩
  ·rw [h2]
   have H1:Hid _:=h1
   clear h1 h2
   go_enter Tryz.func101,Tryz.ntmps101
   go_wp2_with (first
    |(go_at_call 90;refine (key_is _ _ hs HK.out).mono ?_;rintro e w' ⟨rfl,rfl⟩;unfold codeB)
    |(go_at_call 153;refine (find_any _ F G b vs last HH.out hlen s n).mono ?_;rintro e w' ⟨rfl,rfl⟩;rw [H1.out]))
   go_ret
   exact ⟨rfl,rfl⟩
def ansE:Bool→Option Ver→Int
 |false,_=>2
 |true,none=>5
 |true,some v=>cond v.mark 5 0
def BodyIs (w:World) (G:Nat→Prop) (o:Option Ver) (x:Value) (c:Int):Prop:=
 (c=0→∃u a cap,o=some u∧x=.slice a u.body.length cap∧Bytes w G a u.body)∧(c≠0→x=.slice none 0 0)
set_option maxHeartbeats 400000 in
theorem at_any (w:World) (F G:Nat→Prop) (b:Nat) (vs:List Ver) (last:Int) (h:RefAt w F G b vs last) (hlen:vs.length≤9223372036854775807) (s:ByteArray) (hs:s.size≤maxLen) (n:Int):
 Calls Tryz.prog 107 #[.pointer (some ⟨b,0,none⟩),.string s,.int .i64 n] w fun e w'=>
  (∃x,e=.returned (.tuple #[x,.int .i64 (ansE (keyB s.data.toList) (findV vs s n))])∧BodyIs w G (findV vs s n) x (ansE (keyB s.data.toList) (findV vs s n)))∧w'=w:=by
 have HH:Hid _:=h
 obtain ⟨a,cap,cs,h⟩:=h
 have HR:Hid _:=h
 clear h
 cases hk:keyB s.data.toList
 ·have HK:Hid _:=hk
  clear hk
  go_enter Tryz.func107,Tryz.ntmps107
  go_wp2_with (go_at_call 90;refine (key_is _ _ hs HK.out).mono ?_;rintro e w' ⟨rfl,rfl⟩;unfold codeB)
  go_ret2
  exact ⟨⟨_,rfl,by simp [BodyIs,ansE]⟩,rfl⟩
 ·have HK:Hid _:=hk
  clear hk
  rcases findI_spec vs s n with ⟨h1,h2⟩|⟨i,hi,h1,h2⟩
  ·rw [h2]
   have H1:Hid _:=h1
   clear h1 h2
   go_enter Tryz.func107,Tryz.ntmps107
   go_wp2_with (first
    |(go_at_call 90;refine (key_is _ _ hs HK.out).mono ?_;rintro e w' ⟨rfl,rfl⟩;unfold codeB)
    |(go_at_call 153;refine (find_any _ F G b vs last HH.out hlen s n).mono ?_;rintro e w' ⟨rfl,rfl⟩;rw [H1.out]))
   go_ret2
   exact ⟨⟨_,rfl,by simp [BodyIs,ansE]⟩,rfl⟩
  ·rw [h2]
   have H1:Hid _:=h1
   clear h1 h2
   obtain ⟨g,rfl⟩:=HR.out.rowAt (by omega)
   have hc0:=HR.out.c0
   obtain ⟨_,_,h2,a',cap',h3,hb⟩:=HR.out.cells i hi
   have HB:Hid _:=hb
   clear hb
   have hm0:decide ((i:Int)<0)=false:=decide_eq_false (by omega)
   cases hm:vs[i].mark
   ·rw [hm] at h2
    have HM:Hid _:=hm
    clear hm
    go_enter Tryz.func107,Tryz.ntmps107
    go_wp2_with (first
     |(go_at_call 90;refine (key_is _ _ hs HK.out).mono ?_;rintro e w' ⟨rfl,rfl⟩;unfold codeB)
     |(go_at_call 153;refine (find_any _ F G b vs last HH.out hlen s n).mono ?_;rintro e w' ⟨rfl,rfl⟩;rw [H1.out]))
    go_ret2
    exact ⟨⟨.slice a' vs[i].body.length cap',by simp [ansE,HM.out],by simp only [BodyIs,ansE,HM.out,cond_false];exact ⟨fun _=>⟨vs[i],a',cap',rfl,rfl,HB.out⟩,fun h=>absurd rfl h⟩⟩,rfl⟩
   ·rw [hm] at h2
    have HM:Hid _:=hm
    clear hm
    go_enter Tryz.func107,Tryz.ntmps107
    go_wp2_with (first
     |(go_at_call 90;refine (key_is _ _ hs HK.out).mono ?_;rintro e w' ⟨rfl,rfl⟩;unfold codeB)
     |(go_at_call 153;refine (find_any _ F G b vs last HH.out hlen s n).mono ?_;rintro e w' ⟨rfl,rfl⟩;rw [H1.out]))
    go_ret2
    exact ⟨⟨_,by simp [ansE,HM.out];rfl,by simp [BodyIs,ansE,HM.out]⟩,rfl⟩
set_option maxHeartbeats 400000 in
theorem get_any (w:World) (F G:Nat→Prop) (b:Nat) (vs:List Ver) (last:Int) (h:RefAt w F G b vs last) (hlen:vs.length≤9223372036854775807) (s:ByteArray) (hs:s.size≤maxLen):
 Calls Tryz.prog 103 #[.pointer (some ⟨b,0,none⟩),.string s] w fun e w'=>
  (∃x n,e=.returned (.tuple #[x,.int .i64 n,.int .i64 (ansE (keyB s.data.toList) (newestV vs s))])∧BodyIs w G (newestV vs s) x (ansE (keyB s.data.toList) (newestV vs s))∧
   (ansE (keyB s.data.toList) (newestV vs s)=0→∀u,newestV vs s=some u→n=u.num))∧∃n,w'=w.drewN n:=by
 have HH:Hid _:=h
 obtain ⟨a,cap,cs,h⟩:=h
 have HR:Hid _:=h
 clear h
 cases hk:keyB s.data.toList
 ·have HK:Hid _:=hk
  clear hk
  go_enter Tryz.func103,Tryz.ntmps103
  go_wp2_with (go_at_call 90;refine (key_is _ _ hs HK.out).mono ?_;rintro e w' ⟨rfl,rfl⟩;unfold codeB)
  go_ret3
  exact ⟨⟨_,_,rfl,by simp [BodyIs,ansE],by simp [ansE]⟩,0,rfl⟩
 ·have HK:Hid _:=hk
  clear hk
  go_enter Tryz.func103,Tryz.ntmps103
  go_wp2_with (go_at_call 90;refine (key_is _ _ hs HK.out).mono ?_;rintro e w' ⟨rfl,rfl⟩;unfold codeB)
  refine (newest_any _ F G b vs last HH.out hlen s).mono ?_
  rintro e w1 ⟨⟨i,rfl,hi⟩,nn,rfl⟩
  rcases hi.whole with ⟨rfl,hv⟩|⟨m,hm,rfl,hv⟩
  ·have HV:Hid _:=hv
   clear hv hi
   go_wp2
   go_ret3
   exact ⟨⟨_,_,by rw [HV.out];rfl,by rw [HV.out];simp [BodyIs,ansE],by rw [HV.out];simp⟩,_,rfl⟩
  ·have HV:Hid _:=hv
   clear hv hi
   obtain ⟨g,rfl⟩:=HR.out.rowAt (by omega)
   have hc0:=HR.out.c0
   obtain ⟨_,h1,h2,a',cap',h3,hb⟩:=HR.out.cells m hm
   have HB:Hid _:=hb
   clear hb
   have hm0:decide ((m:Int)<0)=false:=decide_eq_false (by omega)
   cases hmk:vs[m].mark
   ·rw [hmk] at h2
    have HM:Hid _:=hmk
    clear hmk
    go_wp2
    go_quiet (fail)
    go_wp2
    go_ret3
    exact ⟨⟨.slice a' vs[m].body.length cap',vs[m].num,by rw [HV.out];simp [ansE,HM.out],by rw [HV.out];simp only [BodyIs,ansE,HM.out,cond_false];exact ⟨fun _=>⟨vs[m],a',cap',rfl,rfl,HB.out⟩,fun h=>absurd rfl h⟩,
     by rw [HV.out];intro _ u hu;cases hu;rfl⟩,_,by rw [World.drewN_drewN]⟩
   ·rw [hmk] at h2
    have HM:Hid _:=hmk
    clear hmk
    go_wp2
    go_ret3
    exact ⟨⟨_,_,by rw [HV.out];simp [ansE,HM.out];exact ⟨rfl,rfl⟩,by rw [HV.out];simp [BodyIs,ansE,HM.out],by rw [HV.out];simp [ansE,HM.out]⟩,_,rfl⟩
def listE (p k:ByteArray) (n m:Int):Int:=
 if (p≠ByteArray.empty∧keyB p.data.toList=false)∨(k≠ByteArray.empty∧keyB k.data.toList=false) then 2 else if n<0∨m<1∨50<m then 4 else 0
end Go.Proofs.YtcoengihaobddaaGreatDoor.ref
namespace Go.Proofs.YtcoengihaobddaaGreatDoor.ref
open Go.ChangeShapes Go.WideShapes Go.ChangeAt Go.RowKit disk
open keys (ret_int ret_bool beq_no beq_yes keyB ref_any codeB)
set_option linter.unusedVariables false
attribute [local go_sem ↓] Go.wp_at_zero Go.wp_at_succ
theorem Tells.one {w:World} {P:Nat→Prop} {cs:List (List Value)} {vs:List Ver} (h:Tells w P cs vs):∀u∈cs.flatten,u.oneCell'=true:=fun u hu=>by
 obtain ⟨c,hc,hu⟩:=List.mem_flatten.1 hu
 obtain ⟨i,hi,rfl⟩:=List.getElem_of_mem hc
 obtain ⟨a,cap,e,_⟩:=(h.each i hi (by rw [←h.len];exact hi)).at_
 rw [e] at hu
 simp only [List.mem_cons,List.not_mem_nil,or_false] at hu
 rcases hu with rfl|rfl|rfl|rfl<;>rfl
theorem RefIn.copied {w w2:World} {F G:Nat→Prop} {b:Nat} {vs:List Ver} {last:Int} {a:Option Addr} {cap:Nat} {cs:List (List Value)} (h:RefIn w F G b vs last a cap cs) (a1:Option Addr) (c1:Nat)
 (hown:w2.ownsRow 0 123 4 (.slice a1 vs.length c1) vs.length cs.flatten) (hgrow:(w.alloc (.cells #[.slice none 0 0,.int .i64 last] 164)).drew.grownBy w2 none)
 (hat:(Value.slice a1 vs.length c1).ownBlock=none∨(Value.slice a1 vs.length c1).ownBlock=some (w.heap.size+1)) (hb2:w2.heap[w.heap.size]? =some (.cells #[.slice none 0 0,.int .i64 last] 164)):
 RefAt (w2.setCell ⟨w.heap.size,0,none⟩ (.slice a1 vs.length c1)) (fun k=>w.heap.size≤k) G w.heap.size vs last∧Kept (fun _=>False) w (w2.setCell ⟨w.heap.size,0,none⟩ (.slice a1 vs.length c1)):=by
 have e1:∀k,(Value.slice a1 vs.length c1).ownBlock=some k→k=w.heap.size+1:=fun k hk=>by
  rcases hat with e|e<;>rw [e] at hk<;>simp at hk;omega
 have k1:Kept (fun _=>False) w w2:=((Kept.alloc _ w _).trans (Kept.drew _ _) (fun _ h=>.inl h)).trans (Kept.grown (S:=fun _=>False) hgrow (fun k hk=>by cases hk)) (fun _ h=>.inl h)
 have k2:=Kept.setCell (S:=fun k=>k=w.heap.size) w2 ⟨w.heap.size,0,none⟩ (.slice a1 vs.length c1) rfl
 have k3:Kept (fun _=>False) w (w2.setCell ⟨w.heap.size,0,none⟩ (.slice a1 vs.length c1)):=k1.trans k2 (fun k hk=>.inr (by omega))
 refine ⟨⟨a1,c1,cs,?_,?_,h.tells.kept k3 (fun _ _ hf=>hf),Nat.le_refl _,fun k hk=>?_,fun hk=>?_⟩,k3⟩
 ·rw [heap_setCell_same w2 w.heap.size 0 _ _ _ hb2];rfl
 ·exact k2.owns hown (fun k hk e=>by have:=e1 k hk;omega)
 ·show w.heap.size≤k
  have:=e1 k hk;omega
 ·have:=e1 _ hk;omega
set_option maxHeartbeats 1000000 in
theorem copy_any (w:World) (F G:Nat→Prop) (b:Nat) (vs:List Ver) (last:Int) (h:RefAt w F G b vs last) (hlen:vs.length≤2199023255552):
 Calls Tryz.prog 94 #[.pointer (some ⟨b,0,none⟩)] w fun e w'=>e=.returned (.pointer (some ⟨w.heap.size,0,none⟩))∧RefAt w' (fun k=>w.heap.size≤k) G w.heap.size vs last∧Kept (fun _=>False) w w':=by
 obtain ⟨a,cap,cs,h⟩:=h
 have hc0:=h.c0
 have hc1:=h.c1
 have hb:=h.lt
 have HH:Hid _:=h
 obtain ⟨i0,hi0,hz0,hz1,hz2⟩:=info_of Tryz.infoKept
 have HI0:Hid (Tryz.prog.info? 123=some i0∧i0.zero=some (.agg #[.string ByteArray.empty,.int .i64 0,.bool false,.slice none 0 0])∧i0.size=4∧i0.bytes=56):=⟨hi0,hz0,hz1,hz2⟩
 clear hi0 hz0 hz1 hz2 h
 have hne:w.heap.size≠b:=by omega
 have H1:Hid (RefIn (w.alloc (.cells #[.slice none 0 0,.int .i64 last] 164)).drew F G b vs last a cap cs):=
  HH.out.kept ((Kept.alloc (fun _=>False) w _).trans (Kept.drew _ _) (fun _ h=>.inl h)) (fun _ _ hf=>hf) (fun _ _ hf=>hf)
 go_enter Tryz.func94,Tryz.ntmps94
 go_wp2
 go_region_law ((refine step_copy_row rfl (.tmp 14) (.tmp 18) 162 rfl 123 i0 _ 4 56 Tryz.underlying162 HI0.out.1 HI0.out.2.1 HI0.out.2.2.1 HI0.out.2.2.2 rfl (by omega) _ vs.length cs.flatten (by rfl) (by rfl) (by exact H1.out.row) HH.out.tells.one (by unfold maxLen;omega) (by omega) ?_;intro a1 c1 w2 hown1 hgrow1 hat1;have HG1:Hid _:=hgrow1;have HO1:Hid _:=hown1;have HA1:Hid _:=hat1;have hb2:w2.heap[w.heap.size]? =some (.cells #[.slice none 0 0,.int .i64 last] 164):=(hgrow1.block w.heap.size (by simp) (by simp)).trans (heap_alloc_new w _);have hcN0:=cell_of_row w2 w.heap.size 0 _ _ _ hb2;have hfN0:=frozen_of_row w2 w.heap.size 0 _ _ hb2;have HB2:Hid _:=hb2;clear hgrow1 hown1 hat1 hb2))
 all_goals
  go_wp2
  go_ret
  exact ⟨rfl,HH.out.copied a1 c1 HO1.out HG1.out (by have:=HA1.out;simpa using this) HB2.out⟩
theorem RefIn.added {w w2 w3:World} {F G:Nat→Prop} {b:Nat} {vs:List Ver} {last:Int} {a:Option Addr} {cap:Nat} {cs:List (List Value)} (h:RefIn w F G b vs last a cap cs) (hFG:∀k,F k→¬G k) (v:Ver)
 (a1:Option Addr) (c1:Nat) (hown1:w2.ownsRow 0 5 1 (.slice a1 v.body.length c1) v.body.length (v.body.map byteV)) (hg1:w.grownBy w2 none)
 (hat1:(Value.slice a1 v.body.length c1).ownBlock=none∨(Value.slice a1 v.body.length c1).ownBlock=some w.heap.size)
 (o:Obj) (g c2:Nat) (hown2:w3.ownsRow 0 123 4 (.slice (some ⟨g,0,none⟩) (vs.length+1) c2) (vs.length+1) (cs.flatten++[.string v.key,.int .i64 v.num,.bool v.mark,.slice a1 v.body.length c1]))
 (hg2:(w2.alloc o).grownBy w3 (Value.slice a vs.length cap).ownBlock) (hat2:(Value.slice a vs.length cap).ownBlock=some g∨g=w2.heap.size+1):
 RefIn (w3.setCell ⟨b,0,none⟩ (.slice (some ⟨g,0,none⟩) (vs.length+1) c2)) (fun k=>F k∨w.heap.size≤k) (fun k=>G k∨w.heap.size≤k) b (vs++[v]) last (some ⟨g,0,none⟩) c2 (cs++[[.string v.key,.int .i64 v.num,.bool v.mark,.slice a1 v.body.length c1]])∧
  Kept F w (w3.setCell ⟨b,0,none⟩ (.slice (some ⟨g,0,none⟩) (vs.length+1) c2)):=by
 have hb:=h.lt
 have k1:Kept (fun _=>False) w w2:=Kept.grown hg1 (fun k hk=>by cases hk)
 have k2:Kept (fun _=>False) w2 (w2.alloc o):=Kept.alloc _ _ _
 have k3:Kept (fun k=>(Value.slice a vs.length cap).ownBlock=some k) (w2.alloc o) w3:=Kept.grown hg2 (fun k hk=>hk)
 have k23:Kept (fun k=>(Value.slice a vs.length cap).ownBlock=some k) w2 w3:=(k2.mono (fun _ hf=>hf.elim)).trans k3 (fun _ h=>.inl h)
 have k13:Kept (fun k=>(Value.slice a vs.length cap).ownBlock=some k) w w3:=(k1.mono (fun _ hf=>hf.elim)).trans k23 (fun _ h=>.inl h)
 have k4:=Kept.setCell (S:=fun k=>k=b) w3 ⟨b,0,none⟩ (.slice (some ⟨g,0,none⟩) (vs.length+1) c2) rfl
 have k14:Kept F w (w3.setCell ⟨b,0,none⟩ (.slice (some ⟨g,0,none⟩) (vs.length+1) c2)):=(k13.mono (fun k hk=>h.foot2 k hk)).trans k4 (fun k hk=>.inl (by rw [hk];exact h.foot))
 have hl:(vs++[v]).length=vs.length+1:=by simp
 have hgb:g≠b:=by
  have:=k1.size
  rcases hat2 with e|e
  ·exact fun e2=>h.apart (by rw [e,e2])
  ·omega
 have e1:∀k,(Value.slice a1 v.body.length c1).ownBlock=some k→k=w.heap.size:=fun k hk=>by
  rcases hat1 with e|e<;>rw [e] at hk<;>simp at hk;omega
 refine ⟨⟨?_,?_,?_,.inl h.foot,?_,?_⟩,k14⟩
 ·rw [hl]
  have e:w3.heap[b]? =_:=(k13.block b hb (fun e=>h.apart e)).trans h.head
  rw [heap_setCell_same w3 b 0 _ _ _ e];rfl
 ·rw [hl]
  have:=k4.owns hown2 (fun k hk e=>by simp [Value.ownBlock] at hk;omega)
  simpa using this
 ·refine Tells.snoc ((h.tells.kept k14 (fun k hk hf=>hFG k hf hk)).mono (fun k hk _=>.inl hk)) ⟨a1,c1,rfl,?_⟩
  have hrow:w3.ownsRow 0 5 1 (.slice a1 v.body.length c1) v.body.length (v.body.map byteV):=k23.owns hown1 (fun k hk e=>by
   have h1:=e1 k hk
   have h2:=(h.row.lt k e).2
   omega)
  have hrow2:=k4.owns hrow (fun k hk e=>by have:=e1 k hk;omega)
  exact Bytes.of_own 5 hrow2 rfl _ (fun k hk=>.inr (by rw [e1 k hk];exact Nat.le_refl _))
 ·intro k hk
  rw [hl] at hk
  simp [Value.ownBlock] at hk
  subst hk
  rcases hat2 with e|e
  ·exact .inl (h.foot2 _ e)
  ·exact .inr (by have:=k1.size;omega)
 ·rw [hl];simp [Value.ownBlock];exact hgb
theorem RefIn.told {w:World} {F G:Nat→Prop} {b:Nat} {vs:List Ver} {last:Int} {a:Option Addr} {cap:Nat} {cs:List (List Value)} (h:RefIn w F G b vs last a cap cs) (n:Int) (hFG:∀k,G k→k<w.heap.size→k≠b):
 RefIn (w.setCell ⟨b,1,none⟩ (.int .i64 n)) F G b vs n a cap cs:=by
 have k4:=Kept.setCell (S:=fun k=>k=b) w ⟨b,1,none⟩ (.int .i64 n) rfl
 refine ⟨?_,k4.owns h.row (fun k hk e=>h.apart (by rw [hk,e])),?_,h.foot,h.foot2,h.apart⟩
 ·rw [heap_setCell_same w b 1 _ _ _ h.head];rfl
 ·have h1:=h.tells.mono (Q:=fun k=>G k∧k<w.heap.size) (fun i hi hl=>⟨hi,hl⟩)
  exact (h1.kept k4 (fun i hi e=>hFG i hi.1 hi.2 e)).mono (fun i hi _=>hi.1)
set_option maxHeartbeats 1000000 in
theorem add_any (w:World) (F G P:Nat→Prop) (b:Nat) (vs:List Ver) (last:Int) (h:RefAt w F G b vs last) (hFG:∀k,F k→¬G k) (hlen:vs.length≤2199023255552) (key:ByteArray) (n:Int) (mark:Bool)
 (ab:Option Addr) (cb:Nat) (l:List UInt8) (hb:Bytes w P ab l) (hl:l.length≤140737488355328):
 Calls Tryz.prog 95 #[.pointer (some ⟨b,0,none⟩),.string key,.int .i64 n,.bool mark,.slice ab l.length cb] w fun e w'=>e=.returned (.tuple #[])∧
  RefAt w' (fun k=>F k∨w.heap.size≤k) (fun k=>G k∨w.heap.size≤k) b (vs++[⟨key,n,mark,l⟩]) (max last n)∧Kept F w w':=by
 obtain ⟨a,cap,cs,h⟩:=h
 have hlt:=h.lt
 have HH:Hid _:=h
 have HB:Hid _:=hb
 obtain ⟨i0,hi0,hz0,hz1,hz2⟩:=info_of Tryz.infoKept
 have HI0:Hid (Tryz.prog.info? 123=some i0∧i0.zero=some (.agg #[.string ByteArray.empty,.int .i64 0,.bool false,.slice none 0 0])∧i0.size=4∧i0.bytes=56):=⟨hi0,hz0,hz1,hz2⟩
 clear hi0 hz0 hz1 hz2
 obtain ⟨j0,hi0,hz0,hz1,hz2⟩:=info_of Tryz.infoU8
 have HJ0:Hid (Tryz.prog.info? 5=some j0∧j0.zero=some (.int .u8 0)∧j0.size=1∧j0.bytes=1):=⟨hi0,hz0,hz1,hz2⟩
 clear hi0 hz0 hz1 hz2 h hb
 go_enter Tryz.func95,Tryz.ntmps95
 go_wp2_with (first
  |(refine wpList_copy_bytes P rfl (.tmp 11) (.tmp 12) 35 rfl 5 j0 _ Tryz.underlying35 HJ0.out.1 HJ0.out.2.1 HJ0.out.2.2.1 HJ0.out.2.2.2 rfl ab cb l (by rfl) (by rfl) (by exact HB.out) hl ?_;intro a1 c1 w2 hown1 hgrow1 hat1;have HO1:Hid _:=hown1;have HG1:Hid _:=hgrow1;have HA1:Hid _:=hat1;have H2:Hid (RefIn w2 F G b vs last a cap cs):=HH.out.kept (Kept.grown (S:=fun _=>False) hgrow1 (fun k hk=>by cases hk)) (fun _ _ hf=>hf) (fun _ _ hf=>hf);have hc0:=H2.out.c0;have hf0:=H2.out.fz 0;have hlt2:=H2.out.lt;clear hown1 hgrow1 hat1)
  |(refine wpList_append_lies _ rfl (.tmp 18) (.tmp 24) 162 rfl 0 123 i0 _ 4 56 Tryz.underlying162 HI0.out.1 HI0.out.2.1 HI0.out.2.2.1 HI0.out.2.2.2 rfl (by omega) (.slice a vs.length cap) vs.length cs.flatten (by rfl) (by exact H2.out.row.alloc _) ⟨w2.heap.size,0,none⟩ 1 1 [.string key,.int .i64 n,.bool mark,.slice a1 l.length c1] (by rfl) (by rfl) (by exact World.news_of_block (heap_alloc_new w2 _)) (by simp [Value.oneCell']) (by omega) (by unfold maxLen;omega) (by omega) (Nat.zero_le _) (w2.heap.size+1) (by simp) ?_;intro g c2 w3 hown2 hgrow2 hat2 hlt3;have HX:Hid _:=RefIn.added HH.out hFG ⟨key,n,mark,l⟩ a1 c1 HO1.out HG1.out HA1.out _ g c2 hown2 hgrow2 hat2;have hcc0:w3.cell? ⟨b,0,none⟩=some (.slice a vs.length cap):=(hgrow2.cell_far ⟨b,0,none⟩ (by simp;omega) (fun e=>H2.out.apart e.symm)).trans (by simpa using H2.out.kept (Kept.alloc (fun _=>False) w2 _) (fun _ _ hf=>hf) (fun _ _ hf=>hf) |>.c0);have hff0:w3.frozen? ⟨b,0,none⟩=false:=(hgrow2.frozen_far ⟨b,0,none⟩ (by simp;omega) (fun e=>H2.out.apart e.symm)).trans (by simpa using H2.out.kept (Kept.alloc (fun _=>False) w2 _) (fun _ _ hf=>hf) (fun _ _ hf=>hf) |>.fz 0);have hcc1:=HX.out.1.c1;have hff1:=HX.out.1.fz 1;clear hown2 hgrow2 hat2))
 ·go_end0
  have hb:F b:=HH.out.foot
  have ht:=HX.out.1.told n (fun k hk _ e=>by
   subst e
   rcases hk with hk|hk
   ·exact hFG _ hb hk
   ·omega)
  exact ⟨rfl,⟨_,_,_,by rw [show max last n=n from by omega];exact ht⟩,HX.out.2.trans (Kept.setCell (S:=fun k=>k=b) _ ⟨b,1,none⟩ _ rfl) (fun k hk=>.inl (by rw [hk];exact hb))⟩
 ·go_end0
  exact ⟨rfl,⟨_,_,_,by rw [show max last n=last from by omega];exact HX.out.1⟩,HX.out.2⟩
theorem without_snoc (vs:List Ver) (k:Nat) (h:k<vs.length) (key:ByteArray) (n:Int):
 without (vs.take (k+1)) key n=if vs[k].key=key∧vs[k].num=n then without (vs.take k) key n else without (vs.take k) key n++[vs[k]]:=by
 unfold without
 rw [List.take_succ_eq_append_getElem h,List.filter_append]
 by_cases hk:vs[k].key=key∧vs[k].num=n
 ·rw [if_pos hk];simp [hk.1,hk.2]
 ·rw [if_neg hk]
  have:(!(decide (vs[k].key=key)&&decide (vs[k].num=n)))=true:=by
   rw [Bool.not_eq_true',Bool.eq_false_iff];simp only [ne_eq,Bool.and_eq_true,decide_eq_true_eq];exact hk
  rw [List.filter_cons,if_pos this];rfl
theorem without_len (vs:List Ver) (k:Nat) (key:ByteArray) (n:Int):(without (vs.take k) key n).length≤vs.length:=by
 unfold without
 exact Nat.le_trans (List.length_filter_le _ _) (by rw [List.length_take];omega)
structure RmInv (w wr:World) (F G:Nat→Prop) (b:Nat) (vs:List Ver) (last:Int) (a:Option Addr) (cap:Nat) (cs:List (List Value)) (us:List Ver) (x:Value):Prop where
 ref:RefIn wr F G b vs last a cap cs
 kept:Kept (fun _=>False) w wr
 row:∃a' cap' ds,x=.slice a' us.length cap'∧wr.ownsRow 0 123 4 (.slice a' us.length cap') us.length ds.flatten∧Tells wr G ds us∧∀k,(Value.slice a' us.length cap').ownBlock=some k→w.heap.size≤k
theorem RmInv.pushed {w wr w3:World} {F G:Nat→Prop} {b:Nat} {vs:List Ver} {last:Int} {a:Option Addr} {cap:Nat} {cs:List (List Value)} {us:List Ver} {a':Option Addr} {cap':Nat} {ds:List (List Value)}
 (href:RefIn wr F G b vs last a cap cs) (hkept:Kept (fun _=>False) w wr) (htells:Tells wr G ds us) (hnew:∀k,(Value.slice a' us.length cap').ownBlock=some k→w.heap.size≤k)
 (hG:∀k,G k→k<w.heap.size) (hF:∀k,F k→k<w.heap.size) (v:Ver) (a3:Option Addr) (cap3:Nat) (hb3:Bytes wr G a3 v.body) (o:Obj) (g c2:Nat)
 (hown:w3.ownsRow 0 123 4 (.slice (some ⟨g,0,none⟩) (us.length+1) c2) (us.length+1) (ds.flatten++[.string v.key,.int .i64 v.num,.bool v.mark,.slice a3 v.body.length cap3]))
 (hgrow:(wr.alloc o).grownBy w3 (Value.slice a' us.length cap').ownBlock) (hat:(Value.slice a' us.length cap').ownBlock=some g∨g=wr.heap.size+1):
 RmInv w w3 F G b vs last a cap cs (us++[v]) (.slice (some ⟨g,0,none⟩) (us.length+1) c2):=by
 have k2:Kept (fun k=>w.heap.size≤k) wr w3:=((Kept.alloc _ wr o).trans (Kept.grown (S:=fun k=>w.heap.size≤k) hgrow (fun k hk=>hnew k hk)) (fun _ h=>.inl h))
 have hl:(us++[v]).length=us.length+1:=by simp
 refine ⟨href.kept k2 (fun k hk hc=>by have:=hF k hk;omega) (fun k hk hc=>by have:=hG k hk;omega),hkept.trans k2 (fun k hk=>.inr hk),some ⟨g,0,none⟩,c2,ds++[[.string v.key,.int .i64 v.num,.bool v.mark,.slice a3 v.body.length cap3]],by rw [hl],?_,?_,?_⟩
 ·rw [hl];simpa using hown
 ·exact (htells.kept k2 (fun k hk hc=>by have:=hG k hk;omega)).snoc ⟨a3,cap3,rfl,hb3.kept k2 (fun k hk hc=>by have:=hG k hk;omega)⟩
 ·intro k hk
  rw [hl] at hk
  simp [Value.ownBlock] at hk
  subst hk
  rcases hat with e|e
  ·exact hnew _ e
  ·have:=hkept.size;omega
theorem RmInv.done {w wr:World} {F G:Nat→Prop} {b:Nat} {vs us:List Ver} {last:Int} {a:Option Addr} {cap:Nat} {cs ds:List (List Value)} {a':Option Addr} {cap':Nat}
 (href:RefIn wr F G b vs last a cap cs) (hkept:Kept (fun _=>False) w wr) (hrow:wr.ownsRow 0 123 4 (.slice a' us.length cap') us.length ds.flatten) (htells:Tells wr G ds us)
 (hnew:∀k,(Value.slice a' us.length cap').ownBlock=some k→w.heap.size≤k) (hFG:∀k,F k→¬G k) (hF:∀k,F k→k<w.heap.size):
 RefAt (wr.setCell ⟨b,0,none⟩ (.slice a' us.length cap')) (fun k=>F k∨w.heap.size≤k) G b us last∧Kept F w (wr.setCell ⟨b,0,none⟩ (.slice a' us.length cap')):=by
 have k4:=Kept.setCell (S:=fun k=>k=b) wr ⟨b,0,none⟩ (.slice a' us.length cap') rfl
 have hbF:=href.foot
 have hb:=hF b hbF
 refine ⟨⟨a',cap',ds,?_,k4.owns hrow (fun k hk e=>by have:=hnew k hk;omega),htells.kept k4 (fun k hk e=>hFG b hbF (by rw [←e];exact hk)),.inl hbF,fun k hk=>.inr (hnew k hk),fun hk=>by have:=hnew _ hk;omega⟩,?_⟩
 ·rw [heap_setCell_same wr b 0 _ _ _ href.head];rfl
 ·exact (hkept.mono (fun _ hf=>hf.elim)).trans k4 (fun k hk=>.inl (by rw [hk];exact hbF))
set_option maxHeartbeats 1000000 in
theorem remove_any (w:World) (F G:Nat→Prop) (b:Nat) (vs:List Ver) (last:Int) (h:RefAt w F G b vs last) (hFG:∀k,F k→¬G k) (hF:∀k,F k→k<w.heap.size) (hG:∀k,G k→k<w.heap.size) (hlen:vs.length≤2199023255552) (key:ByteArray) (n:Int):
 Calls Tryz.prog 102 #[.pointer (some ⟨b,0,none⟩),.string key,.int .i64 n] w fun e w'=>e=.returned (.tuple #[])∧
  RefAt w' (fun k=>F k∨w.heap.size≤k) G b (without vs key n) last∧Kept F w w':=by
 obtain ⟨a,cap,cs,h⟩:=h
 have hlt:=h.lt
 have HH:Hid _:=h
 obtain ⟨i0,hi0,hz0,hz1,hz2⟩:=info_of Tryz.infoKept
 have HI0:Hid (Tryz.prog.info? 123=some i0∧i0.zero=some (.agg #[.string ByteArray.empty,.int .i64 0,.bool false,.slice none 0 0])∧i0.size=4∧i0.bytes=56):=⟨hi0,hz0,hz1,hz2⟩
 clear hi0 hz0 hz1 hz2
 clear h
 go_enter Tryz.func102,Tryz.ntmps102
 go_wp2
 go_loopw [6,7] (fun x i wr=>∃k:Nat,k≤vs.length∧i=.int .i64 k∧RmInv w wr F G b vs last a cap cs (without (vs.take k) key n) x) (fun _ i _=>vs.length-(intOf i).toNat)
 case atStart=>exact ⟨0,Nat.zero_le _,rfl,HH.out,Kept.refl _ _,none,0,[],rfl,World.ownsRow_nil w 0 123 4,Tells.nil _ _,fun k hk=>by cases hk⟩
 case round=>
  obtain ⟨k,hk,rfl,hinv⟩:=hrel
  obtain ⟨href,hkept,a',cap',ds,rfl,hrow,htells,hnew⟩:=hinv
  have HR:Hid _:=href
  have HK:Hid _:=hkept
  have HW:Hid _:=hrow
  have HT:Hid _:=htells
  have HN:Hid _:=hnew
  have hc0:=href.c0
  have hlr:=href.lt
  have hf0:=href.fz 0
  clear href hkept hrow htells hnew
  by_cases hlt2:k<vs.length
  ·have HS:Hid _:=without_snoc vs k hlt2 key n
   have hwl:=without_len vs k key n
   generalize hus:without (vs.take k) key n=us at*
   have HU:Hid _:=hus
   clear hus
   obtain ⟨g,rfl⟩:=HR.out.rowAt (by omega)
   obtain ⟨h0,h1,h2,a3,cap3,h3,hb3⟩:=HR.out.cells k hlt2
   have HB3:Hid _:=hb3
   clear hb3
   by_cases hkey:vs[k].key.toList=key.toList
   ·by_cases hnum:vs[k].num=n
    ·have hn2:(vs[k].num !=n)=false:=by simpa using hnum
     have HE:Hid _:=hnum
     clear hnum
     have hk2:(vs[k].key.toList !=key.toList)=false:=by simpa using hkey
     have HKE:Hid _:=key_inj.1 hkey
     go_wp2
     go_roundw
     case rel=>exact ⟨k+1,by omega,by go_num,by rw [HS.out,if_pos ⟨HKE.out,HE.out⟩];exact ⟨HR.out,HK.out,a',cap',ds,rfl,HW.out,HT.out,HN.out⟩⟩
     case measure=>simp [intOf];omega
    ·have hn2:(vs[k].num !=n)=true:=by simpa using hnum
     have HE:Hid _:=hnum
     clear hnum
     have hk2:(vs[k].key.toList !=key.toList)=false:=by simpa using hkey
     go_wp2_with (refine wpList_append_lies _ rfl (.tmp 39) (.tmp 47) 162 rfl 0 123 i0 _ 4 56 Tryz.underlying162 HI0.out.1 HI0.out.2.1 HI0.out.2.2.1 HI0.out.2.2.2 rfl (by omega) (.slice a' us.length cap') us.length ds.flatten (by rfl) (by exact World.ownsRow.alloc HW.out _) ⟨wr.heap.size,0,none⟩ 1 1 [.string vs[k].key,.int .i64 vs[k].num,.bool vs[k].mark,.slice a3 vs[k].body.length cap3] (by rfl) (by rfl) (by exact World.news_of_block (heap_alloc_new wr _)) (by simp [Value.oneCell']) (by omega) (by unfold maxLen;omega) (by omega) (Nat.zero_le _) (wr.heap.size+1) (by simp) ?_;intro g2 c2 w3 hown2 hgrow2 hat2 hlt3;have HX:Hid _:=RmInv.pushed HR.out HK.out HT.out HN.out hG hF vs[k] a3 cap3 HB3.out _ g2 c2 hown2 hgrow2 hat2;clear hown2 hgrow2 hat2)
     go_roundw
     case rel=>exact ⟨k+1,by omega,by go_num,by rw [HS.out,if_neg (fun h=>HE.out h.2)];exact HX.out⟩
     case measure=>simp [intOf];omega
   ·have hd:(vs[k].key.toList !=key.toList)=true:=by simpa using hkey
    go_wp2_with (refine wpList_append_lies _ rfl (.tmp 39) (.tmp 47) 162 rfl 0 123 i0 _ 4 56 Tryz.underlying162 HI0.out.1 HI0.out.2.1 HI0.out.2.2.1 HI0.out.2.2.2 rfl (by omega) (.slice a' us.length cap') us.length ds.flatten (by rfl) (by exact World.ownsRow.alloc HW.out _) ⟨wr.heap.size,0,none⟩ 1 1 [.string vs[k].key,.int .i64 vs[k].num,.bool vs[k].mark,.slice a3 vs[k].body.length cap3] (by rfl) (by rfl) (by exact World.news_of_block (heap_alloc_new wr _)) (by simp [Value.oneCell']) (by omega) (by unfold maxLen;omega) (by omega) (Nat.zero_le _) (wr.heap.size+1) (by simp) ?_;intro g2 c2 w3 hown2 hgrow2 hat2 hlt3;have HX:Hid _:=RmInv.pushed HR.out HK.out HT.out HN.out hG hF vs[k] a3 cap3 HB3.out _ g2 c2 hown2 hgrow2 hat2;clear hown2 hgrow2 hat2)
    go_roundw
    case rel=>exact ⟨k+1,by omega,by go_num,by rw [HS.out,if_neg (fun h=>hkey (key_inj.2 h.1))];exact HX.out⟩
    case measure=>simp [intOf];omega
  ·have e:vs.take k=vs:=List.take_of_length_le (by omega)
   have HE:Hid _:=e
   clear e
   generalize hus:without (vs.take k) key n=us at*
   have HU:Hid _:=hus
   clear hus
   go_wp2
   go_end0
   have e2:without vs key n=us:=by rw [←HU.out,HE.out]
   rw [e2]
   exact ⟨rfl,RmInv.done HR.out HK.out HW.out HT.out HN.out hFG hF⟩
end Go.Proofs.YtcoengihaobddaaGreatDoor.ref
namespace Go.Proofs.YtcoengihaobddaaGreatDoor.book
open Go.ChangeShapes Go.WideShapes Go.ChangeAt Go.RowKit disk ref
open keys (ret_int ret_bool beq_no beq_yes)
set_option linter.unusedVariables false
def digB (i d:Nat):Int:=((i/251^d%251:Nat):Int)
set_option maxHeartbeats 400000 in
theorem digit_any (w:World) (i d:Nat) (hi:i≤9223372036854775807) (hd:d≤2):
 Calls Tryz.prog 112 #[.int .i64 i,.int .i64 d] w fun e w'=>e=.returned (.int .u8 (digB i d))∧w'=w:=by
 go_enter Tryz.func112,Tryz.ntmps112
 go_wp2
 go_loop [0,5] (fun x t=>∃k:Nat,k≤d∧t=.int .i64 k∧x=.int .i64 ((i/251^k:Nat):Int)) (fun _ t=>d-(intOf t).toNat)
 case atStart=>exact ⟨0,Nat.zero_le _,rfl,by simp⟩
 case round=>
  obtain ⟨k,hk,rfl,rfl⟩:=hrel
  have h1:i/251^k≤9223372036854775807:=Nat.le_trans (Nat.div_le_self _ _) hi
  by_cases hlt:k<d
  ·have hs:i/251^(k+1)=i/251^k/251:=by rw [Nat.pow_succ,Nat.div_div_eq_div_mul]
   generalize i/251^k=q at*
   have HS:Hid _:=hs
   clear hs
   go_wp2
   go_round
   case rel=>exact ⟨k+1,by omega,by go_num,by rw [HS.out];go_num⟩
   case measure=>simp [intOf];omega
  ·have e:k=d:=by omega
   have hdg:digB i d=((i/251^k%251:Nat):Int):=by rw [e];rfl
   have HD:Hid _:=hdg
   clear hdg e
   generalize i/251^k=q at*
   go_wp2
   go_ret
   exact ⟨ret_int (by rw [HD.out];simp [go_sem];try omega),rfl⟩
theorem digit_int (w:World) (i d:Int) (hi0:0≤i) (hi:i≤9223372036854775807) (hd0:0≤d) (hd:d≤2):
 Calls Tryz.prog 112 #[.int .i64 i,.int .i64 d] w fun e w'=>e=.returned (.int .u8 (digB i.toNat d.toNat))∧w'=w:=by
 obtain ⟨n,rfl⟩:=Int.eq_ofNat_of_zero_le hi0
 obtain ⟨m,rfl⟩:=Int.eq_ofNat_of_zero_le hd0
 exact digit_any w n m (by omega) (by omega)
def Room (w:World) (P:Nat→Prop) (t:TypeId) (a:Option Addr) (n:Nat):Prop:=
 n=0∨∃b cur,a=some ⟨b,0,none⟩∧P b∧w.heap[b]? =some (.cells cur t (0,0))∧n≤cur.size
def AllZ (w:World) (a:Option Addr) (n:Nat) (z:Value):Prop:=∀j,j<n→∀b,a=some ⟨b,0,none⟩→w.cell? ⟨b,j,none⟩=some z
theorem Room.kept {w w':World} {P T:Nat→Prop} {t:TypeId} {a:Option Addr} {n:Nat} (h:Room w P t a n) (k:Kept T w w') (hn:∀i,P i→¬T i):Room w' P t a n:=by
 rcases h with h|⟨b,cur,h1,h2,h3,h4⟩
 ·exact .inl h
 ·exact .inr ⟨b,cur,h1,h2,(k.block b (Array.getElem?_eq_some_iff.1 h3).1 (hn b h2)).trans h3,h4⟩
theorem Room.set {w:World} {P:Nat→Prop} {t:TypeId} {a:Option Addr} {n:Nat} (h:Room w P t a n) (g j:Nat) (v:Value):Room (w.setCell ⟨g,j,none⟩ v) P t a n:=by
 rcases h with h|⟨b,cur,h1,h2,h3,h4⟩
 ·exact .inl h
 ·by_cases e:b=g
  ·subst e
   exact .inr ⟨b,_,h1,h2,heap_setCell_same w b j _ _ _ h3,by simpa using h4⟩
  ·exact .inr ⟨b,cur,h1,h2,(heap_setCell_other w ⟨g,j,none⟩ b v e).trans h3,h4⟩
theorem AllZ.kept {w w':World} {P T:Nat→Prop} {t:TypeId} {a:Option Addr} {n:Nat} {z:Value} (h:AllZ w a n z) (hr:Room w P t a n) (k:Kept T w w') (hn:∀i,P i→¬T i):AllZ w' a n z:=by
 intro j hj b hb
 rcases hr with hr|⟨b',cur,h1,h2,h3,h4⟩
 ·omega
 ·rw [h1] at hb;cases hb
  exact (k.cell (a:=⟨b,j,none⟩) (Array.getElem?_eq_some_iff.1 h3).1 (hn b h2)).trans (h j hj b h1)
theorem cell_setCell {w:World} {b g j k:Nat} {v u:Value} (h:w.cell? ⟨b,k,none⟩=some u):(w.setCell ⟨g,j,none⟩ v).cell? ⟨b,k,none⟩=some (if b=g∧k=j then v else u):=by
 by_cases e:b=g∧k=j
 ·obtain ⟨rfl,rfl⟩:=e
  rw [if_pos ⟨rfl,rfl⟩,World.cell?_setCell_same w _ _ h]
 ·rw [if_neg e,World.cell?_setCell_other w _ _ _ (by intro h2;simp at h2;exact e ⟨h2.1.symm,h2.2.symm⟩)];exact h
theorem AllZ.set {w:World} {a:Option Addr} {n:Nat} {z:Value} (h:AllZ w a n z) (g j:Nat):AllZ (w.setCell ⟨g,j,none⟩ z) a n z:=by
 intro i hi b hb
 rw [cell_setCell (h i hi b hb)];simp
def sliceV (s:Option Addr×Nat×Nat):Value:=.slice s.1 s.2.1 s.2.2
structure Lets (w:World) (P:Nat→Prop) (g:Nat) (ss:List (Option Addr×Nat×Nat)):Prop where
 head:w.heap[g]? =some (.cells (ss.map sliceV).toArray 35 (0,0))
 room:∀s∈ss,Room w P 5 s.1 s.2.1
 gP:¬P g
 few:∀s∈ss,s.2.1≤9223372036854775807
 len:ss.length≤100
theorem Lets.kept {w w':World} {P T:Nat→Prop} {g:Nat} {ss:List (Option Addr×Nat×Nat)} (h:Lets w P g ss) (k:Kept T w w') (hn:∀i,P i→¬T i) (hg:¬T g):Lets w' P g ss:=
 ⟨(k.block g (Array.getElem?_eq_some_iff.1 h.head).1 hg).trans h.head,fun s hs=>(h.room s hs).kept k hn,h.gP,h.few,h.len⟩
theorem Lets.set {w:World} {P:Nat→Prop} {g:Nat} {ss:List (Option Addr×Nat×Nat)} (h:Lets w P g ss) (b j:Nat) (v:Value) (hb:P b):Lets (w.setCell ⟨b,j,none⟩ v) P g ss:=
 ⟨(heap_setCell_other w ⟨b,j,none⟩ g v (fun e=>h.gP (by rw [e];exact hb))).trans h.head,fun s hs=>(h.room s hs).set b j v,h.gP,h.few,h.len⟩
theorem Lets.cell {w:World} {P:Nat→Prop} {g:Nat} {ss:List (Option Addr×Nat×Nat)} (h:Lets w P g ss) (i:Nat) (hi:i<ss.length):w.cell? ⟨g,i,none⟩=some (.slice ss[i].1 ss[i].2.1 ss[i].2.2):=by
 rw [cell_of_row w g i _ _ _ h.head];simp [hi,sliceV]
def Lets.Are (w:World) (ss:List (Option Addr×Nat×Nat)) (z:Value):Prop:=∀s∈ss,AllZ w s.1 s.2.1 z
theorem Lets.Are.kept {w w':World} {P T:Nat→Prop} {g:Nat} {ss:List (Option Addr×Nat×Nat)} {z:Value} (h:Lets.Are w ss z) (hl:Lets w P g ss) (k:Kept T w w') (hn:∀i,P i→¬T i):Lets.Are w' ss z:=
 fun s hs=>(h s hs).kept (hl.room s hs) k hn
set_option maxHeartbeats 1000000 in
theorem write_any (w:World) (P:Nat→Prop) (g cap:Nat) (ss:List (Option Addr×Nat×Nat)) (h:Lets w P g ss) (z:Int) (hz0:0≤z) (hz1:z≤255):
 Calls Tryz.prog 113 #[.slice (some ⟨g,0,none⟩) ss.length cap,.int .u8 z] w fun e w'=>e=.returned (.tuple #[])∧Lets w' P g ss∧Lets.Are w' ss (.int .u8 z)∧Kept P w w':=by
 have HH:Hid _:=h
 have hlen:=h.len
 clear h
 go_enter Tryz.func113,Tryz.ntmps113
 go_wp2
 go_loopw [4] (fun t wr=>∃k:Nat,k≤ss.length∧t=.int .i64 k∧Lets wr P g ss∧(∀i (hi:i<ss.length),i<k→AllZ wr ss[i].1 ss[i].2.1 (.int .u8 z))∧Kept P w wr) (fun t _=>ss.length-(intOf t).toNat)
 case atStart=>exact ⟨0,Nat.zero_le _,rfl,HH.out,fun _ _ h=>by omega,Kept.refl _ _⟩
 case round=>
  obtain ⟨k,hk,rfl,hl,ha,hkept⟩:=hrel
  have HL:Hid _:=hl
  have HA:Hid _:=ha
  have HK:Hid _:=hkept
  clear hl ha hkept
  by_cases hlt:k<ss.length
  ·go_wp2
   go_loopw [5] (fun t wq=>∃m:Nat,m≤ss[k].2.1∧t=.int .i64 m∧Lets wq P g ss∧(∀i (hi:i<ss.length),i<k→AllZ wq ss[i].1 ss[i].2.1 (.int .u8 z))∧AllZ wq ss[k].1 m (.int .u8 z)∧Kept P w wq) (fun t _=>ss[k].2.1-(intOf t).toNat)
   case atStart=>exact ⟨0,Nat.zero_le _,rfl,HL.out,HA.out,fun j hj=>by omega,HK.out⟩
   case round=>
    obtain ⟨m,hm,rfl,hl2,ha2,hz2,hkept2⟩:=hrel
    have hc:=hl2.cell k hlt
    have hfew:=hl2.few ss[k] (List.getElem_mem hlt)
    have HL2:Hid _:=hl2
    have HA2:Hid _:=ha2
    have HZ2:Hid _:=hz2
    have HK2:Hid _:=hkept2
    clear hl2 ha2 hz2 hkept2
    by_cases hlt2:m<ss[k].2.1
    ·have hroom:=HL2.out.room ss[k] (List.getElem_mem hlt)
     rcases hroom with h0|⟨b,cur,h1,h2,h3,h4⟩
     ·omega
     ·have hcb:wr.cell? ⟨b,m,none⟩=some cur[m]:=by rw [cell_of_row wr b m _ _ _ h3];simp
      have hfb:=frozen_of_row wr b m _ _ h3
      rw [h1] at hc
      have H1:Hid _:=h1
      have HP:Hid _:=h2
      have hm2:m<cur.size:=by omega
      clear h1 h2 h3
      generalize cur[m]=cm at*
      go_wp2
      go_roundw
      case rel=>
       refine ⟨m+1,by omega,by go_num,HL2.out.set b m _ HP.out,fun i hi hik=>(HA2.out i hi hik).set b m,?_,HK2.out.trans (Kept.setCell (S:=P) _ ⟨b,m,none⟩ _ HP.out) (fun _ h=>.inl h)⟩
       intro j hj b' hb'
       have e:b'=b:=by have:=H1.out;rw [this] at hb';cases hb';rfl
       subst e
       by_cases e2:j=m
       ·subst e2;rw [cell_setCell hcb];simp
       ·rw [cell_setCell (HZ2.out j (by omega) b' hb')];simp
      case measure=>simp [intOf];omega
    ·go_wp2
     go_roundw
     case rel=>
      refine ⟨k+1,by omega,by go_num,HL2.out,fun i hi hik=>?_,HK2.out⟩
      by_cases e:i=k
      ·subst e;have e2:m=ss[i].2.1:=by omega
       rw [←e2];exact HZ2.out
      ·exact HA2.out i hi (by omega)
     case measure=>simp [intOf];omega
  ·go_wp2
   go_end0
   refine ⟨rfl,HL.out,fun s hs=>?_,HK.out⟩
   obtain ⟨i,hi,rfl⟩:=List.getElem_of_mem hs
   exact HA.out i hi (by omega)
set_option maxHeartbeats 1000000 in
theorem reads_any (w:World) (P:Nat→Prop) (g cap:Nat) (ss:List (Option Addr×Nat×Nat)) (h:Lets w P g ss) (z:Int) (hz:Lets.Are w ss (.int .u8 z)):
 Calls Tryz.prog 111 #[.slice (some ⟨g,0,none⟩) ss.length cap,.int .u8 z] w fun e w'=>e=.returned (.bool true)∧w'=w:=by
 have HH:Hid _:=h
 have HZ:Hid _:=hz
 have hlen:=h.len
 clear h hz
 go_enter Tryz.func111,Tryz.ntmps111
 go_wp2
 go_loop [5] (fun t=>∃k:Nat,k≤ss.length∧t=.int .i64 k) (fun t=>ss.length-(intOf t).toNat)
 case atStart=>exact ⟨0,Nat.zero_le _,rfl⟩
 case round=>
  obtain ⟨k,hk,rfl⟩:=hrel
  by_cases hlt:k<ss.length
  ·have hc:=HH.out.cell k hlt
   have hfew:=HH.out.few ss[k] (List.getElem_mem hlt)
   go_wp2
   go_loop [6] (fun t=>∃m:Nat,m≤ss[k].2.1∧t=.int .i64 m) (fun t=>ss[k].2.1-(intOf t).toNat)
   case atStart=>exact ⟨0,Nat.zero_le _,rfl⟩
   case round=>
    obtain ⟨m,hm,rfl⟩:=hrel
    by_cases hlt2:m<ss[k].2.1
    ·have hroom:=HH.out.room ss[k] (List.getElem_mem hlt)
     rcases hroom with h0|⟨b,cur,h1,h2,h3,h4⟩
     ·omega
     ·have hcb:=HZ.out ss[k] (List.getElem_mem hlt) m hlt2 b h1
      rw [h1] at hc
      clear h1 h2 h3
      go_wp2
      go_round
      case rel=>exact ⟨m+1,by omega,by go_num⟩
      case measure=>simp [intOf];omega
    ·go_wp2
     go_round
     case rel=>exact ⟨k+1,by omega,by go_num⟩
     case measure=>simp [intOf];omega
  ·go_wp2
   go_ret
   exact ⟨rfl,rfl⟩
end Go.Proofs.YtcoengihaobddaaGreatDoor.book
