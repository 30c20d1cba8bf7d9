/- Part 6 of 34 of a proof: Law2, Api, Ord1, One, Law3, Law4, Law4b -/
import Derived.Test.YtcoengihaobddaaGreatDoorJk05
set_option maxHeartbeats 8000000
set_option linter.unusedVariables false
set_option linter.unusedSimpArgs false
set_option maxRecDepth 8000
namespace Go.Proofs.YtcoengihaobddaaGreatDoor
namespace law
open Go.ChangeShapes Go.WideShapes Go.ChangeAt Go.RowKit disk ref book
open keys (ze zd zr zn)
theorem bi(w:World)(bo:Nat)(h:qG)(o:zC w bo h)(bd:Nat)(hd:h.d=.pointer (some ⟨bd,0,none⟩))(S:Nat→Prop)(D:Dk)(hD:zh w bd S D)(ib:Nat)(hi:h.is=.pointer (some ⟨ib,0,none⟩))(F G:Nat→Prop)(vs:List qa)(last:Int)(hr:qy w F G ib vs last)(hlen:vs.length≤4398046511104)(hb:∀v∈vs,v.body.length≤1000)
 (c want weight:Int) (hw0:0≤weight) (hw1:weight≤1125899906842624) (next:Value) (kk:ByteArray) (kn:Int) (km:Bool) (ka:Option Addr) (kl kc:Nat) (hs:h.shut=true) (hwant:want=0∨want=5):
 Calls Tryz.prog 97 #[.pointer (some ⟨bo,0,none⟩),.int .i64 c,.int .i64 want,.int .i64 weight,next,.agg #[.string kk,.int .i64 kn,.bool km,.slice ka kl kc]] w fun e w'=>e=.returned (.bool (c==8))∧Kept (fun _=>False) w w':=by
 have hlt:=o.lt
 have HO:Hid _:=o
 have HR:Hid (qy w F G ib vs last):=hr
 have HD:Hid (zh w bd S D):=hD
 have HB:Hid _:=hb
 have hkA:∀n,Kept (fun _=>False) w ((w.alloc (.cells #[.string kk,.int .i64 kn,.bool km,.slice ka kl kc] 123)).drewN n):=fun n=>(Kept.alloc _ _ _).trans kD iL
 have HKA:Hid _:=hkA
 have ho1:zC (w.alloc (.cells #[.string kk,.int .i64 kn,.bool km,.slice ka kl kc] 123)) bo h:=o.kept (Kept.alloc (fun _=>False) _ _) (fun hf=>hf)
 have hc2:=ho1.c2
 rw [hi] at hc2
 have hc10:=ho1.c10
 have hc8:=ho1.c8
 have hd':h.d=.pointer (some ⟨bd,0,none⟩):=hd
 have HDD:Hid _:=hd'
 clear hkA o hr hD hb ho1 hd hd' hi
 rw [hs] at hc10
 clear hs
 rcases hwant with rfl|rfl
 all_goals
  go_enter Tryz.func97,Tryz.ntmps97
  go_wp2_with fail
  go_quiet ((first
   |(go_at_call 149;exact Calls.quiet_of_same (yL _ bo h (by exact HO.out.kept (HKA.out _) (fun hf=>hf)) bd HDD.out S D (by exact HD.out.kept (HKA.out _) nF)))
   |(go_at_call 151;exact Calls.quiet_of_same (xz _ F G ib vs last (by exact HR.out.kept (HKA.out _) nF nF) hlen HB.out _ hw0 hw1 _))))
  go_wp2
  go_ret
  exact⟨rfl,HKA.out _⟩
theorem bj(w:World)(bo:Nat)(h:qG)(o:zC w bo h)(bd:Nat)(hd:h.d=.pointer (some ⟨bd,0,none⟩))(S:Nat→Prop)(D:Dk)(hD:zh w bd S D)(ib:Nat)(hi:h.is=.pointer (some ⟨ib,0,none⟩))(F G:Nat→Prop)(vs:List qa)(last:Int)(hr:qy w F G ib vs last)(hlen:vs.length≤4398046511104)(hb:∀v∈vs,v.body.length≤1000)
 (c want weight:Int) (hw0:0≤weight) (hw1:weight≤1125899906842624) (next:Value) (kk:ByteArray) (kn:Int) (km:Bool) (ka:Option Addr) (kl kc:Nat) (hs:h.shut=false∨want≠5) (hwant:want≠0):
 Calls Tryz.prog 97 #[.pointer (some ⟨bo,0,none⟩),.int .i64 c,.int .i64 want,.int .i64 weight,next,.agg #[.string kk,.int .i64 kn,.bool km,.slice ka kl kc]] w fun e w'=>e=.returned (.bool (c==want))∧Kept (fun _=>False) w w':=by
 have hlt:=o.lt
 have HO:Hid _:=o
 have HR:Hid (qy w F G ib vs last):=hr
 have HD:Hid (zh w bd S D):=hD
 have HB:Hid _:=hb
 have hkA:∀n,Kept (fun _=>False) w ((w.alloc (.cells #[.string kk,.int .i64 kn,.bool km,.slice ka kl kc] 123)).drewN n):=fun n=>(Kept.alloc _ _ _).trans kD iL
 have HKA:Hid _:=hkA
 have ho1:zC (w.alloc (.cells #[.string kk,.int .i64 kn,.bool km,.slice ka kl kc] 123)) bo h:=o.kept (Kept.alloc (fun _=>False) _ _) (fun hf=>hf)
 have hc2:=ho1.c2
 rw [hi] at hc2
 have hc10:=ho1.c10
 have hc8:=ho1.c8
 have hd':h.d=.pointer (some ⟨bd,0,none⟩):=hd
 have HDD:Hid _:=hd'
 clear hkA o hr hD hb ho1 hd hd' hi
 have e0:(want==0)=false:=by simpa using hwant
 have e1:(want !=0)=true:=by simpa using hwant
 clear hwant
 rcases hs with hs|hs
 ·rw [hs] at hc10
  clear hs
  go_enter Tryz.func97,Tryz.ntmps97
  go_wp2_with fail
  go_quiet ((first
   |(go_at_call 149;exact Calls.quiet_of_same (yL _ bo h (by exact HO.out.kept (HKA.out _) (fun hf=>hf)) bd HDD.out S D (by exact HD.out.kept (HKA.out _) nF)))
   |(go_at_call 151;exact Calls.quiet_of_same (xz _ F G ib vs last (by exact HR.out.kept (HKA.out _) nF nF) hlen HB.out _ hw0 hw1 _))))
  go_wp2
  go_ret
  exact⟨rfl,HKA.out _⟩
 ·have e5:(want==5)=false:=by simpa using hs
  clear hs
  cases hsh:h.shut
  all_goals
   rw [hsh] at hc10
   clear hsh
   go_enter Tryz.func97,Tryz.ntmps97
   go_wp2_with fail
   go_quiet ((first
    |(go_at_call 149;exact Calls.quiet_of_same (yL _ bo h (by exact HO.out.kept (HKA.out _) (fun hf=>hf)) bd HDD.out S D (by exact HD.out.kept (HKA.out _) nF)))
    |(go_at_call 151;exact Calls.quiet_of_same (xz _ F G ib vs last (by exact HR.out.kept (HKA.out _) nF nF) hlen HB.out _ hw0 hw1 _))))
   go_wp2
   go_ret
   exact⟨rfl,HKA.out _⟩
theorem fW(w:World)(bo:Nat)(h:qG)(o:zC w bo h)(bd:Nat)(hd:h.d=.pointer (some ⟨bd,0,none⟩))(S:Nat→Prop)(D:Dk)(hD:zh w bd S D)(ib:Nat)(hi:h.is=.pointer (some ⟨ib,0,none⟩))(F G:Nat→Prop)(vs:List qa)(last:Int)(hr:qy w F G ib vs last)(hlen:vs.length≤4398046511104)(hb:∀v∈vs,v.body.length≤1000)
 (c want weight:Int) (hw0:0≤weight) (hw1:weight≤1125899906842624) (next:Value) (kk:ByteArray) (kn:Int) (km:Bool) (ka:Option Addr) (kl kc:Nat) (hs:h.shut=false) (hwant:want=0) (hc:c=6):
 Calls Tryz.prog 97 #[.pointer (some ⟨bo,0,none⟩),.int .i64 c,.int .i64 want,.int .i64 weight,next,.agg #[.string kk,.int .i64 kn,.bool km,.slice ka kl kc]] w fun e w'=>e=.returned (.bool (!xT vs weight.toNat D.bs.length))∧Kept (fun _=>False) w w':=by
 have hlt:=o.lt
 have HO:Hid _:=o
 have HR:Hid (qy w F G ib vs last):=hr
 have HD:Hid (zh w bd S D):=hD
 have HB:Hid _:=hb
 have hkA:∀n,Kept (fun _=>False) w ((w.alloc (.cells #[.string kk,.int .i64 kn,.bool km,.slice ka kl kc] 123)).drewN n):=fun n=>(Kept.alloc _ _ _).trans kD iL
 have HKA:Hid _:=hkA
 have ho1:zC (w.alloc (.cells #[.string kk,.int .i64 kn,.bool km,.slice ka kl kc] 123)) bo h:=o.kept (Kept.alloc (fun _=>False) _ _) (fun hf=>hf)
 have hc2:=ho1.c2
 rw [hi] at hc2
 have hc10:=ho1.c10
 have hc8:=ho1.c8
 have hd':h.d=.pointer (some ⟨bd,0,none⟩):=hd
 have HDD:Hid _:=hd'
 clear hkA o hr hD hb ho1 hd hd' hi
 subst hwant hc
 rw [hs] at hc10
 clear hs
 go_enter Tryz.func97,Tryz.ntmps97
 go_wp2_with fail
 go_quiet ((first
  |(go_at_call 149;exact Calls.quiet_of_same (yL _ bo h (by exact HO.out.kept (HKA.out _) (fun hf=>hf)) bd HDD.out S D (by exact HD.out.kept (HKA.out _) nF)))
  |(go_at_call 151;exact Calls.quiet_of_same (xz _ F G ib vs last (by exact HR.out.kept (HKA.out _) nF nF) hlen HB.out _ hw0 hw1 _))))
 go_wp2
 go_ret
 exact⟨rfl,HKA.out _⟩
def qG.okd(h:qG)(next:Value)(weight nlast:Int):qG:=if 0<weight then {h with is:=next,died:=0,told:=nlast} else {h with is:=next}
theorem Ql(w:World)(bo:Nat)(h:qG)(o:zC w bo h)(bd:Nat)(hd:h.d=.pointer (some ⟨bd,0,none⟩))(S:Nat→Prop)(D:Dk)(hD:zh w bd S D)(ib:Nat)(hi:h.is=.pointer (some ⟨ib,0,none⟩))(F G:Nat→Prop)(vs:List qa)(last:Int)(hr:qy w F G ib vs last)(hlen:vs.length≤4398046511104)(hb:∀v∈vs,v.body.length≤1000)
 (c want weight:Int) (hw0:0≤weight) (hw1:weight≤1125899906842624) (next:Value) (kk:ByteArray) (kn:Int) (km:Bool) (ka:Option Addr) (kl kc:Nat) (hs:h.shut=false) (hwant:want=0) (hc:c=0) (nb:Nat) (hnext:next=.pointer (some ⟨nb,0,none⟩)) (F' G':Nat→Prop) (us:List qa) (nlast:Int) (hn:qy w F' G' nb us nlast) (hnb:nb≠bo):
 Calls Tryz.prog 97 #[.pointer (some ⟨bo,0,none⟩),.int .i64 c,.int .i64 want,.int .i64 weight,next,.agg #[.string kk,.int .i64 kn,.bool km,.slice ka kl kc]] w fun e w'=>e=.returned (.bool true)∧zC w' bo (h.okd next weight nlast)∧Kept (fun k=>k=bo) w w':=by
 have hlt:=o.lt
 have HO:Hid _:=o
 have HR:Hid (qy w F G ib vs last):=hr
 have HD:Hid (zh w bd S D):=hD
 have HB:Hid _:=hb
 have hkA:∀n,Kept (fun _=>False) w ((w.alloc (.cells #[.string kk,.int .i64 kn,.bool km,.slice ka kl kc] 123)).drewN n):=fun n=>(Kept.alloc _ _ _).trans kD iL
 have HKA:Hid _:=hkA
 have ho1:zC (w.alloc (.cells #[.string kk,.int .i64 kn,.bool km,.slice ka kl kc] 123)) bo h:=o.kept (Kept.alloc (fun _=>False) _ _) (fun hf=>hf)
 have hc2:=ho1.c2
 rw [hi] at hc2
 have hc10:=ho1.c10
 have hc8:=ho1.c8
 have hd':h.d=.pointer (some ⟨bd,0,none⟩):=hd
 have HDD:Hid _:=hd'
 have hf1:=ho1.fz 2
 have hf2:=ho1.fz 8
 have hf3:=ho1.fz 9
 have hc9:=ho1.c9
 obtain⟨na,nc,ncs,hn⟩:=hn
 have hn1:=(hn.kept (Kept.alloc (fun _=>False) w (.cells #[.string kk,.int .i64 kn,.bool km,.slice ka kl kc] 123)) nF nF).c1
 have hnl:=hn.lt
 have HO1:Hid _:=ho1
 clear hkA o hr hD hb ho1 hd hd' hi
 clear hn
 subst hwant hc hnext
 rw [hs] at hc10
 clear hs
 by_cases hw:0<weight
 ·have hw':decide (0<weight)=true:=decide_eq_true hw
  go_enter Tryz.func97,Tryz.ntmps97
  go_wp2_with fail
  go_quiet ((first
   |(go_at_call 149;exact Calls.quiet_of_same (yL _ bo h (by exact HO.out.kept (HKA.out _) (fun hf=>hf)) bd HDD.out S D (by exact HD.out.kept (HKA.out _) nF)))
   |(go_at_call 151;exact Calls.quiet_of_same (xz _ F G ib vs last (by exact HR.out.kept (HKA.out _) nF nF) hlen HB.out _ hw0 hw1 _))))
  go_wp2
  go_ret
  refine⟨rfl,?_,?_⟩
  ·unfold qG.okd
   rw [if_pos hw]
   exact((((HO.out.kept (HKA.out _) (fun hf=>hf)).set 2 _ {h with is:=.pointer (some ⟨nb,0,none⟩)} rfl).set 8 (.int .i64 0) {h with is:=.pointer (some ⟨nb,0,none⟩),died:=0} rfl).set 9 (.int .i64 nlast) {h with is:=.pointer (some ⟨nb,0,none⟩),died:=0,told:=nlast} rfl)
  ·exact((((HKA.out _).mono fE).trans (Kept.setCell (S:=fun k=>k=bo) _ ⟨bo,2,none⟩ _ rfl) iL).trans (Kept.setCell (S:=fun k=>k=bo) _ ⟨bo,8,none⟩ _ rfl) iL).trans (Kept.setCell (S:=fun k=>k=bo) _ ⟨bo,9,none⟩ _ rfl) iL
 ·have hw':decide (0<weight)=false:=decide_eq_false hw
  go_enter Tryz.func97,Tryz.ntmps97
  go_wp2_with fail
  go_quiet ((first
   |(go_at_call 149;exact Calls.quiet_of_same (yL _ bo h (by exact HO.out.kept (HKA.out _) (fun hf=>hf)) bd HDD.out S D (by exact HD.out.kept (HKA.out _) nF)))
   |(go_at_call 151;exact Calls.quiet_of_same (xz _ F G ib vs last (by exact HR.out.kept (HKA.out _) nF nF) hlen HB.out _ hw0 hw1 _))))
  go_wp2
  go_ret
  refine⟨rfl,?_,?_⟩
  ·unfold qG.okd
   rw [if_neg (by omega)]
   exact(HO.out.kept (HKA.out _) (fun hf=>hf)).set 2 _ {h with is:=.pointer (some ⟨nb,0,none⟩)} rfl
  ·exact((HKA.out _).mono fE).trans (Kept.setCell (S:=fun k=>k=bo) _ ⟨bo,2,none⟩ _ rfl) iL
theorem bk(w:World)(bo:Nat)(h:qG)(o:zC w bo h)(bd:Nat)(hd:h.d=.pointer (some ⟨bd,0,none⟩))(S:Nat→Prop)(D:Dk)(hD:zh w bd S D)(ib:Nat)(hi:h.is=.pointer (some ⟨ib,0,none⟩))(F G:Nat→Prop)(vs:List qa)(last:Int)(hr:qy w F G ib vs last)(hlen:vs.length≤4398046511104)(hb:∀v∈vs,v.body.length≤1000)
 (c want weight:Int) (hw0:0≤weight) (hw1:weight≤1125899906842624) (next:Value) (kk:ByteArray) (kn:Int) (km:Bool) (ka:Option Addr) (kl kc:Nat) (hs:h.shut=false) (hwant:want=0) (hc:c=7) (nb:Nat) (hnext:next=.pointer (some ⟨nb,0,none⟩)) (hfu:D.fuse=0) (hSb:¬S bo) (hd1:0≤h.died∧h.died≤1152921504606846976):
 Calls Tryz.prog 97 #[.pointer (some ⟨bo,0,none⟩),.int .i64 c,.int .i64 want,.int .i64 weight,next,.agg #[.string kk,.int .i64 kn,.bool km,.slice ka kl kc]] w fun e w'=>e=.returned (.bool true)∧zC w' bo {h with shut:=true,mb:=next,k0:=.string kk,k1:=.int .i64 kn,k2:=.bool km,k3:=.slice ka kl kc,died:=h.died+1}∧(∃S',zh w' bd S' D∧∀k,S' k→S k)∧Kept (fun k=>k=bo∨S k) w w':=by
 have hlt:=o.lt
 have HO:Hid _:=o
 have HR:Hid (qy w F G ib vs last):=hr
 have HD:Hid (zh w bd S D):=hD
 have HB:Hid _:=hb
 have hkA:∀n,Kept (fun _=>False) w ((w.alloc (.cells #[.string kk,.int .i64 kn,.bool km,.slice ka kl kc] 123)).drewN n):=fun n=>(Kept.alloc _ _ _).trans kD iL
 have HKA:Hid _:=hkA
 have ho1:zC (w.alloc (.cells #[.string kk,.int .i64 kn,.bool km,.slice ka kl kc] 123)) bo h:=o.kept (Kept.alloc (fun _=>False) _ _) (fun hf=>hf)
 have hc2:=ho1.c2
 rw [hi] at hc2
 have hc10:=ho1.c10
 have hc8:=ho1.c8
 have hd':h.d=.pointer (some ⟨bd,0,none⟩):=hd
 have HDD:Hid _:=hd'
 have hf1:=ho1.fz
 have HFU:Hid _:=hfu
 have hs3:w.cell? ⟨bo,3,none⟩=some h.mb:=o.at_ rfl
 have hs4:w.cell? ⟨bo,4,none⟩=some h.k0:=o.at_ rfl
 have hs5:w.cell? ⟨bo,5,none⟩=some h.k1:=o.at_ rfl
 have hs6:w.cell? ⟨bo,6,none⟩=some h.k2:=o.at_ rfl
 have hs7:w.cell? ⟨bo,7,none⟩=some h.k3:=o.at_ rfl
 clear hkA o hr hD hb ho1 hd hd' hi
 clear hfu
 subst hwant hc hnext
 rw [hs] at hc10
 clear hs
 go_enter Tryz.func97,Tryz.ntmps97
 go_wp2_with fail
 go_quiet ((first
  |(go_at_call 149;exact Calls.quiet_of_same (yL _ bo h (by exact HO.out.kept (HKA.out _) (fun hf=>hf)) bd HDD.out S D (by exact HD.out.kept (HKA.out _) nF)))
  |(go_at_call 151;exact Calls.quiet_of_same (xz _ F G ib vs last (by exact HR.out.kept (HKA.out _) nF nF) hlen HB.out _ hw0 hw1 _))))
 go_wp2_with fail
 have k0:Kept (fun k=>k=bo) w ((w.alloc (.cells #[.string kk,.int .i64 kn,.bool km,.slice ka kl kc] 123)).drewN nq):=(HKA.out nq).mono fE
 have o0:=HO.out.kept (HKA.out nq) (fun hf=>hf)
 have o1:=o0.set 10 (.bool true) {h with shut:=true} rfl
 have k1:=k0.trans (Kept.setCell (S:=fun k=>k=bo) _ ⟨bo,10,none⟩ (.bool true) rfl) iL
 have o2:=o1.set 3 (.pointer (some ⟨nb,0,none⟩)) {h with shut:=true,mb:=.pointer (some ⟨nb,0,none⟩)} rfl
 have k2:=k1.trans (Kept.setCell (S:=fun k=>k=bo) _ ⟨bo,3,none⟩ (.pointer (some ⟨nb,0,none⟩)) rfl) iL
 have o3:=o2.set 4 (.string kk) {h with shut:=true,mb:=.pointer (some ⟨nb,0,none⟩),k0:=.string kk} rfl
 have k3:=k2.trans (Kept.setCell (S:=fun k=>k=bo) _ ⟨bo,4,none⟩ (.string kk) rfl) iL
 have o4:=o3.set 5 (.int .i64 kn) {h with shut:=true,mb:=.pointer (some ⟨nb,0,none⟩),k0:=.string kk,k1:=.int .i64 kn} rfl
 have k4:=k3.trans (Kept.setCell (S:=fun k=>k=bo) _ ⟨bo,5,none⟩ (.int .i64 kn) rfl) iL
 have o5:=o4.set 6 (.bool km) {h with shut:=true,mb:=.pointer (some ⟨nb,0,none⟩),k0:=.string kk,k1:=.int .i64 kn,k2:=.bool km} rfl
 have k5:=k4.trans (Kept.setCell (S:=fun k=>k=bo) _ ⟨bo,6,none⟩ (.bool km) rfl) iL
 have o6:=o5.set 7 (.slice ka kl kc) {h with shut:=true,mb:=.pointer (some ⟨nb,0,none⟩),k0:=.string kk,k1:=.int .i64 kn,k2:=.bool km,k3:=.slice ka kl kc} rfl
 have k6:=k5.trans (Kept.setCell (S:=fun k=>k=bo) _ ⟨bo,7,none⟩ (.slice ka kl kc) rfl) iL
 have o7:=o6.set 8 (.int .i64 (h.died+1)) {h with shut:=true,mb:=.pointer (some ⟨nb,0,none⟩),k0:=.string kk,k1:=.int .i64 kn,k2:=.bool km,k3:=.slice ka kl kc,died:=h.died+1} rfl
 have k7:=k6.trans (Kept.setCell (S:=fun k=>k=bo) _ ⟨bo,8,none⟩ (.int .i64 (h.died+1)) rfl) iL
 clear o0 o1 o2 o3 o4 o5 o6 k0 k1 k2 k3 k4 k5 k6
 have dk:=HD.out.kept k7 (fun i hi e=>hSb (by rw [←e];exact hi))
 have HO7:Hid _:=o7
 have HK7:Hid _:=k7
 have HD7:Hid _:=dk
 clear o7 k7 dk
 refine(Jc _ bo _ HO7.out bd HDD.out S D HD7.out HFU.out).mono ?_
 rintro e w9 ⟨rfl,h1,h2⟩
 have H1:Hid _:=h1
 have H2:Hid _:=h2
 clear h1 h2
 go_wp2
 go_ret
 exact⟨rfl,HO7.out.kept H2.out hSb,H1.out,(HK7.out.mono iL).trans (H2.out.mono (fun _ h=>.inr h)) iL⟩
end law
namespace law
open Go.RowKit disk ref book
open keys (zu)
structure qe where
 vs:List qa
 n0:Int
def qe.add(V:qe)(key:ByteArray)(mark:Bool)(body:List UInt8):qe:=⟨V.vs++[⟨key,V.n0+1,mark,body⟩],V.n0+1⟩
def qe.sub(V:qe)(key:ByteArray)(n:Int):qe:=⟨jt V.vs key n,V.n0⟩
structure Good (V:qe):Prop where
 apart:xx V.vs
 num:∀v∈V.vs,1≤v.num∧v.num≤V.n0
 key:∀v∈V.vs,zu v.key.data.toList=true
 body:∀v∈V.vs,v.body.length≤300
 mark:∀v∈V.vs,v.mark=true→v.body=[]
 few:V.vs.length≤6000
 n0:0≤V.n0
structure zc where
 Rest:List (List Value)→qe→Prop
 Holds:List (List Value)→qe→Prop
 Sto:World→Nat→Option Nat→Prop
 Fu:Int→Prop
 rest_holds:∀bs V,Rest bs V→Holds bs V
 good:∀bs V,Holds bs V→Good V
 zeros:∀n:Nat,64≤n→n≤1000→Holds (List.replicate n zT) ⟨[],0⟩
 sto_lt:∀w b q,Sto w b q→b<w.heap.size
 sto_kept:∀w w' b q (T:Nat→Prop),Sto w b q→Kept T w w'→¬T b→Sto w' b q
 fu_int:∀f,Fu f→zD f
 fu_neg:Fu (-1)
structure zc.Live (M:zc) (D:Dk) (V:qe):Prop where
 ps:D.ps=[]
 rest:M.Rest D.bs V
 big:64≤D.bs.length
structure zc.Could (M:zc) (D:Dk) (P:qe→Prop):Prop where
 few:D.ps.length≤1000
 big:64≤D.bs.length
 all:∀ks,∃V,P V∧M.Holds (zj D.bs (xO D.ps ks)) V
theorem zc.Live.could{M:zc}{D:Dk}{V:qe}(h:M.Live D V):M.Could D (fun U=>U=V):=
 ⟨by rw [h.ps];simp,h.big,fun ks=>⟨V,rfl,by rw [h.ps];exact M.rest_holds _ _ h.rest⟩⟩
theorem zc.Live.good{M:zc}{D:Dk}{V:qe}(h:M.Live D V):Good V:=M.good _ _ (M.rest_holds _ _ h.rest)
structure jI (M:zc) (w w':World) (bd bs:Nat) (S S':Nat→Prop) (D D':Dk) (most:Int) (q:Option Nat):Prop where
 disk:zh w' bd S' D'
 foot:∀k,S' k→S k∨w.heap.size≤k
 sto:M.Sto w' bs q
 kept:Kept (fun k=>S k∨k=bs) w w'
 reads0:D.reads≤D'.reads
 reads1:D'.reads≤D.reads+most
 size:D'.bs.length=D.bs.length
 fuse:M.Fu D'.fuse
structure zR (M:zc) (w:World) (bd bs:Nat) (S:Nat→Prop) (D:Dk) (V:qe):Prop where
 disk:zh w bd S D
 apart:¬S bs
 sto:M.Sto w bs (some bd)
 live:M.Live D V
 fuse:M.Fu D.fuse
 reads0:0≤D.reads
 reads1:D.reads≤2305843009213693952
 few:V.n0≤2305843009213693952
structure Chg (M:zc) (D D':Dk) (V V':qe) (bd:Nat) (want c:Int) (weight:Nat) (q:Option Nat):Prop where
 is:(want≠0∧c=want∧q=some bd∧M.Live D' V)∨(want=0∧c=0∧q=some bd∧M.Live D' V')∨(want=0∧c=6∧q=some bd∧M.Live D' V∧xT V.vs weight D.bs.length=false)∨
  (want=0∧c=7∧q=none∧D'.fuse=0∧M.Could D' (fun U=>U=V∨U=V'))
structure yj (M:zc):Prop where
 live:∀(w:World) (bd bs:Nat) (S P:Nat→Prop) (D:Dk) (V:qe) (key:ByteArray) (a:Option Addr) (cap:Nat) (l:List UInt8),zR M w bd bs S D V→key.size≤maxLen→zv w P a l→(∀k,P k→¬S k∧k≠bs)→l.length≤140737488355328→l.length≤cap→cap≤9223372036854775807→
  Calls Tryz.prog 27 #[.pointer (some ⟨bs,0,none⟩),.string key,.slice a l.length cap] w fun e w'=>∃D' S' c n q,e=.returned (.tuple #[.int .i64 n,.int .i64 c])∧jI M w w' bd bs S S' D D' 40 q∧
   Chg M D D' V (V.add key false l) bd (kB (zu key.data.toList) l.length) c (qr l.length) q∧n=if c=0 then V.n0+1 else 0
 shut:∀(w:World) (bs:Nat) (key:ByteArray) (a:Option Addr) (n cap:Nat),M.Sto w bs none→key.size≤maxLen→n≤140737488355328→
  Calls Tryz.prog 27 #[.pointer (some ⟨bs,0,none⟩),.string key,.slice a n cap] w fun e w'=>e=.returned (.tuple #[.int .i64 0,.int .i64 (Ys true (kB (zu key.data.toList) n))])∧M.Sto w' bs none∧Kept (fun k=>k=bs) w w'
structure Yt (w w':World) (x:Value) (l:List UInt8):Prop where
 at_:∃a cap,x=.slice a l.length cap∧w'.ownsRow 0 5 1 (.slice a l.length cap) l.length (l.map qc)∧∀k,(Value.slice a l.length cap).ownBlock=some k→w.heap.size≤k
def OutIs(w w':World)(o:Option qa)(x:Value)(c:Int):Prop:=(c=0→∃u,o=some u∧Yt w w' x u.body)∧(c≠0→∃a cap,x=.slice a 0 cap)
structure Qm (M:zc):Prop where
 live:∀(w:World) (bd bs:Nat) (S:Nat→Prop) (D:Dk) (V:qe) (key:ByteArray),zR M w bd bs S D V→key.size≤maxLen→
  Calls Tryz.prog 26 #[.pointer (some ⟨bs,0,none⟩),.string key] w fun e w'=>∃D' x n S',e=.returned (.tuple #[x,.int .i64 n,.int .i64 (gy (zu key.data.toList) (yJ V.vs key))])∧jI M w w' bd bs S S' D D' 40 (some bd)∧M.Live D' V∧
   OutIs w w' (yJ V.vs key) x (gy (zu key.data.toList) (yJ V.vs key))∧(∀k,x.ownBlock=some k→¬S' k)∧(gy (zu key.data.toList) (yJ V.vs key)≠0→n=0)∧∀u,gy (zu key.data.toList) (yJ V.vs key)=0→yJ V.vs key=some u→n=u.num
 shut:∀(w:World) (bs:Nat) (key:ByteArray),M.Sto w bs none→key.size≤maxLen→
  Calls Tryz.prog 26 #[.pointer (some ⟨bs,0,none⟩),.string key] w fun e w'=>∃a cap,e=.returned (.tuple #[.slice a 0 cap,.int .i64 0,.int .i64 (if zu key.data.toList=true then 8 else 2)])∧M.Sto w' bs none∧Kept (fun k=>k=bs) w w'
structure xm (M:zc):Prop where
 live:∀(w:World) (bd bs:Nat) (S:Nat→Prop) (D:Dk) (V:qe) (key:ByteArray) (num:Int),zR M w bd bs S D V→key.size≤maxLen→zD num→
  Calls Tryz.prog 42 #[.pointer (some ⟨bs,0,none⟩),.string key,.int .i64 num] w fun e w'=>∃D' x S',e=.returned (.tuple #[x,.int .i64 (gy (zu key.data.toList) (qX V.vs key num))])∧jI M w w' bd bs S S' D D' 40 (some bd)∧M.Live D' V∧
   OutIs w w' (qX V.vs key num) x (gy (zu key.data.toList) (qX V.vs key num))∧∀k,x.ownBlock=some k→¬S' k
 shut:∀(w:World) (bs:Nat) (key:ByteArray) (num:Int),M.Sto w bs none→key.size≤maxLen→
  Calls Tryz.prog 42 #[.pointer (some ⟨bs,0,none⟩),.string key,.int .i64 num] w fun e w'=>∃a cap,e=.returned (.tuple #[.slice a 0 cap,.int .i64 (if zu key.data.toList=true then 8 else 2)])∧M.Sto w' bs none∧Kept (fun k=>k=bs) w w'
structure cB (M:zc) (w w':World) (bd:Nat) (S S':Nat→Prop) (D D':Dk):Prop where
 disk:zh w' bd S' D'
 foot:∀k,S' k→S k∨w.heap.size≤k
 kept:Kept S w w'
 reads0:D.reads≤D'.reads
 reads1:D'.reads≤D.reads+2*D.bs.length
 size:D'.bs.length=D.bs.length
 fuse:M.Fu D'.fuse
structure qv (M:zc):Prop where
 small:∀(w:World) (bd:Nat) (S:Nat→Prop) (D:Dk),zh w bd S D→D.bs.length<64→
  Calls Tryz.prog 35 #[.pointer (some ⟨bd,0,none⟩)] w fun e w'=>e=.returned (.tuple #[.pointer none,.int .i64 1])∧zh w' bd S D∧Kept (fun _=>False) w w'
 big:∀(w:World) (bd:Nat) (S:Nat→Prop) (D:Dk) (P:qe→Prop),zh w bd S D→M.Could D P→M.Fu D.fuse→0≤D.reads→D.reads≤2305843009213693952→
  Calls Tryz.prog 35 #[.pointer (some ⟨bd,0,none⟩)] w fun e w'=>∃D' S',cB M w w' bd S S' D D'∧
   ((∃bs V,e=.returned (.tuple #[.pointer (some ⟨bs,0,none⟩),.int .i64 0])∧w.heap.size≤bs∧¬S' bs∧M.Sto w' bs (some bd)∧P V∧M.Live D' V)∨
     (e=.returned (.tuple #[.pointer none,.int .i64 7])∧D'.fuse=0∧M.Could D' P))
end law
namespace book
open Go.RowKit disk ref
section
variable {P:Program} {ops:Array Oper} {Q:Exit→Act→World→Prop}
def leftOf(n:Nat)(listed:Array Bool):List Nat:=(List.range n).filter fun i=> !listed.getD i true
theorem kN{n i:Nat}{listed:Array Bool}:i∈leftOf n listed↔i<n∧listed.getD i true=false:=by
 unfold leftOf;rw [List.mem_filter,List.mem_range];simp
theorem Qn{n i:Nat}{listed:Array Bool}(h:i∈leftOf n listed):(leftOf n (listed.setIfInBounds i true)).length<(leftOf n listed).length:=by
 have hsub:leftOf n (listed.setIfInBounds i true)=(leftOf n listed).filter fun j=> !decide (j=i):=by
  unfold leftOf
  rw [List.filter_filter]
  refine List.filter_congr fun j _=>?_
  by_cases e:i=j
  ·subst e
   have h2:=(kN.1 h).2
   have hlt:i<listed.size:=by
    rcases Nat.lt_or_ge i listed.size with h'|h'
    ·exact h'
    ·simp [Array.getElem?_eq_none h'] at h2
   simp [hlt]
  ·rw [getD_set_ne true e];simp [Ne.symm e]
 rw [hsub]
 refine List.length_filter_lt_length_iff_exists.2 ⟨i,h,by simp⟩
def bm(ops:Array Oper):Bool:=(List.range ops.size).all fun i=>((ops[i]?).map fun o=>o.after.all fun e=> !Region.binds .any e||decide (e.on<i)).getD true
theorem gB(ho:bm ops=true){listed:Array Bool}(hs:listed.size=ops.size)(hr:Region.ready .any ops listed=[]):∀i,i<ops.size→listed.getD i false=true:=by
 intro i
 induction i using Nat.strongRecOn with
 |ind i ih=>
  intro hi
  cases h:listed.getD i false with
  |true=>rfl
  |false=>
   have h1:listed.getD i true=false:=by
    simp only [Array.getD,hs,hi, ↓reduceDIte] at h ⊢
    exact h
   have hmem:i∈Region.ready .any ops listed:=mem_ready.2 ⟨h1,ops[i],by simp [hi],fun e he hb=>by
    have h2:=List.all_eq_true.1 ho i (List.mem_range.2 hi)
    rw [Array.getElem?_eq_getElem hi] at h2
    simp only [Option.map_some,Option.getD_some,Array.all_eq_true_iff_forall_mem,Bool.or_eq_true,Bool.not_eq_true',decide_eq_true_eq] at h2
    have h3:=(h2 e he).resolve_left (by rw [hb];decide)
    exact ih e.on h3 (by omega)⟩
   rw [hr] at hmem
   cases hmem
theorem Y6(ho:bm ops=true)(I:(Nat→Bool)→Act→World→Prop)
 (hstep:∀(L:Nat→Bool) (a:Act) (w:World) (i:Nat) (o:Oper),ops[i]? =some o→L i=false→(∀e∈o.after,Region.binds .any e=true→L e.on=true)→I L a w→wpOp P ops Q i (fun a' w'=>I (fun j=>decide (j=i)||L j) a' w') a w)
 (hdone:∀(L:Nat→Bool) (a:Act) (w:World),(∀i,i<ops.size→L i=true)→I L a w→Q .normal a w):
 ∀(fuel:Nat) (listed:Array Bool) (a:Act) (w:World),listed.size=ops.size→(leftOf ops.size listed).length≤fuel→I (fun j=>listed.getD j false) a w→wpAny P .any ops Q fuel listed a w:=by
 intro fuel
 induction fuel with
 |zero=>
  intro listed a w hs hf hI
  have hr:Region.ready .any ops listed=[]:=by
   cases hrd:Region.ready .any ops listed with
   |nil=>rfl
   |cons i l=>
    obtain⟨h1,o,h2,_⟩:=mem_ready.1 (show i∈Region.ready .any ops listed by rw [hrd];simp)
    have:i∈leftOf ops.size listed:=kN.2 ⟨(lT h2),h1⟩
    rw [List.eq_nil_of_length_eq_zero (Nat.le_zero.1 hf)] at this
    cases this
  exact⟨hr,hdone _ a w (gB ho hs hr) hI⟩
 |succ fuel ih=>
  intro listed a w hs hf hI
  refine⟨fun hr=>hdone _ a w (gB ho hs hr) hI,fun i hi=>?_⟩
  obtain⟨h1,o,h2,h3⟩:=mem_ready.1 hi
  have hlt:=(lT h2)
  have hl:i<listed.size:=by omega
  have h1':listed.getD i false=false:=by
   simp only [Array.getD,hl, ↓reduceDIte] at h1 ⊢
   exact h1
  have hm:i∈leftOf ops.size listed:=kN.2 ⟨hlt,h1⟩
  have hls:=Qn hm
  refine wpOp_mono (fun a' w' h=>ih (listed.setIfInBounds i true) a' w' (by simpa using hs) (by omega) ?_) (hstep _ a w i o h2 h1' h3 hI)
  have e:(fun j=>(listed.setIfInBounds i true).getD j false)=(fun j=>decide (j=i)||listed.getD j false):=by
   funext j
   by_cases e:i=j
   ·subst e
    simp [hl]
   ·rw [getD_set_ne false e]
    simp [Ne.symm e]
  rw [e]
  exact h
theorem kI{id:Nat}{a:Act}{w:World}(hm:P.follows .mixedOrders=true)(ho:bm ops=true)(I:(Nat→Bool)→Act→World→Prop)(h0:I (fun _=>false) a w.drew)
 (hstep:∀(L:Nat→Bool) (a:Act) (w:World) (i:Nat) (o:Oper),ops[i]? =some o→L i=false→(∀e∈o.after,Region.binds .any e=true→L e.on=true)→I L a w→wpOp P ops Q i (fun a' w'=>I (fun j=>decide (j=i)||L j) a' w') a w)
 (hdone:∀(L:Nat→Bool) (a:Act) (w:World),(∀i,i<ops.size→L i=true)→I L a w→Q .normal a w):(Code.region id ops true).wp P Q a w:=by
 refine wp_region_any hm (Y6 ho I hstep hdone ops.size _ a _ (by simp) ?_ ?_)
 ·unfold leftOf
  exact Nat.le_trans (List.length_filter_le _ _) (by simp)
 ·have e:(fun j=>(Array.replicate ops.size false).getD j false)=fun _=>false:=by
   funext j
   simp only [Array.getD,Array.size_replicate]
   split<;>simp
  rw [e]
  exact h0
end
end book
namespace law
open Go.RowKit disk ref book
open keys (zu)
def gC(b:Nat):Value:=.pointer (some ⟨b,0,none⟩)
inductive gD (M:zc) (w:World) (R:Nat→Prop) (h:qG) (D:Dk) (V:qe) (last:Int):Prop
 |put (mb:Nat) (key:ByteArray) (mark:Bool) (body:List UInt8) (a:Option Addr) (num:Int) (c:Nat) (hm:h.mb=gC mb) (h0:h.k0=.string key) (h1:h.k1=.int .i64 num) (h2:h.k2=.bool mark) (h3:h.k3=.slice a body.length c) (hk:key≠ByteArray.empty) (hb:zv w R a body)
  (could:M.Could D (fun U=>U=V∨U=V.add key mark body)) (hn:V.n0+1≤h.told+h.died)
 |erase (mb:Nat) (us:List qa) (num:Int) (mark:Bool) (a:Option Addr) (n c:Nat) (hm:h.mb=gC mb) (h0:h.k0=.string ByteArray.empty) (h1:h.k1=.int .i64 num) (h2:h.k2=.bool mark) (h3:h.k3=.slice a n c) (hr:qy w R R mb us last) (hu:us.length+1=V.vs.length) (hs:∀v∈us,v∈V.vs)
  (could:M.Could D (fun U=>U=V∨U=⟨us,V.n0⟩))
inductive cC (M:zc) (w:World) (X S R:Nat→Prop) (bo bd:Nat) (h:qG) (D:Dk) (V:qe) (last:Int):Prop
 |live (bs:Nat) (hs:h.s=gC bs) (hX:X bs) (hS:¬S bs) (hR:¬R bs) (ho:bs≠bo) (sto:M.Sto w bs (some bd)) (shut:h.shut=false) (mb:h.mb=.pointer none) (live:M.Live D V)
 |shut (bs:Nat) (hs:h.s=gC bs) (hX:X bs) (hS:¬S bs) (hR:¬R bs) (ho:bs≠bo) (sto:M.Sto w bs none) (shut:h.shut=true) (torn:gD M w R h D V last)
 |gone (hs:h.s=.pointer none) (torn:(h.mb=.pointer none∧M.Could D (fun U=>U=V))∨gD M w R h D V last)
structure uH (M:zc) (w:World) (X:Nat→Prop) (bo t:Nat) (h:qG) (bd:Nat) (D:Dk) (S R:Nat→Prop) (ib:Nat) (V:qe) (last:Int):Prop where
 head:zC w bo h
 hd:h.d=gC bd
 his:h.is=gC ib
 disk:zh w bd S D
 ref:qy w R R ib V.vs last
 sX:∀k,S k→X k
 rX:∀k,R k→X k∧¬S k∧k≠bo
 bX:X bo
 bS:¬S bo
 xlt:∀k,X k→k<w.heap.size
 last0:last≤V.n0
 lastv:∀v∈V.vs,v.num≤last
 told0:0≤h.told
 died0:0≤h.died
 n0t:V.n0≤h.told+h.died
 tt:h.told+h.died≤t
 reads0:0≤D.reads
 reads1:D.reads≤4000000+2000*t
 fu:M.Fu D.fuse
 good:Good V
 big:64≤D.bs.length
 st:cC M w X S R bo bd h D V last
def One(M:zc)(w:World)(X:Nat→Prop)(bo t:Nat):Prop:=∃h bd D S R ib V last,uH M w X bo t h bd D S R ib V last
theorem gD.kept{M:zc}{w w':World}{R T:Nat→Prop}{h:qG}{D:Dk}{V:qe}{last:Int}(o:gD M w R h D V last)(k:Kept T w w')(hn:∀i,R i→¬T i):gD M w' R h D V last:=by
 cases o with
 |put mb key mark body a num c hm h0 h1 h2 h3 hk hb could hn0=>exact .put mb key mark body a num c hm h0 h1 h2 h3 hk (hb.kept k hn) could hn0
 |erase mb us num mark a n c hm h0 h1 h2 h3 hr hu hs could=>exact .erase mb us num mark a n c hm h0 h1 h2 h3 (hr.kept k hn hn) hu hs could
theorem cC.kept{M:zc}{w w':World}{X S R T:Nat→Prop}{bo bd:Nat}{h:qG}{D:Dk}{V:qe}{last:Int}(o:cC M w X S R bo bd h D V last)(k:Kept T w w')(hn:∀i,X i→¬T i)(hR:∀i,R i→X i):cC M w' X S R bo bd h D V last:=by
 cases o with
 |live bs hs hX hS hRb ho sto shut mb live=>exact .live bs hs hX hS hRb ho (M.sto_kept _ _ _ _ _ sto k (hn _ hX)) shut mb live
 |shut bs hs hX hS hRb ho sto shut torn=>exact .shut bs hs hX hS hRb ho (M.sto_kept _ _ _ _ _ sto k (hn _ hX)) shut (torn.kept k (fun i hi=>hn i (hR i hi)))
 |gone hs torn=>exact .gone hs (torn.imp id (fun h=>h.kept k (fun i hi=>hn i (hR i hi))))
theorem uH.kept{M:zc}{w w':World}{X T:Nat→Prop}{bo t:Nat}{h:qG}{bd:Nat}{D:Dk}{S R:Nat→Prop}{ib:Nat}{V:qe}{last:Int}(o:uH M w X bo t h bd D S R ib V last)(k:Kept T w w')(hn:∀i,X i→¬T i):uH M w' X bo t h bd D S R ib V last:=
 {o with head:=o.head.kept k (hn _ o.bX),disk:=o.disk.kept k (fun i hi=>hn i (o.sX i hi)),ref:=o.ref.kept k (fun i hi=>hn i (o.rX i hi).1) (fun i hi=>hn i (o.rX i hi).1),xlt:=fun i hi=>Nat.lt_of_lt_of_le (o.xlt i hi) k.size,st:=o.st.kept k hn (fun i hi=>(o.rX i hi).1)}
theorem One.kept{M:zc}{w w':World}{X T:Nat→Prop}{bo t:Nat}(o:One M w X bo t)(k:Kept T w w')(hn:∀i,X i→¬T i):One M w' X bo t:=by
 obtain⟨h,bd,D,S,R,ib,V,last,o⟩:=o
 exact⟨h,bd,D,S,R,ib,V,last,o.kept k hn⟩
structure Stepped (M:zc) (w w':World) (X:Nat→Prop) (bo t:Nat) (e:Ending):Prop where
 ret:e=.returned (.bool true)
 one:∃X',One M w' X' bo (t+1)∧∀k,X' k→X k∨w.heap.size≤k
 kept:Kept X w w'
end law
namespace law
open Go.RowKit disk ref book
inductive jJ (h:qG) (D:Dk) (vs:List qa) (c want:Int) (weight:Nat) (next:Value) (nlast:Int) (kk:ByteArray) (kn:Int) (km:Bool) (ka:Option Addr) (kl kc:Nat):qG→Prop
 |shut (hs:h.shut=true) (hw:want=0∨want=5) (hc:c=8):jJ h D vs c want weight next nlast kk kn km ka kl kc h
 |want (hs:h.shut=false∨want≠5) (hw:want≠0) (hc:c=want):jJ h D vs c want weight next nlast kk kn km ka kl kc h
 |space (hs:h.shut=false) (hw:want=0) (hc:c=6) (hf:xT vs weight D.bs.length=false):jJ h D vs c want weight next nlast kk kn km ka kl kc h
 |ok (hs:h.shut=false) (hw:want=0) (hc:c=0):jJ h D vs c want weight next nlast kk kn km ka kl kc (h.okd next weight nlast)
 |dead (hs:h.shut=false) (hw:want=0) (hc:c=7) (hf:D.fuse=0):jJ h D vs c want weight next nlast kk kn km ka kl kc {h with shut:=true,mb:=next,k0:=.string kk,k1:=.int .i64 kn,k2:=.bool km,k3:=.slice ka kl kc,died:=h.died+1}
theorem uI(w:World)(bo:Nat)(h:qG)(o:zC w bo h)(bd:Nat)(hd:h.d=.pointer (some ⟨bd,0,none⟩))(S:Nat→Prop)(D:Dk)(hD:zh w bd S D)(ib:Nat)(hi:h.is=.pointer (some ⟨ib,0,none⟩))(F G:Nat→Prop)(vs:List qa)(last:Int)(hr:qy w F G ib vs last)(hlen:vs.length≤6000)(hb:∀v∈vs,v.body.length≤300)
 (c want weight:Int) (hw0:0≤weight) (hw1:weight≤1125899906842624) (nb:Nat) (kk:ByteArray) (kn:Int) (km:Bool) (ka:Option Addr) (kl kc:Nat) (F' G':Nat→Prop) (us:List qa) (nlast:Int) (hn:qy w F' G' nb us nlast) (hnb:nb≠bo) (hSb:¬S bo) (hd0:0≤h.died) (hd1:h.died≤1152921504606846976)
 (h':qG) (hc:jJ h D vs c want weight.toNat (.pointer (some ⟨nb,0,none⟩)) nlast kk kn km ka kl kc h'):
 Calls Tryz.prog 97 #[.pointer (some ⟨bo,0,none⟩),.int .i64 c,.int .i64 want,.int .i64 weight,.pointer (some ⟨nb,0,none⟩),.agg #[.string kk,.int .i64 kn,.bool km,.slice ka kl kc]] w fun e w'=>
  e=.returned (.bool true)∧zC w' bo h'∧(∃S',zh w' bd S' D∧∀k,S' k→S k)∧Kept (fun k=>k=bo∨S k) w w':=by
 have hlen':vs.length≤4398046511104:=by omega
 have hb':∀v∈vs,v.body.length≤1000:=fun v hv=>by have:=hb v hv;omega
 have wide:∀w',Kept (fun _=>False) w w'→zC w' bo h∧(∃S',zh w' bd S' D∧∀k,S' k→S k)∧Kept (fun k=>k=bo∨S k) w w':=fun w' k=>
  ⟨o.kept k (fun hf=>hf),⟨S,hD.kept k nF,fun _ hk=>hk⟩,k.mono fE⟩
 cases hc with
 |shut hs hw hc=>
  refine(bi w bo h o bd hd S D hD ib hi F G vs last hr hlen' hb' c want weight hw0 hw1 _ kk kn km ka kl kc hs hw).mono fun e w' ⟨h1,h2⟩=>⟨?_,wide w' h2⟩
  rw [h1,hc];rfl
 |want hs hw hc=>
  refine(bj w bo h o bd hd S D hD ib hi F G vs last hr hlen' hb' c want weight hw0 hw1 _ kk kn km ka kl kc hs hw).mono fun e w' ⟨h1,h2⟩=>⟨?_,wide w' h2⟩
  rw [h1,hc];simp
 |space hs hw hc hf=>
  refine(fW w bo h o bd hd S D hD ib hi F G vs last hr hlen' hb' c want weight hw0 hw1 _ kk kn km ka kl kc hs hw hc).mono fun e w' ⟨h1,h2⟩=>⟨?_,wide w' h2⟩
  rw [h1,hf];rfl
 |ok hs hw hc=>
  refine(Ql w bo h o bd hd S D hD ib hi F G vs last hr hlen' hb' c want weight hw0 hw1 _ kk kn km ka kl kc hs hw hc nb rfl F' G' us nlast hn hnb).mono fun e w' ⟨h1,h2,h3⟩=>⟨h1,?_,⟨S,hD.kept h3 (fun i hi e=>hSb (by rw [←e];exact hi)),fun _ hk=>hk⟩,h3.mono iL⟩
  rw [Int.toNat_of_nonneg hw0];exact h2
 |dead hs hw hc hf=>
  exact(bk w bo h o bd hd S D hD ib hi F G vs last hr hlen' hb' c want weight hw0 hw1 _ kk kn km ka kl kc hs hw hc nb rfl hf hSb ⟨hd0,hd1⟩).mono fun e w' ⟨h1,h2,h3,h4⟩=>⟨h1,h2,h3,h4⟩
end law
namespace law
open Go.RowKit disk ref book
open keys (zu)
structure v7 where
 kind:Int
 A:Int
 B:Int
 C:Int
 S:ByteArray
 P:ByteArray
 la:Option Addr
 l:List UInt8
 lc:Nat
 ka:Option Addr
 ks:List Bool
 kc:Nat
def v7.cells(o:v7):List Value:=[.int .i64 o.kind,.int .i64 o.A,.int .i64 o.B,.int .i64 o.C,.string o.S,.string o.P,.slice o.la o.l.length o.lc,.slice o.ka o.ks.length o.kc]
structure v7.Ok (w:World) (Q:Nat→Prop) (o:v7):Prop where
 kind:zD o.kind
 A:zD o.A
 B:zD o.B
 C:zD o.C
 S:o.S.size≤maxLen
 P:o.P.size≤maxLen
 l:zv w Q o.la o.l
 len:o.l.length≤140737488355326
 klen:o.ks.length≤140737488355326
 ks:∀j,j<o.ks.length→∃kb ko,o.ka=some ⟨kb,ko,none⟩∧Q kb∧kb<w.heap.size∧w.cell? ⟨kb,ko+j,none⟩=some (.bool (o.ks.getD j false))
theorem v7.Ok.kept{w w':World}{Q T:Nat→Prop}{o:v7}(h:o.Ok w Q)(k:Kept T w w')(hn:∀i,Q i→¬T i):o.Ok w' Q:=
 ⟨h.kind,h.A,h.B,h.C,h.S,h.P,h.l.kept k hn,h.len,h.klen,fun j hj=>by
  obtain⟨kb,ko,h1,h2,h3,h4⟩:=h.ks j hj
  exact⟨kb,ko,h1,h2,Nat.lt_of_lt_of_le h3 k.size,(k.cell (a:=⟨kb,ko+j,none⟩) h3 (hn kb h2)).trans h4⟩⟩
def xc(w:World)(B:Nat)(la:Option Addr)(l:List UInt8)(ba:Option Addr)(bc:Nat):Prop:=
 (la=none∧l=[]∧ba=none∧bc=0)∨∃ad g,la=some ad∧ba=some ⟨g,0,none⟩∧B≤g∧x9 w g l.length bc l
theorem xc.kept{w w':World}{B:Nat}{la:Option Addr}{l:List UInt8}{ba:Option Addr}{bc:Nat}{T:Nat→Prop}(h:xc w B la l ba bc)(k:Kept T w w')(hn:∀g,(Value.slice ba l.length bc).ownBlock=some g→¬T g):xc w' B la l ba bc:=by
 rcases h with h|⟨ad,g,h1,h2,h3,h4⟩
 ·exact .inl h
 ·exact .inr ⟨ad,g,h1,h2,h3,h4.kept k (hn g (by rw [h2];rfl))⟩
theorem xc.bytes{w:World}{B:Nat}{la:Option Addr}{l:List UInt8}{ba:Option Addr}{bc:Nat}(h:xc w B la l ba bc):zv w (fun k=>B≤k) ba l:=by
 rcases h with⟨_,rfl,_⟩|⟨ad,g,h1,rfl,h3,h4⟩
 ·exact .inl rfl
 ·exact h4.bytes _ h3
theorem xc.cap{w:World}{B:Nat}{la:Option Addr}{l:List UInt8}{ba:Option Addr}{bc:Nat}(h:xc w B la l ba bc):l.length≤bc∧bc≤9223372036854775807:=by
 rcases h with⟨_,rfl,_,rfl⟩|⟨ad,g,h1,rfl,h3,h4⟩
 ·simp
 ·obtain⟨h0,cur,h5,h6,h7,h8,h9⟩:=h4
  unfold maxLen at h7
  omega
theorem Y7{w:World}{P:Nat→Prop}{l:List UInt8}(h:zv w P none l):l=[]:=by
 rcases h with h|⟨b,o,h1,_⟩
 ·exact h
 ·cases h1
theorem Jd(w:World)(P:Nat→Prop)(la:Option Addr)(cap:Nat)(l:List UInt8)(hb:zv w P la l)(hl:l.length≤140737488355326):
 Calls Tryz.prog 91 #[.slice la l.length cap] w fun e w'=>∃ba bc,e=.returned (.slice ba l.length bc)∧xc w' w.heap.size la l ba bc∧Kept (fun _=>False) w w':=by
 cases la with
 |none=>
  have:=Y7 hb
  subst this
  exact(Jb w _ cap).mono fun e w' ⟨h1,h2⟩=>⟨none,0,h1,.inl ⟨rfl,rfl,rfl,rfl⟩,by rw [h2];exact Kept.refl _ _⟩
 |some ad=>exact(Ja w P ad cap l hb hl).mono fun e w' ⟨g,c',h1,h2,h3,h4⟩=>⟨_,c',h1,.inr ⟨ad,g,rfl,rfl,h4,h2⟩,h3⟩
theorem bn(w:World)(P:Nat→Prop)(B:Nat)(la:Option Addr)(cap:Nat)(l:List UInt8)(hb:zv w P la l)(hl:l.length≤140737488355326)(ba:Option Addr)(bc:Nat)(h:xc w B la l ba bc)(hP:∀k,P k→k<B):
 Calls Tryz.prog 92 #[.slice ba l.length bc,.slice la l.length cap] w fun e w'=>e=.returned (.bool true)∧Kept (fun k=>(Value.slice ba l.length bc).ownBlock=some k) w w':=by
 rcases h with⟨rfl,rfl,rfl,rfl⟩|⟨ad,g,rfl,rfl,h3,h4⟩
 ·exact(bf w _ cap).mono fun e w' ⟨h1,h2⟩=>⟨h1,by rw [h2];exact Kept.refl _ _⟩
 ·exact(bg w P ad cap l hb hl g bc h4 (fun hc=>by have:=hP g hc;omega)).mono fun e w' ⟨h1,h2⟩=>⟨h1,h2.mono (fun k hk=>by rw [hk];rfl)⟩
inductive bq (M:zc) (w':World) (bs bd:Nat) (h:qG) (D D':Dk) (V V':qe) (want c:Int) (weight:Nat):Prop
 |shut (hs:h.shut=true) (sto:M.Sto w' bs none) (hc:c=Ys true want) (hD:D'={D with reads:=D'.reads })
 |live (q:Option Nat) (hs:h.shut=false) (sto:M.Sto w' bs q) (chg:Chg M D D' V V' bd want c weight q)
structure Qo (M:zc) (w w':World) (bd bs:Nat) (S S':Nat→Prop) (D D':Dk) (most:Int:=40):Prop where
 disk:zh w' bd S' D'
 foot:∀k,S' k→S k∨w.heap.size≤k
 kept:Kept (fun k=>S k∨k=bs) w w'
 reads0:D.reads≤D'.reads
 reads1:D'.reads≤D.reads+most
 size:D'.bs.length=D.bs.length
 fuse:M.Fu D'.fuse
theorem bq.case{M:zc}{w':World}{bs bd:Nat}{h:qG}{D D':Dk}{V V':qe}{want c:Int}{weight:Nat}(o:bq M w' bs bd h D D' V V' want c weight)(hsz:D'.bs.length=D.bs.length)(next:Value)(nlast:Int)(kk:ByteArray)(kn:Int)(km:Bool)(ka:Option Addr)(kl kc:Nat):
 ∃h',jJ h D' V.vs c want weight next nlast kk kn km ka kl kc h':=by
 cases o with
 |shut hs sto hc hD=>
  by_cases hw:want=0∨want=5
  ·exact⟨_,.shut hs hw (by rw [hc];show (if want=0∨want=5 then (8:Int) else want)=8;rw [if_pos hw])⟩
  ·exact⟨_,.want (.inr (fun h=>hw (.inr h))) (fun h=>hw (.inl h)) (by rw [hc];show (if want=0∨want=5 then (8:Int) else want)=want;rw [if_neg hw])⟩
 |live q hs sto chg=>
  rcases chg.is with⟨h1,h2,_⟩|⟨h1,h2,_⟩|⟨h1,h2,_,_,h5⟩|⟨h1,h2,_,h4,_⟩
  ·exact⟨_,.want (.inl hs) h1 h2⟩
  ·exact⟨_,.ok hs h1 h2⟩
  ·exact⟨_,.space hs h1 h2 (by rw [hsz];exact h5)⟩
  ·exact⟨_,.dead hs h1 h2 h4⟩
theorem Kr(M:zc)(A:yj M)(w:World)(X:Nat→Prop)(bo t:Nat)(h:qG)(bd:Nat)(D:Dk)(S R:Nat→Prop)(ib:Nat)(V:qe)(last:Int)(o:uH M w X bo t h bd D S R ib V last)(ht:t≤4398046511104)(bs:Nat)(hbs:h.s=gC bs)
 (key:ByteArray) (hk:key.size≤maxLen) (a:Option Addr) (cap:Nat) (l:List UInt8) (P:Nat→Prop) (hb:zv w P a l) (hP:∀k,P k→¬X k) (hl:l.length≤140737488355328) (hc1:l.length≤cap) (hc2:cap≤9223372036854775807):
 Calls Tryz.prog 27 #[.pointer (some ⟨bs,0,none⟩),.string key,.slice a l.length cap] w fun e w'=>∃D' S' c n,e=.returned (.tuple #[.int .i64 n,.int .i64 c])∧Qo M w w' bd bs S S' D D'∧
  bq M w' bs bd h D D' V (V.add key false l) (kB (zu key.data.toList) l.length) c (qr l.length)∧n=(if c=0 then V.n0+1 else 0)∧X bs∧¬S bs∧¬R bs∧bs≠bo:=by
 have hn0:=o.n0t
 have htt:=o.tt
 cases o.st with
 |live bs' hs' hX hS hR ho sto shut mb live=>
  have e:bs'=bs:=by rw [hs'] at hbs;unfold gC at hbs;simpa using hbs
  subst e
  refine(A.live w bd bs' S P D V key a cap l ⟨o.disk,hS,sto,live,o.fu,o.reads0,by have:=o.reads1;omega,by omega⟩ hk hb (fun k hk=>⟨fun hc=>hP k hk (o.sX k hc),fun hc=>hP k hk (by rw [hc];exact hX)⟩) hl hc1 hc2).mono ?_
  rintro e w' ⟨D',S',c,n,q,h1,h2,h3,h4⟩
  exact⟨D',S',c,n,h1,⟨h2.disk,h2.foot,h2.kept,h2.reads0,h2.reads1,h2.size,h2.fuse⟩,.live q shut h2.sto h3,h4,hX,hS,hR,ho⟩
 |shut bs' hs' hX hS hR ho sto shut torn=>
  have e:bs'=bs:=by rw [hs'] at hbs;unfold gC at hbs;simpa using hbs
  subst e
  refine(A.shut w bs' key a l.length cap sto hk hl).mono ?_
  rintro e w' ⟨h1,h2,h3⟩
  refine⟨D,S,_,0,h1,⟨o.disk.kept h3 (fun i hi hc=>hS (by rw [←hc];exact hi)),fun k hk=>.inl hk,h3.mono (fun k hk=>.inr hk),by omega,by omega,rfl,o.fu⟩,.shut shut h2 rfl rfl,?_,hX,hS,hR,ho⟩
  rw [if_neg]
  unfold kB Ys
  cases zu key.data.toList
  ·simp
  ·simp only;split<;>simp
 |gone hs' torn=>rw [hs'] at hbs;cases hbs
theorem zc.Could.reads{M:zc}{D D2:Dk}{P:qe→Prop}(h:M.Could D P)(e:D2={D with reads:=D2.reads }):M.Could D2 P:=by
 rw [e];exact⟨h.few,h.big,h.all⟩
theorem gD.reads{M:zc}{w:World}{R:Nat→Prop}{h:qG}{D D2:Dk}{V:qe}{last:Int}(o:gD M w R h D V last)(e:D2={D with reads:=D2.reads }):gD M w R h D2 V last:=by
 cases o with
 |put mb key mark body a num c hm h0 h1 h2 h3 hk hb could hn0=>exact .put mb key mark body a num c hm h0 h1 h2 h3 hk hb (could.reads e) hn0
 |erase mb us num mark a n c hm h0 h1 h2 h3 hr hu hs could=>exact .erase mb us num mark a n c hm h0 h1 h2 h3 hr hu hs (could.reads e)
theorem gD.mono{M:zc}{w:World}{R R':Nat→Prop}{h:qG}{D:Dk}{V:qe}{last:Int}(o:gD M w R h D V last)(hs:∀i,R i→i<w.heap.size→R' i):gD M w R' h D V last:=by
 cases o with
 |put mb key mark body a num c hm h0 h1 h2 h3 hk hb could hn0=>exact .put mb key mark body a num c hm h0 h1 h2 h3 hk (hb.mono hs) could hn0
 |erase mb us num mark a n c hm h0 h1 h2 h3 hr hu hs' could=>exact .erase mb us num mark a n c hm h0 h1 h2 h3 (hr.mono hs hs) hu hs' could
theorem gE:zu ByteArray.empty.data.toList=false:=rfl
theorem cD(M:zc)(w w1 w2 w6 w7:World)(X:Nat→Prop)(bo t:Nat)(h:qG)(bd:Nat)(D D2:Dk)(S S2 R:Nat→Prop)(ib:Nat)(V:qe)(last:Int)(hone:uH M w X bo t h bd D S R ib V last)(bs:Nat)(hbs:h.s=gC bs)
 (kA:Kept (fun _=>False) w w1) (hs1:w.heap.size<w1.heap.size) (haft:Qo M w1 w2 bd bs S S2 D D2) (hbb:X bs∧¬S bs∧¬R bs∧bs≠bo) (key:ByteArray) (mark:Bool) (l:List UInt8) (want c:Int) (hwant:want=0→key≠ByteArray.empty) (weight:Nat) (hw:0<weight)
 (hchg:bq M w2 bs bd h D D2 V (V.add key mark l) want c weight) (n:Int) (hn:n=if c=0 then V.n0+1 else 0) (T:Nat→Prop) (k26:Kept T w2 w6) (hT:∀k,T k→w.heap.size<k∧¬S2 k) (k67:Kept (fun k=>k=bo∨S2 k) w6 w7)
 (nb:Nat) (oa:Option Addr) (oc:Nat) (h':qG) (ho7:zC w7 bo h') (hd7:∃S7,zh w7 bd S7 D2∧∀k,S7 k→S2 k) (hh':jJ h D2 V.vs c want weight (gC nb) (max last n) key 0 mark oa l.length oc h')
 (F6 G6:Nat→Prop) (hr6:qy w6 F6 G6 nb (V.vs++[⟨key,n,mark,l⟩]) (max last n)) (hF6:∀k,F6 k→w2.heap.size≤k) (hG6:∀k,G6 k→R k∨w2.heap.size≤k) (hob:zv w6 (fun k=>w2.heap.size≤k) oa l):
 (∃X',One M w7 X' bo (t+1)∧∀k,X' k→X k∨w.heap.size≤k)∧Kept X w w7:=by
 have hX:=hone.xlt
 have hbo:=hX bo hone.bX
 have hbsl:=hX bs hbb.1
 have hS2l:∀k,S2 k→k<w2.heap.size:=fun k hk=>haft.disk.lt k hk
 have hS2:∀k,S2 k→S k∨w1.heap.size≤k:=haft.foot
 have hsz2:=haft.kept.size
 have hsz6:=k26.size
 have hsz7:=k67.size
 have hSbo:¬S2 bo:=fun hc=>by
  rcases hS2 bo hc with h1|h1
  ·exact hone.bS h1
  ·omega
 have hSbs:¬S2 bs:=fun hc=>by
  rcases hS2 bs hc with h1|h1
  ·exact hbb.2.1 h1
  ·omega
 have hRlt:∀k,R k→k<w.heap.size:=fun k hk=>hX k (hone.rX k hk).1
 have hRS2:∀k,R k→¬S2 k:=fun k hk hc=>by
  have h1:=hRlt k hk
  rcases hS2 k hc with h2|h2
  ·exact(hone.rX k hk).2.1 h2
  ·omega
 obtain⟨S7,hdisk7,hS7⟩:=hd7
 have hkX:Kept X w w7:=(((kA.mono fE).trans haft.kept (fun k hk=>hk.elim (fun h1=>.inl (hone.sX k h1)) (fun h1=>.inl (by rw [h1];exact hbb.1)))).trans k26 (fun k hk=>.inr (by have:=(hT k hk).1;omega))).trans k67 (fun k hk=>by
  rcases hk with rfl|hk
  ·exact .inl hone.bX
  ·rcases hS2 k hk with h1|h1
   ·exact .inl (hone.sX k h1)
   ·exact .inr (by omega))
 refine⟨⟨fun k=>X k∨(w.heap.size≤k∧k<w7.heap.size),?_,fun k hk=>hk.imp id (fun h=>h.1)⟩,hkX⟩
 have hRT:∀k,R k→¬(S k∨k=bs):=fun k hk hc=>by
  rcases hc with hc|hc
  ·exact(hone.rX k hk).2.1 hc
  ·exact hbb.2.2.1 (by rw [←hc];exact hk)
 have hR26:∀k,R k→¬T k:=fun k hk hc=>by have:=(hT k hc).1;have:=hRlt k hk;omega
 have hR67:∀k,R k→¬(k=bo∨S2 k):=fun k hk hc=>hc.elim (hone.rX k hk).2.2 (hRS2 k hk)
 let R':Nat→Prop:=fun k=>R k∨(w2.heap.size≤k∧k<w6.heap.size)
 have hRR:∀k,R k→k<w7.heap.size→R' k:=fun k hk _=>.inl hk
 have href:qy w7 R' R' ib V.vs last:=((((hone.ref.kept kA nF nF).kept haft.kept hRT hRT).kept k26 hR26 hR26).kept k67 hR67 hR67).mono hRR hRR
 have hR'67:∀k,R' k→¬(k=bo∨S2 k):=fun k hk hc=>by
  rcases hk with hk|hk
  ·exact hR67 k hk hc
  ·rcases hc with hc|hc
   ·omega
   ·have:=hS2l k hc;omega
 have hnext:qy w7 R' R' nb (V.vs++[⟨key,n,mark,l⟩]) (max last n):=(hr6.mono (F':=R') (G':=R') (fun k hk hlt=>.inr ⟨hF6 k hk,hlt⟩) (fun k hk hlt=>(hG6 k hk).imp id (fun h=>⟨h,hlt⟩))).kept k67 hR'67 hR'67
 have hbody:zv w7 R' oa l:=(hob.mono (Q:=R') (fun k hk hlt=>.inr ⟨hk,hlt⟩)).kept k67 hR'67
 have hrX:∀k,R' k→(X k∨(w.heap.size≤k∧k<w7.heap.size))∧¬S7 k∧k≠bo:=fun k hk=>by
  refine⟨?_,fun hc=>hR'67 k hk (.inr (hS7 k hc)),fun hc=>hR'67 k hk (.inl hc)⟩
  rcases hk with hk|hk
  ·exact .inl (hone.rX k hk).1
  ·exact .inr ⟨by omega,by omega⟩
 have hR'bs:¬R' bs:=fun hc=>by
  rcases hc with hc|hc
  ·exact hbb.2.2.1 hc
  ·omega
 have hsto:∀q,M.Sto w2 bs q→M.Sto w7 bs q:=fun q hq=>M.sto_kept _ _ _ _ _ (M.sto_kept _ _ _ _ _ hq k26 (fun hc=>by have:=(hT bs hc).1;omega)) k67 (fun hc=>hc.elim hbb.2.2.2 hSbs)
 have hsX:∀k,S7 k→X k∨(w.heap.size≤k∧k<w7.heap.size):=fun k hk=>by
  have h1:=hS7 k hk
  rcases hS2 k h1 with h2|h2
  ·exact .inl (hone.sX k h2)
  ·exact .inr ⟨by omega,by have:=hS2l k h1;omega⟩
 have hxlt:∀k,(X k∨(w.heap.size≤k∧k<w7.heap.size))→k<w7.heap.size:=fun k hk=>by
  rcases hk with hk|hk
  ·have:=hX k hk;omega
  ·exact hk.2
 have hbS:¬S7 bo:=fun hc=>hSbo (hS7 bo hc)
 have hbsS:¬S7 bs:=fun hc=>hSbs (hS7 bs hc)
 have htt:=hone.tt
 have hr0:=hone.reads0
 have hr1:=hone.reads1
 have hrd0:=haft.reads0
 have hrd1:=haft.reads1
 have hl0:=hone.last0
 have hn0t:=hone.n0t
 have htold:=hone.told0
 have hdied:=hone.died0
 have hsize:=haft.size
 have hbig:=hone.big
 have hn00:=hone.good.n0
 have hd0:=hone.hd
 have hi0:=hone.his
 have same:h'=h→cC M w7 (fun k=>X k∨(w.heap.size≤k∧k<w7.heap.size)) S7 R' bo bd h D2 V last→One M w7 (fun k=>X k∨(w.heap.size≤k∧k<w7.heap.size)) bo (t+1):=fun e st=>by
  subst e
  exact⟨h',bd,D2,S7,R',ib,V,last,ho7,hd0,hi0,hdisk7,href,hsX,hrX,.inl hone.bX,hbS,hxlt,hl0,hone.lastv,htold,hdied,hn0t,by omega,by omega,by omega,haft.fuse,hone.good,by omega,st⟩
 cases hchg with
 |shut hs sto hc hD=>
  have e:h'=h:=by
   cases hh' with
   |shut=>rfl
   |want=>rfl
   |space h1=>simp [hs] at h1
   |ok h1=>rw [hs] at h1;cases h1
   |dead h1=>rw [hs] at h1;cases h1
  refine same e ?_
  cases hone.st with
  |live _ _ _ _ _ _ _ shut=>rw [hs] at shut;cases shut
  |gone hs'=>rw [hs'] at hbs;cases hbs
  |shut bs' hs' hX' hS' hR' ho' sto' shut' torn=>
   exact .shut bs hbs (.inl hbb.1) hbsS hR'bs hbb.2.2.2 (hsto _ sto) hs ((((((torn.kept kA nF).kept haft.kept hRT).kept k26 hR26).kept k67 hR67).mono hRR).reads hD)
 |live q hs sto chg=>
  have hst:=hone.st
  have hmb:h.mb=.pointer none:=by
   cases hst with
   |live bs' hs' hX' hS' hR' ho' sto' shut' mb=>exact mb
   |gone hs'=>rw [hs'] at hbs;cases hbs
   |shut bs' hs' hX' hS' hR' ho' sto' shut'=>rw [hs] at shut';cases shut'
  rcases chg.is with⟨h1,h2,h3,h4⟩|⟨h1,h2,h3,h4⟩|⟨h1,h2,h3,h4,_⟩|⟨h1,h2,h3,h4,h5⟩
  ·subst h3
   have e:h'=h:=by
    cases hh' with
    |shut=>rfl
    |want=>rfl
    |space=>rfl
    |ok _ hw'=>exact absurd hw' h1
    |dead _ hw'=>exact absurd hw' h1
   exact same e (.live bs hbs (.inl hbb.1) hbsS hR'bs hbb.2.2.2 (hsto _ sto) hs hmb h4)
  ·subst h3
   have e:h'={h with is:=gC nb,died:=0,told:=max last n}:=by
    cases hh' with
    |shut hs2=>rw [hs] at hs2;cases hs2
    |want _ hw'=>exact absurd h1 hw'
    |space _ _ hc'=>omega
    |ok=>unfold qG.okd;rw [if_pos (by omega)]
    |dead _ _ hc'=>omega
   rw [if_pos h2] at hn
   have hmax:max last n=V.n0+1:=by omega
   have hV:(V.add key mark l).vs=V.vs++[⟨key,n,mark,l⟩]:=by rw [hn];rfl
   have hgood:=h4.good
   subst e
   refine⟨_,bd,D2,S7,R',nb,V.add key mark l,max last n,ho7,hd0,rfl,hdisk7,by rw [hV];exact hnext,hsX,hrX,.inl hone.bX,hbS,hxlt,?_,fun v hv=>?_,?_,?_,?_,?_,by omega,by omega,haft.fuse,hgood,by omega,.live bs hbs (.inl hbb.1) hbsS hR'bs hbb.2.2.2 (hsto _ sto) hs hmb h4⟩
   ·rw [hmax];exact Int.le_refl _
   ·have:=(hgood.num v hv).2
    rw [hmax];exact this
   ·show 0≤max last n;omega
   ·show (0:Int)≤0;omega
   ·show V.n0+1≤max last n+0;omega
   ·show max last n+0≤((t+1:Nat):Int);omega
  ·subst h3
   have e:h'=h:=by
    cases hh' with
    |shut=>rfl
    |want=>rfl
    |space=>rfl
    |ok _ _ hc'=>omega
    |dead _ _ hc'=>omega
   exact same e (.live bs hbs (.inl hbb.1) hbsS hR'bs hbb.2.2.2 (hsto _ sto) hs hmb h4)
  ·subst h3
   have e:h'={h with shut:=true,mb:=gC nb,k0:=.string key,k1:=.int .i64 0,k2:=.bool mark,k3:=.slice oa l.length oc,died:=h.died+1}:=by
    cases hh' with
    |shut hs2=>rw [hs] at hs2;cases hs2
    |want _ hw'=>exact absurd h1 hw'
    |space _ _ hc'=>omega
    |ok _ _ hc'=>omega
    |dead=>rfl
   subst e
   refine⟨_,bd,D2,S7,R',ib,V,last,ho7,hd0,hi0,hdisk7,href,hsX,hrX,.inl hone.bX,hbS,hxlt,hl0,hone.lastv,htold,?_,?_,?_,by omega,by omega,haft.fuse,hone.good,by omega,
    .shut bs hbs (.inl hbb.1) hbsS hR'bs hbb.2.2.2 (hsto _ sto) rfl (.put nb key mark l oa 0 oc rfl rfl rfl rfl rfl (hwant h1) hbody h5 ?_)⟩
   ·show 0≤h.died+1;omega
   ·show V.n0≤h.told+(h.died+1);omega
   ·show h.told+(h.died+1)≤((t+1:Nat):Int);omega
   ·show V.n0+1≤h.told+(h.died+1);omega
end law
end Go.Proofs.YtcoengihaobddaaGreatDoor
