/- Part 25 of 26 of a proof: At2, Lst1, Lst2, Lst3 -/
import Derived.Test.YtcoengihaobddaaGreatDoorJt23
import Derived.Test.YtcoengihaobddaaGreatDoorJt04
set_option maxHeartbeats 8000000
set_option linter.unusedVariables false
set_option linter.unusedSimpArgs false
set_option maxRecDepth 8000
namespace Go.Proofs.YtcoengihaobddaaGreatDoor
namespace prog
open Go.ChangeShapes Go.WideShapes Go.ChangeAt Go.RowKit disk ref
open Go.MuLone
open keys (zj zc zs zm zr)
theorem Y9(w:World)(bs bd:Nat)(S:Nat→Prop)(D:Dk)(hs:zx w bs 0 (some bd))(hd:zh w bd S D)(hn:¬S bs)(hr0:0≤D.reads)(hr1:D.reads≤4611686018427350000)(tree n:Nat)(hb:q8 (D.look 1) tree n)(key:ByteArray)(num:Int)(hk:key.size≤maxLen)(hkey:zr key.data.toList=true)(es:List En)(bl:List Nat)(hF:qw (fun j=>D.look (j:Nat)) tree es bl)(hbl:bl.length≤979)(hbs:∀j∈bl,21≤j)(x:En)(ho:(yj ⟨key,num⟩ es).head? =some x)(hnew:Yw key num (some x)=true)
 (ps:List zy) (hch:yg (fun j=>D.look (j:Nat)) ps) (hnd:(ps.map zy.at_).Nodup) (hhd:yo ps=x.at_) (l:List UInt8) (hl:(ps.map zy.l).flatten=l) (hsz:l.length=x.size) (hs3:x.size≤300) (hp:ps.length≤10):
 Calls Tryz.prog 42 #[.pointer (some ⟨bs,0,none⟩),.string key,.int .i64 num] w fun e w'=>(∃a cap,e=.returned (.tuple #[.slice a l.length cap,.int .i64 0])∧w'.ownsRow 0 5 1 (.slice a l.length cap) l.length (l.map zP)∧∀k,(Value.slice a l.length cap).ownBlock=some k→w.heap.size≤k)∧zx w' bs 0 (some bd)∧(∃r:Int,D.reads≤r∧r≤D.reads+14+ps.length∧zh w' bd S {D with reads:=r })∧za (fun k=>k=bd∨k=bs) w w':=by
 have HS:Hid _:=hs
 have HD:Hid (zh w bd S D):=hd
 have HKY:Hid (zr key.data.toList=true):=hkey
 have HNEW:Hid (Yw key num (some x)=true):=hnew
 have hbd:bd<w.heap.size:=hd.lt bd hd.bdS
 have hbsl:=hs.lt
 have hne:bs≠bd:=fun e=>hn (by rw [e];exact hd.bdS)
 have HN:Hid (∀j,S j→j≠bs):=fun j hj e=>hn (by rw [←e];exact hj)
 have HNW:Hid (∀w',zx w' bs 1 (some bd)→zh w' bd S D→Calls Tryz.prog 66 #[.pointer (some ⟨bs,0,none⟩),.agg #[.string key,.int .i64 num]] w' fun e w''=>e=.returned (.tuple #[.agg (gd (some x)).toArray,.bool true])∧(∃r:Int,D.reads≤r∧r≤D.reads+14∧zh w'' bd S {D with reads:=r })∧za (fun i=>i=bd) w' w''):=fun w' h1 h2=>by
  have:=gK w' bs bd S D 1 h1 h2 hn hr0 (by omega) tree n hb ⟨key,num⟩ es bl hF hbl hbs
  rw [ho] at this;exact this
 have HBD:Hid (∀w' (r:Int),zx w' bs 1 (some bd)→zh w' bd S {D with reads:=r}→0≤r→r≤4611686018427360000→Calls Tryz.prog 51 #[.pointer (some ⟨bs,0,none⟩),.agg (zS x).toArray] w' fun y w''=>(∃a cap,y=.returned (.slice a l.length cap)∧w''.ownsRow 0 5 1 (.slice a l.length cap) l.length (l.map zP)∧∀j,(Value.slice a l.length cap).ownBlock=some j→w'.heap.size≤j)∧(∃r':Int,r≤r'∧r'≤r+ps.length∧zh w'' bd S {D with reads:=r' })∧za (fun i=>i=bd) w' w''):=fun w' r h1 h2 h3 h4=>v6 w' bs bd S {D with reads:=r} 1 h1 h2 hn h3 h4 x ps hch hnd hhd l hl hsz hs3 (by omega)
 clear hs hd hb hF hbs ho hkey hnew hch hnd hhd hl hsz
 have hoE:gd (some x)=[.string x.pl.key,.int .i64 x.pl.num,.bool x.mark,.int .i64 (x.size:Int),.int .i64 (x.at_:Int)]:=rfl
 have HOE:Hid (gd (some x)=[.string x.pl.key,.int .i64 x.pl.num,.bool x.mark,.int .i64 (x.size:Int),.int .i64 (x.at_:Int)]):=hoE
 clear hoE
 have hx:x.pl.key=key∧x.pl.num=num∧x.mark=false:=by
  have:=HNEW.out
  simp [Yw] at this
  exact⟨this.1.1,this.1.2,this.2⟩
 obtain⟨hx1,hx2,hx3⟩:=hx
 go_enter_defers Tryz.func42,Tryz.ntmps42
 go_wp2_with (first
  |(go_at_call 47;refine(qy HS.out).mono ?_;rintro e w1 ⟨rfl,hs1,hk1⟩;have HS1:Hid _:=hs1;have HK1:Hid (za (fun k=>k=bs) w w1):=hk1;have c2:w1.cell? ⟨bs,2,none⟩=some (.pointer (some ⟨bd,0,none⟩)):=hs1.c2;clear hs1 hk1)
  |(go_at_call 49;refine(keys.qC key w1 hk).mono ?_;rintro e w2 ⟨rfl,hw2⟩;rw [hw2,HKY.out];clear hw2 w2))
 have HK0:Hid (za (fun _=>False) w1 (w1.alloc (.cells #[.string key,.int .i64 num] 107))):=za.alloc _ _ _
 have HB0:Hid ((w1.alloc (.cells #[.string key,.int .i64 num] 107)).heap[w1.heap.size]? =some (.cells #[.string key,.int .i64 num] 107 (0,0))):=heap_alloc_new w1 _
 have hs0:(w1.alloc (.cells #[.string key,.int .i64 num] 107)).heap.size=w1.heap.size+1:=by simp
 generalize (w1.alloc (.cells #[.string key,.int .i64 num] 107))=W1 at*
 have hz1:=HK1.out.size
 refine(HNW.out W1 (HS1.out.kept HK0.out id) ((HD.out.kept HK1.out HN.out).kept HK0.out nF)).mono ?_
 rintro e w2 ⟨rfl,⟨r2,hr2a,hr2b,hd2⟩,hk2⟩
 have HD2:Hid (zh w2 bd S {D with reads:=r2 }):=hd2
 have HK2:Hid (za (fun i=>i=bd) W1 w2):=hk2
 have hz2:=hk2.size
 have HB2:Hid (w2.heap[w1.heap.size]? =_):=(hk2.block _ (by omega) (by omega)).trans HB0.out
 clear hd2 hk2
 rw [HOE.out]
 have HKA:Hid (za (fun _=>False) w2 (w2.alloc (.cells #[.string x.pl.key,.int .i64 x.pl.num,.bool x.mark,.int .i64 (x.size:Int),.int .i64 (x.at_:Int)] 109))):=za.alloc _ _ _
 have hsA:(w2.alloc (.cells #[.string x.pl.key,.int .i64 x.pl.num,.bool x.mark,.int .i64 (x.size:Int),.int .i64 (x.at_:Int)] 109)).heap.size=w2.heap.size+1:=by simp
 have q0:w2.cell? ⟨w1.heap.size,0,none⟩=some (.string key):=cR HB2.out rfl
 have q1:w2.cell? ⟨w1.heap.size,1,none⟩=some (.int .i64 num):=cR HB2.out rfl
 have hlt12:w1.heap.size<w2.heap.size:=by omega
 have hkb:(x.pl.key.toList==key.toList)=true:=by rw [hx1];simp
 have hnb:(x.pl.num==num)=true:=by rw [hx2];simp
 have HX1:Hid (x.pl.key=key):=hx1
 have HX2:Hid (x.pl.num=num):=hx2
 clear hx1 hx2
 have HSA:Hid (zx (w2.alloc (.cells #[.string x.pl.key,.int .i64 x.pl.num,.bool x.mark,.int .i64 (x.size:Int),.int .i64 (x.at_:Int)] 109)) bs 1 (some bd)):=((HS1.out.kept HK0.out id).kept HK2.out hne).kept HKA.out id
 have HDA:Hid (zh (w2.alloc (.cells #[.string x.pl.key,.int .i64 x.pl.num,.bool x.mark,.int .i64 (x.size:Int),.int .i64 (x.at_:Int)] 109)) bd S {D with reads:=r2 }):=HD2.out.kept HKA.out nF
 rw [hx3] at HKA HSA HDA hsA ⊢
 unfold zS at HBD
 rw [hx3] at HBD
 go_wp2_with fail
 refine(HBD.out _ r2 HSA.out HDA.out (by omega) (by omega)).mono ?_
 rintro e w4 ⟨⟨ba,bc,rfl,hown,hfr⟩,⟨r4,hr4a,hr4b,hd4⟩,hk4⟩
 have HOW:Hid _:=hown
 have HFR:Hid _:=hfr
 have HD4:Hid (zh w4 bd S {D with reads:=r4 }):=hd4
 have HK4:Hid (za (fun i=>i=bd) (w2.alloc (.cells #[.string x.pl.key,.int .i64 x.pl.num,.bool false,.int .i64 (x.size:Int),.int .i64 (x.at_:Int)] 109)) w4):=hk4
 clear hown hfr hd4 hk4
 go_wp2
 refine leaves_cons (f:= 48) (args:=#[.pointer (some ⟨bs,0,none⟩)]) (by simp) (by simp [go_sem]) ?_
 refine(qx (HSA.out.kept HK4.out hne)).mono ?_
 rintro e u' w5 ⟨rfl,rfl,hs5,hk5⟩
 refine⟨_,results_tmp2 rfl _ _ _,⟨ba,bc,rfl,hk5.owns HOW.out (fun j hj e0=>by have:=HFR.out j hj;omega),fun j hj=>by have:=HFR.out j hj;omega⟩,hs5,⟨r4,by omega,by omega,HD4.out.kept hk5 HN.out⟩,?_⟩
 exact(((((HK1.out.mono (S':=fun k=>k=bd∨k=bs) (fun _ h=>.inr h)).trans HK0.out fE).trans HK2.out (fun _ h=>.inl (.inl h))).trans HKA.out fE).trans HK4.out (fun _ h=>.inl (.inl h))).trans hk5 (fun _ h=>.inl (.inr h))
end prog
namespace prog
open ref
def ji(p k:ByteArray):Bool:=p.data.toList.isPrefixOf k.data.toList
theorem uJ:∀(p a b:List UInt8),qa a p=false→qa b a=false→p.isPrefixOf b=true→p.isPrefixOf a=true
 |[],_,_,_,_,_=>rfl
 |_::_,_,[],_,_,h=>by simp at h
 |_::_,[],_::_,h,_,_=>by simp [qa] at h
 |x::p,z::a,y::b,h1,h2,h3=>by
  simp only [List.isPrefixOf_cons_cons,Bool.and_eq_true,beq_iff_eq] at h3 ⊢
  obtain⟨rfl,h3⟩:=h3
  unfold qa at h1 h2
  by_cases e:z=x
  ·subst e
   rw [if_pos rfl] at h1 h2
   exact⟨rfl,uJ p a b h1 h2 h3⟩
  ·rw [if_neg e] at h1
   rw [if_neg (Ne.symm e)] at h2
   have h4:¬z<x:=of_decide_eq_false h1
   have h5:¬x<z:=of_decide_eq_false h2
   have h6:z.toNat≠x.toNat:=fun h=>e (UInt8.toNat_inj.1 h)
   rw [UInt8.lt_iff_toNat_lt] at h4 h5
   omega
theorem xR:∀(p a:List UInt8),p.isPrefixOf a=true→qa a p=false
 |[],[],_=>rfl
 |[],_::_,_=>rfl
 |_::_,[],h=>by simp at h
 |x::p,y::a,h=>by
  simp only [List.isPrefixOf_cons_cons,Bool.and_eq_true,beq_iff_eq] at h
  obtain⟨rfl,h⟩:=h
  unfold qa
  rw [if_pos rfl]
  exact xR p a h
theorem Qf{a b c:ByteArray}(h:z5 a b=true)(k:z5 c b=false):z5 a c=true:=by
 by_cases e:c=b
 ·rw [e];exact h
 ·exact y5 h (qX e k)
theorem dR{k:ByteArray}(h:k≠ByteArray.empty):z5 ByteArray.empty k=true:=by
 cases hk:z5 ByteArray.empty k with
 |true=>rfl
 |false=>
  have:=qX (Ne.symm h) hk
  have e:∀l:List UInt8,qa l []=false:=fun l=>by cases l<;>rfl
  exact absurd this (by show ¬qa k.data.toList []=true;rw [e];simp)
def yJ(p k:ByteArray)(n:Int):Pl:=if z5 k p=true then ⟨p,9223372036854775807⟩ else ⟨k,n-1⟩
def dS(p k:ByteArray)(n:Int)(es:List En):List En:=(yj (yJ p k n) es).takeWhile fun x=>ji p x.pl.key
theorem yw.run{p:ByteArray}:∀{l:List En},yw l→(∀x∈l,z5 x.pl.key p=false)→l.takeWhile (fun x=>ji p x.pl.key)=l.filter fun x=>ji p x.pl.key
 |[],_,_=>rfl
 |a::l,h,hp=>by
  have h2:=List.pairwise_cons.1 h
  cases ha:ji p a.pl.key with
  |true=>
   have ih:=yw.run (p:=p) (l:=l) h2.2 (fun x hx=>hp x (List.mem_cons_of_mem _ hx))
   simp only [List.takeWhile_cons,List.filter_cons,ha,if_true,ih]
  |false=>
   simp only [List.takeWhile_cons,List.filter_cons,ha,Bool.false_eq_true,if_false]
   symm
   rw [List.filter_eq_nil_iff]
   intro b hb hc
   have hlt:=h2.1 b hb
   have hn:z5 b.pl.key a.pl.key=false:=by
    cases hx:z5 b.pl.key a.pl.key with
    |false=>rfl
    |true=>
     have:b.pl.lt a.pl=true:=(Pl.lt_iff _ _).2 (.inl hx)
     exact absurd this (Pl.asymm hlt)
   have:=uJ p.data.toList a.pl.key.data.toList b.pl.key.data.toList (hp a (List.mem_cons_self ..)) hn hc
   rw [show p.data.toList.isPrefixOf a.pl.key.data.toList=ji p a.pl.key from rfl,ha] at this
   cases this
theorem ft(x:En)(v:zI)(hv:v.key=x.pl.key∧v.num=x.pl.num)(p k:ByteArray)(n:Int)(hx:x.pl.key≠ByteArray.empty)(hn:x.pl.num<9223372036854775807):ya v p k n=(ji p x.pl.key&& !x.pl.lt (yJ p k n)):=by
 unfold ya
 rw [hv.1,hv.2]
 show (ji p x.pl.key&&_)=_
 cases hb:ji p x.pl.key with
 |false=>rfl
 |true=>
  rw [Bool.true_and,Bool.true_and]
  have hpn:z5 x.pl.key p=false:=xR _ _ hb
  rw [Bool.eq_iff_iff]
  simp only [Bool.or_eq_true,Bool.and_eq_true,decide_eq_true_eq,Bool.not_eq_true',Bool.eq_false_iff,ne_eq,Pl.lt_iff]
  unfold yJ
  by_cases hk:z5 k p=true
  ·rw [if_pos hk]
   have h1:z5 k x.pl.key=true:=Qf hk hpn
   refine⟨fun _ hc=>?_,fun _=>.inl (.inr h1)⟩
   rcases hc with hc|⟨_,hc⟩
   ·simp only at hc;rw [hpn] at hc;cases hc
   ·simp only at hc;omega
  ·rw [if_neg hk]
   simp only
   constructor
   ·rintro((h|h)|⟨h,h2⟩) hc
    ·subst h
     rcases hc with hc|⟨hc,_⟩
     ·have:=dR hx
      rw [vg this] at hc;cases hc
     ·exact hx hc
    ·rcases hc with hc|⟨hc,_⟩
     ·rw [vg h] at hc;cases hc
     ·rw [hc,yp] at h;cases h
    ·rcases hc with hc|⟨_,hc⟩
     ·rw [h,yp] at hc;cases hc
     ·omega
   ·intro hc
    by_cases e:x.pl.key=k
    ·refine .inr ⟨e,?_⟩
     have:¬(n-1<x.pl.num):=fun h=>hc (.inr ⟨e,h⟩)
     omega
    ·refine .inl (.inr (qX e ?_))
     cases hl:z5 x.pl.key k with
     |false=>rfl
     |true=>exact absurd (.inl hl) hc
theorem vy{es:List En}(h:yw es)(f:En→zI)(hf:∀x,(f x).key=x.pl.key∧(f x).num=x.pl.num)(p k:ByteArray)(n:Int)(hx:∀x∈es,x.pl.key≠ByteArray.empty∧x.pl.num<9223372036854775807):dS p k n es=es.filter fun x=>ya (f x) p k n:=by
 have hs:yw (yj (yJ p k n) es):=List.Pairwise.filter _ h
 unfold dS
 rw [hs.run]
 ·unfold yj
  rw [List.filter_filter]
  refine List.filter_congr (fun x hm=>?_)
  rw [ft x (f x) (hf x) p k n (hx x hm).1 (hx x hm).2]
 ·intro x hm
  have h2:=(List.mem_filter.1 hm).2
  have h3:¬x.pl.lt (yJ p k n)=true:=by simpa using h2
  cases hl:z5 x.pl.key p with
  |false=>rfl
  |true=>
   refine absurd ?_ h3
   rw [Pl.lt_iff]
   unfold yJ
   by_cases hk:z5 k p=true
   ·rw [if_pos hk];exact .inl hl
   ·rw [if_neg hk]
    simp only
    by_cases e:p=k
    ·rw [←e];exact .inl hl
    ·refine .inl (y5 hl (qX (Ne.symm e) ?_))
     cases hkp:z5 k p with
     |false=>rfl
     |true=>exact absurd hkp hk
theorem dU{es:List En}(h:yw es)(f:En→zI)(hf:∀x,(f x).key=x.pl.key∧(f x).num=x.pl.num)(vs:List zI)(hv:vs.Perm (es.map f))(p k:ByteArray)(n:Int)(hx:∀x∈es,x.pl.key≠ByteArray.empty∧x.pl.num<9223372036854775807):qB vs p k n ((dS p k n es).map f) where
 sorted:=by
  rw [vy h f hf p k n hx,List.pairwise_map]
  refine(List.Pairwise.filter _ h).imp (fun {a b} hab=>?_)
  rw [zI.ahead_iff,(hf a).1,(hf b).1,(hf a).2,(hf b).2]
  exact(Pl.lt_iff _ _).1 hab
 perm:=by
  rw [vy h f hf p k n hx]
  have h1:=hv.filter (fun v=>ya v p k n)
  rw [List.filter_map] at h1
  exact h1.symm
end prog
namespace prog
open Go.ChangeShapes Go.WideShapes Go.ChangeAt Go.RowKit disk ref
open keys (zj zc zs zm)
attribute [local go_sem] Oper.semAt_some
theorem uK(w:World)(a b:ByteArray)(ha:a.size≤9223372036854775807)(hb:b.size≤9223372036854775807):
 Calls Tryz.prog 159 #[.string a,.string b] w fun e w'=>e=.returned (.bool (ji b a))∧w'=w:=by
 by_cases h:b.size≤a.size
 ·go_enter Tryz.func159,Tryz.ntmps159
  go_wp2
  go_ret
  exact⟨zc (Zq a b h),rfl⟩
 ·go_enter Tryz.func159,Tryz.ntmps159
  go_wp2
  go_ret
  exact⟨zc (fN a b (by omega)).symm,rfl⟩
theorem gh(w:World)(a b:ByteArray)(ha:a.size≤9223372036854775807)(hb:b.size≤9223372036854775807):
 Calls Tryz.prog 115 #[.string a,.string b] w fun e w'=>e=.returned (.bool (ji b a))∧w'=w:=by
 go_enter Tryz.func115,Tryz.ntmps115
 go_wp2_with (go_at_call 159;refine(uK w a b ha hb).mono ?_;rintro e w1 ⟨rfl,hw1⟩;rw [hw1];clear hw1 w1)
 go_ret
 exact⟨rfl,rfl⟩
def veV(x:En):List Value:=[.string x.pl.key,.int .i64 x.pl.num,.bool x.mark,.int .i64 (x.size:Int)]
def xT(l:List En):List Value:=(l.map veV).flatten
theorem cB(l:List En)(x:En):xT (l++[x])=xT l++veV x:=by simp [xT]
theorem Tryz.infoVersion:(Tryz.prog.info? 94).map (fun i=>(i.zero,i.size,i.bytes))=some (some (.agg #[.string ⟨#[]⟩,.int .i64 0,.bool false,.int .i64 0]),4,40):=by kernel_rfl
structure cC (B b9:Nat) (m:Nat) (more:Bool) (L:List En) (A:World) (v:Value):Prop where
 at_:A.heap[b9]? =some (.cells #[v,.bool more] 90 (0,0))
 own:A.ownsRow 0 94 4 v L.length (xT L)
 form:∃a c,v=.slice a L.length c
 ge:∀k,v.ownBlock=some k→B≤k
structure XK (w1:World) (bd:Nat) (S:Nat→Prop) (D:Dk) (b9:Nat) (f:En→Bool) (most:Nat) (r:Int) (pre:List En) (Q:Nat→Prop) (A:World):Prop where
 pg:∃v,cC (w1.heap.size+2) b9 most false pre A v∧∀k,Q k↔v.ownBlock=some k
 all:∀x∈pre,f x=true
 len:pre.length≤most
 disk:zh A bd S {D with reads:=r}
 kept:za (fun k=>k=bd∨k=b9∨w1.heap.size≤k) w1 A
 rd:D.reads+1≤r
structure Jg (w1:World) (bd:Nat) (S:Nat→Prop) (D:Dk) (b9:Nat) (L:List En) (most:Nat) (c:Code) (r:Int) (A:World):Prop where
 c:c=.exit 0
 pg:∃v,cC (w1.heap.size+2) b9 most (decide (most<L.length)) (L.take most) A v
 disk:zh A bd S {D with reads:=r}
 kept:za (fun k=>k=bd∨k=b9∨w1.heap.size≤k) w1 A
 rd:D.reads+1≤r∧r≤D.reads+1000
theorem cC.kept{B b9 m:Nat}{more:Bool}{L:List En}{A A':World}{v:Value}{Z:Nat→Prop}(h:cC B b9 m more L A v)(hk:za Z A A')(h9:¬Z b9)(hZ:∀k,B≤k→¬Z k):cC B b9 m more L A' v:=
 ⟨(hk.block _ (lT h.at_) h9).trans h.at_,hk.owns h.own (fun j hj=>hZ j (h.ge j hj)),h.form,h.ge⟩
theorem XK.by{w1:World}{bd:Nat}{S:Nat→Prop}{D:Dk}{b9:Nat}{f:En→Bool}{most:Nat}{r r':Int}{pre:List En}{Q Z:Nat→Prop}{A B:World}(h:XK w1 bd S D b9 f most r pre Q A)(hk:za Z A B)(hZ:∀k,Z k→k=bd∨k=w1.heap.size∨k=w1.heap.size+1)(hd:zh B bd S {D with reads:=r' })(hr:r≤r')(h9:b9<w1.heap.size∧b9≠bd)(hbd:bd<w1.heap.size):XK w1 bd S D b9 f most r' pre Q B:=by
 obtain⟨v,h1,h2⟩:=h.pg
 exact⟨⟨v,h1.kept hk (fun hc=>by have:=hZ _ hc;omega) (fun k hb hc=>by have:=hZ _ hc;omega),h2⟩,h.all,h.len,hd,h.kept.trans hk (fun i hi=>by have:=hZ i hi;exact .inl (by omega)),Int.le_trans h.rd hr⟩
theorem Zg{f:En→Bool}:∀{l:List En},(∀x∈l,f x=true)→l.takeWhile f=l
 |[],_=>rfl
 |a::l,h=>by
  have ih:=Zg (f:=f) (l:=l) (fun x hx=>h x (List.mem_cons_of_mem _ hx))
  simp only [List.takeWhile_cons,h a (List.mem_cons_self ..),if_true,ih]
theorem YE{f:En→Bool}{pre l:List En}{x:En}(h:(pre++[x])<+:l)(ha:∀y∈pre,f y=true)(hx:f x=false):l.takeWhile f=pre:=by
 obtain⟨z,rfl⟩:=h
 rw [List.append_assoc,List.takeWhile_append_of_pos ha]
 simp [hx]
theorem YF{f:En→Bool}{pre l:List En}{x:En}(h:(pre++[x])<+:l)(ha:∀y∈pre,f y=true)(hx:f x=true):pre.length<(l.takeWhile f).length∧(l.takeWhile f).take pre.length=pre:=by
 obtain⟨z,rfl⟩:=h
 have:((pre++[x])++z).takeWhile f=pre++x::z.takeWhile f:=by
  rw [List.append_assoc,List.takeWhile_append_of_pos ha]
  simp [hx]
 rw [this]
 simp
theorem YG(w:World)(bs bd:Nat)(S:Nat→Prop)(D:Dk)(k:Int)(hs:zx w bs k (some bd))(hd:zh w bd S D)(hn:¬S bs)(hr0:0≤D.reads)(hr1:D.reads≤4611686018427360000)(tree n:Nat)(hb:q8 (D.look 1) tree n)(pfx:ByteArray)(hpf:pfx.size≤9223372036854775807)(p:Pl)(most:Nat)(hmost:most≤1000)(es:List En)(bl:List Nat)(hF:qw (fun j=>D.look (j:Nat)) tree es bl)(hbl:bl.length≤979)(hbs:∀j∈bl,21≤j)(hks:∀x∈es,x.pl.key.size≤9223372036854775807)(L:List En)(hL:(yj p es).takeWhile (fun x=>ji pfx x.pl.key)=L):
 Calls Tryz.prog 67 #[.pointer (some ⟨bs,0,none⟩),.string pfx,.agg #[.string p.key,.int .i64 p.num],.int .i64 (most:Int)] w fun e w'=>(∃a c,e=.returned (.agg #[.slice a (L.take most).length c,.bool (decide (most<L.length))])∧w'.ownsRow 0 94 4 (.slice a (L.take most).length c) (L.take most).length (xT (L.take most))∧∀j,(Value.slice a (L.take most).length c).ownBlock=some j→w.heap.size≤j)∧(∃r:Int,D.reads≤r∧r≤D.reads+1000∧zh w' bd S {D with reads:=r })∧za (fun i=>i=bd) w w':=by
 have HS:Hid _:=hs
 have HD:Hid (zh w bd S D):=hd
 have HB:Hid _:=hb
 have HF:Hid (qw (fun j=>D.look (j:Nat)) tree es bl):=hF
 have HBS:Hid (∀j∈bl,21≤j):=hbs
 have HKS:Hid (∀x∈es,x.pl.key.size≤9223372036854775807):=hks
 have HL:Hid ((yj p es).takeWhile (fun x=>ji pfx x.pl.key)=L):=hL
 have hbs:=hs.lt
 have hbd:bd<w.heap.size:=hd.lt bd hd.bdS
 have HSL:Hid (∀j,S j→j<w.heap.size):=hd.lt
 clear hs hd hb hF hbs hks hL
 obtain⟨j0,hi0,hz0,hz1,hz2⟩:=info_parts Tryz.infoVersion
 have HJ0:Hid (Tryz.prog.info? 94=some j0∧j0.zero=some (.agg #[.string ⟨#[]⟩,.int .i64 0,.bool false,.int .i64 0])∧j0.size=4∧j0.bytes=40):=⟨hi0,hz0,hz1,hz2⟩
 clear hi0 hz0 hz1 hz2
 refine qY Tryz.func67 rfl ?_
 simp only [Tryz.ntmps67,List.size_toArray,List.length_cons,List.length_nil,Nat.reduceAdd,Nat.reduceSub,Array.replicate_succ,Array.replicate_zero,List.push_toArray,List.append_toArray,List.nil_append,List.cons_append]
 go_wp2_with fail
 obtain⟨n1,n2,n3,k3,s3⟩:=jw w (.cells #[.string pfx] 9) (.cells #[.string p.key,.int .i64 p.num] 107) (.cells #[.int .i64 (most:Int)] 3)
 have HN1:Hid _:=n1
 have HN3:Hid _:=n3
 have HK3:Hid _:=k3
 clear n1 n2 n3 k3
 generalize (((w.alloc (.cells #[.string pfx] 9)).alloc (.cells #[.string p.key,.int .i64 p.num] 107)).alloc (.cells #[.int .i64 (most:Int)] 3))=W3 at*
 have HK5:Hid (za (fun _=>False) W3 ((W3.alloc (.cells #[.slice none 0 0,.bool false] 90)).alloc (.cells #[.slice none 0 0,.bool false] 90))):=za.alloc2 _ _ _
 have HN4:Hid (((W3.alloc (.cells #[.slice none 0 0,.bool false] 90)).alloc (.cells #[.slice none 0 0,.bool false] 90)).heap[W3.heap.size]? =some (.cells #[.slice none 0 0,.bool false] 90 (0,0))):=((za.alloc (fun _=>False) _ _).block W3.heap.size (by simp) id).trans (heap_alloc_new W3 _)
 have HN5:Hid (((W3.alloc (.cells #[.slice none 0 0,.bool false] 90)).alloc (.cells #[.slice none 0 0,.bool false] 90)).heap[W3.heap.size+1]? =some (.cells #[.slice none 0 0,.bool false] 90 (0,0))):=heap_alloc2_new W3 _ _
 have hs5:((W3.alloc (.cells #[.slice none 0 0,.bool false] 90)).alloc (.cells #[.slice none 0 0,.bool false] 90)).heap.size=W3.heap.size+2:=by simp
 generalize ((W3.alloc (.cells #[.slice none 0 0,.bool false] 90)).alloc (.cells #[.slice none 0 0,.bool false] 90))=W at*
 have HKW:Hid (za (fun _=>False) w W):=HK3.out.trans HK5.out iL
 refine(kf W bs bd S D k (HS.out.kept HKW.out id) (HD.out.kept HKW.out nF) hn hr0 (by omega) tree n HB.out p).mono ?_
 rintro e w1 ⟨b1,b2,b3,rfl,hbox,hbb,hd1,hk1⟩
 have HBX:Hid _:=hbox
 have HD1:Hid (zh w1 bd S {D with reads:=D.reads+1 }):=hd1
 have HK1:Hid (za (fun i=>i=bd) W w1):=hk1
 have hsz1:=hk1.size
 have HE1:Hid (w1.heap[w.heap.size]? =some (.cells #[.string pfx] 9 (0,0))):=(hk1.block _ (by omega) (by omega)).trans ((HK5.out.block _ (by omega) id).trans HN1.out)
 have HE3:Hid (w1.heap[w.heap.size+2]? =some (.cells #[.int .i64 (most:Int)] 3 (0,0))):=(hk1.block _ (by omega) (by omega)).trans ((HK5.out.block _ (by omega) id).trans HN3.out)
 have HE4:Hid (w1.heap[W3.heap.size]? =some (.cells #[.slice none 0 0,.bool false] 90 (0,0))):=(hk1.block _ (by omega) (by omega)).trans HN4.out
 have HE5:Hid (w1.heap[W3.heap.size+1]? =some (.cells #[.slice none 0 0,.bool false] 90 (0,0))):=(hk1.block _ (by omega) (by omega)).trans HN5.out
 rw [s3] at HE4 HE5
 have HKw1:Hid (za (fun i=>i=bd) w w1):=(HKW.out.mono fE).trans HK1.out iL
 clear hbox hd1 hk1
 go_wp2_with fail
 have HS1:Hid (∀j,S j→j<w1.heap.size):=HD1.out.lt
 have HEND:Hid (∀(A:World) (r:Int) (more:Bool) (T:List En) (va:Option Addr) (vc:Nat) (a:Act),T=L.take most→more=decide (most<L.length)→cC (w1.heap.size+2) (w.heap.size+4) most more T A (.slice va T.length vc)→zh A bd S {D with reads:=r}→D.reads≤r→r≤D.reads+1000→za (fun k=>k=bd∨k=w.heap.size+4∨w1.heap.size≤k) w1 A→A.heap[w1.heap.size]? =some (.deferred (some []))→a.defers=[{target:=.collected w1.heap.size,args:=#[] }]→a.tmps.getD 8 undef=.pointer (some ⟨w.heap.size+3,0,none⟩)→
  cY Tryz.prog Tryz.f67 (fun e w'=>(∃a c,e=.returned (.agg #[.slice a (L.take most).length c,.bool (decide (most<L.length))])∧w'.ownsRow 0 94 4 (.slice a (L.take most).length c) (L.take most).length (xT (L.take most))∧∀j,(Value.slice a (L.take most).length c).ownBlock=some j→w.heap.size≤j)∧(∃r:Int,D.reads≤r∧r≤D.reads+1000∧zh w' bd S {D with reads:=r })∧za (fun i=>i=bd) w w') .ret a ((A.setCell ⟨w.heap.size+3,0,none⟩ (.slice va T.length vc)).setCell ⟨w.heap.size+3,1,none⟩ (.bool more))):=by
  rintro A r more T va vc a rfl rfl hp hd h0 h1 hk hK ha h8
  have hA4:A.heap[w.heap.size+3]? =_:=(hk.block _ (by omega) (by omega)).trans HE4.out
  have hh1:=heap_setCell_same A (w.heap.size+3) 0 _ _ (.slice va (L.take most).length vc) hA4
  have hh2:=heap_setCell_same _ (w.heap.size+3) 1 _ _ (.bool (decide (most<L.length))) hh1
  have kS:za (fun j=>j=w.heap.size+3) A ((A.setCell ⟨w.heap.size+3,0,none⟩ (.slice va (L.take most).length vc)).setCell ⟨w.heap.size+3,1,none⟩ (.bool (decide (most<L.length)))):=(za.setCell (S:=fun j=>j=w.heap.size+3) A ⟨w.heap.size+3,0,none⟩ _ rfl).trans (za.setCell (S:=fun j=>j=w.heap.size+3) _ ⟨w.heap.size+3,1,none⟩ _ rfl) iL
  generalize ((A.setCell ⟨w.heap.size+3,0,none⟩ (.slice va (L.take most).length vc)).setCell ⟨w.heap.size+3,1,none⟩ (.bool (decide (most<L.length))))=Y at*
  have hz:=hk.size
  have hzS:=kS.size
  have hlK:=(lT hK)
  have hKY:=(kS.block _ hlK (by omega)).trans hK
  have kp:za (fun k=>k=w1.heap.size) Y (Y.putObj w1.heap.size (.deferred none)):=za.putObj _ _ _ rfl
  have hh3:=(kp.block _ (by omega) (by omega)).trans hh2
  refine xC ha hKY (results_cell_row Tryz.results67 _ _ (w.heap.size+3) 90 _ (0,0) _ h8 hh3 Tryz.underlying90 rfl (by kernel_rfl)) ⟨⟨va,vc,rfl,kp.owns (kS.owns hp.own (fun j hj e0=>by have:=hp.ge j hj;omega)) (fun j hj e0=>by have:=hp.ge j hj;omega),fun j hj=>by have:=hp.ge j hj;omega⟩,⟨r,h0,h1,(hd.kept kS (fun j hj e0=>by have:=HSL.out j hj;omega)).kept kp (fun j hj e0=>by have:=HSL.out j hj;omega)⟩,?_⟩
  exact((HKw1.out.trans hk (fun j hj=>by
   rcases hj with h|h|h
   ·exact .inl h
   ·exact .inr (by omega)
   ·exact .inr (by omega))).trans kS (fun j hj=>.inr (by omega))).trans kp (fun j hj=>.inr (by omega))
 refine jg (α:=En) (gf:= 190) (lb:=#[.pointer (some ⟨b1,0,none⟩),.pointer (some ⟨b2,0,none⟩),.pointer (some ⟨b3,0,none⟩)]) rfl (enters_of Tryz.func190 (by kernel_rfl) rfl)
  (fun W1 hk hsz=>dI W1 bd S D b1 b2 b3 tree p (HBX.out.kept hk id id id) es bl HF.out hbl HBS.out (by omega) (D.reads+1) (by omega) (by omega))
  (fun k hk=>by rw [hk];omega) (fun _=>rfl)
  (XK w1 bd S D (w.heap.size+4) (fun x=>ji pfx x.pl.key) most) (fun c r pre A=>Jg w1 bd S D (w.heap.size+4) L most c r A)
  (fun r pre Q A h=>⟨h.disk,fun k hk=>by
   obtain⟨v,h1,h2⟩:=h.pg
   have h3:=(h2 k).1 hk
   have h4:=h1.ge k h3
   have h5:=(h1.own.lt k h3).2
   omega⟩)
  (fun r r' pre Q A B h hr hk hi=>h.by hk (fun k hk=>.inl hk) hi hr (by omega) (by omega))
  (fun r pre Q A B h hk=>h.by hk (fun k hk=>.inr hk) (h.disk.kept hk (fun j hj hc=>by have:=HS1.out j hj;omega)) (Int.le_refl _) (by omega) (by omega))
  (fun c r pre A B h hk=>⟨h.c,by
   obtain⟨v,h1⟩:=h.pg
   exact⟨v,h1.kept hk (by omega) (fun k hb hc=>by omega)⟩,h.disk.kept hk (fun j hj hc=>by have:=HS1.out j hj;omega),h.kept.trans hk (fun i hi=>.inl (.inr (.inr (by omega)))),h.rd⟩)
  ⟨⟨_,⟨HE5.out,World.ownsRow_nil _ 0 94 4,⟨none,0,rfl⟩,fun k hk=>by cases hk⟩,fun k=>by simp [Value.ownBlock]⟩,fun _ h=>(nomatch h),Nat.zero_le _,HD1.out,za.refl _ _,Int.le_refl _⟩
  (fun x a' A=>∃b6,w1.heap.size+1<b6∧A.heap[b6]? =some (.cells (zS x).toArray 109 (0,0))∧a'={tmps:=#[.pointer (some ⟨bs,0,none⟩),.string pfx,.agg #[.string p.key,.int .i64 p.num],.int .i64 (most:Int),undef,.pointer (some ⟨w.heap.size,0,none⟩),.pointer (some ⟨w.heap.size+1,0,none⟩),.pointer (some ⟨w.heap.size+1+1,0,none⟩),.pointer (some ⟨w.heap.size+1+1+1,0,none⟩),.pointer (some ⟨w.heap.size+1+1+1+1,0,none⟩),.pointer (some ⟨b6,0,none⟩),.pointer (some ⟨bs,0,none⟩),.agg #[.string p.key,.int .i64 p.num],.func (.func 190) #[] #[.pointer (some ⟨b1,0,none⟩),.pointer (some ⟨b2,0,none⟩),.pointer (some ⟨b3,0,none⟩)],.agg (zS x).toArray,undef,undef,undef,undef,undef,undef,undef,undef,undef,undef,undef,undef,undef,undef,undef,undef,undef,undef,undef,undef,undef,undef,undef,undef,undef,undef,undef,undef,undef],defers:=[] })
  (fun x a A B h hk=>by
   obtain⟨b6,h1,h2,h3⟩:=h
   exact⟨b6,h1,(hk.block _ (lT h2) (by omega)).trans h2,h3⟩)
  (fun r pre x A B h _=>h) ?assign ?body ?done ?stop
 case assign=>
  intro l r pre x Q A K hi hh hlt hK
  dsimp only [zS]
  gi_wp2
  exact hK _ _ (za.alloc _ _ _) (hi.by (za.alloc (fun _=>False) _ _) (fun _ h=>h.elim) (hi.disk.kept (za.alloc (fun _=>False) _ _) nF) (Int.le_refl _) (by omega) (by omega)) hh ⟨A.heap.size,by omega,heap_alloc_new A _,rfl⟩
 case body=>
  rintro l r pre x Q a' A hi hh ⟨b6,hb6,hbx,rfl⟩ hlt
  obtain⟨v,hv,hq⟩:=hi.pg
  obtain⟨va,vc,rfl⟩:=hv.form
  have HI:Hid (XK w1 bd S D (w.heap.size+4) (fun x=>ji pfx x.pl.key) most r pre Q A):=hi
  have HV:Hid (cC (w1.heap.size+2) (w.heap.size+4) most false pre A (.slice va pre.length vc)):=hv
  have HQ:Hid (∀k,Q k↔(Value.slice va pre.length vc).ownBlock=some k):=hq
  have HX:Hid _:=hbx
  have HPX:Hid ((pre++[x])<+:yj p es):=hh.pre
  have hr2:r≤D.reads+1000:=by have:=hh.le;omega
  have hxs:=HKS.out x (List.mem_filter.1 (hh.pre.subset (by simp))).1
  have hml:=hi.len
  have HA1:Hid (A.heap[w.heap.size]? =_):=(hi.kept.block _ (by omega) (by omega)).trans HE1.out
  have HA3:Hid (A.heap[w.heap.size+2]? =_):=(hi.kept.block _ (by omega) (by omega)).trans HE3.out
  have x0:A.cell? ⟨b6,0,none⟩=some (.string x.pl.key):=cR HX.out rfl
  have x1:A.cell? ⟨b6,1,none⟩=some (.int .i64 x.pl.num):=cR HX.out rfl
  have x2:A.cell? ⟨b6,2,none⟩=some (.bool x.mark):=cR HX.out rfl
  have x3:A.cell? ⟨b6,3,none⟩=some (.int .i64 (x.size:Int)):=cR HX.out rfl
  have y1:A.cell? ⟨w.heap.size,0,none⟩=some (.string pfx):=cR HA1.out rfl
  have y3:A.cell? ⟨w.heap.size+1+1,0,none⟩=some (.int .i64 (most:Int)):=cR HA3.out rfl
  have z0:A.cell? ⟨w.heap.size+1+1+1+1,0,none⟩=some (.slice va pre.length vc):=cR hv.at_ rfl
  have z1:A.cell? ⟨w.heap.size+1+1+1+1,1,none⟩=some (.bool false):=cR hv.at_ rfl
  have zf:=frozen_of_row A (w.heap.size+1+1+1+1) 1 _ _ hv.at_
  have hszA:=hi.kept.size
  clear hi hh hv hq hbx
  gi_wp2_with fail
  refine⟨trivial,rfl,?_⟩
  refine((qN l).calls (gh A x.pl.key pfx hxs hpf)).mono ?_
  rintro e A1 ⟨rfl,hA1⟩
  rw [hA1]
  clear hA1 A1
  cases hbeg:ji pfx x.pl.key with
  |false=>
   have HBG:Hid (ji pfx x.pl.key=false):=hbeg
   clear hbeg
   gi_wp2
   have hst:=YE HPX.out HI.out.all HBG.out
   rw [HL.out] at hst
   refine⟨za.refl _ _,rfl,⟨.slice va pre.length vc,?_⟩,HI.out.disk,HI.out.kept,HI.out.rd,hr2⟩
   rw [hst,List.take_of_length_le hml,decide_eq_false (by omega)]
   exact HV.out
  |true=>
   have HBG:Hid (ji pfx x.pl.key=true):=hbeg
   clear hbeg
   by_cases hme:pre.length=most
   ·have hmi:((pre.length:Int)==(most:Int))=true:=by rw [hme];simp
    have HME:Hid (pre.length=most):=hme
    clear hme
    gi_wp2
    have hst:=YF HPX.out HI.out.all HBG.out
    rw [HL.out] at hst
    have kS:=za.setCell (S:=fun j=>j=w.heap.size+4) A ⟨w.heap.size+4,1,none⟩ (.bool true) rfl
    refine⟨kS.mono (fun j hj=>.inl (by omega)),rfl,⟨.slice va pre.length vc,?_⟩,HI.out.disk.kept kS (fun j hj hc=>by have:=HSL.out j hj;omega),HI.out.kept.trans kS (fun j hj=>.inl (.inr (.inl hj))),HI.out.rd,hr2⟩
    rw [←HME.out,hst.2,decide_eq_true hst.1]
    exact⟨heap_setCell_same A (w.heap.size+4) 1 _ _ _ HV.out.at_,kS.owns HV.out.own (fun j hj e0=>by have:=HV.out.ge j hj;omega),⟨va,vc,rfl⟩,HV.out.ge⟩
   ·have hmi:((pre.length:Int)==(most:Int))=false:=beq_false_of_ne (by omega)
    have HKA:Hid (za (fun _=>False) A (A.alloc (.cells #[.string x.pl.key,.int .i64 x.pl.num,.bool x.mark,.int .i64 (x.size:Int)] 94))):=za.alloc _ _ _
    have HBA:Hid ((A.alloc (.cells #[.string x.pl.key,.int .i64 x.pl.num,.bool x.mark,.int .i64 (x.size:Int)] 94)).heap[A.heap.size]? =some (.cells (veV x).toArray 94 (0,0))):=heap_alloc_new A _
    have HVO:Hid (A.ownsRow 0 94 4 (.slice va pre.length vc) pre.length (xT pre)):=HV.out.own
    gi_wp2_with (gi_at_builtin;refine(qN l).append_lies _ rfl _ _ 44 rfl 0 94 j0 (.agg #[.string ⟨#[]⟩,.int .i64 0,.bool false,.int .i64 0]) 4 40 Tryz.underlying44 HJ0.out.1 HJ0.out.2.1 HJ0.out.2.2.1 HJ0.out.2.2.2 rfl (by decide) (.slice va pre.length vc) pre.length (xT pre) rfl (HKA.out.owns HVO.out nF) ⟨A.heap.size,0,none⟩ 1 1 (veV x) rfl rfl (World.news_of_block HBA.out) (by simp [veV,Value.oneCell']) (by decide) (by unfold maxLen;omega) (by omega) (Nat.zero_le _) (A.heap.size+1) (by simp) ?_;intro ga ca wA hown hgrow hor hglt;have HOW:Hid _:=hown;have HOR:Hid ((Value.slice va pre.length vc).ownBlock=some ga∨ga=A.heap.size+1):=hor;have HKG:Hid (za (fun k=>(Value.slice va pre.length vc).ownBlock=some k) (A.alloc (.cells #[.string x.pl.key,.int .i64 x.pl.num,.bool x.mark,.int .i64 (x.size:Int)] 94)) wA):=za.grown hgrow (fun k hk=>hk);have HAX:Hid (wA.heap[w.heap.size+4]? =some (.cells #[.slice va pre.length vc,.bool false] 90 (0,0))):=(HKG.out.block _ (by simp;omega) (fun hc=>by have:=HV.out.ge _ hc;omega)).trans ((HKA.out.block _ (by omega) id).trans HV.out.at_);have cAx:wA.cell? ⟨w.heap.size+1+1+1+1,0,none⟩=some (.slice va pre.length vc):=(cR HAX.out rfl);have fAx:wA.frozen? ⟨w.heap.size+1+1+1+1,0,none⟩=false:=frozen_of_row wA (w.heap.size+4) 0 _ _ HAX.out;clear hown hgrow hor)
    have h5:=heap_setCell_same wA (w.heap.size+4) 0 _ _ (.slice (some ⟨ga,0,none⟩) (pre.length+1) ca) HAX.out
    have kS:=za.setCell (S:=fun j=>j=w.heap.size+4) wA ⟨w.heap.size+4,0,none⟩ (.slice (some ⟨ga,0,none⟩) (pre.length+1) ca) rfl
    have kP:za (fun k=>k=w.heap.size+4∨Q k) A (wA.setCell ⟨w.heap.size+4,0,none⟩ (.slice (some ⟨ga,0,none⟩) (pre.length+1) ca)):=(((HKA.out.mono fE).trans HKG.out (fun k hk=>.inl (.inr ((HQ.out k).2 hk)))).trans kS (fun k hk=>.inl (.inl hk)))
    have hgq:w1.heap.size+2≤ga:=by
     rcases HOR.out with h|h
     ·exact HV.out.ge ga h
     ·omega
    have hlen:(pre++[x]).length=pre.length+1:=by simp
    have hQ2:∀k,Q k→w1.heap.size+2≤k:=fun k hk=>HV.out.ge k ((HQ.out k).1 hk)
    refine⟨kP.mono (fun k hk=>by rcases hk with h|h;exact .inl (by omega);exact .inr h),fun k=>k=ga,⟨⟨.slice (some ⟨ga,0,none⟩) (pre.length+1) ca,⟨h5,?_,⟨some ⟨ga,0,none⟩,ca,by rw [hlen]⟩,fun k hk=>?_⟩,fun k=>?_⟩,fun y hy=>?_,by rw [hlen];omega,HI.out.disk.kept kP (fun j hj hc=>?_),?_,HI.out.rd⟩,fun k hk=>?_⟩
    ·rw [hlen,cB]
     exact kS.owns HOW.out (fun j hj e0=>by simp [Value.ownBlock] at hj;omega)
    ·simp [Value.ownBlock] at hk;omega
    ·simp [Value.ownBlock];exact eq_comm
    ·rcases List.mem_append.1 hy with hy|hy
     ·exact HI.out.all y hy
     ·rw [List.mem_singleton.1 hy];exact HBG.out
    ·have:=HSL.out j hj
     rcases hc with h|h
     ·omega
     ·have:=hQ2 j h;omega
    ·exact HI.out.kept.trans kP (fun k hk=>by
      rcases hk with h|h
      ·exact .inl (.inr (.inl h))
      ·exact .inl (.inr (.inr (by have:=hQ2 k h;omega))))
    ·rw [hk]
     rcases HOR.out with h|h
     ·exact .inl ((HQ.out ga).2 h)
     ·exact .inr (by omega)
 case done=>
  rintro DD r xs Q A hS hi rfl hK
  obtain⟨v,hv,hq⟩:=hi.pg
  obtain⟨va,vc,rfl⟩:=hv.form
  have hLx:L=xs:=by rw [←HL.out,←hS.1];exact Zg hi.all
  have hr2:=hS.2.1
  have hlen:=hi.len
  have hrd:=hi.rd
  have hA4:A.heap[w.heap.size+3]? =_:=(hi.kept.block _ (by omega) (by omega)).trans HE4.out
  have HFN:Hid (∀a:Act,a.defers=[{target:=.collected w1.heap.size,args:=#[] }]→a.tmps.getD 8 undef=.pointer (some ⟨w.heap.size+3,0,none⟩)→_):=fun a h1 h2=>HEND.out A r false xs va vc a (by rw [hLx,List.take_of_length_le hlen]) (by rw [hLx,decide_eq_false (by omega)]) hv hi.disk (by omega) (by omega) hi.kept hK h1 h2
  have z0:A.cell? ⟨w.heap.size+1+1+1+1,0,none⟩=some (.slice va xs.length vc):=cR hv.at_ rfl
  have z1:A.cell? ⟨w.heap.size+1+1+1+1,1,none⟩=some (.bool false):=cR hv.at_ rfl
  have y0:A.cell? ⟨w.heap.size+1+1+1,0,none⟩=some (.slice none 0 0):=cR hA4 rfl
  have y1:A.cell? ⟨w.heap.size+1+1+1,1,none⟩=some (.bool false):=cR hA4 rfl
  have f0:=frozen_of_row A (w.heap.size+1+1+1) 0 _ _ hA4
  have f1:=frozen_of_row A (w.heap.size+1+1+1) 1 _ _ hA4
  clear hi hS hv hq hK hA4 hLx
  dsimp only
  go_wp2
  exact HFN.out _ rfl rfl
 case stop=>
  rintro DD c r pre A hS hi rfl hK
  obtain⟨v,hv⟩:=hi.pg
  obtain⟨T,hT⟩:∃T,T=L.take most:=⟨_,rfl⟩
  obtain⟨more,hM⟩:∃m,m=decide (most<L.length):=⟨_,rfl⟩
  rw [←hT,←hM] at hv
  obtain⟨va,vc,rfl⟩:=hv.form
  obtain rfl:c=.exit 0:=hi.c
  have hrd:=hi.rd
  have hA4:A.heap[w.heap.size+3]? =_:=(hi.kept.block _ (by omega) (by omega)).trans HE4.out
  have HFN:Hid (∀a:Act,a.defers=[{target:=.collected w1.heap.size,args:=#[] }]→a.tmps.getD 8 undef=.pointer (some ⟨w.heap.size+3,0,none⟩)→_):=fun a h1 h2=>HEND.out A r more T va vc a hT hM hv hi.disk (by omega) (by omega) hi.kept hK h1 h2
  have z0:A.cell? ⟨w.heap.size+1+1+1+1,0,none⟩=some (.slice va T.length vc):=cR hv.at_ rfl
  have z1:A.cell? ⟨w.heap.size+1+1+1+1,1,none⟩=some (.bool more):=cR hv.at_ rfl
  have y0:A.cell? ⟨w.heap.size+1+1+1,0,none⟩=some (.slice none 0 0):=cR hA4 rfl
  have y1:A.cell? ⟨w.heap.size+1+1+1,1,none⟩=some (.bool false):=cR hA4 rfl
  have f0:=frozen_of_row A (w.heap.size+1+1+1) 0 _ _ hA4
  have f1:=frozen_of_row A (w.heap.size+1+1+1) 1 _ _ hA4
  clear hi hS hv hK hA4 hT hM
  dsimp only
  go_wp2
  exact HFN.out _ rfl rfl
end prog
namespace prog
open Go.ChangeShapes Go.WideShapes Go.ChangeAt Go.RowKit disk ref
open Go.MuLone
open keys (zj zc zs zm zr)
theorem Zh:∀a b:List UInt8,Op.bytesLess a b=qa a b
 |[],[]=>rfl
 |[],_::_=>rfl
 |_::_,[]=>rfl
 |x::a,y::b=>by
  unfold Op.bytesLess qa
  have ih:=Zh a b
  by_cases e:x=y
  ·subst e
   have hl:¬x<x:=UInt8.lt_irrefl x
   simp [ih,hl]
  ·have hb:(x==y)=false:=beq_false_of_ne e
   simp [hb,e]
theorem dV(a b:ByteArray):Op.bytesLess a.toList b.toList=z5 a b:=by
 rw [Zh,ByteArray.toList_eq,ByteArray.toList_eq];rfl
theorem Qg(w:World)(p k:ByteArray)(n:Int)(h0:0≤n)(h1:n≤9223372036854775807):
 Calls Tryz.prog 68 #[.string p,.string k,.int .i64 n] w fun e w'=>e=.returned (.agg #[.string (yJ p k n).key,.int .i64 (yJ p k n).num])∧za (fun _=>False) w w':=by
 unfold yJ
 by_cases h:z5 k p=true
 ·have hb:Op.bytesLess k.toList p.toList=true:=by rw [dV];exact h
  rw [if_pos h]
  go_enter Tryz.func68,Tryz.ntmps68
  go_wp2
  exact bodyPost_ret (results_cell_row Tryz.results68 _ _ w.heap.size 107 _ (0,0) _ rfl (heap_alloc_new w _) Tryz.underlying107 rfl (by kernel_rfl)) rfl ⟨rfl,za.alloc _ _ _⟩
 ·have hb:Op.bytesLess k.toList p.toList=false:=by rw [dV];simpa using h
  rw [if_neg h]
  go_enter Tryz.func68,Tryz.ntmps68
  go_wp2
  exact bodyPost_ret (results_cell_row Tryz.results68 _ _ w.heap.size 107 _ (0,0) _ rfl (heap_alloc_new w _) Tryz.underlying107 rfl (by kernel_rfl)) rfl ⟨rfl,za.alloc _ _ _⟩
inductive yY (p k:ByteArray) (n m:Int):Int→Prop
 |badp (h1:(p.toList==[])=false) (h2:zr p.data.toList=false):yY p k n m 2
 |badk (h0:(p.toList==[])=true∨((p.toList==[])=false∧zr p.data.toList=true)) (h1:(k.toList==[])=false) (h2:zr k.data.toList=false):yY p k n m 2
 |arg (h0:(p.toList==[])=true∨((p.toList==[])=false∧zr p.data.toList=true)) (h1:(k.toList==[])=true∨((k.toList==[])=false∧zr k.data.toList=true)) (h2:n<0∨(¬n<0∧m<1)∨(¬n<0∧¬m<1∧50<m)):yY p k n m 4
 |ok (h0:(p.toList==[])=true∨((p.toList==[])=false∧zr p.data.toList=true)) (h1:(k.toList==[])=true∨((k.toList==[])=false∧zr k.data.toList=true)) (h2:¬n<0) (h3:¬m<1) (h4:¬50<m):yY p k n m 0
theorem vd(p k:ByteArray)(n m:Int):yY p k n m (yn p k n m):=by
 have hp:(p≠ByteArray.empty)↔(p.toList==[])=false:=by rw [ne_eq,←vS];simp
 have hk:(k≠ByteArray.empty)↔(k.toList==[])=false:=by rw [ne_eq,←vS];simp
 have ok:∀q:ByteArray,((q≠ByteArray.empty)↔(q.toList==[])=false)→¬(q≠ByteArray.empty∧zr q.data.toList=false)→(q.toList==[])=true∨((q.toList==[])=false∧zr q.data.toList=true):=fun q hq h=>by
  cases q0:(q.toList==[]) with
  |true=>exact .inl rfl
  |false=>
   refine .inr ⟨rfl,?_⟩
   cases q1:zr q.data.toList with
   |true=>rfl
   |false=>exact absurd ⟨hq.2 q0,q1⟩ h
 unfold yn
 by_cases h1:p≠ByteArray.empty∧zr p.data.toList=false
 ·rw [if_pos (.inl h1)]
  exact .badp (hp.1 h1.1) h1.2
 ·by_cases h2:k≠ByteArray.empty∧zr k.data.toList=false
  ·rw [if_pos (.inr h2)]
   exact .badk (ok p hp h1) (hk.1 h2.1) h2.2
  ·rw [if_neg (fun h=>h.elim h1 h2)]
   by_cases h3:n<0∨m<1∨50<m
   ·rw [if_pos h3]
    exact .arg (ok p hp h1) (ok k hk h2) (by omega)
   ·rw [if_neg h3]
    exact .ok (ok p hp h1) (ok k hk h2) (by omega) (by omega) (by omega)
theorem gM(w:World)(bs:Nat)(q:Option Nat)(hs:zx w bs 0 q)(p k:ByteArray)(n m:Int)(hp:p.size≤maxLen)(hk:k.size≤maxLen)(c c':Int)(hc:yY p k n m c)(hcc:(c≠0∧c'=c)∨(c=0∧q=none∧c'=8)):
 Calls Tryz.prog 45 #[.pointer (some ⟨bs,0,none⟩),.string p,.string k,.int .i64 n,.int .i64 m] w fun e w'=>e=.returned (.tuple #[.agg #[.slice none 0 0,.bool false],.int .i64 c'])∧zx w' bs 0 q∧za (fun k=>k=bs) w w':=by
 have HS:Hid _:=hs
 clear hs
 have HKP:Hid (za (fun _=>False) w (w.alloc (.cells #[.slice none 0 0,.bool false] 90))):=za.alloc _ _ _
 have HBP:Hid ((w.alloc (.cells #[.slice none 0 0,.bool false] 90)).heap[w.heap.size]? =some (.cells #[.slice none 0 0,.bool false] 90 (0,0))):=heap_alloc_new w _
 have hbs:=HS.out.lt
 have hsP:(w.alloc (.cells #[.slice none 0 0,.bool false] 90)).heap.size=w.heap.size+1:=by simp
 have HL:Hid (∀W,W=w.alloc (.cells #[.slice none 0 0,.bool false] 90)→Calls Tryz.prog 47 #[.pointer (some ⟨bs,0,none⟩)] W fun e w1=>e=.returned (.tuple #[])∧zx w1 bs 1 q∧w1.heap[w.heap.size]? =some (.cells #[.slice none 0 0,.bool false] 90 (0,0))∧za (fun k=>k=bs) w w1∧w.heap.size<w1.heap.size):=by
  rintro W rfl
  refine(qy (HS.out.kept HKP.out id)).mono ?_
  rintro e w1 ⟨rfl,h1,h2⟩
  have hz:=h2.size
  exact⟨rfl,h1,(h2.block _ (by omega) (by omega)).trans HBP.out,(HKP.out.mono fE).trans h2 iL,by omega⟩
 have HFIN:Hid (∀(w1:World),zx w1 bs 1 q→w1.heap[w.heap.size]? =some (.cells #[.slice none 0 0,.bool false] 90 (0,0))→za (fun k=>k=bs) w w1→∀tmps:Array Value,tmps.getD 10 undef=.pointer (some ⟨w.heap.size,0,none⟩)→tmps.getD 11 undef=.int .i64 c'→bodyPostD Tryz.prog Tryz.f45 (fun e w'=>e=.returned (.tuple #[.agg #[.slice none 0 0,.bool false],.int .i64 c'])∧zx w' bs 0 q∧za (fun k=>k=bs) w w') .ret {tmps:=tmps,defers:=[{target:=.fn (.func 48) #[],args:=#[.pointer (some ⟨bs,0,none⟩)] }]} ((w1.setCell ⟨w.heap.size,0,none⟩ (.slice none 0 0)).setCell ⟨w.heap.size,1,none⟩ (.bool false))):=by
  intro w1 hs1 hb1 hk1 tmps h10 h11
  have hz1:=hk1.size
  have hl1:=(lT hb1)
  have hh1:=heap_setCell_same w1 w.heap.size 0 _ _ (.slice none 0 0) hb1
  have hh2:=heap_setCell_same _ w.heap.size 1 _ _ (.bool false) hh1
  have kS:za (fun j=>j=w.heap.size) w1 ((w1.setCell ⟨w.heap.size,0,none⟩ (.slice none 0 0)).setCell ⟨w.heap.size,1,none⟩ (.bool false)):=(za.setCell (S:=fun j=>j=w.heap.size) w1 ⟨w.heap.size,0,none⟩ _ rfl).trans (za.setCell (S:=fun j=>j=w.heap.size) _ ⟨w.heap.size,1,none⟩ _ rfl) iL
  generalize ((w1.setCell ⟨w.heap.size,0,none⟩ (.slice none 0 0)).setCell ⟨w.heap.size,1,none⟩ (.bool false))=Y at*
  refine leaves_cons (f:= 48) (args:=#[.pointer (some ⟨bs,0,none⟩)]) (by simp) (by simp [go_sem]) ?_
  refine(qx (hs1.kept kS (by omega))).mono ?_
  rintro e u' w5 ⟨rfl,rfl,hs5,hk5⟩
  have hb5:=(hk5.block _ (by have:=kS.size;omega) (by omega)).trans hh2
  refine⟨_,qj rfl _ _ _ _ _ _ _ h10 hb5 Tryz.underlying90 rfl (by kernel_rfl),?_,hs5,?_⟩
  ·rw [h11];rfl
  ·exact(hk1.trans kS (fun j hj=>.inr (by omega))).trans hk5 iL
 rcases hc with⟨h1,h2⟩|⟨h0|⟨h0,h0'⟩,h1,h2⟩|⟨h0|⟨h0,h0'⟩,h1|⟨h1,h1'⟩,h2|⟨h2,h3⟩|⟨h2,h3,h4⟩⟩|⟨h0|⟨h0,h0'⟩,h1|⟨h1,h1'⟩,h2,h3,h4⟩
 all_goals rcases hcc with⟨hc0,rfl⟩|⟨hc0,rfl,rfl⟩
 all_goals first
  |exact absurd rfl hc0
  |exact absurd hc0 (by decide)
  |(clear hc0
    go_enter_defers Tryz.func45,Tryz.ntmps45
    go_wp2_with (first
     |(go_at_call 47;refine(HL.out _ rfl).mono ?_;rintro e w1 ⟨rfl,hs1,hb1,hk1,hlt1⟩;have HS1:Hid _:=hs1;have HB1:Hid (w1.heap[w.heap.size]? =some (.cells #[.slice none 0 0,.bool false] 90 (0,0))):=hb1;have HK1:Hid (za (fun k=>k=bs) w w1):=hk1;have y0:w1.cell? ⟨w.heap.size,0,none⟩=some (.slice none 0 0):=(cR hb1 rfl);have y1:w1.cell? ⟨w.heap.size,1,none⟩=some (.bool false):=(cR hb1 rfl);have f0:=frozen_of_row w1 w.heap.size 0 _ _ hb1;have f1:=frozen_of_row w1 w.heap.size 1 _ _ hb1;have c2:=hs1.c2;try simp only [Option.map_none] at c2;clear hs1 hb1 hk1)
     |(go_at_call 49;refine(keys.qC _ w1 (by assumption)).mono ?_;rintro e w2 ⟨rfl,hw2⟩;rw [hw2];clear hw2 w2))
    exact HFIN.out w1 HS1.out HB1.out HK1.out _ rfl rfl)
theorem Qh(w:World)(bs bd:Nat)(S:Nat→Prop)(D:Dk)(hs:zx w bs 0 (some bd))(hd:zh w bd S D)(hn:¬S bs)(hr0:0≤D.reads)(hr1:D.reads≤4611686018427350000)(tree n0:Nat)(hb:q8 (D.look 1) tree n0)(p k:ByteArray)(n m:Int)(hp:p.size≤maxLen)(hk:k.size≤maxLen)(hn9:n≤9223372036854775807)(hc:yY p k n m 0)(es:List En)(bl:List Nat)(hF:qw (fun j=>D.look (j:Nat)) tree es bl)(hbl:bl.length≤979)(hbs:∀j∈bl,21≤j)(hks:∀x∈es,x.pl.key.size≤9223372036854775807)(L:List En)(hL:dS p k n es=L):
 Calls Tryz.prog 45 #[.pointer (some ⟨bs,0,none⟩),.string p,.string k,.int .i64 n,.int .i64 m] w fun e w'=>(∃a c,e=.returned (.tuple #[.agg #[.slice a (L.take m.toNat).length c,.bool (decide (m.toNat<L.length))],.int .i64 0])∧w'.ownsRow 0 94 4 (.slice a (L.take m.toNat).length c) (L.take m.toNat).length (xT (L.take m.toNat))∧∀j,(Value.slice a (L.take m.toNat).length c).ownBlock=some j→w.heap.size≤j)∧zx w' bs 0 (some bd)∧(∃r:Int,D.reads≤r∧r≤D.reads+1000∧zh w' bd S {D with reads:=r })∧za (fun i=>i=bd∨i=bs) w w':=by
 have HS:Hid _:=hs
 have HD:Hid (zh w bd S D):=hd
 have hne:bs≠bd:=fun e=>hn (by rw [e];exact hd.bdS)
 have HN:Hid (∀j,S j→j≠bs):=fun j hj e=>hn (by rw [←e];exact hj)
 have hbd:bd<w.heap.size:=hd.lt bd hd.bdS
 have HSL:Hid (∀j,S j→j<w.heap.size):=hd.lt
 have hbs':=hs.lt
 have HM:Hid (0≤n∧1≤m∧m≤50):=by cases hc with|ok _ _ h2 h3 h4=>exact⟨by omega,by omega,by omega⟩
 obtain⟨T,hT⟩:∃T,T=L.take m.toNat:=⟨_,rfl⟩
 obtain⟨more,hM⟩:∃b,b=decide (m.toNat<L.length):=⟨_,rfl⟩
 rw [←hT,←hM]
 have HPG:Hid (∀w',zx w' bs 1 (some bd)→zh w' bd S D→Calls Tryz.prog 67 #[.pointer (some ⟨bs,0,none⟩),.string p,.agg #[.string (yJ p k n).key,.int .i64 (yJ p k n).num],.int .i64 m] w' fun e w''=>(∃a c,e=.returned (.agg #[.slice a T.length c,.bool more])∧w''.ownsRow 0 94 4 (.slice a T.length c) T.length (xT T)∧∀j,(Value.slice a T.length c).ownBlock=some j→w'.heap.size≤j)∧(∃r:Int,D.reads≤r∧r≤D.reads+1000∧zh w'' bd S {D with reads:=r })∧za (fun i=>i=bd) w' w''):=fun w' h1 h2=>by
  have h3:=HM.out
  have:=YG w' bs bd S D 1 h1 h2 hn hr0 (by omega) tree n0 hb p (by unfold maxLen at hp;omega) (yJ p k n) m.toNat (by omega) es bl hF hbl hbs hks L hL
  rw [show ((m.toNat:Nat):Int)=m from by omega,←hT,←hM] at this
  exact this
 clear hs hd hb hF hbs hks hL hT hM
 have HKP:Hid (za (fun _=>False) w (w.alloc (.cells #[.slice none 0 0,.bool false] 90))):=za.alloc _ _ _
 have HBP:Hid ((w.alloc (.cells #[.slice none 0 0,.bool false] 90)).heap[w.heap.size]? =some (.cells #[.slice none 0 0,.bool false] 90 (0,0))):=heap_alloc_new w _
 have hsP:(w.alloc (.cells #[.slice none 0 0,.bool false] 90)).heap.size=w.heap.size+1:=by simp
 have HL:Hid (∀W,W=w.alloc (.cells #[.slice none 0 0,.bool false] 90)→Calls Tryz.prog 47 #[.pointer (some ⟨bs,0,none⟩)] W fun e w1=>e=.returned (.tuple #[])∧zx w1 bs 1 (some bd)∧zh w1 bd S D∧w1.heap[w.heap.size]? =some (.cells #[.slice none 0 0,.bool false] 90 (0,0))∧za (fun k=>k=bs) w w1∧w.heap.size<w1.heap.size):=by
  rintro W rfl
  refine(qy (HS.out.kept HKP.out id)).mono ?_
  rintro e w1 ⟨rfl,h1,h2⟩
  have hz:=h2.size
  have hk:=(HKP.out.mono (S':=fun k=>k=bs) fE).trans h2 iL
  exact⟨rfl,h1,HD.out.kept hk HN.out,(h2.block _ (by omega) (by omega)).trans HBP.out,hk,by omega⟩
 have hn0:=HM.out.1
 cases hc with
 |ok h0 h1 h2 h3 h4=>
 rcases h0 with h0|⟨h0,h0'⟩<;>rcases h1 with h1|⟨h1,h1'⟩
 all_goals
  go_enter_defers Tryz.func45,Tryz.ntmps45
  go_wp2_with (first
   |(go_at_call 47;refine(HL.out _ rfl).mono ?_;rintro e w1 ⟨rfl,hs1,hd1,hb1,hk1,hlt1⟩;have HS1:Hid (zx w1 bs 1 (some bd)):=hs1;have HD1:Hid (zh w1 bd S D):=hd1;have HB1:Hid (w1.heap[w.heap.size]? =some (.cells #[.slice none 0 0,.bool false] 90 (0,0))):=hb1;have HK1:Hid (za (fun k=>k=bs) w w1):=hk1;have c2:w1.cell? ⟨bs,2,none⟩=some (.pointer (some ⟨bd,0,none⟩)):=hs1.c2;clear hs1 hd1 hb1 hk1)
   |(go_at_call 49;refine(keys.qC _ w1 (by assumption)).mono ?_;rintro e w2 ⟨rfl,hw2⟩;rw [hw2];clear hw2 w2)
   |(go_at_call 68;refine(Qg w1 p k n hn0 hn9).mono ?_;rintro e w3 ⟨rfl,hk3⟩;have HK3:Hid (za (fun _=>False) w1 w3):=hk3;have hz3:=hk3.size;clear hk3)
   |(go_at_call 67;refine(HPG.out w3 (HS1.out.kept HK3.out id) (HD1.out.kept HK3.out nF)).mono ?_;rintro e w4 ⟨⟨va,vc,rfl,hown,hfr⟩,⟨r4,hr4a,hr4b,hd4⟩,hk4⟩;have HOW:Hid _:=hown;have HFR:Hid (∀j,(Value.slice va T.length vc).ownBlock=some j→w3.heap.size≤j):=hfr;have HD4:Hid (zh w4 bd S {D with reads:=r4 }):=hd4;have HK4:Hid (za (fun i=>i=bd) w3 w4):=hk4;have hb4:w4.heap[w.heap.size]? =some (.cells #[.slice none 0 0,.bool false] 90 (0,0)):=(hk4.block _ (by omega) (by omega)).trans ((HK3.out.block _ (by omega) id).trans HB1.out);have HB4:Hid _:=hb4;have y0:w4.cell? ⟨w.heap.size,0,none⟩=some (.slice none 0 0):=(cR hb4 rfl);have y1:w4.cell? ⟨w.heap.size,1,none⟩=some (.bool false):=(cR hb4 rfl);have f0:=frozen_of_row w4 w.heap.size 0 _ _ hb4;have f1:=frozen_of_row w4 w.heap.size 1 _ _ hb4;clear hown hfr hd4 hk4 hb4))
  have hh1:=heap_setCell_same w4 w.heap.size 0 _ _ (.slice va T.length vc) HB4.out
  have hh2:=heap_setCell_same _ w.heap.size 1 _ _ (.bool more) hh1
  have kS:za (fun j=>j=w.heap.size) w4 ((w4.setCell ⟨w.heap.size,0,none⟩ (.slice va T.length vc)).setCell ⟨w.heap.size,1,none⟩ (.bool more)):=(za.setCell (S:=fun j=>j=w.heap.size) w4 ⟨w.heap.size,0,none⟩ _ rfl).trans (za.setCell (S:=fun j=>j=w.heap.size) _ ⟨w.heap.size,1,none⟩ _ rfl) iL
  generalize ((w4.setCell ⟨w.heap.size,0,none⟩ (.slice va T.length vc)).setCell ⟨w.heap.size,1,none⟩ (.bool more))=Y at*
  have hz4:=HK4.out.size
  have hzY:=kS.size
  have hz1:=HK1.out.size
  refine leaves_cons (f:= 48) (args:=#[.pointer (some ⟨bs,0,none⟩)]) (by simp) (by simp [go_sem]) ?_
  refine(qx (((HS1.out.kept HK3.out id).kept HK4.out hne).kept kS (by omega))).mono ?_
  rintro e u' w5 ⟨rfl,rfl,hs5,hk5⟩
  have hb5:=(hk5.block _ (by omega) (by omega)).trans hh2
  refine⟨_,qj rfl _ _ _ _ _ _ _ rfl hb5 Tryz.underlying90 rfl (by kernel_rfl),⟨va,vc,rfl,hk5.owns (kS.owns HOW.out (fun j hj e0=>by have:=HFR.out j hj;omega)) (fun j hj e0=>by have:=HFR.out j hj;omega),fun j hj=>by have:=HFR.out j hj;omega⟩,hs5,⟨r4,hr4a,hr4b,(HD4.out.kept kS (fun j hj e0=>by have:=HSL.out j hj;omega)).kept hk5 HN.out⟩,?_⟩
  exact((((HK1.out.mono (S':=fun i=>i=bd∨i=bs) (fun _ h=>.inr h)).trans HK3.out fE).trans HK4.out (fun _ h=>.inl (.inl h))).trans kS (fun j hj=>.inr (by omega))).trans hk5 (fun _ h=>.inl (.inr h))
end prog
end Go.Proofs.YtcoengihaobddaaGreatDoor
