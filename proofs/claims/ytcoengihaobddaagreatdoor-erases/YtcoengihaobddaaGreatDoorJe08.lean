/- Part 8 of 28 of a proof: Law8, Play, Law9, Law7 -/
import Derived.Test.YtcoengihaobddaaGreatDoorJe07
namespace Go.Proofs.YtcoengihaobddaaGreatDoor.law
open Go.ChangeShapes Go.WideShapes Go.ChangeAt Go.RowKit disk ref book
open keys (ret_int ret_bool beq_no beq_yes keyB)
set_option linter.unusedVariables false
set_option maxRecDepth 8000
set_option maxHeartbeats 4000000 in
theorem asked_at (M:Meaning) (A:ApiAt M) (w:World) (X:Nat→Prop) (bo t:Nat) (h:OneH) (bd:Nat) (D:Dk) (S R:Nat→Prop) (ib:Nat) (V:Con) (last:Int) (hone:OneIn M w X bo t h bd D S R ib V last) (ht:t≤2199023255552) (bs:Nat) (hbs:h.s=ptr bs)
 (od:OpD) (Q:Nat→Prop) (hop:od.Ok w Q) (hQ:∀k,Q k→¬X k∧k<w.heap.size) (hkind:od.kind=6)
 (bp:Nat) (lv:Value) (F H:Nat→Prop) (a b:Option Addr) (ca cb:Nat) (es vs:List Ent) (hbook:Book w bp lv F H a b ca cb es vs) (hes:es.length≤t) (hXF:∀k,X k→¬F k∧¬H k∧k≠bp):
 Calls Tryz.prog 63 #[.pointer (some ⟨bp,0,none⟩),.pointer (some ⟨bo,0,none⟩),.agg #[.int .i64 od.kind,.int .i64 od.A,.int .i64 od.B,.int .i64 od.C,.string od.S,.string od.P,.slice od.la od.l.length od.lc,.slice od.ka od.ks.length od.kc]] w fun e w'=>Asked M w w' X bo t bp lv F H b cb es vs e:=by
 have hxlt:=hone.xlt
 have k0:Kept (fun _=>False) w (w.alloc (.cells #[.int .i64 od.kind,.int .i64 od.A,.int .i64 od.B,.int .i64 od.C,.string od.S,.string od.P,.slice od.la od.l.length od.lc,.slice od.ka od.ks.length od.kc] 81)):=Kept.alloc _ _ _
 have hb0:Boxd (w.alloc (.cells #[.int .i64 od.kind,.int .i64 od.A,.int .i64 od.B,.int .i64 od.C,.string od.S,.string od.P,.slice od.la od.l.length od.lc,.slice od.ka od.ks.length od.kc] 81)) w.heap.size od:=⟨heap_alloc_new w _⟩
 have hop0:=hop.kept k0 (fun _ _ hf=>hf)
 have hone0:=hone.kept k0 (fun _ _ hf=>hf)
 have hs1:w.heap.size<(w.alloc (.cells #[.int .i64 od.kind,.int .i64 od.A,.int .i64 od.B,.int .i64 od.C,.string od.S,.string od.P,.slice od.la od.l.length od.lc,.slice od.ka od.ks.length od.kc] 81)).heap.size:=by simp
 have hc0:=hone0.head.c0
 rw [hone0.hd] at hc0
 unfold ptr at hc0
 have hc1:=hone0.head.c1
 rw [hbs] at hc1
 unfold ptr at hc1
 have hq4:=hb0.c4
 have hq2:=hb0.c2
 have hq0:=hb0.c0.trans (congrArg (fun k=>some (Value.int .i64 k)) hkind)
 have HB0:Hid _:=hb0
 have HOP0:Hid _:=hop0
 have HON0:Hid _:=hone0
 have HON:Hid _:=hone
 have HOP:Hid _:=hop
 have HQ:Hid _:=hQ
 have HBS:Hid _:=hbs
 have HX:Hid _:=hxlt
 have hboX:=hxlt bo hone.bX
 have K0:Hid _:=k0
 have HBK:Hid _:=hbook
 have HXF:Hid _:=hXF
 have HS1:Hid _:=hs1
 have hfew:=hone.good.few
 have hr00:=hone.reads0
 have hr01:=hone.reads1
 clear k0 hb0 hop0 hone0 hone hop hQ hbs hxlt hbook hXF hkind hs1
 generalize hW0:w.alloc (.cells #[.int .i64 od.kind,.int .i64 od.A,.int .i64 od.B,.int .i64 od.C,.string od.S,.string od.P,.slice od.la od.l.length od.lc,.slice od.ka od.ks.length od.kc] 81)=w0 at*
 have HW0:Hid _:=hW0
 go_enter Tryz.func63,Tryz.ntmps63
 go_wp2_with fail
 obtain ⟨xa,xp,xbc,xpc,hdk⟩:=HON0.out.disk
 refine (reads_any _ bd S D xa xp xbc xpc hdk).mono ?_
 rintro e w9 ⟨rfl,hw9⟩
 rw [hw9]
 clear hw9 w9 hdk
 go_wp2_with fail
 go_region_held3 (fun w'=>w'.cell? ⟨bo,1,none⟩=some (.pointer (some ⟨bs,0,none⟩))∧w'.cell? ⟨w.heap.size,4,none⟩=some (.string od.S)∧w'.cell? ⟨w.heap.size,2,none⟩=some (.int .i64 od.B)) (go_keep) ((go_at_call 42;refine (at_one M A _ X bo t h bd D S R ib V last (by exact HON0.out.kept (Kept.drew (fun _=>False) w0) (fun _ _ hf=>hf)) (by omega) bs HBS.out od.S HOP.out.S od.B HOP.out.B).mono ?_;rintro e w2 ⟨D2,S2,x,rfl,haft,hask,htold,hXb,hSb,hRb,hbob⟩;have HAFT:Hid (AftOne M w0.drew w2 bd bs S S2 D D2):=haft;have HASK:Hid _:=hask;have HTO:Hid _:=htold;have HBB:Hid _:=(⟨hXb,hSb,hRb,hbob⟩:X bs∧¬S bs∧¬R bs∧bs≠bo);clear haft hask htold hXb hSb hRb hbob;have HM2:Hid _:=mid_of HON0.out HX.out HB0.out HOP0.out HQ.out HS1.out HAFT.out HBB.out;have hc12:=HM2.out.head.c1;rw [HBS.out] at hc12;unfold ptr at hc12;have hq42:=HM2.out.box.c4;have hq22:=HM2.out.box.c2))
 have hc0:=HM2.out.head.c0
 rw [HON.out.hd] at hc0
 unfold ptr at hc0
 have hc2:=HM2.out.head.c2
 rw [HON.out.his] at hc2
 unfold ptr at hc2
 have hS2:∀k,S2 k→k<w.heap.size∨w0.heap.size≤k:=fun k hk=>(HAFT.out.foot k hk).imp (fun h=>HX.out k (HON0.out.sX k h)) (fun h=>h)
 have hS2l:∀k,S2 k→k<w2.heap.size:=fun k hk=>HAFT.out.disk.lt k hk
 have HS2:Hid _:=hS2
 have HS2L:Hid _:=hS2l
 have hsz2:w0.heap.size≤w2.heap.size:=HAFT.out.kept.size
 clear hS2 hS2l
 generalize hcc:shutE h.shut (ansE (keyB od.S.data.toList) (findV V.vs od.S od.B))=c at*
 have HCC:Hid _:=hcc
 clear hcc
 go_wp2_with fail
 obtain ⟨xa2,xp2,xbc2,xpc2,hdk2⟩:=HM2.out.disk
 refine (reads_any _ bd S2 D2 xa2 xp2 xbc2 xpc2 hdk2).mono ?_
 rintro e w9 ⟨rfl,hw9⟩
 rw [hw9]
 clear hw9 w9 hdk2
 go_wp2_with fail
 go_region_held3 (fun w'=>w'.cell? ⟨bo,2,none⟩=some (.pointer (some ⟨ib,0,none⟩))∧w'.cell? ⟨w.heap.size,4,none⟩=some (.string od.S)∧w'.cell? ⟨w.heap.size,2,none⟩=some (.int .i64 od.B)) (go_keep) ((go_at_call 107;refine (at_any _ R R ib V.vs last (by exact (HM2.out.kept (Kept.drew (fun _=>False) w2) (fun _ hf=>hf.elim)).ref) (by omega) od.S HOP.out.S od.B).mono ?_;rintro e w9 ⟨⟨x2,rfl,hbi⟩,hw9⟩;subst hw9;have HBI:Hid (BodyIs _ _ _ _ _):=hbi;clear hbi))
 have hk3:Kept (fun _=>False) w2 w2.drew:=⟨rfl,rfl,rfl,Nat.le_refl _,fun _ _ _=>rfl⟩
 have HK3:Hid _:=hk3
 have HM3:Hid _:=HM2.out.kept hk3 (fun _ hf=>hf.elim)
 have hk02:Kept (fun k=>S k∨k=bs) w w2:=((K0.out.mono (fun _ hf=>hf.elim)).trans (Kept.drew _ w0) (fun _ h=>.inl h)).trans HAFT.out.kept (fun _ h=>.inl h)
 have HK02:Hid _:=hk02
 have hbk3:Book w2.drew bp lv F H a b ca cb es vs:=(HBK.out.kept hk02 (fun i hi hc=>by
  rcases hc with hc|hc
  ·exact (HXF.out i (HON.out.sX i hc)).1 hi
  ·exact (HXF.out i (by rw [hc];exact HBB.out.1)).1 hi) (fun i hi hc=>by
  rcases hc with hc|hc
  ·exact (HXF.out i (HON.out.sX i hc)).2.1 hi
  ·exact (HXF.out i (by rw [hc];exact HBB.out.1)).2.1 hi) (fun hc=>by
  rcases hc with hc|hc
  ·exact (HXF.out bp (HON.out.sX bp hc)).2.2 rfl
  ·exact (HXF.out bs HBB.out.1).2.2 hc.symm)).kept hk3 (fun _ _ hf=>hf) (fun _ _ hf=>hf) (fun hf=>hf)
 have HBK3:Hid _:=hbk3
 have hXS:∀k,(X k∨S2 k)→¬F k∧¬H k∧k≠bp:=fun k hk=>by
  rcases hk with hk|hk
  ·exact HXF.out k hk
  ·rcases HAFT.out.foot k hk with h1|h1
   ·exact HXF.out k (HON.out.sX k h1)
   ·have h2:w0.heap.size≤k:=h1
    have h3:=HS1.out
    exact ⟨fun hc=>by have:=HBK.out.flt k hc;omega,fun hc=>by have:=HBK.out.hlt k hc;omega,fun hc=>by have:=HBK.out.head.lt;omega⟩
 have HXS:Hid _:=hXS
 have hXf:∀k,(X k∨S2 k)→X k∨w.heap.size≤k:=fun k hk=>by
  rcases hk with hk|hk
  ·exact .inl hk
  ·rcases HAFT.out.foot k hk with h1|h1
   ·exact .inl (HON.out.sX k h1)
   ·have h2:w0.heap.size≤k:=h1
    have h3:=HS1.out
    exact .inr (by omega)
 have HXf:Hid _:=hXf
 have hrd0:=HAFT.out.reads0
 have hrd1:=HAFT.out.reads1
 clear hk3 hk02 hbk3 hXS hXf
 go_wp2_with fail
 refine (refused_any _ bo h (by exact HM3.out.head) _).mono ?_
 rintro e w9 ⟨rfl,hw9⟩
 rw [hw9,HCC.out]
 clear hw9 w9
 have hkA:Kept (fun _=>False) w w0.drew:=K0.out.trans (Kept.drew _ w0) (fun _ h=>.inl h)
 have HKA:Hid _:=hkA
 clear hkA
 by_cases hc:c=0
 ·obtain ⟨u,a1,cap1,hu,hx,hrow,hnew⟩:=HTO.out.yes hc
  have ha0:=shutE_zero (HCC.out.trans hc)
  obtain ⟨u',a2,cap2,hu',hx2,hb2⟩:=HBI.out.1 ha0
  have e4:u'=u:=by rw [hu] at hu';cases hu';rfl
  subst e4
  have hub:u'.body.length≤300:=HON.out.good.body u' (find_some hu).2.2
  have HRW:Hid (w2.ownsRow 0 5 1 (.slice a1 u'.body.length cap1) u'.body.length (u'.body.map byteV)):=hrow
  have HNW:Hid _:=hnew
  have HB2:Hid (Bytes _ R a2 u'.body):=hb2
  have hc':(c !=0)=false:=by simpa using hc
  have HC:Hid _:=hc
  subst hx hx2
  clear hu hrow hnew ha0 hu' hb2 hc
  go_wp2_with fail
  refine (sameBytes_any _ (fun k=>w0.heap.size≤k) R a1 a2 cap1 cap2 u'.body (by exact (Bytes.of_own 5 HRW.out rfl _ (fun k hk=>(HNW.out k hk).1)).kept HK3.out (fun _ _ hf=>hf)) (by exact Bytes.kept HB2.out (T:=fun _=>False) ⟨rfl,rfl,rfl,Nat.le_refl _,fun _ _ _=>rfl⟩ (fun _ _ hf=>hf)) (by omega)).mono ?_
  rintro e w9 ⟨rfl,m10,hw9⟩
  rw [hw9]
  clear hw9 w9
  go_wp2_with fail
  have hown0:∀k,(Value.slice a1 u'.body.length cap1).ownBlock=some k→w.heap.size<k∧¬S2 k:=fun k hk=>by
   have h1:=HNW.out k hk
   have h2:w0.heap.size≤k:=h1.1
   have h3:=HS1.out
   exact ⟨by omega,h1.2⟩
  have HOW:Hid _:=hown0
  clear hown0
  refine (bytes_any _ bp lv F H (fun k=>(Value.slice a1 u'.body.length cap1).ownBlock=some k) a b ca cb es vs (by exact HBK3.out.kept (T:=fun _=>False) ⟨rfl,rfl,rfl,Nat.le_refl _,fun _ _ _=>rfl⟩ (fun _ _ hf=>hf) (fun _ _ hf=>hf) (fun hf=>hf)) (by omega) a1 u'.body.length cap1 (u'.body.map byteV) (by exact Kept.owns (S:=fun _=>False) ⟨rfl,rfl,rfl,Nat.le_refl _,fun _ _ _=>rfl⟩ HRW.out (fun _ _ hf=>hf)) (by omega) (fun k hk=>hk) (fun k hk=>by
   have h1:=(HOW.out k hk).1
   exact ⟨fun hc=>by have:=HBK.out.flt k hc;omega,fun hc=>by have:=HBK.out.hlt k hc;omega,fun hc=>by have:=HBK.out.head.lt;omega⟩)).mono ?_
  rintro e w7 ⟨rfl,⟨a7,ca7,es7,F7,hbk7,hl7,hF7⟩,hk7⟩
  have HBK7:Hid _:=hbk7
  have HF7:Hid _:=hF7
  have HK7:Hid (Kept (fun k=>F k∨(Value.slice a1 u'.body.length cap1).ownBlock=some k∨k=bp) w2 w7):=⟨hk7.os,hk7.tape,hk7.output,hk7.size,hk7.block⟩
  clear hbk7 hF7 hk7
  go_wp2
  go_ret
  have hXlt:=HX.out
  refine ⟨ret_bool (decide_eq_true (by omega)),⟨_,F7,a7,ca7,es7,ask_done M w w0.drew w2 w7 X bo t h bd D D2 S S2 R ib V last HON.out bs HBS.out HKA.out (Nat.le_of_lt HS1.out) HAFT.out HBB.out HASK.out _ HK7.out (fun k hk=>?_),HBK7.out,by omega,HXf.out,fun k hk=>?_,fun k hk=>⟨fun hf=>?_,(HXS.out k hk).2.1,(HXS.out k hk).2.2⟩⟩,(HK02.out.mono (fun k hk=>.inl (hk.elim (HON.out.sX k) (fun e=>by rw [e];exact HBB.out.1)))).trans HK7.out (fun k hk=>?_)⟩
  ·rcases hk with hk|hk|hk
   ·exact ⟨fun hc=>(HXF.out k hc).1 hk,fun hc=>(HXS.out k (.inr hc)).1 hk⟩
   ·have h1:=HOW.out k hk
    exact ⟨fun hc=>by have:=hXlt k hc;omega,h1.2⟩
   ·exact ⟨fun hc=>(HXF.out k hc).2.2 hk,fun hc=>(HXS.out k (.inr hc)).2.2 hk⟩
  ·rcases HF7.out k hk with h1|h1|h1
   ·exact .inl h1
   ·have:=(HOW.out k h1).1;exact .inr (by omega)
   ·have h2:w2.heap.size≤k:=h1
    have h3:=HS1.out
    exact .inr (by omega)
  ·rcases HF7.out k hf with h1|h1|h1
   ·exact (HXS.out k hk).1 h1
   ·have h2:=HOW.out k h1
    rcases hk with hk|hk
    ·have:=hXlt k hk;omega
    ·exact h2.2 hk
   ·have h2:w2.heap.size≤k:=h1
    have h3:=HS1.out
    rcases hk with hk|hk
    ·have:=hXlt k hk;omega
    ·have:=HS2L.out k hk;omega
  ·rcases hk with hk|hk|hk
   ·exact .inl (.inr (.inl hk))
   ·have:=(HOW.out k hk).1;exact .inr (by omega)
   ·exact .inl (.inr (.inr hk))
 ·obtain ⟨a1,cap1,hx⟩:=HTO.out.no hc
  have e2:(c !=0)=true:=by simpa using hc
  subst hx
  clear hc
  go_wp2
  go_ret
  exact ⟨rfl,⟨_,F,a,ca,es,ask_done M w w0.drew w2 _ X bo t h bd D D2 S S2 R ib V last HON.out bs HBS.out HKA.out (Nat.le_of_lt HS1.out) HAFT.out HBB.out HASK.out (fun _=>False) HK3.out (fun _ hf=>hf.elim),HBK3.out,by omega,HXf.out,fun k hk=>.inl hk,HXS.out⟩,
   (HK02.out.mono (fun k hk=>.inl (hk.elim (HON.out.sX k) (fun e=>by rw [e];exact HBB.out.1)))).trans HK3.out (fun _ hf=>hf.elim)⟩
end Go.Proofs.YtcoengihaobddaaGreatDoor.law
namespace Go.Proofs.YtcoengihaobddaaGreatDoor.law
open Go.RowKit disk ref book
set_option linter.unusedVariables false
structure PlaysIn (M:Meaning) (w:World) (base bp t:Nat) (ones:List (Nat×(Nat→Prop))) (la:Option Addr) (lc:Nat) (F H:Nat→Prop) (a b:Option Addr) (ca cb:Nat) (es vs:List Ent):Prop where
 row:w.ownsRow 0 120 1 (.slice la ones.length lc) ones.length (ones.map fun o=>ptr o.1)
 book:Book w bp (.slice la ones.length lc) F H a b ca cb es vs
 one:∀i (hi:i<ones.length),One M w ones[i].2 ones[i].1 t
 apart:∀i j (hi:i<ones.length) (hj:j<ones.length),i≠j→∀k,ones[i].2 k→¬ones[j].2 k
 sep:∀i (hi:i<ones.length) k,ones[i].2 k→¬F k∧¬H k∧k≠bp
 rsep:∀i (hi:i<ones.length) k,ones[i].2 k→(Value.slice la ones.length lc).ownBlock≠some k
 rowF:∀k,(Value.slice la ones.length lc).ownBlock=some k→¬F k∧¬H k∧k≠bp∧base≤k
 bX:∀i (hi:i<ones.length) k,ones[i].2 k→base≤k
 bF:∀k,F k→base≤k
 bH:∀k,H k→base≤k
 bP:base≤bp
 fewE:es.length≤t
 fewV:vs.length≤t
 fewO:ones.length≤t
def Plays (M:Meaning) (w:World) (base bp t:Nat):Prop:=∃ones la lc F H a b ca cb es vs,PlaysIn M w base bp t ones la lc F H a b ca cb es vs
theorem One.lt {M:Meaning} {w:World} {X:Nat→Prop} {bo t:Nat} (o:One M w X bo t):∀k,X k→k<w.heap.size:=by
 obtain ⟨h,bd,D,S,R,ib,V,last,o⟩:=o;exact o.xlt
theorem PlaysIn.asked {M:Meaning} {w w':World} {base bp t:Nat} {ones:List (Nat×(Nat→Prop))} {la:Option Addr} {lc:Nat} {F H:Nat→Prop} {a b:Option Addr} {ca cb:Nat} {es vs:List Ent} (p:PlaysIn M w base bp t ones la lc F H a b ca cb es vs) (hbase:base≤w.heap.size) (i:Nat) (hi:i<ones.length)
 {e:Ending} (s:Asked M w w' ones[i].2 ones[i].1 t bp (.slice la ones.length lc) F H b cb es vs e):e=.returned (.bool true)∧Plays M w' base bp (t+1)∧Kept (fun k=>base≤k) w w':=by
 obtain ⟨hret,⟨X',F',a',ca',es',hone,hbook,hes,hX',hF',hXF⟩,hk⟩:=s
 have hxlt:∀j (hj:j<ones.length) k,ones[j].2 k→k<w.heap.size:=fun j hj=>(p.one j hj).lt
 have hrlt:∀k,(Value.slice la ones.length lc).ownBlock=some k→k<w.heap.size:=fun k hk=>(p.row.lt k hk).2
 have hget:∀j (hj:j<(ones.set i (ones[i].1,X')).length),(j=i∧(ones.set i (ones[i].1,X'))[j]=(ones[i].1,X'))∨(∃hj':j<ones.length,j≠i∧(ones.set i (ones[i].1,X'))[j]=ones[j]):=fun j hj=>by
  by_cases e1:j=i
  ·subst e1;exact .inl ⟨rfl,by simp⟩
  ·exact .inr ⟨by simpa using hj,e1,List.getElem_set_ne (Ne.symm e1) _⟩
 have hlen:(ones.set i (ones[i].1,X')).length=ones.length:=List.length_set ..
 have hfl:=p.book.flt
 refine ⟨hret,⟨ones.set i (ones[i].1,X'),la,lc,F',H,a',b,ca',cb,es',vs,?_,?_,fun j hj=>?_,fun j k hj hk' hjk x hx=>?_,fun j hj x hx=>?_,fun j hj x hx=>?_,fun k hk'=>?_,fun j hj x hx=>?_,fun k hk'=>?_,p.bH,p.bP,?_,?_,?_⟩,⟨hk.os,hk.tape,hk.output,hk.size,fun k hk1 hk2=>hk.block k hk1 (fun hc=>hk2 ?_)⟩⟩
 ·rw [hlen]
  have e1:(ones.set i (ones[i].1,X')).map (fun o=>ptr o.1)=ones.map fun o=>ptr o.1:=by
   rw [List.map_set]
   apply List.ext_getElem (by simp)
   intro j h1 h2
   simp only [List.getElem_set,List.getElem_map]
   split
   next e2=>subst e2;rfl
   next=>rfl
  rw [e1]
  exact hk.owns p.row (fun k hk1 hc=>by
   have h1:=p.rowF k hk1
   rcases hc with hc|hc|hc
   ·exact p.rsep i hi k hc hk1
   ·exact h1.1 hc
   ·exact h1.2.2.1 hc)
 ·rw [hlen];exact hbook
 ·rcases hget j hj with ⟨e1,e2⟩|⟨hj',e1,e2⟩
  ·subst e1;rw [e2];exact hone
  ·rw [e2]
   refine ((p.one j hj').kept hk (fun k hk1 hc=>?_)).later (by omega)
   rcases hc with hc|hc|hc
   ·exact p.apart i j hi hj' (Ne.symm e1) k hc hk1
   ·exact (p.sep j hj' k hk1).1 hc
   ·exact (p.sep j hj' k hk1).2.2 hc
 ·rcases hget j hj with ⟨e1,e2⟩|⟨hj',e1,e2⟩<;>rcases hget k hk' with ⟨e3,e4⟩|⟨hk'',e3,e4⟩<;>rw [e2] at hx<;>rw [e4]
  ·omega
  ·intro hc
   rcases hX' x hx with h1|h1
   ·exact p.apart i k hi hk'' (Ne.symm e3) x h1 hc
   ·have:=hxlt k hk'' x hc;omega
  ·intro hc
   rcases hX' x hc with h1|h1
   ·exact p.apart j i hj' hi e1 x hx h1
   ·have:=hxlt j hj' x hx;omega
  ·exact p.apart j k hj' hk'' hjk x hx
 ·rcases hget j hj with ⟨e1,e2⟩|⟨hj',e1,e2⟩<;>rw [e2] at hx
  ·exact hXF x hx
  ·refine ⟨fun hc=>?_,(p.sep j hj' x hx).2.1,(p.sep j hj' x hx).2.2⟩
   rcases hF' x hc with h1|h1
   ·exact (p.sep j hj' x hx).1 h1
   ·have:=hxlt j hj' x hx;omega
 ·rw [hlen]
  intro hc
  rcases hget j hj with ⟨e1,e2⟩|⟨hj',e1,e2⟩<;>rw [e2] at hx
  ·rcases hX' x hx with h1|h1
   ·exact p.rsep i hi x h1 hc
   ·have:=hrlt x hc;omega
  ·exact p.rsep j hj' x hx hc
 ·rw [hlen] at hk'
  have h1:=p.rowF k hk'
  refine ⟨fun hc=>?_,h1.2⟩
  rcases hF' k hc with h2|h2
  ·exact h1.1 h2
  ·have:=hrlt k hk';omega
 ·rcases hget j hj with ⟨e1,e2⟩|⟨hj',e1,e2⟩<;>rw [e2] at hx
  ·rcases hX' x hx with h1|h1
   ·exact p.bX i hi x h1
   ·omega
  ·exact p.bX j hj' x hx
 ·rcases hF' k hk' with h1|h1
  ·exact p.bF k h1
  ·omega
 ·have:=p.fewE;omega
 ·have:=p.fewV;omega
 ·rw [hlen];have:=p.fewO;omega
 ·rcases hc with hc|hc|hc
  ·exact p.bX i hi k hc
  ·exact p.bF k hc
  ·rw [hc];exact p.bP
theorem PlaysIn.stepped {M:Meaning} {w w':World} {base bp t:Nat} {ones:List (Nat×(Nat→Prop))} {la:Option Addr} {lc:Nat} {F H:Nat→Prop} {a b:Option Addr} {ca cb:Nat} {es vs:List Ent} (p:PlaysIn M w base bp t ones la lc F H a b ca cb es vs) (hbase:base≤w.heap.size) (i:Nat) (hi:i<ones.length)
 {e:Ending} (s:Stepped M w w' ones[i].2 ones[i].1 t e):e=.returned (.bool true)∧Plays M w' base bp (t+1)∧Kept (fun k=>base≤k) w w':=by
 obtain ⟨X',hone,hX'⟩:=s.one
 refine p.asked hbase i hi ⟨s.ret,⟨X',F,a,ca,es,hone,p.book.kept s.kept (fun k hk hc=>(p.sep i hi k hc).1 hk) (fun k hk hc=>(p.sep i hi k hc).2.1 hk) (fun hc=>(p.sep i hi bp hc).2.2 rfl),by omega,hX',fun k hk=>.inl hk,fun k hk=>?_⟩,s.kept.mono (fun k hk=>.inl hk)⟩
 rcases hX' k hk with h1|h1
 ·exact p.sep i hi k h1
 ·exact ⟨fun hc=>by have:=p.book.flt k hc;omega,fun hc=>by have:=p.book.hlt k hc;omega,fun hc=>by have:=p.book.head.lt;omega⟩
theorem PlaysIn.idle {M:Meaning} {w w':World} {base bp t:Nat} {ones:List (Nat×(Nat→Prop))} {la:Option Addr} {lc:Nat} {F H:Nat→Prop} {a b:Option Addr} {ca cb:Nat} {es vs:List Ent} (p:PlaysIn M w base bp t ones la lc F H a b ca cb es vs) (k:Kept (fun _=>False) w w'):Plays M w' base bp (t+1)∧Kept (fun k=>base≤k) w w':=
 ⟨⟨ones,la,lc,F,H,a,b,ca,cb,es,vs,k.owns p.row (fun _ _ hf=>hf),p.book.kept k (fun _ _ hf=>hf) (fun _ _ hf=>hf) (fun hf=>hf),fun i hi=>((p.one i hi).kept k (fun _ _ hf=>hf)).later (by omega),p.apart,p.sep,p.rsep,p.rowF,p.bX,p.bF,p.bH,p.bP,by have:=p.fewE;omega,by have:=p.fewV;omega,by have:=p.fewO;omega⟩,k.mono (fun _ hf=>hf.elim)⟩
theorem PlaysIn.push {M:Meaning} {w w5:World} {base bp t:Nat} {ones:List (Nat×(Nat→Prop))} {la:Option Addr} {lc:Nat} {F H:Nat→Prop} {a b:Option Addr} {ca cb:Nat} {es vs:List Ent} (p:PlaysIn M w base bp t ones la lc F H a b ca cb es vs) (hbase:base≤w.heap.size) (bo:Nat) (X:Nat→Prop) (g c:Nat)
 (hown:w5.ownsRow 0 120 1 (.slice (some ⟨g,0,none⟩) (ones.length+1) c) (ones.length+1) (ones.map (fun o=>ptr o.1)++[ptr bo])) (k5:Kept (fun k=>(Value.slice la ones.length lc).ownBlock=some k) w w5) (hat:(Value.slice la ones.length lc).ownBlock=some g∨w.heap.size≤g)
 (hone:One M w5 X bo (t+1)) (hX:∀k,X k→w.heap.size≤k∧k≠g):
 Plays M (w5.setCell ⟨bp,0,none⟩ (.slice (some ⟨g,0,none⟩) (ones.length+1) c)) base bp (t+1)∧Kept (fun k=>base≤k) w (w5.setCell ⟨bp,0,none⟩ (.slice (some ⟨g,0,none⟩) (ones.length+1) c)):=by
 have k6:=Kept.setCell (S:=fun k=>k=bp) w5 ⟨bp,0,none⟩ (.slice (some ⟨g,0,none⟩) (ones.length+1) c) rfl
 have hbp:=p.book.head.lt
 have hxlt:∀j (hj:j<ones.length) k,ones[j].2 k→k<w.heap.size:=fun j hj=>(p.one j hj).lt
 have hlen:(ones++[(bo,X)]).length=ones.length+1:=by simp
 have hfl:=p.book.flt
 have hhl:=p.book.hlt
 have hgF:¬F g∧¬H g∧g≠bp∧base≤g:=by
  rcases hat with h1|h1
  ·exact p.rowF g h1
  ·exact ⟨fun hc=>by have:=hfl g hc;omega,fun hc=>by have:=hhl g hc;omega,by omega,by omega⟩
 have hcase:∀i (hi:i<(ones++[(bo,X)]).length),(∃hi':i<ones.length,(ones++[(bo,X)])[i]=ones[i])∨(i=ones.length∧(ones++[(bo,X)])[i]=(bo,X)):=fun i hi=>by
  by_cases h1:i<ones.length
  ·exact .inl ⟨h1,List.getElem_append_left h1⟩
  ·right
   have e1:i=ones.length:=by omega
   subst e1
   exact ⟨rfl,by simp⟩
 have hb5:=p.book.kept k5 (fun k hk hc=>(p.rowF k hc).1 hk) (fun k hk hc=>(p.rowF k hc).2.1 hk) (fun hc=>(p.rowF bp hc).2.2.1 rfl)
 refine ⟨⟨ones++[(bo,X)],some ⟨g,0,none⟩,c,F,H,a,b,ca,cb,es,vs,?_,?_,fun j hj=>?_,fun j k hj hk' hjk x hx=>?_,fun j hj x hx=>?_,fun j hj x hx=>?_,fun k hk'=>?_,fun j hj x hx=>?_,p.bF,p.bH,p.bP,by have:=p.fewE;omega,by have:=p.fewV;omega,by rw [hlen];have:=p.fewO;omega⟩,
  ((k5.mono (fun k hk=>(p.rowF k hk).2.2.2)).trans k6 (fun k hk=>.inl (by rw [hk];exact p.bP)))⟩
 ·rw [hlen,List.map_append]
  exact k6.owns hown (fun k hk e1=>by simp [Value.ownBlock] at hk;have:=hgF.2.2.1;omega)
 ·rw [hlen]
  have hb6:PlayHead (w5.setCell ⟨bp,0,none⟩ (.slice (some ⟨g,0,none⟩) (ones.length+1) c)) bp (.slice (some ⟨g,0,none⟩) (ones.length+1) c) (.slice a es.length ca) (.slice b vs.length cb):=⟨by rw [heap_setCell_same w5 bp 0 _ _ _ hb5.head.head];rfl⟩
  exact ⟨hb6,hb5.bytes.kept k6 (fun i hi e1=>hb5.fbp (by rw [←e1];exact hi)),hb5.rows.kept k6 (fun i hi e1=>hb5.hbp (by rw [←e1];exact hi)),hb5.fbp,hb5.hbp,hb5.apart,hb5.few,hb5.few2,fun i hi=>Nat.lt_of_lt_of_le (hb5.flt i hi) k6.size,fun i hi=>Nat.lt_of_lt_of_le (hb5.hlt i hi) k6.size⟩
 ·rcases hcase j hj with ⟨hj',e2⟩|⟨e1,e2⟩<;>rw [e2]
  ·exact (((p.one j hj').kept k5 (fun k hk hc=>p.rsep j hj' k hk hc)).kept k6 (fun k hk hc=>(p.sep j hj' k hk).2.2 hc)).later (by omega)
  ·exact hone.kept k6 (fun k hk hc=>by have:=(hX k hk).1;omega)
 ·rcases hcase j hj with ⟨hj',e2⟩|⟨e1,e2⟩<;>rcases hcase k hk' with ⟨hk'',e4⟩|⟨e3,e4⟩<;>rw [e2] at hx<;>rw [e4]
  ·exact p.apart j k hj' hk'' hjk x hx
  ·intro hc;have:=(hX x hc).1;have:=hxlt j hj' x hx;omega
  ·intro hc;have:=(hX x hx).1;have:=hxlt k hk'' x hc;omega
  ·omega
 ·rcases hcase j hj with ⟨hj',e2⟩|⟨e1,e2⟩<;>rw [e2] at hx
  ·exact p.sep j hj' x hx
  ·have h1:=(hX x hx).1
   exact ⟨fun hc=>by have:=hfl x hc;omega,fun hc=>by have:=hhl x hc;omega,by omega⟩
 ·rw [hlen]
  simp only [Value.ownBlock,ne_eq,Option.some.injEq]
  intro e3
  rcases hcase j hj with ⟨hj',e2⟩|⟨e1,e2⟩<;>rw [e2] at hx
  ·rcases hat with h1|h1
   ·exact p.rsep j hj' x hx (by rw [←e3];exact h1)
   ·have:=hxlt j hj' x hx;omega
  ·exact (hX x hx).2 e3.symm
 ·rw [hlen] at hk'
  simp only [Value.ownBlock,Option.some.injEq] at hk'
  rw [←hk'];exact hgF
 ·rcases hcase j hj with ⟨hj',e2⟩|⟨e1,e2⟩<;>rw [e2] at hx
  ·exact p.bX j hj' x hx
  ·have:=(hX x hx).1;omega
end Go.Proofs.YtcoengihaobddaaGreatDoor.law
namespace Go.Proofs.YtcoengihaobddaaGreatDoor.law
open Go.ChangeShapes Go.WideShapes Go.ChangeAt Go.RowKit disk ref book
open keys (ret_int ret_bool beq_no beq_yes keyB)
set_option linter.unusedVariables false
set_option maxRecDepth 8000
theorem Tryz.infoPone:(Tryz.prog.info? 120).map (fun i=>(i.zero,i.size,i.bytes))=some (some (.pointer none),1,8):=by kernel_rfl
theorem heap_alloc3_new (w:World) (a b c:Obj):(((w.alloc a).alloc b).alloc c).heap[w.heap.size+1+1]? =some c:=by
 have:=heap_alloc_new ((w.alloc a).alloc b) c;simpa using this
theorem kept_alloc3 (S:Nat→Prop) (w:World) (a b c:Obj):Kept S w (((w.alloc a).alloc b).alloc c):=((Kept.alloc S w a).trans (Kept.alloc S _ b) (fun _ h=>.inl h)).trans (Kept.alloc S _ c) (fun _ h=>.inl h)
def pickI (c n:Int):Int:=if c<0 then (-(c+1)).tmod n else c.tmod n
theorem pickI_bd (c n:Int) (hn:0<n):0≤pickI c n∧pickI c n<n:=by
 unfold pickI
 split
 ·exact ⟨Int.tmod_nonneg n (by omega),Int.tmod_lt_of_pos _ hn⟩
 ·exact ⟨Int.tmod_nonneg n (by omega),Int.tmod_lt_of_pos _ hn⟩
theorem pick_any (w:World) (c n:Int) (hc:IntOk c) (hn:0<n) (hn2:n≤9223372036854775807):
 Calls Tryz.prog 58 #[.int .i64 c,.int .i64 n] w fun e w'=>e=.returned (.int .i64 (pickI c n))∧w'=w:=by
 obtain ⟨h1,h2⟩:=hc
 by_cases h:c<0
 ·have hp:pickI c n=(-(c+1)).tmod n:=if_pos h
  have g3:(-(c+1)).tmod n= -((c+1).tmod n):=Int.neg_tmod ..
  have HPI:Hid _:=hp
  have HG:Hid _:=g3
  clear hp g3
  go_enter Tryz.func58,Tryz.ntmps58
  go_wp2
  go_ret
  exact ⟨ret_int (by rw [HPI.out];first|rfl|rw [HG.out]),rfl⟩
 ·have hp:pickI c n=c.tmod n:=if_neg h
  have g3:c.tmod n=c%n:=Int.tmod_eq_emod_of_nonneg (by omega)
  have HPI:Hid _:=hp
  have HG:Hid _:=g3
  clear hp g3
  go_enter Tryz.func58,Tryz.ntmps58
  go_wp2
  go_ret
  exact ⟨ret_int (by rw [HPI.out];first|rfl|rw [HG.out]),rfl⟩
theorem pick_is (c n:Int) (hc:IntOk c) (hn:0<n) (hn2:n≤9223372036854775807):∃i:Nat,(i:Int)<n∧∀w,Calls Tryz.prog 58 #[.int .i64 c,.int .i64 n] w fun e w'=>e=.returned (.int .i64 (i:Int))∧w'=w:=by
 obtain ⟨b1,b2⟩:=pickI_bd c n hn
 obtain ⟨i,hi⟩:=Int.eq_ofNat_of_zero_le b1
 exact ⟨i,by omega,fun w=>by rw [←hi];exact pick_any w c n hc hn hn2⟩
def newH (bd bs rb:Nat):OneH:=⟨ptr bd,ptr bs,ptr rb,.pointer none,.string ByteArray.empty,.int .i64 0,.bool false,.slice none 0 0,0,0,false⟩
theorem new_one (M:Meaning) (w1 w2 w5:World) (bd bs B:Nat) (S2 T:Nat→Prop) (D2:Dk) (o:Obj) (t:Nat) (hd:Disk w2 bd S2 D2) (hSbs:¬S2 bs) (sto:M.Sto w2 bs (some bd)) (live:M.Live D2 ⟨[],0⟩) (hr0:0≤D2.reads) (hr1:D2.reads≤2000) (fu:M.Fu D2.fuse)
 (k5:Kept T (((w2.alloc (.cells #[.slice none 0 0,.int .i64 0] 164)).alloc (.cells (newH bd bs w2.heap.size).cells 125)).alloc o) w5) (hT:∀k,T k→k<B) (hS:∀k,S2 k→B≤k) (hbs:B≤bs) (hB:B≤w2.heap.size):
 One M w5 (fun k=>S2 k∨k=bs∨k=w2.heap.size∨k=w2.heap.size+1) (w2.heap.size+1) (t+1):=by
 have k3:=kept_alloc3 T w2 (.cells #[.slice none 0 0,.int .i64 0] 164) (.cells (newH bd bs w2.heap.size).cells 125) o
 have k25:=k3.trans k5 (fun _ h=>.inl h)
 have hsl:=M.sto_lt _ _ _ sto
 have hSl:∀k,S2 k→k<w2.heap.size:=fun k hk=>hd.lt k hk
 have hb1:(((w2.alloc (.cells #[.slice none 0 0,.int .i64 0] 164)).alloc (.cells (newH bd bs w2.heap.size).cells 125)).alloc o).heap[w2.heap.size]? =some (.cells #[.slice none 0 0,.int .i64 0] 164 (0,0)):=by
  have e1:=(Kept.alloc (fun _=>False) ((w2.alloc (.cells #[.slice none 0 0,.int .i64 0] 164)).alloc (.cells (newH bd bs w2.heap.size).cells 125)) o).block w2.heap.size (by simp;omega) (fun hf=>hf)
  have e2:=(Kept.alloc (fun _=>False) (w2.alloc (.cells #[.slice none 0 0,.int .i64 0] 164)) (.cells (newH bd bs w2.heap.size).cells 125)).block w2.heap.size (by simp) (fun hf=>hf)
  rw [e1,e2];exact heap_alloc_new w2 _
 have hb2:(((w2.alloc (.cells #[.slice none 0 0,.int .i64 0] 164)).alloc (.cells (newH bd bs w2.heap.size).cells 125)).alloc o).heap[w2.heap.size+1]? =some (.cells (newH bd bs w2.heap.size).cells 125 (0,0)):=by
  have e1:=(Kept.alloc (fun _=>False) ((w2.alloc (.cells #[.slice none 0 0,.int .i64 0] 164)).alloc (.cells (newH bd bs w2.heap.size).cells 125)) o).block (w2.heap.size+1) (by simp) (fun hf=>hf)
  rw [e1]
  have:=heap_alloc_new (w2.alloc (.cells #[.slice none 0 0,.int .i64 0] 164)) (.cells (newH bd bs w2.heap.size).cells 125)
  simpa using this
 have hs5:=k5.size
 have hs3:(((w2.alloc (.cells #[.slice none 0 0,.int .i64 0] 164)).alloc (.cells (newH bd bs w2.heap.size).cells 125)).alloc o).heap.size=w2.heap.size+3:=by simp
 have href:RefAt (((w2.alloc (.cells #[.slice none 0 0,.int .i64 0] 164)).alloc (.cells (newH bd bs w2.heap.size).cells 125)).alloc o) (fun k=>k=w2.heap.size) (fun k=>k=w2.heap.size) w2.heap.size [] 0:=
  ⟨none,0,[],hb1,World.ownsRow_nil _ _ _ _,Tells.nil _ _,rfl,fun k hk=>(by cases hk),by simp [Value.ownBlock]⟩
 refine ⟨newH bd bs w2.heap.size,bd,D2,S2,fun k=>k=w2.heap.size,w2.heap.size,⟨[],0⟩,0,⟨(k5.block _ (by rw [hs3];omega) (fun hc=>by have:=hT _ hc;omega)).trans hb2⟩,rfl,rfl,hd.kept k25 (fun i hi hc=>by have:=hT i hc;have:=hS i hi;omega),
  href.kept k5 (fun i hi hc=>by have:=hT i hc;omega) (fun i hi hc=>by have:=hT i hc;omega),fun k hk=>.inl hk,fun k hk=>⟨.inr (.inr (.inl hk)),fun hc=>by have:=hSl k hc;omega,by omega⟩,.inr (.inr (.inr rfl)),fun hc=>by have:=hSl _ hc;omega,fun k hk=>?_,Int.le_refl _,fun v hv=>(by cases hv),Int.le_refl _,Int.le_refl _,Int.le_refl _,?_,hr0,by omega,fu,live.good,live.big,
  .live bs rfl (.inr (.inl rfl)) hSbs (by omega) (by omega) (M.sto_kept _ _ _ _ _ sto k25 (fun hc=>by have:=hT _ hc;omega)) rfl rfl live⟩
 ·rcases hk with hk|hk|hk|hk
  ·have:=hSl k hk;omega
  ·omega
  ·omega
  ·omega
 ·show (0:Int)+0≤((t+1:Nat):Int);omega
set_option maxHeartbeats 4000000 in
theorem opened_live (M:Meaning) (A:ApiOpen M) (hnd:∀f,M.Fu f→f≠0) (w:World) (base bp t:Nat) (ones:List (Nat×(Nat→Prop))) (la:Option Addr) (lc:Nat) (F H:Nat→Prop) (a b:Option Addr) (ca cb:Nat) (es vs:List Ent) (p:PlaysIn M w base bp t ones la lc F H a b ca cb es vs) (hbase:base≤w.heap.size) (ht:t≤2199023255552)
 (od:OpD) (Q:Nat→Prop) (hop:od.Ok w Q) (hC:od.C≤0):
 Calls Tryz.prog 56 #[.pointer (some ⟨bp,0,none⟩),.agg #[.int .i64 od.kind,.int .i64 od.A,.int .i64 od.B,.int .i64 od.C,.string od.S,.string od.P,.slice od.la od.l.length od.lc,.slice od.ka od.ks.length od.kc]] w fun e w'=>e=.returned (.bool true)∧Plays M w' base bp (t+1)∧Kept (fun k=>base≤k) w w':=by
 have k0:Kept (fun _=>False) w (w.alloc (.cells #[.int .i64 od.kind,.int .i64 od.A,.int .i64 od.B,.int .i64 od.C,.string od.S,.string od.P,.slice od.la od.l.length od.lc,.slice od.ka od.ks.length od.kc] 81)):=Kept.alloc _ _ _
 have hb0:Boxd (w.alloc (.cells #[.int .i64 od.kind,.int .i64 od.A,.int .i64 od.B,.int .i64 od.C,.string od.S,.string od.P,.slice od.la od.l.length od.lc,.slice od.ka od.ks.length od.kc] 81)) w.heap.size od:=⟨heap_alloc_new w _⟩
 have hq2:=hb0.c2
 have HB0:Hid _:=hb0
 have HOP:Hid _:=hop
 have HP:Hid _:=p
 have K0:Hid _:=k0
 have HND:Hid _:=hnd
 have hs1:(w.alloc (.cells #[.int .i64 od.kind,.int .i64 od.A,.int .i64 od.B,.int .i64 od.C,.string od.S,.string od.P,.slice od.la od.l.length od.lc,.slice od.ka od.ks.length od.kc] 81)).heap.size=w.heap.size+1:=by simp
 have HS1:Hid _:=hs1
 clear k0 hb0 hop p hnd hs1
 generalize hW0:w.alloc (.cells #[.int .i64 od.kind,.int .i64 od.A,.int .i64 od.B,.int .i64 od.C,.string od.S,.string od.P,.slice od.la od.l.length od.lc,.slice od.ka od.ks.length od.kc] 81)=w0 at*
 go_enter Tryz.func56,Tryz.ntmps56
 go_wp2_with fail
 refine (new_any _ od.B HOP.out.B).mono ?_
 rintro e w1 ⟨rfl,hd1,hk1⟩
 rw [HS1.out] at hd1 ⊢
 have hb1:=HB0.out.kept hk1 (fun hf=>hf)
 have hq3:=hb1.c3
 have HD1:Hid _:=hd1
 have HK1:Hid _:=hk1
 have HB1:Hid _:=hb1
 clear hd1 hk1 hb1
 by_cases hsm:sized od.B<64
 ·go_wp2_with fail
  refine (A.small _ _ _ _ HD1.out (by simpa [Dk.fresh] using hsm)).mono ?_
  rintro e w2 ⟨rfl,hd2,hk2⟩
  have HD2:Hid _:=hd2
  have HK2:Hid _:=hk2
  clear hd2 hk2
  obtain ⟨xa,xp,xbc,xpc,hdk⟩:=HD2.out
  have HDK:Hid _:=hdk
  clear hdk
  go_wp2_with fail
  refine (blocks_any _ _ _ _ xa xp xbc xpc HDK.out).mono ?_
  rintro e w9 ⟨rfl,hw9⟩
  rw [hw9]
  clear hw9 w9
  have hlt:(((Dk.fresh (sized od.B)).bs.length:Nat):Int)<64:=by simp [Dk.fresh];omega
  generalize (Dk.fresh (sized od.B)).bs.length=nn at*
  go_wp2
  go_ret
  exact ⟨rfl,HP.out.idle ((K0.out.trans HK1.out (fun _ h=>.inl h)).trans HK2.out (fun _ h=>.inl h))⟩
 ·go_wp2_with fail
  have hcould:M.Could (Dk.fresh (sized od.B)) (fun U=>U=⟨[],0⟩):=by
   have h1:sized od.B≤1000:=by unfold sized;split<;>omega
   exact ⟨by simp [Dk.fresh],by simp [Dk.fresh];omega,fun ks=>⟨_,rfl,M.zeros (sized od.B) (by omega) h1⟩⟩
  refine (A.big _ _ _ _ _ HD1.out hcould M.fu_neg (by simp [Dk.fresh]) (by simp [Dk.fresh])).mono ?_
  rintro e w2 ⟨D2,S2,hopd,hout⟩
  rcases hout with ⟨bs,V,rfl,hbs,hSbs,hsto,rfl,hlive⟩|⟨_,hf0,_⟩
  ·have kw2:Kept (fun _=>False) w w2:=(K0.out.trans HK1.out (fun _ h=>.inl h)).trans hopd.kept (fun k hk=>.inr (by rcases hk with hk|hk<;>omega))
   have hc0:=(HP.out.book.head.kept kw2 (fun hf=>hf)).c.1
   have hf0:=(HP.out.book.head.kept kw2 (fun hf=>hf)).c.2.2.2 0
   have hbp2:=(HP.out.book.head.kept kw2 (fun hf=>hf)).lt
   have hsz:D2.bs.length=sized od.B:=by have:=hopd.size;simpa [Dk.fresh] using this
   have hrd0:0≤D2.reads:=by have:=hopd.reads0;simpa [Dk.fresh] using this
   have hrd1:D2.reads≤2*D2.bs.length:=by have:=hopd.reads1;rw [hsz];simpa [Dk.fresh] using this
   have hfew:D2.bs.length≤1000:=hopd.disk.ok.few
   have hge:(64:Int)≤D2.bs.length:=by omega
   have hrow2:=kw2.owns HP.out.row (fun _ _ hf=>hf)
   have HRW:Hid (w2.ownsRow 0 120 1 (.slice la ones.length lc) ones.length (ones.map fun o=>ptr o.1)):=hrow2
   have HOPD:Hid _:=hopd
   have HKW:Hid _:=kw2
   have HLI:Hid _:=hlive
   have HST:Hid _:=hsto
   have HBS:Hid _:=(⟨hbs,hSbs⟩:_∧_)
   obtain ⟨i0,hi0,hz0,hz1,hz2⟩:=info_of Tryz.infoPone
   have HI0:Hid (Tryz.prog.info? 120=some i0∧i0.zero=some (.pointer none)∧i0.size=1∧i0.bytes=8):=⟨hi0,hz0,hz1,hz2⟩
   have hfo:=HP.out.fewO
   clear hi0 hz0 hz1 hz2 hopd kw2 hlive hsto hbs hSbs hrow2 hsz hcould hsm
   obtain ⟨xa,xp,xbc,xpc,hdk⟩:=HOPD.out.disk
   have HDK:Hid _:=hdk
   clear hdk
   go_wp2_with (first
    |(go_at_call 54;refine (blocks_any _ _ _ _ xa xp xbc xpc HDK.out).mono ?_;rintro e w9 ⟨rfl,hw9⟩;rw [hw9];clear hw9 w9)
    |(go_at_call 86;refine (reads_any _ _ _ _ xa xp xbc xpc HDK.out).mono ?_;rintro e w9 ⟨rfl,hw9⟩;rw [hw9];clear hw9 w9)
    |(refine wpList_append_lies _ rfl (.tmp 52) (.tmp 54) 73 rfl 0 120 i0 _ 1 8 Tryz.underlying73 HI0.out.1 HI0.out.2.1 HI0.out.2.2.1 HI0.out.2.2.2 rfl (by omega) (.slice la ones.length lc) ones.length (ones.map fun o=>ptr o.1) (by rfl) (by exact World.ownsRow.alloc (World.ownsRow.alloc (World.ownsRow.alloc HRW.out _) _) _) ⟨w2.heap.size+1+1,0,none⟩ 1 1 [ptr (w2.heap.size+1)] (by rfl) (by rfl) (by exact World.news_of_block (heap_alloc3_new w2 _ _ _)) (by simp [Value.oneCell',ptr]) (by omega) (by unfold maxLen;omega) (by omega) (Nat.zero_le _) _ rfl ?_;intro g c5 w5 hown5 hgrow5 hat5 hlt5;have HO5:Hid _:=hown5;have HG5:Hid _:=hgrow5;have HT5:Hid _:=hat5;have hc5:w5.cell? ⟨bp,0,none⟩=some (.slice la ones.length lc):=(hgrow5.cell_far ⟨bp,0,none⟩ (by simp;omega) (fun e=>(HP.out.rowF bp e.symm).2.2.1 rfl)).trans (((kept_alloc3 (fun _=>False) w2 _ _ _).cell (a:=⟨bp,0,none⟩) hbp2 (fun hf=>hf)).trans hc0);have hf5:w5.frozen? ⟨bp,0,none⟩=false:=(hgrow5.frozen_far ⟨bp,0,none⟩ (by simp;omega) (fun e=>(HP.out.rowF bp e.symm).2.2.1 rfl)).trans (((kept_alloc3 (fun _=>False) w2 _ _ _).frozen (a:=⟨bp,0,none⟩) hbp2 (fun hf=>hf)).trans hf0);clear hown5 hgrow5 hat5))
   go_ret
   have hS2:∀k,S2 k→w.heap.size≤k:=fun k hk=>by
    have h1:=HK1.out.size
    have h2:=HS1.out
    rcases HOPD.out.foot k hk with h3|h3
    ·rcases h3 with h3|h3<;>omega
    ·omega
   have hbsl:=M.sto_lt _ _ _ HST.out
   have hw12:w.heap.size≤bs:=by have h1:=HK1.out.size;have h2:=HS1.out;have h3:=HBS.out.1;omega
   have hww:w.heap.size≤w2.heap.size:=HKW.out.size
   have hrow:∀k,(Value.slice la ones.length lc).ownBlock=some k→k<w.heap.size:=fun k hk=>(HP.out.row.lt k hk).2
   have k5:=Kept.grown (S:=fun k=>(Value.slice la ones.length lc).ownBlock=some k) HG5.out (fun k hk=>hk)
   have hno:=new_one M w1 w2 w5 _ bs w.heap.size S2 _ D2 _ t HOPD.out.disk HBS.out.2 HST.out HLI.out hrd0 (by omega) HOPD.out.fuse k5 hrow hS2 hw12 hww
   exact ⟨rfl,HP.out.push hbase (w2.heap.size+1) _ g c5 HO5.out ((HKW.out.mono (fun _ hf=>hf.elim)).trans ((kept_alloc3 _ w2 _ _ _).trans k5 (fun _ h=>.inl h)) (fun _ h=>.inl h)) (HT5.out.imp id (fun e1=>by simp at e1;omega)) hno (fun k hk=>by
    have hgk:k≠g:=fun e1=>by
     rcases HT5.out with e2|e2
     ·have h1:=hrow g e2
      rcases hk with hk|hk|hk|hk
      ·have:=hS2 k hk;omega
      ·omega
      ·omega
      ·omega
     ·simp at e2
      rcases hk with hk|hk|hk|hk
      ·have:=HOPD.out.disk.lt k hk;omega
      ·omega
      ·omega
      ·omega
    refine ⟨?_,hgk⟩
    rcases hk with hk|hk|hk|hk
    ·exact hS2 k hk
    ·omega
    ·omega
    ·omega)⟩
  ·exact absurd hf0 (HND.out _ hopd.fuse)
set_option maxHeartbeats 4000000 in
theorem asked_get (M:Meaning) (A:ApiGet M) (w:World) (X:Nat→Prop) (bo t:Nat) (h:OneH) (bd:Nat) (D:Dk) (S R:Nat→Prop) (ib:Nat) (V:Con) (last:Int) (hone:OneIn M w X bo t h bd D S R ib V last) (ht:t≤2199023255552) (bs:Nat) (hbs:h.s=ptr bs)
 (od:OpD) (Q:Nat→Prop) (hop:od.Ok w Q) (hQ:∀k,Q k→¬X k∧k<w.heap.size) (hkind:od.kind=5)
 (bp:Nat) (lv:Value) (F H:Nat→Prop) (a b:Option Addr) (ca cb:Nat) (es vs:List Ent) (hbook:Book w bp lv F H a b ca cb es vs) (hes:es.length≤t) (hXF:∀k,X k→¬F k∧¬H k∧k≠bp):
 Calls Tryz.prog 63 #[.pointer (some ⟨bp,0,none⟩),.pointer (some ⟨bo,0,none⟩),.agg #[.int .i64 od.kind,.int .i64 od.A,.int .i64 od.B,.int .i64 od.C,.string od.S,.string od.P,.slice od.la od.l.length od.lc,.slice od.ka od.ks.length od.kc]] w fun e w'=>Asked M w w' X bo t bp lv F H b cb es vs e:=by
 have hxlt:=hone.xlt
 have k0:Kept (fun _=>False) w (w.alloc (.cells #[.int .i64 od.kind,.int .i64 od.A,.int .i64 od.B,.int .i64 od.C,.string od.S,.string od.P,.slice od.la od.l.length od.lc,.slice od.ka od.ks.length od.kc] 81)):=Kept.alloc _ _ _
 have hb0:Boxd (w.alloc (.cells #[.int .i64 od.kind,.int .i64 od.A,.int .i64 od.B,.int .i64 od.C,.string od.S,.string od.P,.slice od.la od.l.length od.lc,.slice od.ka od.ks.length od.kc] 81)) w.heap.size od:=⟨heap_alloc_new w _⟩
 have hop0:=hop.kept k0 (fun _ _ hf=>hf)
 have hone0:=hone.kept k0 (fun _ _ hf=>hf)
 have hs1:w.heap.size<(w.alloc (.cells #[.int .i64 od.kind,.int .i64 od.A,.int .i64 od.B,.int .i64 od.C,.string od.S,.string od.P,.slice od.la od.l.length od.lc,.slice od.ka od.ks.length od.kc] 81)).heap.size:=by simp
 have hc0:=hone0.head.c0
 rw [hone0.hd] at hc0
 unfold ptr at hc0
 have hc1:=hone0.head.c1
 rw [hbs] at hc1
 unfold ptr at hc1
 have hq4:=hb0.c4
 have hq0:=hb0.c0.trans (congrArg (fun k=>some (Value.int .i64 k)) hkind)
 have HB0:Hid _:=hb0
 have HOP0:Hid _:=hop0
 have HON0:Hid _:=hone0
 have HON:Hid _:=hone
 have HOP:Hid _:=hop
 have HQ:Hid _:=hQ
 have HBS:Hid _:=hbs
 have HX:Hid _:=hxlt
 have hboX:=hxlt bo hone.bX
 have K0:Hid _:=k0
 have HBK:Hid _:=hbook
 have HXF:Hid _:=hXF
 have HS1:Hid _:=hs1
 have hfew:=hone.good.few
 have hr00:=hone.reads0
 have hr01:=hone.reads1
 clear k0 hb0 hop0 hone0 hone hop hQ hbs hxlt hbook hXF hkind hs1
 generalize hW0:w.alloc (.cells #[.int .i64 od.kind,.int .i64 od.A,.int .i64 od.B,.int .i64 od.C,.string od.S,.string od.P,.slice od.la od.l.length od.lc,.slice od.ka od.ks.length od.kc] 81)=w0 at*
 have HW0:Hid _:=hW0
 go_enter Tryz.func63,Tryz.ntmps63
 go_wp2_with fail
 obtain ⟨xa,xp,xbc,xpc,hdk⟩:=HON0.out.disk
 refine (reads_any _ bd S D xa xp xbc xpc hdk).mono ?_
 rintro e w9 ⟨rfl,hw9⟩
 rw [hw9]
 clear hw9 w9 hdk
 go_wp2_with fail
 go_region_held3 (fun w'=>w'.cell? ⟨bo,1,none⟩=some (.pointer (some ⟨bs,0,none⟩))∧w'.cell? ⟨w.heap.size,4,none⟩=some (.string od.S)) (go_keep) ((go_at_call 26;refine (get_one M A _ X bo t h bd D S R ib V last (by exact HON0.out.kept (Kept.drew (fun _=>False) w0) (fun _ _ hf=>hf)) (by omega) bs HBS.out od.S HOP.out.S).mono ?_;rintro e w2 ⟨D2,S2,x,n,rfl,haft,hask,htold,hn1,hn2,hXb,hSb,hRb,hbob⟩;have HAFT:Hid (AftOne M w0.drew w2 bd bs S S2 D D2):=haft;have HASK:Hid _:=hask;have HTO:Hid _:=htold;have HN1:Hid _:=hn1;have HN2:Hid _:=hn2;have HBB:Hid _:=(⟨hXb,hSb,hRb,hbob⟩:X bs∧¬S bs∧¬R bs∧bs≠bo);clear haft hask htold hn1 hn2 hXb hSb hRb hbob;have HM2:Hid _:=mid_of HON0.out HX.out HB0.out HOP0.out HQ.out HS1.out HAFT.out HBB.out;have hc12:=HM2.out.head.c1;rw [HBS.out] at hc12;unfold ptr at hc12;have hq42:=HM2.out.box.c4))
 have hc0:=HM2.out.head.c0
 rw [HON.out.hd] at hc0
 unfold ptr at hc0
 have hc2:=HM2.out.head.c2
 rw [HON.out.his] at hc2
 unfold ptr at hc2
 have hS2:∀k,S2 k→k<w.heap.size∨w0.heap.size≤k:=fun k hk=>(HAFT.out.foot k hk).imp (fun h=>HX.out k (HON0.out.sX k h)) (fun h=>h)
 have hS2l:∀k,S2 k→k<w2.heap.size:=fun k hk=>HAFT.out.disk.lt k hk
 have HS2:Hid _:=hS2
 have HS2L:Hid _:=hS2l
 have hsz2:w0.heap.size≤w2.heap.size:=HAFT.out.kept.size
 clear hS2 hS2l
 generalize hcc:shutE h.shut (ansE (keyB od.S.data.toList) (newestV V.vs od.S))=c at*
 have HCC:Hid _:=hcc
 clear hcc
 go_wp2_with fail
 obtain ⟨xa2,xp2,xbc2,xpc2,hdk2⟩:=HM2.out.disk
 refine (reads_any _ bd S2 D2 xa2 xp2 xbc2 xpc2 hdk2).mono ?_
 rintro e w9 ⟨rfl,hw9⟩
 rw [hw9]
 clear hw9 w9 hdk2
 go_wp2_with fail
 go_region_held3 (fun w'=>w'.cell? ⟨bo,2,none⟩=some (.pointer (some ⟨ib,0,none⟩))∧w'.cell? ⟨w.heap.size,4,none⟩=some (.string od.S)) (go_keep) ((go_at_call 103;refine (get_any _ R R ib V.vs last (by exact (HM2.out.kept (Kept.drew (fun _=>False) w2) (fun _ hf=>hf.elim)).ref) (by omega) od.S HOP.out.S).mono ?_;rintro e w9 ⟨⟨x2,n2,rfl,hbi,hnn⟩,m9,rfl⟩;have HBI:Hid (BodyIs _ _ _ _ _):=hbi;have HNN:Hid _:=hnn;clear hbi hnn))
 have hk3:Kept (fun _=>False) w2 (w2.drewN (1+m9)):=⟨rfl,rfl,rfl,Nat.le_refl _,fun _ _ _=>rfl⟩
 have HK3:Hid _:=hk3
 have HM3:Hid _:=HM2.out.kept hk3 (fun _ hf=>hf.elim)
 have hk02:Kept (fun k=>S k∨k=bs) w w2:=((K0.out.mono (fun _ hf=>hf.elim)).trans (Kept.drew _ w0) (fun _ h=>.inl h)).trans HAFT.out.kept (fun _ h=>.inl h)
 have HK02:Hid _:=hk02
 have hbk3:Book (w2.drewN (1+m9)) bp lv F H a b ca cb es vs:=(HBK.out.kept hk02 (fun i hi hc=>by
  rcases hc with hc|hc
  ·exact (HXF.out i (HON.out.sX i hc)).1 hi
  ·exact (HXF.out i (by rw [hc];exact HBB.out.1)).1 hi) (fun i hi hc=>by
  rcases hc with hc|hc
  ·exact (HXF.out i (HON.out.sX i hc)).2.1 hi
  ·exact (HXF.out i (by rw [hc];exact HBB.out.1)).2.1 hi) (fun hc=>by
  rcases hc with hc|hc
  ·exact (HXF.out bp (HON.out.sX bp hc)).2.2 rfl
  ·exact (HXF.out bs HBB.out.1).2.2 hc.symm)).kept hk3 (fun _ _ hf=>hf) (fun _ _ hf=>hf) (fun hf=>hf)
 have HBK3:Hid _:=hbk3
 have hXS:∀k,(X k∨S2 k)→¬F k∧¬H k∧k≠bp:=fun k hk=>by
  rcases hk with hk|hk
  ·exact HXF.out k hk
  ·rcases HAFT.out.foot k hk with h1|h1
   ·exact HXF.out k (HON.out.sX k h1)
   ·have h2:w0.heap.size≤k:=h1
    have h3:=HS1.out
    exact ⟨fun hc=>by have:=HBK.out.flt k hc;omega,fun hc=>by have:=HBK.out.hlt k hc;omega,fun hc=>by have:=HBK.out.head.lt;omega⟩
 have HXS:Hid _:=hXS
 have hXf:∀k,(X k∨S2 k)→X k∨w.heap.size≤k:=fun k hk=>by
  rcases hk with hk|hk
  ·exact .inl hk
  ·rcases HAFT.out.foot k hk with h1|h1
   ·exact .inl (HON.out.sX k h1)
   ·have h2:w0.heap.size≤k:=h1
    have h3:=HS1.out
    exact .inr (by omega)
 have HXf:Hid _:=hXf
 have hrd0:=HAFT.out.reads0
 have hrd1:=HAFT.out.reads1
 clear hk3 hk02 hbk3 hXS hXf
 go_wp2_with fail
 refine (refused_any _ bo h (by exact HM3.out.head) _).mono ?_
 rintro e w9 ⟨rfl,hw9⟩
 rw [hw9,HCC.out]
 clear hw9 w9
 have hkA:Kept (fun _=>False) w w0.drew:=K0.out.trans (Kept.drew _ w0) (fun _ h=>.inl h)
 have HKA:Hid _:=hkA
 clear hkA
 by_cases hc:c=0
 ·obtain ⟨u,a1,cap1,hu,hx,hrow,hnew⟩:=HTO.out.yes hc
  have ha0:=shutE_zero (HCC.out.trans hc)
  obtain ⟨u',a2,cap2,hu',hx2,hb2⟩:=HBI.out.1 ha0
  have e4:u'=u:=by rw [hu] at hu';cases hu';rfl
  subst e4
  have e1:=HN2.out u' hc hu
  have e2:=HNN.out ha0 u' hu
  have e3:(n==n2)=true:=by rw [e1,e2];simp
  have hub:u'.body.length≤300:=HON.out.good.body u' (newest_some hu).2.1
  have HRW:Hid (w2.ownsRow 0 5 1 (.slice a1 u'.body.length cap1) u'.body.length (u'.body.map byteV)):=hrow
  have HNW:Hid _:=hnew
  have HB2:Hid (Bytes _ R a2 u'.body):=hb2
  have hc':(c !=0)=false:=by simpa using hc
  have HC:Hid _:=hc
  subst hx hx2
  clear hu hrow hnew ha0 hu' hb2 e1 e2 hc
  go_wp2_with fail
  refine (sameBytes_any _ (fun k=>w0.heap.size≤k) R a1 a2 cap1 cap2 u'.body (by exact (Bytes.of_own 5 HRW.out rfl _ (fun k hk=>(HNW.out k hk).1)).kept HK3.out (fun _ _ hf=>hf)) (by exact Bytes.kept HB2.out (T:=fun _=>False) ⟨rfl,rfl,rfl,Nat.le_refl _,fun _ _ _=>rfl⟩ (fun _ _ hf=>hf)) (by omega)).mono ?_
  rintro e w9 ⟨rfl,m10,hw9⟩
  rw [hw9]
  clear hw9 w9
  go_wp2_with fail
  have hown0:∀k,(Value.slice a1 u'.body.length cap1).ownBlock=some k→w.heap.size<k∧¬S2 k:=fun k hk=>by
   have h1:=HNW.out k hk
   have h2:w0.heap.size≤k:=h1.1
   have h3:=HS1.out
   exact ⟨by omega,h1.2⟩
  have HOW:Hid _:=hown0
  clear hown0
  refine (bytes_any _ bp lv F H (fun k=>(Value.slice a1 u'.body.length cap1).ownBlock=some k) a b ca cb es vs (by exact HBK3.out.kept (T:=fun _=>False) ⟨rfl,rfl,rfl,Nat.le_refl _,fun _ _ _=>rfl⟩ (fun _ _ hf=>hf) (fun _ _ hf=>hf) (fun hf=>hf)) (by omega) a1 u'.body.length cap1 (u'.body.map byteV) (by exact Kept.owns (S:=fun _=>False) ⟨rfl,rfl,rfl,Nat.le_refl _,fun _ _ _=>rfl⟩ HRW.out (fun _ _ hf=>hf)) (by omega) (fun k hk=>hk) (fun k hk=>by
   have h1:=(HOW.out k hk).1
   exact ⟨fun hc=>by have:=HBK.out.flt k hc;omega,fun hc=>by have:=HBK.out.hlt k hc;omega,fun hc=>by have:=HBK.out.head.lt;omega⟩)).mono ?_
  rintro e w7 ⟨rfl,⟨a7,ca7,es7,F7,hbk7,hl7,hF7⟩,hk7⟩
  have HBK7:Hid _:=hbk7
  have HF7:Hid _:=hF7
  have HK7:Hid (Kept (fun k=>F k∨(Value.slice a1 u'.body.length cap1).ownBlock=some k∨k=bp) w2 w7):=⟨hk7.os,hk7.tape,hk7.output,hk7.size,hk7.block⟩
  clear hbk7 hF7 hk7
  go_wp2
  go_ret
  have hXlt:=HX.out
  refine ⟨ret_bool (decide_eq_true (by omega)),⟨_,F7,a7,ca7,es7,ask_done M w w0.drew w2 w7 X bo t h bd D D2 S S2 R ib V last HON.out bs HBS.out HKA.out (Nat.le_of_lt HS1.out) HAFT.out HBB.out HASK.out _ HK7.out (fun k hk=>?_),HBK7.out,by omega,HXf.out,fun k hk=>?_,fun k hk=>⟨fun hf=>?_,(HXS.out k hk).2.1,(HXS.out k hk).2.2⟩⟩,(HK02.out.mono (fun k hk=>.inl (hk.elim (HON.out.sX k) (fun e=>by rw [e];exact HBB.out.1)))).trans HK7.out (fun k hk=>?_)⟩
  ·rcases hk with hk|hk|hk
   ·exact ⟨fun hc=>(HXF.out k hc).1 hk,fun hc=>(HXS.out k (.inr hc)).1 hk⟩
   ·have h1:=HOW.out k hk
    exact ⟨fun hc=>by have:=hXlt k hc;omega,h1.2⟩
   ·exact ⟨fun hc=>(HXF.out k hc).2.2 hk,fun hc=>(HXS.out k (.inr hc)).2.2 hk⟩
  ·rcases HF7.out k hk with h1|h1|h1
   ·exact .inl h1
   ·have:=(HOW.out k h1).1;exact .inr (by omega)
   ·have h2:w2.heap.size≤k:=h1
    have h3:=HS1.out
    exact .inr (by omega)
  ·rcases HF7.out k hf with h1|h1|h1
   ·exact (HXS.out k hk).1 h1
   ·have h2:=HOW.out k h1
    rcases hk with hk|hk
    ·have:=hXlt k hk;omega
    ·exact h2.2 hk
   ·have h2:w2.heap.size≤k:=h1
    have h3:=HS1.out
    rcases hk with hk|hk
    ·have:=hXlt k hk;omega
    ·have:=HS2L.out k hk;omega
  ·rcases hk with hk|hk|hk
   ·exact .inl (.inr (.inl hk))
   ·have:=(HOW.out k hk).1;exact .inr (by omega)
   ·exact .inl (.inr (.inr hk))
 ·obtain ⟨a1,cap1,hx⟩:=HTO.out.no hc
  have e1:=HN1.out hc
  have e2:(c !=0)=true:=by simpa using hc
  subst hx
  have e3:(n==0)=true:=by simpa using e1
  clear hc e1
  go_wp2
  go_ret
  exact ⟨rfl,⟨_,F,a,ca,es,ask_done M w w0.drew w2 _ X bo t h bd D D2 S S2 R ib V last HON.out bs HBS.out HKA.out (Nat.le_of_lt HS1.out) HAFT.out HBB.out HASK.out (fun _=>False) HK3.out (fun _ hf=>hf.elim),HBK3.out,by omega,HXf.out,fun k hk=>.inl hk,HXS.out⟩,
   (HK02.out.mono (fun k hk=>.inl (hk.elim (HON.out.sX k) (fun e=>by rw [e];exact HBB.out.1)))).trans HK3.out (fun _ hf=>hf.elim)⟩
end Go.Proofs.YtcoengihaobddaaGreatDoor.law
