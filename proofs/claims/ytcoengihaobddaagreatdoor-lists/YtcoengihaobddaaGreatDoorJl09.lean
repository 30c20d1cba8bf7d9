/- Part 9 of 31 of a proof: Law10, Law11, Law12, Law13, Law16, Law18, Law19 -/
import Derived.Test.YtcoengihaobddaaGreatDoorJl08
set_option maxHeartbeats 8000000
set_option linter.unusedVariables false
set_option linter.unusedSimpArgs false
set_option maxRecDepth 8000
namespace Go.Proofs.YtcoengihaobddaaGreatDoor
namespace law
open Go.ChangeShapes Go.WideShapes Go.ChangeAt Go.RowKit disk ref book
open keys (zj zd zy zq zt)
theorem qu.kept0{M:zg}{w w':World}{base bp t:Nat}{ones:List (Nat×(Nat→Prop))}{la:Option Addr}{lc:Nat}{F H:Nat→Prop}{a b:Option Addr}{ca cb:Nat}{es vs:List jo}(p:qu M w base bp t ones la lc F H a b ca cb es vs)(k:za (fun _=>False) w w'):qu M w' base bp t ones la lc F H a b ca cb es vs:=
 ⟨k.owns p.row nF,p.book.kept k nF nF (fun hf=>hf),fun i hi=>(p.one i hi).kept k nF,p.apart,p.sep,p.rsep,p.rowF,p.bX,p.bF,p.bH,p.bP,p.fewE,p.fewV,p.fewO⟩
theorem qu.rowCell{M:zg}{w:World}{base bp t:Nat}{ones:List (Nat×(Nat→Prop))}{g lc:Nat}{F H:Nat→Prop}{a b:Option Addr}{ca cb:Nat}{es vs:List jo}(p:qu M w base bp t ones (some ⟨g,0,none⟩) lc F H a b ca cb es vs)(i:Nat)(hi:i<ones.length):w.cell? ⟨g,i,none⟩=some (.pointer (some ⟨ones[i].1,0,none⟩)):=by
 have:=p.row.cells (g:=g) rfl i (yw ones[i].1) (by simp [hi])
 rw [Addr.add_mid] at this
 simpa [yw] using this
theorem qu.rowAt{M:zg}{w:World}{base bp t:Nat}{ones:List (Nat×(Nat→Prop))}{la:Option Addr}{lc:Nat}{F H:Nat→Prop}{a b:Option Addr}{ca cb:Nat}{es vs:List jo}(p:qu M w base bp t ones la lc F H a b ca cb es vs)(hn:0<ones.length):∃g,la=some ⟨g,0,none⟩:=by
 rcases p.row.2 with⟨h0,h1⟩|⟨g,cap',cur,hv,_⟩
 ·omega
 ·cases hv;exact⟨g,rfl⟩
theorem Jk(M:zg)(A:kw M)(hnd:∀f,M.Fu f→f≠0)(w:World)(base bp t:Nat)(ones:List (Nat×(Nat→Prop)))(la:Option Addr)(lc:Nat)(F H:Nat→Prop)(a b:Option Addr)(ca cb:Nat)(es vs:List jo)(p:qu M w base bp t ones la lc F H a b ca cb es vs)(hbase:base≤w.heap.size)(ht:t≤2199023255552)
 (od:yf) (Q:Nat→Prop) (hop:od.Ok w Q) (hQ:∀k,Q k→k<base) (hkind:od.kind=1) (hC:od.C≤0):
 Calls Tryz.prog 37 #[.pointer (some ⟨bp,0,none⟩),.agg #[.int .i64 od.kind,.int .i64 od.A,.int .i64 od.B,.int .i64 od.C,.string od.S,.string od.P,.slice od.la od.l.length od.lc,.slice od.ka od.ks.length od.kc]] w fun e w'=>e=.returned (.bool true)∧xY M w' base bp (t+1)∧za (fun k=>base≤k) w w':=by
 have k0:za (fun _=>False) w (w.alloc (.cells #[.int .i64 od.kind,.int .i64 od.A,.int .i64 od.B,.int .i64 od.C,.string od.S,.string od.P,.slice od.la od.l.length od.lc,.slice od.ka od.ks.length od.kc] 81)):=za.alloc _ _ _
 have hb0:yS (w.alloc (.cells #[.int .i64 od.kind,.int .i64 od.A,.int .i64 od.B,.int .i64 od.C,.string od.S,.string od.P,.slice od.la od.l.length od.lc,.slice od.ka od.ks.length od.kc] 81)) w.heap.size od:=⟨heap_alloc_new w _⟩
 have hq0:=hb0.c0.trans (congrArg (fun k=>some (Value.int .i64 k)) hkind)
 have hq0':=hb0.c0
 have hq1:=hb0.c1
 have hq2:=hb0.c2
 have hq3:=hb0.c3
 have hq4:=hb0.c4
 have hq5:=hb0.c5
 have hq6:=hb0.c6
 have hq7:=hb0.c7
 have p0:=p.kept0 k0
 have hop0:=hop.kept k0 nF
 have hs0:base≤(w.alloc (.cells #[.int .i64 od.kind,.int .i64 od.A,.int .i64 od.B,.int .i64 od.C,.string od.S,.string od.P,.slice od.la od.l.length od.lc,.slice od.ka od.ks.length od.kc] 81)).heap.size:=Nat.le_trans hbase k0.size
 have hc0:=p0.book.head.c.1
 have HP0:Hid _:=p0
 have HOP0:Hid _:=hop0
 have HB0:Hid _:=hb0
 have HK0:Hid _:=k0
 have HP:Hid _:=p
 have HQ:Hid _:=hQ
 have HS0:Hid _:=hs0
 have hfo:=p.fewO
 have HKI:Hid _:=hkind
 have hAok:=hop.A
 have HA:Hid _:=hAok
 have hfe:=p.fewE
 clear k0 hb0 p0 hop0 p hop hQ hs0 hkind hAok
 generalize hW0:w.alloc (.cells #[.int .i64 od.kind,.int .i64 od.A,.int .i64 od.B,.int .i64 od.C,.string od.S,.string od.P,.slice od.la od.l.length od.lc,.slice od.ka od.ks.length od.kc] 81)=w0 at*
 clear hq0
 have hk1:(od.kind==1)=true:=by rw [HKI.out];rfl
 go_enter Tryz.func37,Tryz.ntmps37
 go_wp2_with fail
 refine(cL M A hnd _ base bp t ones la lc F H a b ca cb es vs HP0.out HS0.out ht od Q HOP0.out hC).mono ?_
 rintro e w2 ⟨rfl,h2,h3⟩
 have H2:Hid _:=h2
 have H3:Hid _:=h3
 clear h2 h3
 go_wp2
 go_ret
 exact⟨rfl,H2.out,(HK0.out.mono fE).trans H3.out iL⟩
theorem Tryz.infoOp:(Tryz.prog.info? 81).map (fun i=>(i.zero,i.size,i.bytes))=some (some (.agg #[.int .i64 0,.int .i64 0,.int .i64 0,.int .i64 0,.string ByteArray.empty,.string ByteArray.empty,.slice none 0 0,.slice none 0 0]),8,112):=by kernel_rfl
structure jZ (w:World) (Q:Nat→Prop) (a:Option Addr) (ods:List yf):Prop where
 each:∀i (hi:i<ods.length),∃b o,a=some ⟨b,o,none⟩∧Q b∧b<w.heap.size∧w.rangeAt b (o+i*8) ods[i].cells
 ok:∀i (hi:i<ods.length),ods[i].Ok w Q
theorem jZ.kept{w w':World}{Q T:Nat→Prop}{a:Option Addr}{ods:List yf}(h:jZ w Q a ods)(k:za T w w')(hn:∀i,Q i→¬T i):jZ w' Q a ods:=
 ⟨fun i hi=>by
  obtain⟨b,o,h1,h2,h3,h4⟩:=h.each i hi
  exact⟨b,o,h1,h2,Nat.lt_of_lt_of_le h3 k.size,fun j v hv=>(k.cell (a:=⟨b,o+i*8+j,none⟩) h3 (hn b h2)).trans (h4 j v hv)⟩,fun i hi=>(h.ok i hi).kept k hn⟩
def yf.spare(o:yf):yf:=if o.kind=1 then {o with C:=0} else o
theorem yf.Ok.spare{w:World}{Q:Nat→Prop}{o:yf}(h:o.Ok w Q):o.spare.Ok w Q:=by
 unfold yf.spare
 split
 ·exact⟨h.kind,h.A,h.B,⟨by show (-9223372036854775808:Int)≤0;omega,by show (0:Int)≤9223372036854775807;omega⟩,h.S,h.P,h.l,h.len,h.klen,h.ks⟩
 ·exact h
structure vJ (w:World) (kb:Nat) (kl:List Int):Prop where
 at_:w.heap[kb]? =some (.cells (kl.map (Value.int .i64)).toArray 3 (0,0))
theorem vJ.lt{w:World}{kb:Nat}{kl:List Int}(h:vJ w kb kl):kb<w.heap.size:=(lT h.at_)
theorem vJ.kept{w w':World}{T:Nat→Prop}{kb:Nat}{kl:List Int}(h:vJ w kb kl)(k:za T w w')(hn:¬T kb):vJ w' kb kl:=⟨(k.block kb h.lt hn).trans h.at_⟩
theorem vJ.cell{w:World}{kb:Nat}{kl:List Int}(h:vJ w kb kl)(j:Nat)(hj:j<kl.length):w.cell? ⟨kb,j,none⟩=some (.int .i64 kl[j]):=by
 rw [cell_of_row w kb j _ _ _ h.at_];simp [hj]
structure dx (w wr:World) (ods:List yf) (k:Nat) (x:Value):Prop where
 kept:za (fun _=>False) w wr
 row:∃a c,x=.slice a k c∧wr.ownsRow 0 81 8 (.slice a k c) k (((ods.take k).map yf.spare).map yf.cells).flatten∧∀g,(Value.slice a k c).ownBlock=some g→w.heap.size≤g
theorem Qs(ods:List yf)(k:Nat)(h:k<ods.length):(((ods.take (k+1)).map yf.spare).map yf.cells).flatten=(((ods.take k).map yf.spare).map yf.cells).flatten++ods[k].spare.cells:=by
 rw [List.take_succ_eq_append_getElem h];simp only [List.map_append,List.map_cons,List.map_nil,List.flatten_append,List.flatten_cons,List.flatten_nil,List.append_nil]
theorem dx.pushed{w wr w3:World}{ods:List yf}{k:Nat}{a1:Option Addr}{c1:Nat}(hk:k<ods.length)(hkept:za (fun _=>False) w wr)(hnew:∀g,(Value.slice a1 k c1).ownBlock=some g→w.heap.size≤g)(o1 o2:Obj)(g c2:Nat)
 (hown:w3.ownsRow 0 81 8 (.slice (some ⟨g,0,none⟩) (k+1) c2) (k+1) ((((ods.take k).map yf.spare).map yf.cells).flatten++ods[k].spare.cells)) (hgrow:((wr.alloc o1).alloc o2).grownBy w3 (Value.slice a1 k c1).ownBlock) (hat:(Value.slice a1 k c1).ownBlock=some g∨g=((wr.alloc o1).alloc o2).heap.size):
 dx w w3 ods (k+1) (.slice (some ⟨g,0,none⟩) (k+1) c2):=by
 have k2:za (fun k=>w.heap.size≤k) wr w3:=((za.alloc _ wr o1).trans (za.alloc _ _ o2) iL).trans (za.grown (S:=fun k=>w.heap.size≤k) hgrow (fun k hk=>hnew k hk)) iL
 refine⟨hkept.trans k2 (fun k hk=>.inr hk),_,c2,rfl,by rw [Qs ods k hk];exact hown,fun g' hg=>?_⟩
 simp [Value.ownBlock] at hg
 subst hg
 rcases hat with e|e
 ·exact hnew _ e
 ·have:=hkept.size;simp at e;omega
theorem Qt(w:World)(Q:Nat→Prop)(a:Option Addr)(cap:Nat)(ods:List yf)(h:jZ w Q a ods)(hlen:ods.length≤1256584717449)(kb kc:Nat)(kl:List Int)(hk:vJ w kb kl)(h8:∀k∈kl,k≠8)(hkl:kl.length≤100):
 Calls Tryz.prog 36 #[.slice a ods.length cap,.slice (some ⟨kb,0,none⟩) kl.length kc] w fun e w'=>∃x,e=.returned x∧dx w w' ods ods.length x:=by
 have HH:Hid _:=h
 have HK:Hid _:=hk
 have H8:Hid _:=h8
 obtain⟨i0,hi0,hz0,hz1,hz2⟩:=yN Tryz.infoOp
 have HI0:Hid (Tryz.prog.info? 81=some i0∧i0.zero=some (.agg #[.int .i64 0,.int .i64 0,.int .i64 0,.int .i64 0,.string ByteArray.empty,.string ByteArray.empty,.slice none 0 0,.slice none 0 0])∧i0.size=8∧i0.bytes=112):=⟨hi0,hz0,hz1,hz2⟩
 clear h hk h8 hi0 hz0 hz1 hz2
 go_enter Tryz.func36,Tryz.ntmps36
 go_wp2
 go_loop [5] (fun t=>∃j:Nat,j≤kl.length∧t=.int .i64 j) (fun t=>kl.length-(intOf t).toNat)
 case atStart=>exact⟨0,Nat.zero_le _,rfl⟩
 case round=>
  obtain⟨j,hj,rfl⟩:=hrel
  by_cases hlt:j<kl.length
  ·have hcj:=HK.out.cell j hlt
   have hne:(kl[j]==8)=false:=by simpa using H8.out _ (List.getElem_mem hlt)
   go_wp2
   go_round
   case rel=>exact⟨j+1,by omega,by go_num⟩
   case measure=>simp [intOf];omega
  ·go_wp2
   go_loopw [6,7] (fun x t wr=>∃k:Nat,k≤ods.length∧t=.int .i64 k∧dx w wr ods k x) (fun _ t _=>ods.length-(intOf t).toNat)
   case atStart=>exact⟨0,Nat.zero_le _,rfl,za.refl _ _,none,0,rfl,World.ownsRow_nil w 0 81 8,fun g hg=>by cases hg⟩
   case round=>
    obtain⟨k,hk,rfl,hkept,a1,c1,rfl,hrow,hnew⟩:=hrel
    have HKE:Hid _:=hkept
    have HRO:Hid (wr.ownsRow 0 81 8 (.slice a1 k c1) k (((ods.take k).map yf.spare).map yf.cells).flatten):=hrow
    have HNE:Hid _:=hnew
    clear hkept hrow hnew
    by_cases hlt2:k<ods.length
    ·have hsc:=HH.out.kept HKE.out nF
     obtain⟨b,o,rfl,hQb,hbl,hr⟩:=hsc.each k hlt2
     have r0:wr.cell? ⟨b,o+k*8,none⟩=some (.int .i64 ods[k].kind):=hr 0 _ rfl
     have r1:wr.cell? ⟨b,o+k*8+1,none⟩=some (.int .i64 ods[k].A):=hr 1 _ rfl
     have r2:wr.cell? ⟨b,o+k*8+2,none⟩=some (.int .i64 ods[k].B):=hr 2 _ rfl
     have r3:wr.cell? ⟨b,o+k*8+3,none⟩=some (.int .i64 ods[k].C):=hr 3 _ rfl
     have r4:wr.cell? ⟨b,o+k*8+4,none⟩=some (.string ods[k].S):=hr 4 _ rfl
     have r5:wr.cell? ⟨b,o+k*8+5,none⟩=some (.string ods[k].P):=hr 5 _ rfl
     have r6:wr.cell? ⟨b,o+k*8+6,none⟩=some (.slice ods[k].la ods[k].l.length ods[k].lc):=hr 6 _ rfl
     have r7:wr.cell? ⟨b,o+k*8+7,none⟩=some (.slice ods[k].ka ods[k].ks.length ods[k].kc):=hr 7 _ rfl
     clear hr hsc
     by_cases hk1:ods[k].kind=1
     ·have hkb:(ods[k].kind==1)=true:=by simpa using hk1
      have hsp:ods[k].spare.cells=[.int .i64 ods[k].kind,.int .i64 ods[k].A,.int .i64 ods[k].B,.int .i64 0,.string ods[k].S,.string ods[k].P,.slice ods[k].la ods[k].l.length ods[k].lc,.slice ods[k].ka ods[k].ks.length ods[k].kc]:=by
       unfold yf.spare;rw [if_pos hk1];rfl
      have HSP:Hid _:=hsp
      clear hk1 hsp
      go_wp2_with (refine wpList_append_lies _ rfl (.tmp 35) (.tmp 37) 22 rfl 0 81 i0 _ 8 112 Tryz.underlying22 HI0.out.1 HI0.out.2.1 HI0.out.2.2.1 HI0.out.2.2.2 rfl (by omega) (.slice a1 k c1) k (((ods.take k).map yf.spare).map yf.cells).flatten (by rfl) (by exact World.ownsRow.alloc (World.ownsRow.alloc HRO.out _) _) ⟨wr.heap.size+1,0,none⟩ 1 1 ods[k].spare.cells (by rfl) (by rw [HSP.out];rfl) (by rw [HSP.out];exact World.news_of_block (heap_alloc2_new wr _ _)) (by rw [HSP.out];simp [Value.oneCell']) (by omega) (by unfold maxLen;omega) (by omega) (Nat.zero_le _) _ rfl ?_;intro g c2 w3 hown hgrow hat hlt3;have HX:Hid _:=dx.pushed hlt2 HKE.out HNE.out _ _ g c2 hown hgrow hat;clear hown hgrow hat)
      go_roundw
      case rel=>exact⟨k+1,by omega,by go_num,HX.out⟩
      case measure=>simp [intOf];omega
     ·have hkb:(ods[k].kind==1)=false:=by simpa using hk1
      have hsp:ods[k].spare.cells=[.int .i64 ods[k].kind,.int .i64 ods[k].A,.int .i64 ods[k].B,.int .i64 ods[k].C,.string ods[k].S,.string ods[k].P,.slice ods[k].la ods[k].l.length ods[k].lc,.slice ods[k].ka ods[k].ks.length ods[k].kc]:=by
       unfold yf.spare;rw [if_neg hk1];rfl
      have HSP:Hid _:=hsp
      clear hk1 hsp
      go_wp2_with (refine wpList_append_lies _ rfl (.tmp 35) (.tmp 37) 22 rfl 0 81 i0 _ 8 112 Tryz.underlying22 HI0.out.1 HI0.out.2.1 HI0.out.2.2.1 HI0.out.2.2.2 rfl (by omega) (.slice a1 k c1) k (((ods.take k).map yf.spare).map yf.cells).flatten (by rfl) (by exact World.ownsRow.alloc (World.ownsRow.alloc HRO.out _) _) ⟨wr.heap.size+1,0,none⟩ 1 1 ods[k].spare.cells (by rfl) (by rw [HSP.out];rfl) (by rw [HSP.out];exact World.news_of_block (heap_alloc2_new wr _ _)) (by rw [HSP.out];simp [Value.oneCell']) (by omega) (by unfold maxLen;omega) (by omega) (Nat.zero_le _) _ rfl ?_;intro g c2 w3 hown hgrow hat hlt3;have HX:Hid _:=dx.pushed hlt2 HKE.out HNE.out _ _ g c2 hown hgrow hat;clear hown hgrow hat)
      go_roundw
      case rel=>exact⟨k+1,by omega,by go_num,HX.out⟩
      case measure=>simp [intOf];omega
    ·go_wp2
     go_ret
     have e:k=ods.length:=by omega
     subst e
     exact⟨_,rfl,HKE.out,a1,c1,rfl,HRO.out,HNE.out⟩
theorem qu.whole{M:zg}{w w':World}{base bp t:Nat}{ones:List (Nat×(Nat→Prop))}{la:Option Addr}{lc:Nat}{F H:Nat→Prop}{a b:Option Addr}{ca cb:Nat}{es vs:List jo}(p:qu M w base bp t ones la lc F H a b ca cb es vs)(hb:ji w' bp (.slice la ones.length lc) F H a b ca cb es vs)(k:za F w w'):qu M w' base bp t ones la lc F H a b ca cb es vs:=
 ⟨k.owns p.row (fun i hi hc=>(p.rowF i hi).1 hc),hb,fun i hi=>(p.one i hi).kept k (fun j hj hc=>(p.sep i hi j hj).1 hc),p.apart,p.sep,p.rsep,p.rowF,p.bX,p.bF,p.bH,p.bP,p.fewE,p.fewV,p.fewO⟩
theorem Qu(M:zg)(w:World):xY M (w.alloc (.cells #[.slice none 0 0,.slice none 0 0,.slice none 0 0] 79)) w.heap.size w.heap.size 0:=by
 refine⟨[],none,0,fun _=>False,fun _=>False,none,none,0,0,[],[],World.ownsRow_nil _ _ _ _,⟨⟨heap_alloc_new w _⟩,⟨World.ownsRow_nil _ _ _ _,fun i hi=>by simp at hi,fun i hi=>by simp at hi,fun i j hi=>by simp at hi,fun i hi=>by simp at hi,fun i hi=>by simp at hi,fun k hk=>by cases hk⟩,⟨World.ownsRow_nil _ _ _ _,fun i hi=>by simp at hi,fun i hi=>by simp at hi,fun k hk=>(by cases hk),fun i hi=>by simp at hi⟩,fun hf=>hf,fun hf=>hf,fun _ hf=>hf.elim,by simp,by simp,fun _ hf=>hf.elim,fun _ hf=>hf.elim⟩,fun i hi=>by simp at hi,fun i j hi=>by simp at hi,fun i hi=>by simp at hi,fun i hi=>by simp at hi,fun k hk=>(by cases hk),fun i hi=>by simp at hi,fun _ hf=>hf.elim,fun _ hf=>hf.elim,Nat.le_refl _,Nat.le_refl _,Nat.le_refl _,Nat.le_refl _⟩
def Jl(M:zg)(kl:List Int):Prop:=∀(w:World) (base bp t:Nat) (od:yf),xY M w base bp t→base≤w.heap.size→t≤2199023255552→od.Ok w (fun k=>k<base)→od.kind∈kl→(od.kind=1→od.C≤0)→
 Calls Tryz.prog 37 #[.pointer (some ⟨bp,0,none⟩),.agg #[.int .i64 od.kind,.int .i64 od.A,.int .i64 od.B,.int .i64 od.C,.string od.S,.string od.P,.slice od.la od.l.length od.lc,.slice od.ka od.ks.length od.kc]] w fun e w'=>e=.returned (.bool true)∧xY M w' base bp (t+1)∧za (fun k=>base≤k) w w'
def Vc(kl:List Int)(j:Nat)(k:Int):Bool:=(kl.take j).any fun x=>k==x
theorem Jm(kl:List Int)(j:Nat)(h:j<kl.length)(k:Int):Vc kl (j+1) k=(Vc kl j k||(k==kl[j])):=by
 unfold Vc;rw [List.take_succ_eq_append_getElem h,List.any_append];simp
theorem KO{kl:List Int}{k:Int}(h:Vc kl kl.length k=true):k∈kl:=by
 unfold Vc at h
 rw [List.take_length,List.any_eq_true] at h
 obtain⟨x,hx,he⟩:=h
 have:k=x:=by simpa using he
 rw [this];exact hx
theorem Xa(M:zg)(w:World)(Q:Nat→Prop)(hQ:∀k,Q k→k<w.heap.size)(a:Option Addr)(cap:Nat)(ods:List yf)(h:jZ w Q a ods)(hlen:ods.length≤1256584717449)(kb kc:Nat)(kl:List Int)(hk:vJ w kb kl)(h8:∀k∈kl,k≠8)(hkl:kl.length≤100)(hstep:Jl M kl):
 Calls Tryz.prog 13 #[.slice a ods.length cap,.slice (some ⟨kb,0,none⟩) kl.length kc] w fun e w'=>e=.returned (.bool true)∧za (fun _=>False) w w':=by
 have HH:Hid _:=h
 have HK:Hid _:=hk
 have H8:Hid _:=h8
 have HQ:Hid _:=hQ
 clear h hk h8 hQ
 go_enter Tryz.func13,Tryz.ntmps13
 go_wp2_with fail
 refine(Qt _ Q a cap ods HH.out hlen kb kc kl HK.out H8.out hkl).mono ?_
 rintro e w1 ⟨x,rfl,hk1,a1,c1,rfl,hrow,hnew⟩
 have HK1:Hid _:=hk1
 have hrl:∀g,(Value.slice a1 ods.length c1).ownBlock=some g→g<w1.heap.size:=fun g hg=>(World.ownsRow.lt hrow g hg).2
 have HRL:Hid _:=hrl
 have HRO:Hid (w1.ownsRow 0 81 8 (.slice a1 ods.length c1) ods.length (((ods.take ods.length).map yf.spare).map yf.cells).flatten):=hrow
 have hs1:=hk1.size
 clear hk1 hrow hnew hrl
 have hpl:=Qu M w1
 have HPL:Hid _:=hpl
 clear hpl
 have hka:=za.alloc (fun _=>False) w1 (.cells #[.slice none 0 0,.slice none 0 0,.slice none 0 0] 79)
 have HKA:Hid _:=hka
 clear hka
 go_wp2
 go_loopw [6] (fun t wr=>∃k:Nat,k≤ods.length∧t=.int .i64 k∧xY M wr w1.heap.size w1.heap.size k∧za (fun k=>w1.heap.size≤k) w1 wr) (fun t _=>ods.length-(intOf t).toNat)
 case atStart=>exact⟨0,Nat.zero_le _,rfl,HPL.out,HKA.out.mono fE⟩
 case round=>
  obtain⟨k,hk,rfl,hp,hkept⟩:=hrel
  have HP:Hid (xY M wr w1.heap.size w1.heap.size k):=hp
  have HKE:Hid _:=hkept
  have hsr:=hkept.size
  clear hp hkept
  by_cases hlt:k<ods.length
  ·have hrow:wr.ownsRow 0 81 8 (.slice a1 ods.length c1) ods.length ((ods.map yf.spare).map yf.cells).flatten:=by
    have h1:=HKE.out.owns HRO.out (fun g hg hc=>by have:=HRL.out g hg;omega)
    rw [List.take_length] at h1;exact h1
   obtain⟨g,rfl⟩:∃g,a1=some ⟨g,0,none⟩:=by
    rcases hrow.2 with⟨h0,h1⟩|⟨g,cap',cur,hv,_⟩
    ·omega
    ·cases hv;exact⟨g,rfl⟩
   have hl8:∀c∈(ods.map yf.spare).map yf.cells,c.length=8:=fun c hc=>by
    obtain⟨o,_,rfl⟩:=List.mem_map.1 hc;rfl
   have hlm:((ods.map yf.spare).map yf.cells).length=ods.length:=by simp
   have hrng:=yi (w:=wr) (e:= 81) (c:=8) (g:=g) (cap:=c1) (l:=(ods.map yf.spare).map yf.cells) (by rw [hlm];exact hrow) hl8 k (by rw [hlm];exact hlt)
   have hel:((ods.map yf.spare).map yf.cells)[k]'(by rw [hlm];exact hlt)=ods[k].spare.cells:=by simp
   rw [hel] at hrng
   have hok:ods[k].spare.Ok wr (fun k=>k<w1.heap.size):=by
    have h1:=((HH.out.ok k hlt).spare.kept HK1.out nF).kept HKE.out (fun i hi hc=>by have:=HQ.out i hi;omega)
    exact⟨h1.kind,h1.A,h1.B,h1.C,h1.S,h1.P,h1.l.mono (fun i hi _=>by have:=HQ.out i hi;omega),h1.len,h1.klen,fun j hj=>by
     obtain⟨kb',ko,g1,g2,g3,g4⟩:=h1.ks j hj
     exact⟨kb',ko,g1,by have:=HQ.out kb' g2;omega,g3,g4⟩⟩
   have hC:ods[k].spare.kind=1→ods[k].spare.C≤0:=fun h1=>by
    unfold yf.spare at h1 ⊢
    by_cases h2:ods[k].kind=1
    ·rw [if_pos h2];exact Int.le_refl _
    ·rw [if_neg h2] at h1;exact absurd h1 h2
   have hks:=(HK.out.kept HK1.out (fun hf=>hf)).kept HKE.out (fun hc=>by have:=HK.out.lt;omega)
   generalize ods[k].spare=sk at*
   have r0:wr.cell? ⟨g,k*8,none⟩=some (.int .i64 sk.kind):=hrng 0 _ rfl
   have r1:wr.cell? ⟨g,k*8+1,none⟩=some (.int .i64 sk.A):=hrng 1 _ rfl
   have r2:wr.cell? ⟨g,k*8+2,none⟩=some (.int .i64 sk.B):=hrng 2 _ rfl
   have r3:wr.cell? ⟨g,k*8+3,none⟩=some (.int .i64 sk.C):=hrng 3 _ rfl
   have r4:wr.cell? ⟨g,k*8+4,none⟩=some (.string sk.S):=hrng 4 _ rfl
   have r5:wr.cell? ⟨g,k*8+5,none⟩=some (.string sk.P):=hrng 5 _ rfl
   have r6:wr.cell? ⟨g,k*8+6,none⟩=some (.slice sk.la sk.l.length sk.lc):=hrng 6 _ rfl
   have r7:wr.cell? ⟨g,k*8+7,none⟩=some (.slice sk.ka sk.ks.length sk.kc):=hrng 7 _ rfl
   have HOK:Hid _:=hok
   have HC:Hid _:=hC
   have HKS:Hid _:=hks
   clear hrow hl8 hlm hrng hel hok hC hks
   go_wp2
   go_loopw [7,8] (fun b t wq=>∃j:Nat,j≤kl.length∧t=.int .i64 j∧b=.bool (Vc kl j sk.kind)∧∃n,wq=wr.drewN n) (fun _ t _=>kl.length-(intOf t).toNat)
   case atStart=>exact⟨0,Nat.zero_le _,rfl,rfl,0,rfl⟩
   case round=>
    obtain⟨j,hj,rfl,rfl,n,rfl⟩:=hrel
    by_cases hlt2:j<kl.length
    ·have hcj:=HKS.out.cell j hlt2
     have HS:Hid _:=Jm kl j hlt2 sk.kind
     cases hb:Vc kl j sk.kind
     ·have HB:Hid _:=hb
      clear hb
      go_wp2
      go_quiet (fail)
      go_wp2
      go_roundw
      case rel=>exact⟨j+1,by omega,by go_num,by rw [HS.out,HB.out,Bool.false_or],_,rfl⟩
      case measure=>simp [intOf];omega
     ·have HB:Hid _:=hb
      clear hb
      go_wp2
      go_quiet (fail)
      go_wp2
      go_roundw
      case rel=>exact⟨j+1,by omega,by go_num,by rw [HS.out,HB.out,Bool.true_or],_,rfl⟩
      case measure=>simp [intOf];omega
    ·have ej:j=kl.length:=by omega
     have hk3:za (fun _=>False) wr (wr.drewN n):=kD
     have HK3:Hid _:=hk3
     clear hk3
     cases hb:Vc kl j sk.kind
     ·clear hb
      go_wp2
      obtain⟨ones,la,lc,F,H,a2,b2,ca,cb,es,vs,hpi⟩:=HP.out
      have Vx:=hpi.idle HK3.out
      go_roundw
      case rel=>exact⟨k+1,by omega,by go_num,Vx.1,HKE.out.trans Vx.2 iL⟩
      case measure=>simp [intOf];omega
     ·have hmem:sk.kind∈kl:=KO (by rw [←ej];exact hb)
      have HME:Hid _:=hmem
      clear hb hmem ej
      obtain⟨ones,la,lc,F,H,a2,b2,ca,cb,es,vs,hpi⟩:=HP.out
      have HP3:Hid (xY M (wr.drewN n) w1.heap.size w1.heap.size k):=⟨ones,la,lc,F,H,a2,b2,ca,cb,es,vs,hpi.kept0 HK3.out⟩
      clear hpi
      go_wp2_with fail
      refine(hstep _ _ _ _ sk HP3.out (by exact hsr) (by omega) (by exact HOK.out.kept HK3.out nF) HME.out HC.out).mono ?_
      rintro e w5 ⟨rfl,h5,hk5⟩
      obtain⟨ones',la',lc',F',H',a3,b3,ca',cb',es',vs',hp5⟩:=h5
      have HP5:Hid _:=hp5
      have HK5:Hid _:=hk5
      clear hp5 hk5
      go_wp2_with fail
      refine(Y4 _ _ _ F' H' a3 b3 ca' cb' es' vs' HP5.out.book).mono ?_
      rintro e w6 ⟨rfl,hb6,hk6⟩
      have HP6:Hid _:=HP5.out.whole hb6 hk6
      have HK6:Hid _:=hk6
      clear hb6 hk6
      go_wp2
      go_roundw
      case rel=>exact⟨k+1,by omega,by go_num,⟨_,_,_,_,_,_,_,_,_,_,_,HP6.out⟩,((HKE.out.trans HK3.out fE).trans HK5.out iL).trans HK6.out (fun i hi=>.inl (HP5.out.bF i hi))⟩
      case measure=>simp [intOf];omega
  ·go_wp2
   go_ret
   exact⟨rfl,HK1.out.trans HKE.out (fun k hk=>.inr (by omega))⟩
end law
namespace law
open Go.RowKit disk ref book
theorem Jn(c:Int):¬yU true c=0:=by
 show ¬(if c=0∨c=5 then (8:Int) else c)=0
 split
 ·omega
 ·omega
structure Jo (w w':World) (S':Nat→Prop) (vs:List zO) (p k:ByteArray) (n m:Int) (x:Value) (more:Bool) (c:Int):Prop where
 yes:c=0→∃L,xA vs p k n L∧gZ w w' L m.toNat x more∧∀j,x.ownBlock=some j→¬S' j
 no:c≠0→x=.slice none 0 0∧more=false
theorem Jp(M:zg)(A:jK M)(w:World)(X:Nat→Prop)(bo t:Nat)(h:qn)(bd:Nat)(D:Dk)(S R:Nat→Prop)(ib:Nat)(V:yt)(last:Int)(o:xh M w X bo t h bd D S R ib V last)(ht:t≤4398046511104)(bs:Nat)(hbs:h.s=yw bs)
 (p k:ByteArray) (hp:p.size≤maxLen) (hk:k.size≤maxLen) (n m:Int) (hn:zY n) (hm:zY m):
 Calls Tryz.prog 45 #[.pointer (some ⟨bs,0,none⟩),.string p,.string k,.int .i64 n,.int .i64 m] w fun e w'=>∃D' S' x more,e=.returned (.tuple #[.agg #[x,.bool more],.int .i64 (yU h.shut (qs p k n m))])∧y7 M w w' bd bs S S' D D' 1000∧
  bA M w' bs bd h D D' V∧Jo w w' S' V.vs p k n m x more (yU h.shut (qs p k n m))∧X bs∧¬S bs∧¬R bs∧bs≠bo:=by
 have hn0:=o.n0t
 have htt:=o.tt
 cases o.st with
 |live bs' hs' hX hS hR ho sto shut mb live=>
  have e:bs'=bs:=by rw [hs'] at hbs;unfold yw at hbs;simpa using hbs
  subst e
  refine(A.live w bd bs' S D V p k n m ⟨o.disk,hS,sto,live,o.fu,o.reads0,by have:=o.reads1;omega,by omega⟩ hp hk hn hm).mono ?_
  rintro e w' ⟨D',S',x,more,h1,h2,h3,h4,h5,h6⟩
  rw [shut]
  exact⟨D',S',x,more,h1,⟨h2.disk,h2.foot,h2.kept,h2.reads0,h2.reads1,h2.size,h2.fuse⟩,.live shut h2.sto h3,⟨fun hc=>by
   obtain⟨L,hL,hP⟩:=h4 hc
   exact⟨L,hL,hP,h6⟩,h5⟩,hX,hS,hR,ho⟩
 |shut bs' hs' hX hS hR ho sto shut torn=>
  have e:bs'=bs:=by rw [hs'] at hbs;unfold yw at hbs;simpa using hbs
  subst e
  refine(A.shut w bs' p k n m sto hp hk).mono ?_
  rintro e w' ⟨h1,h2,h3⟩
  rw [shut]
  exact⟨D,S,_,false,h1,⟨o.disk.kept h3 (fun i hi hc=>hS (by rw [←hc];exact hi)),fun k hk=>.inl hk,h3.mono (fun k hk=>.inr hk),by omega,by omega,rfl,o.fu⟩,.shut shut h2 rfl,⟨fun hc=>absurd hc (Jn _),fun _=>⟨rfl,rfl⟩⟩,hX,hS,hR,ho⟩
 |gone hs' torn=>rw [hs'] at hbs;cases hbs
structure Jq (M:zg) (w w':World) (X:Nat→Prop) (bo t bp:Nat) (lv:Value) (F H:Nat→Prop) (a:Option Addr) (ca:Nat) (es vs:List jo) (e:Ending):Prop where
 ret:e=.returned (.bool true)
 st:∃X' H' b' cb' vs',One M w' X' bo (t+1)∧ji w' bp lv F H' a b' ca cb' es vs'∧vs'.length≤vs.length+1∧(∀k,X' k→X k∨w.heap.size≤k)∧(∀k,H' k→H k∨w.heap.size≤k)∧∀k,X' k→¬F k∧¬H' k∧k≠bp
 kept:za (fun k=>X k∨H k∨k=bp) w w'
theorem qu.askedV{M:zg}{w w':World}{base bp t:Nat}{ones:List (Nat×(Nat→Prop))}{la:Option Addr}{lc:Nat}{F H:Nat→Prop}{a b:Option Addr}{ca cb:Nat}{es vs:List jo}(p:qu M w base bp t ones la lc F H a b ca cb es vs)(hbase:base≤w.heap.size)(i:Nat)(hi:i<ones.length)
 {e:Ending} (s:Jq M w w' ones[i].2 ones[i].1 t bp (.slice la ones.length lc) F H a ca es vs e):e=.returned (.bool true)∧xY M w' base bp (t+1)∧za (fun k=>base≤k) w w':=by
 obtain⟨hret,⟨X',H',b',cb',vs',hone,hbook,hvs,hX',hH',hXF⟩,hk⟩:=s
 have hxlt:∀j (hj:j<ones.length) k,ones[j].2 k→k<w.heap.size:=fun j hj=>(p.one j hj).lt
 have hrlt:∀k,(Value.slice la ones.length lc).ownBlock=some k→k<w.heap.size:=fun k hk=>(p.row.lt k hk).2
 have hget:∀j (hj:j<(ones.set i (ones[i].1,X')).length),(j=i∧(ones.set i (ones[i].1,X'))[j]=(ones[i].1,X'))∨(∃hj':j<ones.length,j≠i∧(ones.set i (ones[i].1,X'))[j]=ones[j]):=fun j hj=>by
  by_cases e1:j=i
  ·subst e1;exact .inl ⟨rfl,by simp⟩
  ·exact .inr ⟨by simpa using hj,e1,List.getElem_set_ne (Ne.symm e1) _⟩
 have hlen:(ones.set i (ones[i].1,X')).length=ones.length:=List.length_set ..
 have hfl:=p.book.hlt
 refine⟨hret,⟨ones.set i (ones[i].1,X'),la,lc,F,H',a,b',ca,cb',es,vs',?_,?_,fun j hj=>?_,fun j k hj hk' hjk x hx=>?_,fun j hj x hx=>?_,fun j hj x hx=>?_,fun k hk'=>?_,fun j hj x hx=>?_,p.bF,fun k hk'=>?_,p.bP,?_,?_,?_⟩,⟨hk.os,hk.tape,hk.output,hk.size,fun k hk1 hk2=>hk.block k hk1 (fun hc=>hk2 ?_)⟩⟩
 ·rw [hlen]
  have e1:(ones.set i (ones[i].1,X')).map (fun o=>yw o.1)=ones.map fun o=>yw o.1:=by
   rw [List.map_set]
   apply List.ext_getElem (by simp)
   intro j h1 h2
   simp only [List.getElem_set,List.getElem_map]
   split
   next e2=>subst e2;rfl
   next=>rfl
  rw [e1]
  exact hk.owns p.row (fun k hk1 hc=>by
   have h1:=p.rowF k hk1
   rcases hc with hc|hc|hc
   ·exact p.rsep i hi k hc hk1
   ·exact h1.2.1 hc
   ·exact h1.2.2.1 hc)
 ·rw [hlen];exact hbook
 ·rcases hget j hj with⟨e1,e2⟩|⟨hj',e1,e2⟩
  ·subst e1;rw [e2];exact hone
  ·rw [e2]
   refine((p.one j hj').kept hk (fun k hk1 hc=>?_)).later (by omega)
   rcases hc with hc|hc|hc
   ·exact p.apart i j hi hj' (Ne.symm e1) k hc hk1
   ·exact(p.sep j hj' k hk1).2.1 hc
   ·exact(p.sep j hj' k hk1).2.2 hc
 ·rcases hget j hj with⟨e1,e2⟩|⟨hj',e1,e2⟩<;>rcases hget k hk' with⟨e3,e4⟩|⟨hk'',e3,e4⟩<;>rw [e2] at hx<;>rw [e4]
  ·omega
  ·intro hc
   rcases hX' x hx with h1|h1
   ·exact p.apart i k hi hk'' (Ne.symm e3) x h1 hc
   ·have:=hxlt k hk'' x hc;omega
  ·intro hc
   rcases hX' x hc with h1|h1
   ·exact p.apart j i hj' hi e1 x hx h1
   ·have:=hxlt j hj' x hx;omega
  ·exact p.apart j k hj' hk'' hjk x hx
 ·rcases hget j hj with⟨e1,e2⟩|⟨hj',e1,e2⟩<;>rw [e2] at hx
  ·exact hXF x hx
  ·refine⟨(p.sep j hj' x hx).1,fun hc=>?_,(p.sep j hj' x hx).2.2⟩
   rcases hH' x hc with h1|h1
   ·exact(p.sep j hj' x hx).2.1 h1
   ·have:=hxlt j hj' x hx;omega
 ·rw [hlen]
  intro hc
  rcases hget j hj with⟨e1,e2⟩|⟨hj',e1,e2⟩<;>rw [e2] at hx
  ·rcases hX' x hx with h1|h1
   ·exact p.rsep i hi x h1 hc
   ·have:=hrlt x hc;omega
  ·exact p.rsep j hj' x hx hc
 ·rw [hlen] at hk'
  have h1:=p.rowF k hk'
  refine⟨h1.1,fun hc=>?_,h1.2.2⟩
  rcases hH' k hc with h2|h2
  ·exact h1.2.1 h2
  ·have:=hrlt k hk';omega
 ·rcases hget j hj with⟨e1,e2⟩|⟨hj',e1,e2⟩<;>rw [e2] at hx
  ·rcases hX' x hx with h1|h1
   ·exact p.bX i hi x h1
   ·omega
  ·exact p.bX j hj' x hx
 ·rcases hH' k hk' with h1|h1
  ·exact p.bH k h1
  ·omega
 ·have:=p.fewE;omega
 ·have:=p.fewV;omega
 ·rw [hlen];have:=p.fewO;omega
 ·rcases hc with hc|hc|hc
  ·exact p.bX i hi k hc
  ·exact p.bH k hc
  ·rw [hc];exact p.bP
end law
end Go.Proofs.YtcoengihaobddaaGreatDoor
