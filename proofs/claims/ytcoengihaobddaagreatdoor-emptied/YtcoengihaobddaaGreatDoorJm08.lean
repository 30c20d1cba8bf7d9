/- Part 8 of 31 of a proof: Keep2, Keep3, Keep4, Keep5, Keep6, Keep7 -/
import Derived.Test.YtcoengihaobddaaGreatDoorJm07
set_option maxHeartbeats 8000000
set_option linter.unusedVariables false
set_option linter.unusedSimpArgs false
set_option maxRecDepth 8000
namespace Go.Proofs.YtcoengihaobddaaGreatDoor
open Go.ChangeShapes Go.WideShapes Go.ChangeAt Go.RowKit disk ref book
open keys (zj zd zA zq zs)
namespace keep
open law (qr Z2 dj)
def Row(w:World)(a:Option Addr)(c:Nat)(L:List zO):Prop:=w.ownsRow 0 94 4 (.slice a L.length c) L.length (qr L)
theorem Row.cells{w:World}{a:Option Addr}{c:Nat}{L:List zO}(h:Row w a c L)(h0:0<L.length):∃g,a=some ⟨g,0,none⟩∧g<w.heap.size∧∀k (hk:k<L.length),w.cell? ⟨g,k*4,none⟩=some (.string L[k].key)∧w.cell? ⟨g,k*4+1,none⟩=some (.int .i64 L[k].num)∧w.cell? ⟨g,k*4+2,none⟩=some (.bool L[k].mark)∧w.cell? ⟨g,k*4+3,none⟩=some (.int .i64 (L[k].body.length:Int)):=dj h h0
theorem Row.kept{w w':World}{T:Nat→Prop}{a:Option Addr}{c:Nat}{L:List zO}(h:Row w a c L)(k:za T w w')(hn:∀i,(Value.slice a L.length c).ownBlock=some i→¬T i):Row w' a c L:=k.owns h hn
theorem dl(w:World)(a1 a2:Option Addr)(c1 c2:Nat)(L:List zO)(hl:L.length≤10000)(h1:Row w a1 c1 L)(h2:Row w a2 c2 L):
 Calls Tryz.prog 23 #[.slice a1 L.length c1,.slice a2 L.length c2] w fun e w'=>e=.returned (.bool true)∧∃n,w'=w.drewN n:=by
 have H1:Hid (Row w a1 c1 L):=h1
 have H2:Hid (Row w a2 c2 L):=h2
 clear h1 h2
 go_enter Tryz.func23,Tryz.ntmps23
 go_wp2
 go_loopw [5] (fun t wr=>∃i:Nat,i≤L.length∧t=.int .i64 i∧∃n,wr=w.drewN n) (fun t _=>L.length-(intOf t).toNat)
 case atStart=>exact⟨0,Nat.zero_le _,rfl,0,rfl⟩
 case round=>
  obtain⟨i,hi,rfl,n,rfl⟩:=hrel
  by_cases hlt:i<L.length
  ·obtain⟨g1,rfl,hg1,hv1⟩:=H1.out.cells (by omega)
   obtain⟨g2,rfl,hg2,hv2⟩:=H2.out.cells (by omega)
   obtain⟨p0,p1,p2,p3⟩:=hv1 i hlt
   obtain⟨q0,q1,q2,q3⟩:=hv2 i hlt
   clear hv1 hv2
   generalize L[i]=v at*
   have hm2:(v.mark !=v.mark)=false:=by cases v.mark<;>rfl
   have hiI:(i:Int)<(L.length:Int):=by omega
   go_wp2
   go_quiet (fail)
   go_wp2
   go_roundw
   case rel=>exact⟨i+1,by omega,by go_num,_,rfl⟩
   case measure=>simp [intOf];omega
  ·have e:i=L.length:=by omega
   subst e
   go_wp2
   go_ret
   exact⟨rfl,_,rfl⟩
theorem cz(w:World)(a:Option Addr)(c:Nat)(L:List zO)(hl:L.length≤10000)(h:Row w a c L)(hs:L.Pairwise fun x y=>x.ahead y=true)(hk:∀v∈L,v.key.size≤8):
 Calls Tryz.prog 25 #[.slice a L.length c] w fun e w'=>e=.returned (.bool true)∧za (fun _=>False) w w':=by
 have H1:Hid (Row w a c L):=h
 have HS:Hid (L.Pairwise fun x y=>x.ahead y=true):=hs
 have HK:Hid (∀v∈L,v.key.size≤8):=hk
 clear h hs hk
 go_enter Tryz.func25,Tryz.ntmps25
 go_wp2
 go_loopw [3] (fun t wr=>∃i:Nat,1≤i∧(i≤L.length∨i=1)∧t=.int .i64 i∧za (fun _=>False) w wr) (fun t _=>L.length-(intOf t).toNat)
 case atStart=>exact⟨1,Nat.le_refl _,.inr rfl,rfl,za.refl _ _⟩
 case round=>
  obtain⟨i,hi1,hi,rfl,hkw⟩:=hrel
  have HKW:Hid (za (fun _=>False) w wr):=hkw
  have HR:Hid (Row wr a c L):=H1.out.kept hkw nF
  clear hkw
  by_cases hlt:i<L.length
  ·obtain⟨g1,rfl,hg1,hv1⟩:=HR.out.cells (by omega)
   obtain⟨j,hj⟩:∃j,j+1=i:=⟨i-1,by omega⟩
   obtain⟨p0,p1,_,_⟩:=hv1 j (by omega)
   obtain⟨q0,q1,_,_⟩:=hv1 i hlt
   clear hv1
   have ha:(L[j]'(by omega)).ahead L[i]=true:=List.pairwise_iff_getElem.1 HS.out j i (by omega) hlt (by omega)
   have hk1:=HK.out (L[j]'(by omega)) (List.getElem_mem _)
   have hk2:=HK.out L[i] (List.getElem_mem _)
   generalize L[i]=v at*
   generalize (L[j]'(by omega))=u at*
   have hiI:(i:Int)<(L.length:Int):=by omega
   have hj3:(j:Int)<(L.length:Int):=by omega
   have hw1:IntKind.i64.wrap ((i:Int)-1)=(j:Int):=by rw [show (i:Int)-1=(j:Int) by omega];exact IntWalk.i64_in _ (by omega)
   rw [zO.ahead_iff] at ha
   by_cases hls:ql u.key v.key=true
   ·go_wp2
    go_quiet ((go_at_call 46;exact Calls.quiet_of (gA _ u.key v.key (by omega) (by omega))))
    go_wp2
    go_quiet (fail)
    go_wp2
    go_roundw
    case rel=>exact⟨i+1,by omega,by omega,by go_num,HKW.out.trans (S':=fun _=>False) kD fE⟩
    case measure=>simp [intOf];omega
   ·obtain⟨hkk,hnn⟩:=ha.resolve_left hls
    rw [Bool.not_eq_true] at hls
    rw [hkk] at p0 hls
    have hn2:decide (u.num≤v.num)=false:=decide_eq_false (by omega)
    clear ha
    go_wp2
    go_quiet ((go_at_call 46;exact Calls.quiet_of (gA _ v.key v.key (by omega) (by omega))))
    go_wp2
    go_quiet (fail)
    go_wp2
    go_roundw
    case rel=>exact⟨i+1,by omega,by omega,by go_num,HKW.out.trans (S':=fun _=>False) kD fE⟩
    case measure=>simp [intOf];omega
  ·have hd:decide ((i:Int)<(L.length:Int))=false:=decide_eq_false (by omega)
   go_wp2
   go_ret
   exact⟨rfl,HKW.out⟩
theorem Tryz.infoVer:(Tryz.prog.info? 94).map (fun i=>(i.zero,i.size,i.bytes))=some (some (.agg #[.string ⟨#[]⟩,.int .i64 0,.bool false,.int .i64 0]),4,40):=by kernel_rfl
theorem Qe(l:List zO)(v:zO):qr (l++[v])=qr l++Z2 v:=by unfold qr;simp
theorem j8(l:List zO):∀u∈qr l,u.oneCell'=true:=fun u hu=>by
 unfold qr at hu
 obtain⟨c,hc,hu⟩:=List.mem_flatten.1 hu
 obtain⟨v,_,rfl⟩:=List.mem_map.1 hc
 simp only [Z2,List.mem_cons,List.not_mem_nil,or_false] at hu
 rcases hu with rfl|rfl|rfl|rfl<;>rfl
theorem Row.nil(w:World):Row w none 0 []:=World.ownsRow_nil w 0 94 4
def pre(p:ByteArray)(L:List zO):List zO:=L.filter fun v=>p.data.toList.isPrefixOf v.key.data.toList
theorem XS(p:ByteArray)(L:List zO)(k:Nat)(h:k<L.length):pre p (L.take (k+1))=if p.data.toList.isPrefixOf L[k].key.data.toList then pre p (L.take k)++[L[k]] else pre p (L.take k):=by
 unfold pre
 rw [List.take_succ_eq_append_getElem h,List.filter_append,List.filter_cons,List.filter_nil]
 split<;>simp
theorem Ke(p:ByteArray)(L:List zO)(k:Nat):(pre p (L.take k)).length≤L.length:=Nat.le_trans (List.length_filter_le _ _) (by rw [List.length_take];omega)
theorem Row.pushed{w wr w3:World}{a:Option Addr}{c:Nat}{us:List zO}(hk:za (fun _=>False) w wr)(hnew:∀k,(Value.slice a us.length c).ownBlock=some k→w.heap.size≤k)(v:zO)(o:Obj)(g c2:Nat)
 (hown:w3.ownsRow 0 94 4 (.slice (some ⟨g,0,none⟩) (us.length+1) c2) (us.length+1) (qr us++Z2 v))
 (hgrow:(wr.alloc o).grownBy w3 (Value.slice a us.length c).ownBlock) (hat:(Value.slice a us.length c).ownBlock=some g∨g=wr.heap.size+1):
 Row w3 (some ⟨g,0,none⟩) c2 (us++[v])∧za (fun _=>False) w w3∧w.heap.size≤g:=by
 have k2:za (fun k=>w.heap.size≤k) wr w3:=((za.alloc _ wr o).trans (za.grown (S:=fun k=>w.heap.size≤k) hgrow (fun k hk=>hnew k hk)) iL)
 refine⟨?_,hk.trans k2 (fun k hk=>.inr hk),?_⟩
 ·unfold Row
  rw [Qe,List.length_append]
  exact hown
 ·rcases hat with e|e
  ·exact hnew _ e
  ·have:=hk.size;omega
theorem gB(w:World)(a:Option Addr)(c:Nat)(L:List zO)(hl:L.length≤10000)(h:Row w a c L)(hlt:∀k,(Value.slice a L.length c).ownBlock=some k→k<w.heap.size)(p:ByteArray)(hp:p.size≤8)(hk:∀v∈L,v.key.size≤8):
 Calls Tryz.prog 24 #[.slice a L.length c,.string p] w fun e w'=>∃a' c',e=.returned (.slice a' (pre p L).length c')∧Row w' a' c' (pre p L)∧za (fun _=>False) w w'∧∀k,(Value.slice a' (pre p L).length c').ownBlock=some k→w.heap.size≤k:=by
 obtain⟨i0,hi0,hz0,hz1,hz2⟩:=yK Tryz.infoVer
 have HI0:Hid (Tryz.prog.info? 94=some i0∧i0.zero=some (.agg #[.string ⟨#[]⟩,.int .i64 0,.bool false,.int .i64 0])∧i0.size=4∧i0.bytes=40):=⟨hi0,hz0,hz1,hz2⟩
 have HR:Hid (Row w a c L):=h
 have HK:Hid (∀v∈L,v.key.size≤8):=hk
 have HL:Hid (∀k,(Value.slice a L.length c).ownBlock=some k→k<w.heap.size):=hlt
 clear hi0 hz0 hz1 hz2 h hk hlt
 go_enter Tryz.func24,Tryz.ntmps24
 go_wp2
 go_loopw [5,6] (fun x i wr=>∃k:Nat,k≤L.length∧i=.int .i64 k∧za (fun _=>False) w wr∧∃a' c',x=.slice a' (pre p (L.take k)).length c'∧Row wr a' c' (pre p (L.take k))∧∀k',(Value.slice a' (pre p (L.take k)).length c').ownBlock=some k'→w.heap.size≤k') (fun _ i _=>L.length-(intOf i).toNat)
 case atStart=>exact⟨0,Nat.zero_le _,rfl,za.refl _ _,none,0,rfl,Row.nil w,fun k hk=>by cases hk⟩
 case round=>
  obtain⟨k,hk,rfl,hkw,a',c',rfl,hrow,hnew⟩:=hrel
  have HKW:Hid (za (fun _=>False) w wr):=hkw
  have HRW:Hid (Row wr a c L):=HR.out.kept hkw nF
  have HW:Hid (Row wr a' c' (pre p (L.take k))):=hrow
  have HN:Hid (∀k',(Value.slice a' (pre p (L.take k)).length c').ownBlock=some k'→w.heap.size≤k'):=hnew
  clear hkw hrow hnew
  by_cases hlt2:k<L.length
  ·have HS:Hid _:=XS p L k hlt2
   have hwl:=Ke p L k
   obtain⟨g,rfl,hg,hv⟩:=HRW.out.cells (by omega)
   obtain⟨h0,h1,h2,h3⟩:=hv k hlt2
   have hks:=HK.out L[k] (List.getElem_mem _)
   clear hv
   generalize hus:pre p (L.take k)=us at*
   have HU:Hid _:=hus
   clear hus
   generalize L[k]=v at*
   have hkI:(k:Int)<(L.length:Int):=by omega
   have yes:p.data.toList.isPrefixOf v.key.data.toList=true→_:=fun hy=>HS.out.trans (if_pos hy)
   have no:¬p.data.toList.isPrefixOf v.key.data.toList=true→_:=fun hy=>HS.out.trans (if_neg hy)
   have HY:Hid (p.data.toList.isPrefixOf v.key.data.toList=true→pre p (L.take (k+1))=us++[v]):=yes
   have HNO:Hid (¬p.data.toList.isPrefixOf v.key.data.toList=true→pre p (L.take (k+1))=us):=no
   clear yes no
   by_cases hsz:p.size≤v.key.size
   ·have hpe:=v8 v.key p hsz
    cases hb:p.data.toList.isPrefixOf v.key.data.toList with
    |true=>
     rw [hb] at hpe
     have HB:Hid (p.data.toList.isPrefixOf v.key.data.toList=true):=hb
     clear hb
     go_wp2_with (refine wpList_append_lies _ rfl (.tmp 32) (.tmp 37) 44 rfl 0 94 i0 _ 4 40 Tryz.underlying44 HI0.out.1 HI0.out.2.1 HI0.out.2.2.1 HI0.out.2.2.2 rfl (by omega) (.slice a' us.length c') us.length (qr us) (by rfl) (by exact World.ownsRow.alloc HW.out _) ⟨wr.heap.size,0,none⟩ 1 1 (Z2 v) (by rfl) (by rfl) (by exact World.news_of_block (heap_alloc_new wr _)) (by simp [Value.oneCell',Z2]) (by omega) (by unfold maxLen;omega) (by omega) (Nat.zero_le _) (wr.heap.size+1) (by simp) ?_;intro g2 c2 w3 hown2 hgrow2 hat2 hlt3;have HX:Hid _:=Row.pushed HKW.out HN.out v _ g2 c2 hown2 hgrow2 hat2;clear hown2 hgrow2 hat2)
     go_roundw
     case rel=>exact⟨k+1,by omega,by go_num,HX.out.2.1,some ⟨g2,0,none⟩,c2,by rw [HY.out HB.out,List.length_append];rfl,by rw [HY.out HB.out];exact HX.out.1,fun k' hk'=>by simp [Value.ownBlock] at hk';rw [←hk'];exact HX.out.2.2⟩
     case measure=>simp [intOf];omega
    |false=>
     rw [hb] at hpe
     have HB:Hid (p.data.toList.isPrefixOf v.key.data.toList=false):=hb
     clear hb
     go_wp2
     go_roundw
     case rel=>exact⟨k+1,by omega,by go_num,HKW.out,a',c',by rw [HNO.out (by rw [HB.out];simp)],by rw [HNO.out (by rw [HB.out];simp)];exact HW.out,by rw [HNO.out (by rw [HB.out];simp)];exact HN.out⟩
     case measure=>simp [intOf];omega
   ·have hb:=jM v.key p (by omega)
    have HB:Hid (p.data.toList.isPrefixOf v.key.data.toList=false):=hb
    clear hb
    go_wp2
    go_roundw
    case rel=>exact⟨k+1,by omega,by go_num,HKW.out,a',c',by rw [HNO.out (by rw [HB.out];simp)],by rw [HNO.out (by rw [HB.out];simp)];exact HW.out,by rw [HNO.out (by rw [HB.out];simp)];exact HN.out⟩
    case measure=>simp [intOf];omega
  ·have e:L.take k=L:=List.take_of_length_le (by omega)
   rw [e] at HW HN
   rw [e]
   go_wp2
   go_ret
   exact⟨a',c',rfl,HW.out,HKW.out,HN.out⟩
end keep
namespace keep
open law (qH zg yE yG qG y9 KZ Chg)
structure XT (w:World) (P:Nat→Prop) (cs:List Value) (v:zO):Prop where
 at_:∃a cap,cs=[.string v.key,.int .i64 v.num,.slice a v.body.length cap]∧zE w P a v.body
structure Told (w:World) (P:Nat→Prop) (cs:List (List Value)) (vs:List zO):Prop where
 len:cs.length=vs.length
 each:∀i (h:i<cs.length) (h':i<vs.length),XT w P cs[i] vs[i]
theorem Told.kept{w w':World}{P T:Nat→Prop}{cs:List (List Value)}{vs:List zO}(h:Told w P cs vs)(k:za T w w')(hn:∀i,P i→¬T i):Told w' P cs vs:=
 ⟨h.len,fun i h1 h2=>by
  obtain⟨a,c,e,hb⟩:=(h.each i h1 h2).at_
  exact⟨a,c,e,hb.kept k hn⟩⟩
theorem Told.mono{w:World}{P Q:Nat→Prop}{cs:List (List Value)}{vs:List zO}(h:Told w P cs vs)(hs:∀i,P i→i<w.heap.size→Q i):Told w Q cs vs:=
 ⟨h.len,fun i h1 h2=>by
  obtain⟨a,c,e,hb⟩:=(h.each i h1 h2).at_
  exact⟨a,c,e,hb.mono hs⟩⟩
theorem Told.nil(w:World)(P:Nat→Prop):Told w P [] []:=⟨rfl,fun i h=>by simp at h⟩
theorem Told.snoc{w:World}{P:Nat→Prop}{cs:List (List Value)}{vs:List zO}(h:Told w P cs vs){c:List Value}{v:zO}(hv:XT w P c v):Told w P (cs++[c]) (vs++[v]):=by
 refine⟨by simp [h.len],fun i h1 h2=>?_⟩
 by_cases hi:i<cs.length
 ·rw [List.getElem_append_left hi,List.getElem_append_left (by rw [←h.len];exact hi)]
  exact h.each i hi _
 ·have hl:=h.len
  have e:i=cs.length:=by simp at h1;omega
  subst e
  rw [List.getElem_append_right (by omega),List.getElem_append_right (by omega)]
  simpa [hl] using hv
theorem Told.three{w:World}{P:Nat→Prop}{cs:List (List Value)}{vs:List zO}(h:Told w P cs vs):∀c∈cs,c.length=3:=fun c hc=>by
 obtain⟨i,hi,rfl⟩:=List.getElem_of_mem hc
 obtain⟨a,c,e,_⟩:=(h.each i hi (by rw [←h.len];exact hi)).at_
 rw [e];rfl
theorem Told.one{w:World}{P:Nat→Prop}{cs:List (List Value)}{vs:List zO}(h:Told w P cs vs):∀u∈cs.flatten,u.oneCell'=true:=fun u hu=>by
 obtain⟨c,hc,hu⟩:=List.mem_flatten.1 hu
 obtain⟨i,hi,rfl⟩:=List.getElem_of_mem hc
 obtain⟨a,cap,e,_⟩:=(h.each i hi (by rw [←h.len];exact hi)).at_
 rw [e] at hu
 simp only [List.mem_cons,List.not_mem_nil,or_false] at hu
 rcases hu with rfl|rfl|rfl<;>rfl
structure qI (M:zg) (w:World) (X:Nat→Prop) (bp bd bs:Nat) (S:Nat→Prop) (D:Dk) (V:qH) (a:Option Addr) (cap:Nat) (cs:List (List Value)) (G:Nat→Prop):Prop where
 head:w.heap[bp]? =some (.cells #[.pointer (some ⟨bd,0,none⟩),.pointer (some ⟨bs,0,none⟩),.slice a V.vs.length cap,.int .i64 V.n0,.int .i64 (-1),.int .i64 0,.bool true] 33 (0,0))
 fore:qG M w bd bs S D V
 size:D.bs.length=1000
 row:w.ownsRow 0 85 3 (.slice a V.vs.length cap) V.vs.length cs.flatten
 told:Told w G cs V.vs
 xlt:∀k,X k→k<w.heap.size
 xS:∀k,S k→X k
 xb:X bs
 xp:X bp
 xr:∀k,(Value.slice a V.vs.length cap).ownBlock=some k→X k
 xG:∀k,G k→X k
 pS:¬S bp
 pb:bp≠bs
 rS:∀k,(Value.slice a V.vs.length cap).ownBlock=some k→¬S k∧k≠bs∧k≠bp
 gS:∀k,G k→¬S k∧k≠bs∧k≠bp∧(Value.slice a V.vs.length cap).ownBlock≠some k
section
variable {M:zg} {w w':World} {X T:Nat→Prop} {bp bd bs:Nat} {S:Nat→Prop} {D:Dk} {V:qH} {a:Option Addr} {cap:Nat} {cs:List (List Value)} {G:Nat→Prop}
theorem qG.kept(h:qG M w bd bs S D V)(k:za T w w')(hS:∀i,S i→¬T i)(hb:¬T bs):qG M w' bd bs S D V:=
 ⟨h.disk.kept k hS,h.apart,M.sto_kept _ _ _ _ _ h.sto k hb,h.live,h.fuse,h.reads0,h.reads1,h.few⟩
theorem qI.lt(h:qI M w X bp bd bs S D V a cap cs G):bp<w.heap.size:=h.xlt bp h.xp
theorem qI.kept(h:qI M w X bp bd bs S D V a cap cs G)(k:za T w w')(hn:∀i,X i→¬T i):qI M w' X bp bd bs S D V a cap cs G:=
 ⟨(k.block bp h.lt (hn bp h.xp)).trans h.head,qG.kept h.fore k (fun i hi=>hn i (h.xS i hi)) (hn bs h.xb),h.size,k.owns h.row (fun i hi=>hn i (h.xr i hi)),h.told.kept k (fun i hi=>hn i (h.xG i hi)),
   fun i hi=>Nat.lt_of_lt_of_le (h.xlt i hi) k.size,h.xS,h.xb,h.xp,h.xr,h.xG,h.pS,h.pb,h.rS,h.gS⟩
theorem qI.c(h:qI M w X bp bd bs S D V a cap cs G):w.cell? ⟨bp,0,none⟩=some (.pointer (some ⟨bd,0,none⟩))∧w.cell? ⟨bp,1,none⟩=some (.pointer (some ⟨bs,0,none⟩))∧w.cell? ⟨bp,2,none⟩=some (.slice a V.vs.length cap)∧w.cell? ⟨bp,3,none⟩=some (.int .i64 V.n0)∧w.cell? ⟨bp,5,none⟩=some (.int .i64 0)∧w.cell? ⟨bp,6,none⟩=some (.bool true)∧∀i,w.frozen? ⟨bp,i,none⟩=false:=by
 have hh:=h.head
 refine⟨?_,?_,?_,?_,?_,?_,fun i=>frozen_of_row w bp i _ _ hh⟩<;>rw [cell_of_row w bp _ _ _ _ hh]<;>rfl
theorem qI.rowAt(h:qI M w X bp bd bs S D V a cap cs G)(hn:0<V.vs.length):∃g,a=some ⟨g,0,none⟩:=by
 rcases h.row.2 with⟨h0,h1⟩|⟨g,cap',cur,hv,_⟩
 ·simp at h0;omega
 ·cases hv;exact⟨g,rfl⟩
theorem qI.cells{g:Nat}(h:qI M w X bp bd bs S D V (some ⟨g,0,none⟩) cap cs G)(i:Nat)(hi:i<V.vs.length):
 w.cell? ⟨g,i*3,none⟩=some (.string V.vs[i].key)∧w.cell? ⟨g,i*3+1,none⟩=some (.int .i64 V.vs[i].num)∧∃a' cap',w.cell? ⟨g,i*3+2,none⟩=some (.slice a' V.vs[i].body.length cap')∧zE w G a' V.vs[i].body:=by
 have hl:=h.told.len
 have hr:=h.row
 rw [←hl] at hr
 have hx:=yd hr h.told.three i (by rw [hl];exact hi)
 obtain⟨a',cap',e,hb⟩:=(h.told.each i (by rw [hl];exact hi) hi).at_
 rw [e] at hx
 exact⟨hx 0 _ rfl,hx 1 _ rfl,a',cap',hx 2 _ rfl,hb⟩
theorem yr(h:qI M w X bp bd bs S D V a cap cs G)(hw:weight V.vs≤1000):Calls Tryz.prog 32 #[.pointer (some ⟨bp,0,none⟩)] w fun e w'=>e=.returned (.int .i64 (weight V.vs:Nat))∧w'=w:=by
 obtain⟨_,_,hc2,_,hc5,_,_⟩:=h.c
 have hfew:=h.fore.live.good.few
 have HB:Hid (∀v∈V.vs,v.body.length≤300):=h.fore.live.good.body
 have HH:Hid (qI M w X bp bd bs S D V a cap cs G):=h
 clear h
 go_enter Tryz.func32,Tryz.ntmps32
 go_wp2
 go_loop [3,4] (fun t i=>∃k:Nat,k≤V.vs.length∧i=.int .i64 k∧t=.int .i64 ((weight (V.vs.take k):Nat):Int)) (fun _ i=>V.vs.length-(intOf i).toNat)
 case atStart=>exact⟨0,Nat.zero_le _,rfl,by simp [weight]⟩
 case round=>
  obtain⟨k,hk,rfl,rfl⟩:=hrel
  have hwl:=di (vs:=V.vs.take k) (fun v hv=>by have:=HB.out v (List.mem_of_mem_take hv);omega)
  have htl:(V.vs.take k).length≤V.vs.length:=by rw [List.length_take];omega
  generalize hW:weight (V.vs.take k)=W at*
  have HW:Hid _:=hW
  clear hW
  have hW2:W≤100000:=by omega
  clear hwl htl
  by_cases hlt:k<V.vs.length
  ·have HS:Hid _:=uE V.vs k hlt
   obtain⟨g,rfl⟩:=HH.out.rowAt (by omega)
   obtain⟨_,_,a',cap',h3,_⟩:=HH.out.cells k hlt
   have hb1:=HB.out V.vs[k] (List.getElem_mem hlt)
   have hkI:(k:Int)<(V.vs.length:Int):=by omega
   go_wp2
   go_round
   case rel=>exact⟨k+1,by omega,by go_num,by rw [HS.out,HW.out];unfold qx;go_num⟩
   case measure=>simp [intOf];omega
  ·have he:weight V.vs=W:=by
    have e:V.vs.take k=V.vs:=List.take_of_length_le (by omega)
    rw [←HW.out,e]
   go_wp2
   go_ret
   exact⟨zj rfl,rfl⟩
theorem uJ(M:zg)(A:yE M)(hM:∀f,M.Fu f→f≠0)(w:World):Calls Tryz.prog 14 #[] w fun e w'=>∃X bp bd bs S D,e=.returned (.pointer (some ⟨bp,0,none⟩))∧qI M w' X bp bd bs S D ⟨[],0⟩ none 0 [] (fun _=>False)∧za (fun _=>False) w w'∧(∀k,X k→w.heap.size≤k)∧D.reads≤2000:=by
 go_enter Tryz.func14,Tryz.ntmps14
 go_wp2_with fail
 refine(xN _ 1000 (by unfold zG;omega)).mono ?_
 rintro e w1 ⟨rfl,hd1,hk1⟩
 have HD1:Hid (zh w1 (w.heap.size+1) (fun k=>k=w.heap.size+1∨k=w.heap.size) (Dk.fresh (x8 1000))):=hd1
 have HK1:Hid (za (fun _=>False) w w1):=hk1
 have hl1:=hd1.lt (w.heap.size+1) (.inl rfl)
 have hs1:=hk1.size
 clear hd1 hk1
 go_wp2_with fail
 have hb2:=heap_alloc_new w1 (.cells #[.pointer (some ⟨w.heap.size+1,0,none⟩),.pointer none,.slice none 0 0,.int .i64 0,.int .i64 (-1),.int .i64 0,.bool false] 33)
 have hk2:za (fun _=>False) w1 (w1.alloc (.cells #[.pointer (some ⟨w.heap.size+1,0,none⟩),.pointer none,.slice none 0 0,.int .i64 0,.int .i64 (-1),.int .i64 0,.bool false] 33)):=za.alloc _ _ _
 have hs2:(w1.alloc (.cells #[.pointer (some ⟨w.heap.size+1,0,none⟩),.pointer none,.slice none 0 0,.int .i64 0,.int .i64 (-1),.int .i64 0,.bool false] 33)).heap.size=w1.heap.size+1:=by simp
 generalize w1.alloc (.cells #[.pointer (some ⟨w.heap.size+1,0,none⟩),.pointer none,.slice none 0 0,.int .i64 0,.int .i64 (-1),.int .i64 0,.bool false] 33)=w2 at*
 have hd2:=HD1.out.kept hk2 nF
 have HK2:Hid (za (fun _=>False) w w2):=HK1.out.trans hk2 iL
 have HB2:Hid (w2.heap[w1.heap.size]? =some (.cells #[.pointer (some ⟨w.heap.size+1,0,none⟩),.pointer none,.slice none 0 0,.int .i64 0,.int .i64 (-1),.int .i64 0,.bool false] 33 (0,0))):=hb2
 have hcould:M.Could (Dk.fresh (x8 1000)) (fun U=>U=⟨[],0⟩):=⟨by simp [Dk.fresh],by simp [Dk.fresh,x8],fun ks=>⟨_,rfl,M.zeros (x8 1000) (by decide) (by decide)⟩⟩
 refine(A.big w2 (w.heap.size+1) _ _ (fun U=>U=⟨[],0⟩) hd2 hcould M.fu_neg (by show (0:Int)≤0;omega) (by show (0:Int)≤_;omega)).mono ?_
 rintro e w3 ⟨D',S',hop,⟨bs,V,rfl,hbs,hSbs,hsto,rfl,hlive⟩|⟨rfl,hf,hc⟩⟩
 ·have HOP:Hid (KZ M w2 w3 (w.heap.size+1) (fun k=>k=w.heap.size+1∨k=w.heap.size) S' (Dk.fresh (x8 1000)) D'):=hop
  have HLV:Hid (M.Live D' ⟨[],0⟩):=hlive
  have HST:Hid (M.Sto w3 bs (some (w.heap.size+1))):=hsto
  have HSB:Hid (¬S' bs):=hSbs
  have hb3:w3.heap[w1.heap.size]? =_:=(hop.kept.block w1.heap.size (by omega) (by omega)).trans hb2
  have HB3:Hid (w3.heap[w1.heap.size]? =some (.cells #[.pointer (some ⟨w.heap.size+1,0,none⟩),.pointer none,.slice none 0 0,.int .i64 0,.int .i64 (-1),.int .i64 0,.bool false] 33 (0,0))):=hb3
  have hs3:=hop.kept.size
  have hc1:w3.cell? ⟨w1.heap.size,1,none⟩=some (.pointer none):=cR hb3 rfl
  have hc6:w3.cell? ⟨w1.heap.size,6,none⟩=some (.bool false):=cR hb3 rfl
  have hf1:=frozen_of_row w3 w1.heap.size 1 _ _ hb3
  have hf6:=frozen_of_row w3 w1.heap.size 6 _ _ hb3
  clear hb3 hb2 hop hlive hsto hcould hd2 hSbs hk2
  go_wp2_with fail
  go_ret
  have k3:za (fun k=>k=w1.heap.size) w3 ((w3.setCell ⟨w1.heap.size,1,none⟩ (.pointer (some ⟨bs,0,none⟩))).setCell ⟨w1.heap.size,6,none⟩ (.bool true)):=
   (za.setCell (S:=fun k=>k=w1.heap.size) w3 ⟨w1.heap.size,1,none⟩ _ rfl).trans (za.setCell (S:=fun k=>k=w1.heap.size) _ ⟨w1.heap.size,6,none⟩ _ rfl) iL
  have hb5:((w3.setCell ⟨w1.heap.size,1,none⟩ (.pointer (some ⟨bs,0,none⟩))).setCell ⟨w1.heap.size,6,none⟩ (.bool true)).heap[w1.heap.size]? =some (.cells #[.pointer (some ⟨w.heap.size+1,0,none⟩),.pointer (some ⟨bs,0,none⟩),.slice none 0 0,.int .i64 0,.int .i64 (-1),.int .i64 0,.bool true] 33 (0,0)):=by
   have e1:=heap_setCell_same w3 w1.heap.size 1 _ _ (.pointer (some ⟨bs,0,none⟩)) HB3.out
   exact heap_setCell_same _ w1.heap.size 6 _ _ (.bool true) e1
  have hS':∀k,S' k→k=w.heap.size+1∨k=w.heap.size∨w2.heap.size≤k:=fun k hk=>by
   rcases HOP.out.foot k hk with(h|h)|h
   ·exact .inl h
   ·exact .inr (.inl h)
   ·exact .inr (.inr h)
  have hSw:¬S' w1.heap.size:=fun hk=>by have:=hS' _ hk;omega
  have hbsl:=M.sto_lt _ _ _ HST.out
  have hrd:=HOP.out.reads1
  have hrd0:=HOP.out.reads0
  have ez:(Dk.fresh (x8 1000)).bs.length=1000:=by simp [Dk.fresh,x8]
  have er:(Dk.fresh (x8 1000)).reads=0:=rfl
  rw [ez,er] at hrd
  rw [er] at hrd0
  have k4:=HK2.out.trans HOP.out.kept (fun k hk=>.inr (by rcases hk with e|e<;>omega))
  refine⟨fun k=>S' k∨k=bs∨k=w1.heap.size,w1.heap.size,w.heap.size+1,bs,S',D',rfl,⟨hb5,⟨HOP.out.disk.kept k3 (fun k hk e=>hSw (by rw [←show k=w1.heap.size from e];exact hk)),HSB.out,M.sto_kept _ _ _ _ _ HST.out k3 (by omega),HLV.out,HOP.out.fuse,hrd0,by omega,by show (0:Int)≤_;omega⟩,HOP.out.size.trans ez,World.ownsRow_nil _ _ _ _,Told.nil _ _,?_,fun k hk=>.inl hk,.inr (.inl rfl),.inr (.inr rfl),fun k hk=>(by cases hk),fun k hk=>hk.elim,hSw,by omega,fun k hk=>(by cases hk),fun k hk=>hk.elim⟩,k4.trans k3 (fun k hk=>.inr (by rw [hk];omega)),?_,by omega⟩
  ·intro k hk
   have hz:=k3.size
   rcases hk with hk|rfl|rfl
   ·have:=HOP.out.disk.lt k hk;omega
   ·omega
   ·omega
  ·rintro k (hk|rfl|rfl)
   ·have:=hS' k hk;omega
   ·omega
   ·omega
 ·exact absurd hf (hM _ hop.fuse)
end
end keep
namespace keep
open law (qH zg yE yG qG y9 KZ Chg K7)
theorem Tryz.infoKp:(Tryz.prog.info? 85).map (fun i=>(i.zero,i.size,i.bytes))=some (some (.agg #[.string ⟨#[]⟩,.int .i64 0,.slice none 0 0]),3,48):=by kernel_rfl
theorem Kf{w:World}{base n:Nat}{t:TypeId}{a:Option Addr}{c:Nat}{xs:List Value}(h:w.ownsRow base t 1 (.slice a n c) n xs):n≤c∧c≤maxLen:=by
 rcases h.2 with⟨h0,h1⟩|⟨g,cap',cur,hv,_,_,h2,h3,_⟩
 ·simp only [Value.slice.injEq] at h0;omega
 ·simp only [Value.slice.injEq] at hv;omega
section
variable {M:zg} {w w':World} {X T:Nat→Prop} {bp bd bs:Nat} {S:Nat→Prop} {D:Dk} {V:qH} {a:Option Addr} {cap:Nat} {cs:List (List Value)} {G:Nat→Prop}
theorem qI.pushed(h:qI M w X bp bd bs S D V a cap cs G){w3 w4 w5:World}{S2:Nat→Prop}{D2:Dk}{key:ByteArray}{B:List UInt8}(k3:za (fun k=>S k∨k=bs∨k=bp) w w3)(hS2:∀k,S2 k→(S k∨w.heap.size≤k)∧k<w3.heap.size)
 (f3:qG M w3 bd bs S2 D2 (V.add key false B)) (hz:D2.bs.length=1000)
 (hd3:w3.heap[bp]? =some (.cells #[.pointer (some ⟨bd,0,none⟩),.pointer (some ⟨bs,0,none⟩),.slice a V.vs.length cap,.int .i64 (V.n0+1),.int .i64 (-1),.int .i64 0,.bool true] 33 (0,0)))
 (k4:za (fun _=>False) w3 w4) (a2:Option Addr) (c2:Nat) (own4:w4.ownsRow 0 5 1 (.slice a2 B.length c2) B.length (B.map qe)) (fr4:∀k,(Value.slice a2 B.length c2).ownBlock=some k→w3.heap.size≤k)
 (o:Obj) (g c3:Nat) (hown:w5.ownsRow 0 85 3 (.slice (some ⟨g,0,none⟩) (V.vs.length+1) c3) (V.vs.length+1) (cs.flatten++[.string key,.int .i64 (V.n0+1),.slice a2 B.length c2])) (hgrow:(w4.alloc o).grownBy w5 (Value.slice a V.vs.length cap).ownBlock) (hat:(Value.slice a V.vs.length cap).ownBlock=some g∨g=w4.heap.size+1):
 qI M (w5.setCell ⟨bp,2,none⟩ (.slice (some ⟨g,0,none⟩) (V.vs.length+1) c3)) (fun k=>X k∨(w.heap.size≤k∧k<(w5.setCell ⟨bp,2,none⟩ (.slice (some ⟨g,0,none⟩) (V.vs.length+1) c3)).heap.size)) bp bd bs S2 D2 (V.add key false B) (some ⟨g,0,none⟩) c3 (cs++[[.string key,.int .i64 (V.n0+1),.slice a2 B.length c2]]) (fun k=>G k∨(Value.slice a2 B.length c2).ownBlock=some k)∧
  za X w (w5.setCell ⟨bp,2,none⟩ (.slice (some ⟨g,0,none⟩) (V.vs.length+1) c3)):=by
 have hbp:=h.lt
 have hbs:=h.xlt bs h.xb
 have s3:=k3.size
 have s4:=k4.size
 have k45:za (fun k=>(Value.slice a V.vs.length cap).ownBlock=some k) w4 w5:=(za.alloc _ w4 o).trans (za.grown hgrow (fun k hk=>hk)) iL
 have k35:za (fun k=>(Value.slice a V.vs.length cap).ownBlock=some k) w3 w5:=(k4.mono fE).trans k45 iL
 have k6:=za.setCell (S:=fun k=>k=bp) w5 ⟨bp,2,none⟩ (.slice (some ⟨g,0,none⟩) (V.vs.length+1) c3) rfl
 have k36:za (fun k=>(Value.slice a V.vs.length cap).ownBlock=some k∨k=bp) w3 (w5.setCell ⟨bp,2,none⟩ (.slice (some ⟨g,0,none⟩) (V.vs.length+1) c3)):=(k35.mono iL).trans k6 (fun _ h=>.inl (.inr h))
 have s5:=k45.size
 have hl:(V.add key false B).vs.length=V.vs.length+1:=by simp [qH.add]
 have gz:w4.heap.size+1≤w5.heap.size:=by have:=hgrow.size;simpa using this
 have glt:g<w5.heap.size:=by
  rcases hown.2 with⟨h0,_⟩|⟨g',cap',cur,hv,_,hg,_⟩
  ·cases h0
  ·cases hv;exact(lT hg)
 have hrow:∀k,(Value.slice a V.vs.length cap).ownBlock=some k→k<w.heap.size:=fun k hk=>h.xlt k (h.xr k hk)
 have hG:∀k,G k→k<w.heap.size:=fun k hk=>h.xlt k (h.xG k hk)
 have hbody:∀k,(Value.slice a2 B.length c2).ownBlock=some k→w3.heap.size≤k∧k<w4.heap.size:=fun k hk=>⟨fr4 k hk,(own4.lt k hk).2⟩
 have hgb:g≠bp:=by
  rcases hat with e|e
  ·exact fun e2=>(h.rS g e).2.2 e2
  ·omega
 have hgn:∀k,(Value.slice (some ⟨g,0,none⟩) (V.add key false B).vs.length c3).ownBlock=some k→k=g:=fun k hk=>by simpa [Value.ownBlock,eq_comm] using hk
 have hS2n:∀k,k<w.heap.size→¬S k→¬S2 k:=fun k h1 h2 h3=>by rcases (hS2 k h3).1 with h4|h4;exact h2 h4;omega
 refine⟨⟨?_,?_,hz,?_,?_,?_,?_,.inl h.xb,.inl h.xp,?_,?_,hS2n bp hbp h.pS,h.pb,?_,?_⟩,?_⟩
 ·have e:w5.heap[bp]? =_:=(k35.block bp (by omega) (fun e=>(h.rS bp e).2.2 rfl)).trans hd3
  rw [heap_setCell_same w5 bp 2 _ _ _ e,hl];rfl
 ·refine qG.kept f3 k36 (fun k hk hc=>?_) (fun hc=>hc.elim (fun e=>(h.rS bs e).2.1 rfl) (fun e=>h.pb e.symm))
  rcases hc with e|rfl
  ·exact hS2n k (hrow k e) (h.rS k e).1 hk
  ·exact hS2n k hbp h.pS hk
 ·rw [hl]
  have:=k6.owns hown (fun k hk e=>by simp [Value.ownBlock] at hk;omega)
  simpa using this
 ·refine Told.snoc (((h.told.kept k3 (fun k hk hc=>?_)).kept k36 (fun k hk hc=>?_)).mono (fun k hk _=>.inl hk)) ⟨a2,c2,rfl,?_⟩
  ·have:=h.gS k hk
   rcases hc with hc|hc|hc
   ·exact this.1 hc
   ·exact this.2.1 hc
   ·exact this.2.2.1 hc
  ·have:=h.gS k hk
   rcases hc with hc|hc
   ·exact this.2.2.2 hc
   ·exact this.2.2.1 hc
  ·have r5:=k45.owns own4 (fun k hk e=>by have:=hbody k hk;have:=hrow k e;omega)
   have r6:=k6.owns r5 (fun k hk e=>by have:=hbody k hk;omega)
   exact zE.of_own 5 r6 rfl _ (fun k hk=>.inr hk)
 ·intro k hk
  rcases hk with hk|⟨_,hk⟩
  ·have:=h.xlt k hk;have:=k6.size;omega
  ·exact hk
 ·intro k hk
  rcases hS2 k hk with⟨h1|h1,h2⟩
  ·exact .inl (h.xS k h1)
  ·exact .inr ⟨h1,by have:=k6.size;omega⟩
 ·intro k hk
  rw [hgn k hk]
  rcases hat with e|e
  ·exact .inl (h.xr g e)
  ·exact .inr ⟨by omega,by have:=k6.size;omega⟩
 ·intro k hk
  rcases hk with hk|hk
  ·exact .inl (h.xG k hk)
  ·have:=hbody k hk
   exact .inr ⟨by omega,by have:=k6.size;omega⟩
 ·intro k hk
  rw [hgn k hk]
  rcases hat with e|e
  ·have:=h.rS g e
   exact⟨hS2n g (hrow g e) this.1,this.2.1,this.2.2⟩
  ·exact⟨fun hs=>by have:=(hS2 g hs).2;omega,by omega,by omega⟩
 ·intro k hk
  have hne:k≠g→(Value.slice (some ⟨g,0,none⟩) (V.add key false B).vs.length c3).ownBlock≠some k:=fun h1 h2=>h1 (hgn k h2)
  rcases hk with hk|hk
  ·have:=h.gS k hk
   have hlt:=hG k hk
   exact⟨hS2n k hlt this.1,this.2.1,this.2.2.1,hne (fun e=>by
    rcases hat with e2|e2
    ·exact this.2.2.2 (by rw [e];exact e2)
    ·omega)⟩
  ·have hb:=hbody k hk
   exact⟨fun hs=>by have:=(hS2 k hs).2;omega,by omega,by omega,hne (fun e=>by
    rcases hat with e2|e2
    ·have:=hrow g e2;omega
    ·omega)⟩
 ·refine(k3.mono (fun k hk=>?_)).trans k36 (fun k hk=>.inl ?_)
  ·rcases hk with hk|rfl|rfl
   ·exact h.xS k hk
   ·exact h.xb
   ·exact h.xp
  ·rcases hk with hk|rfl
   ·exact h.xr k hk
   ·exact h.xp
theorem bm(A:yG M)(hM:∀f,M.Fu f→f≠0)(h:qI M w X bp bd bs S D V a cap cs G)(hw:weight V.vs<470)(hn0:V.n0≤1000000)(hrd:D.reads≤1000000000)(key:ByteArray)(hkey:zs key.data.toList=true)(hks:key.size≤8)(P:Nat→Prop)(hP:∀k,P k→¬X k)(ab:Option Addr)(cb:Nat)(l:List UInt8)(hb:zE w P ab l)(hl:l.length≤140737488355326)(hc:l.length≤cb):
 Calls Tryz.prog 15 #[.pointer (some ⟨bp,0,none⟩),.string key,.slice ab l.length cb] w fun e w'=>e=.returned (.bool true)∧∃S' D' a' cap' cs' G',qI M w' (fun k=>X k∨(w.heap.size≤k∧k<w'.heap.size)) bp bd bs S' D' (V.add key false (l.take 300)) a' cap' cs' G'∧D'.reads≤D.reads+40∧za X w w':=by
 obtain⟨hc0,hc1,hc2,hc3,hc5,hc6,hfz⟩:=h.c
 have HH:Hid (qI M w X bp bd bs S D V a cap cs G):=h
 have HB:Hid (zE w P ab l):=hb
 have HPX:Hid (∀k,P k→¬X k):=hP
 have hbp:=h.lt
 have hfew:=h.fore.live.good.few
 have hsz:=h.size
 have hrd0:=h.fore.reads0
 have HKY:Hid (zs key.data.toList=true):=hkey
 have HBY:Hid (∀w',za X w w'→Calls Tryz.prog 28 #[.slice ab l.length cb] w' fun e w''=>∃a' c',e=.returned (.slice a' (l.take 300).length c')∧w''.ownsRow 0 5 1 (.slice a' (l.take 300).length c') (l.take 300).length ((l.take 300).map qe)∧za (fun _=>False) w' w''∧∀k,(Value.slice a' (l.take 300).length c').ownBlock=some k→w'.heap.size≤k):=fun w' k=>gL w' P ab cb l (hb.kept k hP) hl hc
 have l3:(l.take 300).length≤300:=by rw [List.length_take];omega
 generalize l.take 300=B at*
 clear h hb hP hkey hfz
 go_enter Tryz.func15,Tryz.ntmps15
 go_wp2_with fail
 go_region_held3 (fun w'=>w'.cell? ⟨bp,1,none⟩=some (.pointer (some ⟨bs,0,none⟩))) (go_keep) ((first
  |(go_at_call 28;refine(HBY.out _ (by exact za.drew X w)).mono ?_;rintro e w1 ⟨a1,c1,rfl,ho1,hk1,hf1⟩;have hk1':za (fun _=>False) w w1:=⟨hk1.os,hk1.tape,hk1.output,hk1.size,hk1.block⟩;have HO1:Hid (w1.ownsRow 0 5 1 (.slice a1 B.length c1) B.length (B.map qe)):=ho1;have HK1:Hid (za (fun _=>False) w w1):=hk1';have HF1:Hid (∀k,(Value.slice a1 B.length c1).ownBlock=some k→w.heap.size≤k):=hf1;have hcap1:=Kf ho1;have hc11:w1.cell? ⟨bp,1,none⟩=some (.pointer (some ⟨bs,0,none⟩)):=(HH.out.kept hk1' nF).c.2.1;clear ho1 hk1 hf1 hk1')
  |(go_at_call 27;refine(A.live w1 bd bs S (fun k=>w.heap.size≤k) D V key a1 c1 B (HH.out.kept HK1.out nF).fore (by unfold maxLen;omega) (zE.of_own 5 HO1.out rfl _ (fun k hk=>HF1.out k hk)) (fun k hk=>⟨fun hS=>by have:=HH.out.xlt k (HH.out.xS k hS);omega,fun e=>by have:=HH.out.xlt bs HH.out.xb;omega⟩) (by omega) hcap1.1 (by have:=hcap1.2;unfold maxLen at this;omega)).mono ?_;rintro e w2 ⟨D2,S2,c,n,q,rfl,haft,hchg,hn⟩;have HAFT:Hid (y9 M w1 w2 bd bs S S2 D D2 40 q):=haft;have HCHG:Hid _:=hchg;have HN:Hid (n=if c=0 then V.n0+1 else 0):=hn;have hc12:w2.cell? ⟨bp,1,none⟩=some (.pointer (some ⟨bs,0,none⟩)):=(haft.kept.cell (a:=⟨bp,1,none⟩) (by have:=HK1.out.size;show bp<_;omega) (fun hc=>hc.elim HH.out.pS HH.out.pb)).trans hc11;clear haft hchg hn)))
 have hw0:kT (zs key.data.toList) B.length=0:=by rw [HKY.out];unfold kT;first|rfl|(rw [if_neg (by omega)])|(simp;omega)
 have hfit:y6 V.vs (qx B.length) D.bs.length=true:=by
  unfold y6 qx
  rw [hsz]
  refine decide_eq_true ?_
  omega
 obtain⟨rfl,rfl,hlive⟩:c=0∧q=some bd∧M.Live D2 (V.add key false B):=by
  rcases HCHG.out.is with h|h|h|h
  ·exact absurd hw0 h.1
  ·exact h.2
  ·rw [hfit] at h;exact absurd h.2.2.2.2 (by simp)
  ·exact absurd h.2.2.2.1 (hM _ HAFT.out.fuse)
 have hn:=HN.out
 rw [if_pos rfl] at hn
 subst hn
 have HLV:Hid (M.Live D2 (V.add key false B)):=hlive
 have k2:za (fun k=>S k∨k=bs∨k=bp) w w2:=(HK1.out.mono fE).trans HAFT.out.kept (fun k hk=>.inl (hk.imp id .inl))
 have hd2:w2.heap[bp]? =_:=(HAFT.out.kept.block bp (by have:=HK1.out.size;omega) (fun hc=>hc.elim HH.out.pS HH.out.pb)).trans ((HK1.out.block bp hbp (fun hf=>hf)).trans HH.out.head)
 have HD2:Hid (w2.heap[bp]? =some (.cells #[.pointer (some ⟨bd,0,none⟩),.pointer (some ⟨bs,0,none⟩),.slice a V.vs.length cap,.int .i64 V.n0,.int .i64 (-1),.int .i64 0,.bool true] 33 (0,0))):=hd2
 have hc26:w2.cell? ⟨bp,6,none⟩=some (.bool true):=cR hd2 rfl
 have hc23:w2.cell? ⟨bp,3,none⟩=some (.int .i64 V.n0):=cR hd2 rfl
 have hf2:=fun i=>frozen_of_row w2 bp i _ _ hd2
 have hf26:=hf2 6
 have hf23:=hf2 3
 have HK2:Hid (za (fun k=>S k∨k=bs∨k=bp) w w2):=k2
 have hbp2:bp<w2.heap.size:=by have:=k2.size;omega
 have hlt1:decide (V.n0<V.n0+1)=true:=decide_eq_true (by omega)
 clear hlive hd2 hf2 k2
 go_wp2_with fail
 have hd3:((w2.setCell ⟨bp,6,none⟩ (.bool true)).setCell ⟨bp,3,none⟩ (.int .i64 (V.n0+1))).heap[bp]? =some (.cells #[.pointer (some ⟨bd,0,none⟩),.pointer (some ⟨bs,0,none⟩),.slice a V.vs.length cap,.int .i64 (V.n0+1),.int .i64 (-1),.int .i64 0,.bool true] 33 (0,0)):=by
  have e1:=heap_setCell_same w2 bp 6 _ _ (.bool true) HD2.out
  exact heap_setCell_same _ bp 3 _ _ (.int .i64 (V.n0+1)) e1
 have k23:za (fun k=>k=bp) w2 ((w2.setCell ⟨bp,6,none⟩ (.bool true)).setCell ⟨bp,3,none⟩ (.int .i64 (V.n0+1))):=(za.setCell (S:=fun k=>k=bp) w2 ⟨bp,6,none⟩ _ rfl).trans (za.setCell (S:=fun k=>k=bp) _ ⟨bp,3,none⟩ _ rfl) iL
 generalize (w2.setCell ⟨bp,6,none⟩ (.bool true)).setCell ⟨bp,3,none⟩ (.int .i64 (V.n0+1))=w3 at*
 have HD3:Hid (w3.heap[bp]? =some (.cells #[.pointer (some ⟨bd,0,none⟩),.pointer (some ⟨bs,0,none⟩),.slice a V.vs.length cap,.int .i64 (V.n0+1),.int .i64 (-1),.int .i64 0,.bool true] 33 (0,0))):=hd3
 have HK23:Hid (za (fun k=>k=bp) w2 w3):=k23
 have HK3:Hid (za (fun k=>S k∨k=bs∨k=bp) w w3):=HK2.out.trans k23 (fun k hk=>.inl (.inr (.inr hk)))
 have HX3:Hid (za X w w3):=HK3.out.mono (fun k hk=>by
  rcases hk with hk|rfl|rfl
  ·exact HH.out.xS k hk
  ·exact HH.out.xb
  ·exact HH.out.xp)
 have hc32:w3.cell? ⟨bp,2,none⟩=some (.slice a V.vs.length cap):=cR hd3 rfl
 have hbp3:bp<w3.heap.size:=by have:=k23.size;omega
 have HR3:Hid (w3.ownsRow 0 85 3 (.slice a V.vs.length cap) V.vs.length cs.flatten):=HK3.out.owns HH.out.row (fun k hk hc=>by
  have:=HH.out.rS k hk
  rcases hc with hc|hc|hc
  ·exact this.1 hc
  ·exact this.2.1 hc
  ·exact this.2.2 hc)
 obtain⟨i0,hi0,hz0,hz1,hz2⟩:=yK Tryz.infoKp
 have HI0:Hid (Tryz.prog.info? 85=some i0∧i0.zero=some (.agg #[.string ⟨#[]⟩,.int .i64 0,.slice none 0 0])∧i0.size=3∧i0.bytes=48):=⟨hi0,hz0,hz1,hz2⟩
 clear hi0 hz0 hz1 hz2 hd3 k23 hc0 hc1 hc2 hc3 hc5 hc6 hc11 hc12 hc26 hc23 hf26 hf23
 go_region_law ((first
  |(go_simp;go_at_call 28;refine(HBY.out _ (by exact HX3.out.trans (za.drew X w3) iL)).mono ?_;rintro e w4 ⟨a2,c2,rfl,ho2,hk4,hf4⟩;have hk4':za (fun _=>False) w3 w4:=⟨hk4.os,hk4.tape,hk4.output,hk4.size,hk4.block⟩;have HO4:Hid (w4.ownsRow 0 5 1 (.slice a2 B.length c2) B.length (B.map qe)):=ho2;have HK4:Hid (za (fun _=>False) w3 w4):=hk4';have HF4:Hid (∀k,(Value.slice a2 B.length c2).ownBlock=some k→w3.heap.size≤k):=hf4;have hc42:w4.cell? ⟨bp,2,none⟩=some (.slice a V.vs.length cap):=(hk4'.cell (a:=⟨bp,2,none⟩) hbp3 (fun hf=>hf)).trans hc32;have hbp4:bp<w4.heap.size:=(by have:=hk4'.size;omega);clear ho2 hk4 hf4 hk4';dsimp only)
  |(refine step_append_lies _ rfl (.tmp 46) (.tmp 52) 31 rfl 0 85 i0 _ 3 48 Tryz.underlying31 HI0.out.1 HI0.out.2.1 HI0.out.2.2.1 HI0.out.2.2.2 rfl (by omega) (.slice a V.vs.length cap) V.vs.length cs.flatten (by rfl) (by exact World.ownsRow.alloc (HK4.out.owns HR3.out nF) _) ⟨w4.heap.size,0,none⟩ 1 1 [.string key,.int .i64 (V.n0+1),.slice a2 B.length c2] (by rfl) (by rfl) (by exact World.news_of_block (heap_alloc_new w4 _)) (by simp [Value.oneCell']) (by omega) (by unfold maxLen;omega) (by omega) (Nat.zero_le _) (w4.heap.size+1) (by simp) ?_;intro g c3 w5 hown hgrow hat hlt5;have HOW:Hid _:=hown;have HGR:Hid _:=hgrow;have HAT:Hid ((Value.slice a V.vs.length cap).ownBlock=some g∨g=w4.heap.size+1):=hat;have hcc:w5.cell? ⟨bp,2,none⟩=some (.slice a V.vs.length cap):=(hgrow.cell_far ⟨bp,2,none⟩ (by simp;omega) (fun e=>(HH.out.rS bp e.symm).2.2 rfl)).trans (((za.alloc (fun _=>False) w4 _).cell (a:=⟨bp,2,none⟩) hbp4 (fun hf=>hf)).trans hc42);have hff:w5.frozen? ⟨bp,2,none⟩=false:=(hgrow.frozen_far ⟨bp,2,none⟩ (by simp;omega) (fun e=>(HH.out.rS bp e.symm).2.2 rfl)).trans (frozen_of_row _ bp 2 _ _ (((za.alloc (fun _=>False) w4 _).block bp hbp4 (fun hf=>hf)).trans ((HK4.out.block bp hbp3 (fun hf=>hf)).trans HD3.out)));clear hown hgrow hat)))
 all_goals
  go_wp2
  go_ret
  have s1:=HK1.out.size
  have hS2:∀k,S2 k→(S k∨w.heap.size≤k)∧k<w3.heap.size:=fun k hk=>⟨(HAFT.out.foot k hk).imp id (fun h=>by omega),by have:=HAFT.out.disk.lt k hk;have:=HK23.out.size;omega⟩
  have hbs:=HH.out.xlt bs HH.out.xb
  have nbs:¬S2 bs:=fun hk=>by
   rcases (hS2 bs hk).1 with h|h
   ·exact HH.out.fore.apart h
   ·omega
  have nbp:¬S2 bp:=fun hk=>by
   rcases (hS2 bp hk).1 with h|h
   ·exact HH.out.pS h
   ·omega
  have r0:=HAFT.out.reads0
  have r1:=HAFT.out.reads1
  have f2:qG M w2 bd bs S2 D2 (V.add key false B):=⟨HAFT.out.disk,nbs,HAFT.out.sto,HLV.out,HAFT.out.fuse,by omega,by omega,by show V.n0+1≤_;omega⟩
  have f3:=qG.kept f2 HK23.out (fun k hk e=>nbp (by rw [←show k=bp from e];exact hk)) (fun e=>HH.out.pb e.symm)
  have hx:=qI.pushed HH.out HK3.out hS2 f3 (HAFT.out.size.trans hsz) HD3.out HK4.out a2 c2 HO4.out HF4.out _ g c3 HOW.out HGR.out HAT.out
  exact⟨rfl,S2,D2,_,_,_,_,hx.1,by omega,hx.2⟩
end
structure bW where
 key:Int
 what:Int
 la:Option Addr
 l:List UInt8
 lc:Nat
 fuse:Int
 ka:Option Addr
 ks:List Bool
 kc:Nat
def bW.cells(o:bW):List Value:=[.int .i64 o.key,.int .i64 o.what,.slice o.la o.l.length o.lc,.int .i64 o.fuse,.slice o.ka o.ks.length o.kc]
structure bW.Ok (w:World) (Q:Nat→Prop) (o:bW):Prop where
 key:zG o.key
 what:zG o.what
 fuse:zG o.fuse
 l:zE w Q o.la o.l
 len:o.l.length≤140737488355326
 cap:o.l.length≤o.lc
 klen:o.ks.length≤140737488355326
 ks:∀j,j<o.ks.length→∃kb ko,o.ka=some ⟨kb,ko,none⟩∧Q kb∧kb<w.heap.size∧w.cell? ⟨kb,ko+j,none⟩=some (.bool (o.ks.getD j false))
theorem bW.Ok.kept{w w':World}{Q T:Nat→Prop}{o:bW}(h:o.Ok w Q)(k:za T w w')(hn:∀i,Q i→¬T i):o.Ok w' Q:=
 ⟨h.key,h.what,h.fuse,h.l.kept k hn,h.len,h.cap,h.klen,fun j hj=>by
  obtain⟨kb,ko,h1,h2,h3,h4⟩:=h.ks j hj
  exact⟨kb,ko,h1,h2,Nat.lt_of_lt_of_le h3 k.size,(k.cell (a:=⟨kb,ko+j,none⟩) h3 (hn kb h2)).trans h4⟩⟩
structure XU (w:World) (Q:Nat→Prop) (a:Option Addr) (ods:List bW):Prop where
 each:∀i (hi:i<ods.length),∃b o,a=some ⟨b,o,none⟩∧Q b∧b<w.heap.size∧w.rangeAt b (o+i*5) ods[i].cells
 ok:∀i (hi:i<ods.length),ods[i].Ok w Q
theorem XU.kept{w w':World}{Q T:Nat→Prop}{a:Option Addr}{ods:List bW}(h:XU w Q a ods)(k:za T w w')(hn:∀i,Q i→¬T i):XU w' Q a ods:=
 ⟨fun i hi=>by
  obtain⟨b,o,h1,h2,h3,h4⟩:=h.each i hi
  exact⟨b,o,h1,h2,Nat.lt_of_lt_of_le h3 k.size,fun j v hv=>(k.cell (a:=⟨b,o+i*5+j,none⟩) h3 (hn b h2)).trans (h4 j v hv)⟩,fun i hi=>(h.ok i hi).kept k hn⟩
def x5(M:zg)(w:World)(X:Nat→Prop)(bp:Nat)(D:Dk)(V:qH):Prop:=∃bd bs S a cap cs G,qI M w X bp bd bs S D V a cap cs G
theorem x5.kept{M:zg}{w w':World}{X T:Nat→Prop}{bp:Nat}{D:Dk}{V:qH}(h:x5 M w X bp D V)(k:za T w w')(hn:∀i,X i→¬T i):x5 M w' X bp D V:=by
 obtain⟨bd,bs,S,a,cap,cs,G,h⟩:=h
 exact⟨bd,bs,S,a,cap,cs,G,h.kept k hn⟩
structure Fit (V:qH) (D:Dk) (n t:Nat):Prop where
 weight:weight V.vs≤473
 n0:V.n0≤n
 reads:D.reads≤40*(n:Int)+2000000*t
theorem kU(V:qH)(key:ByteArray)(mark:Bool)(l:List UInt8):weight (V.add key mark l).vs=weight V.vs+qx l.length:=by
 unfold weight qH.add;simp
theorem yU:∀vs:List zO,vs.length≤weight vs
 |[]=>Nat.zero_le _
 |v::vs=>by
  have:=yU vs
  unfold weight qx at this ⊢
  simp only [List.map_cons,List.sum_cons,List.length_cons]
  omega
theorem Fit.done{V:qH}{D:Dk}(h:Fit V D V.vs.length 1):Fit V D 473 1:=by
 have h1:=h.weight
 have h2:=yU V.vs
 have h3:=h.n0
 have h4:=h.reads
 exact⟨h1,by omega,by omega⟩
theorem qI.again{M:zg}{w:World}{X:Nat→Prop}{bp bd bs:Nat}{S:Nat→Prop}{D:Dk}{V:qH}{a:Option Addr}{cap:Nat}{cs:List (List Value)}{G:Nat→Prop}(h:qI M w X bp bd bs S D V a cap cs G):qI M (w.setCell ⟨bp,6,none⟩ (.bool true)) X bp bd bs S D V a cap cs G:=by
 have k:=za.setCell (S:=fun k=>k=bp) w ⟨bp,6,none⟩ (.bool true) rfl
 refine⟨?_,qG.kept h.fore k (fun i hi e=>h.pS (by rw [←show i=bp from e];exact hi)) (fun e=>h.pb e.symm),h.size,k.owns h.row (fun i hi e=>(h.rS i hi).2.2 e),h.told.kept k (fun i hi e=>(h.gS i hi).2.2.1 e),fun i hi=>Nat.lt_of_lt_of_le (h.xlt i hi) k.size,h.xS,h.xb,h.xp,h.xr,h.xG,h.pS,h.pb,h.rS,h.gS⟩
 rw [heap_setCell_same w bp 6 _ _ _ h.head];rfl
theorem Qf(M:zg)(AO:yE M)(AP:yG M)(hM:∀f,M.Fu f→f≠0)(w:World)(Q:Nat→Prop)(hQ:∀k,Q k→k<w.heap.size)(a:Option Addr)(cap:Nat)(ods:List bW)(h:XU w Q a ods)(hlen:ods.length≤2000000000000):
 Calls Tryz.prog 19 #[.slice a ods.length cap] w fun e w'=>∃X bp D V,e=.returned (.pointer (some ⟨bp,0,none⟩))∧x5 M w' X bp D V∧Fit V D 473 1∧za (fun _=>False) w w'∧(∀k,X k→w.heap.size≤k)∧(∀v∈V.vs,v.mark=false):=by
 have HC:Hid (XU w Q a ods):=h
 have HQ:Hid (∀k,Q k→k<w.heap.size):=hQ
 clear h hQ
 go_enter Tryz.func19,Tryz.ntmps19
 go_wp2_with fail
 refine(uJ M AO hM _).mono ?_
 rintro e w1 ⟨X1,bp,bd,bs,S,D,rfl,hs,hk1,hx1,hr1⟩
 have HS1:Hid (x5 M w1 X1 bp D ⟨[],0⟩):=⟨bd,bs,S,none,0,[],_,hs⟩
 have HK1:Hid (za (fun _=>False) w w1):=hk1
 have HX1:Hid (∀k,X1 k→w.heap.size≤k∧k<w1.heap.size):=fun k hk=>⟨hx1 k hk,hs.xlt k hk⟩
 clear hs hk1 hx1
 go_wp2_with fail
 refine(gK _).mono ?_
 rintro e w2 ⟨rfl,hk2,hb2⟩
 have HK2:Hid (za (fun _=>False) w1 w2):=hk2
 have HB2:Hid (w2.heap[w1.heap.size]? =some (.cells jt 9 (0,0))):=hb2
 clear hk2 hb2
 go_wp2_with fail
 go_loopw [5] (fun t wr=>∃i:Nat,i≤ods.length∧t=.int .i64 i∧∃X D V,x5 M wr X bp D V∧Fit V D V.vs.length 1∧V.n0=V.vs.length∧(∀v∈V.vs,v.mark=false)∧za (fun k=>X1 k) w2 wr∧(∀k,X k→X1 k∨w2.heap.size≤k)) (fun t _=>ods.length-(intOf t).toNat)
 case atStart=>exact⟨0,Nat.zero_le _,rfl,X1,D,⟨[],0⟩,HS1.out.kept HK2.out nF,⟨by simp [weight],by simp,by show D.reads≤_;simp;omega⟩,rfl,by simp,za.refl _ _,fun k hk=>.inl hk⟩
 case round=>
  obtain⟨i,hi,rfl,X,D,V,hs,hf,hn,hm,hk,hx⟩:=hrel
  obtain⟨bd',bs',S',a',cap',cs',G',hs⟩:=hs
  obtain⟨hc0,hc1,hc2,hc3,hc5,hc6,hfz⟩:=hs.c
  have hf6:=hfz 6
  have HS:Hid (qI M wr X bp bd' bs' S' D V a' cap' cs' G'):=hs
  have HF:Hid (Fit V D V.vs.length 1):=hf
  have HMK:Hid (∀v∈V.vs,v.mark=false):=hm
  have HKR:Hid (za (fun k=>X1 k) w2 wr):=hk
  have HXX:Hid (∀k,X k→X1 k∨w2.heap.size≤k):=hx
  have hw:=hf.weight
  have hlw:=yU V.vs
  have hbp:=hs.lt
  clear hs hf hm hk hx hc0 hc1 hc2 hc3 hc5 hfz
  by_cases hlt:i<ods.length
  ·have hiI:(i:Int)<(ods.length:Int):=by omega
   by_cases hwt:weight V.vs<470
   ·have hwI:((weight V.vs:Nat):Int)<470:=by omega
    obtain⟨b,o,rfl,hQb,hbl,hrg⟩:=HC.out.each i hlt
    have HOK:Hid (ods[i].Ok w Q):=HC.out.ok i hlt
    have hkw:za (fun k=>w.heap.size≤k) w wr:=((HK1.out.trans HK2.out iL).mono fE).trans HKR.out (fun k hk=>.inl (HX1.out k hk).1)
    have hblr:b<wr.heap.size:=by have:=hkw.size;omega
    have c0:wr.cell? ⟨b,o+i*5,none⟩=some (.int .i64 ods[i].key):=(hkw.cell (a:=⟨b,o+i*5,none⟩) hbl (by show ¬w.heap.size≤b;omega)).trans (hrg 0 _ rfl)
    have c2:wr.cell? ⟨b,o+i*5+2,none⟩=some (.slice ods[i].la ods[i].l.length ods[i].lc):=(hkw.cell (a:=⟨b,o+i*5+2,none⟩) hbl (by show ¬w.heap.size≤b;omega)).trans (hrg 2 _ rfl)
    have HKW:Hid (za (fun k=>w.heap.size≤k) w wr):=hkw
    have hkb:wr.heap[w1.heap.size]? =some (.cells jt 9 (0,0)):=(HKR.out.block w1.heap.size (lT HB2.out) (fun hc=>by have:=(HX1.out _ hc).2;omega)).trans HB2.out
    have HKB:Hid (wr.heap[w1.heap.size]? =some (.cells jt 9 (0,0))):=hkb
    clear hrg hkw
    generalize ods[i]=od at*
    have HPK:Hid (∀W,Calls Tryz.prog 21 #[.int .i64 od.key,.int .i64 12] W fun e w'=>e=.returned (.int .i64 (ya od.key 12:Int))∧w'=W):=fun W=>xd W od.key 12 HOK.out.key (by omega) (by omega)
    have hr2:ya od.key 12<12:=by have:=xv od.key 12 (by omega);omega
    generalize ya od.key 12=r at*
    obtain⟨ky,hky,hkb1,hks⟩:=v9 r hr2
    have hrI:(r:Int)<12:=by omega
    have hrI0:(0:Int)≤(r:Int):=by omega
    have HKY:Hid (zs ky.data.toList=true):=hkb1
    have hck:wr.cell? ⟨w1.heap.size,r,none⟩=some (.string ky):=(cell_of_row wr _ r _ _ _ hkb).trans hky
    clear hkb1 hky hkb
    go_wp2_with (go_at_call 32;refine(yr HS.out (by omega)).mono ?_;rintro e w9 ⟨rfl,hw9⟩;rw [hw9];clear hw9 w9)
    go_region_held3 (fun w'=>w'.cell? ⟨b,o+i*5,none⟩=some (.int .i64 od.key)∧w'.cell? ⟨b,o+i*5+2,none⟩=some (.slice od.la od.l.length od.lc)∧w'.cell? ⟨bp,6,none⟩=some (.bool true)∧w'.cell? ⟨w1.heap.size,r,none⟩=some (.string ky)) (first|(exact⟨((za.setCell (S:=fun k=>k=bp) w4 ⟨bp,6,none⟩ (.bool true) rfl).cell (a:=⟨b,o+i*5,none⟩) hb4 hnbp).trans c04,((za.setCell (S:=fun k=>k=bp) w4 ⟨bp,6,none⟩ (.bool true) rfl).cell (a:=⟨b,o+i*5+2,none⟩) hb4 hnbp).trans c24,HS4.out.again.c.2.2.2.2.2.1,((za.setCell (S:=fun k=>k=bp) w4 ⟨bp,6,none⟩ (.bool true) rfl).cell (a:=⟨w1.heap.size,r,none⟩) hw14 hnw1).trans ck4⟩)|go_keep) ((first
     |(go_at_call 21;refine(HPK.out _).mono ?_;rintro e w9 ⟨rfl,rfl⟩)
     |(go_at_call 15;refine(bm AP hM (w:=wr.drew) (X:=X) (HS.out.kept (za.drew (fun _=>False) wr) nF) hwt (by omega) (by have:=HF.out.reads;omega) ky HKY.out hks (fun k=>Q k) (fun k hk hX=>by have:=HQ.out k hk;have:=HK1.out.size;have:=HK2.out.size;rcases HXX.out k hX with h|h;have:=HX1.out k h;omega;omega) od.la od.lc od.l ((HOK.out.kept HKW.out (fun k hk hc=>by have:=HQ.out k hk;omega)).l.kept (za.drew (fun _=>False) wr) nF) HOK.out.len HOK.out.cap).mono ?_;rintro e w4 ⟨rfl,S4,D4,a4,cap4,cs4,G4,hs4,hr4,hk4⟩;have HS4:Hid (qI M w4 (fun k=>X k∨(wr.heap.size≤k∧k<w4.heap.size)) bp bd' bs' S4 D4 (V.add ky false (od.l.take 300)) a4 cap4 cs4 G4):=hs4;have HK4:Hid (za X wr w4):=⟨hk4.os,hk4.tape,hk4.output,hk4.size,hk4.block⟩;have hnb:¬X b:=(fun hX=>by have:=HQ.out b hQb;have:=HK1.out.size;have:=HK2.out.size;rcases HXX.out b hX with h|h;have:=HX1.out b h;omega;omega);have c04:w4.cell? ⟨b,o+i*5,none⟩=some (.int .i64 od.key):=(HK4.out.cell (a:=⟨b,o+i*5,none⟩) hblr hnb).trans c0;have c24:w4.cell? ⟨b,o+i*5+2,none⟩=some (.slice od.la od.l.length od.lc):=(HK4.out.cell (a:=⟨b,o+i*5+2,none⟩) hblr hnb).trans c2;have c64:w4.cell? ⟨bp,6,none⟩=some (.bool true):=hs4.c.2.2.2.2.2.1;have f64:w4.frozen? ⟨bp,6,none⟩=false:=hs4.c.2.2.2.2.2.2 6;have hbp4:=hs4.lt;have hnbp:b≠bp:=(fun e=>hnb (by rw [e];exact HS.out.xp));have hb4:b<w4.heap.size:=(by have:=hk4.size;have e9:wr.drew.heap.size=wr.heap.size:=rfl;omega);have nXw:¬X w1.heap.size:=(fun hX=>by have h2:=(lT HB2.out);rcases HXX.out _ hX with h|h;have:=HX1.out _ h;omega;omega);have hwr1:w1.heap.size<wr.heap.size:=(lT HKB.out);have ck4:w4.cell? ⟨w1.heap.size,r,none⟩=some (.string ky):=(HK4.out.cell (a:=⟨w1.heap.size,r,none⟩) hwr1 nXw).trans hck;have hnw1:w1.heap.size≠bp:=(fun e=>nXw (by rw [e];exact HS.out.xp));have hw14:w1.heap.size<w4.heap.size:=(by have:=HK4.out.size;omega);clear hs4 hk4)))
    go_wp2
    go_roundw
    case rel=>
     have hw4:weight (V.add ky false (od.l.take 300)).vs≤473:=by
      rw [kU]
      have:(od.l.take 300).length≤300:=by rw [List.length_take];omega
      unfold qx
      omega
     have hl4:(V.add ky false (od.l.take 300)).vs.length=V.vs.length+1:=by simp [qH.add]
     have hr5:=HF.out.reads
     refine⟨i+1,by omega,by go_num,_,D4,V.add ky false (od.l.take 300),⟨_,_,_,_,_,_,_,HS4.out.again⟩,⟨hw4,?_,?_⟩,?_,?_,(HKR.out.trans HK4.out (fun k hk=>HXX.out k hk)).trans (za.setCell (S:=fun k=>k=bp) w4 ⟨bp,6,none⟩ _ rfl) (fun k hk=>HXX.out k (by rw [show k=bp from hk];exact HS.out.xp)),fun k hk=>?_⟩
     ·show V.n0+1≤_
      rw [hl4];omega
     ·rw [hl4];push_cast;omega
     ·show V.n0+1=_
      rw [hl4];omega
     ·intro v hv
      rcases List.mem_append.1 (show v∈V.vs++[_] from hv) with h|h
      ·exact HMK.out v h
      ·rw [List.mem_singleton.1 h]
     ·rcases hk with hk|⟨hk,_⟩
      ·exact HXX.out k hk
      ·exact .inr (by have:=HKR.out.size;omega)
    case measure=>simp [intOf];omega
   ·have hwI:decide (((weight V.vs:Nat):Int)<470)=false:=decide_eq_false (by omega)
    go_wp2_with (go_at_call 32;refine(yr HS.out (by omega)).mono ?_;rintro e w9 ⟨rfl,hw9⟩;rw [hw9];clear hw9 w9)
    go_ret
    exact⟨X,bp,D,V,rfl,⟨_,_,_,_,_,_,_,HS.out⟩,HF.out.done,(HK1.out.trans HK2.out iL).trans HKR.out (fun k hk=>.inr (HX1.out k hk).1),fun k hk=>(HXX.out k hk).elim (fun h=>(HX1.out k h).1) (fun h=>by have:=HK1.out.size;have:=HK2.out.size;omega),HMK.out⟩
  ·have hiI:decide ((i:Int)<(ods.length:Int))=false:=decide_eq_false (by omega)
   go_wp2_with fail
   go_ret
   exact⟨X,bp,D,V,rfl,⟨_,_,_,_,_,_,_,HS.out⟩,HF.out.done,(HK1.out.trans HK2.out iL).trans HKR.out (fun k hk=>.inr (HX1.out k hk).1),fun k hk=>(HXX.out k hk).elim (fun h=>(HX1.out k h).1) (fun h=>by have:=HK1.out.size;have:=HK2.out.size;omega),HMK.out⟩
end keep
namespace keep
open law (qH zg yN qG y9 qr Z2 gJ)
theorem jA{P:Program}{ops:Array Oper}{rest:List Oper}{o:Oper}{a:Act}{w:World}{Q:Exit→Act→World→Prop}(hgd:o.guard=none)(s x:Operand)(t:TypeId)
 (ho:o.op=.call {callee:=.builtin .append,args:=#[s,x],argTypes:=#[t,t] })
 (e:TypeId) (i:TypeInfo) (z:Value) (size bytes:Nat) (ht:P.underlying t=some (.slice e)) (hi:P.info? e=some i) (hz:i.zero=some z)
 (hsize:i.size=size) (hby:i.bytes=bytes) (hzs:z.cells.size=size) (hsz:0<size) (v:Value) (n:Nat) (xs:List Value) (hs:a.eval s=.slice none 0 0) (hx:a.eval x=v) (hown:w.ownsRow 0 e size v n xs) (h1:∀u∈xs,u.oneCell'=true)
 (h63:n≤maxLen) (hbytes:n*bytes≤140737488355328)
 (h:∀a' c' w',w'.ownsRow 0 e size (.slice a' n c') n xs→w.grownBy w' none→((Value.slice a' n c').ownBlock=none∨(Value.slice a' n c').ownBlock=some w.heap.size)→wpList P ops Q rest (a.put o.dst (.slice a' n c')) w'):wpList P ops Q (o::rest) a w:=by
 refine wpList_plain hgd fun K hK=>?_
 obtain⟨a',c',w',hr,h2,h3,h4⟩:=disk.run_copy_row (P:=P) w t o.type e i z size bytes ht hi hz hsize hby hzs hsz v n xs hown h1 h63 hbytes
 unfold Oper.wp execOp
 simp only [ho,resolve,invoke,builtin,Sem.run_bind,Sem.run_pure,Result.andThen_ok,List.map_toArray,List.map_cons,List.map_nil,hs,hx,hr]
 exact hK _ _ (h a' c' w' h2 h3 h4)
def bn(L:List zO)(n:Nat):ByteArray:=if n=0 then ByteArray.empty else (L.getD (n-1) ⟨ByteArray.empty,0,false,[]⟩).key
def bY(L:List zO)(n:Nat):Int:=if n=0 then 0 else (L.getD (n-1) ⟨ByteArray.empty,0,false,[]⟩).num
theorem uK:∀(L:List zO) (n:Nat) (u:zO),L.Pairwise (fun a b=>a.ahead b=true)→n<L.length→L[n]? =some u→L.filter (fun v=>u.ahead v)=L.drop (n+1)
 |[],n,u,_,h,_=>by simp at h
 |x::L,0,u,hs,_,hu=>by
  obtain rfl:x=u:=by simpa using hu
  rw [List.pairwise_cons] at hs
  rw [List.filter_cons,if_neg (zO.ahead_irrefl x)]
  exact List.filter_eq_self.2 (fun v hv=>hs.1 v hv)
 |x::L,n+1,u,hs,h,hu=>by
  rw [List.pairwise_cons] at hs
  have hu':L[n]? =some u:=by simpa using hu
  have hx:=hs.1 u (List.mem_of_getElem? hu')
  rw [List.filter_cons,if_neg (zO.ahead_asymm hx)]
  exact uK L n u hs.2 (by simpa using h) hu'
theorem bq(v:zO)(p k:ByteArray)(n:Int)(hk:k≠ByteArray.empty):yf v p k n=(yf v p ByteArray.empty 0&&(⟨k,n,false,[]⟩:zO).ahead v):=by
 unfold yf zO.ahead
 have:decide (k=ByteArray.empty)=false:=decide_eq_false hk
 rw [this]
 simp [eq_comm]
theorem qz.behind{vs:List zO}{p:ByteArray}{L:List zO}(h:qz vs p ByteArray.empty 0 L)(hk:∀v∈vs,v.key≠ByteArray.empty)(n:Nat)(hn:n≤L.length):qz vs p (bn L n) (bY L n) (L.drop n):=by
 by_cases h0:n=0
 ·subst h0
  exact h
 ·obtain⟨j,rfl⟩:∃j,n=j+1:=⟨n-1,by omega⟩
  obtain⟨u,hu⟩:∃u,L[j]? =some u:=⟨L[j],by simp⟩
  have hmem:u∈vs:=(List.mem_filter.1 (h.perm.subset (List.mem_of_getElem? hu))).1
  have e1:bn L (j+1)=u.key:=by unfold bn;simp [hu]
  have e2:bY L (j+1)=u.num:=by unfold bY;simp [hu]
  rw [e1,e2]
  refine⟨h.sorted.sublist (List.drop_sublist _ _),?_⟩
  have e3:vs.filter (fun v=>yf v p u.key u.num)=(vs.filter fun v=>yf v p ByteArray.empty 0).filter (fun v=>u.ahead v):=by
   rw [List.filter_filter]
   refine List.filter_congr fun v _=>?_
   rw [bq v p u.key u.num (hk u hmem),Bool.and_comm]
   rfl
  rw [e3,←uK L j u h.sorted (by omega) hu]
  exact h.perm.filter _
end keep
end Go.Proofs.YtcoengihaobddaaGreatDoor
