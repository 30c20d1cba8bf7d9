/- Part 12 of 34 of a proof: Keep26, Keep27, Keep28, Law8 -/
import Derived.Test.YtcoengihaobddaaGreatDoorJk11
import Derived.Deep.DeepCutAuto
import Derived.Lib.SlBytesConst
set_option maxHeartbeats 8000000
set_option linter.unusedVariables false
set_option linter.unusedSimpArgs false
set_option maxRecDepth 8000
namespace Go.Proofs.YtcoengihaobddaaGreatDoor
open Go.ChangeShapes Go.WideShapes Go.ChangeAt Go.RowKit disk ref book
open keys (ze zd zr zn zu)
namespace keep
open law (qe zc qv xm zR jI cB Yt OutIs)
theorem yK{P:Program}{ops:Array Oper}{o:Oper}{a:Act}{w:World}{K:Act→World→Prop}{Q:Exit→Act→World→Prop}{E:Prop}(hgd:o.guard=none)(s x:Operand)(t:TypeId)
 (ho:o.op=.call {callee:=.builtin .append,args:=#[s,x],argTypes:=#[t,t] })
 (e:TypeId) (i:TypeInfo) (z:Value) (size bytes:Nat) (ht:P.underlying t=some (.slice e)) (hi:P.info? e=some i) (hz:i.zero=some z)
 (hsize:i.size=size) (hby:i.bytes=bytes) (hzs:z.cells.size=size) (hsz:0<size) (v:Value) (n:Nat) (xs:List Value) (hs:a.eval s=v) (hown:w.ownsRow 0 e size v n xs)
 (ad:Addr) (m c:Nat) (news:List Value) (hx:a.eval x=.slice (some ad) m c) (hl:news.length=m*size) (hnews:∀j u,news[j]? =some u→w.cell? (ad.add j)=some u) (h1:∀u∈news,u.oneCell'=true)
 (h63:n+m≤maxLen) (hbytes:(n+m)*bytes≤140737488355328)
 (h:∀a' c' w',w'.ownsRow 0 e size (.slice a' (n+m) c') (n+m) (xs++news)→w.grownBy w' v.ownBlock→((Value.slice a' (n+m) c').ownBlock=v.ownBlock∨(Value.slice a' (n+m) c').ownBlock=some w.heap.size)→K (a.put o.dst (.slice a' (n+m) c')) w'):if Region.wanted o (yielded ops a.tmps)=true then Oper.wp P o a w K Q else E:=by
 have hw:Region.wanted o (yielded ops a.tmps)=true:=by simp [Region.wanted,hgd]
 rw [if_pos hw]
 obtain⟨v',w',hr,h2,h3,_,h5⟩:=run_append_own_at (P:=P) w 0 t o.type e i z size bytes ht hi hz hsize hby hzs hsz v n xs hown ad m c news hl hnews h1 h63 hbytes (Nat.zero_le _)
 obtain⟨a',c',rfl⟩:∃a' c',v'=.slice a' (n+m) c':=by
  rcases h2.2 with⟨e1,e2⟩|⟨g',cap',cur',e1,_⟩
  ·exact⟨none,0,by rw [e1,e2]⟩
  ·exact⟨_,cap',e1⟩
 unfold Oper.wp execOp
 simp only [ho,resolve,invoke,builtin,Sem.run_bind,Sem.run_pure,Result.andThen_ok,List.map_toArray,List.map_cons,List.map_nil,hs,hx,hr]
 exact h a' c' w' h2 h3 h5
theorem yC{S:Nat→Prop}{w w':World}(h:Kept S w.drew w'):Kept S w w':=(Kept.drew S w).trans h iL
section
variable {M:zc} {w w':World} {X T:Nat→Prop} {bp bd bs:Nat} {S:Nat→Prop} {D:Dk} {V:qe} {vs:List qa} {last gone:Int} {lost:Nat} {a:Option Addr} {cap:Nat} {cs:List (List Value)} {G:Nat→Prop}
theorem zG.sets(h:zG w X bp bd bs S vs last gone lost a cap cs G){gone2:Int}{j:Nat}{v:Value}(e:(w.setCell ⟨bp,j,none⟩ v).heap[bp]? =some (qL (.pointer (some ⟨bd,0,none⟩)) (.pointer (some ⟨bs,0,none⟩)) (.slice a vs.length cap) last gone2 (lost:Nat))):zG (w.setCell ⟨bp,j,none⟩ v) X bp bd bs S vs last gone2 lost a cap cs G:=by
 have k:=Kept.setCell (S:=fun k=>k=bp) w ⟨bp,j,none⟩ v rfl
 exact⟨e,k.owns h.row (fun i hi e=>(h.rS i hi).2.2 e),h.told.kept k (fun i hi e=>(h.gS i hi).2.2.1 e),fun i hi=>Nat.lt_of_lt_of_le (h.xlt i hi) k.size,h.xS,h.xb,h.xp,h.xr,h.xG,h.pS,h.pb,h.rS,h.gS⟩
theorem zG.ungone(h:zG w X bp bd bs S vs last gone lost a cap cs G):zG (w.setCell ⟨bp,4,none⟩ (.int .i64 (-1))) X bp bd bs S vs last (-1) lost a cap cs G:=h.sets (by rw [heap_setCell_same w bp 4 _ _ _ h.head];rfl)
theorem zG.again(h:zG w X bp bd bs S vs last gone lost a cap cs G):zG (w.setCell ⟨bp,6,none⟩ (.bool true)) X bp bd bs S vs last gone lost a cap cs G:=h.sets (by rw [heap_setCell_same w bp 6 _ _ _ h.head];rfl)
theorem qh.again(h:qh M w X bp D V vs last gone lost):qh M (w.setCell ⟨bp,6,none⟩ (.bool true)) X bp D V vs last gone lost∧Kept X w (w.setCell ⟨bp,6,none⟩ (.bool true)):=by
 obtain⟨bd,bs,S,a,cap,cs,G,h,F⟩:=h
 have k:=Kept.setCell (S:=fun k=>k=bp) w ⟨bp,6,none⟩ (.bool true) rfl
 exact⟨⟨bd,bs,S,a,cap,cs,G,h.again,zR.kept F k (fun i hi e=>h.pS (by rw [←show i=bp from e];exact hi)) (fun e=>h.pb e.symm)⟩,k.mono (fun i hi=>by rw [show i=bp from hi];exact h.xp)⟩
theorem vr.stays{i:Nat}(h:vr V vs i last lost)(hi:i<vs.length)(hm:vs[i]∈V.vs):yk V vs last lost:=by
 rcases h with h|⟨_,_,hf⟩
 ·exact h
 ·exact absurd ⟨rfl,rfl⟩ (jd hf _ hm)
theorem vr.leaves{i:Nat}(h:vr V vs i last lost)(hi:i<vs.length)(hf:qX V.vs vs[i].key vs[i].num=none):yk V (cut vs i) last lost:=by
 rcases h with h|⟨_,h,_⟩
 ·exact absurd ⟨rfl,rfl⟩ (jd hf _ (h.sub _ (List.getElem_mem hi)))
 ·exact h
set_option maxRecDepth 60000 in
theorem bw(A:xm M)(h:zG w X bp bd bs S vs last gone lost a cap cs G)(F:zR M w bd bs S D V)(hv:∀v∈vs,jL v)(hg:vt V vs last gone lost)(hr:D.reads≤1000000000000000000)(hl:vs.length≤6000):
 Calls Tryz.prog 44 #[.pointer (some ⟨bp,0,none⟩)] w fun e w'=>e=.returned (.tuple #[])∧∃X' D' vs',qh M w' X' bp D' V vs' last (-1) lost∧yk V vs' last lost∧weight vs'≤weight vs∧D'.reads≤D.reads+40∧D'.bs.length=D.bs.length∧Kept X w w'∧∀k,X' k→X k∨w.heap.size≤k:=by
 obtain⟨_,hc1,hc2,_,hc4,_,_,_⟩:=qk h.head
 have HFO:Hid (zR M w bd bs S D V):=F
 have hrd0:=F.reads0
 rcases hg with⟨rfl,hH⟩|⟨i,rfl,hi,hG⟩
 ·have HH:Hid (zG w X bp bd bs S vs last (-1) lost a cap cs G):=h
  have HHO:Hid (yk V vs last lost):=hH
  clear h F hv hH
  go_enter Tryz.func44,Tryz.ntmps44
  go_wp2
  (try simp only [Exit.inBlock,Exit.then])
  refine bodyPost_ret (results_none rfl _ _ _) rfl ?_
  exact⟨rfl,X,D,vs,⟨_,_,_,_,_,_,_,HH.out,HFO.out⟩,HHO.out,Nat.le_refl _,by omega,rfl,Kept.refl _ _,fun k hk=>.inl hk⟩
 ·obtain⟨g,rfl⟩:=h.rowAt (by omega)
  obtain⟨k0,k1,_⟩:=h.cells i hi
  have HH:Hid (zG w X bp bd bs S vs last (i:Int) lost (some ⟨g,0,none⟩) cap cs G):=h
  have HFV:Hid (jL vs[i]):=hv _ (List.getElem_mem hi)
  have HHG:Hid (vr V vs i last lost):=hG
  have HAT:Hid (vs[i]∈V.vs∨qX V.vs vs[i].key vs[i].num=none):=by
   rcases hG with h|⟨_,_,hf⟩
   ·exact .inl (h.sub _ (List.getElem_mem hi))
   ·exact .inr hf
  have HEV:Hid (vs[i]? =some vs[i]):=by show _=_;simp
  generalize hvi:vs[i]=v at*
  have hiI:(i:Int)<(vs.length:Int):=by omega
  have hiN:¬(i:Int)<0:=by omega
  have hbp:=h.lt
  have hbs:=h.xlt bs h.xb
  have hgr:=h.rS g rfl
  have hgx:=h.xlt g (h.xr g rfl)
  have hcl:=h.told.len
  have hcap:vs.length≤cap∧cap≤maxLen:=by
   rcases h.row.2 with⟨h0,h1⟩|⟨g',cap',cur,hv,_,_,h2,h3,_⟩
   ·cases h0
   ·cases hv;exact⟨h2,h3⟩
  have hcap2:cap≤9223372036854775807:=by have:=hcap.2;unfold maxLen at this;omega
  have hcapI:(vs.length:Int)≤(cap:Int):=by omega
  have hi1:(i:Int)+1≤(vs.length:Int):=by omega
  have hic:(i:Int)≤(cap:Int):=by omega
  have hi10:(0:Int)≤(i:Int)+1:=by omega
  have hii:(i:Int)≤(i:Int)+1:=by omega
  have hic1:(i:Int)+1≤(cap:Int):=by omega
  have hwi:IntKind.i64.wrap ((i:Int)+1)=(i:Int)+1:=IntWalk.i64_in _ (by omega)
  obtain⟨i0,hi0,hz0,hz1,hz2⟩:=y5 Tryz.infoKp
  have HI0:Hid (Tryz.prog.info? 85=some i0∧i0.zero=some (.agg #[.string ⟨#[]⟩,.int .i64 0,.slice none 0 0])∧i0.size=3∧i0.bytes=48):=⟨hi0,hz0,hz1,hz2⟩
  have HONE:=h.told.one
  have HTH:=h.told.three
  have H3:Hid (∀c∈cs,c.length=3):=HTH
  have H1:Hid (∀u∈cs.flatten,u.oneCell'=true):=HONE
  have HVI:Hid (vs[i]=v):=hvi
  clear h hi0 hz0 hz1 hz2 HONE HTH F hv hG hvi
  go_enter Tryz.func44,Tryz.ntmps44
  go_wp2_with fail
  go_region_held3 (fun w'=>w'.cell? ⟨bp,1,none⟩=some (.pointer (some ⟨bs,0,none⟩))∧w'.cell? ⟨bp,2,none⟩=some (.slice (some ⟨g,0,none⟩) vs.length cap)∧w'.cell? ⟨bp,4,none⟩=some (.int .i64 (i:Int))∧w'.cell? ⟨g,i*3,none⟩=some (.string v.key)∧w'.cell? ⟨g,i*3+1,none⟩=some (.int .i64 v.num)) (go_keep) ((go_at_call 42;refine(Vq A (zR.kept HFO.out (Kept.drew (fun _=>False) w) nF (fun hf=>hf)) v HFV.out HAT.out).mono ?_;rintro e w2 ⟨S2,D2,a2,c2,n2,c,rfl,ha2,hl2,hcase⟩;have HC2:Hid _:=hcase;have hr1:=ha2.reads1;have hz2:=ha2.size;have HF2:Hid (zR M w2 bd bs S2 D2 V):=zR.aft (zR.kept HFO.out (Kept.drew (fun _=>False) w) nF (fun hf=>hf)) ha2 hl2 (by omega);have HA2:Hid (Kept (fun k=>S k∨k=bs) w w2):=⟨ha2.kept.os,ha2.kept.tape,ha2.kept.output,ha2.kept.size,ha2.kept.block⟩;have HS2:Hid (∀k,S2 k→(S k∨w.heap.size≤k)∧k<w2.heap.size):=(fun k hk=>⟨ha2.foot k hk,ha2.disk.lt k hk⟩);have hh2:w2.heap[bp]? =_:=(HA2.out.block bp hbp (fun hc=>hc.elim HH.out.pS HH.out.pb)).trans HH.out.head;have HH2:Hid (w2.heap[bp]? =some (qL (.pointer (some ⟨bd,0,none⟩)) (.pointer (some ⟨bs,0,none⟩)) (.slice (some ⟨g,0,none⟩) vs.length cap) last (i:Int) (lost:Nat))):=hh2;have hc12:w2.cell? ⟨bp,1,none⟩=some (.pointer (some ⟨bs,0,none⟩)):=(cell_of_row w2 bp 1 _ _ _ hh2).trans rfl;have hc22:w2.cell? ⟨bp,2,none⟩=some (.slice (some ⟨g,0,none⟩) vs.length cap):=(cell_of_row w2 bp 2 _ _ _ hh2).trans rfl;have hc42:w2.cell? ⟨bp,4,none⟩=some (.int .i64 (i:Int)):=(cell_of_row w2 bp 4 _ _ _ hh2).trans rfl;have hf42:=frozen_of_row w2 bp 4 _ _ hh2;have k02:w2.cell? ⟨g,i*3,none⟩=some (.string v.key):=(HA2.out.cell (a:=⟨g,i*3,none⟩) hgx (fun hc=>hc.elim hgr.1 hgr.2.1)).trans k0;have k12:w2.cell? ⟨g,i*3+1,none⟩=some (.int .i64 v.num):=(HA2.out.cell (a:=⟨g,i*3+1,none⟩) hgx (fun hc=>hc.elim hgr.1 hgr.2.1)).trans k1;clear ha2 hl2 hcase hh2))
  have HNB:Hid (¬S2 bp):=fun hk=>by
   rcases (HS2.out bp hk).1 with h|h
   ·exact HH.out.pS h
   ·omega
  rcases HC2.out with⟨rfl,hm,_,_⟩|⟨rfl,_,hf⟩
  ·have HST:Hid (yk V vs last lost):=HHG.out.stays hi (by rw [HVI.out];exact hm)
   clear hm HC2
   have hbp2:bp<w2.heap.size:=by have:=HA2.out.size;omega
   go_wp2
   go_end0
   have k24:Kept (fun k=>k=bp) w2 (w2.setCell ⟨bp,4,none⟩ (.int .i64 (-1))):=Kept.setCell (S:=fun k=>k=bp) w2 ⟨bp,4,none⟩ _ rfl
   have hx:=HH.out.aft HA2.out HS2.out k24 (by rw [heap_setCell_same w2 bp 4 _ _ _ HH2.out];rfl)
   exact⟨rfl,_,D2,vs,⟨_,_,_,_,_,_,_,hx,zR.kept HF2.out k24 (fun k hk e=>HNB.out (by rw [←show k=bp from e];exact hk)) (fun e=>HH.out.pb e.symm)⟩,HST.out,Nat.le_refl _,hr1,hz2,(HA2.out.mono (fun k hk=>by
    rcases hk with hk|rfl
    ·exact HH.out.xS k hk
    ·exact HH.out.xb)).trans k24 (fun k hk=>.inl (by rw [show k=bp from hk];exact HH.out.xp)),fun k hk=>hk.imp id (fun h=>h.1)⟩
  have HCUT:Hid (yk V (cut vs i) last lost):=HHG.out.leaves hi (by rw [HVI.out];exact hf)
  clear hf HC2
  have HR2:Hid (w2.ownsRow 0 85 3 (.slice (some ⟨g,0,none⟩) vs.length cap) vs.length cs.flatten):=HA2.out.owns HH.out.row (fun k hk hc=>by have:=HH.out.rS k hk;exact hc.elim this.1 this.2.1)
  have hs2:=HA2.out.size
  have htk:(cs.take i).length=i:=by rw [List.length_take];omega
  have HT3:Hid (∀c∈cs.take i,c.length=3):=fun c hc=>H3.out c (List.mem_of_mem_take hc)
  have HFL:Hid (cs.flatten=(cs.take i).flatten++(cs.drop i).flatten):=by show cs.flatten=_;rw [←List.flatten_append,List.take_append_drop]
  have HN1:Hid (∀(j:Nat) (u:Value),(cs.take i).flatten[j]? =some u→w2.cell? ((⟨g,0,none⟩:Addr).add j)=some u):=fun j u hu=>HR2.out.cells (g:=g) rfl j u (by
   rw [HFL.out,List.getElem?_append_left (List.getElem?_eq_some_iff.1 hu).1];exact hu)
  have HO1:Hid (∀u∈(cs.take i).flatten,u.oneCell'=true):=fun u hu=>H1.out u (by rw [HFL.out];exact List.mem_append_left _ hu)
  have HCF:Hid ((cut cs i).flatten=(cs.take i).flatten++(cs.drop (i+1)).flatten):=by show (cut cs i).flatten=_;unfold cut;rw [List.flatten_append]
  have hdl:(cs.drop (i+1)).length=vs.length-(i+1):=by rw [List.length_drop,hcl]
  have HT4:Hid (∀c∈cs.drop (i+1),c.length=3):=fun c hc=>H3.out c (List.mem_of_mem_drop hc)
  have HFD:Hid (cs.flatten=(cs.take (i+1)).flatten++(cs.drop (i+1)).flatten):=by show cs.flatten=_;rw [←List.flatten_append,List.take_append_drop]
  have hti:(cs.take (i+1)).flatten.length=(i+1)*3:=by rw [qY (fun c hc=>H3.out c (List.mem_of_mem_take hc)),List.length_take];omega
  have HTI:Hid ((cs.take (i+1)).flatten.length=(i+1)*3):=hti
  have HN2:Hid (∀w9:World,Kept (fun _=>False) w2 w9→∀(j:Nat) (u:Value),(cs.drop (i+1)).flatten[j]? =some u→w9.cell? ((⟨g,(i+1)*3,none⟩:Addr).add j)=some u):=fun w9 k9 j u hu=>by
   have h1:=(k9.owns HR2.out nF).cells (g:=g) rfl ((i+1)*3+j) u (by
    rw [HFD.out,List.getElem?_append_right (by rw [HTI.out];omega),HTI.out,Nat.add_sub_cancel_left];exact hu)
   rw [Addr.add_mid] at h1 ⊢
   rw [Nat.zero_add] at h1
   exact h1
  have HO2:Hid (∀u∈(cs.drop (i+1)).flatten,u.oneCell'=true):=fun u hu=>H1.out u (by rw [HFD.out];exact List.mem_append_right _ hu)
  clear hti
  by_cases hce:cap=i+1
  ·subst hce
   have hvi:vs.length≤i+1:=by omega
   have HDN:Hid ((cs.drop (i+1)).flatten=[]):=by show _=_;rw [List.drop_of_length_le (by omega)];rfl
   go_wp2_with fail
   go_region_law (refine yK rfl (.tmp 42) (.tmp 51) 31 rfl 85 i0 _ 3 48 Tryz.underlying31 HI0.out.1 HI0.out.2.1 HI0.out.2.2.1 HI0.out.2.2.2 rfl (by omega) (.slice none 0 0) 0 [] (by rfl) (World.ownsRow_nil _ _ _ _) ⟨g,0,none⟩ i (i+1) (cs.take i).flatten (by rfl) (by rw [qY HT3.out,htk]) (by exact HN1.out) HO1.out (by unfold maxLen;omega) (by omega) ?_;intro a3 c3 w3 hown3 hgrow3 hat3;have HOW3:Hid (w3.ownsRow 0 85 3 (.slice a3 i c3) i (cs.take i).flatten):=(by have h9:=hown3;rw [Nat.zero_add,List.nil_append] at h9;exact h9);have HK3:Hid (Kept (fun _=>False) w2 w3):=yC (Kept.grown hgrow3 (fun k hk=>by cases hk));have HAT3:Hid (∀k,(Value.slice a3 i c3).ownBlock=some k→w2.heap.size≤k):=(fun k hk=>xV (by have h9:=hat3;rw [Nat.zero_add] at h9;exact h9) (Nat.le_refl _) (fun j hj=>by cases hj) hk);have hh3:w3.heap[bp]? =_:=(HK3.out.block bp (by omega) (fun hf=>hf)).trans HH2.out;have HH3:Hid (w3.heap[bp]? =some (qL (.pointer (some ⟨bd,0,none⟩)) (.pointer (some ⟨bs,0,none⟩)) (.slice (some ⟨g,0,none⟩) vs.length (i+1)) last (i:Int) (lost:Nat))):=hh3;have hc23:w3.cell? ⟨bp,2,none⟩=some (.slice (some ⟨g,0,none⟩) vs.length (i+1)):=(cell_of_row w3 bp 2 _ _ _ hh3).trans rfl;have hf23:=frozen_of_row w3 bp 2 _ _ hh3;have hc43:w3.cell? ⟨bp,4,none⟩=some (.int .i64 (i:Int)):=(cell_of_row w3 bp 4 _ _ _ hh3).trans rfl;clear hown3 hgrow3 hat3 hh3)
   all_goals go_wp2_with fail
   all_goals go_region_law (refine yK rfl (.tmp 54) (.tmp 64) 31 rfl 85 i0 _ 3 48 Tryz.underlying31 HI0.out.1 HI0.out.2.1 HI0.out.2.2.1 HI0.out.2.2.2 rfl (by omega) (.slice a3 i c3) i (cs.take i).flatten (by rfl) (by exact HOW3.out) ⟨g,0,none⟩ 0 0 [] (by rfl) (by rfl) (fun j u hu=>by cases hu) (fun u hu=>by cases hu) (by unfold maxLen;omega) (by omega) ?_;intro a4 c4 w4 hown4 hgrow4 hat4;have HX:Hid _:=zG.erased HH.out HA2.out HS2.out i hi w4 (by exact(HK3.out.trans (yC (Kept.grown (S:=fun k=>w2.heap.size≤k) hgrow4 (fun k hk=>HAT3.out k hk))) (fun k hk=>.inr hk))) a4 c4 (i+0) (by omega) (by rw [HCF.out,HDN.out];exact hown4) (fun k hk=>xV hat4 HK3.out.size HAT3.out hk);have k34:Kept (fun k=>w2.heap.size≤k) w3 w4:=yC (Kept.grown hgrow4 (fun k hk=>HAT3.out k hk));have hh4:w4.heap[bp]? =_:=(k34.block bp (by have:=HK3.out.size;omega) (by omega)).trans HH3.out;have hc24:w4.cell? ⟨bp,2,none⟩=some (.slice (some ⟨g,0,none⟩) vs.length (i+1)):=(cell_of_row w4 bp 2 _ _ _ hh4).trans rfl;have hf24:=frozen_of_row w4 bp 2 _ _ hh4;have hc44:w4.cell? ⟨bp,4,none⟩=some (.int .i64 (i:Int)):=(cell_of_row w4 bp 4 _ _ _ hh4).trans rfl;have hf44:=frozen_of_row w4 bp 4 _ _ hh4;have hbp4:bp<w4.heap.size:=(lT hh4);clear hown4 hgrow4 hat4 k34 hh4)
   all_goals
    go_wp2
    go_end0
    exact⟨rfl,_,D2,cut vs i,⟨_,_,_,_,_,_,_,HX.out.1.ungone,zR.kept (zR.kept HF2.out HX.out.2.2 (fun k hk e=>HNB.out (by rw [←show k=bp from e];exact hk)) (fun e=>HH.out.pb e.symm)) (Kept.setCell (S:=fun k=>k=bp) _ ⟨bp,4,none⟩ _ rfl) (fun k hk e=>HNB.out (by rw [←show k=bp from e];exact hk)) (fun e=>HH.out.pb e.symm)⟩,HCUT.out,by have:=xe vs i hi;omega,hr1,hz2,HX.out.2.1.trans (Kept.setCell (S:=fun k=>k=bp) _ ⟨bp,4,none⟩ _ rfl) (fun k hk=>.inl (by rw [show k=bp from hk];exact HH.out.xp)),fun k hk=>hk.imp id (fun h=>h.1)⟩
  ·go_wp2_with fail
   go_region_law (refine yK rfl (.tmp 42) (.tmp 51) 31 rfl 85 i0 _ 3 48 Tryz.underlying31 HI0.out.1 HI0.out.2.1 HI0.out.2.2.1 HI0.out.2.2.2 rfl (by omega) (.slice none 0 0) 0 [] (by rfl) (World.ownsRow_nil _ _ _ _) ⟨g,0,none⟩ i cap (cs.take i).flatten (by rfl) (by rw [qY HT3.out,htk]) (by exact HN1.out) HO1.out (by unfold maxLen;omega) (by omega) ?_;intro a3 c3 w3 hown3 hgrow3 hat3;have HOW3:Hid (w3.ownsRow 0 85 3 (.slice a3 i c3) i (cs.take i).flatten):=(by have h9:=hown3;rw [Nat.zero_add,List.nil_append] at h9;exact h9);have HK3:Hid (Kept (fun _=>False) w2 w3):=yC (Kept.grown hgrow3 (fun k hk=>by cases hk));have HAT3:Hid (∀k,(Value.slice a3 i c3).ownBlock=some k→w2.heap.size≤k):=(fun k hk=>xV (by have h9:=hat3;rw [Nat.zero_add] at h9;exact h9) (Nat.le_refl _) (fun j hj=>by cases hj) hk);have hh3:w3.heap[bp]? =_:=(HK3.out.block bp (by omega) (fun hf=>hf)).trans HH2.out;have HH3:Hid (w3.heap[bp]? =some (qL (.pointer (some ⟨bd,0,none⟩)) (.pointer (some ⟨bs,0,none⟩)) (.slice (some ⟨g,0,none⟩) vs.length cap) last (i:Int) (lost:Nat))):=hh3;have hc23:w3.cell? ⟨bp,2,none⟩=some (.slice (some ⟨g,0,none⟩) vs.length cap):=(cell_of_row w3 bp 2 _ _ _ hh3).trans rfl;have hf23:=frozen_of_row w3 bp 2 _ _ hh3;have hc43:w3.cell? ⟨bp,4,none⟩=some (.int .i64 (i:Int)):=(cell_of_row w3 bp 4 _ _ _ hh3).trans rfl;clear hown3 hgrow3 hat3 hh3)
   all_goals go_wp2_with fail
   all_goals go_region_law (refine yK rfl (.tmp 54) (.tmp 64) 31 rfl 85 i0 _ 3 48 Tryz.underlying31 HI0.out.1 HI0.out.2.1 HI0.out.2.2.1 HI0.out.2.2.2 rfl (by omega) (.slice a3 i c3) i (cs.take i).flatten (by rfl) (by exact HOW3.out) ⟨g,(i+1)*3,none⟩ (vs.length-(i+1)) (cap-(i+1)) (cs.drop (i+1)).flatten (by rfl) (by rw [qY HT4.out,hdl]) (by exact HN2.out w3 HK3.out) HO2.out (by unfold maxLen;omega) (by omega) ?_;intro a4 c4 w4 hown4 hgrow4 hat4;have HX:Hid _:=zG.erased HH.out HA2.out HS2.out i hi w4 (by exact(HK3.out.trans (yC (Kept.grown (S:=fun k=>w2.heap.size≤k) hgrow4 (fun k hk=>HAT3.out k hk))) (fun k hk=>.inr hk))) a4 c4 (i+(vs.length-(i+1))) (by omega) (by rw [HCF.out];exact hown4) (fun k hk=>xV hat4 HK3.out.size HAT3.out hk);have k34:Kept (fun k=>w2.heap.size≤k) w3 w4:=yC (Kept.grown hgrow4 (fun k hk=>HAT3.out k hk));have hh4:w4.heap[bp]? =_:=(k34.block bp (by have:=HK3.out.size;omega) (by omega)).trans HH3.out;have hc24:w4.cell? ⟨bp,2,none⟩=some (.slice (some ⟨g,0,none⟩) vs.length cap):=(cell_of_row w4 bp 2 _ _ _ hh4).trans rfl;have hf24:=frozen_of_row w4 bp 2 _ _ hh4;have hc44:w4.cell? ⟨bp,4,none⟩=some (.int .i64 (i:Int)):=(cell_of_row w4 bp 4 _ _ _ hh4).trans rfl;have hf44:=frozen_of_row w4 bp 4 _ _ hh4;have hbp4:bp<w4.heap.size:=(lT hh4);clear hown4 hgrow4 hat4 k34 hh4)
   all_goals
    go_wp2
    go_end0
    exact⟨rfl,_,D2,cut vs i,⟨_,_,_,_,_,_,_,HX.out.1.ungone,zR.kept (zR.kept HF2.out HX.out.2.2 (fun k hk e=>HNB.out (by rw [←show k=bp from e];exact hk)) (fun e=>HH.out.pb e.symm)) (Kept.setCell (S:=fun k=>k=bp) _ ⟨bp,4,none⟩ _ rfl) (fun k hk e=>HNB.out (by rw [←show k=bp from e];exact hk)) (fun e=>HH.out.pb e.symm)⟩,HCUT.out,by have:=xe vs i hi;omega,hr1,hz2,HX.out.2.1.trans (Kept.setCell (S:=fun k=>k=bp) _ ⟨bp,4,none⟩ _ rfl) (fun k hk=>.inl (by rw [show k=bp from hk];exact HH.out.xp)),fun k hk=>hk.imp id (fun h=>h.1)⟩
end
end keep
namespace keep
open law (qe zc qv yj ym xm zR jI cB Yt OutIs)
structure yd (V:qe) (D:Dk) (vs:List qa) (last:Int) (lost n:Nat):Prop where
 hold:yk V vs last lost
 wt:lost+weight vs≤473
 n0:V.n0≤(n:Int)
 reads:D.reads≤30000+40*(n:Int)
 size:D.bs.length=1000
structure Made (M:zc) (w2 wx:World) (X:Nat→Prop) (bp n:Nat) (done:Bool):Prop where
 is:∃X2 bd bs S D vs last gone lost a cap cs G,zG wx X2 bp bd bs S vs last gone lost a cap cs G∧zh wx bd S D∧M.Could D (fun U=>vt U vs last gone lost∧U.n0≤(n:Int))∧(∀v∈vs,jL v)∧lost+weight vs≤473∧D.bs.length=1000∧(∀k,X2 k→X k∨w2.heap.size≤k)∧(done=true→∃V,gone= -1∧zR M wx bd bs S D V∧yd V D vs last lost n)
 kept:Kept X w2 wx
section
variable {M N:zc} {w w' w2 wx:World} {X X2 T:Nat→Prop} {bp bd bs n:Nat} {S:Nat→Prop} {D D':Dk} {V:qe} {vs:List qa} {last gone:Int} {lost:Nat} {a:Option Addr} {cap:Nat} {cs:List (List Value)} {G:Nat→Prop}
theorem jy{P R:qe→Prop}(h:M.Could D P)(hs:∀U,P U→R U):M.Could D R:=⟨h.few,h.big,fun ks=>by
 obtain⟨U,h1,h2⟩:=h.all ks
 exact⟨U,hs U h1,h2⟩⟩
theorem zG.within(h:zG w X bp bd bs S vs last gone lost a cap cs G)(k:Kept S w w'):zG w' X bp bd bs S vs last gone lost a cap cs G:=
 ⟨(k.block bp h.lt h.pS).trans h.head,k.owns h.row (fun i hi=>(h.rS i hi).1),h.told.kept k (fun i hi=>(h.gS i hi).1),fun i hi=>Nat.lt_of_lt_of_le (h.xlt i hi) k.size,h.xS,h.xb,h.xp,h.xr,h.xG,h.pS,h.pb,h.rS,h.gS⟩
theorem yd.later(h:yd V D vs last lost n):yd V D vs last lost (n+1):=⟨h.hold,h.wt,by have:=h.n0;push_cast;omega,by have:=h.reads;push_cast;omega,h.size⟩
theorem yd.few(h:yd V D vs last lost n):vs.length≤473:=by have:=h.wt;have:=kO vs;omega
theorem Made.live(h:zG wx X2 bp bd bs S vs last (-1) lost a cap cs G)(F:zR M wx bd bs S D V)(hs:yd V D vs last lost n)(hn:n≤1000000000000000)(k:Kept X w2 wx)(hx:∀k,X2 k→X k∨w2.heap.size≤k):Made M w2 wx X bp n true:=
 ⟨⟨X2,bd,bs,S,D,vs,last, -1,lost,a,cap,cs,G,h,F.disk,jy F.live.could (fun U hU=>by rw [hU];exact⟨.inl ⟨rfl,hs.hold⟩,hs.n0⟩),hs.hold.fine F.live.good (by have:=hs.n0;omega),hs.wt,hs.size,hx,fun _=>⟨V,rfl,F,hs⟩⟩,k⟩
theorem gJ(l:List UInt8):qr (l.take 300).length≤4:=by
 have:(l.take 300).length≤300:=by rw [List.length_take];omega
 unfold qr;omega
theorem yd.put(h:yd V D vs last lost n)(g:law.Good V)(hw:lost+weight vs<470)(key:ByteArray)(l:List UInt8)(hr:D'.reads≤D.reads+40)(hz:D'.bs.length=1000):yd (V.add key false (l.take 300)) D' (vs++[⟨key,V.n0+1,false,l.take 300⟩]) (V.n0+1) lost (n+1):=by
 have:=gJ l
 have h1:=h.n0
 have h2:=h.reads
 exact⟨h.hold.put g key _,by rw [xq,jK];show lost+(weight vs+(qr (l.take 300).length+0))≤_;omega,by show V.n0+1≤_;push_cast;omega,by push_cast;omega,hz⟩
theorem yd.erase(h:yd V D vs last lost n)(g:law.Good V)(i:Nat)(hi:i<vs.length)(hr:D'.reads≤D.reads+40)(hz:D'.bs.length=1000):yd (V.sub vs[i].key vs[i].num) D' (cut vs i) last lost (n+1):=by
 have h1:=h.n0
 have h2:=h.reads
 have h3:=xe vs i hi
 have h4:=h.wt
 exact⟨h.hold.erase g i hi,by omega,by show V.n0≤_;push_cast;omega,by push_cast;omega,hz⟩
theorem bz(A:xm M)(h:qh M w X bp D V vs last gone lost)(hv:∀v∈vs,jL v)(hg:vt V vs last gone lost)(hr:D.reads≤1000000000000000000)(hl:vs.length≤6000):
 Calls Tryz.prog 44 #[.pointer (some ⟨bp,0,none⟩)] w fun e w'=>e=.returned (.tuple #[])∧∃X' D' vs',qh M w' X' bp D' V vs' last (-1) lost∧yk V vs' last lost∧weight vs'≤weight vs∧D'.reads≤D.reads+40∧D'.bs.length=D.bs.length∧Kept X w w'∧∀k,X' k→X k∨w.heap.size≤k:=by
 obtain⟨bd,bs,S,a,cap,cs,G,h,F⟩:=h
 exact bw A h F hv hg hr hl
theorem qh.ok(h:qh M w X bp D V vs last gone lost):bp<w.heap.size∧w.cell? ⟨bp,6,none⟩=some (.bool true)∧w.frozen? ⟨bp,6,none⟩=false:=by
 obtain⟨bd,bs,S,a,cap,cs,G,h,F⟩:=h
 obtain⟨_,_,_,_,_,_,h6,hf⟩:=qk h.head
 exact⟨h.lt,h6,hf 6⟩
theorem Made.erased{w3:World}{S3:Nat→Prop}{D3:Dk}{e:Ending}(hs:yd V D vs last lost n)(g:law.Good V)(hn:n+1≤1000000000000000)(i:Nat)(hi:i<vs.length)(k:Kept X w2 w3)(hr:D3.reads≤D.reads+40)(hz:D3.bs.length=1000)
 (h:(e=.returned (.bool true)∧zR M w3 bd bs S3 D3 (V.sub vs[i].key vs[i].num)∧∃a' cap' cs' G',zG w3 (fun k=>X k∨(w2.heap.size≤k∧k<w3.heap.size)) bp bd bs S3 (cut vs i) last (-1) lost a' cap' cs' G')∨(e=.returned (.bool false)∧zh w3 bd S3 D3∧M.Could D3 (fun U=>U=V∨U=V.sub vs[i].key vs[i].num)∧zG w3 (fun k=>X k∨(w2.heap.size≤k∧k<w3.heap.size)) bp bd bs S3 vs last i lost a cap cs G)):∃done,e=.returned (.bool done)∧Made M w2 w3 X bp (n+1) done:=by
 rcases h with⟨rfl,hF,a',c',cs',G',hsh⟩|⟨rfl,hd,hc,hsh⟩
 ·exact⟨true,rfl,Made.live hsh hF (hs.erase g i hi hr hz) hn k (fun k hk=>hk.imp id (fun h=>h.1))⟩
 ·refine⟨false,rfl,⟨_,bd,bs,S3,D3,vs,last,_,lost,a,cap,cs,G,hsh,hd,jy hc (fun U hU=>⟨.inr ⟨i,rfl,hi,hs.hold.gone g i hi hU⟩,?_⟩),hs.hold.fine g (by have:=hs.n0;omega),hs.wt,hz,fun k hk=>hk.imp id (fun h=>h.1),fun e=>nomatch e⟩,k⟩
  have:=hs.n0
  rcases hU with rfl|rfl
  ·push_cast;omega
  ·show V.n0≤_;push_cast;omega
theorem Made.puts{w3:World}{S3:Nat→Prop}{D3:Dk}{e:Ending}(hs:yd V D vs last lost n)(g:law.Good V)(hn:n+1≤1000000000000000)(hw:lost+weight vs<470)(key:ByteArray)(l:List UInt8)(k:Kept X w2 w3)(hr:D3.reads≤D.reads+40)(hz:D3.bs.length=1000)
 (h:(e=.returned (.bool true)∧zR M w3 bd bs S3 D3 (V.add key false (l.take 300))∧∃a' cap' cs' G',zG w3 (fun k=>X k∨(w2.heap.size≤k∧k<w3.heap.size)) bp bd bs S3 (vs++[⟨key,V.n0+1,false,l.take 300⟩]) (V.n0+1) (-1) lost a' cap' cs' G')∨(e=.returned (.bool false)∧zh w3 bd S3 D3∧M.Could D3 (fun U=>U=V∨U=V.add key false (l.take 300))∧zG w3 (fun k=>X k∨(w2.heap.size≤k∧k<w3.heap.size)) bp bd bs S3 vs last (-1) (lost+qr (l.take 300).length) a cap cs G)):∃done,e=.returned (.bool done)∧Made M w2 w3 X bp (n+1) done:=by
 have h0:=hs.n0
 have h4:=gJ l
 rcases h with⟨rfl,hF,a',c',cs',G',hsh⟩|⟨rfl,hd,hc,hsh⟩
 ·exact⟨true,rfl,Made.live hsh hF (hs.put g hw key l hr hz) hn k (fun k hk=>hk.imp id (fun h=>h.1))⟩
 ·refine⟨false,rfl,⟨_,bd,bs,S3,D3,vs,last, -1,_,a,cap,cs,G,hsh,hd,jy hc (fun U hU=>⟨.inl ⟨rfl,hs.hold.lose key _ hU⟩,?_⟩),hs.hold.fine g (by omega),by omega,hz,fun k hk=>hk.imp id (fun h=>h.1),fun e=>nomatch e⟩,k⟩
  rcases hU with rfl|rfl
  ·push_cast;omega
  ·show V.n0+1≤_;push_cast;omega
set_option maxRecDepth 60000 in
theorem Qx(AO:qv N)(AP:yj M)(AE:ym M)(AA:xm M)(hT:Vr M N)(h:qh M w X bp D V vs last (-1) lost)(hs:yd V D vs last lost n)(hn:n≤100000000000000)(o:cG)(Q:Nat→Prop)(ho:o.Ok w Q)(hQ:∀k,Q k→¬X k):
 Calls Tryz.prog 18 #[.pointer (some ⟨bp,0,none⟩),.agg #[.int .i64 o.key,.int .i64 o.what,.slice o.la o.l.length o.lc,.int .i64 o.fuse,.slice o.ka o.ks.length o.kc]] w fun e w'=>e=.returned (.tuple #[])∧∃X' D' V' vs' last' lost',qh M w' X' bp D' V' vs' last' (-1) lost'∧yd V' D' vs' last' lost' (n+1)∧Kept X w w'∧∀k,X' k→X k∨w.heap.size≤k:=by
 have hk0:Kept (fun _=>False) w (w.alloc (.cells #[.int .i64 o.key,.int .i64 o.what,.slice o.la o.l.length o.lc,.int .i64 o.fuse,.slice o.ka o.ks.length o.kc] 41)):=Kept.alloc _ _ _
 have hb0:=heap_alloc_new w (.cells #[.int .i64 o.key,.int .i64 o.what,.slice o.la o.l.length o.lc,.int .i64 o.fuse,.slice o.ka o.ks.length o.kc] 41)
 have hS0:=h.kept hk0 nF
 have ho0:=ho.kept hk0 nF
 have hnb:¬X w.heap.size:=fun hX=>by
  obtain⟨_,_,_,_,_,_,_,h,_⟩:=h
  have:=h.xlt _ hX;omega
 have hbl:bp<w.heap.size:=by
  obtain⟨_,_,_,_,_,_,_,h,_⟩:=h
  exact h.lt
 obtain⟨hok1,hok2⟩:=ho.fuse
 obtain⟨how1,how2⟩:=ho.what
 go_enter Tryz.func18,Tryz.ntmps18
 go_upto_if 8 with fail
 generalize w.alloc (.cells #[.int .i64 o.key,.int .i64 o.what,.slice o.la o.l.length o.lc,.int .i64 o.fuse,.slice o.ka o.ks.length o.kc] 41)=w1 at*
 have hs1:=hk0.size
 have hbl1:bp<w1.heap.size:=by omega
 have hbx1:w.heap.size<w1.heap.size:=(lT hb0)
 have HB0:Hid (w1.heap[w.heap.size]? =some (.cells #[.int .i64 o.key,.int .i64 o.what,.slice o.la o.l.length o.lc,.int .i64 o.fuse,.slice o.ka o.ks.length o.kc] 41 (0,0))):=hb0
 have HK0:Hid (Kept (fun _=>False) w w1):=hk0
 have HS0:Hid (qh M w1 X bp D V vs last (-1) lost):=hS0
 have HO0:Hid (o.Ok w1 Q):=ho0
 have HQ:Hid (∀k,Q k→¬X k):=hQ
 have HST:Hid (yd V D vs last lost n):=hs
 have HNX:Hid (¬X w.heap.size):=hnb
 clear h hs ho hQ hb0 hk0 hS0 ho0 hnb
 generalize hbox:w.heap.size=box at*
 go_cut [] (fun wc=>∃D1,qh M wc X bp D1 V vs last (-1) lost∧D1.reads=D.reads∧D1.bs.length=1000∧Kept X w1 wc)
 case first=>
  by_cases hf:0<o.fuse
  ·have hfd:decide (o.fuse>0)=true:=decide_eq_true hf
   have hf1:IntKind.i64.wrap (o.fuse-1)=o.fuse-1:=IntWalk.i64_in _ (by omega)
   obtain⟨bd,bs,S,a,cap,cs,G,hsh,F⟩:=HS0.out
   have hc0:=(qk hsh.head).1
   have hcf:w1.cell? ⟨box,3,none⟩=some (.int .i64 o.fuse):=(cell_of_row w1 box 3 _ _ _ HB0.out).trans rfl
   obtain⟨ba,pa,bc,pc,hda⟩:=F.disk
   have hSbd:S bd:=(hda.own bd).2 (.inl rfl)
   have hbpd:bp≠bd:=fun e=>hsh.pS (by rw [e];exact hSbd)
   have hbxd:box≠bd:=fun e=>HNX.out (by rw [e];exact hsh.xS bd hSbd)
   have hbds:bd≠bs:=fun e=>F.apart (by rw [←e];exact hSbd)
   have HPK:Hid (∀W,Calls Tryz.prog 21 #[.int .i64 (o.fuse-1),.int .i64 60] W fun e w'=>e=.returned (.int .i64 (xU (o.fuse-1) 60:Int))∧w'=W):=fun W=>vp W (o.fuse-1) 60 ⟨by omega,by omega⟩ (by omega) (by omega)
   have hpk:(xU (o.fuse-1) 60:Int)<60:=gF _ _ (by omega)
   generalize xU (o.fuse-1) 60=pk at*
   have HDA:Hid (zi w1 bd S D ba pa bc pc):=hda
   have HSH:Hid (zG w1 X bp bd bs S vs last (-1) lost a cap cs G):=hsh
   have HF:Hid (zR M w1 bd bs S D V):=F
   clear hda hsh F
   go_wp2_with fail
   go_region_held3 (fun w'=>w'.cell? ⟨bp,0,none⟩=some (.pointer (some ⟨bd,0,none⟩))∧w'.cell? ⟨box,3,none⟩=some (.int .i64 o.fuse)) (go_keep) (first
    |(go_at_call 21;refine(HPK.out _).mono ?_;rintro e w9 ⟨rfl,rfl⟩)
    |(go_at_call 43;refine(XS w1.drew bd S D ba pa bc pc (by exact HDA.out.kept (Kept.drew (fun _=>False) w1) nF) pk).mono ?_;rintro e w3 ⟨rfl,hd3,hk3⟩;have HD3:Hid (zi w3 bd S {D with fuse:=(pk:Int)} ba pa bc pc):=hd3;have HK3:Hid (Kept (fun k=>k=bd) w1 w3):=yC hk3;have hc03:w3.cell? ⟨bp,0,none⟩=some (.pointer (some ⟨bd,0,none⟩)):=(HK3.out.cell (a:=⟨bp,0,none⟩) hbl1 hbpd).trans hc0;have hcf3:w3.cell? ⟨box,3,none⟩=some (.int .i64 o.fuse):=(HK3.out.cell (a:=⟨box,3,none⟩) hbx1 hbxd).trans hcf;clear hd3 hk3))
   go_wp2_with fail
   go_meet
   case rel=>
    have k3:Kept S w1 w3:=HK3.out.mono (fun k hk=>by rw [show k=bd from hk];exact hSbd)
    exact⟨{D with fuse:=(pk:Int)},⟨bd,bs,S,a,cap,cs,G,HSH.out.within k3,⟨⟨_,_,_,_,HD3.out⟩,HF.out.apart,M.sto_kept _ _ _ _ _ HF.out.sto HK3.out (fun e=>hbds e.symm),⟨HF.out.live.ps,HF.out.live.rest,HF.out.live.big⟩,hT.every _ ⟨by show _≤(pk:Int);omega,by show (pk:Int)≤_;omega⟩,HF.out.reads0,HF.out.reads1,HF.out.few⟩⟩,rfl,HST.out.size,k3.mono (fun k hk=>HSH.out.xS k hk)⟩
  ·have hfd:decide (o.fuse>0)=false:=decide_eq_false hf
   go_wp2_with fail
   go_meet
   case rel=>exact⟨D,HS0.out,rfl,HST.out.size,Kept.refl _ _⟩
 case rest=>
 obtain⟨D1,hS1,hr1,hz1,hk1⟩:=hcut
 have HS1:Hid (qh M wc X bp D1 V vs last (-1) lost):=hS1
 have HK1:Hid (Kept X w1 wc):=hk1
 clear hS1 hk1
 go_wp2_with fail
 refine(Je _).mono ?_
 rintro e w2 ⟨rfl,hk2,hb2⟩
 have hws:=hk2.size
 have hk12:=(HK1.out.trans hk2 fE)
 have HK2:Hid (Kept X w1 w2):=hk12
 have hs2:=hk12.size
 have HS2:Hid (qh M w2 X bp D1 V vs last (-1) lost):=HS1.out.kept hk2 nF
 have HB2:Hid (w2.heap[wc.heap.size]? =some (.cells Qp 9 (0,0))):=hb2
 have HBX:Hid (w2.heap[box]? =some (.cells #[.int .i64 o.key,.int .i64 o.what,.slice o.la o.l.length o.lc,.int .i64 o.fuse,.slice o.ka o.ks.length o.kc] 41 (0,0))):=(hk12.block box hbx1 HNX.out).trans HB0.out
 have HO2:Hid (o.Ok w2 Q):=HO0.out.kept hk12 HQ.out
 have hbl2:bp<w2.heap.size:=by omega
 have hST1:yd V D1 vs last lost n:=⟨HST.out.hold,HST.out.wt,HST.out.n0,by rw [hr1];exact HST.out.reads,hz1⟩
 have HST1:Hid (yd V D1 vs last lost n):=hST1
 have HNK:Hid (¬X wc.heap.size):=fun hX=>by
  obtain⟨_,_,_,_,_,_,_,h,_⟩:=HS1.out
  have:=h.xlt _ hX;omega
 clear hk2 hk12 hb2 hST1 HST HS0 HO0 HB0
 generalize hkb:wc.heap.size=kb at*
 obtain⟨bd,bs,S,a,cap,cs,G,hsh,F⟩:=HS2.out
 obtain⟨hc0,hc1,hc2,hc3,hc4,hc5,hc6,hfz⟩:=qk hsh.head
 have hbw:w2.cell? ⟨box,1,none⟩=some (.int .i64 o.what):=(cell_of_row w2 box 1 _ _ _ HBX.out).trans rfl
 have HSH:Hid (zG w2 X bp bd bs S vs last (-1) lost a cap cs G):=hsh
 have HF:Hid (zR M w2 bd bs S D1 V):=F
 have hlen:=HST1.out.few
 have HGD:Hid (law.Good V):=F.live.good
 clear hsh F
 go_upto_region 5 with fail
 go_cut [30] (fun s30 wd=>s30=.bool ((o.what.tmod 3==0)&&decide (0<vs.length))∧w2=wd)
 case first=>
  by_cases h3:o.what.tmod 3=0
  ·have h3b:(o.what.tmod 3==0)=true:=by simp [h3]
   by_cases hv:0<vs.length
   ·have hvd:decide ((vs.length:Int)>0)=true:=decide_eq_true (by omega)
    go_wp2_with fail
    go_meet
    case rel=>exact⟨by simp [h3,hv],rfl⟩
   ·have hvd:decide ((vs.length:Int)>0)=false:=decide_eq_false (by omega)
    go_wp2_with fail
    go_meet
    case rel=>exact⟨by simp [h3,hv],rfl⟩
  ·have h3b:(o.what.tmod 3==0)=false:=by simp [h3]
   go_wp2_with fail
   go_meet
   case rel=>exact⟨by simp [h3],rfl⟩
 case rest=>
 obtain⟨rfl,rfl⟩:=hcut
 generalize hbE:((o.what.tmod 3==0)&&decide (0<vs.length))=bE at*
 go_upto_if 30 with fail
 go_cut [4] (fun s4 we=>∃done:Bool,s4=.bool done∧Made M w2 we X bp (n+1) done)
 case first=>
  have hbk:w2.cell? ⟨box,0,none⟩=some (.int .i64 o.key):=(cell_of_row w2 box 0 _ _ _ HBX.out).trans rfl
  cases bE with
  |true=>
   have hv:0<vs.length:=by simp at hbE;exact hbE.2
   have HPK:Hid (∀W,Calls Tryz.prog 21 #[.int .i64 o.key,.int .i64 (vs.length:Int)] W fun e w'=>e=.returned (.int .i64 (xU o.key (vs.length:Int):Int))∧w'=W):=fun W=>vp W o.key (vs.length:Int) HO2.out.key (by omega) (by omega)
   have hpk:(xU o.key (vs.length:Int):Int)<(vs.length:Int):=gF _ _ (by omega)
   generalize xU o.key (vs.length:Int)=pk at*
   have hpk':pk<vs.length:=by omega
   have hrd1:=HST1.out.reads
   have hn01:=HST1.out.n0
   have hwt1:=HST1.out.wt
   have hwh:=HST1.out.hold.wt
   clear hbE
   go_wp2_with fail
   go_region_with (first
    |(go_at_call 21;refine(HPK.out _).mono ?_;rintro e w9 ⟨rfl,rfl⟩)
    |(go_at_call 33;refine(Qv AE (HSH.out.kept (Kept.drew (fun _=>False) w2) nF) (zR.kept HF.out (Kept.drew (fun _=>False) w2) nF (fun hf=>hf)) hz1 HST1.out.hold (by omega) (by omega) (by omega) (by omega) pk hpk').mono ?_;rintro e w3 ⟨S3,D3,hk3,hr3,hz3,hcase⟩;obtain⟨done,rfl,hm⟩:=Made.erased HST1.out HGD.out (by omega) pk hpk' (yC hk3) hr3 hz3 hcase;have HM3:Hid (Made M w2 w3 X bp (n+1) done):=hm;clear hcase hk3 hm))
   all_goals
    go_wp2_with fail
    go_meet
    case rel=>exact⟨done,rfl,HM3.out⟩
  |false=>
   clear hbE
   have HBL:Hid (∀v∈vs,v.body.length≤300):=fun v hv=>HGD.out.body v (HST1.out.hold.sub v hv)
   have hwt1:=HST1.out.wt
   by_cases hw:lost+weight vs<470
   ·have hwd:((lost+weight vs:Nat):Int)<470:=by omega
    have HPK:Hid (∀W,Calls Tryz.prog 21 #[.int .i64 o.key,.int .i64 12] W fun e w'=>e=.returned (.int .i64 (xU o.key 12:Int))∧w'=W):=fun W=>vp W o.key 12 HO2.out.key (by omega) (by omega)
    have hpk:xU o.key 12<12:=by have:=gF o.key 12 (by omega);omega
    generalize xU o.key 12=r at*
    obtain⟨ky,hky,hkb1,hks⟩:=Y8 r hpk
    have hrI:(r:Int)<12:=by omega
    have hrI0:(0:Int)≤(r:Int):=by omega
    have HKY:Hid (zu ky.data.toList=true):=hkb1
    have hck:w2.cell? ⟨kb,r,none⟩=some (.string ky):=(cell_of_row w2 _ r _ _ _ HB2.out).trans hky
    have hbl:w2.cell? ⟨box,2,none⟩=some (.slice o.la o.l.length o.lc):=(cell_of_row w2 box 2 _ _ _ HBX.out).trans rfl
    have hkbl:kb<w2.heap.size:=(lT HB2.out)
    have hbxl:box<w2.heap.size:=(lT HBX.out)
    have hrd1:=HST1.out.reads
    have hn01:=HST1.out.n0
    have hol:=HO2.out.len
    have hoc:=HO2.out.cap
    clear hky hkb1
    generalize hWW:lost+weight vs=WW at*
    go_wp2_with (go_at_call 32;refine(uK HSH.out HBL.out (by omega) (by omega)).mono ?_;rintro e w9 ⟨rfl,hw9⟩;rw [hw9];clear hw9 w9)
    go_region_held3 (fun w'=>w'.cell? ⟨box,0,none⟩=some (.int .i64 o.key)∧w'.cell? ⟨box,2,none⟩=some (.slice o.la o.l.length o.lc)∧w'.cell? ⟨kb,r,none⟩=some (.string ky)) (go_keep) (first
     |(go_at_call 21;refine(HPK.out _).mono ?_;rintro e w9 ⟨rfl,rfl⟩)
     |(go_at_call 15;refine(Jg AP (HSH.out.kept (Kept.drew (fun _=>False) w2) nF) (zR.kept HF.out (Kept.drew (fun _=>False) w2) nF (fun hf=>hf)) hz1 HST1.out.hold (by omega) (by omega) (by omega) (by omega) ky HKY.out hks Q HQ.out o.la o.lc o.l (HO2.out.l.kept (Kept.drew (fun _=>False) w2) nF) hol hoc).mono ?_;rintro e w3 ⟨S3,D3,hk3,hr3,hz3,hcase⟩;obtain⟨done,rfl,hm⟩:=Made.puts HST1.out HGD.out (by omega) (by omega) ky o.l (yC hk3) hr3 hz3 hcase;have HM3:Hid (Made M w2 w3 X bp (n+1) done):=hm;have hbk3:w3.cell? ⟨box,0,none⟩=some (.int .i64 o.key):=(hm.kept.cell (a:=⟨box,0,none⟩) hbxl HNX.out).trans hbk;have hbl3:w3.cell? ⟨box,2,none⟩=some (.slice o.la o.l.length o.lc):=(hm.kept.cell (a:=⟨box,2,none⟩) hbxl HNX.out).trans hbl;have hck3:w3.cell? ⟨kb,r,none⟩=some (.string ky):=(hm.kept.cell (a:=⟨kb,r,none⟩) hkbl HNK.out).trans hck;clear hcase hk3 hm))
    go_wp2_with fail
    go_meet
    case rel=>exact⟨done,rfl,HM3.out⟩
   ·have hwd:decide (((lost+weight vs:Nat):Int)<470)=false:=decide_eq_false (by omega)
    go_wp2_with (go_at_call 32;refine(uK HSH.out HBL.out (by omega) (by omega)).mono ?_;rintro e w9 ⟨rfl,hw9⟩;rw [hw9];clear hw9 w9)
    go_meet
    case rel=>exact⟨true,rfl,Made.live HSH.out HF.out HST1.out.later (by omega) (Kept.refl _ _) (fun k hk=>.inl hk)⟩
 case rest=>
 obtain⟨done,rfl,hmade⟩:=hcut
 obtain⟨⟨X2,bd2,bs2,S2,D2,vs2,last2,gone2,lost2,a2,cap2,cs2,G2,hsh,hd2,hcd,hfv,hwt2,hz2,hx2,hdone⟩,hkm⟩:=hmade
 obtain⟨_,_,_,_,_,_,hc62,_⟩:=qk hsh.head
 have hbw2:wc.cell? ⟨box,1,none⟩=some (.int .i64 o.what):=(hkm.cell (a:=⟨box,1,none⟩) (lT HBX.out) HNX.out).trans hbw
 have HBX2:Hid (wc.heap[box]? =some (.cells #[.int .i64 o.key,.int .i64 o.what,.slice o.la o.l.length o.lc,.int .i64 o.fuse,.slice o.ka o.ks.length o.kc] 41 (0,0))):=(hkm.block box (lT HBX.out) HNX.out).trans HBX.out
 have HSH2:Hid (zG wc X2 bp bd2 bs2 S2 vs2 last2 gone2 lost2 a2 cap2 cs2 G2):=hsh
 have HD2:Hid (zh wc bd2 S2 D2):=hd2
 have HCD:Hid (M.Could D2 (fun U=>vt U vs2 last2 gone2 lost2∧U.n0≤((n+1:Nat):Int))):=hcd
 have HFV:Hid (∀v∈vs2,jL v):=hfv
 have HX2:Hid (∀k,X2 k→X k∨w2.heap.size≤k):=hx2
 have HKM:Hid (Kept X w2 wc):=hkm
 have HDN:Hid (done=true→∃V,gone2= -1∧zR M wc bd2 bs2 S2 D2 V∧yd V D2 vs2 last2 lost2 (n+1)):=hdone
 have HXW:Hid (Kept X w wc):=((HK0.out.mono fE).trans HK2.out (fun k hk=>.inl hk)).trans hkm (fun k hk=>.inl hk)
 have hx2w:∀k,X2 k→X k∨w.heap.size≤k:=fun k hk=>(hx2 k hk).imp id (fun h=>by omega)
 have HX2W:Hid (∀k,X2 k→X k∨w.heap.size≤k):=hx2w
 clear hsh hd2 hcd hfv hx2 hkm hdone hx2w HSH HF HST1 HS2 HB2 hc0 hc1 hc2 hc3 hc4 hc5 hc6 hfz
 go_upto_region 9 with fail
 go_cut [69] (fun s69 wd=>s69=.bool (!done||(o.what.tmod 7==0))∧wc=wd)
 case first=>
  cases done with
  |false=>
   go_wp2_with fail
   go_meet
   case rel=>exact⟨by simp,rfl⟩
  |true=>
   go_wp2_with fail
   go_meet
   case rel=>exact⟨by simp,rfl⟩
 case rest=>
 obtain⟨rfl,rfl⟩:=hcut
 generalize hbR:(!done||(o.what.tmod 7==0))=bR at*
 cases bR with
 |false=>
  have hdt:done=true:=by cases done<;>simp at hbR ⊢
  clear hbR
  go_wp2_with fail
  go_end0
  obtain⟨V2,rfl,hF,hst⟩:=HDN.out hdt
  exact⟨rfl,X2,D2,V2,vs2,last2,lost2,⟨_,_,_,_,_,_,_,HSH2.out,hF⟩,hst,HXW.out,HX2W.out⟩
 |true=>
  clear hbR
  have hbks:wc.cell? ⟨box,4,none⟩=some (.slice o.ka o.ks.length o.kc):=(cell_of_row wc box 4 _ _ _ HBX2.out).trans rfl
  have HBO:Hid (dn wc (fun k=>Q k∧k<w2.heap.size) o.ka o.ks):=fun j hj=>by
   obtain⟨b,x,h1,h2,h3,h4⟩:=HO2.out.ks j hj
   exact⟨b,x,h1,⟨h2,h3⟩,Nat.lt_of_lt_of_le h3 HKM.out.size,(HKM.out.cell (a:=⟨b,x+j,none⟩) h3 (HQ.out b h2)).trans h4⟩
  have HBQ:Hid (∀k,Q k∧k<w2.heap.size→¬X2 k):=fun k hk hX=>(HX2.out k hX).elim (HQ.out k hk.1) (fun h=>by have:=hk.2;omega)
  have hkl:=HO2.out.klen
  have hlw:=kO vs2
  go_wp2_with fail
  refine(dq AO hT HSH2.out HD2.out _ (by omega) HCD.out hz2 _ o.ka o.kc o.ks HBO.out HBQ.out hkl).mono ?_
  rintro e w5 ⟨rfl,X5,D5,V5,hs5,hg5,hn5,hr5,hz5,hk5,hx5⟩
  obtain⟨hbp5,hc65,hf65⟩:=hs5.ok
  have HS5:Hid (qh M w5 X5 bp D5 V5 vs2 last2 gone2 lost2):=hs5
  have HG5:Hid (vt V5 vs2 last2 gone2 lost2):=hg5
  have HK5:Hid (Kept X w w5):=HXW.out.trans hk5 HX2W.out
  have hsz5:=hk5.size
  have HX5:Hid (∀k,X5 k→X k∨w.heap.size≤k):=fun k hk=>(hx5 k hk).elim (HX2W.out k) (fun h=>.inr (by have:=HXW.out.size;omega))
  clear hs5 hg5 hk5 hx5
  go_wp2_with fail
  refine(gI AA HS5.out HFV.out HG5.out (by omega) (by omega)).mono ?_
  rintro e w6 ⟨rfl,X6,D6,hs6,hr6,hz6,hk6,hx6⟩
  obtain⟨hbp6,hc66,hf66⟩:=hs6.ok
  have HS6:Hid (qh M w6 X6 bp D6 V5 vs2 last2 gone2 lost2):=hs6
  have HK6:Hid (Kept X w w6):=HK5.out.trans hk6 HX5.out
  have HX6:Hid (∀k,X6 k→X k∨w.heap.size≤k):=fun k hk=>(hx6 k hk).elim (HX5.out k) (fun h=>.inr (by have:=HK5.out.size;omega))
  clear hs6 hk6 hx6
  go_wp2_with fail
  have hs7:=HS6.out.again
  generalize w6.setCell ⟨bp,6,none⟩ (.bool true)=w7 at*
  have HS7:Hid (qh M w7 X6 bp D6 V5 vs2 last2 gone2 lost2):=hs7.1
  have HK7:Hid (Kept X w w7):=HK6.out.trans hs7.2 HX6.out
  clear hs7
  refine(bz AA HS7.out HFV.out HG5.out (by omega) (by omega)).mono ?_
  rintro e w8 ⟨rfl,X8,D8,vs8,hs8,hh8,hw8,hr8,hz8,hk8,hx8⟩
  have HS8:Hid (qh M w8 X8 bp D8 V5 vs8 last2 (-1) lost2):=hs8
  have HH8:Hid (yk V5 vs8 last2 lost2):=hh8
  have HK8:Hid (Kept X w w8):=HK7.out.trans hk8 HX6.out
  have HX8:Hid (∀k,X8 k→X k∨w.heap.size≤k):=fun k hk=>(hx8 k hk).elim (HX6.out k) (fun h=>.inr (by have:=HK7.out.size;omega))
  clear hs8 hh8 hk8 hx8
  go_wp2_with fail
  go_end0
  exact⟨rfl,X8,D8,V5,vs8,last2,lost2,HS8.out,⟨HH8.out,by omega,hn5,by push_cast;omega,by omega⟩,HK8.out,HX8.out⟩
end
section
variable {M N:zc} {w w':World} {X:Nat→Prop} {bp n:Nat} {D:Dk} {V U:qe} {vs:List qa} {last:Int} {lost:Nat}
theorem vt.hold(h:vt U vs last (-1) lost):yk U vs last lost:=by
 rcases h with⟨_,h⟩|⟨i,e,_⟩
 ·exact h
 ·omega
theorem gK(A:qv N)(hT:Vr M N)(h:qh M w X bp D V vs last (-1) lost)(hs:yd V D vs last lost n)(hn:n≤1000000000000000):
 Calls Tryz.prog 16 #[.pointer (some ⟨bp,0,none⟩),.slice none 0 0] w fun e w'=>e=.returned (.tuple #[])∧∃X' D' V',qh M w' X' bp D' V' vs last (-1) lost∧yk V' vs last lost∧V'.n0≤(n:Int)∧D'.reads≤2000∧D'.bs.length=1000∧Kept X w w'∧∀k,X' k→X k∨w.heap.size≤k:=by
 obtain⟨bd,bs,S,a,cap,cs,G,h,F⟩:=h
 refine(dq A hT h F.disk n (by omega) (jy F.live.could (fun U hU=>by rw [hU];exact⟨.inl ⟨rfl,hs.hold⟩,hs.n0⟩)) hs.size (fun _=>False) none 0 [] (fun j hj=>by simp at hj) fE (by simp)).mono ?_
 rintro e w' ⟨rfl,X',D',V',h1,h2,h3,h4,h5,h6,h7⟩
 exact⟨rfl,X',D',V',h1,h2.hold,h3,h4,h5,h6,h7⟩
theorem gL(A:xm M)(h:qh M w X bp D V vs last (-1) lost)(hh:yk V vs last lost)(hn:V.n0≤1000000000000000000)(hr:D.reads≤1000000000000000000)(hl:vs.length≤6000):
 Calls Tryz.prog 17 #[.pointer (some ⟨bp,0,none⟩)] w fun e w'=>e=.returned (.bool true)∧∃X' D',qh M w' X' bp D' V vs last (-1) lost∧D'.reads≤D.reads+40*(vs.length:Int)∧D'.bs.length=D.bs.length∧Kept X w w'∧∀k,X' k→X k∨w.heap.size≤k:=
 gI A h (by
  obtain⟨_,_,_,_,_,_,_,_,F⟩:=h
  exact hh.fine F.live.good hn) (.inl ⟨rfl,hh⟩) hr hl
def kC:List UInt8:=[111,110,101]
def yH:ByteArray:=⟨#[102,105,114,115,116]⟩
theorem Qy:zu yH.data.toList=true:=by decide
structure kE (w wr:World) (X:Nat→Prop):Prop where
 x:∀k,X k→w.heap.size≤k
 kept:Kept (fun k=>w.heap.size≤k) w wr
theorem kE.on{X':Nat→Prop}{wr w':World}(h:kE w wr X)(k:Kept X wr w')(hx:∀k,X' k→X k∨wr.heap.size≤k):kE w w' X':=
 ⟨fun i hi=>(hx i hi).elim (h.x i) (fun g=>Nat.le_trans h.kept.size g),h.kept.trans k (fun i hi=>.inl (h.x i hi))⟩
theorem kE.end{wr:World}(h:kE w wr X):Kept (fun _=>False) w wr:=⟨h.kept.os,h.kept.tape,h.kept.output,h.kept.size,fun k hk _=>h.kept.block k hk (by omega)⟩
set_option maxRecDepth 60000 in
theorem Jh(AO:qv N)(AQ:yj N)(AP:yj M)(AE:ym M)(AA:xm M)(hT:Vr M N)(w:World)(Q:Nat→Prop)(hQ:∀k,Q k→k<w.heap.size)(a:Option Addr)(cap:Nat)(ods:List cG)(h:KX w Q a ods)(hlen:ods.length≤2000000000000):
 Calls Tryz.prog 8 #[.slice a ods.length cap] w fun e w'=>e=.returned (.bool true)∧Kept (fun _=>False) w w':=by
 have HC:Hid (KX w Q a ods):=h
 have HQ:Hid (∀k,Q k→k<w.heap.size):=hQ
 clear h hQ
 go_enter Tryz.func8,Tryz.ntmps8
 go_wp2_with fail
 refine(cF N AO hT.none _).mono ?_
 rintro e w1 ⟨X1,bp,bd,bs,S,D,rfl,hs,hk1,hx1,hr1⟩
 have HS1:Hid (xd N w1 X1 bp bd bs S D ⟨[],0⟩ none 0 [] (fun _=>False)):=hs
 have HO1:Hid (kE w w1 X1):=⟨hx1,hk1.mono fE⟩
 obtain⟨_,_,_,_,_,hc6,_⟩:=hs.c
 have hNX:¬X1 w1.heap.size:=fun hX=>by have:=hs.xlt _ hX;omega
 have HNX:Hid (¬X1 w1.heap.size):=hNX
 have hw1:=hk1.size
 clear hs hk1 hx1 hNX
 have kc:=fun (w:World) (C:Array Value) (n c:Nat)=>Lib.run_convert_bytes_const (P:=Tryz.prog) w 35 5 C n c Tryz.underlying35 Tryz.underlying5
 go_wp2_with fail
 clear kc
 have hb2:=heap_alloc_new w1 (.cells #[.int .u8 111,.int .u8 110,.int .u8 101] 5 (3,4))
 have hk2:Kept (fun _=>False) w1 (w1.alloc (.cells #[.int .u8 111,.int .u8 110,.int .u8 101] 5 (3,4))):=Kept.alloc _ _ _
 generalize w1.alloc (.cells #[.int .u8 111,.int .u8 110,.int .u8 101] 5 (3,4))=w2 at*
 have hlt2:w1.heap.size<w2.heap.size:=(lT hb2)
 have HBY:Hid (zv w2 (fun k=>k=w1.heap.size) (some ⟨w1.heap.size,0,none⟩) kC):=.inr ⟨w1.heap.size,0,rfl,rfl,hlt2,fun j hj=>by
  rw [cell_of_row w2 _ _ _ _ _ hb2]
  have hj':j<3:=hj
  have:j=0∨j=1∨j=2:=by omega
  rcases this with rfl|rfl|rfl<;>rfl⟩
 have HPUT:Hid (Calls Tryz.prog 15 #[.pointer (some ⟨bp,0,none⟩),.string ⟨#[102,105,114,115,116]⟩,.slice (some ⟨w1.heap.size,0,none⟩) 3 3] w2 fun e w'=>e=.returned (.bool true)∧∃S' D' a' cap' cs' G',xd N w' (fun k=>X1 k∨(w2.heap.size≤k∧k<w'.heap.size)) bp bd bs S' D' ((⟨[],0⟩:qe).add yH false (kC.take 300)) a' cap' cs' G'∧D'.reads≤D.reads+40∧Kept X1 w2 w'):=
  Yu AQ hT.none (HS1.out.kept hk2 nF) (by show (0:Nat)<470;omega) (by show (0:Int)≤_;omega) (by omega) yH Qy (by decide) (fun k=>k=w1.heap.size) (fun k hk=>by rw [show k=w1.heap.size from hk];exact HNX.out) (some ⟨w1.heap.size,0,none⟩) 3 kC HBY.out (by decide) (by decide)
 have HO2:Hid (kE w w2 X1):=HO1.out.on (hk2.mono fE) (fun k hk=>.inl hk)
 clear hb2 hk2
 refine HPUT.out.mono ?_
 rintro e w3 ⟨rfl,S3,D3,a3,c3,cs3,G3,hs3,hr3,hk3⟩
 have HO3:Hid (kE w w3 (fun k=>X1 k∨(w2.heap.size≤k∧k<w3.heap.size))):=HO2.out.on hk3 (fun k hk=>hk.imp id (fun h=>h.1))
 have hSI3:qh M w3 (fun k=>X1 k∨(w2.heap.size≤k∧k<w3.heap.size)) bp D3 ((⟨[],0⟩:qe).add yH false (kC.take 300)) ([]++[⟨yH,0+1,false,kC.take 300⟩]) (0+1) (-1) 0:=⟨_,_,_,_,_,_,_,hs3.gen,hT.fore _ _ _ _ _ _ hs3.fore⟩
 have HS3:Hid (qh M w3 (fun k=>X1 k∨(w2.heap.size≤k∧k<w3.heap.size)) bp D3 ((⟨[],0⟩:qe).add yH false (kC.take 300)) ([]++[⟨yH,0+1,false,kC.take 300⟩]) (0+1) (-1) 0):=hSI3
 have hH3:yk ((⟨[],0⟩:qe).add yH false (kC.take 300)) ([]++[⟨yH,0+1,false,kC.take 300⟩]) (0+1) 0:=(yk.none 0 (Int.le_refl _)).put HS1.out.fore.live.good yH (kC.take 300)
 have HT3:Hid (yd ((⟨[],0⟩:qe).add yH false (kC.take 300)) D3 ([]++[⟨yH,0+1,false,kC.take 300⟩]) (0+1) 0 1):=⟨hH3,by decide,by show (0:Int)+1≤_;omega,by push_cast;omega,hs3.size⟩
 have hvl:([]++[(⟨yH,0+1,false,kC.take 300⟩:qa)]).length=1:=rfl
 have hvw:weight ([]++[(⟨yH,0+1,false,kC.take 300⟩:qa)])=2:=by decide
 clear hs3 hk3 hSI3 hH3 HPUT HBY HS1
 generalize ([]++[(⟨yH,0+1,false,kC.take 300⟩:qa)])=vs1 at*
 generalize ((⟨[],0⟩:qe).add yH false (kC.take 300))=V3 at*
 go_wp2_with fail
 refine(gK AO hT HS3.out HT3.out (by omega)).mono ?_
 rintro e w4 ⟨rfl,X4,D4,V4,hs4,hh4,hn4,hr4,hz4,hk4,hx4⟩
 obtain⟨hbp4,hc64,hf64⟩:=hs4.ok
 have HS4:Hid (qh M w4 X4 bp D4 V4 vs1 (0+1) (-1) 0):=hs4
 have HH4:Hid (yk V4 vs1 (0+1) 0):=hh4
 have HO4:Hid (kE w w4 X4):=HO3.out.on hk4 hx4
 clear hs4 hh4 hk4 hx4
 go_wp2_with fail
 refine(gL AA HS4.out HH4.out (by omega) (by omega) (by omega)).mono ?_
 rintro e w5 ⟨rfl,X5,D5,hs5,hr5,hz5,hk5,hx5⟩
 obtain⟨hbp5,hc65,hf65⟩:=hs5.ok
 have HS5:Hid (qh M w5 X5 bp D5 V4 vs1 (0+1) (-1) 0):=hs5
 have HO5:Hid (kE w w5 X5):=HO4.out.on hk5 hx5
 clear hs5 hk5 hx5
 go_wp2_with fail
 have hs6:=HS5.out.again
 generalize w5.setCell ⟨bp,6,none⟩ (.bool true)=w6 at*
 have HS6:Hid (qh M w6 X5 bp D5 V4 vs1 (0+1) (-1) 0):=hs6.1
 have HO6:Hid (kE w w6 X5):=HO5.out.on hs6.2 (fun k hk=>.inl hk)
 have HT6:Hid (yd V4 D5 vs1 (0+1) 0 1):=⟨HH4.out,by omega,by omega,by omega,by omega⟩
 clear hs6
 go_loopw [5] (fun t wr=>∃i:Nat,i≤ods.length∧t=.int .i64 i∧∃X D V vs last lost,qh M wr X bp D V vs last (-1) lost∧yd V D vs last lost (i+1)∧kE w wr X) (fun t _=>ods.length-(intOf t).toNat)
 case atStart=>exact⟨0,Nat.zero_le _,rfl,X5,D5,V4,vs1,_,0,HS6.out,HT6.out,HO6.out⟩
 case round=>
  obtain⟨i,hi,rfl,X,D,V,vs,last,lost,hsr,htr,hor⟩:=hrel
  obtain⟨hbpr,hc6r,hf6r⟩:=hsr.ok
  have HSR:Hid (qh M wr X bp D V vs last (-1) lost):=hsr
  have HTR:Hid (yd V D vs last lost (i+1)):=htr
  have HOR:Hid (kE w wr X):=hor
  clear hsr htr hor
  by_cases hlt:i<ods.length
  ·have hiI:(i:Int)<(ods.length:Int):=by omega
   obtain⟨b,o,rfl,hQb,hbl,hrg⟩:=HC.out.each i hlt
   have hQb':=HQ.out b hQb
   have c0:wr.cell? ⟨b,o+i*5,none⟩=some (.int .i64 ods[i].key):=(HOR.out.kept.cell (a:=⟨b,o+i*5,none⟩) hbl (by show ¬w.heap.size≤b;omega)).trans (hrg 0 _ rfl)
   have c1:wr.cell? ⟨b,o+i*5+1,none⟩=some (.int .i64 ods[i].what):=(HOR.out.kept.cell (a:=⟨b,o+i*5+1,none⟩) hbl (by show ¬w.heap.size≤b;omega)).trans (hrg 1 _ rfl)
   have c2:wr.cell? ⟨b,o+i*5+2,none⟩=some (.slice ods[i].la ods[i].l.length ods[i].lc):=(HOR.out.kept.cell (a:=⟨b,o+i*5+2,none⟩) hbl (by show ¬w.heap.size≤b;omega)).trans (hrg 2 _ rfl)
   have c3:wr.cell? ⟨b,o+i*5+3,none⟩=some (.int .i64 ods[i].fuse):=(HOR.out.kept.cell (a:=⟨b,o+i*5+3,none⟩) hbl (by show ¬w.heap.size≤b;omega)).trans (hrg 3 _ rfl)
   have c4:wr.cell? ⟨b,o+i*5+4,none⟩=some (.slice ods[i].ka ods[i].ks.length ods[i].kc):=(HOR.out.kept.cell (a:=⟨b,o+i*5+4,none⟩) hbl (by show ¬w.heap.size≤b;omega)).trans (hrg 4 _ rfl)
   have HOK:Hid (ods[i].Ok wr Q):=(HC.out.ok i hlt).kept HOR.out.kept (fun k hk hc=>by have:=HQ.out k hk;omega)
   clear hrg
   generalize ods[i]=od at*
   go_wp2_with fail
   refine(Qx AO AP AE AA hT HSR.out HTR.out (by omega) od Q HOK.out (fun k hk hX=>by have:=HQ.out k hk;have:=HOR.out.x k hX;omega)).mono ?_
   rintro e w7 ⟨rfl,X7,D7,V7,vs7,last7,lost7,hs7,ht7,hk7,hx7⟩
   have HS7:Hid (qh M w7 X7 bp D7 V7 vs7 last7 (-1) lost7):=hs7
   have HT7:Hid (yd V7 D7 vs7 last7 lost7 (i+1+1)):=ht7
   have HO7:Hid (kE w w7 X7):=HOR.out.on hk7 hx7
   clear hs7 ht7 hk7 hx7
   go_wp2
   go_roundw
   case rel=>exact⟨i+1,by omega,by go_num,X7,D7,V7,vs7,last7,lost7,HS7.out,HT7.out,HO7.out⟩
   case measure=>simp [intOf];omega
  ·have hiI:decide ((i:Int)<(ods.length:Int))=false:=decide_eq_false (by omega)
   go_wp2_with fail
   refine(gK AO hT HSR.out HTR.out (by omega)).mono ?_
   rintro e w8 ⟨rfl,X8,D8,V8,hs8,hh8,hn8,hr8,hz8,hk8,hx8⟩
   obtain⟨hbp8,hc68,hf68⟩:=hs8.ok
   have HS8:Hid (qh M w8 X8 bp D8 V8 vs last (-1) lost):=hs8
   have HH8:Hid (yk V8 vs last lost):=hh8
   have HO8:Hid (kE w w8 X8):=HOR.out.on hk8 hx8
   have hvl8:=HTR.out.few
   clear hs8 hh8 hk8 hx8
   go_wp2_with fail
   refine(gL AA HS8.out HH8.out (by omega) (by omega) (by omega)).mono ?_
   rintro e w9 ⟨rfl,X9,D9,hs9,hr9,hz9,hk9,hx9⟩
   have HO9:Hid (kE w w9 X9):=HO8.out.on hk9 hx9
   clear hs9 hk9 hx9
   go_wp2
   go_ret
   exact⟨rfl,HO9.out.end⟩
end
end keep
namespace law
end law
end Go.Proofs.YtcoengihaobddaaGreatDoor
