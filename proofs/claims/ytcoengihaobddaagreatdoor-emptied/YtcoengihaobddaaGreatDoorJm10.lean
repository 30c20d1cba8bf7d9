/- Part 10 of 31 of a proof: Keep12, Keep13, Keep17, Law8 -/
import Derived.Test.YtcoengihaobddaaGreatDoorJm09
set_option maxHeartbeats 8000000
set_option linter.unusedVariables false
set_option linter.unusedSimpArgs false
set_option maxRecDepth 8000
namespace Go.Proofs.YtcoengihaobddaaGreatDoor
open Go.ChangeShapes Go.WideShapes Go.ChangeAt Go.RowKit disk ref book
open keys (zj zd zA zq zs)
namespace keep
open law (qH zg yE yG yM qG y9 KZ Chg K7)
theorem wpList_append_own{P:Program}{ops:Array Oper}{rest:List Oper}{o:Oper}{a:Act}{w:World}{Q:Exit→Act→World→Prop}(hgd:o.guard=none)(s x:Operand)(t:TypeId)
 (ho:o.op=.call {callee:=.builtin .append,args:=#[s,x],argTypes:=#[t,t] })
 (e:TypeId) (i:TypeInfo) (z:Value) (size bytes:Nat) (ht:P.underlying t=some (.slice e)) (hi:P.info? e=some i) (hz:i.zero=some z)
 (hsize:i.size=size) (hby:i.bytes=bytes) (hzs:z.cells.size=size) (hsz:0<size) (v:Value) (n:Nat) (xs:List Value) (hs:a.eval s=v) (hown:w.ownsRow 0 e size v n xs)
 (ad:Addr) (m c:Nat) (news:List Value) (hx:a.eval x=.slice (some ad) m c) (hl:news.length=m*size) (hnews:∀j u,news[j]? =some u→w.cell? (ad.add j)=some u) (h1:∀u∈news,u.oneCell'=true)
 (h63:n+m≤maxLen) (hbytes:(n+m)*bytes≤140737488355328)
 (h:∀a' c' w',w'.ownsRow 0 e size (.slice a' (n+m) c') (n+m) (xs++news)→w.grownBy w' v.ownBlock→((Value.slice a' (n+m) c').ownBlock=v.ownBlock∨(Value.slice a' (n+m) c').ownBlock=some w.heap.size)→wpList P ops Q rest (a.put o.dst (.slice a' (n+m) c')) w'):wpList P ops Q (o::rest) a w:=by
 refine wpList_plain hgd fun K hK=>?_
 obtain⟨v',w',hr,h2,h3,_,h5⟩:=run_append_own_at (P:=P) w 0 t o.type e i z size bytes ht hi hz hsize hby hzs hsz v n xs hown ad m c news hl hnews h1 h63 hbytes (Nat.zero_le _)
 obtain⟨a',c',rfl⟩:∃a' c',v'=.slice a' (n+m) c':=by
  rcases h2.2 with⟨e1,e2⟩|⟨g',cap',cur',e1,_⟩
  ·exact⟨none,0,by rw [e1,e2]⟩
  ·exact⟨_,cap',e1⟩
 unfold Oper.wp execOp
 simp only [ho,resolve,invoke,builtin,Sem.run_bind,Sem.run_pure,Result.andThen_ok,List.map_toArray,List.map_cons,List.map_nil,hs,hx,hr]
 exact hK _ _ (h a' c' w' h2 h3 h5)
def cut{α:Type}(l:List α)(i:Nat):List α:=l.take i++l.drop (i+1)
theorem j9{α:Type}(l:List α)(i:Nat)(h:i<l.length):(cut l i).length+1=l.length:=by unfold cut;simp;omega
theorem uL:∀(vs:List zO) (i:Nat) (h:i<vs.length),kH vs→jZ vs vs[i].key vs[i].num=cut vs i
 |u::vs,0,_,ha=>by
  unfold kH at ha
  rw [List.pairwise_cons] at ha
  unfold jZ cut
  simp only [List.getElem_cons_zero,List.take_zero,List.nil_append,Nat.zero_add,List.drop_succ_cons,List.drop_zero]
  rw [List.filter_cons,if_neg (by simp)]
  refine List.filter_eq_self.2 (fun v hv=>?_)
  have:=ha.1 v hv
  have hne:¬(v.key=u.key∧v.num=u.num):=fun hc=>this ⟨hc.1.symm,hc.2.symm⟩
  rw [Bool.not_eq_true',Bool.eq_false_iff];simp only [ne_eq,Bool.and_eq_true,decide_eq_true_eq];exact hne
 |u::vs,i+1,h,ha=>by
  unfold kH at ha
  rw [List.pairwise_cons] at ha
  have hi:i<vs.length:=by simpa using h
  have ih:=uL vs i hi ha.2
  have hne:¬(u.key=vs[i].key∧u.num=vs[i].num):=ha.1 _ (List.getElem_mem hi)
  unfold jZ cut at ih ⊢
  simp only [List.getElem_cons_succ,List.take_succ_cons,List.drop_succ_cons,List.cons_append]
  rw [List.filter_cons,if_pos (by rw [Bool.not_eq_true',Bool.eq_false_iff];simp only [ne_eq,Bool.and_eq_true,decide_eq_true_eq];exact hne),ih]
theorem Yc{α:Type}(l:List α)(i j:Nat)(h:j<(cut l i).length)(hi:i<l.length):∃k,∃hk:k<l.length,(cut l i)[j]=l[k]∧k=if j<i then j else j+1:=by
 have hl:=j9 l i hi
 unfold cut at h ⊢
 by_cases hj:j<i
 ·refine⟨j,by omega,?_,by rw [if_pos hj]⟩
  rw [List.getElem_append_left (by simp;omega),List.getElem_take]
 ·have h2:j+1<l.length:=by simp at h;omega
  refine⟨j+1,h2,?_,by rw [if_neg hj]⟩
  rw [List.getElem_append_right (by simp;omega),List.getElem_drop]
  congr 1
  simp;omega
theorem Told.cut{w:World}{P:Nat→Prop}{cs:List (List Value)}{vs:List zO}(h:Told w P cs vs)(i:Nat)(hi:i<vs.length):Told w P (cut cs i) (cut vs i):=by
 have hl:=h.len
 have h1:=j9 cs i (by omega)
 have h2:=j9 vs i hi
 refine⟨by omega,fun j hj hj'=>?_⟩
 obtain⟨k,hk,e1,e2⟩:=Yc cs i j hj (by omega)
 obtain⟨k',hk',e1',e2'⟩:=Yc vs i j hj' hi
 obtain rfl:k=k':=by rw [e2,e2']
 rw [e1,e1']
 exact h.each k hk hk'
theorem xl{cs:List (List Value)}(h:∀c∈cs,c.length=3):cs.flatten.length=cs.length*3:=by
 induction cs with
 |nil=>rfl
 |cons c cs ih=>
  rw [List.flatten_cons,List.length_append,ih (fun d hd=>h d (List.mem_cons_of_mem _ hd)),h c (List.mem_cons_self ..),List.length_cons]
  omega
section
variable {M:zg} {w w2 w':World} {X T:Nat→Prop} {bp bd bs:Nat} {S S2:Nat→Prop} {D D2:Dk} {V V':qH} {a:Option Addr} {cap:Nat} {cs:List (List Value)} {G:Nat→Prop}
theorem qI.erased(h:qI M w X bp bd bs S D V a cap cs G)(k2:za (fun k=>S k∨k=bs) w w2)(hS2:∀k,S2 k→(S k∨w.heap.size≤k)∧k<w2.heap.size)(f2:qG M w2 bd bs S2 D2 V')(hz:D2.bs.length=1000)(i:Nat)(hi:i<V.vs.length)(hv:V'.vs=cut V.vs i)(hn:V'.n0=V.n0)
 (w4:World) (k4:za (fun _=>False) w2 w4) (a4:Option Addr) (c4 n4:Nat) (hn4:n4+1=V.vs.length) (hown:w4.ownsRow 0 85 3 (.slice a4 n4 c4) n4 (cut cs i).flatten) (hat:∀k,(Value.slice a4 n4 c4).ownBlock=some k→w2.heap.size≤k):
 qI M (w4.setCell ⟨bp,2,none⟩ (.slice a4 n4 c4)) (fun k=>X k∨(w.heap.size≤k∧k<(w4.setCell ⟨bp,2,none⟩ (.slice a4 n4 c4)).heap.size)) bp bd bs S2 D2 V' a4 c4 (cut cs i) G∧za X w (w4.setCell ⟨bp,2,none⟩ (.slice a4 n4 c4)):=by
 have hbp:=h.lt
 have hbs:=h.xlt bs h.xb
 have s2:=k2.size
 have s4:=k4.size
 have hl:V'.vs.length=n4:=by have:=j9 V.vs i hi;rw [hv];omega
 have k6:=za.setCell (S:=fun k=>k=bp) w4 ⟨bp,2,none⟩ (.slice a4 n4 c4) rfl
 have k26:za (fun k=>k=bp) w2 (w4.setCell ⟨bp,2,none⟩ (.slice a4 n4 c4)):=(k4.mono fE).trans k6 iL
 have s6:=k6.size
 have hS2n:∀k,k<w.heap.size→¬S k→¬S2 k:=fun k h1 h2 h3=>by rcases (hS2 k h3).1 with h4|h4;exact h2 h4;omega
 have hrow:∀k,(Value.slice a4 V'.vs.length c4).ownBlock=some k→w2.heap.size≤k∧k<w4.heap.size:=fun k hk=>by rw [hl] at hk;exact⟨hat k hk,(hown.lt k hk).2⟩
 refine⟨⟨?_,qG.kept f2 k26 (fun k hk e=>hS2n bp hbp h.pS (by rw [←show k=bp from e];exact hk)) (fun e=>h.pb e.symm),hz,?_,?_,?_,?_,.inl h.xb,.inl h.xp,?_,fun k hk=>.inl (h.xG k hk),hS2n bp hbp h.pS,h.pb,?_,?_⟩,?_⟩
 ·have e:w4.heap[bp]? =_:=(k4.block bp (by omega) (fun hf=>hf)).trans ((k2.block bp hbp (fun hc=>hc.elim h.pS h.pb)).trans h.head)
  rw [heap_setCell_same w4 bp 2 _ _ _ e,hl,hn];rfl
 ·rw [hl]
  exact k6.owns hown (fun k hk e=>by have:=hat k hk;omega)
 ·rw [hv]
  refine((h.told.kept k2 (fun k hk hc=>?_)).kept k26 (fun k hk e=>(h.gS k hk).2.2.1 e)).cut i hi
  have:=h.gS k hk
  exact hc.elim this.1 this.2.1
 ·intro k hk
  rcases hk with hk|⟨_,hk⟩
  ·have:=h.xlt k hk;omega
  ·exact hk
 ·intro k hk
  rcases hS2 k hk with⟨h1|h1,h2⟩
  ·exact .inl (h.xS k h1)
  ·exact .inr ⟨h1,by omega⟩
 ·intro k hk
  have:=hrow k hk
  exact .inr ⟨by omega,by omega⟩
 ·intro k hk
  have:=hrow k hk
  exact⟨fun hs=>by have:=(hS2 k hs).2;omega,by omega,by omega⟩
 ·intro k hk
  have:=h.gS k hk
  have hlt:=h.xlt k (h.xG k hk)
  exact⟨hS2n k hlt this.1,this.2.1,this.2.2.1,fun e=>by have:=hrow k e;omega⟩
 ·refine(k2.mono (fun k hk=>?_)).trans k26 (fun k hk=>.inl (by rw [show k=bp from hk];exact h.xp))
  rcases hk with hk|rfl
  ·exact h.xS k hk
  ·exact h.xb
end
theorem gj{o p:Option Nat}{B C k:Nat}(h:o=p∨o=some B)(hB:C≤B)(hp:∀j,p=some j→C≤j)(hk:o=some k):C≤k:=by
 rcases h with h|h
 ·exact hp k (h.symm.trans hk)
 ·have:=Option.some.inj (h.symm.trans hk);omega
section
variable {M:zg} {w w':World} {X T:Nat→Prop} {bp bd bs:Nat} {S:Nat→Prop} {D:Dk} {V:qH} {a:Option Addr} {cap:Nat} {cs:List (List Value)} {G:Nat→Prop}
theorem qI.bare(h:qI M w X bp bd bs S D V a cap cs G):kK M {w with heap:=#[]} w bp bd bs (Yb bd bs (.slice a V.vs.length cap) V.n0) S D V:=
 ⟨h.fore,h.head,h.pS,h.pb,fun _ _=>Nat.zero_le _,Nat.zero_le _,⟨rfl,rfl,rfl,Nat.zero_le _,fun k hk=>absurd hk (Nat.not_lt_zero k)⟩,h.size⟩
set_option maxRecDepth 60000 in
theorem dn(A:yM M)(hM:∀f,M.Fu f→f≠0)(h:qI M w X bp bd bs S D V a cap cs G)(hrd:D.reads≤1000000000)(hn0:V.n0≤1000000)(hw:weight V.vs≤480)(i:Nat)(hi:i<V.vs.length):
 Calls Tryz.prog 33 #[.pointer (some ⟨bp,0,none⟩),.int .i64 (i:Int)] w fun e w'=>e=.returned (.bool true)∧∃S' D' a' cap' cs' G',qI M w' (fun k=>X k∨(w.heap.size≤k∧k<w'.heap.size)) bp bd bs S' D' ⟨cut V.vs i,V.n0⟩ a' cap' cs' G'∧D'.reads≤D.reads+40∧za X w w':=by
 obtain⟨hc0,hc1,hc2,hc3,hc5,hc6,hfz⟩:=h.c
 obtain⟨g,rfl⟩:=h.rowAt (by omega)
 obtain⟨k0,k1,_⟩:=h.cells i hi
 have HH:Hid (qI M w X bp bd bs S D V (some ⟨g,0,none⟩) cap cs G):=h
 have hg:=h.fore.live.good
 have HSUB:Hid (V.sub V.vs[i].key V.vs[i].num=⟨cut V.vs i,V.n0⟩):=by
  show (⟨jZ V.vs V.vs[i].key V.vs[i].num,V.n0⟩:qH)=_
  rw [uL V.vs i hi hg.apart]
 have HKY:Hid (zs V.vs[i].key.data.toList=true):=hg.key _ (List.getElem_mem hi)
 have hnum:=hg.num _ (List.getElem_mem hi)
 have HNU:Hid (zG V.vs[i].num):=⟨by omega,by omega⟩
 have HFI:Hid (∃v∈V.vs,v.key=V.vs[i].key∧v.num=V.vs[i].num):=⟨_,List.getElem_mem hi,rfl,rfl⟩
 generalize V.vs[i].key=ky at*
 generalize V.vs[i].num=nu at*
 have hiI:(i:Int)<(V.vs.length:Int):=by omega
 have hlw:=yU V.vs
 have hbp:=h.lt
 have hbs:=h.xlt bs h.xb
 have hgr:=h.rS g rfl
 have hgx:=h.xlt g (h.xr g rfl)
 have hcl:=h.told.len
 have hcap:V.vs.length≤cap∧cap≤maxLen:=by
  rcases h.row.2 with⟨h0,h1⟩|⟨g',cap',cur,hv,_,_,h2,h3,_⟩
  ·cases h0
  ·cases hv;exact⟨h2,h3⟩
 have hcap2:cap≤9223372036854775807:=by have:=hcap.2;unfold maxLen at this;omega
 have hcapI:(V.vs.length:Int)≤(cap:Int):=by omega
 have hi1:(i:Int)+1≤(V.vs.length:Int):=by omega
 have hwi:IntKind.i64.wrap ((i:Int)+1)=(i:Int)+1:=IntWalk.i64_in _ (by omega)
 obtain⟨i0,hi0,hz0,hz1,hz2⟩:=yK Tryz.infoKp
 have HI0:Hid (Tryz.prog.info? 85=some i0∧i0.zero=some (.agg #[.string ⟨#[]⟩,.int .i64 0,.slice none 0 0])∧i0.size=3∧i0.bytes=48):=⟨hi0,hz0,hz1,hz2⟩
 have HONE:=h.told.one
 have HTH:=h.told.three
 have H3:Hid (∀c∈cs,c.length=3):=HTH
 have H1:Hid (∀u∈cs.flatten,u.oneCell'=true):=HONE
 clear h hg hi0 hz0 hz1 hz2 hc0 hc3 hc5 hc6 hfz HONE HTH hnum
 go_enter Tryz.func33,Tryz.ntmps33
 go_wp2_with fail
 go_region_held3 (fun w'=>w'.cell? ⟨bp,1,none⟩=some (.pointer (some ⟨bs,0,none⟩))∧w'.cell? ⟨bp,2,none⟩=some (.slice (some ⟨g,0,none⟩) V.vs.length cap)∧w'.cell? ⟨g,i*3,none⟩=some (.string ky)∧w'.cell? ⟨g,i*3+1,none⟩=some (.int .i64 nu)) (go_keep) ((go_at_call 31;refine(Kk A hM (HH.out.bare.keep (za.drew (fun _=>False) w)) (by omega) hn0 hw ky HKY.out nu HNU.out HFI.out).mono ?_;rw [HSUB.out];rintro e w2 ⟨S2,D2,rfl,ha2,hs2,hr2⟩;have HA2:Hid (za (fun k=>S k∨k=bs) w w2):=⟨ha2.kept.os,ha2.kept.tape,ha2.kept.output,ha2.kept.size,ha2.kept.block⟩;have HF2:Hid (qG M w2 bd bs S2 D2 ⟨cut V.vs i,V.n0⟩):=hs2.fore;have HZ2:Hid (D2.bs.length=1000):=hs2.size;have HS2:Hid (∀k,S2 k→(S k∨w.heap.size≤k)∧k<w2.heap.size):=(fun k hk=>⟨ha2.foot k hk,ha2.disk.lt k hk⟩);have hh2:w2.heap[bp]? =_:=(HA2.out.block bp hbp (fun hc=>hc.elim HH.out.pS HH.out.pb)).trans HH.out.head;have HH2:Hid (w2.heap[bp]? =some (.cells #[.pointer (some ⟨bd,0,none⟩),.pointer (some ⟨bs,0,none⟩),.slice (some ⟨g,0,none⟩) V.vs.length cap,.int .i64 V.n0,.int .i64 (-1),.int .i64 0,.bool true] 33 (0,0))):=hh2;have hc12:w2.cell? ⟨bp,1,none⟩=some (.pointer (some ⟨bs,0,none⟩)):=(cell_of_row w2 bp 1 _ _ _ hh2).trans rfl;have hc22:w2.cell? ⟨bp,2,none⟩=some (.slice (some ⟨g,0,none⟩) V.vs.length cap):=(cell_of_row w2 bp 2 _ _ _ hh2).trans rfl;have k02:w2.cell? ⟨g,i*3,none⟩=some (.string ky):=(HA2.out.cell (a:=⟨g,i*3,none⟩) hgx (fun hc=>hc.elim hgr.1 hgr.2.1)).trans k0;have k12:w2.cell? ⟨g,i*3+1,none⟩=some (.int .i64 nu):=(HA2.out.cell (a:=⟨g,i*3+1,none⟩) hgx (fun hc=>hc.elim hgr.1 hgr.2.1)).trans k1;clear ha2 hs2 hh2))
 have HR2:Hid (w2.ownsRow 0 85 3 (.slice (some ⟨g,0,none⟩) V.vs.length cap) V.vs.length cs.flatten):=HA2.out.owns HH.out.row (fun k hk hc=>by have:=HH.out.rS k hk;exact hc.elim this.1 this.2.1)
 have hs2:=HA2.out.size
 have htk:(cs.take i).length=i:=by rw [List.length_take];omega
 have HT3:Hid (∀c∈cs.take i,c.length=3):=fun c hc=>H3.out c (List.mem_of_mem_take hc)
 have HFL:Hid (cs.flatten=(cs.take i).flatten++(cs.drop i).flatten):=by show cs.flatten=_;rw [←List.flatten_append,List.take_append_drop]
 have HN1:Hid (∀(j:Nat) (u:Value),(cs.take i).flatten[j]? =some u→w2.cell? ((⟨g,0,none⟩:Addr).add j)=some u):=fun j u hu=>HR2.out.cells (g:=g) rfl j u (by
  rw [HFL.out,List.getElem?_append_left (List.getElem?_eq_some_iff.1 hu).1];exact hu)
 have HO1:Hid (∀u∈(cs.take i).flatten,u.oneCell'=true):=fun u hu=>H1.out u (by rw [HFL.out];exact List.mem_append_left _ hu)
 have HCF:Hid ((cut cs i).flatten=(cs.take i).flatten++(cs.drop (i+1)).flatten):=by show (cut cs i).flatten=_;unfold cut;rw [List.flatten_append]
 have hdl:(cs.drop (i+1)).length=V.vs.length-(i+1):=by rw [List.length_drop,hcl]
 have HT4:Hid (∀c∈cs.drop (i+1),c.length=3):=fun c hc=>H3.out c (List.mem_of_mem_drop hc)
 have HFD:Hid (cs.flatten=(cs.take (i+1)).flatten++(cs.drop (i+1)).flatten):=by show cs.flatten=_;rw [←List.flatten_append,List.take_append_drop]
 have hti:(cs.take (i+1)).flatten.length=(i+1)*3:=by rw [xl (fun c hc=>H3.out c (List.mem_of_mem_take hc)),List.length_take];omega
 have HTI:Hid ((cs.take (i+1)).flatten.length=(i+1)*3):=hti
 have HN2:Hid (∀w9:World,za (fun _=>False) w2 w9→∀(j:Nat) (u:Value),(cs.drop (i+1)).flatten[j]? =some u→w9.cell? ((⟨g,(i+1)*3,none⟩:Addr).add j)=some u):=fun w9 k9 j u hu=>by
  have h1:=(k9.owns HR2.out nF).cells (g:=g) rfl ((i+1)*3+j) u (by
   rw [HFD.out,List.getElem?_append_right (by rw [HTI.out];omega),HTI.out,Nat.add_sub_cancel_left];exact hu)
  rw [Addr.add_mid] at h1 ⊢
  rw [Nat.zero_add] at h1
  exact h1
 have HO2:Hid (∀u∈(cs.drop (i+1)).flatten,u.oneCell'=true):=fun u hu=>H1.out u (by rw [HFD.out];exact List.mem_append_right _ hu)
 clear hti
 by_cases hce:cap=i+1
 ·subst hce
  have hvi:V.vs.length≤i+1:=by omega
  have HDN:Hid ((cs.drop (i+1)).flatten=[]):=by show _=_;rw [List.drop_of_length_le (by omega)];rfl
  go_wp2_with (first
   |(refine wpList_append_own rfl (.tmp 31) (.tmp 37) 31 rfl 85 i0 _ 3 48 Tryz.underlying31 HI0.out.1 HI0.out.2.1 HI0.out.2.2.1 HI0.out.2.2.2 rfl (by omega) (.slice none 0 0) 0 [] (by rfl) (World.ownsRow_nil _ _ _ _) ⟨g,0,none⟩ i (i+1) (cs.take i).flatten (by rfl) (by rw [xl HT3.out,htk]) HN1.out HO1.out (by unfold maxLen;omega) (by omega) ?_;intro a3 c3 w3 hown3 hgrow3 hat3;have HOW3:Hid (w3.ownsRow 0 85 3 (.slice a3 i c3) i (cs.take i).flatten):=(by have h9:=hown3;rw [Nat.zero_add,List.nil_append] at h9;exact h9);have HK3:Hid (za (fun _=>False) w2 w3):=za.grown hgrow3 (fun k hk=>by cases hk);have HAT3:Hid (∀k,(Value.slice a3 i c3).ownBlock=some k→w2.heap.size≤k):=(fun k hk=>gj (by have h9:=hat3;rw [Nat.zero_add] at h9;exact h9) (Nat.le_refl _) (fun j hj=>by cases hj) hk);have hh3:w3.heap[bp]? =_:=(HK3.out.block bp (by omega) (fun hf=>hf)).trans HH2.out;have HH3:Hid (w3.heap[bp]? =some (.cells #[.pointer (some ⟨bd,0,none⟩),.pointer (some ⟨bs,0,none⟩),.slice (some ⟨g,0,none⟩) V.vs.length (i+1),.int .i64 V.n0,.int .i64 (-1),.int .i64 0,.bool true] 33 (0,0))):=hh3;have hc23:w3.cell? ⟨bp,2,none⟩=some (.slice (some ⟨g,0,none⟩) V.vs.length (i+1)):=(cell_of_row w3 bp 2 _ _ _ hh3).trans rfl;have hf23:=frozen_of_row w3 bp 2 _ _ hh3;clear hown3 hgrow3 hat3 hh3)
   |(refine wpList_append_own rfl (.tmp 40) (.tmp 47) 31 rfl 85 i0 _ 3 48 Tryz.underlying31 HI0.out.1 HI0.out.2.1 HI0.out.2.2.1 HI0.out.2.2.2 rfl (by omega) (.slice a3 i c3) i (cs.take i).flatten (by rfl) (by exact HOW3.out) ⟨g,0,none⟩ 0 0 [] (by rfl) (by rfl) (fun j u hu=>by cases hu) (fun u hu=>by cases hu) (by unfold maxLen;omega) (by omega) ?_;intro a4 c4 w4 hown4 hgrow4 hat4;have HX:Hid _:=qI.erased HH.out HA2.out HS2.out HF2.out HZ2.out i hi rfl rfl w4 (by exact(HK3.out.trans (za.grown (S:=fun k=>w2.heap.size≤k) hgrow4 (fun k hk=>HAT3.out k hk)) (fun k hk=>.inr hk))) a4 c4 (i+0) (by omega) (by rw [HCF.out,HDN.out];exact hown4) (fun k hk=>gj hat4 HK3.out.size HAT3.out hk);have k34:za (fun k=>w2.heap.size≤k) w3 w4:=za.grown hgrow4 (fun k hk=>HAT3.out k hk);have hh4:w4.heap[bp]? =_:=(k34.block bp (by have:=HK3.out.size;omega) (by omega)).trans HH3.out;have hc24:w4.cell? ⟨bp,2,none⟩=some (.slice (some ⟨g,0,none⟩) V.vs.length (i+1)):=(cell_of_row w4 bp 2 _ _ _ hh4).trans rfl;have hf24:=frozen_of_row w4 bp 2 _ _ hh4;clear hown4 hgrow4 hat4 k34 hh4))
  all_goals
   go_ret
   exact⟨rfl,S2,D2,_,_,_,_,HX.out.1,hr2,HX.out.2⟩
 ·go_wp2_with (first
   |(refine wpList_append_own rfl (.tmp 31) (.tmp 37) 31 rfl 85 i0 _ 3 48 Tryz.underlying31 HI0.out.1 HI0.out.2.1 HI0.out.2.2.1 HI0.out.2.2.2 rfl (by omega) (.slice none 0 0) 0 [] (by rfl) (World.ownsRow_nil _ _ _ _) ⟨g,0,none⟩ i cap (cs.take i).flatten (by rfl) (by rw [xl HT3.out,htk]) HN1.out HO1.out (by unfold maxLen;omega) (by omega) ?_;intro a3 c3 w3 hown3 hgrow3 hat3;have HOW3:Hid (w3.ownsRow 0 85 3 (.slice a3 i c3) i (cs.take i).flatten):=(by have h9:=hown3;rw [Nat.zero_add,List.nil_append] at h9;exact h9);have HK3:Hid (za (fun _=>False) w2 w3):=za.grown hgrow3 (fun k hk=>by cases hk);have HAT3:Hid (∀k,(Value.slice a3 i c3).ownBlock=some k→w2.heap.size≤k):=(fun k hk=>gj (by have h9:=hat3;rw [Nat.zero_add] at h9;exact h9) (Nat.le_refl _) (fun j hj=>by cases hj) hk);have hh3:w3.heap[bp]? =_:=(HK3.out.block bp (by omega) (fun hf=>hf)).trans HH2.out;have HH3:Hid (w3.heap[bp]? =some (.cells #[.pointer (some ⟨bd,0,none⟩),.pointer (some ⟨bs,0,none⟩),.slice (some ⟨g,0,none⟩) V.vs.length cap,.int .i64 V.n0,.int .i64 (-1),.int .i64 0,.bool true] 33 (0,0))):=hh3;have hc23:w3.cell? ⟨bp,2,none⟩=some (.slice (some ⟨g,0,none⟩) V.vs.length cap):=(cell_of_row w3 bp 2 _ _ _ hh3).trans rfl;have hf23:=frozen_of_row w3 bp 2 _ _ hh3;clear hown3 hgrow3 hat3 hh3)
   |(refine wpList_append_own rfl (.tmp 40) (.tmp 47) 31 rfl 85 i0 _ 3 48 Tryz.underlying31 HI0.out.1 HI0.out.2.1 HI0.out.2.2.1 HI0.out.2.2.2 rfl (by omega) (.slice a3 i c3) i (cs.take i).flatten (by rfl) (by exact HOW3.out) ⟨g,(i+1)*3,none⟩ (V.vs.length-(i+1)) (cap-(i+1)) (cs.drop (i+1)).flatten (by rfl) (by rw [xl HT4.out,hdl]) (by exact HN2.out _ HK3.out) HO2.out (by unfold maxLen;omega) (by omega) ?_;intro a4 c4 w4 hown4 hgrow4 hat4;have HX:Hid _:=qI.erased HH.out HA2.out HS2.out HF2.out HZ2.out i hi rfl rfl w4 (by exact(HK3.out.trans (za.grown (S:=fun k=>w2.heap.size≤k) hgrow4 (fun k hk=>HAT3.out k hk)) (fun k hk=>.inr hk))) a4 c4 (i+(V.vs.length-(i+1))) (by omega) (by rw [HCF.out];exact hown4) (fun k hk=>gj hat4 HK3.out.size HAT3.out hk);have k34:za (fun k=>w2.heap.size≤k) w3 w4:=za.grown hgrow4 (fun k hk=>HAT3.out k hk);have hh4:w4.heap[bp]? =_:=(k34.block bp (by have:=HK3.out.size;omega) (by omega)).trans HH3.out;have hc24:w4.cell? ⟨bp,2,none⟩=some (.slice (some ⟨g,0,none⟩) V.vs.length cap):=(cell_of_row w4 bp 2 _ _ _ hh4).trans rfl;have hf24:=frozen_of_row w4 bp 2 _ _ hh4;clear hown4 hgrow4 hat4 k34 hh4))
  all_goals
   go_ret
   exact⟨rfl,S2,D2,_,_,_,_,HX.out.1,hr2,HX.out.2⟩
end
end keep
namespace keep
open law (qH zg yE yG yN yM qG y9 qr)
def Qh(w:World)(Q:Nat→Prop)(a:Option Addr)(l:List Int):Prop:=∀j,j<l.length→∃b o,a=some ⟨b,o,none⟩∧Q b∧b<w.heap.size∧w.cell? ⟨b,o+j,none⟩=some (.int .i64 (l.getD j 0))∧zG (l.getD j 0)
theorem Qh.kept{w w':World}{Q T:Nat→Prop}{a:Option Addr}{l:List Int}(h:Qh w Q a l)(k:za T w w')(hn:∀i,Q i→¬T i):Qh w' Q a l:=fun j hj=>by
 obtain⟨b,o,h1,h2,h3,h4,h5⟩:=h j hj
 exact⟨b,o,h1,h2,Nat.lt_of_lt_of_le h3 k.size,(k.cell (a:=⟨b,o+j,none⟩) h3 (hn b h2)).trans h4,h5⟩
structure Ka (M:zg) (w2 wr:World) (X1:Nat→Prop) (bp:Nat) (D:Dk) (V:qH):Prop where
 shop:∃X,x5 M wr X bp D V∧∀k,X k→X1 k∨w2.heap.size≤k
 kept:za (fun k=>X1 k) w2 wr
theorem Kl:∃Mk:Array Value,Mk=(List.replicate 300 (Value.int .u8 0)).toArray∧∀W:World,(Instr.makeSlice 35 (.int .i64 300) (.int .i64 300)).run Tryz.prog W=.ok (.slice (some ⟨W.heap.size,0,none⟩) 300 300) (W.alloc (.cells Mk 5)):=by
 obtain⟨j0,hi0,hz0,hz1,hz2⟩:=yK Tryz.infoU8
 refine⟨madeCells (Value.int .u8 0).cells (300*1),by kernel_rfl,fun W=>?_⟩
 have:=run_make (P:=Tryz.prog) W 35 5 j0 _ Tryz.underlying35 hi0 hz0 .i64 .i64 300 300 (by omega) (by omega) (by rw [hz2];omega) (by omega)
 rw [hz1] at this
 simpa using this
theorem gM(vs:List zO)(i:Nat):weight (cut vs i)≤weight vs:=by
 unfold cut weight
 have h1:vs=vs.take i++vs.drop i:=(List.take_append_drop i vs).symm
 have h2:(vs.drop (i+1)).map (fun v=>qx v.body.length)=((vs.drop i).map (fun v=>qx v.body.length)).drop 1:=by rw [←List.map_drop,List.drop_drop]
 conv=>rhs;rw [h1,List.map_append,List.sum_append]
 rw [List.map_append,List.sum_append,h2]
 have h3:∀l:List Nat,(l.drop 1).sum≤l.sum:=fun l=>by cases l<;>simp
 have:=h3 ((vs.drop i).map (fun v=>qx v.body.length))
 omega
theorem qI.aft{M:zg}{w w':World}{X:Nat→Prop}{bp bd bs:Nat}{S S':Nat→Prop}{D D':Dk}{V:qH}{a:Option Addr}{cap:Nat}{cs:List (List Value)}{G:Nat→Prop}{most:Int}(h:qI M w X bp bd bs S D V a cap cs G)(ha:y9 M w w' bd bs S S' D D' most (some bd))(hl:M.Live D' V)(hr:D'.reads≤2305843009213693952):qI M w' (fun k=>X k∨(w.heap.size≤k∧k<w'.heap.size)) bp bd bs S' D' V a cap cs G∧za X w w':=by
 have n:∀k,X k→¬S k→¬S' k:=fun k hx hs hc=>by
  rcases ha.foot k hc with h1|h1
  ·exact hs h1
  ·have:=h.xlt k hx;omega
 have hz:=ha.kept.size
 refine⟨⟨(ha.kept.block bp h.lt (fun hc=>hc.elim h.pS h.pb)).trans h.head,qG.aft h.fore ha hl hr,ha.size.trans h.size,ha.kept.owns h.row (fun k hk hc=>hc.elim (h.rS k hk).1 (h.rS k hk).2.1),h.told.kept ha.kept (fun k hk hc=>hc.elim (h.gS k hk).1 (h.gS k hk).2.1),fun k hk=>?_,fun k hk=>?_,.inl h.xb,.inl h.xp,fun k hk=>.inl (h.xr k hk),fun k hk=>.inl (h.xG k hk),n bp h.xp h.pS,h.pb,fun k hk=>⟨n k (h.xr k hk) (h.rS k hk).1,(h.rS k hk).2⟩,fun k hk=>⟨n k (h.xG k hk) (h.gS k hk).1,(h.gS k hk).2⟩⟩,ha.kept.mono (fun k hk=>hk.elim (h.xS k) (fun e=>by rw [e];exact h.xb))⟩
 ·rcases hk with hk|hk
  ·have:=h.xlt k hk;omega
  ·exact hk.2
 ·rcases ha.foot k hk with h1|h1
  ·exact .inl (h.xS k h1)
  ·exact .inr ⟨h1,ha.disk.lt k hk⟩
theorem Ka.on{M:zg}{w2 wr w4:World}{X X1 X':Nat→Prop}{bp:Nat}{D':Dk}{V':qH}(hk:za (fun k=>X1 k) w2 wr)(hx:∀k,X k→X1 k∨w2.heap.size≤k)(k4:za X wr w4)(hs:x5 M w4 X' bp D' V')(hx':∀k,X' k→X k∨wr.heap.size≤k):Ka M w2 w4 X1 bp D' V':=
 ⟨⟨X',hs,fun k hk'=>(hx' k hk').elim (hx k) (fun h=>.inr (by have:=hk.size;omega))⟩,hk.trans k4 hx⟩
set_option maxRecDepth 60000 in
theorem cC(M:zg)(AO:yE M)(AP:yG M)(AE:yM M)(AL:yN M)(hM:∀f,M.Fu f→f≠0)(w:World)(Q:Nat→Prop)(hQ:∀k,Q k→k<w.heap.size)(a:Option Addr)(cap:Nat)(ods:List bW)(h:XU w Q a ods)(hlen:ods.length≤2000000000000)
 (oa:Option Addr) (oc:Nat) (ol:List Int) (ho:Qh w Q oa ol) (hol:ol.length≤140737488355326) (times:Int) (htimes:zG times):
 Calls Tryz.prog 11 #[.slice a ods.length cap,.slice oa ol.length oc,.int .i64 times] w fun e w'=>e=.returned (.bool true)∧za (fun _=>False) w w':=by
 have HC:Hid (XU w Q a ods):=h
 have HQ:Hid (∀k,Q k→k<w.heap.size):=hQ
 have HOR:Hid (Qh w Q oa ol):=ho
 have HPT:Hid (∀W,Calls Tryz.prog 21 #[.int .i64 times,.int .i64 3] W fun e w'=>e=.returned (.int .i64 (ya times 3:Int))∧w'=W):=fun W=>xd W times 3 htimes (by omega) (by omega)
 have hrt:ya times 3<3:=by have:=xv times 3 (by omega);omega
 generalize ya times 3=rt at*
 clear h hQ ho htimes
 go_enter Tryz.func11,Tryz.ntmps11
 go_wp2_with fail
 refine(uJ M AO hM _).mono ?_
 rintro e w1 ⟨X1,bp,bd,bs,S,D,rfl,hs,hk1,hx1,hr1⟩
 have HS1:Hid (x5 M w1 X1 bp D ⟨[],0⟩):=⟨bd,bs,S,none,0,[],_,hs⟩
 have HK1:Hid (za (fun _=>False) w w1):=hk1
 have HX1:Hid (∀k,X1 k→w.heap.size≤k∧k<w1.heap.size):=fun k hk=>⟨hx1 k hk,hs.xlt k hk⟩
 have HXP:Hid (X1 bp):=hs.xp
 clear hs hk1 hx1
 go_wp2_with fail
 refine(gK _).mono ?_
 rintro e w2 ⟨rfl,hk2,hb2⟩
 have HK2:Hid (za (fun _=>False) w1 w2):=hk2
 have HB2:Hid (w2.heap[w1.heap.size]? =some (.cells jt 9 (0,0))):=hb2
 have HS2:Hid (x5 M w2 X1 bp D ⟨[],0⟩):=HS1.out.kept hk2 nF
 obtain⟨bd2,bs2,S2,a2,cap2,cs2,G2,hs2⟩:=HS2.out
 have hc62:=hs2.c.2.2.2.2.2.1
 have HKW2:Hid (za (fun k=>w.heap.size≤k) w w2):=(HK1.out.trans hk2 iL).mono fE
 have hw12:w.heap.size≤w1.heap.size∧w1.heap.size<w2.heap.size:=⟨HK1.out.size,(lT hb2)⟩
 clear hk2 hb2 hs2 bd2 bs2 S2 a2 cap2 cs2 G2
 go_wp2_with fail
 go_loopw [9] (fun t wr=>∃i:Nat,i≤4∧t=.int .i64 i∧∃D V,Ka M w2 wr X1 bp D V∧V.vs=[]∧V.n0≤473*(i:Int)∧D.reads≤2000+3000000*(i:Int)) (fun t _=>10-(intOf t).toNat)
 case atStart=>exact⟨0,by omega,rfl,D,⟨[],0⟩,⟨⟨X1,HS2.out,fun k hk=>.inl hk⟩,za.refl _ _⟩,rfl,by show (0:Int)≤_;omega,by omega⟩
 case round=>
  obtain⟨t,ht4,rfl,D,V0,hrun0,hvs0,hn00,hrd0⟩:=hrel
  have HRUN0:Hid (Ka M w2 wr X1 bp D V0):=hrun0
  have HVS0:Hid (V0.vs=[]):=hvs0
  clear hrun0 hvs0
  by_cases htr:t≤rt
  ·have htI:(t:Int)≤(rt:Int):=by omega
   have HMEA:Hid (t≤rt):=htr
   go_wp2_with (go_at_call 21;refine(HPT.out _).mono ?_;rintro e w9 ⟨rfl,hw9⟩;rw [hw9];clear hw9 w9)
   go_loopw [10] (fun t' wr'=>∃i:Nat,i≤ods.length∧t'=.int .i64 i∧∃D V,Ka M w2 wr' X1 bp D V∧weight V.vs≤473∧V.n0≤473*(t:Int)+V.vs.length∧D.reads≤2000+3000000*(t:Int)+40*V.vs.length) (fun t' _=>ods.length-(intOf t').toNat)
   case atStart=>exact⟨0,Nat.zero_le _,rfl,D,V0,HRUN0.out,by rw [HVS0.out];simp [weight],by rw [HVS0.out];simpa using hn00,by rw [HVS0.out];simpa using hrd0⟩
   case round=>
    obtain⟨i,hi,rfl,D,V,hrun,hw,hnn,hrr⟩:=hrel
    obtain⟨⟨X,⟨bd',bs',S',a',cap',cs',G',hs⟩,hx⟩,hk⟩:=hrun
    obtain⟨hc0,hc1,hc2,hc3,hc5,hc6,hfz⟩:=hs.c
    have hf6:=hfz 6
    have HS:Hid (qI M _ X bp bd' bs' S' D V a' cap' cs' G'):=hs
    have HKR:Hid (za (fun k=>X1 k) w2 _):=hk
    have HXX:Hid (∀k,X k→X1 k∨w2.heap.size≤k):=hx
    have hlw:=yU V.vs
    have hbp:=hs.lt
    clear hs hk hx hc0 hc1 hc2 hc3 hc5 hfz
    by_cases hgo:i<ods.length∧weight V.vs<470
    ·obtain⟨hlt,hwt⟩:=hgo
     have hiI:(i:Int)<(ods.length:Int):=by omega
     have hwI:((weight V.vs:Nat):Int)<470:=by omega
     obtain⟨b,o,rfl,hQb,hbl,hrg⟩:=HC.out.each i hlt
     have HOK:Hid (ods[i].Ok w Q):=HC.out.ok i hlt
     have hkw:za (fun k=>w.heap.size≤k) w wr:=HKW2.out.trans HKR.out (fun k hk=>.inl (HX1.out k hk).1)
     have hblr:b<wr.heap.size:=by have:=hkw.size;omega
     have c0:wr.cell? ⟨b,o+i*5,none⟩=some (.int .i64 ods[i].key):=(hkw.cell (a:=⟨b,o+i*5,none⟩) hbl (by show ¬w.heap.size≤b;omega)).trans (hrg 0 _ rfl)
     have c2:wr.cell? ⟨b,o+i*5+2,none⟩=some (.slice ods[i].la ods[i].l.length ods[i].lc):=(hkw.cell (a:=⟨b,o+i*5+2,none⟩) hbl (by show ¬w.heap.size≤b;omega)).trans (hrg 2 _ rfl)
     have HKW:Hid (za (fun k=>w.heap.size≤k) w wr):=hkw
     have hkb:wr.heap[w1.heap.size]? =some (.cells jt 9 (0,0)):=(HKR.out.block w1.heap.size (lT HB2.out) (fun hc=>by have:=(HX1.out _ hc).2;omega)).trans HB2.out
     have HKB:Hid (wr.heap[w1.heap.size]? =some (.cells jt 9 (0,0))):=hkb
     clear hrg hkw
     generalize ods[i]=od at*
     have HPK:Hid (∀W,Calls Tryz.prog 21 #[.int .i64 od.key,.int .i64 12] W fun e w'=>e=.returned (.int .i64 (ya od.key 12:Int))∧w'=W):=fun W=>xd W od.key 12 HOK.out.key (by omega) (by omega)
     have hr2:ya od.key 12<12:=by have:=xv od.key 12 (by omega);omega
     generalize ya od.key 12=r at*
     obtain⟨ky,hky,hkb1,hks⟩:=v9 r hr2
     have hrI:(r:Int)<12:=by omega
     have hrI0:(0:Int)≤(r:Int):=by omega
     have HKY:Hid (zs ky.data.toList=true):=hkb1
     have hck:wr.cell? ⟨w1.heap.size,r,none⟩=some (.string ky):=(cell_of_row wr _ r _ _ _ hkb).trans hky
     clear hkb1 hky hkb
     go_wp2_with (go_at_call 32;refine(yr HS.out (by omega)).mono ?_;rintro e w9 ⟨rfl,hw9⟩;rw [hw9];clear hw9 w9)
     go_region_held3 (fun w'=>w'.cell? ⟨b,o+i*5,none⟩=some (.int .i64 od.key)∧w'.cell? ⟨b,o+i*5+2,none⟩=some (.slice od.la od.l.length od.lc)∧w'.cell? ⟨bp,6,none⟩=some (.bool true)∧w'.cell? ⟨w1.heap.size,r,none⟩=some (.string ky)) (first|(exact⟨((za.setCell (S:=fun k=>k=bp) w4 ⟨bp,6,none⟩ (.bool true) rfl).cell (a:=⟨b,o+i*5,none⟩) hb4 hnbp).trans c04,((za.setCell (S:=fun k=>k=bp) w4 ⟨bp,6,none⟩ (.bool true) rfl).cell (a:=⟨b,o+i*5+2,none⟩) hb4 hnbp).trans c24,HS4.out.again.c.2.2.2.2.2.1,((za.setCell (S:=fun k=>k=bp) w4 ⟨bp,6,none⟩ (.bool true) rfl).cell (a:=⟨w1.heap.size,r,none⟩) hw14 hnw1).trans ck4⟩)|go_keep) ((first
      |(go_at_call 21;refine(HPK.out _).mono ?_;rintro e w9 ⟨rfl,rfl⟩)
      |(go_at_call 15;refine(bm AP hM (w:=wr.drew) (X:=X) (HS.out.kept (za.drew (fun _=>False) wr) nF) hwt (by omega) (by omega) ky HKY.out hks (fun k=>Q k) (fun k hk hX=>by have:=HQ.out k hk;have:=HK1.out.size;have:=HK2.out.size;rcases HXX.out k hX with h|h;have:=HX1.out k h;omega;omega) od.la od.lc od.l ((HOK.out.kept HKW.out (fun k hk hc=>by have:=HQ.out k hk;omega)).l.kept (za.drew (fun _=>False) wr) nF) HOK.out.len HOK.out.cap).mono ?_;rintro e w4 ⟨rfl,S4,D4,a4,cap4,cs4,G4,hs4,hr4,hk4⟩;have HS4:Hid (qI M w4 (fun k=>X k∨(wr.heap.size≤k∧k<w4.heap.size)) bp bd' bs' S4 D4 (V.add ky false (od.l.take 300)) a4 cap4 cs4 G4):=hs4;have HK4:Hid (za X wr w4):=⟨hk4.os,hk4.tape,hk4.output,hk4.size,hk4.block⟩;have hnb:¬X b:=(fun hX=>by have:=HQ.out b hQb;have:=HK1.out.size;have:=HK2.out.size;rcases HXX.out b hX with h|h;have:=HX1.out b h;omega;omega);have c04:w4.cell? ⟨b,o+i*5,none⟩=some (.int .i64 od.key):=(HK4.out.cell (a:=⟨b,o+i*5,none⟩) hblr hnb).trans c0;have c24:w4.cell? ⟨b,o+i*5+2,none⟩=some (.slice od.la od.l.length od.lc):=(HK4.out.cell (a:=⟨b,o+i*5+2,none⟩) hblr hnb).trans c2;have c64:w4.cell? ⟨bp,6,none⟩=some (.bool true):=hs4.c.2.2.2.2.2.1;have f64:w4.frozen? ⟨bp,6,none⟩=false:=hs4.c.2.2.2.2.2.2 6;have hbp4:=hs4.lt;have hnbp:b≠bp:=(fun e=>hnb (by rw [e];exact HS.out.xp));have hb4:b<w4.heap.size:=(by have:=hk4.size;have e9:wr.drew.heap.size=wr.heap.size:=rfl;omega);have nXw:¬X w1.heap.size:=(fun hX=>by have h2:=(lT HB2.out);rcases HXX.out _ hX with h|h;have:=HX1.out _ h;omega;omega);have hwr1:w1.heap.size<wr.heap.size:=(lT HKB.out);have ck4:w4.cell? ⟨w1.heap.size,r,none⟩=some (.string ky):=(HK4.out.cell (a:=⟨w1.heap.size,r,none⟩) hwr1 nXw).trans hck;have hnw1:w1.heap.size≠bp:=(fun e=>nXw (by rw [e];exact HS.out.xp));have hw14:w1.heap.size<w4.heap.size:=(by have:=HK4.out.size;omega);clear hs4 hk4)))
     go_wp2
     go_roundw
     case rel=>
      have hw4:weight (V.add ky false (od.l.take 300)).vs≤473:=by
       rw [kU]
       have:(od.l.take 300).length≤300:=by rw [List.length_take];omega
       unfold qx
       omega
      have hl4:(V.add ky false (od.l.take 300)).vs.length=V.vs.length+1:=by simp [qH.add]
      refine⟨i+1,by omega,by go_num,D4,V.add ky false (od.l.take 300),Ka.on HKR.out HXX.out (HK4.out.trans (za.setCell (S:=fun k=>k=bp) w4 ⟨bp,6,none⟩ _ rfl) (fun k hk=>.inl (by rw [show k=bp from hk];exact HS.out.xp))) ⟨_,_,_,_,_,_,_,HS4.out.again⟩ (fun k hk=>hk.imp id (fun h=>h.1)),hw4,?_,?_⟩
      ·show V.n0+1≤_
       rw [hl4];push_cast;omega
      ·rw [hl4];push_cast;omega
     case measure=>simp [intOf];omega
    ·have hex:(¬i<ods.length∧decide ((i:Int)<(ods.length:Int))=false)∨(i<ods.length∧(i:Int)<(ods.length:Int)∧¬weight V.vs<470∧decide (((weight V.vs:Nat):Int)<470)=false):=by
      by_cases hlt:i<ods.length
      ·exact .inr ⟨hlt,by omega,by omega,decide_eq_false (by omega)⟩
      ·exact .inl ⟨hlt,decide_eq_false (by omega)⟩
     clear hgo
     rcases hex with⟨hlt,hiI⟩|⟨hlt,hiI,hwt,hwI⟩
     all_goals
      go_wp2_with (go_at_call 32;refine(yr HS.out (by omega)).mono ?_;rintro e w9 ⟨rfl,hw9⟩;rw [hw9];clear hw9 w9)
      go_loopw [11] (fun t' wr'=>∃i:Nat,i≤473∧t'=.int .i64 i∧∃D V,Ka M w2 wr' X1 bp D V∧V.vs.length+i≤473∧weight V.vs≤473∧V.n0≤473*(t:Int)+473∧D.reads≤30000+3000000*(t:Int)+40*(i:Int)) (fun t' _=>1000-(intOf t').toNat)
      case atStart=>exact⟨0,by omega,rfl,D,V,⟨⟨X,⟨_,_,_,_,_,_,_,HS.out⟩,HXX.out⟩,HKR.out⟩,by omega,hw,by omega,by omega⟩
      case round=>
       obtain⟨i2,hi2,rfl,D,V,hrun,hvi,hw,hnn,hrr⟩:=hrel
       obtain⟨⟨X,⟨bd',bs',S',a',cap',cs',G',hs⟩,hx⟩,hk⟩:=hrun
       obtain⟨hc0,hc1,hc2,hc3,hc5,hc6,hfz⟩:=hs.c
       have hf6:=hfz 6
       have HS:Hid (qI M wr X bp bd' bs' S' D V a' cap' cs' G'):=hs
       have HKR:Hid (za (fun k=>X1 k) w2 wr):=hk
       have HXX:Hid (∀k,X k→X1 k∨w2.heap.size≤k):=hx
       have hbp:=hs.lt
       clear hs hk hx hc0 hc3 hc5 hfz
       by_cases hpos:0<V.vs.length
       ·have hpI:(0:Int)<(V.vs.length:Int):=by omega
        obtain⟨j,hj⟩:∃j,j+1=V.vs.length:=⟨V.vs.length-1,by omega⟩
        have hwj:IntKind.i64.wrap ((V.vs.length:Int)-1)=(j:Int):=by rw [show (V.vs.length:Int)-1=(j:Int) by omega];exact IntWalk.i64_in _ (by omega)
        have HJ:Hid (j+1=V.vs.length):=hj
        have hjl:j<V.vs.length:=by omega
        clear hj
        by_cases hol0:0<ol.length
        ·have hoI:(0:Int)<(ol.length:Int):=by omega
         have hon1:¬ol=[]:=fun e=>by rw [e] at hol0;simp at hol0
         have hon2:¬ol.length=0:=by omega
         have hon3:¬(ol.length:Int)=0:=by omega
         have hi20:(0:Int)≤(i2:Int):=by omega
         obtain⟨q,hq⟩:∃q,q=i2%ol.length:=⟨_,rfl⟩
         have hql:q<ol.length:=by rw [hq];exact Nat.mod_lt _ hol0
         have hrem:(i2:Int)%(ol.length:Int)=(q:Int):=by rw [hq];simp
         have hrem2:(i2:Int).tmod (ol.length:Int)=(q:Int):=by rw [Int.tmod_eq_emod_of_nonneg (by omega)];exact hrem
         have hqI:(q:Int)<(ol.length:Int):=by omega
         have hkw:za (fun k=>w.heap.size≤k) w wr:=HKW2.out.trans HKR.out (fun k hk=>.inl (HX1.out k hk).1)
         obtain⟨b,o,rfl,hQb,hbl,hcell,hok⟩:=HOR.out.kept hkw (fun k hk hc=>by have:=HQ.out k hk;omega) q hql
         have HPK:Hid (∀W,Calls Tryz.prog 21 #[.int .i64 (ol.getD q 0),.int .i64 (V.vs.length:Int)] W fun e w'=>e=.returned (.int .i64 (ya (ol.getD q 0) V.vs.length:Int))∧w'=W):=fun W=>xd W _ _ hok (by omega) (by omega)
         have hr:ya (ol.getD q 0) V.vs.length<V.vs.length:=by have:=xv (ol.getD q 0) V.vs.length (by omega);omega
         generalize ya (ol.getD q 0) V.vs.length=r at*
         generalize ol.getD q 0=vq at*
         clear hq hkw hok
         go_wp2_with fail
         go_region_held3 (fun w'=>w'.cell? ⟨b,o+q,none⟩=some (.int .i64 vq)∧w'.cell? ⟨bp,2,none⟩=some (.slice a' V.vs.length cap')) (go_keep) ((go_at_call 21;refine(HPK.out _).mono ?_;rintro e w9 ⟨rfl,rfl⟩))
         go_wp2_with (go_at_call 33;refine(dn AE hM (HS.out.kept (w':=wr.drew) (T:=fun _=>False) kD nF) (by omega) (by omega) (by omega) r hr).mono ?_;rintro e w4 ⟨rfl,S4,D4,a4,cap4,cs4,G4,hs4,hr4,hk4⟩;have HS4:Hid (qI M w4 (fun k=>X k∨(wr.heap.size≤k∧k<w4.heap.size)) bp bd' bs' S4 D4 ⟨cut V.vs r,V.n0⟩ a4 cap4 cs4 G4):=hs4;have HK4:Hid (za X wr w4):=⟨hk4.os,hk4.tape,hk4.output,hk4.size,hk4.block⟩;have c64:w4.cell? ⟨bp,6,none⟩=some (.bool true):=hs4.c.2.2.2.2.2.1;have f64:w4.frozen? ⟨bp,6,none⟩=false:=hs4.c.2.2.2.2.2.2 6;have hbp4:=hs4.lt;clear hs4 hk4)
         go_roundw
         case rel=>
          have hcl:=j9 V.vs r hr
          have hwc:=gM V.vs r
          exact⟨i2+1,by omega,by go_num,D4,⟨cut V.vs r,V.n0⟩,Ka.on HKR.out HXX.out (HK4.out.trans (za.setCell (S:=fun k=>k=bp) w4 ⟨bp,6,none⟩ _ rfl) (fun k hk=>.inl (by rw [show k=bp from hk];exact HS.out.xp))) ⟨_,_,_,_,_,_,_,HS4.out.again⟩ (fun k hk=>hk.imp id (fun h=>h.1)),by show (cut V.vs r).length+(i2+1)≤473;omega,by show weight (cut V.vs r)≤473;omega,hnn,by push_cast;omega⟩
         case measure=>simp [intOf];omega
        ·have hoI:decide ((ol.length:Int)>0)=false:=decide_eq_false (by omega)
         go_wp2_with (go_at_call 33;refine(dn AE hM (HS.out.kept (w':=wr) (T:=fun _=>False) kD nF) (by omega) (by omega) (by omega) j hjl).mono ?_;rintro e w4 ⟨rfl,S4,D4,a4,cap4,cs4,G4,hs4,hr4,hk4⟩;have HS4:Hid (qI M w4 (fun k=>X k∨(wr.heap.size≤k∧k<w4.heap.size)) bp bd' bs' S4 D4 ⟨cut V.vs j,V.n0⟩ a4 cap4 cs4 G4):=hs4;have HK4:Hid (za X wr w4):=⟨hk4.os,hk4.tape,hk4.output,hk4.size,hk4.block⟩;have c64:w4.cell? ⟨bp,6,none⟩=some (.bool true):=hs4.c.2.2.2.2.2.1;have f64:w4.frozen? ⟨bp,6,none⟩=false:=hs4.c.2.2.2.2.2.2 6;have hbp4:=hs4.lt;clear hs4 hk4)
         go_roundw
         case rel=>
          have hcl:=j9 V.vs j hjl
          have hwc:=gM V.vs j
          exact⟨i2+1,by omega,by go_num,D4,⟨cut V.vs j,V.n0⟩,Ka.on HKR.out HXX.out (HK4.out.trans (za.setCell (S:=fun k=>k=bp) w4 ⟨bp,6,none⟩ _ rfl) (fun k hk=>.inl (by rw [show k=bp from hk];exact HS.out.xp))) ⟨_,_,_,_,_,_,_,HS4.out.again⟩ (fun k hk=>hk.imp id (fun h=>h.1)),by show (cut V.vs j).length+(i2+1)≤473;omega,by show weight (cut V.vs j)≤473;omega,hnn,by push_cast;omega⟩
         case measure=>simp [intOf];omega
       ·have hpI:decide ((V.vs.length:Int)>0)=false:=decide_eq_false (by omega)
        have hv0:V.vs=[]:=List.eq_nil_of_length_eq_zero (by omega)
        have HV0:Hid (V.vs=[]):=hv0
        clear hv0
        go_wp2_with fail
        refine(xw M AL wr bd' bs' S' D V HS.out.fore ⟨#[]⟩ (.inl rfl) (by decide) 50 (by omega) (by omega) (by omega) (by omega)).mono ?_
        rintro e w4 ⟨D4,S4,a4,c4,L,rfl,haft,hlive,hL,hrow,hnew⟩
        obtain rfl:L=[]:=by have h9:=qz.all hL;rw [HV0.out] at h9;exact List.perm_nil.1 h9
        have hsa:=qI.aft HS.out haft hlive (by have:=haft.reads1;omega)
        have HSA:Hid (qI M w4 (fun k=>X k∨(wr.heap.size≤k∧k<w4.heap.size)) bp bd' bs' S4 D4 V a' cap' cs' G'∧za X wr w4):=hsa
        have hr4:=haft.reads1
        clear haft hlive hL hrow hnew hsa
        go_wp2
        go_roundw
        case rel=>exact⟨t+1,by omega,by go_num,D4,V,Ka.on HKR.out HXX.out HSA.out.2 ⟨_,_,_,_,_,_,_,HSA.out.1⟩ (fun k hk=>hk.imp id (fun h=>h.1)),HV0.out,by push_cast;omega,by push_cast;omega⟩
        case measure=>simp [intOf];omega
  ·have htI:decide ((t:Int)≤(rt:Int))=false:=decide_eq_false (by omega)
   obtain⟨gb,hgb⟩:∃gb,gb=wr.heap.size:=⟨_,rfl⟩
   obtain⟨⟨X,⟨bd',bs',S',a',cap',cs',G',hs⟩,hx⟩,hk⟩:=HRUN0.out
   have hkw:za (fun k=>w.heap.size≤k) w wr:=HKW2.out.trans hk (fun k hk=>.inl (HX1.out k hk).1)
   have hsit:=hs.sit (w0:=w) ⟨hkw.os,hkw.tape,hkw.output,hkw.size,fun k hk _=>hkw.block k hk (by omega)⟩ (fun k hk=>(hx k hk).elim (fun h=>(HX1.out k h).1) (fun h=>by omega))
   generalize Yb bd' bs' (.slice a' V0.vs.length cap') V0.n0=O at*
   have HO:Hid (∀(W:World),W.heap[bp]? =some O→W.cell? ⟨bp,1,none⟩=some (.pointer (some ⟨bs',0,none⟩))):=fun W hW=>by
    have e:(some O:Option Obj)=_:=(hsit.head).symm.trans hs.head
    rw [Option.some.inj e] at hW
    exact(cell_of_row W bp 1 _ _ _ hW).trans rfl
   have HST:Hid (kK M w wr bp bd' bs' O S' D V0):=hsit
   have hbs:=hsit.bs_lt
   obtain⟨Mk,hMk,hmk⟩:=Kl
   have HMK:Hid (∀j,j<300→Mk[j]? =some (.int .u8 0)):=fun j hj=>by rw [hMk,List.getElem?_toArray,List.getElem?_replicate,if_pos hj]
   clear hMk hs hk hx hkw hsit
   go_wp2_with (go_at_call 21;refine(HPT.out _).mono ?_;rintro e w9 ⟨rfl,hw9⟩;rw [hw9];clear hw9 w9)
   have hbb:=heap_alloc_new wr (.cells Mk 5)
   have hkA:za (fun _=>False) wr (wr.alloc (.cells Mk 5)):=za.alloc _ _ _
   have hszA:(wr.alloc (.cells Mk 5)).heap.size=wr.heap.size+1:=by simp
   generalize wr.alloc (.cells Mk 5)=wb at*
   have HSB:Hid (kK M w wb bp bd' bs' O S' D V0):=HST.out.keep hkA
   have HBB:Hid (wb.heap[wr.heap.size]? =some (.cells Mk 5 (0,0))):=hbb
   have HNB:Hid (¬S' wr.heap.size):=fun hc=>by have:=HST.out.fore.disk.lt _ hc;omega
   rw [←hgb] at HBB HNB
   have hgbs:gb≠bs':=by omega
   have HGB:Hid (gb=wr.heap.size):=hgb
   rw [←hgb]
   clear hmk hbb hkA hgb
   go_loopw [16] (fun t' wr'=>∃i:Nat,i≤117∧t'=.int .i64 i∧∃S'' D'' V'',kK M w wr' bp bd' bs' O S'' D'' V''∧weight V''.vs≤4*i∧V''.n0≤2000+(i:Int)∧D''.reads≤15000000+40*(i:Int)∧wr'.heap[gb]? =some (.cells Mk 5 (0,0))∧¬S'' gb) (fun t' _=>117-(intOf t').toNat)
   case atStart=>exact⟨0,by omega,rfl,S',D,V0,HSB.out,by rw [HVS0.out];simp [weight],by omega,by omega,HBB.out,HNB.out⟩
   case round=>
    obtain⟨i,hi,rfl,S5,D5,V5,hs5,hw5,hn5,hr5,hb5,hnb5⟩:=hrel
    have hc15:=HO.out _ hs5.head
    have HS5:Hid (kK M w wr bp bd' bs' O S5 D5 V5):=hs5
    have HB5:Hid (wr.heap[gb]? =some (.cells Mk 5 (0,0))):=hb5
    have HN5:Hid (¬S5 gb):=hnb5
    clear hs5 hb5 hnb5
    by_cases hlt:i<117
    ·have hiI:(i:Int)<117:=by omega
     have HBY:Hid (zE wr (fun k=>k=gb) (some ⟨gb,0,none⟩) (List.replicate 300 (0:UInt8))):=.inr ⟨gb,0,rfl,rfl,(lT HB5.out),fun j hj=>by
      rw [List.length_replicate] at hj
      rw [cell_of_row wr gb _ _ _ _ HB5.out,Nat.zero_add,HMK.out j hj,List.getElem_replicate]
      rfl⟩
     have HPUT:Hid (Calls Tryz.prog 27 #[.pointer (some ⟨bs',0,none⟩),.string ⟨#[102,117,108,108]⟩,.slice (some ⟨gb,0,none⟩) 300 300] wr fun e w'=>∃S' D',e=.returned (.tuple #[.int .i64 (V5.n0+1),.int .i64 0])∧y9 M wr w' bd' bs' S5 S' D5 D' 40 (some bd')∧kK M w w' bp bd' bs' O S' D' (V5.add ⟨#[102,117,108,108]⟩ false (List.replicate 300 (0:UInt8)))∧D'.reads≤D5.reads+40):=by
      have h9:=Kj AP hM HS5.out (by omega) (by omega) (by omega) ⟨#[102,117,108,108]⟩ (by decide) (fun k=>k=gb) (some ⟨gb,0,none⟩) 300 (List.replicate 300 (0:UInt8)) HBY.out (fun k hk=>by rw [show k=gb from hk];exact⟨HN5.out,hgbs⟩) (by rw [List.length_replicate];omega) (by rw [List.length_replicate];omega) (by omega)
      rw [List.length_replicate] at h9
      exact h9
     go_wp2_with fail
     refine HPUT.out.mono ?_
     rintro e w6 ⟨S6,D6,rfl,ha6,hs6,hr6⟩
     have hfar:=y9.far ha6 (lT HB5.out) HN5.out hgbs
     have HS6:Hid (kK M w w6 bp bd' bs' O S6 D6 (V5.add ⟨#[102,117,108,108]⟩ false (List.replicate 300 (0:UInt8)))):=hs6
     have HB6:Hid (w6.heap[gb]? =some (.cells Mk 5 (0,0))∧¬S6 gb):=⟨hfar.1.trans HB5.out,hfar.2⟩
     have HW6:Hid (weight (V5.add ⟨#[102,117,108,108]⟩ false (List.replicate 300 (0:UInt8))).vs=weight V5.vs+qx (List.replicate 300 (0:UInt8)).length):=kU _ _ _ _
     clear ha6 hs6 hfar
     go_wp2
     go_roundw
     case rel=>exact⟨i+1,by omega,by go_num,S6,D6,_,HS6.out,by rw [HW6.out,List.length_replicate];unfold qx;omega,by show V5.n0+1≤_;push_cast;omega,by push_cast;omega,HB6.out.1,HB6.out.2⟩
     case measure=>simp [intOf];omega
    ·have hiI:decide ((i:Int)<117)=false:=decide_eq_false (by omega)
     go_wp2
     go_ret
     exact⟨rfl,HS5.out.end⟩
end keep
namespace law
end law
end Go.Proofs.YtcoengihaobddaaGreatDoor
