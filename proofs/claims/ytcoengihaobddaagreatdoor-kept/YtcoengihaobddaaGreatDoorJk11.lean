/- Part 11 of 34 of a proof: Keep20, Keep21, Keep22, Keep23, Keep24, Keep25 -/
import Derived.Test.YtcoengihaobddaaGreatDoorJk10
set_option maxHeartbeats 8000000
set_option linter.unusedVariables false
set_option linter.unusedSimpArgs false
set_option maxRecDepth 8000
namespace Go.Proofs.YtcoengihaobddaaGreatDoor
open Go.ChangeShapes Go.WideShapes Go.ChangeAt Go.RowKit disk ref book
namespace keep
open law (qe zc qv yj zR jI cB Chg Yt)
open keys (ze zd zr zn zu)
section
variable {M:zc} {w w':World} {X T:Nat→Prop} {bp bd bs:Nat} {S:Nat→Prop} {D:Dk} {V:qe} {vs:List qa} {last gone:Int} {lost:Nat} {a:Option Addr} {cap:Nat} {cs:List (List Value)} {G:Nat→Prop}
theorem zG.pushed(h:zG w X bp bd bs S vs last gone lost a cap cs G){w3 w4 w5:World}{S2:Nat→Prop}(v:qa){last2:Int}(k3:Kept (fun k=>S k∨k=bs∨k=bp) w w3)(hS2:∀k,S2 k→(S k∨w.heap.size≤k)∧k<w3.heap.size)
 (hd3:w3.heap[bp]? =some (qL (.pointer (some ⟨bd,0,none⟩)) (.pointer (some ⟨bs,0,none⟩)) (.slice a vs.length cap) last2 gone (lost:Nat)))
 (k4:Kept (fun _=>False) w3 w4) (a2:Option Addr) (c2:Nat) (own4:w4.ownsRow 0 5 1 (.slice a2 v.body.length c2) v.body.length (v.body.map qc)) (fr4:∀k,(Value.slice a2 v.body.length c2).ownBlock=some k→w3.heap.size≤k)
 (o:Obj) (g c3:Nat) (hown:w5.ownsRow 0 85 3 (.slice (some ⟨g,0,none⟩) (vs.length+1) c3) (vs.length+1) (cs.flatten++[.string v.key,.int .i64 v.num,.slice a2 v.body.length c2])) (hgrow:(w4.alloc o).grownBy w5 (Value.slice a vs.length cap).ownBlock) (hat:(Value.slice a vs.length cap).ownBlock=some g∨g=w4.heap.size+1):
 zG (w5.setCell ⟨bp,2,none⟩ (.slice (some ⟨g,0,none⟩) (vs.length+1) c3)) (fun k=>X k∨(w.heap.size≤k∧k<(w5.setCell ⟨bp,2,none⟩ (.slice (some ⟨g,0,none⟩) (vs.length+1) c3)).heap.size)) bp bd bs S2 (vs++[v]) last2 gone lost (some ⟨g,0,none⟩) c3 (cs++[[.string v.key,.int .i64 v.num,.slice a2 v.body.length c2]]) (fun k=>G k∨(Value.slice a2 v.body.length c2).ownBlock=some k)∧
  Kept X w (w5.setCell ⟨bp,2,none⟩ (.slice (some ⟨g,0,none⟩) (vs.length+1) c3))∧∀M D2 V2,zR M w3 bd bs S2 D2 V2→zR M (w5.setCell ⟨bp,2,none⟩ (.slice (some ⟨g,0,none⟩) (vs.length+1) c3)) bd bs S2 D2 V2:=by
 have hbp:=h.lt
 have hbs:=h.xlt bs h.xb
 have s3:=k3.size
 have s4:=k4.size
 have k45:Kept (fun k=>(Value.slice a vs.length cap).ownBlock=some k) w4 w5:=(Kept.alloc _ w4 o).trans (Kept.grown hgrow (fun k hk=>hk)) iL
 have k35:Kept (fun k=>(Value.slice a vs.length cap).ownBlock=some k) w3 w5:=(k4.mono fE).trans k45 iL
 have k6:=Kept.setCell (S:=fun k=>k=bp) w5 ⟨bp,2,none⟩ (.slice (some ⟨g,0,none⟩) (vs.length+1) c3) rfl
 have k36:Kept (fun k=>(Value.slice a vs.length cap).ownBlock=some k∨k=bp) w3 (w5.setCell ⟨bp,2,none⟩ (.slice (some ⟨g,0,none⟩) (vs.length+1) c3)):=(k35.mono iL).trans k6 (fun _ h=>.inl (.inr h))
 have s5:=k45.size
 have hl:(vs++[v]).length=vs.length+1:=by simp
 have gz:w4.heap.size+1≤w5.heap.size:=by have:=hgrow.size;simpa using this
 have glt:g<w5.heap.size:=by
  rcases hown.2 with⟨h0,_⟩|⟨g',cap',cur,hv,_,hg,_⟩
  ·cases h0
  ·cases hv;exact(lT hg)
 have hrow:∀k,(Value.slice a vs.length cap).ownBlock=some k→k<w.heap.size:=fun k hk=>h.xlt k (h.xr k hk)
 have hG:∀k,G k→k<w.heap.size:=fun k hk=>h.xlt k (h.xG k hk)
 have hbody:∀k,(Value.slice a2 v.body.length c2).ownBlock=some k→w3.heap.size≤k∧k<w4.heap.size:=fun k hk=>⟨fr4 k hk,(own4.lt k hk).2⟩
 have hgb:g≠bp:=by
  rcases hat with e|e
  ·exact fun e2=>(h.rS g e).2.2 e2
  ·omega
 have hgn:∀k,(Value.slice (some ⟨g,0,none⟩) (vs++[v]).length c3).ownBlock=some k→k=g:=fun k hk=>by simpa [Value.ownBlock,eq_comm] using hk
 have hS2n:∀k,k<w.heap.size→¬S k→¬S2 k:=fun k h1 h2 h3=>by rcases (hS2 k h3).1 with h4|h4;exact h2 h4;omega
 refine⟨⟨?_,?_,?_,?_,?_,.inl h.xb,.inl h.xp,?_,?_,hS2n bp hbp h.pS,h.pb,?_,?_⟩,?_,fun M D2 V2 f3=>?_⟩
 ·have e:w5.heap[bp]? =_:=(k35.block bp (by omega) (fun e=>(h.rS bp e).2.2 rfl)).trans hd3
  rw [heap_setCell_same w5 bp 2 _ _ _ e,hl];rfl
 ·rw [hl]
  have:=k6.owns hown (fun k hk e=>by simp [Value.ownBlock] at hk;omega)
  simpa using this
 ·refine Told.snoc (((h.told.kept k3 (fun k hk hc=>?_)).kept k36 (fun k hk hc=>?_)).mono (fun k hk _=>.inl hk)) ⟨a2,c2,rfl,?_⟩
  ·have:=h.gS k hk
   rcases hc with hc|hc|hc
   ·exact this.1 hc
   ·exact this.2.1 hc
   ·exact this.2.2.1 hc
  ·have:=h.gS k hk
   rcases hc with hc|hc
   ·exact this.2.2.2 hc
   ·exact this.2.2.1 hc
  ·have r5:=k45.owns own4 (fun k hk e=>by have:=hbody k hk;have:=hrow k e;omega)
   have r6:=k6.owns r5 (fun k hk e=>by have:=hbody k hk;omega)
   exact zv.of_own 5 r6 rfl _ (fun k hk=>.inr hk)
 ·intro k hk
  rcases hk with hk|⟨_,hk⟩
  ·have:=h.xlt k hk;have:=k6.size;omega
  ·exact hk
 ·intro k hk
  rcases hS2 k hk with⟨h1|h1,h2⟩
  ·exact .inl (h.xS k h1)
  ·exact .inr ⟨h1,by have:=k6.size;omega⟩
 ·intro k hk
  rw [hgn k hk]
  rcases hat with e|e
  ·exact .inl (h.xr g e)
  ·exact .inr ⟨by omega,by have:=k6.size;omega⟩
 ·intro k hk
  rcases hk with hk|hk
  ·exact .inl (h.xG k hk)
  ·have:=hbody k hk
   exact .inr ⟨by omega,by have:=k6.size;omega⟩
 ·intro k hk
  rw [hgn k hk]
  rcases hat with e|e
  ·have:=h.rS g e
   exact⟨hS2n g (hrow g e) this.1,this.2.1,this.2.2⟩
  ·exact⟨fun hs=>by have:=(hS2 g hs).2;omega,by omega,by omega⟩
 ·intro k hk
  have hne:k≠g→(Value.slice (some ⟨g,0,none⟩) (vs++[v]).length c3).ownBlock≠some k:=fun h1 h2=>h1 (hgn k h2)
  rcases hk with hk|hk
  ·have:=h.gS k hk
   have hlt:=hG k hk
   exact⟨hS2n k hlt this.1,this.2.1,this.2.2.1,hne (fun e=>by
    rcases hat with e2|e2
    ·exact this.2.2.2 (by rw [e];exact e2)
    ·omega)⟩
  ·have hb:=hbody k hk
   exact⟨fun hs=>by have:=(hS2 k hs).2;omega,by omega,by omega,hne (fun e=>by
    rcases hat with e2|e2
    ·have:=hrow g e2;omega
    ·omega)⟩
 ·refine(k3.mono (fun k hk=>?_)).trans k36 (fun k hk=>.inl ?_)
  ·rcases hk with hk|rfl|rfl
   ·exact h.xS k hk
   ·exact h.xb
   ·exact h.xp
  ·rcases hk with hk|rfl
   ·exact h.xr k hk
   ·exact h.xp
 ·refine zR.kept f3 k36 (fun k hk hc=>?_) (fun hc=>hc.elim (fun e=>(h.rS bs e).2.1 rfl) (fun e=>h.pb e.symm))
  rcases hc with e|rfl
  ·exact hS2n k (hrow k e) (h.rS k e).1 hk
  ·exact hS2n k hbp h.pS hk
theorem KZ(lost n:Nat)(h1:lost≤1000000)(h2:n≤300):IntKind.i64.wrap (IntKind.i64.wrap ((lost:Int)+1)+IntKind.i64.wrap ((IntKind.i64.wrap ((n:Int)+99)).tdiv 100))=((lost+qr n:Nat):Int):=by
 have e1:IntKind.i64.wrap ((lost:Int)+1)=(lost:Int)+1:=IntWalk.i64_in _ (by omega)
 have e2:IntKind.i64.wrap ((n:Int)+99)=(n:Int)+99:=IntWalk.i64_in _ (by omega)
 have e3:((n:Int)+99).tdiv 100=(((n+99)/100:Nat):Int):=by rw [Int.tdiv_eq_ediv_of_nonneg (by omega)];omega
 have e4:IntKind.i64.wrap (((n+99)/100:Nat):Int)=(((n+99)/100:Nat):Int):=IntWalk.i64_in _ (by omega)
 have e5:IntKind.i64.wrap ((lost:Int)+1+(((n+99)/100:Nat):Int))=(lost:Int)+1+(((n+99)/100:Nat):Int):=IntWalk.i64_in _ (by omega)
 rw [e1,e2,e3,e4,e5]
 unfold qr
 omega
theorem Jg(A:yj M)(h:zG w X bp bd bs S vs last gone lost a cap cs G)(F:zR M w bd bs S D V)(hsz:D.bs.length=1000)(hH:yk V vs last lost)(hw:lost+weight vs<470)(hfew:vs.length≤6000)(hn0:V.n0≤1000000000000000000)(hrd:D.reads≤1000000000000000000)(key:ByteArray)(hkey:zu key.data.toList=true)(hks:key.size≤8)(P:Nat→Prop)(hP:∀k,P k→¬X k)(ab:Option Addr)(cb:Nat)(l:List UInt8)(hb:zv w P ab l)(hl:l.length≤140737488355326)(hc:l.length≤cb):
 Calls Tryz.prog 15 #[.pointer (some ⟨bp,0,none⟩),.string key,.slice ab l.length cb] w fun e w'=>∃S' D',Kept X w w'∧D'.reads≤D.reads+40∧D'.bs.length=1000∧
  ((e=.returned (.bool true)∧zR M w' bd bs S' D' (V.add key false (l.take 300))∧∃a' cap' cs' G',zG w' (fun k=>X k∨(w.heap.size≤k∧k<w'.heap.size)) bp bd bs S' (vs++[⟨key,V.n0+1,false,l.take 300⟩]) (V.n0+1) gone lost a' cap' cs' G')∨
   (e=.returned (.bool false)∧zh w' bd S' D'∧M.Could D' (fun U=>U=V∨U=V.add key false (l.take 300))∧zG w' (fun k=>X k∨(w.heap.size≤k∧k<w'.heap.size)) bp bd bs S' vs last gone (lost+qr (l.take 300).length) a cap cs G)):=by
 obtain⟨hc0,hc1,hc2,hc3,hc4,hc5,hc6,hfz⟩:=qk h.head
 have HFO:Hid (zR M w bd bs S D V):=F
 have HOL:Hid (yk V vs last lost):=hH
 have HH:Hid (zG w X bp bd bs S vs last gone lost a cap cs G):=h
 have HB:Hid (zv w P ab l):=hb
 have HPX:Hid (∀k,P k→¬X k):=hP
 have hbp:=h.lt
 have hrd0:=F.reads0
 have hwV:weight V.vs≤weight vs+lost:=hH.wt
 have hlast:last≤V.n0:=hH.last
 have HKY:Hid (zu key.data.toList=true):=hkey
 have HBY:Hid (∀w',Kept X w w'→Calls Tryz.prog 28 #[.slice ab l.length cb] w' fun e w''=>∃a' c',e=.returned (.slice a' (l.take 300).length c')∧w''.ownsRow 0 5 1 (.slice a' (l.take 300).length c') (l.take 300).length ((l.take 300).map qc)∧Kept (fun _=>False) w' w''∧∀k,(Value.slice a' (l.take 300).length c').ownBlock=some k→w'.heap.size≤k):=fun w' k=>vq w' P ab cb l (hb.kept k hP) hl hc
 have l3:(l.take 300).length≤300:=by rw [List.length_take];omega
 generalize l.take 300=B at*
 clear h hb hP hkey hfz F hH
 go_enter Tryz.func15,Tryz.ntmps15
 go_wp2_with fail
 go_region_held3 (fun w'=>w'.cell? ⟨bp,1,none⟩=some (.pointer (some ⟨bs,0,none⟩))) (go_keep) ((first
  |(go_at_call 28;refine(HBY.out _ (by exact Kept.drew X w)).mono ?_;rintro e w1 ⟨a1,c1,rfl,ho1,hk1,hf1⟩;have hk1':Kept (fun _=>False) w w1:=⟨hk1.os,hk1.tape,hk1.output,hk1.size,hk1.block⟩;have HO1:Hid (w1.ownsRow 0 5 1 (.slice a1 B.length c1) B.length (B.map qc)):=ho1;have HK1:Hid (Kept (fun _=>False) w w1):=hk1';have HF1:Hid (∀k,(Value.slice a1 B.length c1).ownBlock=some k→w.heap.size≤k):=hf1;have hcap1:=Yv ho1;have hc11:w1.cell? ⟨bp,1,none⟩=some (.pointer (some ⟨bs,0,none⟩)):=(qk (HH.out.kept hk1' nF).head).2.1;clear ho1 hk1 hf1 hk1')
  |(go_at_call 27;refine(A.live w1 bd bs S (fun k=>w.heap.size≤k) D V key a1 c1 B (zR.kept HFO.out HK1.out nF (fun hf=>hf)) (by unfold maxLen;omega) (zv.of_own 5 HO1.out rfl _ (fun k hk=>HF1.out k hk)) (fun k hk=>⟨fun hS=>by have:=HH.out.xlt k (HH.out.xS k hS);omega,fun e=>by have:=HH.out.xlt bs HH.out.xb;omega⟩) (by omega) hcap1.1 (by have:=hcap1.2;unfold maxLen at this;omega)).mono ?_;rintro e w2 ⟨D2,S2,c,n,q,rfl,haft,hchg,hn⟩;have HAFT:Hid (jI M w1 w2 bd bs S S2 D D2 40 q):=haft;have HCHG:Hid _:=hchg;have HN:Hid (n=if c=0 then V.n0+1 else 0):=hn;have hc12:w2.cell? ⟨bp,1,none⟩=some (.pointer (some ⟨bs,0,none⟩)):=(haft.kept.cell (a:=⟨bp,1,none⟩) (by have:=HK1.out.size;show bp<_;omega) (fun hc=>hc.elim HH.out.pS HH.out.pb)).trans hc11;clear haft hchg hn)))
 have hw0:kB (zu key.data.toList) B.length=0:=by rw [HKY.out];unfold kB;first|rfl|(rw [if_neg (by omega)])|(simp;omega)
 have hfit:xT V.vs (qr B.length) D.bs.length=true:=by
  unfold xT qr
  rw [hsz]
  refine decide_eq_true ?_
  omega
 have HCASE:(c=0∧q=some bd∧M.Live D2 (V.add key false B))∨(c=7∧D2.fuse=0∧M.Could D2 (fun U=>U=V∨U=V.add key false B)):=by
  rcases HCHG.out.is with h|h|h|h
  ·exact absurd hw0 h.1
  ·exact .inl h.2
  ·rw [hfit] at h;exact absurd h.2.2.2.2 (by simp)
  ·exact .inr ⟨h.2.1,h.2.2.2⟩
 have k2:Kept (fun k=>S k∨k=bs) w w2:=(HK1.out.mono fE).trans HAFT.out.kept (fun k hk=>.inl hk)
 have HK2:Hid (Kept (fun k=>S k∨k=bs) w w2):=k2
 have hd2:w2.heap[bp]? =_:=(k2.block bp hbp (fun hc=>hc.elim HH.out.pS HH.out.pb)).trans HH.out.head
 have HD2:Hid (w2.heap[bp]? =some (qL (.pointer (some ⟨bd,0,none⟩)) (.pointer (some ⟨bs,0,none⟩)) (.slice a vs.length cap) last gone (lost:Nat))):=hd2
 obtain⟨hc20,_,_,hc23,_,hc25,hc26,hf2⟩:=qk hd2
 have hf26:=hf2 6
 have hf23:=hf2 3
 have hbp2:bp<w2.heap.size:=by have:=k2.size;omega
 clear hd2 hf2 k2
 rcases HCASE with⟨rfl,rfl,hlive⟩|⟨rfl,hfz2,hcould⟩
 ·have hn:=HN.out
  rw [if_pos rfl] at hn
  subst hn
  have HLV:Hid (M.Live D2 (V.add key false B)):=hlive
  have hlt1:decide (last<V.n0+1)=true:=decide_eq_true (by omega)
  clear hlive
  go_wp2_with fail
  have hd3:((w2.setCell ⟨bp,6,none⟩ (.bool true)).setCell ⟨bp,3,none⟩ (.int .i64 (V.n0+1))).heap[bp]? =some (qL (.pointer (some ⟨bd,0,none⟩)) (.pointer (some ⟨bs,0,none⟩)) (.slice a vs.length cap) (V.n0+1) gone (lost:Nat)):=by
   have e1:=heap_setCell_same w2 bp 6 _ _ (.bool true) HD2.out
   exact heap_setCell_same _ bp 3 _ _ (.int .i64 (V.n0+1)) e1
  have k23:Kept (fun k=>k=bp) w2 ((w2.setCell ⟨bp,6,none⟩ (.bool true)).setCell ⟨bp,3,none⟩ (.int .i64 (V.n0+1))):=(Kept.setCell (S:=fun k=>k=bp) w2 ⟨bp,6,none⟩ _ rfl).trans (Kept.setCell (S:=fun k=>k=bp) _ ⟨bp,3,none⟩ _ rfl) iL
  generalize (w2.setCell ⟨bp,6,none⟩ (.bool true)).setCell ⟨bp,3,none⟩ (.int .i64 (V.n0+1))=w3 at*
  have HD3:Hid (w3.heap[bp]? =some (qL (.pointer (some ⟨bd,0,none⟩)) (.pointer (some ⟨bs,0,none⟩)) (.slice a vs.length cap) (V.n0+1) gone (lost:Nat))):=hd3
  have HK23:Hid (Kept (fun k=>k=bp) w2 w3):=k23
  have HK3:Hid (Kept (fun k=>S k∨k=bs∨k=bp) w w3):=(HK2.out.mono (fun k hk=>hk.imp id .inl)).trans k23 (fun k hk=>.inl (.inr (.inr hk)))
  have HX3:Hid (Kept X w w3):=HK3.out.mono (fun k hk=>by
   rcases hk with hk|rfl|rfl
   ·exact HH.out.xS k hk
   ·exact HH.out.xb
   ·exact HH.out.xp)
  have hc32:w3.cell? ⟨bp,2,none⟩=some (.slice a vs.length cap):=(qk hd3).2.2.1
  have hbp3:bp<w3.heap.size:=by have:=k23.size;omega
  have HR3:Hid (w3.ownsRow 0 85 3 (.slice a vs.length cap) vs.length cs.flatten):=HK3.out.owns HH.out.row (fun k hk hc=>by
   have:=HH.out.rS k hk
   rcases hc with hc|hc|hc
   ·exact this.1 hc
   ·exact this.2.1 hc
   ·exact this.2.2 hc)
  obtain⟨i0,hi0,hz0,hz1,hz2⟩:=y5 Tryz.infoKp
  have HI0:Hid (Tryz.prog.info? 85=some i0∧i0.zero=some (.agg #[.string ⟨#[]⟩,.int .i64 0,.slice none 0 0])∧i0.size=3∧i0.bytes=48):=⟨hi0,hz0,hz1,hz2⟩
  clear hi0 hz0 hz1 hz2 hd3 k23 hc0 hc1 hc2 hc3 hc4 hc5 hc6 hc11 hc12 hc20 hc25 hc26 hc23 hf26 hf23
  go_region_law ((first
   |(go_simp;go_at_call 28;refine(HBY.out _ (by exact HX3.out.trans (Kept.drew X w3) iL)).mono ?_;rintro e w4 ⟨a2,c2,rfl,ho2,hk4,hf4⟩;have hk4':Kept (fun _=>False) w3 w4:=⟨hk4.os,hk4.tape,hk4.output,hk4.size,hk4.block⟩;have HO4:Hid (w4.ownsRow 0 5 1 (.slice a2 B.length c2) B.length (B.map qc)):=ho2;have HK4:Hid (Kept (fun _=>False) w3 w4):=hk4';have HF4:Hid (∀k,(Value.slice a2 B.length c2).ownBlock=some k→w3.heap.size≤k):=hf4;have hc42:w4.cell? ⟨bp,2,none⟩=some (.slice a vs.length cap):=(hk4'.cell (a:=⟨bp,2,none⟩) hbp3 (fun hf=>hf)).trans hc32;have hbp4:bp<w4.heap.size:=(by have:=hk4'.size;omega);clear ho2 hk4 hf4 hk4';dsimp only)
   |(refine step_append_lies _ rfl (.tmp 46) (.tmp 52) 31 rfl 0 85 i0 _ 3 48 Tryz.underlying31 HI0.out.1 HI0.out.2.1 HI0.out.2.2.1 HI0.out.2.2.2 rfl (by omega) (.slice a vs.length cap) vs.length cs.flatten (by rfl) (by exact World.ownsRow.alloc (HK4.out.owns HR3.out nF) _) ⟨w4.heap.size,0,none⟩ 1 1 [.string key,.int .i64 (V.n0+1),.slice a2 B.length c2] (by rfl) (by rfl) (by exact World.news_of_block (heap_alloc_new w4 _)) (by simp [Value.oneCell']) (by omega) (by unfold maxLen;omega) (by omega) (Nat.zero_le _) (w4.heap.size+1) (by simp) ?_;intro g c3 w5 hown hgrow hat hlt5;have HOW:Hid _:=hown;have HGR:Hid _:=hgrow;have HAT:Hid ((Value.slice a vs.length cap).ownBlock=some g∨g=w4.heap.size+1):=hat;have hcc:w5.cell? ⟨bp,2,none⟩=some (.slice a vs.length cap):=(hgrow.cell_far ⟨bp,2,none⟩ (by simp;omega) (fun e=>(HH.out.rS bp e.symm).2.2 rfl)).trans (((Kept.alloc (fun _=>False) w4 _).cell (a:=⟨bp,2,none⟩) hbp4 (fun hf=>hf)).trans hc42);have hff:w5.frozen? ⟨bp,2,none⟩=false:=(hgrow.frozen_far ⟨bp,2,none⟩ (by simp;omega) (fun e=>(HH.out.rS bp e.symm).2.2 rfl)).trans (frozen_of_row _ bp 2 _ _ (((Kept.alloc (fun _=>False) w4 _).block bp hbp4 (fun hf=>hf)).trans ((HK4.out.block bp hbp3 (fun hf=>hf)).trans HD3.out)));clear hown hgrow hat)))
  all_goals
   go_wp2
   go_ret
   have s1:=HK1.out.size
   have hS2:∀k,S2 k→(S k∨w.heap.size≤k)∧k<w3.heap.size:=fun k hk=>⟨(HAFT.out.foot k hk).imp id (fun h=>by omega),by have:=HAFT.out.disk.lt k hk;have:=HK23.out.size;omega⟩
   have hbs:=HH.out.xlt bs HH.out.xb
   have nbs:¬S2 bs:=fun hk=>by
    rcases (hS2 bs hk).1 with h|h
    ·exact HFO.out.apart h
    ·omega
   have nbp:¬S2 bp:=fun hk=>by
    rcases (hS2 bp hk).1 with h|h
    ·exact HH.out.pS h
    ·omega
   have r0:=HAFT.out.reads0
   have r1:=HAFT.out.reads1
   have f2:zR M w2 bd bs S2 D2 (V.add key false B):=⟨HAFT.out.disk,nbs,HAFT.out.sto,HLV.out,HAFT.out.fuse,by omega,by omega,by show V.n0+1≤_;omega⟩
   have f3:=zR.kept f2 HK23.out (fun k hk e=>nbp (by rw [←show k=bp from e];exact hk)) (fun e=>HH.out.pb e.symm)
   have hx:=zG.pushed HH.out ⟨key,V.n0+1,false,B⟩ HK3.out hS2 HD3.out HK4.out a2 c2 HO4.out HF4.out _ g c3 HOW.out HGR.out HAT.out
   exact⟨S2,D2,hx.2.1,by omega,HAFT.out.size.trans hsz,.inl ⟨rfl,hx.2.2 M D2 _ f3,_,_,_,_,hx.1⟩⟩
 ·have HZ:Hid ((D2.fuse==0)=true):=by show _=_;rw [hfz2];rfl
  have HCO:Hid (M.Could D2 (fun U=>U=V∨U=V.add key false B)):=hcould
  have hio:zD D2.fuse:=by rw [hfz2];constructor<;>omega
  have hs1:=HK1.out.size
  have HS2:Hid (∀k,S2 k→(S k∨w.heap.size≤k)∧k<w2.heap.size):=fun k hk=>⟨(HAFT.out.foot k hk).imp id (fun h=>by omega),HAFT.out.disk.lt k hk⟩
  have HNB:Hid (¬S2 bp):=fun hk=>by
   rcases (HS2.out bp hk).1 with h|h
   ·exact HH.out.pS h
   ·omega
  clear hcould
  go_wp2_with (go_at_call 40;refine(yc w2 bd S2 D2 HAFT.out.disk hio).mono ?_;rintro e w3 ⟨rfl,⟨S3,hd3,hS3⟩,hk3⟩;rw [HZ.out];have HD3:Hid (zh w3 bd S3 D2.flush):=hd3;have HS3:Hid (∀k,S3 k→S2 k):=hS3;have HK3:Hid (Kept S2 w2 w3):=hk3;have hh3:w3.heap[bp]? =some (qL (.pointer (some ⟨bd,0,none⟩)) (.pointer (some ⟨bs,0,none⟩)) (.slice a vs.length cap) last gone (lost:Nat)):=(hk3.block bp hbp2 HNB.out).trans HD2.out;have HH3:Hid (w3.heap[bp]? =some (qL (.pointer (some ⟨bd,0,none⟩)) (.pointer (some ⟨bs,0,none⟩)) (.slice a vs.length cap) last gone (lost:Nat))):=hh3;have hc36:w3.cell? ⟨bp,6,none⟩=some (.bool true):=(qk hh3).2.2.2.2.2.2.1;have hf36:=(qk hh3).2.2.2.2.2.2.2 6;have hbp3:bp<w3.heap.size:=(lT hh3);clear hd3 hS3 hk3 hh3)
  have hh4:(w3.setCell ⟨bp,6,none⟩ (.bool true)).heap[bp]? =some (qL (.pointer (some ⟨bd,0,none⟩)) (.pointer (some ⟨bs,0,none⟩)) (.slice a vs.length cap) last gone (lost:Nat)):=heap_setCell_same w3 bp 6 _ _ (.bool true) HH3.out
  have k4:Kept (fun k=>k=bp) w3 (w3.setCell ⟨bp,6,none⟩ (.bool true)):=Kept.setCell (S:=fun k=>k=bp) w3 ⟨bp,6,none⟩ _ rfl
  generalize w3.setCell ⟨bp,6,none⟩ (.bool true)=w4 at*
  have HH4:Hid (w4.heap[bp]? =some (qL (.pointer (some ⟨bd,0,none⟩)) (.pointer (some ⟨bs,0,none⟩)) (.slice a vs.length cap) last gone (lost:Nat))):=hh4
  have HK4:Hid (Kept (fun k=>k=bp) w3 w4):=k4
  have HX4:Hid (Kept X w w4):=((HK2.out.mono (fun k hk=>(by
   rcases hk with hk|rfl
   ·exact HH.out.xS k hk
   ·exact HH.out.xb))).trans HK3.out (fun k hk=>(HS2.out k hk).1.imp (HH.out.xS k) id)).trans k4 (fun k hk=>.inl (by rw [show k=bp from hk];exact HH.out.xp))
  have hc45:w4.cell? ⟨bp,5,none⟩=some (.int .i64 (lost:Nat)):=(qk hh4).2.2.2.2.2.1
  have hf45:=(qk hh4).2.2.2.2.2.2.2 5
  have hbp4:bp<w4.heap.size:=by have:=k4.size;omega
  have hlo:lost<470:=by omega
  clear hh4 k4 hc36 hf36 hc0 hc1 hc2 hc3 hc4 hc5 hc6 hc11 hc12 hc20 hc25 hc26 hc23 hf26 hf23
  go_region_law ((go_simp;go_at_call 28;refine(HBY.out _ (by exact HX4.out.trans (Kept.drew X w4) iL)).mono ?_;rintro e w5 ⟨a2,c2,rfl,ho2,hk5,hf5⟩;have hk5':Kept (fun _=>False) w4 w5:=⟨hk5.os,hk5.tape,hk5.output,hk5.size,hk5.block⟩;have HK5:Hid (Kept (fun _=>False) w4 w5):=hk5';have hh5:w5.heap[bp]? =some (qL (.pointer (some ⟨bd,0,none⟩)) (.pointer (some ⟨bs,0,none⟩)) (.slice a vs.length cap) last gone (lost:Nat)):=(hk5'.block bp hbp4 (fun hf=>hf)).trans HH4.out;have HH5:Hid (w5.heap[bp]? =some (qL (.pointer (some ⟨bd,0,none⟩)) (.pointer (some ⟨bs,0,none⟩)) (.slice a vs.length cap) last gone (lost:Nat))):=hh5;have hc55:w5.cell? ⟨bp,5,none⟩=some (.int .i64 (lost:Nat)):=(qk hh5).2.2.2.2.2.1;have hf55:=(qk hh5).2.2.2.2.2.2.2 5;have hbp5:bp<w5.heap.size:=(lT hh5);clear ho2 hk5 hf5 hk5' hh5;dsimp only))
  all_goals
   go_wp2
   go_ret
   rw [KZ lost B.length (by omega) l3]
   have hh6:=heap_setCell_same w5 bp 5 _ _ (.int .i64 ((lost+qr B.length:Nat):Int)) HH5.out
   have k6:=Kept.setCell (S:=fun k=>k=bp) w5 ⟨bp,5,none⟩ (.int .i64 ((lost+qr B.length:Nat):Int)) rfl
   have k36:=(HK4.out.trans HK5.out fE).trans k6 iL
   have kX:=(HX4.out.trans HK5.out fE).trans k6 (fun k hk=>.inl (by rw [show k=bp from hk];exact HH.out.xp))
   have k13:Kept (fun k=>S k∨k=bs) w w3:=HK2.out.trans HK3.out (fun k hk=>(HS2.out k hk).1.imp .inl id)
   have hx:=zG.aft HH.out k13 (fun k hk=>⟨(HS2.out k (HS3.out k hk)).1,HD3.out.lt k hk⟩) k36 hh6
   have hd6:=HD3.out.kept k36 (fun k hk e=>HNB.out (by rw [←show k=bp from e];exact HS3.out k hk))
   rw [show D2.flush=D2 from if_pos hfz2] at hd6
   exact⟨S3,D2,kX,HAFT.out.reads1,HAFT.out.size.trans hsz,.inr ⟨rfl,hd6,HCO.out,hx⟩⟩
end
end keep
namespace keep
open law (qe zc qv xm zR jI cB Yt OutIs)
open keys (ze zd zr zn zu)
section
variable {M:zc} {w w':World} {bp bd bs:Nat} {S S':Nat→Prop} {D D':Dk} {V V':qe}
theorem Qs{P:qe→Prop}(h:M.Could D P):M.Could {D with reads:=0} P:=⟨h.few,h.big,h.all⟩
theorem Qt{P:qe→Prop}(h:M.Could D P)(ks:List Bool):M.Could {D with bs:=zj D.bs (xO D.ps ks),ps:=[],fuse:= -1} P:=
 ⟨Nat.zero_le _,by show 64≤(zj D.bs (xO D.ps ks)).length;rw [zB];exact h.big,fun _=>h.all ks⟩
theorem Qu{P:qe→Prop}(A:qv M)(hM:∀f,M.Fu f→f≠0)(hd:zh w bd S D)(hl:M.Could D P)(hf:M.Fu D.fuse)(hr0:0≤D.reads)(hr1:D.reads≤1000000000000)(hz:D.bs.length=1000)(hn:∀V,P V→V.n0≤1000000000000000000):
 Calls Tryz.prog 35 #[.pointer (some ⟨bd,0,none⟩)] w fun e w'=>∃bs S' D' V,e=.returned (.tuple #[.pointer (some ⟨bs,0,none⟩),.int .i64 0])∧P V∧zR M w' bd bs S' D' V∧w.heap.size≤bs∧(∀k,S' k→S k∨w.heap.size≤k)∧Kept S w w'∧D'.reads≤D.reads+2000∧D'.bs.length=1000:=by
 refine(A.big w bd S D P hd hl hf hr0 (by omega)).mono ?_
 rintro e w' ⟨D',S',hop,⟨bs,U,rfl,hbs,hSbs,hsto,hP,hlive⟩|⟨rfl,h0,hc⟩⟩
 ·have h1:=hop.reads0
  have h2:=hop.reads1
  have h3:=hn U hP
  rw [hz] at h2
  exact⟨bs,S',D',U,rfl,hP,⟨hop.disk,hSbs,hsto,hlive,hop.fuse,by omega,by omega,by omega⟩,hbs,hop.foot,hop.kept,by omega,hop.size.trans hz⟩
 ·exact absurd h0 (hM _ hop.fuse)
theorem cI(A:qv M)(hM:∀f,M.Fu f→f≠0)(P:qe→Prop)(s l:Value)(last gone lost:Int)(hh:w.heap[bp]? =some (qL (.pointer (some ⟨bd,0,none⟩)) s l last gone lost))(hd:zh w bd S D)(hl:M.Could D P)(pS:¬S bp)(hz:D.bs.length=1000)(hn:∀V,P V→V.n0≤1000000000000000000)(Q:Nat→Prop)(ka:Option Addr)(kc:Nat)(ks:List Bool)(hk:dn w Q ka ks)(hQ:∀k,Q k→¬S k)(hkl:ks.length≤140737488355326):
 Calls Tryz.prog 16 #[.pointer (some ⟨bp,0,none⟩),.slice ka ks.length kc] w fun e w'=>e=.returned (.tuple #[])∧∃bd' bs' S' D' V,P V∧w'.heap[bp]? =some (qL (.pointer (some ⟨bd',0,none⟩)) (.pointer (some ⟨bs',0,none⟩)) l last gone lost)∧zR M w' bd' bs' S' D' V∧w.heap.size≤bs'∧(∀k,S' k→w.heap.size≤k)∧Kept (fun k=>S k∨k=bp) w w'∧D'.reads≤2000∧D'.bs.length=1000:=by
 have hbp:bp<w.heap.size:=(lT hh)
 have HH:Hid (w.heap[bp]? =some (qL (.pointer (some ⟨bd,0,none⟩)) s l last gone lost)):=hh
 have HL:Hid (M.Could D P):=hl
 have HPS:Hid (¬S bp):=pS
 obtain⟨hc0,_,_,_,_,_,_,_⟩:=qk hh
 obtain⟨ba,pa,bc,pc,hda⟩:=hd
 have HDA:Hid (zi w bd S D ba pa bc pc):=hda
 have HKS:Hid (∀j,j<ks.length→∃kb ko,ka=some ⟨kb,ko,none⟩∧¬S kb∧kb<w.heap.size∧w.cell? ⟨kb,ko+j,none⟩=some (.bool (ks.getD j false))):=fun j hj=>by
  obtain⟨kb,ko,h1,h2,h3,h4⟩:=hk j hj
  exact⟨kb,ko,h1,hQ kb h2,h3,h4⟩
 clear hh hl pS hda hk hQ
 go_enter Tryz.func16,Tryz.ntmps16
 go_wp2_with fail
 refine(Kp w bd S D ba pa bc pc HDA.out ka ks kc (by omega) HKS.out).mono ?_
 rintro e w1 ⟨rfl,⟨S1,hd1,hS1⟩,hk1⟩
 have hh1:w1.heap[bp]? =_:=(hk1.block bp hbp HPS.out).trans HH.out
 obtain⟨hc01,_,_,_,_,_,_,_⟩:=qk hh1
 have HH1:Hid (w1.heap[bp]? =some (qL (.pointer (some ⟨bd,0,none⟩)) s l last gone lost)):=hh1
 have HK1:Hid (Kept S w w1):=hk1
 have hs1:=hk1.size
 have hl1:=Qt HL.out ks
 have hz1:(zj D.bs (xO D.ps ks)).length=1000:=by rw [zB];exact hz
 have hf1:M.Fu (-1):=M.fu_neg
 generalize hD1:({D with bs:=zj D.bs (xO D.ps ks),ps:=[],fuse:= -1}:Dk)=D1 at*
 have hz1':D1.bs.length=1000:=by rw [←hD1];exact hz1
 have hf1':M.Fu D1.fuse:=by rw [←hD1];exact hf1
 have hp1:D1.ps.length≤68719476736:=by rw [←hD1];simp
 obtain⟨ba1,pa1,bc1,pc1,hda1⟩:=hd1
 have HD1:Hid (zi w1 bd S1 D1 ba1 pa1 bc1 pc1):=hda1
 have HL1:Hid (M.Could D1 P):=hl1
 have HF1:Hid (M.Fu D1.fuse):=hf1'
 clear hh1 hk1 hl1 hz1 hf1 hda1 hD1 hS1
 go_wp2_with fail
 refine(Kq w1 bd S1 D1 ba1 pa1 bc1 pc1 HD1.out hp1).mono ?_
 rintro e w2 ⟨rfl,⟨S2,hd2,hS2⟩,hk2⟩
 have hh2:w2.heap[bp]? =_:=(hk2.block bp (by omega) (fun hf=>hf)).trans HH1.out
 obtain⟨hc02,_,_,_,_,_,_,hfz2⟩:=qk hh2
 have hf02:=hfz2 0
 have HH2:Hid (w2.heap[bp]? =some (qL (.pointer (some ⟨bd,0,none⟩)) s l last gone lost)):=hh2
 have HK2:Hid (Kept (fun _=>False) w1 w2):=hk2
 have hs2:=hk2.size
 have HD2:Hid (zh w2 w1.heap.size S2 {D1 with reads:=0 }):=hd2
 have HS2:Hid (∀k,S2 k→w1.heap.size≤k):=hS2
 clear hh2 hk2 hd2 hS2 hfz2
 go_wp2_with fail
 have hh3:(w2.setCell ⟨bp,0,none⟩ (.pointer (some ⟨w1.heap.size,0,none⟩))).heap[bp]? =some (qL (.pointer (some ⟨w1.heap.size,0,none⟩)) s l last gone lost):=heap_setCell_same w2 bp 0 _ _ _ HH2.out
 have k3:=Kept.setCell (S:=fun k=>k=bp) w2 ⟨bp,0,none⟩ (.pointer (some ⟨w1.heap.size,0,none⟩)) rfl
 generalize w2.setCell ⟨bp,0,none⟩ (.pointer (some ⟨w1.heap.size,0,none⟩))=w3 at*
 have hd3:zh w3 w1.heap.size S2 {D1 with reads:=0}:=HD2.out.kept k3 (fun k hk e=>by have:=HS2.out k hk;have e':k=bp:=e;omega)
 have HK3:Hid (Kept (fun k=>k=bp) w2 w3):=k3
 have hs3:=k3.size
 refine(Qu A hM hd3 (Qs HL1.out) (by exact HF1.out) (by show (0:Int)≤0;omega) (by show (0:Int)≤_;omega) (by exact hz1') hn).mono ?_
 rintro e w4 ⟨bs',S4,D4,V,rfl,hPV,hF4,hbs4,hS4,hk4,hr4,hz4⟩
 have hh4:w4.heap[bp]? =_:=(hk4.block bp (by omega) (fun hc=>by have:=HS2.out bp hc;omega)).trans hh3
 obtain⟨hc04,hc14,_,_,_,_,hc64,hfz4⟩:=qk hh4
 have hf14:=hfz4 1
 have hf64:=hfz4 6
 have HH4:Hid (w4.heap[bp]? =some (qL (.pointer (some ⟨w1.heap.size,0,none⟩)) s l last gone lost)):=hh4
 have HF4:Hid (zR M w4 w1.heap.size bs' S4 D4 V):=hF4
 have HK4:Hid (Kept S2 w3 w4):=hk4
 have HPV:Hid (P V):=hPV
 have HS4:Hid (∀k,S4 k→w1.heap.size≤k):=fun k hk=>(hS4 k hk).elim (HS2.out k) (fun h=>by omega)
 have hs4:=hk4.size
 have hr4':D4.reads≤2000:=by have e:({D1 with reads:=0}:Dk).reads=0:=rfl;omega
 clear hPV hh4 hF4 hk4 hS4 hfz4 hd3 k3 hh3
 go_wp2_with fail
 go_end0
 have hh5:((w4.setCell ⟨bp,1,none⟩ (.pointer (some ⟨bs',0,none⟩))).setCell ⟨bp,6,none⟩ (.bool true)).heap[bp]? =some (qL (.pointer (some ⟨w1.heap.size,0,none⟩)) (.pointer (some ⟨bs',0,none⟩)) l last gone lost):=by
  have e1:=heap_setCell_same w4 bp 1 _ _ (.pointer (some ⟨bs',0,none⟩)) HH4.out
  exact heap_setCell_same _ bp 6 _ _ (.bool true) e1
 have k5:Kept (fun k=>k=bp) w4 ((w4.setCell ⟨bp,1,none⟩ (.pointer (some ⟨bs',0,none⟩))).setCell ⟨bp,6,none⟩ (.bool true)):=(Kept.setCell (S:=fun k=>k=bp) w4 ⟨bp,1,none⟩ _ rfl).trans (Kept.setCell (S:=fun k=>k=bp) _ ⟨bp,6,none⟩ _ rfl) iL
 refine⟨rfl,w1.heap.size,bs',S4,D4,V,HPV.out,hh5,zR.kept HF4.out k5 (fun k hk e=>by have:=HS4.out k hk;have e':k=bp:=e;omega) (fun e=>by omega),by omega,fun k hk=>by have:=HS4.out k hk;omega,?_,hr4',hz4⟩
 refine(((((HK1.out.mono iL).trans HK2.out fE).trans HK3.out (fun k hk=>.inl (.inr hk))).trans HK4.out (fun k hk=>.inr ?_))).trans k5 (fun k hk=>.inl (.inr hk))
 have:=HS2.out k hk;omega
end
end keep
namespace keep
section
variable {w w' w2:World} {X T:Nat→Prop} {bp bd bs:Nat} {S S2:Nat→Prop} {vs:List qa} {last gone:Int} {lost:Nat} {a:Option Addr} {cap:Nat} {cs:List (List Value)} {G:Nat→Prop}
theorem zG.erased(h:zG w X bp bd bs S vs last gone lost a cap cs G)(k2:Kept (fun k=>S k∨k=bs) w w2)(hS2:∀k,S2 k→(S k∨w.heap.size≤k)∧k<w2.heap.size)(i:Nat)(hi:i<vs.length)
 (w4:World) (k4:Kept (fun _=>False) w2 w4) (a4:Option Addr) (c4 n4:Nat) (hn4:n4+1=vs.length) (hown:w4.ownsRow 0 85 3 (.slice a4 n4 c4) n4 (cut cs i).flatten) (hat:∀k,(Value.slice a4 n4 c4).ownBlock=some k→w2.heap.size≤k):
 zG (w4.setCell ⟨bp,2,none⟩ (.slice a4 n4 c4)) (fun k=>X k∨(w.heap.size≤k∧k<(w4.setCell ⟨bp,2,none⟩ (.slice a4 n4 c4)).heap.size)) bp bd bs S2 (cut vs i) last gone lost a4 c4 (cut cs i) G∧Kept X w (w4.setCell ⟨bp,2,none⟩ (.slice a4 n4 c4))∧Kept (fun k=>k=bp) w2 (w4.setCell ⟨bp,2,none⟩ (.slice a4 n4 c4)):=by
 have hbp:=h.lt
 have hbs:=h.xlt bs h.xb
 have s2:=k2.size
 have s4:=k4.size
 have hl:(cut vs i).length=n4:=by have:=gk vs i hi;omega
 have k6:=Kept.setCell (S:=fun k=>k=bp) w4 ⟨bp,2,none⟩ (.slice a4 n4 c4) rfl
 have k26:Kept (fun k=>k=bp) w2 (w4.setCell ⟨bp,2,none⟩ (.slice a4 n4 c4)):=(k4.mono fE).trans k6 iL
 have s6:=k6.size
 have hS2n:∀k,k<w.heap.size→¬S k→¬S2 k:=fun k h1 h2 h3=>by rcases (hS2 k h3).1 with h4|h4;exact h2 h4;omega
 have hrow:∀k,(Value.slice a4 (cut vs i).length c4).ownBlock=some k→w2.heap.size≤k∧k<w4.heap.size:=fun k hk=>by rw [hl] at hk;exact⟨hat k hk,(hown.lt k hk).2⟩
 refine⟨⟨?_,?_,?_,?_,?_,.inl h.xb,.inl h.xp,?_,fun k hk=>.inl (h.xG k hk),hS2n bp hbp h.pS,h.pb,?_,?_⟩,?_,k26⟩
 ·have e:w4.heap[bp]? =_:=(k4.block bp (by omega) (fun hf=>hf)).trans ((k2.block bp hbp (fun hc=>hc.elim h.pS h.pb)).trans h.head)
  rw [heap_setCell_same w4 bp 2 _ _ _ e,hl];rfl
 ·rw [hl]
  exact k6.owns hown (fun k hk e=>by have:=hat k hk;omega)
 ·refine((h.told.kept k2 (fun k hk hc=>?_)).kept k26 (fun k hk e=>(h.gS k hk).2.2.1 e)).cut i hi
  have:=h.gS k hk
  exact hc.elim this.1 this.2.1
 ·intro k hk
  rcases hk with hk|⟨_,hk⟩
  ·have:=h.xlt k hk;omega
  ·exact hk
 ·intro k hk
  rcases hS2 k hk with⟨h1|h1,h2⟩
  ·exact .inl (h.xS k h1)
  ·exact .inr ⟨h1,by omega⟩
 ·intro k hk
  have:=hrow k hk
  exact .inr ⟨by omega,by omega⟩
 ·intro k hk
  have:=hrow k hk
  exact⟨fun hs=>by have:=(hS2 k hs).2;omega,by omega,by omega⟩
 ·intro k hk
  have:=h.gS k hk
  have hlt:=h.xlt k (h.xG k hk)
  exact⟨hS2n k hlt this.1,this.2.1,this.2.2.1,fun e=>by have:=hrow k e;omega⟩
 ·refine(k2.mono (fun k hk=>?_)).trans k26 (fun k hk=>.inl (by rw [show k=bp from hk];exact h.xp))
  rcases hk with hk|rfl
  ·exact h.xS k hk
  ·exact h.xb
end
end keep
namespace keep
open law (qe zc qv ym zR jI cB Chg Yt)
open keys (ze zd zr zn zu)
section
variable {M:zc} {w w':World} {X T:Nat→Prop} {bp bd bs:Nat} {S:Nat→Prop} {D:Dk} {V:qe} {vs:List qa} {last gone:Int} {lost:Nat} {a:Option Addr} {cap:Nat} {cs:List (List Value)} {G:Nat→Prop}
set_option maxRecDepth 60000 in
theorem Qv(A:ym M)(h:zG w X bp bd bs S vs last gone lost a cap cs G)(F:zR M w bd bs S D V)(hsz:D.bs.length=1000)(hH:yk V vs last lost)(hrd:D.reads≤1000000000000000000)(hn0:V.n0≤1000000000000000000)(hw:vs.length≤6000)(hwt:weight V.vs≤480)(i:Nat)(hi:i<vs.length):
 Calls Tryz.prog 33 #[.pointer (some ⟨bp,0,none⟩),.int .i64 (i:Int)] w fun e w'=>∃S' D',Kept X w w'∧D'.reads≤D.reads+40∧D'.bs.length=1000∧
  ((e=.returned (.bool true)∧zR M w' bd bs S' D' (V.sub vs[i].key vs[i].num)∧∃a' cap' cs' G',zG w' (fun k=>X k∨(w.heap.size≤k∧k<w'.heap.size)) bp bd bs S' (cut vs i) last gone lost a' cap' cs' G')∨
   (e=.returned (.bool false)∧zh w' bd S' D'∧M.Could D' (fun U=>U=V∨U=V.sub vs[i].key vs[i].num)∧zG w' (fun k=>X k∨(w.heap.size≤k∧k<w'.heap.size)) bp bd bs S' vs last i lost a cap cs G)):=by
 obtain⟨hc0,hc1,hc2,hc3,hc4,hc5,hc6,hfz⟩:=qk h.head
 have HFO:Hid (zR M w bd bs S D V):=F
 have hrd0:=F.reads0
 obtain⟨g,rfl⟩:=h.rowAt (by omega)
 obtain⟨k0,k1,_⟩:=h.cells i hi
 have HH:Hid (zG w X bp bd bs S vs last gone lost (some ⟨g,0,none⟩) cap cs G):=h
 have hg:=F.live.good
 have hmem:=hH.sub _ (List.getElem_mem hi)
 have HKY:Hid (zu vs[i].key.data.toList=true):=hg.key _ hmem
 have hnum:=hg.num _ hmem
 have HNU:Hid (zD vs[i].num):=⟨by omega,by omega⟩
 have hks:=cH HKY.out
 have HFI:Hid (Vl (zu vs[i].key.data.toList) (qX V.vs vs[i].key vs[i].num)=0):=by show _=_;rw [HKY.out,dp hg.apart hmem];rfl
 generalize vs[i].key=ky at*
 generalize vs[i].num=nu at*
 have hiI:(i:Int)<(vs.length:Int):=by omega
 have hbp:=h.lt
 have hbs:=h.xlt bs h.xb
 have hgr:=h.rS g rfl
 have hgx:=h.xlt g (h.xr g rfl)
 have hcl:=h.told.len
 have hcap:vs.length≤cap∧cap≤maxLen:=by
  rcases h.row.2 with⟨h0,h1⟩|⟨g',cap',cur,hv,_,_,h2,h3,_⟩
  ·cases h0
  ·cases hv;exact⟨h2,h3⟩
 have hcap2:cap≤9223372036854775807:=by have:=hcap.2;unfold maxLen at this;omega
 have hcapI:(vs.length:Int)≤(cap:Int):=by omega
 have hi1:(i:Int)+1≤(vs.length:Int):=by omega
 have hwi:IntKind.i64.wrap ((i:Int)+1)=(i:Int)+1:=IntWalk.i64_in _ (by omega)
 obtain⟨i0,hi0,hz0,hz1,hz2⟩:=y5 Tryz.infoKp
 have HI0:Hid (Tryz.prog.info? 85=some i0∧i0.zero=some (.agg #[.string ⟨#[]⟩,.int .i64 0,.slice none 0 0])∧i0.size=3∧i0.bytes=48):=⟨hi0,hz0,hz1,hz2⟩
 have HONE:=h.told.one
 have HTH:=h.told.three
 have H3:Hid (∀c∈cs,c.length=3):=HTH
 have H1:Hid (∀u∈cs.flatten,u.oneCell'=true):=HONE
 clear h hg hi0 hz0 hz1 hz2 hc0 hc3 hc4 hc5 hc6 hfz HONE HTH hnum hmem F hH
 go_enter Tryz.func33,Tryz.ntmps33
 go_wp2_with fail
 go_region_held3 (fun w'=>w'.cell? ⟨bp,1,none⟩=some (.pointer (some ⟨bs,0,none⟩))∧w'.cell? ⟨bp,2,none⟩=some (.slice (some ⟨g,0,none⟩) vs.length cap)∧w'.cell? ⟨g,i*3,none⟩=some (.string ky)∧w'.cell? ⟨g,i*3+1,none⟩=some (.int .i64 nu)) (go_keep) ((go_at_call 31;refine(A.live w.drew bd bs S D V ky nu (zR.kept HFO.out (Kept.drew (fun _=>False) w) nF (fun hf=>hf)) (by unfold maxLen;omega) HNU.out).mono ?_;rw [HFI.out];rintro e w2 ⟨D2,S2,c,q,rfl,ha2,hchg⟩;have HAFT:Hid (jI M w.drew w2 bd bs S S2 D D2 40 q):=ha2;have HCHG:Hid (Chg M D D2 V (V.sub ky nu) bd 0 c 0 q):=hchg;have HA2:Hid (Kept (fun k=>S k∨k=bs) w w2):=⟨ha2.kept.os,ha2.kept.tape,ha2.kept.output,ha2.kept.size,ha2.kept.block⟩;have HS2:Hid (∀k,S2 k→(S k∨w.heap.size≤k)∧k<w2.heap.size):=(fun k hk=>⟨ha2.foot k hk,ha2.disk.lt k hk⟩);have hh2:w2.heap[bp]? =_:=(HA2.out.block bp hbp (fun hc=>hc.elim HH.out.pS HH.out.pb)).trans HH.out.head;have HH2:Hid (w2.heap[bp]? =some (qL (.pointer (some ⟨bd,0,none⟩)) (.pointer (some ⟨bs,0,none⟩)) (.slice (some ⟨g,0,none⟩) vs.length cap) last gone (lost:Nat))):=hh2;have hc12:w2.cell? ⟨bp,1,none⟩=some (.pointer (some ⟨bs,0,none⟩)):=(cell_of_row w2 bp 1 _ _ _ hh2).trans rfl;have hc22:w2.cell? ⟨bp,2,none⟩=some (.slice (some ⟨g,0,none⟩) vs.length cap):=(cell_of_row w2 bp 2 _ _ _ hh2).trans rfl;have k02:w2.cell? ⟨g,i*3,none⟩=some (.string ky):=(HA2.out.cell (a:=⟨g,i*3,none⟩) hgx (fun hc=>hc.elim hgr.1 hgr.2.1)).trans k0;have k12:w2.cell? ⟨g,i*3+1,none⟩=some (.int .i64 nu):=(HA2.out.cell (a:=⟨g,i*3+1,none⟩) hgx (fun hc=>hc.elim hgr.1 hgr.2.1)).trans k1;clear ha2 hchg hh2))
 have HNB:Hid (¬S2 bp):=fun hk=>by
  rcases (HS2.out bp hk).1 with h|h
  ·exact HH.out.pS h
  ·omega
 have hr0:=HAFT.out.reads0
 have hr1:=HAFT.out.reads1
 have HCASE:(c=7∧D2.fuse=0∧M.Could D2 (fun U=>U=V∨U=V.sub ky nu))∨(c=0∧q=some bd∧M.Live D2 (V.sub ky nu)):=by
  rcases HCHG.out.is with h|h|h|h
  ·exact absurd rfl h.1
  ·exact .inr h.2
  ·exact absurd h.2.2.2.2 (by unfold xT;rw [hsz];simp only [decide_eq_false_iff_not];omega)
  ·exact .inl ⟨h.2.1,h.2.2.2⟩
 rcases HCASE with⟨rfl,hfz2,hcould⟩|⟨rfl,rfl,hlive⟩
 ·have HZ:Hid ((D2.fuse==0)=true):=by show _=_;rw [hfz2];rfl
  have HCO:Hid (M.Could D2 (fun U=>U=V∨U=V.sub ky nu)):=hcould
  have hio:zD D2.fuse:=by rw [hfz2];constructor<;>omega
  have hc20:=(qk HH2.out).1
  have hbp2:bp<w2.heap.size:=by have:=HA2.out.size;omega
  clear hcould
  go_wp2_with (go_at_call 40;refine(yc w2 bd S2 D2 HAFT.out.disk hio).mono ?_;rintro e w3 ⟨rfl,⟨S3,hd3,hS3⟩,hk3⟩;rw [HZ.out];have HD3:Hid (zh w3 bd S3 D2.flush):=hd3;have HS3:Hid (∀k,S3 k→S2 k):=hS3;have HK3:Hid (Kept S2 w2 w3):=hk3;have hh3:w3.heap[bp]? =some (qL (.pointer (some ⟨bd,0,none⟩)) (.pointer (some ⟨bs,0,none⟩)) (.slice (some ⟨g,0,none⟩) vs.length cap) last gone (lost:Nat)):=(hk3.block bp hbp2 HNB.out).trans HH2.out;have HH3:Hid (w3.heap[bp]? =some (qL (.pointer (some ⟨bd,0,none⟩)) (.pointer (some ⟨bs,0,none⟩)) (.slice (some ⟨g,0,none⟩) vs.length cap) last gone (lost:Nat))):=hh3;have hc36:w3.cell? ⟨bp,6,none⟩=some (.bool true):=(qk hh3).2.2.2.2.2.2.1;have hc34:w3.cell? ⟨bp,4,none⟩=some (.int .i64 gone):=(qk hh3).2.2.2.2.1;have hf36:=(qk hh3).2.2.2.2.2.2.2 6;have hf34:=(qk hh3).2.2.2.2.2.2.2 4;have hbp3:bp<w3.heap.size:=(lT hh3);clear hd3 hS3 hk3 hh3)
  go_ret
  have e1:=heap_setCell_same w3 bp 6 _ _ (.bool true) HH3.out
  have hh6:=heap_setCell_same _ bp 4 _ _ (.int .i64 (i:Int)) e1
  have k36:Kept (fun k=>k=bp) w3 ((w3.setCell ⟨bp,6,none⟩ (.bool true)).setCell ⟨bp,4,none⟩ (.int .i64 (i:Int))):=(Kept.setCell (S:=fun k=>k=bp) w3 ⟨bp,6,none⟩ _ rfl).trans (Kept.setCell (S:=fun k=>k=bp) _ ⟨bp,4,none⟩ _ rfl) iL
  have k13:Kept (fun k=>S k∨k=bs) w w3:=HA2.out.trans HK3.out (fun k hk=>(HS2.out k hk).1.imp .inl id)
  have kX:Kept X w ((w3.setCell ⟨bp,6,none⟩ (.bool true)).setCell ⟨bp,4,none⟩ (.int .i64 (i:Int))):=(k13.mono (fun k hk=>by
   rcases hk with hk|rfl
   ·exact HH.out.xS k hk
   ·exact HH.out.xb)).trans k36 (fun k hk=>.inl (by rw [show k=bp from hk];exact HH.out.xp))
  have hx:=zG.aft HH.out k13 (fun k hk=>⟨(HS2.out k (HS3.out k hk)).1,HD3.out.lt k hk⟩) k36 hh6
  have hd6:=HD3.out.kept k36 (fun k hk e=>HNB.out (by rw [←show k=bp from e];exact HS3.out k hk))
  rw [show D2.flush=D2 from if_pos hfz2] at hd6
  exact⟨S3,D2,kX,hr1,HAFT.out.size.trans hsz,.inr ⟨rfl,hd6,HCO.out,hx⟩⟩
 have HF2:Hid (zR M w2 bd bs S2 D2 (V.sub ky nu)):=⟨HAFT.out.disk,fun hk=>by
  rcases (HS2.out bs hk).1 with h|h
  ·exact HFO.out.apart h
  ·omega,HAFT.out.sto,hlive,HAFT.out.fuse,by omega,by omega,by show V.n0≤_;omega⟩
 have HR2:Hid (w2.ownsRow 0 85 3 (.slice (some ⟨g,0,none⟩) vs.length cap) vs.length cs.flatten):=HA2.out.owns HH.out.row (fun k hk hc=>by have:=HH.out.rS k hk;exact hc.elim this.1 this.2.1)
 have hs2:=HA2.out.size
 have htk:(cs.take i).length=i:=by rw [List.length_take];omega
 have HT3:Hid (∀c∈cs.take i,c.length=3):=fun c hc=>H3.out c (List.mem_of_mem_take hc)
 have HFL:Hid (cs.flatten=(cs.take i).flatten++(cs.drop i).flatten):=by show cs.flatten=_;rw [←List.flatten_append,List.take_append_drop]
 have HN1:Hid (∀(j:Nat) (u:Value),(cs.take i).flatten[j]? =some u→w2.cell? ((⟨g,0,none⟩:Addr).add j)=some u):=fun j u hu=>HR2.out.cells (g:=g) rfl j u (by
  rw [HFL.out,List.getElem?_append_left (List.getElem?_eq_some_iff.1 hu).1];exact hu)
 have HO1:Hid (∀u∈(cs.take i).flatten,u.oneCell'=true):=fun u hu=>H1.out u (by rw [HFL.out];exact List.mem_append_left _ hu)
 have HCF:Hid ((cut cs i).flatten=(cs.take i).flatten++(cs.drop (i+1)).flatten):=by show (cut cs i).flatten=_;unfold cut;rw [List.flatten_append]
 have hdl:(cs.drop (i+1)).length=vs.length-(i+1):=by rw [List.length_drop,hcl]
 have HT4:Hid (∀c∈cs.drop (i+1),c.length=3):=fun c hc=>H3.out c (List.mem_of_mem_drop hc)
 have HFD:Hid (cs.flatten=(cs.take (i+1)).flatten++(cs.drop (i+1)).flatten):=by show cs.flatten=_;rw [←List.flatten_append,List.take_append_drop]
 have hti:(cs.take (i+1)).flatten.length=(i+1)*3:=by rw [qY (fun c hc=>H3.out c (List.mem_of_mem_take hc)),List.length_take];omega
 have HTI:Hid ((cs.take (i+1)).flatten.length=(i+1)*3):=hti
 have HN2:Hid (∀w9:World,Kept (fun _=>False) w2 w9→∀(j:Nat) (u:Value),(cs.drop (i+1)).flatten[j]? =some u→w9.cell? ((⟨g,(i+1)*3,none⟩:Addr).add j)=some u):=fun w9 k9 j u hu=>by
  have h1:=(k9.owns HR2.out nF).cells (g:=g) rfl ((i+1)*3+j) u (by
   rw [HFD.out,List.getElem?_append_right (by rw [HTI.out];omega),HTI.out,Nat.add_sub_cancel_left];exact hu)
  rw [Addr.add_mid] at h1 ⊢
  rw [Nat.zero_add] at h1
  exact h1
 have HO2:Hid (∀u∈(cs.drop (i+1)).flatten,u.oneCell'=true):=fun u hu=>H1.out u (by rw [HFD.out];exact List.mem_append_right _ hu)
 clear hti
 by_cases hce:cap=i+1
 ·subst hce
  have hvi:vs.length≤i+1:=by omega
  have HDN:Hid ((cs.drop (i+1)).flatten=[]):=by show _=_;rw [List.drop_of_length_le (by omega)];rfl
  go_wp2_with (first
   |(refine wpList_append_own rfl (.tmp 31) (.tmp 37) 31 rfl 85 i0 _ 3 48 Tryz.underlying31 HI0.out.1 HI0.out.2.1 HI0.out.2.2.1 HI0.out.2.2.2 rfl (by omega) (.slice none 0 0) 0 [] (by rfl) (World.ownsRow_nil _ _ _ _) ⟨g,0,none⟩ i (i+1) (cs.take i).flatten (by rfl) (by rw [qY HT3.out,htk]) HN1.out HO1.out (by unfold maxLen;omega) (by omega) ?_;intro a3 c3 w3 hown3 hgrow3 hat3;have HOW3:Hid (w3.ownsRow 0 85 3 (.slice a3 i c3) i (cs.take i).flatten):=(by have h9:=hown3;rw [Nat.zero_add,List.nil_append] at h9;exact h9);have HK3:Hid (Kept (fun _=>False) w2 w3):=Kept.grown hgrow3 (fun k hk=>by cases hk);have HAT3:Hid (∀k,(Value.slice a3 i c3).ownBlock=some k→w2.heap.size≤k):=(fun k hk=>xV (by have h9:=hat3;rw [Nat.zero_add] at h9;exact h9) (Nat.le_refl _) (fun j hj=>by cases hj) hk);have hh3:w3.heap[bp]? =_:=(HK3.out.block bp (by omega) (fun hf=>hf)).trans HH2.out;have HH3:Hid (w3.heap[bp]? =some (qL (.pointer (some ⟨bd,0,none⟩)) (.pointer (some ⟨bs,0,none⟩)) (.slice (some ⟨g,0,none⟩) vs.length (i+1)) last gone (lost:Nat))):=hh3;have hc23:w3.cell? ⟨bp,2,none⟩=some (.slice (some ⟨g,0,none⟩) vs.length (i+1)):=(cell_of_row w3 bp 2 _ _ _ hh3).trans rfl;have hf23:=frozen_of_row w3 bp 2 _ _ hh3;clear hown3 hgrow3 hat3 hh3)
   |(refine wpList_append_own rfl (.tmp 40) (.tmp 47) 31 rfl 85 i0 _ 3 48 Tryz.underlying31 HI0.out.1 HI0.out.2.1 HI0.out.2.2.1 HI0.out.2.2.2 rfl (by omega) (.slice a3 i c3) i (cs.take i).flatten (by rfl) (by exact HOW3.out) ⟨g,0,none⟩ 0 0 [] (by rfl) (by rfl) (fun j u hu=>by cases hu) (fun u hu=>by cases hu) (by unfold maxLen;omega) (by omega) ?_;intro a4 c4 w4 hown4 hgrow4 hat4;have HX:Hid _:=zG.erased HH.out HA2.out HS2.out i hi w4 (by exact(HK3.out.trans (Kept.grown (S:=fun k=>w2.heap.size≤k) hgrow4 (fun k hk=>HAT3.out k hk)) (fun k hk=>.inr hk))) a4 c4 (i+0) (by omega) (by rw [HCF.out,HDN.out];exact hown4) (fun k hk=>xV hat4 HK3.out.size HAT3.out hk);have k34:Kept (fun k=>w2.heap.size≤k) w3 w4:=Kept.grown hgrow4 (fun k hk=>HAT3.out k hk);have hh4:w4.heap[bp]? =_:=(k34.block bp (by have:=HK3.out.size;omega) (by omega)).trans HH3.out;have hc24:w4.cell? ⟨bp,2,none⟩=some (.slice (some ⟨g,0,none⟩) vs.length (i+1)):=(cell_of_row w4 bp 2 _ _ _ hh4).trans rfl;have hf24:=frozen_of_row w4 bp 2 _ _ hh4;clear hown4 hgrow4 hat4 k34 hh4))
  all_goals
   go_ret
   exact⟨S2,D2,HX.out.2.1,hr1,HAFT.out.size.trans hsz,.inl ⟨rfl,zR.kept HF2.out HX.out.2.2 (fun k hk e=>HNB.out (by rw [←show k=bp from e];exact hk)) (fun e=>HH.out.pb e.symm),_,_,_,_,HX.out.1⟩⟩
 ·go_wp2_with (first
   |(refine wpList_append_own rfl (.tmp 31) (.tmp 37) 31 rfl 85 i0 _ 3 48 Tryz.underlying31 HI0.out.1 HI0.out.2.1 HI0.out.2.2.1 HI0.out.2.2.2 rfl (by omega) (.slice none 0 0) 0 [] (by rfl) (World.ownsRow_nil _ _ _ _) ⟨g,0,none⟩ i cap (cs.take i).flatten (by rfl) (by rw [qY HT3.out,htk]) HN1.out HO1.out (by unfold maxLen;omega) (by omega) ?_;intro a3 c3 w3 hown3 hgrow3 hat3;have HOW3:Hid (w3.ownsRow 0 85 3 (.slice a3 i c3) i (cs.take i).flatten):=(by have h9:=hown3;rw [Nat.zero_add,List.nil_append] at h9;exact h9);have HK3:Hid (Kept (fun _=>False) w2 w3):=Kept.grown hgrow3 (fun k hk=>by cases hk);have HAT3:Hid (∀k,(Value.slice a3 i c3).ownBlock=some k→w2.heap.size≤k):=(fun k hk=>xV (by have h9:=hat3;rw [Nat.zero_add] at h9;exact h9) (Nat.le_refl _) (fun j hj=>by cases hj) hk);have hh3:w3.heap[bp]? =_:=(HK3.out.block bp (by omega) (fun hf=>hf)).trans HH2.out;have HH3:Hid (w3.heap[bp]? =some (qL (.pointer (some ⟨bd,0,none⟩)) (.pointer (some ⟨bs,0,none⟩)) (.slice (some ⟨g,0,none⟩) vs.length cap) last gone (lost:Nat))):=hh3;have hc23:w3.cell? ⟨bp,2,none⟩=some (.slice (some ⟨g,0,none⟩) vs.length cap):=(cell_of_row w3 bp 2 _ _ _ hh3).trans rfl;have hf23:=frozen_of_row w3 bp 2 _ _ hh3;clear hown3 hgrow3 hat3 hh3)
   |(refine wpList_append_own rfl (.tmp 40) (.tmp 47) 31 rfl 85 i0 _ 3 48 Tryz.underlying31 HI0.out.1 HI0.out.2.1 HI0.out.2.2.1 HI0.out.2.2.2 rfl (by omega) (.slice a3 i c3) i (cs.take i).flatten (by rfl) (by exact HOW3.out) ⟨g,(i+1)*3,none⟩ (vs.length-(i+1)) (cap-(i+1)) (cs.drop (i+1)).flatten (by rfl) (by rw [qY HT4.out,hdl]) (by exact HN2.out _ HK3.out) HO2.out (by unfold maxLen;omega) (by omega) ?_;intro a4 c4 w4 hown4 hgrow4 hat4;have HX:Hid _:=zG.erased HH.out HA2.out HS2.out i hi w4 (by exact(HK3.out.trans (Kept.grown (S:=fun k=>w2.heap.size≤k) hgrow4 (fun k hk=>HAT3.out k hk)) (fun k hk=>.inr hk))) a4 c4 (i+(vs.length-(i+1))) (by omega) (by rw [HCF.out];exact hown4) (fun k hk=>xV hat4 HK3.out.size HAT3.out hk);have k34:Kept (fun k=>w2.heap.size≤k) w3 w4:=Kept.grown hgrow4 (fun k hk=>HAT3.out k hk);have hh4:w4.heap[bp]? =_:=(k34.block bp (by have:=HK3.out.size;omega) (by omega)).trans HH3.out;have hc24:w4.cell? ⟨bp,2,none⟩=some (.slice (some ⟨g,0,none⟩) vs.length cap):=(cell_of_row w4 bp 2 _ _ _ hh4).trans rfl;have hf24:=frozen_of_row w4 bp 2 _ _ hh4;clear hown4 hgrow4 hat4 k34 hh4))
  all_goals
   go_ret
   exact⟨S2,D2,HX.out.2.1,hr1,HAFT.out.size.trans hsz,.inl ⟨rfl,zR.kept HF2.out HX.out.2.2 (fun k hk e=>HNB.out (by rw [←show k=bp from e];exact hk)) (fun e=>HH.out.pb e.symm),_,_,_,_,HX.out.1⟩⟩
end
end keep
namespace keep
open law (qe zc qv xm zR jI cB Yt OutIs)
open keys (ze zd zr zn zu)
structure jL (v:qa):Prop where
 mark:v.mark=false
 key:zu v.key.data.toList=true
 body:v.body.length≤300
 num:1≤v.num∧v.num≤1000000000000000000
theorem yk.fine{V:qe}{vs:List qa}{last:Int}{lost:Nat}(h:yk V vs last lost)(g:law.Good V)(hn:V.n0≤1000000000000000000):∀v∈vs,jL v:=fun v hv=>
 ⟨h.plain v hv,g.key v (h.sub v hv),g.body v (h.sub v hv),(g.num v (h.sub v hv)).1,by have:=(g.num v (h.sub v hv)).2;omega⟩
def xf(V:qe)(vs:List qa)(gone:Int):Prop:=∀j (hj:j<vs.length),vs[j]∈V.vs∨((j:Int)=gone∧qX V.vs vs[j].key vs[j].num=none)
theorem yk.here{V:qe}{vs:List qa}{last:Int}{lost:Nat}(h:yk V vs last lost)(gone:Int):xf V vs gone:=fun j hj=>.inl (h.sub _ (List.getElem_mem hj))
theorem vr.here{V:qe}{vs:List qa}{i:Nat}{last:Int}{lost:Nat}(h:vr V vs i last lost):xf V vs (i:Int):=by
 rcases h with h|⟨hi,h,hf⟩
 ·exact h.here _
 ·intro j hj
  by_cases e:j=i
  ·subst e;exact .inr ⟨rfl,hf⟩
  ·exact .inl (h.sub _ (Ks vs i j hj e))
section
variable {M:zc} {w w':World} {X T:Nat→Prop} {bp bd bs:Nat} {S S':Nat→Prop} {D D':Dk} {V:qe} {vs:List qa} {last gone:Int} {lost:Nat} {a:Option Addr} {cap:Nat} {cs:List (List Value)} {G:Nat→Prop} {most:Int} {q:Option Nat}
theorem zG.call(h:zG w X bp bd bs S vs last gone lost a cap cs G)(ha:jI M w w' bd bs S S' D D' most q):zG w' (fun k=>X k∨(w.heap.size≤k∧k<w'.heap.size)) bp bd bs S' vs last gone lost a cap cs G∧Kept X w w':=
 ⟨h.aft ha.kept (fun k hk=>⟨ha.foot k hk,ha.disk.lt k hk⟩) (Kept.refl _ _) ((ha.kept.block bp h.lt (fun hc=>hc.elim h.pS h.pb)).trans h.head),ha.kept.mono (fun k hk=>hk.elim (h.xS k) (fun e=>by rw [e];exact h.xb))⟩
theorem Vq(A:xm M)(F:zR M w bd bs S D V)(v:qa)(hv:jL v)(h:v∈V.vs∨qX V.vs v.key v.num=none):
 Calls Tryz.prog 42 #[.pointer (some ⟨bs,0,none⟩),.string v.key,.int .i64 v.num] w fun e w'=>∃S' D' a cap n c,e=.returned (.tuple #[.slice a n cap,.int .i64 c])∧jI M w w' bd bs S S' D D' 40 (some bd)∧M.Live D' V∧
  ((c=0∧v∈V.vs∧n=v.body.length∧zv w' (fun _=>True) a v.body)∨(c=5∧n=0∧qX V.vs v.key v.num=none)):=by
 have hks:=cH hv.key
 have hn:=hv.num
 refine(A.live w bd bs S D V v.key v.num F (by unfold maxLen;omega) ⟨by omega,by omega⟩).mono ?_
 rintro e w' ⟨D',x,S',rfl,ha,hl,hout,hx⟩
 rcases h with h|h
 ·have hfs:=dp F.live.good.apart h
  have e1:gy (zu v.key.data.toList) (qX V.vs v.key v.num)=0:=by
   rw [hv.key,hfs]
   show cond v.mark 5 0=0
   rw [hv.mark];rfl
  rw [e1] at hout ⊢
  obtain⟨u,hu,a,cap,rfl,hrow,_⟩:=hout.1 rfl
  rw [hfs] at hu
  obtain rfl:v=u:=by simpa using hu
  exact⟨S',D',a,cap,_,0,rfl,ha,hl,.inl ⟨rfl,h,rfl,zv.of_own 5 hrow rfl _ (fun _ _=>trivial)⟩⟩
 ·have e1:gy (zu v.key.data.toList) (qX V.vs v.key v.num)=5:=by rw [hv.key,h];rfl
  rw [e1] at hout ⊢
  obtain⟨a,cap,rfl⟩:=hout.2 (by decide)
  exact⟨S',D',a,cap,0,5,rfl,ha,hl,.inr ⟨rfl,rfl,h⟩⟩
theorem Xb(w:World)(Q:Nat→Prop)(a b:Option Addr)(ca cb:Nat)(l:List UInt8)(hb:zv w Q b l)(hl:l.length≤140737488355326):
 Calls Tryz.prog 29 #[.slice a 0 ca,.slice b l.length cb] w fun e w'=>∃r:Bool,e=.returned (.bool r)∧∃n,w'=w.drewN n:=by
 by_cases h0:l=[]
 ·subst h0
  exact(cE w (fun _=>True) Q a b ca cb [] (.inl rfl) hb hl).mono (fun e w' h=>⟨true,h⟩)
 ·have hp:0<l.length:=List.length_pos_iff.2 h0
  have hne:((0:Int)=(l.length:Int))=False:=by simp;omega
  have hbq:((0:Int)==(l.length:Int))=false:=by simp;omega
  clear hb h0
  go_enter Tryz.func29,Tryz.ntmps29
  go_wp2
  go_ret
  exact⟨false,rfl,0,rfl⟩
set_option maxRecDepth 60000 in
theorem Qw(A:xm M)(h:zG w X bp bd bs S vs last gone lost a cap cs G)(F:zR M w bd bs S D V)(hv:∀v∈vs,jL v)(hh:xf V vs gone)(hr:D.reads≤1000000000000000000)(hl:vs.length≤6000)(hg:zD gone):
 Calls Tryz.prog 17 #[.pointer (some ⟨bp,0,none⟩)] w fun e w'=>e=.returned (.bool true)∧∃X' S' D',zG w' X' bp bd bs S' vs last gone lost a cap cs G∧zR M w' bd bs S' D' V∧D'.reads≤D.reads+40*(vs.length:Int)∧D'.bs.length=D.bs.length∧Kept X w w'∧∀k,X' k→X k∨w.heap.size≤k:=by
 have HH:Hid (zG w X bp bd bs S vs last gone lost a cap cs G):=h
 have HF:Hid (zR M w bd bs S D V):=F
 have HV:Hid (∀v∈vs,jL v):=hv
 have HE:Hid (xf V vs gone):=hh
 clear h F hv hh
 go_enter Tryz.func17,Tryz.ntmps17
 go_wp2_with fail
 go_loopw [3] (fun t wr=>∃i:Nat,i≤vs.length∧t=.int .i64 i∧∃X' S' D',zG wr X' bp bd bs S' vs last gone lost a cap cs G∧zR M wr bd bs S' D' V∧D'.reads≤D.reads+40*(i:Int)∧D'.bs.length=D.bs.length∧Kept X w wr∧∀k,X' k→X k∨w.heap.size≤k) (fun t _=>vs.length-(intOf t).toNat)
 case atStart=>exact⟨0,Nat.zero_le _,rfl,X,S,D,HH.out,HF.out,by omega,rfl,Kept.refl _ _,fun k hk=>.inl hk⟩
 case round=>
  obtain⟨i,hi,rfl,X1,S1,D1,hs,hf,hr',hz',hk1,hx1⟩:=hrel
  have HS:Hid (zG wr X1 bp bd bs S1 vs last gone lost a cap cs G):=hs
  have HFR:Hid (zR M wr bd bs S1 D1 V):=hf
  have HK1:Hid (Kept X w wr):=hk1
  have HX1:Hid (∀k,X1 k→X k∨w.heap.size≤k):=hx1
  obtain⟨_,hc1,hc2,_,hc4,_,_,_⟩:=qk hs.head
  clear hs hf hk1 hx1
  by_cases hlt:i<vs.length
  ·have hiI:(i:Int)<(vs.length:Int):=by omega
   obtain⟨g,rfl⟩:=HS.out.rowAt (by omega)
   obtain⟨k0,k1,_⟩:=HS.out.cells i hlt
   have HFV:Hid (jL vs[i]):=HV.out _ (List.getElem_mem hlt)
   have HHR:Hid (vs[i]∈V.vs∨((i:Int)=gone∧qX V.vs vs[i].key vs[i].num=none)):=HE.out i hlt
   have HVI:Hid (vs[i]? =some vs[i]):=by show _=_;simp
   generalize vs[i]=v at*
   have hvb:=HFV.out.body
   have HEV:Hid (vs[i]=v):=by show vs[i]=v;have:=HVI.out;rw [List.getElem?_eq_getElem hlt] at this;exact Option.some.inj this
   go_wp2_with fail
   go_region_held3 (fun w'=>w'.cell? ⟨bp,1,none⟩=some (.pointer (some ⟨bs,0,none⟩))∧w'.cell? ⟨bp,2,none⟩=some (.slice (some ⟨g,0,none⟩) vs.length cap)∧w'.cell? ⟨g,i*3,none⟩=some (.string v.key)∧w'.cell? ⟨g,i*3+1,none⟩=some (.int .i64 v.num)) (go_keep) ((go_at_call 42;refine(Vq A (zR.kept HFR.out (Kept.drew (fun _=>False) wr) nF (fun hf=>hf)) v HFV.out (HHR.out.imp id (fun h=>h.2))).mono ?_;rintro e w2 ⟨S2,D2,a2,c2,n2,c,rfl,ha2,hl2,hcase⟩;have hx2:=(HS.out.kept (Kept.drew (fun _=>False) wr) nF).call ha2;have HK2:Hid (Kept X1 wr w2):=⟨hx2.2.os,hx2.2.tape,hx2.2.output,hx2.2.size,hx2.2.block⟩;have HS2:Hid (zG w2 (fun k=>X1 k∨(wr.heap.size≤k∧k<w2.heap.size)) bp bd bs S2 vs last gone lost (some ⟨g,0,none⟩) cap cs G):=hx2.1;have hrd2:=ha2.reads1;have hz2:=ha2.size;have HF2:Hid (zR M w2 bd bs S2 D2 V):=zR.aft (zR.kept HFR.out (Kept.drew (fun _=>False) wr) nF (fun hf=>hf)) ha2 hl2 (by omega);have HC2:Hid _:=hcase;obtain⟨_,hc12,hc22,_,hc42,_,_,_⟩:=qk hx2.1.head;obtain⟨k02,k12,a3,c3,k2,hb3⟩:=hx2.1.cells i hlt;rw [HEV.out] at k02 k12 k2 hb3;have HB3:Hid (zv w2 G a3 v.body):=hb3;clear ha2 hl2 hcase hx2 hb3))
   rcases HC2.out with⟨rfl,_,rfl,hb2⟩|⟨rfl,rfl,hfn⟩
   ·have HB2:Hid (zv w2 (fun _=>True) a2 v.body):=hb2
    clear hb2 HC2
    go_wp2_with fail
    refine(cE w2 (fun _=>True) G a2 a3 c2 c3 v.body HB2.out HB3.out (by omega)).mono ?_
    rintro e w3 ⟨rfl,n3,hw3⟩
    have k3:Kept (fun _=>False) w2 w3:=by rw [hw3];exact kD
    have HK3:Hid (Kept (fun _=>False) w2 w3):=k3
    clear hw3 k3
    go_wp2
    go_roundw
    case rel=>exact⟨i+1,by omega,by go_num,_,S2,D2,HS2.out.kept HK3.out nF,zR.kept HF2.out HK3.out nF (fun hf=>hf),by push_cast;omega,by omega,(HK1.out.trans HK2.out HX1.out).trans HK3.out fE,fun k hk=>hk.elim (HX1.out k) (fun h=>.inr (by have:=HK1.out.size;omega))⟩
    case measure=>simp [intOf];omega
   ·have hig:(i:Int)=gone:=by
     rcases HHR.out with h|h
     ·exact absurd ⟨rfl,rfl⟩ (jd hfn v h)
     ·exact h.1
    clear hfn HC2
    subst hig
    go_wp2_with fail
    refine(Xb w2 G a2 a3 c2 c3 v.body HB3.out (by omega)).mono ?_
    rintro e w3 ⟨r,rfl,n3,hw3⟩
    have k3:Kept (fun _=>False) w2 w3:=by rw [hw3];exact kD
    have HK3:Hid (Kept (fun _=>False) w2 w3):=k3
    obtain⟨_,_,_,_,hc43,_,_,_⟩:=qk (HS2.out.kept k3 nF).head
    clear hw3 k3
    go_wp2
    go_roundw
    case rel=>exact⟨i+1,by omega,by go_num,_,S2,D2,HS2.out.kept HK3.out nF,zR.kept HF2.out HK3.out nF (fun hf=>hf),by push_cast;omega,by omega,(HK1.out.trans HK2.out HX1.out).trans HK3.out fE,fun k hk=>hk.elim (HX1.out k) (fun h=>.inr (by have:=HK1.out.size;omega))⟩
    case measure=>simp [intOf];omega
  ·have hd:decide ((i:Int)<(vs.length:Int))=false:=decide_eq_false (by omega)
   have hie:i=vs.length:=by omega
   subst hie
   go_wp2
   go_ret
   exact⟨rfl,X1,S1,D1,HS.out,HFR.out,hr',hz',HK1.out,HX1.out⟩
end
def qh(M:zc)(w:World)(X:Nat→Prop)(bp:Nat)(D:Dk)(V:qe)(vs:List qa)(last gone:Int)(lost:Nat):Prop:=∃bd bs S a cap cs G,zG w X bp bd bs S vs last gone lost a cap cs G∧zR M w bd bs S D V
def vt(U:qe)(vs:List qa)(last gone:Int)(lost:Nat):Prop:=(gone= -1∧yk U vs last lost)∨∃i:Nat,gone=(i:Int)∧i<vs.length∧vr U vs i last lost
structure Vr (M N:zc):Prop where
 could:∀D P,M.Could D P→N.Could D P
 fore:∀w bd bs S D V,zR N w bd bs S D V→zR M w bd bs S D V
 none:∀f,N.Fu f→f≠0
 every:∀f,zD f→M.Fu f
section
variable {M N:zc} {w w':World} {X T:Nat→Prop} {bp bd bs bd' bs':Nat} {S S':Nat→Prop} {D D':Dk} {V U:qe} {vs:List qa} {last gone:Int} {lost:Nat} {a:Option Addr} {cap:Nat} {cs:List (List Value)} {G:Nat→Prop}
theorem vt.here(h:vt U vs last gone lost):xf U vs gone:=by
 rcases h with⟨_,h⟩|⟨i,rfl,_,h⟩
 ·exact h.here _
 ·exact h.here
theorem vt.num(h:vt U vs last gone lost)(hl:vs.length≤6000):zD gone:=by
 rcases h with⟨rfl,_⟩|⟨i,rfl,hi,_⟩<;>constructor<;>omega
theorem qh.kept(h:qh M w X bp D V vs last gone lost)(k:Kept T w w')(hn:∀i,X i→¬T i):qh M w' X bp D V vs last gone lost:=by
 obtain⟨bd,bs,S,a,cap,cs,G,h,F⟩:=h
 exact⟨bd,bs,S,a,cap,cs,G,h.kept k hn,zR.kept F k (fun i hi=>hn i (h.xS i hi)) (hn bs h.xb)⟩
theorem zG.moved(h:zG w X bp bd bs S vs last gone lost a cap cs G)(k:Kept (fun k=>S k∨k=bp) w w')(hh:w'.heap[bp]? =some (qL (.pointer (some ⟨bd',0,none⟩)) (.pointer (some ⟨bs',0,none⟩)) (.slice a vs.length cap) last gone (lost:Nat)))(hS:∀k,S' k→w.heap.size≤k∧k<w'.heap.size)(hb:w.heap.size≤bs'∧bs'<w'.heap.size):
 zG w' (fun k=>X k∨(w.heap.size≤k∧k<w'.heap.size)) bp bd' bs' S' vs last gone lost a cap cs G∧Kept X w w':=by
 have s:=k.size
 have old:∀k,X k→¬S' k∧k≠bs':=fun k hX=>⟨fun hc=>by have:=h.xlt k hX;have:=hS k hc;omega,fun e=>by have:=h.xlt k hX;omega⟩
 refine⟨⟨hh,k.owns h.row (fun i hi hc=>?_),h.told.kept k (fun i hi hc=>?_),fun i hi=>?_,fun i hi=>.inr (hS i hi),.inr hb,.inl h.xp,fun i hi=>.inl (h.xr i hi),fun i hi=>.inl (h.xG i hi),(old bp h.xp).1,(old bp h.xp).2,fun i hi=>⟨(old i (h.xr i hi)).1,(old i (h.xr i hi)).2,(h.rS i hi).2.2⟩,fun i hi=>⟨(old i (h.xG i hi)).1,(old i (h.xG i hi)).2,(h.gS i hi).2.2⟩⟩,k.mono (fun i hi=>hi.elim (h.xS i) (fun e=>by rw [e];exact h.xp))⟩
 ·exact hc.elim (h.rS i hi).1 (h.rS i hi).2.2
 ·exact hc.elim (h.gS i hi).1 (h.gS i hi).2.2.1
 ·rcases hi with hi|hi
  ·have:=h.xlt i hi;omega
  ·exact hi.2
theorem dq(A:qv N)(hT:Vr M N)(h:zG w X bp bd bs S vs last gone lost a cap cs G)(hd:zh w bd S D)(n:Int)(hn:n≤1000000000000000000)(hc:M.Could D (fun U=>vt U vs last gone lost∧U.n0≤n))(hz:D.bs.length=1000)(Q:Nat→Prop)(ka:Option Addr)(kc:Nat)(ks:List Bool)(hk:dn w Q ka ks)(hQ:∀k,Q k→¬X k)(hkl:ks.length≤140737488355326):
 Calls Tryz.prog 16 #[.pointer (some ⟨bp,0,none⟩),.slice ka ks.length kc] w fun e w'=>e=.returned (.tuple #[])∧∃X' D' V,qh M w' X' bp D' V vs last gone lost∧vt V vs last gone lost∧V.n0≤n∧D'.reads≤2000∧D'.bs.length=1000∧Kept X w w'∧∀k,X' k→X k∨w.heap.size≤k:=by
 refine(cI A hT.none _ _ _ last gone lost h.head hd (hT.could _ _ hc) h.pS hz (fun V hV=>by have:=hV.2;omega) Q ka kc ks hk (fun k hk hs=>hQ k hk (h.xS k hs)) hkl).mono ?_
 rintro e w' ⟨rfl,bd',bs',S',D',V,hP,hh,hF,hbs,hS,hk',hr,hz'⟩
 obtain⟨h1,h2⟩:=h.moved hk' hh (fun k hk=>⟨hS k hk,hF.disk.lt k hk⟩) ⟨hbs,N.sto_lt _ _ _ hF.sto⟩
 exact⟨rfl,_,D',V,⟨_,_,_,_,_,_,_,h1,hT.fore _ _ _ _ _ _ hF⟩,hP.1,hP.2,hr,hz',h2,fun k hk=>hk.imp id (fun h=>h.1)⟩
theorem gI(A:xm M)(h:qh M w X bp D V vs last gone lost)(hv:∀v∈vs,jL v)(hg:vt V vs last gone lost)(hr:D.reads≤1000000000000000000)(hl:vs.length≤6000):
 Calls Tryz.prog 17 #[.pointer (some ⟨bp,0,none⟩)] w fun e w'=>e=.returned (.bool true)∧∃X' D',qh M w' X' bp D' V vs last gone lost∧D'.reads≤D.reads+40*(vs.length:Int)∧D'.bs.length=D.bs.length∧Kept X w w'∧∀k,X' k→X k∨w.heap.size≤k:=by
 obtain⟨bd,bs,S,a,cap,cs,G,h,F⟩:=h
 refine(Qw A h F hv hg.here hr hl (hg.num hl)).mono ?_
 rintro e w' ⟨rfl,X',S',D',h1,h2,h3,h4,h5,h6⟩
 exact⟨rfl,X',D',⟨_,_,_,_,_,_,_,h1,h2⟩,h3,h4,h5,h6⟩
end
end keep
end Go.Proofs.YtcoengihaobddaaGreatDoor
