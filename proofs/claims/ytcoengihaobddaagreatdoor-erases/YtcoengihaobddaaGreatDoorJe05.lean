/- Part 5 of 28 of a proof: Book2, Book3, Append2, Book4, Lent, Law1 -/
import Derived.Test.YtcoengihaobddaaGreatDoorJe04
import Derived.Deep.QuietTactic
import Derived.BigQuiet
import Derived.Deep.RegionWith
import Derived.Test.YtcoengihaobddaaGreatDoorJe01
import Derived.Lib.SliceRun
namespace Go.Proofs.YtcoengihaobddaaGreatDoor.book
open Go.ChangeShapes Go.WideShapes Go.ChangeAt Go.RowKit disk ref
open keys (ret_int ret_bool beq_no beq_yes)
set_option linter.unusedVariables false
structure Ent where
 g:Nat
 ss:List (Option Addr×Nat×Nat)
 P:Nat→Prop
def Ent.val (e:Ent):Value:=.slice (some ⟨e.g,0,none⟩) e.ss.length 4
structure BookM (w:World) (F:Nat→Prop) (v:Value) (es:List Ent) (m:Nat→Int):Prop where
 row:w.ownsRow 0 179 1 v es.length (es.map Ent.val)
 lets:∀i (hi:i<es.length),Lets w es[i].P es[i].g es[i].ss
 are:∀i (hi:i<es.length),Lets.Are w es[i].ss (.int .u8 (m i))
 apart:∀i j (hi:i<es.length) (hj:j<es.length),i≠j→∀k,es[i].P k→¬es[j].P k∧k≠es[j].g
 row2:∀i (hi:i<es.length) k,es[i].P k→v.ownBlock≠some k
 foot:∀i (hi:i<es.length),F es[i].g∧∀k,es[i].P k→F k
 foot2:∀k,v.ownBlock=some k→F k
theorem BookM.kept {w w':World} {F T:Nat→Prop} {v:Value} {es:List Ent} {m:Nat→Int} (h:BookM w F v es m) (k:Kept T w w') (hn:∀i,F i→¬T i):BookM w' F v es m:=
 ⟨k.owns h.row (fun i hi=>hn i (h.foot2 i hi)),fun i hi=>(h.lets i hi).kept k (fun j hj=>hn j ((h.foot i hi).2 j hj)) (hn _ (h.foot i hi).1),
  fun i hi=>(h.are i hi).kept (h.lets i hi) k (fun j hj=>hn j ((h.foot i hi).2 j hj)),h.apart,h.row2,h.foot,h.foot2⟩
theorem BookM.cell {w:World} {F:Nat→Prop} {g cap:Nat} {es:List Ent} {m:Nat→Int} (h:BookM w F (.slice (some ⟨g,0,none⟩) es.length cap) es m) (i:Nat) (hi:i<es.length):w.cell? ⟨g,i,none⟩=some (.slice (some ⟨es[i].g,0,none⟩) es[i].ss.length 4):=by
 have:=h.row.cells (g:=g) rfl i es[i].val (by simp [hi])
 rw [Addr.add_mid] at this
 simpa [Ent.val] using this
theorem BookM.rowAt {w:World} {F:Nat→Prop} {a:Option Addr} {cap:Nat} {es:List Ent} {m:Nat→Int} (h:BookM w F (.slice a es.length cap) es m) (hn:0<es.length):∃g,a=some ⟨g,0,none⟩:=by
 rcases h.row.2 with ⟨h0,h1⟩|⟨g,cap',cur,hv,_⟩
 ·omega
 ·cases hv;exact ⟨g,rfl⟩
theorem BookM.wrote {w w':World} {F:Nat→Prop} {v:Value} {es:List Ent} {m:Nat→Int} (h:BookM w F v es m) (i:Nat) (hi:i<es.length) (z:Int) (hl:Lets w' es[i].P es[i].g es[i].ss) (ha:Lets.Are w' es[i].ss (.int .u8 z)) (k:Kept es[i].P w w')
 (m':Nat→Int) (hm:m' i=z) (hm2:∀j,j≠i→m' j=m j):BookM w' F v es m':=by
 refine ⟨k.owns h.row (fun j hj hc=>h.row2 i hi j hc hj),fun j hj=>?_,fun j hj=>?_,h.apart,h.row2,h.foot,h.foot2⟩
 ·by_cases e:j=i
  ·subst e;exact hl
  ·exact (h.lets j hj).kept k (fun x hx hc=>(h.apart i j hi hj (Ne.symm e) x hc).1 hx) (fun hc=>(h.apart i j hi hj (Ne.symm e) _ hc).2 rfl)
 ·by_cases e:j=i
  ·subst e;rw [hm];exact ha
  ·rw [hm2 j e];exact (h.are j hj).kept (h.lets j hj) k (fun x hx hc=>(h.apart i j hi hj (Ne.symm e) x hc).1 hx)
structure PlayHead (w:World) (bp:Nat) (l a b:Value):Prop where
 head:w.heap[bp]? =some (.cells #[l,a,b] 79 (0,0))
theorem PlayHead.c {w:World} {bp:Nat} {l a b:Value} (h:PlayHead w bp l a b):w.cell? ⟨bp,0,none⟩=some l∧w.cell? ⟨bp,1,none⟩=some a∧w.cell? ⟨bp,2,none⟩=some b∧∀i,w.frozen? ⟨bp,i,none⟩=false:=
 ⟨by rw [cell_of_row w bp 0 _ _ _ h.head];rfl,by rw [cell_of_row w bp 1 _ _ _ h.head];rfl,by rw [cell_of_row w bp 2 _ _ _ h.head];rfl,fun i=>frozen_of_row w bp i _ _ h.head⟩
theorem PlayHead.lt {w:World} {bp:Nat} {l a b:Value} (h:PlayHead w bp l a b):bp<w.heap.size:=(Array.getElem?_eq_some_iff.1 h.head).1
theorem PlayHead.kept {w w':World} {T:Nat→Prop} {bp:Nat} {l a b:Value} (h:PlayHead w bp l a b) (k:Kept T w w') (hn:¬T bp):PlayHead w' bp l a b:=⟨(k.block bp h.lt hn).trans h.head⟩
theorem BookM.marks {w:World} {F:Nat→Prop} {v:Value} {es:List Ent} {m m':Nat→Int} (h:BookM w F v es m) (hm:∀i,i<es.length→m i=m' i):BookM w F v es m':=
 ⟨h.row,h.lets,fun i hi=>by rw [←hm i hi];exact h.are i hi,h.apart,h.row2,h.foot,h.foot2⟩
theorem digB_bd (i d:Nat):0≤digB i d∧digB i d≤255:=by
 unfold digB;have:=Nat.mod_lt (i/251^d) (show 0<251 by omega);omega
set_option maxHeartbeats 2000000 in
theorem wholeBytes_any (w:World) (bp:Nat) (l b:Value) (F:Nat→Prop) (a:Option Addr) (cap:Nat) (es:List Ent) (hp:PlayHead w bp l (.slice a es.length cap) b) (hF:¬F bp) (h:BookM w F (.slice a es.length cap) es (fun i=>digB i 0)) (hlen:es.length≤4398046511104):
 Calls Tryz.prog 64 #[.pointer (some ⟨bp,1,none⟩)] w fun e w'=>e=.returned (.bool true)∧BookM w' F (.slice a es.length cap) es (fun i=>digB i 0)∧Kept F w w':=by
 have HH:Hid _:=h
 have HP:Hid _:=hp
 have hbp:=hp.lt
 clear h hp
 go_enter Tryz.func64,Tryz.ntmps64
 go_wp2
 go_loopw [3] (fun t wr=>∃k:Nat,k≤es.length∧t=.int .i64 k∧BookM wr F (.slice a es.length cap) es (fun i=>digB i 0)∧PlayHead wr bp l (.slice a es.length cap) b∧Kept F w wr) (fun t _=>es.length-(intOf t).toNat)
 case atStart=>exact ⟨0,Nat.zero_le _,rfl,HH.out,HP.out,Kept.refl _ _⟩
 case round=>
  obtain ⟨k,hk,rfl,hb,hp,hkept⟩:=hrel
  have HB:Hid (BookM wr F (.slice a es.length cap) es (fun i=>digB i 0)):=hb
  have HP2:Hid _:=hp
  have HK:Hid _:=hkept
  have hc1:=hp.c.2.1
  clear hb hp hkept
  by_cases hlt:k<es.length
  ·obtain ⟨g,rfl⟩:=HB.out.rowAt (by omega)
   have hck:=HB.out.cell k hlt
   go_wp2
   go_quiet ((first
    |(go_at_call 112;exact Calls.quiet_of_same (digit_int _ _ _ (by omega) (by omega) (by omega) (by omega)))
    |(go_at_call 111;exact Calls.quiet_of_same (reads_any _ es[k].P es[k].g 4 es[k].ss (by exact (HB.out.lets k hlt).kept (T:=fun _=>False) (⟨rfl,rfl,rfl,Nat.le_refl _,fun _ _ _=>rfl⟩) (fun _ _ hf=>hf) (fun hf=>hf)) _ (by exact (HB.out.are k hlt).kept (HB.out.lets k hlt) (T:=fun _=>False) (⟨rfl,rfl,rfl,Nat.le_refl _,fun _ _ _=>rfl⟩) (fun _ _ hf=>hf))))))
   go_wp2
   go_roundw
   case rel=>exact ⟨k+1,by omega,by go_num,HB.out.kept (T:=fun _=>False) ⟨rfl,rfl,rfl,Nat.le_refl _,fun _ _ _=>rfl⟩ (fun _ _ hf=>hf),HP2.out.kept (T:=fun _=>False) ⟨rfl,rfl,rfl,Nat.le_refl _,fun _ _ _=>rfl⟩ (fun hf=>hf),HK.out.trans (S':=fun _=>False) ⟨rfl,rfl,rfl,Nat.le_refl _,fun _ _ _=>rfl⟩ (fun _ hf=>hf.elim)⟩
   case measure=>simp [intOf];omega
  ·go_wp2
   go_loopw [5] (fun t wr=>∃(d:Int) (m:Nat→Int), -1≤d∧d≤2∧t=.int .i64 d∧BookM wr F (.slice a es.length cap) es m∧(d= -1→∀i,i<es.length→m i=digB i 0)∧PlayHead wr bp l (.slice a es.length cap) b∧Kept F w wr) (fun t _=>(intOf t+1).toNat)
   case atStart=>exact ⟨2,_,by omega,by omega,rfl,HB.out,fun h=>by omega,HP2.out,HK.out⟩
   case round=>
    obtain ⟨d,m,hd0,hd1,rfl,hb,hm,hp,hkept⟩:=hrel
    have HB3:Hid (BookM wr F (.slice a es.length cap) es m):=hb
    have HP3:Hid _:=hp
    have HK3:Hid _:=hkept
    have HM:Hid _:=hm
    clear hb hp hkept hm
    by_cases hd:0≤d
    ·go_wp2
     go_loopw [6] (fun t wr=>∃(j:Nat),j≤es.length∧t=.int .i64 j∧BookM wr F (.slice a es.length cap) es (fun i=>if i<j then digB i d.toNat else m i)∧PlayHead wr bp l (.slice a es.length cap) b∧Kept F w wr) (fun t _=>es.length-(intOf t).toNat)
     case atStart=>exact ⟨0,Nat.zero_le _,rfl,HB3.out.marks (fun i hi=>by simp),HP3.out,HK3.out⟩
     case round=>
      obtain ⟨j,hj,rfl,hb,hp,hkept⟩:=hrel
      have HB4:Hid (BookM wr F (.slice a es.length cap) es (fun i=>if i<j then digB i d.toNat else m i)):=hb
      have HP4:Hid _:=hp
      have HK4:Hid _:=hkept
      have hc1:=hp.c.2.1
      clear hb hp hkept
      by_cases hlt2:j<es.length
      ·obtain ⟨g,rfl⟩:=HB4.out.rowAt (by omega)
       have hck:=HB4.out.cell j hlt2
       go_wp2
       go_region_with ((first
        |(go_at_call 112;refine (digit_int _ _ _ (by omega) (by omega) (by omega) (by omega)).mono ?_;rintro e w' ⟨rfl,rfl⟩)
        |(go_at_call 113;refine (write_any _ es[j].P es[j].g 4 es[j].ss (by exact (HB4.out.lets j hlt2).kept (T:=fun _=>False) ⟨rfl,rfl,rfl,Nat.le_refl _,fun _ _ _=>rfl⟩ (fun _ _ hf=>hf) (fun hf=>hf)) _ (by exact (digB_bd _ _).1) (by exact (digB_bd _ _).2)).mono ?_;rintro e w3 ⟨rfl,hl3,ha3,hk3⟩;have HL3:Hid _:=hl3;have HA3:Hid (Lets.Are w3 es[j].ss _):=ha3;have HKK:Hid _:=hk3;clear hl3 ha3 hk3)))
       all_goals
        go_wp2
        go_roundw
        case rel=>
         refine ⟨j+1,by omega,by go_num,(HB4.out.kept (Kept.drew (fun _=>False) wr) (fun _ _ hf=>hf)).wrote j hlt2 _ HL3.out HA3.out HKK.out _ (by simp) (fun i hi=>?_),(HP4.out.kept (Kept.drew (fun _=>False) wr) (fun hf=>hf)).kept HKK.out (fun hc=>hF ((HB4.out.foot j hlt2).2 _ hc)),
          (HK4.out.trans (Kept.drew (fun _=>False) wr) (fun _ hf=>hf.elim)).trans HKK.out (fun i hc=>.inl ((HB4.out.foot j hlt2).2 _ hc))⟩
         have e:(i<j+1)=(i<j):=propext (by omega)
         simp only [e]
        case measure=>simp [intOf];omega
      ·go_wp2
       go_loopw [7] (fun t wr=>∃(q:Nat),q≤es.length∧t=.int .i64 q∧BookM wr F (.slice a es.length cap) es (fun i=>digB i d.toNat)∧PlayHead wr bp l (.slice a es.length cap) b∧Kept F w wr) (fun t _=>es.length-(intOf t).toNat)
       case atStart=>exact ⟨0,Nat.zero_le _,rfl,HB4.out.marks (fun i hi=>by rw [if_pos (by omega)]),HP4.out,HK4.out⟩
       case round=>
        obtain ⟨q,hq,rfl,hb,hp,hkept⟩:=hrel
        have HB5:Hid (BookM wr F (.slice a es.length cap) es (fun i=>digB i d.toNat)):=hb
        have HP5:Hid _:=hp
        have HK5:Hid _:=hkept
        have hc1:=hp.c.2.1
        clear hb hp hkept
        by_cases hlt3:q<es.length
        ·obtain ⟨g,rfl⟩:=HB5.out.rowAt (by omega)
         have hck:=HB5.out.cell q hlt3
         go_wp2
         go_quiet ((first
          |(go_at_call 112;exact Calls.quiet_of_same (digit_int _ _ _ (by omega) (by omega) (by omega) (by omega)))
          |(go_at_call 111;exact Calls.quiet_of_same (reads_any _ es[q].P es[q].g 4 es[q].ss (by exact (HB5.out.lets q hlt3).kept (T:=fun _=>False) (⟨rfl,rfl,rfl,Nat.le_refl _,fun _ _ _=>rfl⟩) (fun _ _ hf=>hf) (fun hf=>hf)) _ (by exact (HB5.out.are q hlt3).kept (HB5.out.lets q hlt3) (T:=fun _=>False) (⟨rfl,rfl,rfl,Nat.le_refl _,fun _ _ _=>rfl⟩) (fun _ _ hf=>hf))))))
         go_wp2
         go_roundw
         case rel=>exact ⟨q+1,by omega,by go_num,HB5.out.kept (T:=fun _=>False) ⟨rfl,rfl,rfl,Nat.le_refl _,fun _ _ _=>rfl⟩ (fun _ _ hf=>hf),HP5.out.kept (T:=fun _=>False) ⟨rfl,rfl,rfl,Nat.le_refl _,fun _ _ _=>rfl⟩ (fun hf=>hf),HK5.out.trans (S':=fun _=>False) ⟨rfl,rfl,rfl,Nat.le_refl _,fun _ _ _=>rfl⟩ (fun _ hf=>hf.elim)⟩
         case measure=>simp [intOf];omega
        ·go_wp2
         go_roundw
         case rel=>exact ⟨d-1,_,by omega,by omega,rfl,HB5.out,fun h i hi=>by rw [show d.toNat=0 from by omega],HP5.out,HK5.out⟩
         case measure=>simp [intOf];omega
    ·go_wp2
     go_ret
     exact ⟨rfl,HB3.out.marks (fun i hi=>HM.out (by omega) i hi),HK3.out⟩
def mineB:ByteArray:=⟨#[40,109,105,110,101,41]⟩
def mineV (i:Nat):List Value:=[.string mineB,.int .i64 (i:Int),.bool false,.int .i64 0]
structure Vets (w:World) (P:Nat→Prop) (g:Nat) (ss:List (Option Addr×Nat×Nat)) (i:Nat):Prop where
 head:w.heap[g]? =some (.cells (ss.map sliceV).toArray 44 (0,0))
 are:∀s∈ss,∀j,j<s.2.1→∃b,s.1=some ⟨b,0,none⟩∧P b∧b<w.heap.size∧w.rangeAt b (j*4) (mineV i)
 few:∀s∈ss,s.2.1≤9223372036854775807
 len:ss.length≤100
theorem Vets.kept {w w':World} {P T:Nat→Prop} {g:Nat} {ss:List (Option Addr×Nat×Nat)} {i:Nat} (h:Vets w P g ss i) (k:Kept T w w') (hn:∀i,P i→¬T i) (hg:¬T g):Vets w' P g ss i:=
 ⟨(k.block g (Array.getElem?_eq_some_iff.1 h.head).1 hg).trans h.head,fun s hs j hj=>by
   obtain ⟨b,h1,h2,h3,h4⟩:=h.are s hs j hj
   exact ⟨b,h1,h2,Nat.lt_of_lt_of_le h3 k.size,fun t v hv=>(k.cell (a:=⟨b,j*4+t,none⟩) h3 (hn b h2)).trans (h4 t v hv)⟩,h.few,h.len⟩
theorem Vets.cell {w:World} {P:Nat→Prop} {g:Nat} {ss:List (Option Addr×Nat×Nat)} {q:Nat} (h:Vets w P g ss q) (i:Nat) (hi:i<ss.length):w.cell? ⟨g,i,none⟩=some (.slice ss[i].1 ss[i].2.1 ss[i].2.2):=by
 rw [cell_of_row w g i _ _ _ h.head];simp [hi,sliceV]
structure BookV (w:World) (F:Nat→Prop) (v:Value) (es:List Ent):Prop where
 row:w.ownsRow 0 129 1 v es.length (es.map Ent.val)
 vets:∀i (hi:i<es.length),Vets w es[i].P es[i].g es[i].ss i
 foot:∀i (hi:i<es.length),F es[i].g∧∀k,es[i].P k→F k
 foot2:∀k,v.ownBlock=some k→F k
theorem BookV.kept {w w':World} {F T:Nat→Prop} {v:Value} {es:List Ent} (h:BookV w F v es) (k:Kept T w w') (hn:∀i,F i→¬T i):BookV w' F v es:=
 ⟨k.owns h.row (fun i hi=>hn i (h.foot2 i hi)),fun i hi=>(h.vets i hi).kept k (fun j hj=>hn j ((h.foot i hi).2 j hj)) (hn _ (h.foot i hi).1),h.foot,h.foot2⟩
theorem BookV.cell {w:World} {F:Nat→Prop} {g cap:Nat} {es:List Ent} (h:BookV w F (.slice (some ⟨g,0,none⟩) es.length cap) es) (i:Nat) (hi:i<es.length):w.cell? ⟨g,i,none⟩=some (.slice (some ⟨es[i].g,0,none⟩) es[i].ss.length 4):=by
 have:=h.row.cells (g:=g) rfl i es[i].val (by simp [hi])
 rw [Addr.add_mid] at this
 simpa [Ent.val] using this
theorem BookV.rowAt {w:World} {F:Nat→Prop} {a:Option Addr} {cap:Nat} {es:List Ent} (h:BookV w F (.slice a es.length cap) es) (hn:0<es.length):∃g,a=some ⟨g,0,none⟩:=by
 rcases h.row.2 with ⟨h0,h1⟩|⟨g,cap',cur,hv,_⟩
 ·omega
 ·cases hv;exact ⟨g,rfl⟩
structure Book (w:World) (bp:Nat) (l:Value) (F H:Nat→Prop) (a b:Option Addr) (ca cb:Nat) (es vs:List Ent):Prop where
 head:PlayHead w bp l (.slice a es.length ca) (.slice b vs.length cb)
 bytes:BookM w F (.slice a es.length ca) es (fun i=>digB i 0)
 rows:BookV w H (.slice b vs.length cb) vs
 fbp:¬F bp
 hbp:¬H bp
 apart:∀k,F k→¬H k
 few:es.length≤4398046511104
 few2:vs.length≤4398046511104
 flt:∀k,F k→k<w.heap.size
 hlt:∀k,H k→k<w.heap.size
theorem Book.kept {w w':World} {bp:Nat} {l:Value} {F H T:Nat→Prop} {a b:Option Addr} {ca cb:Nat} {es vs:List Ent} (h:Book w bp l F H a b ca cb es vs) (k:Kept T w w') (hF:∀i,F i→¬T i) (hH:∀i,H i→¬T i) (hb:¬T bp):Book w' bp l F H a b ca cb es vs:=
 ⟨h.head.kept k hb,h.bytes.kept k hF,h.rows.kept k hH,h.fbp,h.hbp,h.apart,h.few,h.few2,fun i hi=>Nat.lt_of_lt_of_le (h.flt i hi) k.size,fun i hi=>Nat.lt_of_lt_of_le (h.hlt i hi) k.size⟩
set_option maxHeartbeats 2000000 in
theorem whole_any (w:World) (bp:Nat) (l:Value) (F H:Nat→Prop) (a b:Option Addr) (ca cb:Nat) (es vs:List Ent) (h:Book w bp l F H a b ca cb es vs):
 Calls Tryz.prog 38 #[.pointer (some ⟨bp,1,none⟩)] w fun e w'=>e=.returned (.bool true)∧Book w' bp l F H a b ca cb es vs∧Kept F w w':=by
 have HH:Hid _:=h
 have hfew:=h.few2
 clear h
 go_enter Tryz.func38,Tryz.ntmps38
 go_wp2
 go_loopw [3] (fun t wr=>∃k:Nat,k≤vs.length∧t=.int .i64 k∧Book wr bp l F H a b ca cb es vs∧Kept (fun _=>False) w wr) (fun t _=>vs.length-(intOf t).toNat)
 case atStart=>exact ⟨0,Nat.zero_le _,rfl,HH.out,Kept.refl _ _⟩
 case round=>
  obtain ⟨k,hk,rfl,hb,hkept⟩:=hrel
  have HB:Hid _:=hb
  have HK:Hid _:=hkept
  have hc2:=hb.head.c.2.2.1
  clear hb hkept
  by_cases hlt:k<vs.length
  ·obtain ⟨g,rfl⟩:=HB.out.rows.rowAt (by omega)
   have hck:=HB.out.rows.cell k hlt
   have hlk:=(HB.out.rows.vets k hlt).len
   go_wp2
   go_loopw [4] (fun t wr=>∃i:Nat,i≤vs[k].ss.length∧t=.int .i64 i∧Book wr bp l F H a (some ⟨g,0,none⟩) ca cb es vs∧Kept (fun _=>False) w wr) (fun t _=>vs[k].ss.length-(intOf t).toNat)
   case atStart=>exact ⟨0,Nat.zero_le _,rfl,HB.out,HK.out⟩
   case round=>
    obtain ⟨i,hi,rfl,hb,hkept⟩:=hrel
    have HB2:Hid _:=hb
    have HK2:Hid _:=hkept
    have hc2:=hb.head.c.2.2.1
    have hck:=HB2.out.rows.cell k hlt
    clear hb hkept
    by_cases hlt2:i<vs[k].ss.length
    ·have hci:=(HB2.out.rows.vets k hlt).cell i hlt2
     have hfi:=(HB2.out.rows.vets k hlt).few _ (List.getElem_mem hlt2)
     go_wp2
     go_loopw [5] (fun t wr=>∃j:Nat,j≤vs[k].ss[i].2.1∧t=.int .i64 j∧Book wr bp l F H a (some ⟨g,0,none⟩) ca cb es vs∧Kept (fun _=>False) w wr) (fun t _=>vs[k].ss[i].2.1-(intOf t).toNat)
     case atStart=>exact ⟨0,Nat.zero_le _,rfl,HB2.out,HK2.out⟩
     case round=>
      obtain ⟨j,hj,rfl,hb,hkept⟩:=hrel
      have HB3:Hid _:=hb
      have HK3:Hid _:=hkept
      have hc2:=hb.head.c.2.2.1
      have hck:=HB3.out.rows.cell k hlt
      have hci:=(HB3.out.rows.vets k hlt).cell i hlt2
      clear hb hkept
      by_cases hlt3:j<vs[k].ss[i].2.1
      ·obtain ⟨b',h1,h2,h3,h4⟩:=(HB3.out.rows.vets k hlt).are _ (List.getElem_mem hlt2) j hlt3
       have m0:wr.cell? ⟨b',j*4,none⟩=some (.string mineB):=h4 0 _ rfl
       have m1:wr.cell? ⟨b',j*4+1,none⟩=some (.int .i64 (k:Int)):=h4 1 _ rfl
       have m2:wr.cell? ⟨b',j*4+2,none⟩=some (.bool false):=h4 2 _ rfl
       have m3:wr.cell? ⟨b',j*4+3,none⟩=some (.int .i64 0):=h4 3 _ rfl
       rw [h1] at hci
       have H1:Hid _:=h1
       clear h1 h4
       have hmine:mineB.toList=[40,109,105,110,101,41]:=by rw [ByteArray.toList_eq];rfl
       go_wp2
       go_roundw
       case rel=>exact ⟨j+1,by omega,by go_num,HB3.out.kept (Kept.alloc (fun _=>False) wr _) (fun _ _ hf=>hf) (fun _ _ hf=>hf) (fun hf=>hf),HK3.out.trans (Kept.alloc (fun _=>False) wr _) (fun _ h=>.inl h)⟩
       case measure=>simp [intOf];omega
      ·go_wp2
       go_roundw
       case rel=>exact ⟨i+1,by omega,by go_num,HB3.out,HK3.out⟩
       case measure=>simp [intOf];omega
    ·go_wp2
     go_roundw
     case rel=>exact ⟨k+1,by omega,by go_num,HB2.out,HK2.out⟩
     case measure=>simp [intOf];omega
  ·go_wp2_with (go_at_call 64;refine (wholeBytes_any _ bp l _ F a ca es HB.out.head HB.out.fbp HB.out.bytes HB.out.few).mono ?_;rintro e w' ⟨rfl,hbm,hk2⟩;have HM:Hid _:=hbm;have HK2:Hid _:=hk2;clear hbm hk2)
   go_ret
   exact ⟨rfl,⟨HB.out.head.kept HK2.out HB.out.fbp,HM.out,HB.out.rows.kept HK2.out (fun i hi hc=>HB.out.apart i hc hi),HB.out.fbp,HB.out.hbp,HB.out.apart,HB.out.few,HB.out.few2,fun i hi=>Nat.lt_of_lt_of_le (HB.out.flt i hi) HK2.out.size,fun i hi=>Nat.lt_of_lt_of_le (HB.out.hlt i hi) HK2.out.size⟩,(HK.out.mono (fun _ hf=>hf.elim)).trans HK2.out (fun _ h=>.inl h)⟩
end Go.Proofs.YtcoengihaobddaaGreatDoor.book
namespace Go.Proofs.YtcoengihaobddaaGreatDoor.book
open Go.RowKit disk ref
structure App (w w':World) (e:TypeId) (size:Nat) (v:Value) (n m:Nat) (xs:List Value) (r:Value):Prop where
 keeps:w'.ownsRow 0 e size v n xs
 kept:Kept (fun k=>v.ownBlock=some k) w w'
 res:(∃g cx,v=.slice (some ⟨g,0,none⟩) n cx∧r=.slice (some ⟨g,0,none⟩) (n+m) cx∧n+m≤cx)∨
  (∃cap cur,r=.slice (some ⟨w.heap.size,0,none⟩) (n+m) cap∧w'.heap[w.heap.size]? =some (.cells cur e (0,0))∧(n+m)*size≤cur.size)
theorem run_append_keeps {P:Program} (w:World) (t ty e:TypeId) (i:TypeInfo) (z:Value) (size bytes:Nat) (ht:P.underlying t=some (.slice e)) (hi:P.info? e=some i) (hz:i.zero=some z)
 (hsize:i.size=size) (hby:i.bytes=bytes) (hzs:z.cells.size=size) (v:Value) (n:Nat) (xs:List Value) (hown:w.ownsRow 0 e size v n xs)
 (a:Addr) (m c:Nat) (news:List Value) (hl:news.length=m*size) (hnews:∀j u,news[j]? =some u→w.cell? (a.add j)=some u) (h1:∀u∈news,u.oneCell'=true) (hm:0<m)
 (h63:n+m≤maxLen) (hbytes:(n+m)*bytes≤140737488355328):
 ∃r w',(Builtin.append_ #[t,t] ty #[v,.slice (some a) m c]).run P w=.ok r w'∧App w w' e size v n m xs r:=by
 subst hsize
 subst hby
 have hsmall:n+m≤9223372036854775807:=by simp only [maxLen] at h63;omega
 rcases hown.2 with ⟨rfl,rfl⟩|⟨g,cap,cur,rfl,hbg,hg,hnc,hcm,hcs,htake⟩
 ·have hx:xs=[]:=List.eq_nil_of_length_eq_zero (by simpa using hown.1)
  subst hx
  have hr:=run_append_nil (P:=P) w t ty e i z ht hi hz a m c news hl hnews (by omega) (by omega) (by have hb:=hbytes;simp only [Nat.zero_add] at hb;omega)
  refine ⟨_,_,hr,World.ownsRow_nil _ _ _ _,(Kept.drew _ w).trans (Kept.alloc _ _ _) (fun _ h=>.inl h),.inr ⟨_,_,by rw [Nat.zero_add],heap_alloc_new w.drew _,?_⟩⟩
  simp only [Array.size_append,List.size_toArray,hl,Nat.zero_add];omega
 ·by_cases hroom:n+m≤cap
  ·have hfit:n*i.size+news.length≤cur.size:=by rw [hl,hcs,←Nat.add_mul];exact Nat.mul_le_mul_right _ hroom
   have hr:=run_append_room (P:=P) w t ty e i ht hi g n cap cur hg a m c news hl hnews h1 hroom hfit
   refine ⟨_,_,hr,⟨hown.1,.inr ⟨g,cap,_,rfl,hbg,setRow_heap w g cur _ e _ hg,hnc,hcm,?_,?_⟩⟩,⟨rfl,rfl,rfl,by simp,fun k _ hk=>setRow_other w g k _ (fun e=>hk (by simp [Value.ownBlock,e]))⟩,.inl ⟨g,cap,rfl,rfl,hroom⟩⟩
   ·simp only [List.size_toArray,List.length_append,List.length_take,List.length_drop,Array.length_toList]
    omega
   ·rw [List.toList_toArray,htake,List.append_assoc,←hown.1]
    exact List.take_left
  ·have holds:∀j u,xs[j]? =some u→w.cell? ((⟨g,0,none⟩:Addr).add j)=some u:=hown.cells (g:=g) rfl
   have hr:=run_append_grow (P:=P) w t ty e i z ht hi hz ⟨g,0,none⟩ n cap xs hown.1 holds a m c news hl hnews (by omega) (by omega) (growslice_fits (by omega) hbytes)
   have k:∀S:Nat→Prop,Kept S w (w.drew.alloc (.cells (xs.toArray++news.toArray++Builtin.zeroCells z.cells (grownCap w (n+m) cap e-(n+m))) e)):=fun S=>(Kept.drew _ w).trans (Kept.alloc _ _ _) (fun _ h=>.inl h)
   refine ⟨_,_,hr,(k (fun _=>False)).owns hown (fun _ _ hf=>hf),k _,.inr ⟨_,_,rfl,heap_alloc_new w.drew _,?_⟩⟩
   simp only [Array.size_append,List.size_toArray,hl,hown.1,Nat.add_mul];omega
theorem wpList_append_keeps {P:Program} {w:World} {ops:Array Oper} {rest:List Oper} {o:Oper} {a:Act} {Q:Exit→Act→World→Prop} (hgd:o.guard=none) (s x:Operand) (t:TypeId)
 (ho:o.op=.call {callee:=.builtin .append,args:=#[s,x],argTypes:=#[t,t] })
 (e:TypeId) (i:TypeInfo) (z:Value) (size bytes:Nat) (ht:P.underlying t=some (.slice e)) (hi:P.info? e=some i) (hz:i.zero=some z)
 (hsize:i.size=size) (hby:i.bytes=bytes) (hzs:z.cells.size=size) (v:Value) (n:Nat) (xs:List Value) (hs:a.eval s=v) (hown:w.ownsRow 0 e size v n xs)
 (ad:Addr) (m c:Nat) (news:List Value) (hx:a.eval x=.slice (some ad) m c) (hl:news.length=m*size) (hnews:∀j u,news[j]? =some u→w.cell? (ad.add j)=some u) (h1:∀u∈news,u.oneCell'=true) (hm:0<m)
 (h63:n+m≤maxLen) (hbytes:(n+m)*bytes≤140737488355328)
 (h:∀r w',App w w' e size v n m xs r→wpList P ops Q rest (a.put o.dst r) w'):wpList P ops Q (o::rest) a w:=by
 refine wpList_plain hgd fun K hK=>?_
 obtain ⟨r,w',hr,h2⟩:=run_append_keeps (P:=P) w t o.type e i z size bytes ht hi hz hsize hby hzs v n xs hown ad m c news hl hnews h1 hm h63 hbytes
 unfold Oper.wp execOp
 simp only [ho,resolve,invoke,builtin,Sem.run_bind,Sem.run_pure,Result.andThen_ok,List.map_toArray,List.map_cons,List.map_nil,hs,hx,hr]
 exact hK _ _ (h r w' h2)
theorem App.form {w w':World} {e:TypeId} {size:Nat} {v:Value} {n m:Nat} {xs:List Value} {r:Value} (h:App w w' e size v n m xs r):∃g c,r=.slice (some ⟨g,0,none⟩) (n+m) c∧
 ((v=.slice (some ⟨g,0,none⟩) n c∧n+m≤c)∨(g=w.heap.size∧∃cur,w'.heap[g]? =some (.cells cur e (0,0))∧(n+m)*size≤cur.size)):=by
 rcases h.res with ⟨g,cx,h1,h2,h3⟩|⟨cap,cur,h1,h2,h3⟩
 ·exact ⟨g,cx,h2,.inl ⟨h1,h3⟩⟩
 ·exact ⟨w.heap.size,cap,h1,.inr ⟨rfl,cur,h2,h3⟩⟩
end Go.Proofs.YtcoengihaobddaaGreatDoor.book
namespace Go.Proofs.YtcoengihaobddaaGreatDoor.book
open Go.ChangeShapes Go.WideShapes Go.ChangeAt Go.RowKit disk ref
open keys (ret_int ret_bool beq_no beq_yes)
set_option linter.unusedVariables false
theorem Tryz.infoLetters:(Tryz.prog.info? 179).map (fun i=>(i.zero,i.size,i.bytes))=some (some (.slice none 0 0),1,24):=by kernel_rfl
theorem Room.of_own {w:World} {base:Nat} {a:Option Addr} {n cap:Nat} {t:TypeId} {xs:List Value} (h:w.ownsRow base t 1 (.slice a n cap) n xs) (P:Nat→Prop) (hP:∀k,(Value.slice a n cap).ownBlock=some k→P k):Room w P t a n:=by
 rcases h.2 with ⟨h0,h1⟩|⟨g,cap',cur,hv,hb,hg,h1,h2,h3,h4⟩
 ·exact .inl h1
 ·cases hv
  exact .inr ⟨g,cur,rfl,hP g rfl,hg,by omega⟩
theorem App.room {w w' w'':World} {e:TypeId} {v:Value} {n m:Nat} {xs:List Value} {g c:Nat} (h:(v=.slice (some ⟨g,0,none⟩) n c∧n+m≤c)∨(g=w.heap.size∧∃cur,w'.heap[g]? =some (.cells cur e (0,0))∧(n+m)*1≤cur.size))
 (hrow:w''.ownsRow 0 e 1 v n xs) (hw:Kept (fun k=>v.ownBlock=some k) w' w'') (hv:∀k,v.ownBlock=some k→k<w.heap.size) (P:Nat→Prop) (hP:∀k,v.ownBlock=some k→P k) (hQ:∀k,w.heap.size≤k→k<w''.heap.size→P k):Room w'' P e (some ⟨g,0,none⟩) (n+m):=by
 rcases h with ⟨rfl,h2⟩|⟨rfl,cur,h1,h2⟩
 ·rcases hrow.2 with ⟨h0,_⟩|⟨g',cap',cur,hv',_,hg,h3,h4,h5,_⟩
  ·cases h0
  ·cases hv'
   exact .inr ⟨g,cur,rfl,hP g rfl,hg,by omega⟩
 ·have hlt:=(Array.getElem?_eq_some_iff.1 h1).1
  refine .inr ⟨w.heap.size,cur,rfl,hQ _ (Nat.le_refl _) (Nat.lt_of_lt_of_le hlt hw.size),(hw.block _ hlt (fun hc=>?_)).trans h1,by omega⟩
  have:=hv _ hc;omega
theorem lets_of {w w1 w2 w3:World} {ax:Option Addr} {n cx:Nat} {xs:List Value} {o1 o2 o3:Obj} {g1 g2 g3 c1 c2 c3:Nat} (hx:w.ownsRow 0 5 1 (.slice ax n cx) n xs) (hn:n≤1000)
 (h1:App (w.alloc o1) w1 5 1 (.slice ax n cx) n 1 xs (.slice (some ⟨g1,0,none⟩) (n+1) c1)) (r1:(Value.slice ax n cx=.slice (some ⟨g1,0,none⟩) n c1∧n+1≤c1)∨(g1=(w.alloc o1).heap.size∧∃cur,w1.heap[g1]? =some (.cells cur 5 (0,0))∧(n+1)*1≤cur.size))
 (h2:App (w1.alloc o2) w2 5 1 (.slice ax n cx) n 2 xs (.slice (some ⟨g2,0,none⟩) (n+2) c2)) (r2:(Value.slice ax n cx=.slice (some ⟨g2,0,none⟩) n c2∧n+2≤c2)∨(g2=(w1.alloc o2).heap.size∧∃cur,w2.heap[g2]? =some (.cells cur 5 (0,0))∧(n+2)*1≤cur.size))
 (h3:App (w2.alloc o3) w3 5 1 (.slice ax n cx) n 3 xs (.slice (some ⟨g3,0,none⟩) (n+3) c3)) (r3:(Value.slice ax n cx=.slice (some ⟨g3,0,none⟩) n c3∧n+3≤c3)∨(g3=(w2.alloc o3).heap.size∧∃cur,w3.heap[g3]? =some (.cells cur 5 (0,0))∧(n+3)*1≤cur.size)):
 Lets (w3.alloc (.cells #[.slice ax n cx,.slice (some ⟨g1,0,none⟩) (n+1) c1,.slice (some ⟨g2,0,none⟩) (n+2) c2,.slice (some ⟨g3,0,none⟩) (n+3) c3] 35)) (fun k=>(Value.slice ax n cx).ownBlock=some k∨(w.heap.size≤k∧k<w3.heap.size)) w3.heap.size
  [(ax,n,cx),(some ⟨g1,0,none⟩,n+1,c1),(some ⟨g2,0,none⟩,n+2,c2),(some ⟨g3,0,none⟩,n+3,c3)]∧Kept (fun k=>(Value.slice ax n cx).ownBlock=some k) w w3:=by
 have hv:∀k,(Value.slice ax n cx).ownBlock=some k→k<w.heap.size:=fun k hk=>(hx.lt k hk).2
 have k1:Kept (fun k=>(Value.slice ax n cx).ownBlock=some k) w w1:=(Kept.alloc _ w o1).trans h1.kept (fun _ h=>.inl h)
 have k2:Kept (fun k=>(Value.slice ax n cx).ownBlock=some k) w1 w2:=(Kept.alloc _ w1 o2).trans h2.kept (fun _ h=>.inl h)
 have k3:Kept (fun k=>(Value.slice ax n cx).ownBlock=some k) w2 w3:=(Kept.alloc _ w2 o3).trans h3.kept (fun _ h=>.inl h)
 have k23:=k2.trans k3 (fun _ h=>.inl h)
 have k123:=k1.trans k23 (fun _ h=>.inl h)
 have ka:=Kept.alloc (fun _=>False) w3 (.cells #[.slice ax n cx,.slice (some ⟨g1,0,none⟩) (n+1) c1,.slice (some ⟨g2,0,none⟩) (n+2) c2,.slice (some ⟨g3,0,none⟩) (n+3) c3] 35)
 have s1:=k1.size
 have s2:=k2.size
 have s3:=k3.size
 refine ⟨⟨heap_alloc_new w3 _,fun s hs=>?_,fun hc=>?_,fun s hs=>?_,by simp⟩,k123⟩
 ·have e1:(w.alloc o1).heap.size=w.heap.size+1:=by simp
  have e2:(w1.alloc o2).heap.size=w1.heap.size+1:=by simp
  have e3:(w2.alloc o3).heap.size=w2.heap.size+1:=by simp
  simp only [List.mem_cons,List.not_mem_nil,or_false] at hs
  refine Room.kept ?_ ka (fun _ _ hf=>hf)
  rcases hs with rfl|rfl|rfl|rfl
  ·exact Room.of_own h3.keeps _ (fun k hk=>.inl hk)
  ·exact App.room r1 h3.keeps k23 (fun k hk=>by have:=hv k hk;omega) _ (fun k hk=>.inl hk) (fun k hk hk2=>.inr ⟨by omega,hk2⟩)
  ·exact App.room r2 h3.keeps k3 (fun k hk=>by have:=hv k hk;omega) _ (fun k hk=>.inl hk) (fun k hk hk2=>.inr ⟨by omega,hk2⟩)
  ·exact App.room r3 h3.keeps (Kept.refl _ _) (fun k hk=>by have:=hv k hk;omega) _ (fun k hk=>.inl hk) (fun k hk hk2=>.inr ⟨by omega,hk2⟩)
 ·rcases hc with hc|hc
  ·have:=hv _ hc;omega
  ·omega
 ·simp only [List.mem_cons,List.not_mem_nil,or_false] at hs
  rcases hs with rfl|rfl|rfl|rfl<;>simp<;>omega
theorem Book.push {w w5:World} {bp:Nat} {l:Value} {F H:Nat→Prop} {a b:Option Addr} {ca cb:Nat} {es vs:List Ent} (h:Book w bp l F H a b ca cb es vs) (hfew:es.length<4398046511104) (e:Ent) (he:e.ss.length=4)
 (hl:Lets w e.P e.g e.ss) (ha:Lets.Are w e.ss (.int .u8 (digB es.length 0))) (hP:∀k,e.P k→¬F k∧¬H k∧k≠bp∧k<w.heap.size) (hg:¬F e.g∧¬H e.g∧e.g≠bp∧e.g<w.heap.size)
 (o:Obj) (g5 c5:Nat) (hown:w5.ownsRow 0 179 1 (.slice (some ⟨g5,0,none⟩) (es.length+1) c5) (es.length+1) (es.map Ent.val++[.slice (some ⟨e.g,0,none⟩) 4 4]))
 (hgrow:(w.alloc o).grownBy w5 (Value.slice a es.length ca).ownBlock) (hat:(Value.slice a es.length ca).ownBlock=some g5∨g5=w.heap.size+1):
 Book (w5.setCell ⟨bp,1,none⟩ (.slice (some ⟨g5,0,none⟩) (es.length+1) c5)) bp l (fun k=>F k∨e.P k∨k=e.g∨k=g5) H (some ⟨g5,0,none⟩) b c5 cb (es++[e]) vs∧
  Kept (fun k=>(Value.slice a es.length ca).ownBlock=some k∨k=bp) w (w5.setCell ⟨bp,1,none⟩ (.slice (some ⟨g5,0,none⟩) (es.length+1) c5)):=by
 have hbp:=h.head.lt
 have hrowF:∀k,(Value.slice a es.length ca).ownBlock=some k→F k:=fun k hk=>h.bytes.foot2 k hk
 have hrowlt:∀k,(Value.slice a es.length ca).ownBlock=some k→k<w.heap.size:=fun k hk=>(h.bytes.row.lt k hk).2
 have k1:Kept (fun k=>(Value.slice a es.length ca).ownBlock=some k) w w5:=(Kept.alloc _ w o).trans (Kept.grown (S:=fun k=>(Value.slice a es.length ca).ownBlock=some k) hgrow (fun k hk=>hk)) (fun _ h=>.inl h)
 have k2:=Kept.setCell (S:=fun k=>k=bp) w5 ⟨bp,1,none⟩ (.slice (some ⟨g5,0,none⟩) (es.length+1) c5) rfl
 have k12:Kept (fun k=>(Value.slice a es.length ca).ownBlock=some k∨k=bp) w (w5.setCell ⟨bp,1,none⟩ (.slice (some ⟨g5,0,none⟩) (es.length+1) c5)):=(k1.mono (fun _ h=>.inl h)).trans k2 (fun _ h=>.inl (.inr h))
 have hlen:(es++[e]).length=es.length+1:=by simp
 have hg5:(F g5∨w.heap.size≤g5):=by
  rcases hat with e1|e1
  ·exact .inl (hrowF _ e1)
  ·exact .inr (by omega)
 have hg5bp:g5≠bp:=by
  rcases hg5 with h1|h1
  ·exact fun e1=>h.fbp (by rw [←e1];exact h1)
  ·omega
 have hg5H:¬H g5∨w.heap.size≤g5:=by
  rcases hg5 with h1|h1
  ·exact .inl (h.apart _ h1)
  ·exact .inr h1
 have hcase:∀i (hi:i<(es++[e]).length),(∃hi':i<es.length,(es++[e])[i]=es[i])∨(i=es.length∧(es++[e])[i]=e):=fun i hi=>by
  by_cases h1:i<es.length
  ·exact .inl ⟨h1,List.getElem_append_left h1⟩
  ·right
   have e1:i=es.length:=by omega
   subst e1
   exact ⟨rfl,by simp⟩
 have hnT:∀i (hi:i<es.length) k,es[i].P k→¬((Value.slice a es.length ca).ownBlock=some k∨k=bp):=fun i hi k hk hc=>by
  rcases hc with hc|hc
  ·exact h.bytes.row2 i hi k hk hc
  ·exact h.fbp (by rw [←hc];exact (h.bytes.foot i hi).2 k hk)
 have hgT:∀i (hi:i<es.length),¬((Value.slice a es.length ca).ownBlock=some es[i].g∨es[i].g=bp):=fun i hi hc=>by
  rcases hc with hc|hc
  ·rcases h.bytes.row.2 with ⟨h0,h1⟩|⟨g',cap',cur,hv,_,hgg,_⟩
   ·omega
   ·rw [hv] at hc
    simp [Value.ownBlock] at hc
    subst hc
    have:=(h.bytes.lets i hi).head
    rw [hgg] at this
    simp at this
  ·exact h.fbp (by rw [←hc];exact (h.bytes.foot i hi).1)
 have heT:∀k,e.P k→¬((Value.slice a es.length ca).ownBlock=some k∨k=bp):=fun k hk hc=>by
  rcases hc with hc|hc
  ·exact (hP k hk).1 (hrowF k hc)
  ·exact (hP k hk).2.2.1 hc
 have hegT:¬((Value.slice a es.length ca).ownBlock=some e.g∨e.g=bp):=fun hc=>by
  rcases hc with hc|hc
  ·exact hg.1 (hrowF _ hc)
  ·exact hg.2.2.1 hc
 have hflt:=h.flt
 have hhlt:=h.hlt
 have hs12:=k12.size
 have hg5lt:g5<(w5.setCell ⟨bp,1,none⟩ (.slice (some ⟨g5,0,none⟩) (es.length+1) c5)).heap.size:=by
  have:=(hown.lt g5 rfl).2;simpa using this
 have hg5g:∀k,F k→k<w.heap.size→(k=g5→(Value.slice a es.length ca).ownBlock=some k):=fun k hk hlt e1=>by
  rcases hat with e2|e2
  ·rw [e1];exact e2
  ·omega
 refine ⟨⟨⟨?_⟩,⟨?_,fun i hi=>?_,fun i hi=>?_,fun i j hi hj hij k hk=>?_,fun i hi k hk=>?_,fun i hi=>?_,fun k hk=>?_⟩,h.rows.kept k12 (fun i hi hc=>?_),fun hc=>?_,h.hbp,fun k hk hc=>?_,by rw [hlen];omega,h.few2,fun k hk=>?_,fun k hk=>by have:=hhlt k hk;omega⟩,k12⟩
 ·rw [hlen]
  have e1:w5.heap[bp]? =_:=(k1.block bp hbp (fun hc=>h.fbp (hrowF bp hc))).trans h.head.head
  rw [heap_setCell_same w5 bp 1 _ _ _ e1];rfl
 ·rw [hlen,List.map_append]
  have:=k2.owns hown (fun k hk e1=>by simp [Value.ownBlock] at hk;omega)
  simpa [Ent.val,he] using this
 ·rcases hcase i hi with ⟨hi',e1⟩|⟨rfl,e1⟩
  ·rw [e1];exact (h.bytes.lets i hi').kept k12 (hnT i hi') (hgT i hi')
  ·rw [e1];exact hl.kept k12 heT hegT
 ·rcases hcase i hi with ⟨hi',e1⟩|⟨rfl,e1⟩
  ·rw [e1];exact (h.bytes.are i hi').kept (h.bytes.lets i hi') k12 (hnT i hi')
  ·rw [e1];exact ha.kept hl k12 heT
 ·rcases hcase i hi with ⟨hi',e1⟩|⟨rfl,e1⟩<;>rcases hcase j hj with ⟨hj',e2⟩|⟨rfl,e2⟩<;>rw [e1] at hk<;>rw [e2]
  ·exact h.bytes.apart i j hi' hj' hij k hk
  ·exact ⟨fun hc=>(hP k hc).1 ((h.bytes.foot i hi').2 k hk),fun hc=>hg.1 (by rw [←hc];exact (h.bytes.foot i hi').2 k hk)⟩
  ·exact ⟨fun hc=>(hP k hk).1 ((h.bytes.foot j hj').2 k hc),fun hc=>(hP k hk).1 (by rw [hc];exact (h.bytes.foot j hj').1)⟩
  ·exact absurd rfl hij
 ·rw [hlen]
  simp only [Value.ownBlock,ne_eq,Option.some.injEq]
  intro e3
  rcases hcase i hi with ⟨hi',e1⟩|⟨rfl,e1⟩<;>rw [e1] at hk
  ·have hF:=(h.bytes.foot i hi').2 k hk
   exact h.bytes.row2 i hi' k hk (hg5g k hF (hflt k hF) e3.symm)
  ·rcases hg5 with h1|h1
   ·exact (hP k hk).1 (by rw [←e3];exact h1)
   ·have:=(hP k hk).2.2.2;omega
 ·rcases hcase i hi with ⟨hi',e1⟩|⟨rfl,e1⟩<;>rw [e1]
  ·exact ⟨.inl (h.bytes.foot i hi').1,fun k hk=>.inl ((h.bytes.foot i hi').2 k hk)⟩
  ·exact ⟨.inr (.inr (.inl rfl)),fun k hk=>.inr (.inl hk)⟩
 ·rw [hlen] at hk
  simp only [Value.ownBlock,Option.some.injEq] at hk
  exact .inr (.inr (.inr hk.symm))
 ·rcases hc with hc|hc
  ·exact h.apart i (hrowF i hc) hi
  ·exact h.hbp (by rw [←hc];exact hi)
 ·rcases hc with hc|hc|hc|hc
  ·exact h.fbp hc
  ·exact (hP bp hc).2.2.1 rfl
  ·exact hg.2.2.1 hc.symm
  ·exact hg5bp hc.symm
 ·rcases hk with hk|hk|hk|hk
  ·exact h.apart k hk hc
  ·exact (hP k hk).2.1 hc
  ·exact hg.2.1 (by rw [←hk];exact hc)
  ·rcases hg5 with h1|h1
   ·exact h.apart g5 h1 (by rw [←hk];exact hc)
   ·have:=hhlt k hc;omega
 ·rcases hk with hk|hk|hk|hk
  ·have:=hflt k hk;omega
  ·have:=(hP k hk).2.2.2;omega
  ·have:=hg.2.2.2;omega
  ·rw [hk];exact hg5lt
set_option maxHeartbeats 2000000 in
theorem bytes_any (w:World) (bp:Nat) (l:Value) (F H S:Nat→Prop) (a b:Option Addr) (ca cb:Nat) (es vs:List Ent) (h:Book w bp l F H a b ca cb es vs) (hfew:es.length≤2199023255552)
 (ax:Option Addr) (n cx:Nat) (xs:List Value) (hx:w.ownsRow 0 5 1 (.slice ax n cx) n xs) (hn:n≤1000) (hS:∀k,(Value.slice ax n cx).ownBlock=some k→S k) (hSF:∀k,S k→¬F k∧¬H k∧k≠bp):
 Calls Tryz.prog 106 #[.pointer (some ⟨bp,1,none⟩),.slice ax n cx] w fun e w'=>e=.returned (.tuple #[])∧
  (∃a' ca' es' F',Book w' bp l F' H a' b ca' cb es' vs∧es'.length=es.length+1∧∀k,F' k→F k∨S k∨w.heap.size≤k)∧Kept (fun k=>F k∨S k∨k=bp) w w':=by
 have HH:Hid _:=h
 have HX:Hid (w.ownsRow 0 5 1 (.slice ax n cx) n xs):=hx
 have hc1:=h.head.c.2.1
 have hbp:=h.head.lt
 obtain ⟨j0,hi0,hz0,hz1,hz2⟩:=info_of Tryz.infoU8
 have HJ0:Hid (Tryz.prog.info? 5=some j0∧j0.zero=some (.int .u8 0)∧j0.size=1∧j0.bytes=1):=⟨hi0,hz0,hz1,hz2⟩
 clear hi0 hz0 hz1 hz2
 obtain ⟨i0,hi0,hz0,hz1,hz2⟩:=info_of Tryz.infoLetters
 have HI0:Hid (Tryz.prog.info? 179=some i0∧i0.zero=some (.slice none 0 0)∧i0.size=1∧i0.bytes=24):=⟨hi0,hz0,hz1,hz2⟩
 clear hi0 hz0 hz1 hz2 h hx
 have hz:=digB_bd es.length 0
 go_enter Tryz.func106,Tryz.ntmps106
 go_wp2_with fail
 refine (digit_int _ _ _ (by omega) (by omega) (by omega) (by omega)).mono ?_
 rintro e w9 ⟨rfl,hw9⟩
 rw [hw9]
 clear hw9 w9
 rw [Int.toNat_natCast]
 generalize hzz:digB es.length (Int.toNat 0)=z at*
 have hzd:digB es.length 0=z:=hzz
 have HZ:Hid _:=hzd
 clear hzz
 rw [hzd] at hz
 clear hzd
 go_wp2_with (first
  |(refine wpList_append_keeps rfl (.tmp 13) (.tmp 15) 35 rfl 5 j0 _ 1 1 Tryz.underlying35 HJ0.out.1 HJ0.out.2.1 HJ0.out.2.2.1 HJ0.out.2.2.2 rfl (.slice ax n cx) n xs (by rfl) (by exact World.ownsRow.alloc HX.out _) ⟨w.heap.size,0,none⟩ 1 1 [.int .u8 z] (by rfl) (by rfl) (by exact World.news_of_block (heap_alloc_new w _)) (by simp [Value.oneCell']) (by omega) (by unfold maxLen;omega) (by omega) ?_;intro r1 w1 happ;obtain ⟨g1,c1,rfl,hr⟩:=happ.form;have HA1:Hid _:=happ;have HR1:Hid _:=hr;clear happ hr)
  |(refine wpList_append_keeps rfl (.tmp 17) (.tmp 20) 35 rfl 5 j0 _ 1 1 Tryz.underlying35 HJ0.out.1 HJ0.out.2.1 HJ0.out.2.2.1 HJ0.out.2.2.2 rfl (.slice ax n cx) n xs (by rfl) (by exact World.ownsRow.alloc HA1.out.keeps _) ⟨w1.heap.size,0,none⟩ 2 2 [.int .u8 z,.int .u8 z] (by rfl) (by rfl) (by exact World.news_of_block (heap_alloc_new w1 _)) (by simp [Value.oneCell']) (by omega) (by unfold maxLen;omega) (by omega) ?_;intro r2 w2 happ;obtain ⟨g2,c2,rfl,hr⟩:=happ.form;have HA2:Hid _:=happ;have HR2:Hid _:=hr;clear happ hr)
  |(refine wpList_append_keeps rfl (.tmp 22) (.tmp 26) 35 rfl 5 j0 _ 1 1 Tryz.underlying35 HJ0.out.1 HJ0.out.2.1 HJ0.out.2.2.1 HJ0.out.2.2.2 rfl (.slice ax n cx) n xs (by rfl) (by exact World.ownsRow.alloc HA2.out.keeps _) ⟨w2.heap.size,0,none⟩ 3 3 [.int .u8 z,.int .u8 z,.int .u8 z] (by rfl) (by rfl) (by exact World.news_of_block (heap_alloc_new w2 _)) (by simp [Value.oneCell']) (by omega) (by unfold maxLen;omega) (by omega) ?_;intro r3 w3 happ;obtain ⟨g3,c3,rfl,hr⟩:=happ.form;have HA3:Hid _:=happ;have HR3:Hid _:=hr;clear happ hr))
 have hl1:=lets_of HX.out hn HA1.out HR1.out HA2.out HR2.out HA3.out HR3.out
 have HL1:Hid _:=hl1
 clear hl1
 refine (write_any _ _ w3.heap.size 4 _ HL1.out.1 z hz.1 hz.2).mono ?_
 rintro e w4 ⟨rfl,hl4,ha4,hk4⟩
 have hkw:Kept (fun k=>(Value.slice ax n cx).ownBlock=some k) w w4:=(HL1.out.2.trans (Kept.alloc _ _ _) (fun _ h=>.inl h)).trans hk4 (fun k hk=>by
  rcases hk with hk|hk
  ·exact .inl hk
  ·exact .inr hk.1)
 have hB4:Book w4 bp l F H a b ca cb es vs:=HH.out.kept hkw (fun i hi hc=>(hSF i (hS i hc)).1 hi) (fun i hi hc=>(hSF i (hS i hc)).2.1 hi) (fun hc=>(hSF bp (hS bp hc)).2.2 rfl)
 have HB4:Hid _:=hB4
 have hcc1:=hB4.head.c.2.1
 have hff1:=hB4.head.c.2.2.2 1
 have hbp4:=hB4.head.lt
 have HKW:Hid _:=hkw
 have HL4:Hid _:=hl4
 have HA4:Hid (Lets.Are w4 _ _):=ha4
 have HK4:Hid _:=hk4
 clear hB4 hkw hl4 ha4 hk4
 go_wp2_with (refine wpList_append_lies _ rfl (.tmp 36) (.tmp 38) 74 rfl 0 179 i0 _ 1 24 Tryz.underlying74 HI0.out.1 HI0.out.2.1 HI0.out.2.2.1 HI0.out.2.2.2 rfl (by omega) (.slice a es.length ca) es.length (es.map Ent.val) (by rfl) (by exact World.ownsRow.alloc HB4.out.bytes.row _) ⟨w4.heap.size,0,none⟩ 1 1 [.slice (some ⟨w3.heap.size,0,none⟩) 4 4] (by rfl) (by rfl) (by exact World.news_of_block (heap_alloc_new w4 _)) (by simp [Value.oneCell']) (by omega) (by unfold maxLen;omega) (by omega) (Nat.zero_le _) (w4.heap.size+1) (by simp) ?_;intro g5 c5 w5 hown5 hgrow5 hat5 hlt5;have HO5:Hid _:=hown5;have HG5:Hid _:=hgrow5;have HT5:Hid _:=hat5;have hc5:w5.cell? ⟨bp,1,none⟩=some (.slice a es.length ca):=(hgrow5.cell_far ⟨bp,1,none⟩ (by simp;omega) (fun e=>HB4.out.fbp (HB4.out.bytes.foot2 bp e.symm))).trans (by simpa using HB4.out.kept (Kept.alloc (fun _=>False) w4 _) (fun _ _ hf=>hf) (fun _ _ hf=>hf) (fun hf=>hf) |>.head.c.2.1);have hf5:w5.frozen? ⟨bp,1,none⟩=false:=(hgrow5.frozen_far ⟨bp,1,none⟩ (by simp;omega) (fun e=>HB4.out.fbp (HB4.out.bytes.foot2 bp e.symm))).trans (by simpa using HB4.out.kept (Kept.alloc (fun _=>False) w4 _) (fun _ _ hf=>hf) (fun _ _ hf=>hf) (fun hf=>hf) |>.head.c.2.2.2 1);clear hown5 hgrow5 hat5)
 go_end0
 have hs1:=HL1.out.2.size
 have hs4:w3.heap.size+1≤w4.heap.size:=by have:=HK4.out.size;simpa using this
 have hvl:∀k,(Value.slice ax n cx).ownBlock=some k→k<w.heap.size:=fun k hk=>(World.ownsRow.lt HX.out k hk).2
 have hpush:=HB4.out.push (by omega) ⟨w3.heap.size,[(ax,n,cx),(some ⟨g1,0,none⟩,n+1,c1),(some ⟨g2,0,none⟩,n+2,c2),(some ⟨g3,0,none⟩,n+3,c3)],fun k=>(Value.slice ax n cx).ownBlock=some k∨(w.heap.size≤k∧k<w3.heap.size)⟩ rfl HL4.out (by rw [HZ.out];exact HA4.out)
  (fun k hk=>by
   have hf:=HH.out.flt k
   have hh:=HH.out.hlt k
   rcases hk with hk|hk
   ·have h1:=hSF k (hS k hk);have h2:=hvl k hk;exact ⟨h1.1,h1.2.1,h1.2.2,by omega⟩
   ·exact ⟨fun hc=>by have:=hf hc;omega,fun hc=>by have:=hh hc;omega,by omega,by omega⟩)
  ⟨fun hc=>by have:=HH.out.flt _ hc;simp only at this;omega,fun hc=>by have:=HH.out.hlt _ hc;simp only at this;omega,by simp only;omega,by simp only;omega⟩ _ g5 c5 HO5.out HG5.out HT5.out
 refine ⟨rfl,⟨_,_,_,_,hpush.1,by simp,fun k hk=>?_⟩,(HKW.out.mono (fun k hk=>.inr (.inl (hS k hk)))).trans hpush.2 (fun k hk=>?_)⟩
 ·rcases hk with hk|hk|hk|hk
  ·exact .inl hk
  ·rcases hk with hk|hk
   ·exact .inr (.inl (hS k hk))
   ·exact .inr (.inr hk.1)
  ·exact .inr (.inr (by simp only at hk;omega))
  ·rcases HT5.out with e1|e1
   ·exact .inl (HB4.out.bytes.foot2 k (by rw [hk];exact e1))
   ·exact .inr (.inr (by omega))
 ·rcases hk with hk|hk
  ·exact .inl (.inl (HB4.out.bytes.foot2 k hk))
  ·exact .inl (.inr (.inr hk))
end Go.Proofs.YtcoengihaobddaaGreatDoor.book
namespace Go.Proofs.YtcoengihaobddaaGreatDoor.book
open Go.ChangeShapes Go.WideShapes Go.ChangeAt Go.RowKit disk ref
open keys (ret_int ret_bool beq_no beq_yes)
set_option linter.unusedVariables false
set_option maxRecDepth 8000
set_option maxHeartbeats 400000 in
theorem own_any (w:World) (P:Nat→Prop) (a:Option Addr) (cap:Nat) (l:List UInt8) (hb:Bytes w P a l) (hl:l.length≤140737488355326):
 Calls Tryz.prog 99 #[.slice a l.length cap] w fun e w'=>∃a' c',e=.returned (.slice a' l.length c')∧w'.ownsRow 0 5 1 (.slice a' l.length c') l.length (l.map byteV)∧Kept (fun _=>False) w w'∧∀k,(Value.slice a' l.length c').ownBlock=some k→w.heap.size≤k:=by
 have HB:Hid (Bytes w P a l):=hb
 obtain ⟨j0,hi0,hz0,hz1,hz2⟩:=info_of Tryz.infoU8
 have HJ0:Hid (Tryz.prog.info? 5=some j0∧j0.zero=some (.int .u8 0)∧j0.size=1∧j0.bytes=1):=⟨hi0,hz0,hz1,hz2⟩
 clear hi0 hz0 hz1 hz2 hb
 go_enter Tryz.func99,Tryz.ntmps99
 go_wp2_with (refine wpList_copy_bytes P rfl (.tmp 4) (.tmp 5) 35 rfl 5 j0 _ Tryz.underlying35 HJ0.out.1 HJ0.out.2.1 HJ0.out.2.2.1 HJ0.out.2.2.2 rfl a cap l (by rfl) (by rfl) (by exact HB.out) (by omega) ?_;intro a1 c1 w2 hown1 hgrow1 hat1;have HO1:Hid _:=hown1;have HG1:Hid _:=hgrow1;have HA1:Hid _:=hat1;clear hown1 hgrow1 hat1)
 go_ret
 exact ⟨a1,c1,rfl,HO1.out,Kept.grown (S:=fun _=>False) HG1.out (fun k hk=>by cases hk),fun k hk=>by rcases HA1.out with e|e<;>rw [e] at hk<;>simp at hk;omega⟩
theorem eql_nil (w:World) (a:Option Addr) (n c:Nat):(binOp .eql 35 (.slice a n c) (.slice none 0 0)).run Tryz.prog w=.ok (.bool a.isNone) w:=Go.Lib.run_eql_slice_nil w 35 5 a n c 0 0 Tryz.underlying35
structure LentAt (w:World) (g n cap:Nat) (l:List UInt8):Prop where
 len:n=l.length
 at_:∃cur,w.heap[g]? =some (.cells cur 5 (0,0))∧n+2≤cap∧cap≤maxLen∧cur.size=cap∧cur.toList.take (n+2)=l.map byteV++[.int .u8 77,.int .u8 77]
theorem LentAt.kept {w w':World} {T:Nat→Prop} {g n cap:Nat} {l:List UInt8} (h:LentAt w g n cap l) (k:Kept T w w') (hn:¬T g):LentAt w' g n cap l:=by
 obtain ⟨h0,cur,h1,h2⟩:=h
 exact ⟨h0,cur,(k.block g (Array.getElem?_eq_some_iff.1 h1).1 hn).trans h1,h2⟩
theorem LentAt.bytes {w:World} {g n cap:Nat} {l:List UInt8} (h:LentAt w g n cap l) (P:Nat→Prop) (hP:P g):Bytes w P (some ⟨g,0,none⟩) l:=by
 obtain ⟨h0,cur,h1,h2,h3,h4,h5⟩:=h
 subst h0
 refine .inr ⟨g,0,rfl,hP,(Array.getElem?_eq_some_iff.1 h1).1,fun j hj=>?_⟩
 rw [cell_of_row w g (0+j) _ _ _ h1]
 have e:cur.toList[0+j]? =(cur.toList.take (l.length+2))[0+j]? :=by rw [List.getElem?_take,if_pos (by omega)]
 rw [←Array.getElem?_toList,e,h5]
 rw [List.getElem?_append_left (by simp;omega)]
 simp [hj,byteV]
theorem LentAt.cells {w:World} {g n cap:Nat} {l:List UInt8} (h:LentAt w g n cap l):(∀j (hj:j<l.length),w.cell? ⟨g,j,none⟩=some (.int .u8 (l[j].toNat:Int)))∧w.cell? ⟨g,l.length,none⟩=some (.int .u8 77)∧w.cell? ⟨g,l.length+1,none⟩=some (.int .u8 77)∧∀i,w.frozen? ⟨g,i,none⟩=false:=by
 obtain ⟨h0,cur,h1,h2,h3,h4,h5⟩:=h
 subst h0
 have key:∀j,j<l.length+2→w.cell? ⟨g,j,none⟩=(l.map byteV++[.int .u8 77,.int .u8 77])[j]? :=fun j hj=>by
  rw [cell_of_row w g j _ _ _ h1,←Array.getElem?_toList,←h5,List.getElem?_take,if_pos hj]
 refine ⟨fun j hj=>?_,?_,?_,fun i=>frozen_of_row w g i _ _ h1⟩
 ·rw [key j (by omega),List.getElem?_append_left (by simpa using hj)];simp [hj,byteV]
 ·rw [key _ (by omega),List.getElem?_append_right (by simp)];simp
 ·rw [key _ (by omega),List.getElem?_append_right (by simp)];simp
set_option maxHeartbeats 1000000 in
theorem lent_any (w:World) (P:Nat→Prop) (ad:Addr) (cap:Nat) (l:List UInt8) (hb:Bytes w P (some ad) l) (hl:l.length≤140737488355326):
 Calls Tryz.prog 91 #[.slice (some ad) l.length cap] w fun e w'=>∃g c',e=.returned (.slice (some ⟨g,0,none⟩) l.length c')∧LentAt w' g l.length c' l∧Kept (fun _=>False) w w'∧w.heap.size≤g:=by
 have HB:Hid (Bytes w P (some ad) l):=hb
 obtain ⟨j0,hi0,hz0,hz1,hz2⟩:=info_of Tryz.infoU8
 have HJ0:Hid (Tryz.prog.info? 5=some j0∧j0.zero=some (.int .u8 0)∧j0.size=1∧j0.bytes=1):=⟨hi0,hz0,hz1,hz2⟩
 clear hi0 hz0 hz1 hz2 hb
 have hnil:=fun w=>eql_nil w (some ad) l.length cap
 go_enter Tryz.func91,Tryz.ntmps91
 go_wp2_with fail
 refine (own_any _ P _ cap l HB.out hl).mono ?_
 rintro e w1 ⟨a1,c1,rfl,hown,hk,hnew⟩
 have HO:Hid (w1.ownsRow 0 5 1 (.slice a1 l.length c1) l.length (l.map byteV)):=hown
 have HK:Hid _:=hk
 have HN:Hid _:=hnew
 clear hown hk hnew
 go_wp2_with (refine wpList_append_lies _ rfl (.tmp 8) (.tmp 9) 35 rfl 0 5 j0 _ 1 1 Tryz.underlying35 HJ0.out.1 HJ0.out.2.1 HJ0.out.2.2.1 HJ0.out.2.2.2 rfl (by omega) (.slice a1 l.length c1) l.length (l.map byteV) (by rfl) (by exact World.ownsRow.alloc HO.out _) ⟨w1.heap.size,0,none⟩ 2 2 [.int .u8 77,.int .u8 77] (by rfl) (by rfl) (by exact World.news_of_block (heap_alloc_new w1 _)) (by simp [Value.oneCell']) (by omega) (by unfold maxLen;omega) (by omega) (Nat.zero_le _) (w1.heap.size+1) (by simp) ?_;intro g c2 w2 hown2 hgrow2 hat2 hlt2;have HO2:Hid (w2.ownsRow _ _ _ _ _ _):=hown2;have HG2:Hid _:=hgrow2;have HA2:Hid _:=hat2;have hcap:l.length+2≤c2∧c2≤9223372036854775807:=by {rcases hown2.2 with ⟨h0,_⟩|⟨_,_,_,h0,_,_,h1,h2,_⟩;cases h0;cases h0;unfold maxLen at h2;omega};clear hown2 hgrow2 hat2)
 go_ret
 have k1:Kept (fun k=>w.heap.size≤k) w1 w2:=(Kept.alloc _ w1 _).trans (Kept.grown (S:=fun k=>w.heap.size≤k) HG2.out (fun k hk=>HN.out k hk)) (fun _ h=>.inl h)
 refine ⟨g,c2,rfl,⟨rfl,?_⟩,HK.out.trans k1 (fun k hk=>.inr hk),?_⟩
 ·rcases HO2.out.2 with ⟨h0,_⟩|⟨g',cap',cur,h0,_,h1,h2,h3,h4,h5⟩
  ·cases h0
  ·cases h0
   exact ⟨cur,h1,h2,h3,by omega,by simpa using h5⟩
 ·rcases HA2.out with e|e
  ·exact HN.out g e
  ·have:=HK.out.size;omega
theorem lent_nil (w:World) (n cap:Nat):Calls Tryz.prog 91 #[.slice none n cap] w fun e w'=>e=.returned (.slice none 0 0)∧w'=w:=by
 have hnil:=fun w=>eql_nil w none n cap
 go_enter Tryz.func91,Tryz.ntmps91
 go_wp2
 go_ret
 exact ⟨rfl,rfl⟩
theorem returned_nil (w:World) (n cap:Nat):Calls Tryz.prog 92 #[.slice none 0 0,.slice none n cap] w fun e w'=>e=.returned (.bool true)∧w'=w:=by
 have hnil:=fun w=>eql_nil w none n cap
 have hnil2:=fun w=>eql_nil w none 0 0
 go_enter Tryz.func92,Tryz.ntmps92
 go_wp2
 go_ret
 exact ⟨rfl,rfl⟩
set_option maxHeartbeats 2000000 in
theorem returned_any (w:World) (P:Nat→Prop) (ad:Addr) (cap:Nat) (l:List UInt8) (hb:Bytes w P (some ad) l) (hl:l.length≤140737488355326) (g c:Nat) (h:LentAt w g l.length c l) (hg:¬P g):
 Calls Tryz.prog 92 #[.slice (some ⟨g,0,none⟩) l.length c,.slice (some ad) l.length cap] w fun e w'=>e=.returned (.bool true)∧Kept (fun k=>k=g) w w':=by
 have HB:Hid (Bytes w P (some ad) l):=hb
 have HH:Hid _:=h
 have hnil:=fun w=>eql_nil w (some ad) l.length cap
 obtain ⟨hcs,h77a,h77b,hfz⟩:=h.cells
 have HC:Hid _:=hcs
 have HF:Hid _:=hfz
 have hcap:l.length+2≤c∧c≤9223372036854775807:=by
  obtain ⟨_,cur,_,h2,h3,_⟩:=h;unfold maxLen at h3;omega
 clear hb h hcs hfz
 go_enter Tryz.func92,Tryz.ntmps92
 go_wp2
 go_loopw [6,7] (fun ok i wr=>∃k:Nat,k≤l.length∧i=.int .i64 k∧ok=.bool true∧∃n,wr=w.drewN n) (fun _ i _=>l.length-(intOf i).toNat)
 case atStart=>exact ⟨0,Nat.zero_le _,rfl,rfl,0,rfl⟩
 case round=>
  obtain ⟨k,hk,rfl,rfl,n,rfl⟩:=hrel
  by_cases hlt:k<l.length
  ·have hk1:=HC.out k hlt
   rcases HB.out with h0|⟨b,o,h1,h2,h3,h4⟩
   ·rw [h0] at hlt;simp at hlt
   ·have hk2:=h4 k hlt
    cases h1
    go_wp2
    go_quiet (fail)
    go_wp2
    go_roundw
    case rel=>exact ⟨k+1,by omega,by go_num,rfl,_,rfl⟩
    case measure=>simp [intOf];omega
  ·go_wp2
   go_loopw [8] (fun i wr=>∃k:Nat,k≤l.length+2∧i=.int .i64 k∧(∃cur,wr.heap[g]? =some (.cells cur 5 (0,0))∧l.length+2≤cur.size)∧Kept (fun k=>k=g) w wr) (fun i _=>l.length+2-(intOf i).toNat)
   case atStart=>
    obtain ⟨_,cur,h1,h2,h3,h4,h5⟩:=HH.out
    exact ⟨0,Nat.zero_le _,rfl,⟨cur,h1,by omega⟩,⟨rfl,rfl,rfl,Nat.le_refl _,fun _ _ _=>rfl⟩⟩
   case round=>
    obtain ⟨j,hj,rfl,⟨cur,h1,h2⟩,hkept⟩:=hrel
    have HK:Hid _:=hkept
    have HH1:Hid _:=h1
    clear hkept
    by_cases hlt2:j<l.length+2
    ·have hcj:wr.cell? ⟨g,j,none⟩=some (cur[j]'(by omega)):=by rw [cell_of_row wr g j _ _ _ h1];simp
     have hfj:=frozen_of_row wr g j _ _ h1
     generalize cur[j]'(by omega)=cj at*
     clear h1
     go_wp2
     go_roundw
     case rel=>exact ⟨j+1,by omega,by go_num,⟨_,heap_setCell_same wr g j _ _ _ HH1.out,by simpa using h2⟩,HK.out.trans (Kept.setCell (S:=fun k=>k=g) wr ⟨g,j,none⟩ _ rfl) (fun _ h=>.inl h)⟩
     case measure=>simp [intOf];omega
    ·clear h1
     go_wp2
     go_ret
     exact ⟨rfl,HK.out⟩
set_option maxHeartbeats 1000000 in
theorem sameBytes_any (w:World) (P Q:Nat→Prop) (a b:Option Addr) (ca cb:Nat) (l:List UInt8) (ha:Bytes w P a l) (hb:Bytes w Q b l) (hl:l.length≤140737488355326):
 Calls Tryz.prog 105 #[.slice a l.length ca,.slice b l.length cb] w fun e w'=>e=.returned (.bool true)∧∃n,w'=w.drewN n:=by
 have HA:Hid (Bytes w P a l):=ha
 have HB:Hid (Bytes w Q b l):=hb
 clear ha hb
 go_enter Tryz.func105,Tryz.ntmps105
 go_wp2
 go_loopw [5] (fun i wr=>∃k:Nat,k≤l.length∧i=.int .i64 k∧∃n,wr=w.drewN n) (fun i _=>l.length-(intOf i).toNat)
 case atStart=>exact ⟨0,Nat.zero_le _,rfl,0,rfl⟩
 case round=>
  obtain ⟨k,hk,rfl,n,rfl⟩:=hrel
  by_cases hlt:k<l.length
  ·rcases HA.out with h0|⟨b1,o1,h1,_,_,h4⟩
   ·rw [h0] at hlt;simp at hlt
   rcases HB.out with h0|⟨b2,o2,h1',_,_,h4'⟩
   ·rw [h0] at hlt;simp at hlt
   have hk1:=h4 k hlt
   have hk2:=h4' k hlt
   subst h1 h1'
   clear h4 h4'
   go_wp2
   go_quiet (fail)
   go_wp2
   go_roundw
   case rel=>exact ⟨k+1,by omega,by go_num,_,rfl⟩
   case measure=>simp [intOf];omega
  ·go_wp2
   go_ret
   exact ⟨rfl,_,rfl⟩
end Go.Proofs.YtcoengihaobddaaGreatDoor.book
namespace Go.Proofs.YtcoengihaobddaaGreatDoor.law
open Go.ChangeShapes Go.WideShapes Go.ChangeAt Go.RowKit disk ref book
open keys (ret_int ret_bool beq_no beq_yes)
set_option linter.unusedVariables false
set_option maxRecDepth 8000
structure OneH where
 d:Value
 s:Value
 is:Value
 mb:Value
 k0:Value
 k1:Value
 k2:Value
 k3:Value
 died:Int
 told:Int
 shut:Bool
def OneH.cells (h:OneH):Array Value:=#[h.d,h.s,h.is,h.mb,h.k0,h.k1,h.k2,h.k3,.int .i64 h.died,.int .i64 h.told,.bool h.shut]
structure OneHead (w:World) (bo:Nat) (h:OneH):Prop where
 head:w.heap[bo]? =some (.cells h.cells 125 (0,0))
theorem OneHead.lt {w:World} {bo:Nat} {h:OneH} (o:OneHead w bo h):bo<w.heap.size:=(Array.getElem?_eq_some_iff.1 o.head).1
theorem OneHead.kept {w w':World} {T:Nat→Prop} {bo:Nat} {h:OneH} (o:OneHead w bo h) (k:Kept T w w') (hn:¬T bo):OneHead w' bo h:=⟨(k.block bo o.lt hn).trans o.head⟩
theorem OneHead.at_ {w:World} {bo:Nat} {h:OneH} (o:OneHead w bo h) {i:Nat} {v:Value} (hv:h.cells[i]? =some v):w.cell? ⟨bo,i,none⟩=some v:=by
 rw [cell_of_row w bo i _ _ _ o.head];exact hv
theorem OneHead.fz {w:World} {bo:Nat} {h:OneH} (o:OneHead w bo h) (i:Nat):w.frozen? ⟨bo,i,none⟩=false:=frozen_of_row w bo i _ _ o.head
theorem OneHead.c0 {w:World} {bo:Nat} {h:OneH} (o:OneHead w bo h):w.cell? ⟨bo,0,none⟩=some h.d:=o.at_ rfl
theorem OneHead.c1 {w:World} {bo:Nat} {h:OneH} (o:OneHead w bo h):w.cell? ⟨bo,1,none⟩=some h.s:=o.at_ rfl
theorem OneHead.c2 {w:World} {bo:Nat} {h:OneH} (o:OneHead w bo h):w.cell? ⟨bo,2,none⟩=some h.is:=o.at_ rfl
theorem OneHead.c8 {w:World} {bo:Nat} {h:OneH} (o:OneHead w bo h):w.cell? ⟨bo,8,none⟩=some (.int .i64 h.died):=o.at_ rfl
theorem OneHead.c9 {w:World} {bo:Nat} {h:OneH} (o:OneHead w bo h):w.cell? ⟨bo,9,none⟩=some (.int .i64 h.told):=o.at_ rfl
theorem OneHead.c10 {w:World} {bo:Nat} {h:OneH} (o:OneHead w bo h):w.cell? ⟨bo,10,none⟩=some (.bool h.shut):=o.at_ rfl
theorem OneHead.set {w:World} {bo:Nat} {h:OneH} (o:OneHead w bo h) (i:Nat) (v:Value) (h':OneH) (e:h'.cells=h.cells.setIfInBounds i v):OneHead (w.setCell ⟨bo,i,none⟩ v) bo h':=
 ⟨by rw [heap_setCell_same w bo i _ _ _ o.head,e]⟩
theorem blocks_one (w:World) (bo:Nat) (h:OneH) (o:OneHead w bo h) (bd:Nat) (hd:h.d=.pointer (some ⟨bd,0,none⟩)) (S:Nat→Prop) (D:Dk) (hD:Disk w bd S D):
 Calls Tryz.prog 149 #[.pointer (some ⟨bo,0,none⟩)] w fun e w'=>e=.returned (.int .i64 D.bs.length)∧w'=w:=by
 have hc:=o.c0
 rw [hd] at hc
 obtain ⟨ba,pa,bc,pc,hD⟩:=hD
 have HD:Hid _:=hD
 clear hD hd
 go_enter Tryz.func149,Tryz.ntmps149
 go_wp2_with (go_at_call 54;refine (blocks_any _ bd S D ba pa bc pc HD.out).mono ?_;rintro e w' ⟨rfl,rfl⟩)
 go_ret
 exact ⟨rfl,rfl⟩
theorem dead_one (w:World) (bo:Nat) (h:OneH) (o:OneHead w bo h) (bd:Nat) (hd:h.d=.pointer (some ⟨bd,0,none⟩)) (S:Nat→Prop) (D:Dk) (hD:Disk w bd S D) (hf:D.fuse=0):
 Calls Tryz.prog 87 #[.pointer (some ⟨bo,0,none⟩)] w fun e w'=>e=.returned (.bool true)∧(∃S',Disk w' bd S' D∧∀k,S' k→S k)∧Kept S w w':=by
 have hc:=o.c0
 rw [hd] at hc
 have HD:Hid _:=hD
 have hfl:D.flush=D:=by
  cases D;simp only at hf;subst hf;rfl
 have HF:Hid _:=hf
 have HL:Hid _:=hfl
 clear hD hd hf hfl
 go_enter Tryz.func87,Tryz.ntmps87
 go_wp2_with fail
 refine (flush_any _ bd S D HD.out (by rw [HF.out];exact ⟨by omega,by omega⟩)).mono ?_
 rintro e w1 ⟨rfl,h1,h2⟩
 rw [HF.out]
 rw [HL.out] at h1
 have H1:Hid _:=h1
 have H2:Hid _:=h2
 clear h1 h2
 go_wp2
 go_ret
 exact ⟨rfl,H1.out,H2.out⟩
def shutE:Bool→Int→Int
 |false,c=>c
 |true,c=>if c=0∨c=5 then 8 else c
set_option maxHeartbeats 400000 in
theorem refused_any (w:World) (bo:Nat) (h:OneH) (o:OneHead w bo h) (f:Int):
 Calls Tryz.prog 104 #[.pointer (some ⟨bo,0,none⟩),.int .i64 f] w fun e w'=>e=.returned (.int .i64 (shutE h.shut f))∧w'=w:=by
 have hc:=o.c10
 cases hs:h.shut
 ·rw [hs] at hc
  clear hs
  go_enter Tryz.func104,Tryz.ntmps104
  go_wp2
  go_ret
  exact ⟨rfl,rfl⟩
 ·rw [hs] at hc
  clear hs
  by_cases h0:f=0
  ·subst h0
   go_enter Tryz.func104,Tryz.ntmps104
   go_wp2
   go_ret
   exact ⟨rfl,rfl⟩
  ·have e0:(f==0)=false:=by simpa using h0
   by_cases h5:f=5
   ·subst h5
    go_enter Tryz.func104,Tryz.ntmps104
    go_wp2
    go_ret
    exact ⟨rfl,rfl⟩
   ·have e5:(f==5)=false:=by simpa using h5
    have HE:Hid _:=h0
    have HE5:Hid _:=h5
    clear h0 h5
    go_enter Tryz.func104,Tryz.ntmps104
    go_wp2
    go_ret
    exact ⟨ret_int (by show f=if f=0∨f=5 then 8 else f;rw [if_neg (fun h=>h.elim HE.out HE5.out)]),rfl⟩
def numB (n last told died:Int):Bool:=decide (last<n∧n≤told+1+died)
set_option maxHeartbeats 1000000 in
theorem numbered_any (w:World) (bo:Nat) (h:OneH) (o:OneHead w bo h) (ib:Nat) (hi:h.is=.pointer (some ⟨ib,0,none⟩)) (F G:Nat→Prop) (vs:List Ver) (last:Int) (hr:RefAt w F G ib vs last) (n:Int) (ht0:0≤h.told) (ht1:h.told≤4611686018427387904) (hd0:0≤h.died) (hd1:h.died≤1152921504606846976):
 Calls Tryz.prog 96 #[.pointer (some ⟨bo,0,none⟩),.int .i64 n] w fun e w'=>e=.returned (.bool (numB n last h.told h.died))∧∃m,w'=w.drewN m:=by
 have hc2:=o.c2
 have hc8:=o.c8
 have hc9:=o.c9
 rw [hi] at hc2
 obtain ⟨a,cap,cs,hr⟩:=hr
 have hcl:=hr.c1
 clear hr hi
 by_cases h1:last<n
 ·have e1:decide (last<n)=true:=decide_eq_true h1
  go_enter Tryz.func96,Tryz.ntmps96
  go_wp2
  go_quiet (fail)
  go_wp2
  go_ret
  exact ⟨ret_bool (by unfold numB;simp [h1]),_,rfl⟩
 ·have e1:decide (last<n)=false:=decide_eq_false h1
  go_enter Tryz.func96,Tryz.ntmps96
  go_wp2
  go_quiet (fail)
  go_wp2
  go_ret
  exact ⟨ret_bool (by unfold numB;rw [decide_eq_false (by omega)]),_,rfl⟩
end Go.Proofs.YtcoengihaobddaaGreatDoor.law
