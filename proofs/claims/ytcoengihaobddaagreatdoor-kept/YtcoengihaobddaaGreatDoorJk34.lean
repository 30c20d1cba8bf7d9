/- Proved: whatever changes are made on a new disk, whenever it dies in their midst and whatever of what was not flushed lasts: what was answered for is there, byte by byte, under its number, till it is erased, numbers rise, and a store can always be opened (the law Kept answers true), and what is handed in reads as it did; no condition. The card ties the listed tables to the program's text (a pruned copy of the project: see the seat's page). -/
import Derived.Test.YtcoengihaobddaaGreatDoorJk33
import Derived.Test.YtcoengihaobddaaGreatDoorJk14
import Derived.Test.YtcoengihaobddaaGreatDoorCards
import Derived.Test.YtcoengihaobddaaGreatDoorTie
import Derived.Deep.DeepHandedRow
import Derived.Deep.DeepWitnessRowRef
import Derived.Lib.LaidIn
import Derived.Lib.LaidU8
import Derived.WideKeyArgs
set_option maxHeartbeats 8000000
set_option linter.unusedVariables false
set_option linter.unusedSimpArgs false
set_option maxRecDepth 8000
namespace Go.Proofs.YtcoengihaobddaaGreatDoor
namespace prog
open Go.RowKit disk ref
open law (qe zc ym zR jI)
open keys (zu)
theorem fS.at_none{bs:List (List Value)}{V:qe}{tree n:Nat}{m:List UInt8}{es:List En}{bl:List Nat}{bo:Pl→List zq}(h:fS bs V tree n m es bl bo){key:ByteArray}{num:Int}(hno:∀x∈es,x.pl≠⟨key,num⟩):qX V.vs key num=none:=by
 cases hv:qX V.vs key num with
 |none=>rfl
 |some v=>
  obtain⟨h1,h2,h3⟩:=jc hv
  obtain⟨y,hy,rfl⟩:=h.ver h3
  have e1:y.pl.key=key:=h1
  have e2:y.pl.num=num:=h2
  exact absurd (by rw [←e1,←e2]) (hno y hy)
variable {Fu:Int→Prop} {Ho:List (List Value)→qe→Prop} {m1:∀f,Fu f→zD f} {m2:Fu (-1)} {m3:∀bs V,yq bs V→Ho bs V} {m4:∀bs V,Ho bs V→law.Good V}
theorem uB.wsok{D:Dk}{V:qe}{tree n:Nat}{m:List UInt8}{es:List En}{bl:List Nat}{bo:Pl→List zq}{p:Pl}{e:En}{root':Nat}{C1:Ck}{m1:List UInt8}{pb fb:List Nat}{C2:Ck}{m2:List UInt8}(h:uB D V tree n m es bl bo p e root' C1 m1 pb fb C2 m2):Yk D.bs.length (C2.put 1 (zl (zp root' n))).ws:=by
 have h1:1∈(C2.put 1 (zl (zp root' n))).keys:=(yI C2 1 _ 1).2 (.inr rfl)
 have h2:=List.length_pos_of_mem h1
 rw [Ck.keys_len] at h2
 refine⟨yt h.shr.1.nodup 1 _,h.fits.2,h2,fun p hp=>?_⟩
 have hk:p.1∈(C2.put 1 (zl (zp root' n))).keys:=List.mem_map.2 ⟨p,hp,rfl⟩
 refine⟨h.klt _ hk,?_⟩
 rcases List.mem_append.1 (h.keys _ hk) with h3|h3
 ·simp at h3;omega
 ·have:=(h.rep.range _ (List.mem_append_left _ (h.rem.sub _ h3))).1
  omega
def VC(D:Dk)(V:qe)(key:ByteArray)(num:Int)(bd:Nat)(c:Int)(D':Dk)(q:Option Nat):Prop:=
 Z6 D D'∧∃kk:Int,0≤kk∧kk≤40∧((c=5∧q=some bd∧qX V.vs key num=none∧D'={D with reads:=D.reads+kk })∨
  ((∃v,qX V.vs key num=some v)∧Vf D V (V.sub key num) bd c kk D' q))
theorem VD(w:World)(bs bd:Nat)(S:Nat→Prop)(D:Dk)(hs:zK w bs 1 (some bd))(hd:zh w bd S D)(hn:¬S bs)(hr0:0≤D.reads)(hr1:D.reads≤4611686018427340000)(hps:D.ps=[])(hfu:zD D.fuse)(h64:64≤D.bs.length)(V:qe)(hV:V.n0≤2305843009213693952)(hrest:yq D.bs V)
 (key:ByteArray) (num:Int):
 Calls Tryz.prog 53 #[.pointer (some ⟨bs,0,none⟩),.agg #[.string key,.int .i64 num]] w fun e w'=>∃c D' q,e=.returned (.int .i64 c)∧uv w w' bs bd S D' 1 q∧VC D V key num bd c D' q:=by
 have hrest0:=hrest
 obtain⟨tree,n,m,es,bl,bo,R⟩:=hrest
 have hn9:n<4611686018427387904:=by rw [R.n0] at hV;omega
 have hN:=R.few
 have hroot:yu (D.look 1) tree n:=by have:=R.root;rw [←yF hps] at this;exact this
 have hmap:qn (D.look 2) m:=by have:=R.map;rw [←yF hps] at this;exact this
 have hcln:fI D vd m:=⟨by rw [yo];exact hmap,rfl,List.nodup_nil⟩
 have hfor:ya (fun j=>vd.look D (j:Nat)) tree es bl:=R.forest.congr (fun j hj=>by
  show vd.look D (j:Nat)=_
  rw [yo,yF hps])
 rcases Z9 (w.heap.size+1) bd S (fun j=>j=w.heap.size+1) D ⟨key,num⟩ vd m tree es bl hfor (List.nodup_append.1 R.nodup).1 (fun j hj=>by have:=R.range j (List.mem_append_left _ hj);omega) R.len hcln (by show 0<100;omega) with⟨e,root',C1,m1,pb,fb,hR,hcall⟩|⟨hno,hcall⟩
 ·obtain⟨p1,p2,p3⟩:=R.pieces hR.mem
  have hbd:=R.body e hR.mem
  rcases hfree:yi ((bo e.pl).map zq.at_) (C1,m1) with⟨C2,m2⟩
  have A:uB D V tree n m es bl bo ⟨key,num⟩ e root' C1 m1 pb fb C2 m2:=⟨R,hps,h64,hR,hfree,hn9⟩
  obtain⟨hf,h18⟩:=A.fits
  have hep:e.pl.key=key∧e.pl.num=num:=by rw [hR.at_];exact⟨rfl,rfl⟩
  have hrst:Rest D n e root' C1 C2 m1 m2 (bo e.pl):=⟨hR.cln,by have:=hR.few;have h0:vd.ws.length=0:=rfl;omega,hR.lt,hbd.chain.congr (fun q hq=>by
   have hb:=vW (bo:=bo) hR.mem (List.mem_map.2 ⟨q,hq,rfl⟩)
   have hr:=R.range q.at_ (List.mem_append_right _ hb)
   have hnb:q.at_∉bl:=fun hc=>(List.nodup_append.1 R.nodup).2.2 _ hc _ hb rfl
   obtain⟨bl',_,hperm⟩:=hR.tree
   have h1:=hR.shr.look q.at_ (fun hc=>hnb (hR.sub _ hc)) (fun hc=>hnb (hperm.mem_iff.1 (List.mem_append_right _ hc))) (by omega)
   show C1.look D (q.at_:Nat)=_
   rw [h1,yo,yF hps]),p1,hbd.head,p3,fun q hq=>by
   have hb:=vW (bo:=bo) hR.mem (List.mem_map.2 ⟨q,hq,rfl⟩)
   have hr:=R.range q.at_ (List.mem_append_right _ hb)
   omega,hfree,hf,h18,A.klt⟩
  refine(uR w bs bd S D 1 hs hd hn hr0 (by omega) hps hfu h64 hN tree n hroot hn9 ⟨key,num⟩ e root' C1 C2 m1 m2 (bo e.pl) _ true hcall (.inr ⟨rfl,rfl,hrst⟩)).mono ?_
  rintro x w' ⟨kk,hk0,hk1,⟨h,_⟩|⟨_,c,h1,hc⟩⟩
  ·cases h
  ·obtain⟨bl',hrep⟩:=A.rest
   obtain⟨D',q,g1,g2,g3⟩:=Kj hps h64 hrest0 A.wsok ⟨_,_,_,_,_,_,hrep⟩ hc
   exact⟨c,D',q,h1,g1,g3,kk,hk0,hk1,.inr ⟨⟨_,R.at_yes hR.mem hep.1 hep.2⟩,g2⟩⟩
 ·refine(uR w bs bd S D 1 hs hd hn hr0 (by omega) hps hfu h64 hN tree n hroot hn9 ⟨key,num⟩ vX tree vd vd m m [] _ false hcall (.inl ⟨rfl,rfl⟩)).mono ?_
  rintro x w' ⟨kk,hk0,hk1,⟨_,h1,ho⟩|⟨h,_⟩⟩
  ·exact⟨5,_,some bd,h1,⟨hs.kept ho.kept hn,ho.disk,ho.kept.mono iL⟩,Z6.refl _ _,kk,hk0,hk1,.inl ⟨rfl,rfl,R.at_none hno,rfl⟩⟩
  ·cases h
theorem Yn(m5:Fu 0→∀bs V,jC bs V→Ho bs V)(m6:∀f,Fu f→Fu (qj f)):ym (gd Fu Ho m1 m2 m3 m4) where
 live:=fun w bd bs S D V key num F hk hnum=>by
  have hfu:Fu D.fuse:=F.fuse
  have hs:zK w bs 0 (some bd):=F.sto
  have hd:=F.disk
  have hps:=F.live.ps
  have hrest:yq D.bs V:=F.live.rest
  have hr0:=F.reads0
  have hr1:=F.reads1
  have hbig:=F.live.big
  cases hkey:zu key.data.toList with
  |false=>
   refine(YT w bs (some bd) hs key num hk hkey).mono ?_
   rintro e w' ⟨h1,h2,h3⟩
   exact⟨D,S,2,some bd,h1,vU hd F.apart hfu h2 h3,⟨.inl ⟨by show (2:Int)≠0;decide,rfl,rfl,F.live⟩⟩⟩
  |true=>
   refine(KS w bs bd S D hs hd F.apart key num hk hkey (VC D V key num bd) (fun w' h1 h2=>VD w' bs bd S D h1 h2 F.apart hr0 (by omega) hps (m1 _ hfu) hbig V F.few hrest key num)).mono ?_
   rintro e w' ⟨c,D',q,h1,⟨hto,kk,hk0,hk1,hq⟩,hi⟩
   have hfu':Fu D'.fuse:=hto Fu m6 hfu
   rcases hq with⟨rfl,rfl,hf,rfl⟩|⟨⟨v,hf⟩,hq⟩
   ·rw [hf]
    obtain⟨S',ha⟩:=hi.aft (D:=D) (by show D.reads≤D.reads+kk;omega) (by show D.reads+kk≤D.reads+40;omega) rfl hfu'
    exact⟨_,S',5,some bd,h1,ha,⟨.inl ⟨by show (5:Int)≠0;decide,rfl,rfl,⟨hps,hrest,hbig⟩⟩⟩⟩
   ·rw [hf]
    obtain⟨e1,e2⟩:=hq.same
    obtain⟨S',ha⟩:=hi.aft (D:=D) (by omega) (by omega) e1 hfu'
    exact⟨D',S',c,q,h1,ha,hq.chg m5 hps hbig hfu'⟩
 shut:=fun w bs key num hs hk=>by
  have hs':zK w bs 0 none:=hs
  cases hkey:zu key.data.toList with
  |false=>exact(YT w bs none hs' key num hk hkey).mono (fun e w' ⟨h1,h2,h3⟩=>⟨h1,h2,h3⟩)
  |true=>exact(Kk w bs hs' key num hk hkey).mono (fun e w' ⟨h1,h2,h3⟩=>⟨h1,h2,h3⟩)
end prog
namespace prog
open Go.RowKit disk ref
open law (qe zc qv cB)
variable {Fu:Int→Prop} {Ho:List (List Value)→qe→Prop} {m1:∀f,Fu f→zD f} {m2:Fu (-1)} {m3:∀bs V,yq bs V→Ho bs V} {m4:∀bs V,Ho bs V→law.Good V}
theorem fQ:∀(ps:List (Nat×List Value)) (bs:List (List Value)),(∀b∈bs,zy b)→(∀p∈ps,zy p.2)→∀b∈zj bs ps,zy b
 |[],bs,h,_=>h
 |p::ps,bs,h,hp=>fQ ps (bs.set p.1 p.2) (fun b hb=>by
  rcases List.mem_or_eq_of_mem_set hb with hb|rfl
  ·exact h b hb
  ·exact hp p (List.mem_cons_self ..)) (fun q hq=>hp q (List.mem_cons_of_mem _ hq))
theorem YU{D:Dk}(hp:D.ps=[]){i:Nat}{b:List Value}(h:D.bs[i]? =some b)(x:Int)(hx:x=i):D.look x=b:=by
 subst hx
 rw [yF hp,Yj,List.getD_eq_getElem?_getD,h]
 rfl
theorem XO(m0:∀bs V,Ho bs V→jC bs V)(m5:Fu 0→∀bs V,jC bs V→Ho bs V)(m6:∀f,Fu f→Fu (qj f)):qv (gd Fu Ho m1 m2 m3 m4) where
 small:=fun w bd S D hd hN=>(Q9 w bd S D hd hN).mono (by
  rintro e w' ⟨h1,rfl⟩
  exact⟨h1,hd,Kept.refl _ _⟩)
 big:=fun w bd S D P hd hcould hfu hr0 hr1=>by
  have hf:Fu D.fuse:=hfu
  have hio:=m1 _ hf
  have hbig:=hcould.big
  by_cases hz:D.fuse=0
  ·refine(fD w bd S D D hd hbig (ZH w bd S D hd hio (by rw [hz];rfl))).mono ?_
   rintro e w' ⟨h1,⟨S',h2,h3⟩,h4⟩
   exact⟨D,S',⟨h2,h3,h4,Int.le_refl _,by omega,rfl,hfu⟩,.inr ⟨h1,hz,hcould⟩⟩
  ·have hzb:(D.fuse==0)=false:=by simpa using hz
   obtain⟨V,hV,hho⟩:=hcould.all (List.replicate D.ps.length true)
   rw [Z1] at hho
   have hfl:D.flush={D with bs:=zj D.bs D.ps,ps:=[],fuse:=qj D.fuse}:=by unfold Dk.flush;rw [if_neg hz]
   have hl9:(zj D.bs D.ps).length=D.bs.length:=zB _ _
   have hfu1:Fu (qj D.fuse):=m6 _ hf
   rcases m0 _ _ hho with hrest|⟨ws,hlog⟩
   ·obtain⟨tree,n,m,es,bl,bo,hrep⟩:=hrest
    obtain⟨p,hp,hl,hi⟩:=hrep.head
    have hl0:D.flush.look 0=zl p:=by rw [hfl,←hl];rfl
    refine(dK w bd S D {D.flush with reads:=D.reads+1} hd hbig (ZI w bd S D hd hio hzb hr0 (by omega) p hp hl0 hi)).mono ?_
    rw [hfl]
    rintro e w' ⟨bs,h1,h2,h3,S',h4,h5,h6,h7⟩
    exact⟨_,S',⟨h4,h5,h7,by show D.reads≤D.reads+1;omega,by show D.reads+1≤_;omega,hl9,hfu1⟩,.inl ⟨bs,V,h1,h2,h6,h3,hV,⟨rfl,⟨tree,n,m,es,bl,bo,hrep⟩,by show 64≤(zj D.bs D.ps).length;omega⟩⟩⟩
   ·have hlen:=hlog.ok.few
    have hN:(zj D.bs D.ps).length≤1000:=by
     obtain⟨tree,n,m,es,bl,bo,hrep⟩:=hlog.rest
     have:=hrep.few
     rw [List.length_set,zB] at this
     exact this
    obtain⟨ba,pa,bc,pc,hda⟩:=hd
    have hd:zh w bd S D:=⟨ba,pa,bc,pc,hda⟩
    have hblk:=fQ D.ps D.bs hda.ok.bs (fun p hp=>(hda.ok.ps p hp).2)
    have hok:∀p∈ws,zy p.2∧p.1<65536:=fun p hp=>by
     obtain⟨i,hi,rfl⟩:=List.getElem_of_mem hp
     have h1:=hlog.log i hi
     exact⟨hblk _ (List.mem_of_getElem? h1),by have:=(hlog.ok.keys _ hp).1;omega⟩
    have hfin:=Yi w bd S D hd hio hzb hr0 (by omega) ws hlog.ok.some hlen hok (by rw [hfl];exact YU rfl hlog.head 0 rfl) (fun i hi=>by rw [hfl];exact YU rfl (hlog.log i hi) _ (by omega))
    rw [hfl] at hfin
    have hs:=fL (D:={D with bs:=zj D.bs D.ps,ps:=[],fuse:=qj D.fuse,reads:=D.reads+1+(ws.length:Int) }) (ws:=ws) (V:=V) rfl hlog
    have hfu2:Fu (qC {D with bs:=zj D.bs D.ps,ps:=[],fuse:=qj D.fuse,reads:=D.reads+1+(ws.length:Int)} ws).2.fuse:=fN m6 (vV m6 ws _ hfu1) _
    generalize qC {D with bs:=zj D.bs D.ps,ps:=[],fuse:=qj D.fuse,reads:=D.reads+1+(ws.length:Int)} ws=R at*
    obtain⟨b,D'⟩:=R
    cases b with
    |true=>
     obtain⟨f,e1⟩:=hs.1 rfl
     simp only at e1
     subst e1
     refine(dK w bd S D _ hd hbig hfin).mono ?_
     rintro e w' ⟨bs,h1,h2,h3,S',h4,h5,h6,h7⟩
     refine⟨_,S',⟨h4,h5,h7,by show D.reads≤D.reads+1+(ws.length:Int);omega,by show D.reads+1+(ws.length:Int)≤_;omega,?_,hfu2⟩,.inl ⟨bs,V,h1,h2,h6,h3,hV,⟨rfl,hlog.rest,?_⟩⟩⟩
     ·show ((zj (zj D.bs D.ps) ws).set 0 xk).length=_
      rw [List.length_set,zB,zB]
     ·show 64≤((zj (zj D.bs D.ps) ws).set 0 xk).length
      rw [List.length_set,zB,zB];exact hbig
    |false=>
     obtain⟨e1,e2,e3,e4⟩:=hs.2 rfl
     simp only at e1 e2 e3 e4
     refine(fD w bd S D D' hd hbig hfin).mono ?_
     rintro e w' ⟨h1,⟨S',h2,h3⟩,h4⟩
     refine⟨D',S',⟨h2,h3,h4,by omega,by omega,by omega,hfu2⟩,.inr ⟨h1,e1,⟨by have:=e4.1;omega,by omega,fun ks=>?_⟩⟩⟩
     obtain⟨U,rfl,h6⟩:=e4.2 ks
     exact⟨U,hV,m5 (by rw [←e1];exact hfu2) _ _ h6⟩
def YV(f:Int):Prop:=zD f
theorem uS(f:Int)(h:YV f):YV (qj f):=by
 unfold YV zD at*
 unfold qj
 split<;>omega
theorem jC.good{bs:List (List Value)}{V:qe}(h:jC bs V):law.Good V:=by
 rcases h with⟨_,_,_,_,_,_,h⟩|⟨ws,h⟩
 ·exact h.good
 ·obtain⟨_,_,_,_,_,_,h⟩:=h.rest
  exact h.good
def VE:zc:=gd YV jC (fun _ h=>h) (by constructor<;>omega) (fun _ _ h=>.inl h) (fun _ _ h=>h.good)
def VF:zc:=gd (fun f=>f= -1) jC (fun f h=>by rw [h];constructor<;>omega) rfl (fun _ _ h=>.inl h) (fun _ _ h=>h.good)
end prog
namespace kept
open Go.ChangeShapes Go.WideShapes Go.ChangeAt Go.RowKit
open disk ref law keep
theorem own:ownKnob Tryz.prog.godebug=none:=by kernel_rfl
theorem Kl:laidOutB Tryz.prog=true:=by kernel_rfl
theorem two:Vr prog.VE prog.VF:=⟨fun D P h=>⟨h.few,h.big,h.all⟩,fun w bd bs S D V h=>⟨h.disk,h.apart,h.sto,⟨h.live.ps,h.live.rest,h.live.big⟩,(by
 have e:D.fuse= -1:=h.fuse
 show zD D.fuse
 rw [e];constructor<;>omega),h.reads0,h.reads1,h.few⟩,fun f h=>by have e:f= -1:=h;omega,fun f h=>h⟩
theorem walk(W:World)(a:Option Addr)(cap:Nat)(ods:List cG)(h:KX W (fun k=>k<W.heap.size) a ods)(hlen:ods.length≤2000000000000):
 Calls Tryz.prog 8 #[.slice a ods.length cap] W fun e w'=>e=.returned (.bool true)∧Kept (fun _=>False) W w':=
 Jh (M:=prog.VE) (N:=prog.VF) (prog.XO (fun _ _ h=>h) (fun _ _ _ h=>h) prog.Z8) (prog.Z7 (fun _ _ _ h=>h) prog.Z8) (prog.Z7 (fun _ _ _ h=>h) prog.uS) (prog.Yn (fun _ _ _ h=>h) prog.uS) prog.Ve two W (fun k=>k<W.heap.size) (fun _ h=>h) a cap ods h hlen
set_option maxRecDepth 100000 in
theorem Km(H:Type)(enc:TypeId×Value→H)(W:World)(base:Nat)(args:Array Value)(ds gs:List (DataW H))(before:List MemPlace)
 (hval:∀(j:Nat) t v,Tryz.f8.params[j]? =some t→args[j]? =some v→Value.okWide Tryz.prog W .any base t v)
 (hW:DataW.Whole enc Tryz.prog Tryz.f8.params.toList Rows.keptSpec.vars false W args.toList ds gs before)
 (hreach:(DataW.weightsEach Tryz.prog (Tryz.f8.params.toList++(OpenSpec.ofChange Rows.keptSpec).bare.plain.varTypes Tryz.prog) (ds++gs)).all (· ≤reachBytes)=true):
 Calls Tryz.prog 8 args W fun e W'=>∃v,e=.returned v∧Rows.keptSpec.post enc Tryz.prog Tryz.f8 false true false false W args v W':=by
 have hW':=hW
 have hlt:=fun p hp=>hW.lt p hp
 obtain⟨p,q,hA0,hV,rfl,hfz,hnd⟩:=hW
 have hA:DataW.TrodAll enc Tryz.prog W 0 (fun _=>true) true Tryz.f8.params.toList args.toList ds p:=hA0
 rw [Tryz.params8] at hA hval hreach
 obtain⟨v0,vs0,d0,ds0,p0,q0,hargs,rfl,rfl,t0,r0⟩:=trodAll_cons hA
 obtain⟨rfl,rfl,rfl⟩:=trodAll_nil r0
 obtain rfl:args=#[v0]:=by cases args;simp_all
 obtain⟨rfl,rfl⟩:=trodVars_none hV
 obtain⟨a0,len0,c0,rfl⟩:=okWide_slice Tryz.underlying26 (hval 0 26 v0 rfl rfl)
 have u0:=t0
 obtain⟨fuel0,hf0⟩:=t0
 have hw0:(d0.weights Tryz.prog 26).all (· ≤reachBytes)=true:=List.all_eq_true.2 (fun n hn=>List.all_eq_true.1 hreach n (DataW.weights_mem_each (j:=0) rfl rfl n hn))
 obtain⟨ods,rfl,hscr,hl⟩:=Jl hf0 hw0
 clear hA0
 simp only [List.append_nil] at hW' hlt
 refine(walk W a0 c0 ods hscr hl).mono fun e W' ⟨he,hk⟩=>?_
 subst he
 have bel:Below W.heap.size W W':=hk.below fE (Nat.le_refl _)
 have hsame:∀x∈p0,W.sameAt W' x:=fun x hx=>by
  have hb:=hlt x hx
  cases x with
  |cell b o=>exact World.cell?_of_block (w:=W) (bel.block b hb)
  |map b=>exact bel.block b hb
 refine⟨_,rfl,[d0],[],p0,[],p0,[],hW',?_,?_,rfl,bel.frame _,fun h=>by cases h⟩
 ·exact trodAll_mk1 (shut_bool Tryz.underlying4 _)
 ·exact trodAll_mk1 (WideElems.Trod_stays (P:=Tryz.prog) Kl (by kernel_rfl) (of_decide_eq_true (by kernel_rfl)) u0 (fun x hx=>hsame x hx) (fun x hx=>by simpa using hlt x hx))
noncomputable def kz(os:Os):World:=
 let w0:=World.holding Tryz.prog os ⟨#[],#[],[]⟩
 let put (h:Array Obj) (g:Nat) (cs:Array Value):Array Obj:=h.modify g fun
  |.cells _ t frozen=>.cells cs t frozen
  |o=>o
 let h1:=put w0.heap 1 (Lib.firstTab.map fun z=>Value.int .u8 z).toArray
 let h2:=put h1 2 ((List.range 16).flatMap fun i=>[Value.int .u8 (Lib.accLo i),Value.int .u8 (Lib.accHi i)]).toArray
 {w0 with heap:=h2}
theorem Kn(os:Os)(args:Array Value):laidMet Tryz.prog Rows.keptRow.laid ((kz os).forCall (fun _ _=>0) ⟨#[],args,[]⟩).memory:=
 (LaidIn.of_run (l:=[("unicode/utf8.acceptRanges",Rows.laid_unicode_utf8_acceptRanges),("unicode/utf8.first",Rows.laid_unicode_utf8_first)]) [2,1] 8 (by kernel_rfl) (by kernel_rfl) (by kernel_rfl) (by kernel_rfl)).met
theorem Qb(os:Os){H:Type}(enc:TypeId×Value→H):
 (OpenSpec.ofChange Rows.keptSpec).preRow enc Tryz.prog Tryz.f8 Rows.keptRow.domain false Rows.keptRow.laid ((kz os).forCall (fun _ _=>0) ⟨#[],#[.slice none 0 0],[]⟩).memory #[.slice none 0 0]:=by
 have hw:(DataW.whole enc Tryz.prog ((kz os).forCall (fun _ _=>0) ⟨#[],#[.slice none 0 0],[]⟩).memory Tryz.f8.params.toList Rows.keptSpec.vars false #[Value.slice none 0 0].toList 8).map (fun x=>(x.1,x.2.1))=
  some ([.nil],[]):=by kernel_rfl
 obtain⟨⟨x1,x2,x3⟩,hx,hx1⟩:=Option.map_eq_some_iff.1 hw
 simp only [Prod.mk.injEq] at hx1
 obtain⟨rfl,rfl⟩:=hx1
 exact OpenSpec.preRow_of_cond 8 hx (by kernel_rfl) (fun k hk=>by cases hk) (by kernel_rfl) (Kn os _)
set_option maxRecDepth 100000 in
theorem Vg(os:Os)(started:os.Started)(H:Type)(enc:TypeId×Value→H)(F:Stop.Interp):
 ReturnsInHanded {} Tryz.checked os 8 .any ((OpenSpec.ofChange Rows.keptSpec).preRow enc Tryz.prog Tryz.f8 Rows.keptRow.domain false Rows.keptRow.laid) (((OpenSpec.ofChange Rows.keptSpec).at F).post enc Tryz.prog Tryz.f8 false true false false):=by
 refine returnsInHanded_of_row (C:=Tryz.checked) (s:=OpenSpec.ofChange Rows.keptSpec) own started (by kernel_rfl) Tryz.func8
  (witness_row_at (enc:=enc) (C:=Tryz.checked) false (kz os) #[.slice none 0 0] rfl (by kernel_rfl) (by kernel_rfl) (by kernel_rfl) (Qb os enc)) ?_
 intro W base args ds gs before hval hW _ _ hreach hL _ _
 exact Km H enc W base args ds gs before hval hW hreach
theorem VR:Rows.KeptSaid:=
 OpenClaim.holds_of_cond 8 Tryz.f8 rfl rfl rfl rfl rfl rfl rfl ⟨rfl,rfl,rfl,rfl,rfl⟩ rfl rfl rfl rfl rfl (by kernel_rfl) Tryz.func8 (by kernel_rfl)
  (of_decide_eq_true (by kernel_rfl)) (by unfold Func.isWrapper;first|(rw [if_pos (by decide+kernel)];kernel_rfl)|(rw [if_neg (by decide+kernel)];exact⟨rfl,rfl⟩))
  (fun os started H enc _ F=>by rw [OpenClaim.pre_eq_preRow];exact Vg os started H enc F)
theorem plain(f:FuncId)(fn:Func)(hf:Tryz.pinned.checked.prog.funcNamed "cairn/cairnkeep.Kept" =some f)(hfn:Tryz.pinned.checked.prog.funcs[f]? =some fn):
 false=Tryz.pinned.checked.prog.looks []∧∀(j:Nat) t,fn.params[j]? =some t→Tryz.pinned.checked.prog.wantsStandIn t=false:=by
 obtain rfl:f= 8:=Option.some.inj ((show Tryz.prog.funcNamed "cairn/cairnkeep.Kept" =some 8 by kernel_rfl).symm.trans hf) |>.symm
 obtain rfl:fn=Tryz.f8:=(Option.some.inj (Tryz.func8.symm.trans hfn)).symm
 refine⟨by kernel_rfl,fun j t ht=>?_⟩
 rw [Tryz.params8] at ht
 have ht':t= 26:=by simpa using Array.mem_of_getElem? ht
 rcases ht' with rfl
 ·exact(show Tryz.prog.wantsStandIn 26=false by kernel_rfl)
theorem card:Rows.KeptCardSaid:=
 Claim7.holds_tied_plain_at .later [] _ _ _ _ VR (fun _ h=>by cases h) (by kernel_rfl) (fun _ h=>by cases h) kept_row_tie rfl ⟨rfl,rfl⟩ (by kernel_rfl) rfl plain (by kernel_rfl)
end kept
theorem kept_holds:Rows.KeptCardSaid:=kept.card
end Go.Proofs.YtcoengihaobddaaGreatDoor
