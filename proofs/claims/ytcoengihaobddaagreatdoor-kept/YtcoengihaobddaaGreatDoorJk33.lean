/- Part 33 of 34 of a proof: Mng3, Rep3, Rem11, BFree1, Era1, Era2 -/
import Derived.Test.YtcoengihaobddaaGreatDoorJk32
import Derived.Test.YtcoengihaobddaaGreatDoorJk31
import Derived.Test.YtcoengihaobddaaGreatDoorJk07
set_option maxHeartbeats 8000000
set_option linter.unusedVariables false
set_option linter.unusedSimpArgs false
set_option maxRecDepth 8000
namespace Go.Proofs.YtcoengihaobddaaGreatDoor
namespace prog
open Go.RowKit disk ref
open law (qe zc qv yj Qm xm zR jI cB OutIs Yt)
open keys (zu)
variable {Fu:Int→Prop} {Ho:List (List Value)→qe→Prop} {m1:∀f,Fu f→zD f} {m2:Fu (-1)} {m3:∀bs V,yq bs V→Ho bs V} {m4:∀bs V,Ho bs V→law.Good V}
theorem jX.wsok{D:Dk}{V:qe}{tree n:Nat}{m:List UInt8}{es:List En}{bl:List Nat}{bo:Pl→List zq}{key:ByteArray}{mark:Bool}{l:List UInt8}{f:Nat}{C1:Ck}{m1:List UInt8}{nb1:List Nat}{root':Nat}{C2:Ck}{m2:List UInt8}{pb nb:List Nat}(h:jX D V tree n m es bl bo key mark l f C1 m1 nb1 root' C2 m2 pb nb)(hnf:((C2.put 1 (zl (zp root' (n+1)))).full||decide (18<(C2.put 1 (zl (zp root' (n+1)))).ws.length))=false):Yk D.bs.length (C2.put 1 (zl (zp root' (n+1)))).ws:=by
 simp only [Bool.or_eq_false_iff,decide_eq_false_iff_not,qz] at hnf
 obtain⟨hf,h18⟩:=hnf
 have h1:1∈(C2.put 1 (zl (zp root' (n+1)))).keys:=(yI C2 1 _ 1).2 (.inr rfl)
 have h2:=List.length_pos_of_mem h1
 rw [Ck.keys_len] at h2
 refine⟨yt h.ins.chn.nodup 1 _,by omega,h2,fun p hp=>?_⟩
 have hk:p.1∈(C2.put 1 (zl (zp root' (n+1)))).keys:=List.mem_map.2 ⟨p,hp,rfl⟩
 refine⟨h.klt hf _ hk,?_⟩
 rcases List.mem_append.1 (h.keys hf _ hk) with h3|h3
 ·simp at h3;omega
 ·have:21≤p.1:=by
   rcases List.mem_append.1 h3 with h3|h3
   ·exact(h.mid h3).1
   ·rcases List.mem_append.1 h3 with h3|h3
    ·exact(h.rep.range _ (List.mem_append_left _ (h.ins.sub _ h3))).1
    ·exact(h.new h3).1
  omega
def Vy(D:Dk)(V:qe)(key:ByteArray)(mark:Bool)(l:List UInt8)(bd:Nat)(v c:Int)(D':Dk)(q:Option Nat):Prop:=
 Z6 D D'∧∃kk:Int,0≤kk∧kk≤19∧((c=6∧v=0∧q=some bd∧xT V.vs (qr l.length) D.bs.length=false∧D'={D with reads:=D.reads+kk })∨
  ((c=0→v=V.n0+1)∧(c≠0→v=0)∧Vf D V (V.add key mark l) bd c kk D' q))
theorem Vz(w:World)(bs bd:Nat)(S:Nat→Prop)(D:Dk)(hs:zK w bs 1 (some bd))(hd:zh w bd S D)(hn:¬S bs)(hr0:0≤D.reads)(hr1:D.reads≤4611686018427340000)(hps:D.ps=[])(hfu:zD D.fuse)(h64:64≤D.bs.length)(V:qe)(hV:V.n0≤2305843009213693952)(hrest:yq D.bs V)
 (key:ByteArray) (hkey:zu key.data.toList=true) (mark:Bool) (P:Nat→Prop) (a:Option Addr) (cap:Nat) (l:List UInt8) (hmk:mark=true→l=[]) (hby:zv w P a l) (hPS:∀j,P j→¬S j∧j≠bs) (hl:l.length≤300) (hc1:l.length≤cap) (hc2:cap≤9223372036854775807):
 Calls Tryz.prog 52 #[.pointer (some ⟨bs,0,none⟩),.string key,.slice a l.length cap,.bool mark] w fun e w'=>∃v c D' q,e=.returned (.tuple #[.int .i64 v,.int .i64 c])∧uv w w' bs bd S D' 1 q∧Vy D V key mark l bd v c D' q:=by
 have hrest0:=hrest
 obtain⟨tree,n,m,es,bl,bo,R⟩:=hrest
 have hn9:n<4611686018427387904:=by rw [R.n0] at hV;omega
 have hroot:yu (D.look 1) tree n:=by have:=R.root;rw [←yF hps] at this;exact this
 have hmap:qn (D.look 2) m:=by have:=R.map;rw [←yF hps] at this;exact this
 rcases hbody:vd.body D.bs.length m (zx l) with⟨f,C1,m1⟩
 have hchn:QR D vd m:=⟨by rw [yo];exact hmap,fun h=>(nomatch h),List.nodup_nil⟩
 obtain⟨nb1,hBR⟩:=JO hchn R.few (zx l) f C1 m1 (fun p hp=>(fo p hp).2) hbody
 have hf6:=(fp (C:=vd) (D:=D) (m:=m) (by rw [yo];exact hmap) R.few (zx l) f C1 m1 hbody).2.2
 have hkl:=YQ hkey
 have hold:∀j∈bl,21≤j∧zO m1 (j-21)=true∧j∉nb1:=fun j hj=>by
  have hr:=R.range j (List.mem_append_left _ hj)
  have h1:zO m (j-21)=true:=(R.taken (j-21) (by omega)).2 (by rw [show j-21+21=j from by omega];exact List.mem_append_left _ hj)
  exact⟨hr.1,hBR.stp.grew.keeps h1,hBR.stp.grew.apart h1⟩
 have hfor:ya (fun j=>C1.look D (j:Nat)) tree es bl:=R.forest.congr (fun j hj=>by
  have h1:=hold j hj
  show C1.look D (j:Nat)=_
  rw [hBR.stp.look j (fun h=>(nomatch h)) h1.2.2 (by omega) (by omega),yo,yF hps])
 refine(YM w bs bd S D 1 hs hd hn hr0 (by omega) hps hfu h64 R.few tree n hroot hn9 m hmap key mark P a cap l hby hPS hl hc1 hc2 es bl f C1 m1 hbody nb1 hBR ⟨hkl.2.1,hkl.2.2,by show 0≤(n:Int)+1;omega,by show (n:Int)+1<_;omega,hl,fun h=>by show l.length=0;rw [hmk h];rfl,hf6⟩ (KQ hkey _) hfor (List.nodup_append.1 R.nodup).1 (fun j hj=>⟨(hold j hj).1,(hold j hj).2.1⟩) R.len (fun j hj=>(R.range j (List.mem_append_left _ hj)).2) (fun x hx=>(R.low x hx).1) (fun x hx e=>?_)).mono ?_
 ·have h1:=(R.low x hx).2.2.1
  rw [e] at h1
  simp only at h1
  omega
 ·rintro e w' ⟨root',C2,m2,pb,nb,hI,kk,hk0,hk1,h⟩
  have A:jX D V tree n m es bl bo key mark l f C1 m1 nb1 root' C2 m2 pb nb:=⟨R,hps,h64,hBR,hI,hkey,hl,hmk,hn9⟩
  rcases h with⟨hfull,rfl,hd',hk'⟩|⟨hnot,v,c,rfl,hv1,hv2,_,hc⟩
  ·have hk2:Kept (fun j=>S j∨j=bs) w w':=hk'.mono (fun j hj=>.inl (by rw [hj];exact hd.bdS))
   refine⟨0,6,_,some bd,rfl,⟨hs.kept hk' (fun h=>hn (by rw [h];exact hd.bdS)),⟨S,hd',fun _ h=>.inl h⟩,hk2⟩,Z6.refl _ _,kk,hk0,hk1,.inl ⟨rfl,rfl,rfl,?_,rfl⟩⟩
   cases hfit:xT V.vs (qr l.length) D.bs.length with
   |false=>rfl
   |true=>rw [A.fits hfit] at hfull;cases hfull
  ·obtain⟨bl',bo',hrep⟩:=A.rest hnot
   obtain⟨D',q,h1,h2,h3⟩:=Kj hps h64 hrest0 (A.wsok hnot) ⟨_,_,_,_,_,_,hrep⟩ hc
   exact⟨v,c,D',q,rfl,h1,h3,kk,hk0,hk1,.inr ⟨fun h=>by rw [hv1 h,R.n0],hv2,h2⟩⟩
theorem Vf.same{D D':Dk}{V V':qe}{bd:Nat}{c kk:Int}{q:Option Nat}(h:Vf D V V' bd c kk D' q):D'.bs.length=D.bs.length∧D'.reads=D.reads+kk:=by
 rcases h with⟨_,_,bs',f,h1,_,rfl⟩|⟨_,_,_,h1,h2,_⟩
 ·exact⟨h1,rfl⟩
 ·exact⟨h1,h2⟩
theorem Vf.chg{D D1 D':Dk}{V V':qe}{bd wt:Nat}{c kk:Int}{q:Option Nat}(m5:Fu 0→∀bs V,jC bs V→Ho bs V)(hps:D1.ps=[])(hbig:64≤D1.bs.length)(hfu:Fu D'.fuse)(h:Vf D1 V V' bd c kk D' q):law.Chg (gd Fu Ho m1 m2 m3 m4) D D' V V' bd 0 c wt q:=by
 rcases h with⟨rfl,rfl,bs',f,h1,h2,rfl⟩|⟨rfl,rfl,hz,h1,h2,h3⟩
 ·exact⟨.inr (.inl ⟨rfl,rfl,rfl,⟨hps,h2,by show 64≤bs'.length;omega⟩⟩)⟩
 ·refine⟨.inr (.inr (.inr ⟨rfl,rfl,rfl,hz,⟨by have:=h3.1;omega,by omega,fun ks=>?_⟩⟩))⟩
  obtain⟨U,h4,h5⟩:=h3.2 ks
  exact⟨U,h4,m5 (by rw [←hz];exact hfu) _ _ h5⟩
theorem uv.aft{w w':World}{bd bs:Nat}{S:Nat→Prop}{D D':Dk}{q:Option Nat}(h:uv w w' bs bd S D' 0 q)(h1:D.reads≤D'.reads)(h2:D'.reads≤D.reads+40)(h3:D'.bs.length=D.bs.length)(hfu:Fu D'.fuse):∃S',jI (gd Fu Ho m1 m2 m3 m4) w w' bd bs S S' D D' 40 q:=by
 obtain⟨a,⟨S',b,c⟩,d⟩:=h
 exact⟨S',b,c,a,d,h1,h2,h3,hfu⟩
theorem Z7(m5:Fu 0→∀bs V,jC bs V→Ho bs V)(m6:∀f,Fu f→Fu (qj f)):yj (gd Fu Ho m1 m2 m3 m4) where
 live:=fun w bd bs S P D V key a cap l F hk hby hP hlen hc1 hc2=>by
  have hfu:Fu D.fuse:=F.fuse
  have hs:zK w bs 0 (some bd):=F.sto
  have hd:=F.disk
  have hps:=F.live.ps
  have hrest:yq D.bs V:=F.live.rest
  have hr0:=F.reads0
  have hr1:=F.reads1
  have hbig:=F.live.big
  cases hkey:zu key.data.toList with
  |false=>
   refine(YN w bs (some bd) hs key hk hkey a l.length cap).mono ?_
   rintro e w' ⟨h1,h2,h3⟩
   exact⟨D,S,2,0,some bd,h1,vU hd F.apart hfu h2 h3,⟨.inl ⟨by show (2:Int)≠0;decide,rfl,rfl,F.live⟩⟩,rfl⟩
  |true=>
   by_cases hbig3:300<l.length
   ·have hput:kB true l.length=3:=if_pos hbig3
    rw [hput]
    refine(YO w bs (some bd) hs key hk hkey a l.length cap hbig3).mono ?_
    rintro e w' ⟨h1,h2,h3⟩
    exact⟨D,S,3,0,some bd,h1,vU hd F.apart hfu h2 h3,⟨.inl ⟨by decide,rfl,rfl,F.live⟩⟩,rfl⟩
   ·have hput:kB true l.length=0:=if_neg hbig3
    rw [hput]
    refine(KI w bs bd S D hs hd F.apart key hk hkey P a cap l hby hP (by omega) (Vy D V key false l bd) (fun w' h1 h2 h3=>Vz w' bs bd S D h1 h2 F.apart hr0 (by omega) hps (m1 _ hfu) hbig V F.few hrest key hkey false P a cap l (fun h=>(nomatch h)) h3 hP (by omega) hc1 hc2)).mono ?_
    rintro e w' ⟨v,c,D',q,h1,⟨hto,kk,hk0,hk1,hq⟩,hi⟩
    have hfu':Fu D'.fuse:=hto Fu m6 hfu
    rcases hq with⟨rfl,rfl,rfl,hfit,rfl⟩|⟨hv1,hv2,hq⟩
    ·obtain⟨S',ha⟩:=hi.aft (D:=D) (by show D.reads≤D.reads+kk;omega) (by show D.reads+kk≤D.reads+40;omega) rfl hfu'
     exact⟨_,S',6,0,some bd,h1,ha,⟨.inr (.inr (.inl ⟨rfl,rfl,rfl,⟨hps,hrest,hbig⟩,hfit⟩))⟩,rfl⟩
    ·obtain⟨e1,e2⟩:=hq.same
     obtain⟨S',ha⟩:=hi.aft (D:=D) (by omega) (by omega) e1 hfu'
     refine⟨D',S',c,v,q,h1,ha,hq.chg m5 hps hbig hfu',?_⟩
     by_cases hc:c=0
     ·rw [if_pos hc];exact hv1 hc
     ·rw [if_neg hc];exact hv2 hc
 shut:=fun w bs key a n cap hs hk hn=>by
  have hs':zK w bs 0 none:=hs
  cases hkey:zu key.data.toList with
  |false=>exact(YN w bs none hs' key hk hkey a n cap).mono (fun e w' ⟨h1,h2,h3⟩=>⟨h1,h2,h3⟩)
  |true=>
   by_cases hbig3:300<n
   ·have hput:kB true n=3:=if_pos hbig3
    rw [hput]
    exact(YO w bs none hs' key hk hkey a n cap hbig3).mono (fun e w' ⟨h1,h2,h3⟩=>⟨h1,h2,h3⟩)
   ·have hput:kB true n=0:=if_neg hbig3
    rw [hput]
    exact(J3 w bs hs' key hk hkey a n cap (by omega)).mono (fun e w' ⟨h1,h2,h3⟩=>⟨h1,h2,h3⟩)
theorem Z8(f:Int)(h:f= -1):qj f= -1:=by rw [h];rfl
end prog
namespace prog
open Go.RowKit disk ref
open law (qe)
open keys (zu)
def yi:List Nat→Ck×List UInt8→Ck×List UInt8
 |[],s=>s
 |j::l,s=>yi l (s.1.free s.2 (j-21),xH s.2 (j-21))
theorem fO:∀(l:List Nat) (j:Nat) (s:Ck×List UInt8),yi (l++[j]) s=((yi l s).1.free (yi l s).2 (j-21),xH (yi l s).2 (j-21))
 |[],_,_=>rfl
 |_::l,j,s=>fO l j _
theorem js{D:Dk}:∀(l:List Nat) (C:Ck) (m:List UInt8),fI D C m→(∀j∈l,21≤j∧j<1000)→fI D (yi l (C,m)).1 (yi l (C,m)).2∧vS D C (yi l (C,m)).1 m (yi l (C,m)).2 [] l∧(yi l (C,m)).1.ws.length≤C.ws.length+l.length
 |[],C,m,h,_=>⟨h,vS.refl D C m,by simp [yi]⟩
 |j::l,C,m,h,hr=>by
  have hj:=hr j (List.mem_cons_self ..)
  obtain⟨h1,h2,h3⟩:=js l _ _ (h.free (j-21)) (fun i hi=>hr i (List.mem_cons_of_mem _ hi))
  have s:=(vS.free h (i:=j-21) (by omega)).trans h2
  rw [show j-21+21=j from by omega] at s
  refine⟨h1,s,?_⟩
  have:=fH C m (j-21)
  show (yi l (C.free m (j-21),xH m (j-21))).1.ws.length≤_
  rw [List.length_cons]
  omega
structure cg (D:Dk) (C C':Ck) (m m':List UInt8) (root':Nat) (p:Pl) (e:En) (es:List En) (bs pb fb:List Nat):Prop where
 cln:fI D C' m'
 shr:vS D C C' m m' pb fb
 sub:∀j∈pb,j∈bs
 pl:pb.length≤13
 few:C'.ws.length≤C.ws.length+100
 mem:e∈es
 at_:e.pl=p
 tree:∃bs',ya (fun j=>C'.look D (j:Nat)) root' (qO p es) bs'∧(bs'++fb).Perm bs
 lt:root'<65536
theorem yg.perm_del{l:List En}(h:yg l){e:En}(he:e∈l):l.Perm (e::qO e.pl l):=by
 obtain⟨A,B,rfl⟩:=List.append_of_mem he
 have hp:=List.pairwise_append.1 h
 have hc:=List.pairwise_cons.1 hp.2.1
 have hA:∀x∈A,x.pl≠e.pl:=fun x hx e0=>by
  have:=hp.2.2 x hx e (List.mem_cons_self ..)
  rw [e0] at this;exact Pl.irrefl _ this
 have hB:∀x∈B,x.pl≠e.pl:=fun x hx e0=>by
  have:=hc.1 x hx
  rw [e0] at this;exact Pl.irrefl _ this
 have e1:qO e.pl (e::B)=qO e.pl B:=by unfold qO;rw [List.filter_cons,if_neg (by simp)]
 rw [xW,e1,xv hA,xv hB]
 exact List.perm_middle
structure uB (D:Dk) (V:qe) (tree n:Nat) (m:List UInt8) (es:List En) (bl:List Nat) (bo:Pl→List zq) (p:Pl) (e:En) (root':Nat) (C1:Ck) (m1:List UInt8) (pb fb:List Nat) (C2:Ck) (m2:List UInt8):Prop where
 rep:fS D.bs V tree n m es bl bo
 ps:D.ps=[]
 big:64≤D.bs.length
 rem:cg D vd C1 m m1 root' p e es bl pb fb
 body:yi ((bo e.pl).map zq.at_) (C1,m1)=(C2,m2)
 num:n<4611686018427387904
section
variable {D:Dk} {V:qe} {tree n:Nat} {m:List UInt8} {es:List En} {bl:List Nat} {bo:Pl→List zq} {p:Pl} {e:En} {root':Nat} {C1:Ck} {m1:List UInt8} {pb fb:List Nat} {C2:Ck} {m2:List UInt8}
theorem vW{x:En}(hx:x∈es){j:Nat}(hj:j∈(bo x.pl).map zq.at_):j∈qV es bo:=vT.2 ⟨x,hx,hj⟩
theorem uB.shr(h:uB D V tree n m es bl bo p e root' C1 m1 pb fb C2 m2):fI D C2 m2∧vS D vd C2 m m2 pb (fb++(bo e.pl).map zq.at_):=by
 have hb:=js ((bo e.pl).map zq.at_) C1 m1 h.rem.cln (fun j hj=>by
  have:=h.rep.range j (List.mem_append_right _ (vW h.rem.mem hj))
  have:=h.rep.few
  omega)
 rw [h.body] at hb
 have:=h.rem.shr.trans hb.2.1
 rw [List.append_nil] at this
 exact⟨hb.1,this⟩
theorem uB.keys(h:uB D V tree n m es bl bo p e root' C1 m1 pb fb C2 m2):∀k∈(C2.put 1 (zl (zp root' n))).keys,k∈[1,2]++pb:=fun k hk=>by
 rcases (yI C2 1 _ k).1 hk with h1|h1
 ·rcases h.shr.2.keys k h1 with h1|h1|h1
  ·exact nomatch h1
  ·simp [h1]
  ·simp [h1]
 ·simp [h1]
theorem uB.klt(h:uB D V tree n m es bl bo p e root' C1 m1 pb fb C2 m2):∀k∈(C2.put 1 (zl (zp root' n))).keys,k<D.bs.length:=fun k hk=>by
 have hb:=h.big
 rcases List.mem_append.1 (h.keys k hk) with h1|h1
 ·simp at h1;omega
 ·exact(h.rep.range k (List.mem_append_left _ (h.rem.sub k h1))).2
theorem uB.fits(h:uB D V tree n m es bl bo p e root' C1 m1 pb fb C2 m2):(C2.put 1 (zl (zp root' n))).full=false∧(C2.put 1 (zl (zp root' n))).ws.length≤18:=by
 refine⟨by rw [qz];exact h.shr.1.full,?_⟩
 have h1:=jr _ _ (yt h.shr.1.nodup 1 (zl (zp root' n))) h.keys
 rw [Ck.keys_len] at h1
 simp only [List.length_append,List.length_cons,List.length_nil] at h1
 have:=h.rem.pl
 omega
theorem uB.rest(h:uB D V tree n m es bl bo p e root' C1 m1 pb fb C2 m2):∃bl',fS (vi D.bs (C2.put 1 (zl (zp root' n))).ws) (V.sub p.key p.num) root' n m2 (qO p es) bl' bo:=by
 obtain⟨hf,h18⟩:=h.fits
 obtain⟨hcl,hsh⟩:=h.shr
 obtain⟨bl',hF,hp⟩:=h.rem.tree
 have hbig:=h.big
 have hN:=h.rep.few
 have hkn:=yt hcl.nodup 1 (zl (zp root' n))
 have look:∀j:Nat,j≠0→(j<3∨21≤j)→b8 (vi D.bs (C2.put 1 (zl (zp root' n))).ws) j=(C2.put 1 (zl (zp root' n))).look D (j:Nat):=fun j h0 hj=>by
  rw [b9 h.ps]
  exact Zp h.ps hkn (by omega) h.klt h0 hj
 have look2:∀j:Nat,j≠0→j≠1→(j<3∨21≤j)→b8 (vi D.bs (C2.put 1 (zl (zp root' n))).ws) j=C2.look D (j:Nat):=fun j h0 h1 hj=>by
  rw [look j h0 hj,zW _ _ _ _ _ (by omega)]
 have hsr:yg es:=h.rep.forest.six.2.2
 have hpe:es.Perm (e::qO p es):=by rw [←h.rem.at_];exact hsr.perm_del h.rem.mem
 have hpb:(qV es bo).Perm ((bo e.pl).map zq.at_++qV (qO p es) bo):=(hpe.map _).flatten
 have hall:(bl++qV es bo).Perm ((bl'++qV (qO p es) bo)++(fb++(bo e.pl).map zq.at_)):=by
  rw [List.perm_iff_count] at hp hpb ⊢
  intro a
  have h1:=hp a
  have h2:=hpb a
  simp only [List.count_append] at h1 h2 ⊢
  omega
 have hnd:=hall.nodup_iff.1 h.rep.nodup
 have hndp:=List.nodup_append.1 hnd
 have hin:∀j∈bl'++qV (qO p es) bo,j∈bl++qV es bo∧j∉fb++(bo e.pl).map zq.at_:=fun j hj=>⟨hall.mem_iff.2 (List.mem_append_left _ hj),fun hc=>hndp.2.2 j hj j hc rfl⟩
 have hrange:∀j∈bl'++qV (qO p es) bo,21≤j∧j<D.bs.length:=fun j hj=>h.rep.range j (hin j hj).1
 have hg:=h.rep.good
 have hsubv:∀v∈(V.sub p.key p.num).vs,v∈V.vs:=fun v hv=>(List.mem_filter.1 hv).1
 refine⟨bl',⟨by rw [xt];exact hN,?_,h.rep.n0,?_,?_,?_,hndp.1,fun j hj=>by rw [xt];exact hrange j hj,?_,?_,?_,?_⟩⟩
 ·have:=look 1 (by omega) (by omega)
  rw [this]
  have h2:(C2.put 1 (zl (zp root' n))).look D ((1:Nat):Int)=zl (zp root' n):=qg _ _ _ _
  rw [h2]
  exact⟨.inl rfl,h.rem.lt,by have:=h.num;omega⟩
 ·rw [look2 2 (by omega) (by omega) (by omega)]
  exact hcl.map
 ·refine hF.congr (fun j hj=>?_)
  have hr:=hrange j (List.mem_append_left _ hj)
  rw [look2 j (by omega) (by omega) (by omega)]
  have hb:=js ((bo e.pl).map zq.at_) C1 m1 h.rem.cln (fun j hj=>by
   have:=h.rep.range j (List.mem_append_right _ (vW h.rem.mem hj))
   omega)
  rw [h.body] at hb
  exact hb.2.1.look j (fun hc=>nomatch hc) (fun hc=>(hin j (List.mem_append_left _ hj)).2 (List.mem_append_right _ hc)) (by omega)
 ·intro x hx
  have hx2:=gU.1 hx
  have hb:=h.rep.body x hx2.1
  refine⟨hb.chain.congr (fun q hq=>?_),hb.head,hb.size,hb.few⟩
  have hm1:q.at_∈qV (qO p es) bo:=vT.2 ⟨x,hx,List.mem_map.2 ⟨q,hq,rfl⟩⟩
  have hm2:=hin q.at_ (List.mem_append_right _ hm1)
  have hr:=hrange q.at_ (List.mem_append_right _ hm1)
  have hnp:q.at_∉pb:=fun hc=>(List.nodup_append.1 h.rep.nodup).2.2 _ (h.rem.sub _ hc) _ (vW hx2.1 (List.mem_map.2 ⟨q,hq,rfl⟩)) rfl
  rw [look2 _ (by omega) (by omega) (by omega),hsh.look _ hnp hm2.2 (by omega),yo,yF h.ps]
 ·intro i hi
  rw [xt] at hi
  rw [hsh.taken]
  simp only [Bool.and_eq_true,decide_eq_true_eq]
  rw [h.rep.taken i hi]
  constructor
  ·rintro⟨h1,h2⟩
   rcases List.mem_append.1 (hall.mem_iff.1 h1) with h3|h3
   ·exact h3
   ·exact absurd h3 h2
  ·exact fun h1=>hin _ h1
 ·have h1:(V.sub p.key p.num).vs.Perm ((es.map (xo bo)).filter fun v=> !(decide (v.key=p.key)&&decide (v.num=p.num))):=h.rep.vers.filter _
  refine h1.trans ?_
  rw [List.filter_map]
  have:(es.filter ((fun v:qa=> !(decide (v.key=p.key)&&decide (v.num=p.num)))∘xo bo))=qO p es:=by
   unfold qO
   refine List.filter_congr (fun x _=>?_)
   show (!(decide (x.pl.key=p.key)&&decide (x.pl.num=p.num)))=decide (x.pl≠p)
   obtain⟨⟨k1,n1⟩,_,_,_⟩:=x
   obtain⟨k2,n2⟩:=p
   simp only [ne_eq,Pl.mk.injEq]
   by_cases e1:k1=k2<;>by_cases e2:n1=n2<;>simp [e1,e2]
  rw [this]
 ·refine⟨Pg.new 1,Pg.new_ok 1 (by omega),?_,rfl⟩
  rw [b9 h.ps]
  exact Zq h.ps (by omega) _
 ·exact⟨List.Pairwise.filter _ hg.apart,fun v hv=>hg.num v (hsubv v hv),fun v hv=>hg.key v (hsubv v hv),fun v hv=>hg.body v (hsubv v hv),fun v hv=>hg.mark v (hsubv v hv),Nat.le_trans (List.length_filter_le _ _) hg.few,hg.n0⟩
end
end prog
namespace prog
open Go.RowKit disk ref
theorem fG.root{h:Nat}{t t':Tr h}{p:Pl}(k:fG t p t')(r:t.Root)(h1:1≤t'.items.length)(h2:0<h→2≤t'.items.length):t'.Root where
 good:=k.good
 hi:=k.hi
 one:=h1
 two:=h2
 first:=k.first _ r.first
 srt:=by rw [k.ents];exact r.srt.del
theorem fP{C:Ck}{D:Dk}{r:Int}{h:Nat}{t:Tr h}(l:t.LayV zl (fun j=>C.look D (j:Nat))):C.look {D with reads:=r} (t.blk:Nat)=zl (za (zN h) t.items):=by rw [zI];exact l.node
theorem Z9(bc bd:Nat)(S T:Nat→Prop)(D:Dk)(p:Pl)(C:Ck)(m:List UInt8)(root:Nat)(es:List En)(bs:List Nat)(hF:ya (fun j=>C.look D (j:Nat)) root es bs)(hnd:bs.Nodup)
 (hrg:∀j∈bs,21≤j∧j<1000) (hbl:bs.length≤979) (hc:fI D C m) (hfew:C.ws.length<100):
 (∃e root' C' m' pb fb,cg D C C' m m' root' p e es bs pb fb∧yY bc bd S T D C root p root' (qp e) true C')∨((∀x∈es,x.pl≠p)∧yY bc bd S T D C root p root qo false C):=by
 rcases hF with⟨rfl,rfl,rfl⟩|⟨h,t,hr,hl,rfl,rfl,rfl⟩
 ·exact .inr ⟨fun x hx=>(nomatch hx),⟨fun w r h0 h1 hcw=>(ZQ w bc p 0 rfl).mono (by
   rintro x w' ⟨h1,h2⟩
   exact⟨h1,⟨0,T,Int.le_refl _,by omega,by rw [Int.add_zero];exact hcw.kept0 h2,fun _ h=>.inl h⟩,h2.mono fE⟩)⟩⟩
 ·have h6:=hr.low hbl
  have hroot:=hrg t.blk t.blk_mem
  rcases ZV bc bd S T D p h t C m (by omega) hr.good hr.two hr.hi hr.srt hnd hrg hl hc (by omega) with⟨e,C1,m1,s,pb,fb,R,K⟩|⟨hno,K⟩
  ·obtain⟨t',L,lay,perm,hkeep⟩:=R.tree
   have hpl:=R.pl
   have hfw:=R.few
   cases hs1:s with
   |false=>
    rw [hs1] at K
    have h1:=hr.one
    have h2:=hr.two
    have hk:=hkeep hs1
    have hr':=L.root hr (by omega) (fun h=>by have:=h2 h;omega)
    refine .inl ⟨e,t.blk,C1,m1,pb,fb,⟨R.cln,R.shr,R.sub,by omega,by omega,R.mem,R.at_,⟨t'.blocks,.inr ⟨h,t',hr',lay,L.blk,L.ents,rfl⟩,perm⟩,hr.good.blk⟩,⟨fun w r h0 h1 hcw=>?_⟩⟩
    exact jV w bc bd S T D C r hcw h0 p h t.blk (by omega) (by omega) h6 (qp e) ⟨_,_,_,_,_,rfl⟩ false true C1 K _ _ (.inl ⟨rfl,rfl,rfl⟩)
   |true=>
    rw [hs1] at K
    have hlow:∀root' C2,(∀(w0:World) (T0:Nat→Prop) (r:Int),0≤r→r≤4611686018427380000→Cw w0 bc bd S T0 {D with reads:=r} C1→Calls Tryz.prog 142 #[.pointer (some ⟨bc,0,none⟩),.int .i64 (t.blk:Int)] w0 fun x w'=>x=.returned (.int .i64 (root':Nat))∧(∃(n:Int) (T':Nat→Prop),0≤n∧n≤2∧Cw w' bc bd S T' {D with reads:=r+n} C2∧∀j,T' j→T0 j∨w0.heap.size≤j)∧Kept (fun j=>j=bd∨T0 j) w0 w')→yY bc bd S T D C t.blk p root' (qp e) true C2:=fun root' C2 hlw=>⟨fun w r h0 h1 hcw=>
     jV w bc bd S T D C r hcw h0 p h t.blk (by omega) (by omega) h6 (qp e) ⟨_,_,_,_,_,rfl⟩ true true C1 K root' C2 (.inr ⟨rfl,hlw⟩)⟩
    have hsame:1≤t'.items.length→(0<h→2≤t'.items.length)→(∃e root' C' m' pb fb,cg D C C' m m' root' p e t.ents t.blocks pb fb∧yY bc bd S T D C t.blk p root' (qp e) true C'):=fun a1 a2=>by
     refine⟨e,t.blk,C1,m1,pb,fb,⟨R.cln,R.shr,R.sub,by omega,by omega,R.mem,R.at_,⟨t'.blocks,.inr ⟨h,t',L.root hr a1 a2,lay,L.blk,L.ents,rfl⟩,perm⟩,hr.good.blk⟩,hlow _ _ (fun w0 T0 r b0 b1 hcw=>?_)⟩
     refine(Ye w0 bc bd S T0 {D with reads:=r} C1 hcw b0 b1 t.blk hr.good.blk (zN h) (bZ h) t'.items L.good.items_ok (fJ t') L.hi a1 (fun hk=>a2 (by cases h with|zero=>simp [zN] at hk|succ h=>omega)) (by rw [←L.blk];exact fP lay)).mono ?_
     rintro x w' ⟨k1,⟨n,k2,k3,k4⟩,k6⟩
     exact⟨k1,⟨n,T0,k2,by omega,k4,fun _ h=>.inl h⟩,k6.mono iL⟩
    have hcast:((t.blk:Nat):Int)=((t.blk-21:Nat):Int)+21:=by omega
    have hsh2:=R.shr.trans (vS.free R.cln (i:=t.blk-21) (by omega))
    rw [List.append_nil,show t.blk-21+21=t.blk from by omega] at hsh2
    have hcl2:=R.cln.free (t.blk-21)
    have hfl:=fH C1 m1 (t.blk-21)
    cases h with
    |zero=>
     by_cases h1:1≤t'.items.length
     ·exact .inl (hsame h1 (fun h=>by omega))
     ·have h0:t'.items=[]:=List.eq_nil_of_length_eq_zero (by omega)
      have he0:qO p t.ents=[]:=by rw [←L.ents];exact h0
      refine .inl ⟨e,0,C1.free m1 (t.blk-21),xH m1 (t.blk-21),pb,fb++[t.blk],⟨hcl2,hsh2,R.sub,by omega,by omega,R.mem,R.at_,⟨[],.inl ⟨rfl,he0,rfl⟩,?_⟩,by omega⟩,hlow _ _ (fun w0 T0 r b0 b1 hcw=>?_)⟩
      ·have hb:t'.blocks=[t.blk]:=by rw [←L.blk];rfl
       rw [hb] at perm
       rw [List.nil_append]
       exact List.perm_append_comm.trans perm
      ·have:=Yd w0 bc bd S T0 {D with reads:=r} C1 hcw m1 (by rw [zI];exact R.cln.map) b0 b1 (by omega) (t.blk-21) (by omega) 5 (.inr rfl) (by
        rw [show t.blk-21+21=t'.blk from by rw [L.blk];omega,fP lay,h0];rfl)
       rw [hcast]
       exact this
    |succ h=>
     by_cases h2:2≤t'.items.length
     ·exact .inl (hsame (by omega) (fun _=>h2))
     ·have hlo:=L.lo
      have h2t:=hr.two (by omega)
      obtain⟨bb,cs⟩:=t'
      have hcl:cs.length=1:=by
       rw [zs] at h2 hlo
       omega
      obtain⟨⟨q,u⟩,rfl⟩:∃c,cs=[c]:=by
       cases cs with
       |nil=>simp at hcl
       |cons c r=>cases r with
        |nil=>exact⟨c,rfl⟩
        |cons _ _=>simp at hcl
      obtain rfl:bb=t.blk:=L.blk
      have hgu:=L.good.kids.good (q,u) (by simp)
      have h3:3≤u.items.length:=L.good.full (q,u) (by simp)
      have hfst:u.First qQ:=by
       obtain⟨u0,r0,hu0⟩:=L.first _ hr.first
       simp only [List.cons.injEq,Prod.mk.injEq] at hu0
       rw [←hu0.1.1]
       exact(L.good.kids.seps [] q u [] rfl).2.2
      have hue:u.ents=qO p t.ents:=by rw [←L.ents];show u.ents=zJ [(q,u)];simp [zJ]
      have hru:u.Root:=⟨hgu.1,hgu.2.1,by omega,fun _=>by omega,hfst,by rw [hue];exact hr.srt.del⟩
      have hbb:Tr.blocks (h:=h+1) (t.blk,[(q,u)])=t.blk::u.blocks:=by show t.blk::zA [(q,u)]=_;simp [zA]
      have hpn:(t.blk::u.blocks++fb).Nodup:=by rw [←hbb];exact perm.nodup_iff.2 hnd
      have hnu:t.blk∉u.blocks:=(List.nodup_cons.1 (List.nodup_append.1 hpn).1).1
      have hlu:u.LayV zl (fun j=>C1.look D (j:Nat)):=lay.2 (q,u) (by simp)
      refine .inl ⟨e,u.blk,C1.free m1 (t.blk-21),xH m1 (t.blk-21),pb,fb++[t.blk],⟨hcl2,hsh2,R.sub,by omega,by omega,R.mem,R.at_,⟨u.blocks,.inr ⟨h,u,hru,hlu.congr (fun j hj=>?_),rfl,hue,rfl⟩,?_⟩,hgu.1.blk⟩,hlow _ _ (fun w0 T0 r b0 b1 hcw=>?_)⟩
      ·have hjr:=hrg j (perm.mem_iff.1 (List.mem_append_left _ (by rw [hbb];exact List.mem_cons_of_mem _ hj)))
       exact uw C1 D m1 (t.blk-21) j (by omega) (fun e0=>hnu (by rw [show t.blk=j from by omega];exact hj))
      ·rw [hbb] at perm
       refine List.Perm.trans ?_ perm
       rw [←List.append_assoc]
       exact List.perm_append_comm
      ·have:=XD w0 bc bd S T0 {D with reads:=r} C1 hcw m1 (by rw [zI];exact R.cln.map) b0 b1 (by omega) (t.blk-21) (by omega) ⟨q,false,0,u.blk⟩ (hgu.2.2.en hgu.1.blk) ⟨rfl,rfl⟩ (by
        rw [show t.blk-21+21=t.blk from by omega];exact fP lay)
       rw [hcast]
       exact this
  ·refine .inr ⟨hno,⟨fun w r h0 h1 hcw=>?_⟩⟩
   exact jV w bc bd S T D C r hcw h0 p h t.blk (by omega) (by omega) h6 qo ⟨_,_,_,_,_,rfl⟩ false false C K _ _ (.inl ⟨rfl,rfl,rfl⟩)
end prog
namespace prog
open Go.ChangeShapes Go.WideShapes Go.ChangeAt Go.RowKit disk ref
open keys (ze zd zr zn)
attribute [local go_sem] Oper.semAt_some
def ci(pre:List BP):List Nat:=pre.map fun x=>x.p.at_
theorem YS{ps:List zq}{pre:List BP}(h:pre.map BP.p<+:ps):ci pre<+:ps.map zq.at_:=by
 have:=h.map zq.at_
 rw [List.map_map] at this
 exact this
structure VI (w1:World) (bc bd:Nat) (S T:Nat→Prop) (D:Dk) (C:Ck) (m:List UInt8) (ps:List zq) (b2 bx:Nat) (r:Int) (pre:List BP) (Q:Nat→Prop) (A:World):Prop where
 st:∃(n:Int) (T1:Nat→Prop),0≤n∧n≤r+pre.length∧Cw A bc bd S T1 {D with reads:=D.reads+n} (yi (ci pre) (C,m)).1∧(∀j,T1 j→T j∨w1.heap.size+2≤j)∧∀k,Q k↔T1 k∧w1.heap.size+2≤k
 box:A.heap[b2]? =some (.cells #[.iface 142 (.pointer (some ⟨bc,0,none⟩))] 193 (0,0))
 cbx:A.heap[bx]? =some (.cells #[.pointer (some ⟨bc,0,none⟩)] 142 (0,0))
 pfx:pre.map BP.p<+:ps
 kept:Kept (fun k=>k=bd∨T k∨w1.heap.size≤k) w1 A
 rr:0≤r
def Ub(w1:World)(bc bd:Nat)(S T:Nat→Prop)(D:Dk)(C:Ck)(m:List UInt8)(ps:List zq)(b2:Nat)(r:Int)(pre:List BP)(A:World):Prop:=
 (∃(n:Int) (T1:Nat→Prop),0≤n∧n≤r+pre.length∧Cw A bc bd S T1 {D with reads:=D.reads+n} (yi (ci pre) (C,m)).1∧(∀j,T1 j→T j∨w1.heap.size+2≤j))∧
  A.heap[b2]? =some (.cells #[.iface 142 (.pointer (some ⟨bc,0,none⟩))] 193 (0,0))∧pre.map BP.p<+:ps∧0≤r
theorem Qa{D:Dk}{C:Ck}{m:List UInt8}(h:fI D C m){ps:List zq}(hrg:∀q∈ps,21≤q.at_∧q.at_<1000){pre:List BP}(hp:pre.map BP.p<+:ps):fI D (yi (ci pre) (C,m)).1 (yi (ci pre) (C,m)).2∧vS D C (yi (ci pre) (C,m)).1 m (yi (ci pre) (C,m)).2 [] (ci pre)∧(yi (ci pre) (C,m)).1.ws.length≤C.ws.length+ps.length:=by
 have hs:=(YS hp).subset
 obtain⟨h1,h2,h3⟩:=js (ci pre) C m h (fun j hj=>by
  obtain⟨q,hq,rfl⟩:=List.mem_map.1 (hs hj)
  exact hrg q hq)
 refine⟨h1,h2,Nat.le_trans h3 ?_⟩
 have:=(YS hp).length_le
 simp at this
 omega
theorem XN(w:World)(bc bd:Nat)(S T:Nat→Prop)(D:Dk)(C:Ck)(h:Cw w bc bd S T D C)(m:List UInt8)(hcl:fI D C m)(hr0:0≤D.reads)(hr1:D.reads≤4611686018427380000)(ps:List zq)(hch:yp (fun j=>C.look D (j:Nat)) ps)(hnd:(ps.map zq.at_).Nodup)(hp3:ps.length≤3)(hrg:∀q∈ps,21≤q.at_∧q.at_<1000)(first:Nat)(hf:yA ps=first)(hfew:C.ws.length<600)(C':Ck)(m':List UInt8)(hfree:yi (ps.map zq.at_) (C,m)=(C',m')):
 Calls Tryz.prog 80 #[.pointer (some ⟨bc,0,none⟩),.int .i64 first] w fun e w'=>e=.returned (.tuple #[])∧(∃(n:Int) (T':Nat→Prop),0≤n∧n≤6∧Cw w' bc bd S T' {D with reads:=D.reads+n} C'∧∀j,T' j→T j∨w.heap.size≤j)∧Kept (fun j=>j=bd∨T j) w w':=by
 have HH:Hid _:=h
 have HCL:Hid (fI D C m):=hcl
 have HCH:Hid (yp (fun j=>C.look D (j:Nat)) ps):=hch
 have HND:Hid ((ps.map zq.at_).Nodup):=hnd
 have HRG:Hid (∀q∈ps,21≤q.at_∧q.at_<1000):=hrg
 have HF:Hid (yA ps=first):=hf
 have HFREE:Hid (yi (ps.map zq.at_) (C,m)=(C',m')):=hfree
 have hbd:bd<w.heap.size:=h.disk.lt bd h.disk.bdS
 have HTL:Hid (∀j,T j→j<w.heap.size):=h.chg.lt
 have HSL:Hid (∀j,S j→j<w.heap.size):=h.disk.lt
 clear h hcl hch hnd hrg hf hfree
 refine yy Tryz.func80 rfl ?_
 simp only [Tryz.ntmps80,List.size_toArray,List.length_cons,List.length_nil,Nat.reduceAdd,Nat.reduceSub,Array.replicate_succ,Array.replicate_zero,List.push_toArray,List.append_toArray,List.nil_append,List.cons_append]
 go_wp2_with fail
 have HK0:Hid (Kept (fun _=>False) w (w.alloc (.cells #[.pointer (some ⟨bc,0,none⟩)] 142))):=Kept.alloc _ _ _
 have HBX:Hid ((w.alloc (.cells #[.pointer (some ⟨bc,0,none⟩)] 142)).heap[w.heap.size]? =some (.cells #[.pointer (some ⟨bc,0,none⟩)] 142 (0,0))):=heap_alloc_new w _
 have hs0:(w.alloc (.cells #[.pointer (some ⟨bc,0,none⟩)] 142)).heap.size=w.heap.size+1:=by simp
 generalize (w.alloc (.cells #[.pointer (some ⟨bc,0,none⟩)] 142))=W0 at*
 refine(dJ W0 142 ⟨bc,0,none⟩ first).mono ?_
 rintro e w1 ⟨rfl,hb1,hb2,hk1,hs1⟩
 rw [hs0] at hb1 hb2 hs1
 have HB1:Hid (w1.heap[w.heap.size+1+1]? =_):=hb1
 have HB2:Hid (w1.heap[w.heap.size+1]? =_):=hb2
 have HKw1:Hid (Kept (fun _=>False) w w1):=HK0.out.trans hk1 iL
 have HBX1:Hid (w1.heap[w.heap.size]? =some (.cells #[.pointer (some ⟨bc,0,none⟩)] 142 (0,0))):=(hk1.block _ (by omega) id).trans HBX.out
 clear hb1 hb2 hk1
 rw [hs0]
 go_wp2_with fail
 have HSEQ:Hid (∀W1,Kept (fun _=>False) w1 W1→W1.heap.size=w1.heap.size+2→kF Tryz.prog 124 #[.pointer (some ⟨w.heap.size+1+1,0,none⟩),.pointer (some ⟨w.heap.size+1,0,none⟩)] QX (fun k=>k=bd) (Ub w1 bc bd S T D C m ps (w.heap.size+1)) (fun r pre x A=>Zt (w1.heap.size+2) ps pre x A∧r≤0+pre.length+1) (fun r xs=>xs.map BP.p=ps∧r≤0+ps.length) (fun _ _=>True) 0 W1):=fun W1 hk hsz=>by
  have:=dE W1 142 192 ⟨bc,0,none⟩ (gY _) (w.heap.size+1+1) (w.heap.size+1) ps (fun j=>C.look D (j:Nat)) HCH.out HND.out (fun k=>k=bd) (Ub w1 bc bd S T D C m ps (w.heap.size+1)) 0 (fun k hk=>by rw [hk];omega)
   (by rw [HF.out];exact(hk.block _ (by omega) id).trans HB1.out) (fun r pre A h=>h.2.1)
   (fun r pre A B h hk=>by
    obtain⟨⟨n,T1,a1,a2,a3,a4⟩,b1,b2,b3⟩:=h
    exact⟨⟨n,T1,a1,a2,a3.kept0 hk,a4⟩,(hk.block _ (lT b1) id).trans b1,b2,b3⟩)
   (fun i hi r pre A h hpre hrr=>by
    obtain⟨⟨n,T1,a1,a2,a3,a4⟩,b1,b2,b3⟩:=h
    have hpl:pre.length=i:=by have:=congrArg List.length hpre;simp at this;omega
    obtain⟨c1,c2,c3⟩:=Qa HCL.out HRG.out b2
    have hat:=HRG.out _ (List.getElem_mem hi)
    have hnot:ps[i].at_∉ci pre:=fun hc=>by
     have e1:ci pre=(ps.map zq.at_).take i:=by
      have:=congrArg (List.map zq.at_) hpre
      rw [List.map_map,List.map_take] at this
      exact this
     rw [e1] at hc
     obtain⟨j,hj,hj2⟩:=List.mem_take_iff_getElem.1 hc
     have hji:j<i:=by omega
     have:=List.pairwise_iff_getElem.1 HND.out j i (by omega) (by simpa using hi) hji
     rw [hj2] at this
     simp at this
    refine(jl A bc bd S T1 {D with reads:=D.reads+n} _ a3 _ (by constructor<;>omega) (by show 0≤D.reads+n;omega) (by show D.reads+n≤_;omega)).mono ?_
    rintro x A' ⟨rfl,⟨n2,d1,d2,d3⟩,d4⟩
    refine⟨?_,d4,r+1,by omega,by omega,⟨n+n2,T1,by omega,by omega,by rw [←Int.add_assoc];exact d3,a4⟩,(d4.block _ (lT b1) (by omega)).trans b1,b2,by omega⟩
    rw [zI,c2.look _ (fun hc=>nomatch hc) hnot (by omega)])
  rw [hsz] at this
  exact this
 have HNB:Hid (∀A B Z r r' pre Q,VI w1 bc bd S T D C m ps (w.heap.size+1) w.heap.size r pre Q A→Kept Z A B→(∀k,Z k→k=w1.heap.size∨k=w1.heap.size+1)→r'=r→VI w1 bc bd S T D C m ps (w.heap.size+1) w.heap.size r' pre Q B):=by
  rintro A B Z r r' pre Q hi hk hZ rfl
  obtain⟨n,T1,a1,a2,a3,a4,a5⟩:=hi.st
  have nz:∀b,b<w1.heap.size→¬Z b:=fun b hb hc=>by have:=hZ b hc;omega
  refine⟨⟨n,T1,a1,a2,a3.kept hk (fun j hj=>nz j (by have:=HSL.out j hj;omega)) (fun j hj hc=>?_),a4,a5⟩,(hk.block _ (lT hi.box) (nz _ (by omega))).trans hi.box,(hk.block _ (lT hi.cbx) (nz _ (by omega))).trans hi.cbx,hi.pfx,hi.kept.trans hk (fun i hi=>.inl (.inr (.inr (by have:=hZ i hi;omega)))),hi.rr⟩
  rcases a4 j hj with h|h
  ·exact nz j (by have:=HTL.out j h;omega) hc
  ·have:=hZ j hc;omega
 refine jS (α:=BP) (gf:= 124) (lb:=#[.pointer (some ⟨w.heap.size+1+1,0,none⟩),.pointer (some ⟨w.heap.size+1,0,none⟩)]) rfl (enters_of Tryz.func124 (by kernel_rfl) rfl) HSEQ.out
  (fun k hk=>by rw [hk];omega) (fun _=>rfl)
  (VI w1 bc bd S T D C m ps (w.heap.size+1) w.heap.size) (fun c r pre A=>False)
  (fun r pre Q A h=>by
   obtain⟨n,T1,a1,a2,a3,a4,a5⟩:=h.st
   exact⟨⟨⟨n,T1,a1,a2,a3,a4⟩,h.box,h.pfx,h.rr⟩,fun k hk=>by
    have h1:=(a5 k).1 hk
    have h2:=a3.chg.lt k h1.1
    omega⟩)
  (fun r r' pre Q A B h hr hk hi=>by
   obtain⟨n,T1,a1,a2,a3,a4,a5⟩:=h.st
   obtain⟨⟨n',T2,b1,b2,b3,b4⟩,b5,b6,b7⟩:=hi
   have hn:∀b,b≠bd→b<A.heap.size→B.heap[b]? =A.heap[b]? :=fun b hb hl=>hk.block b hl hb
   exact⟨⟨n',T1,b1,b2,⟨b3.disk,a3.chg.kept hk (fun j hj e0=>a3.apart bd a3.disk.bdS (by rw [←show j=bd from e0];exact hj)),a3.apart⟩,a4,a5⟩,b5,(hn _ (by omega) (lT h.cbx)).trans h.cbx,b6,h.kept.trans hk (fun i hi=>.inl (.inl hi)),b7⟩)
  (fun r pre Q A B h hk=>HNB.out A B _ r r pre Q h hk (fun k hk=>hk) rfl)
  (fun c r pre A B h hk=>h)
  ⟨⟨0,T,Int.le_refl _,by simp,by rw [Int.add_zero];exact HH.out.kept0 HKw1.out,fun j hj=>.inl hj,fun k=>⟨fun h=>h.elim,fun h=>by have:=HTL.out k h.1;omega⟩⟩,HB2.out,HBX1.out,List.nil_prefix,Kept.refl _ _,Int.le_refl _⟩
  (fun x a' A=>a'={tmps:=#[.pointer (some ⟨bc,0,none⟩),.int .i64 (first:Int),.pointer (some ⟨w.heap.size,0,none⟩),undef,.int .i64 (x.p.at_:Int),.pointer (some ⟨bc,0,none⟩),.iface 142 (.pointer (some ⟨bc,0,none⟩)),.int .i64 (first:Int),.func (.func 124) #[] #[.pointer (some ⟨w.heap.size+1+1,0,none⟩),.pointer (some ⟨w.heap.size+1,0,none⟩)],.int .i64 (x.p.at_:Int),.slice (some ⟨x.g,4,none⟩) x.p.l.length 124,undef,undef,undef],defers:=[] })
  (fun x a A B h hk=>h)
  (fun r pre x A B h hk=>⟨⟨h.1.pre,by obtain⟨nx,hp⟩:=h.1.pg;exact⟨nx,hp.kept hk (by have:=h.1.ge;omega)⟩,h.1.ge⟩,h.2⟩) ?assign ?body ?done ?stop
 case assign=>
  intro ll r pre x Q A K hi hh hlt hK
  dsimp only [QX]
  gi_wp2
  exact hK _ _ (Kept.refl _ _) hi hh rfl
 case body=>
  rintro ll r pre x Q a' A hi hh rfl hlt
  obtain⟨n,T1,a1,a2,a3,a4,a5⟩:=hi.st
  have HI:Hid (VI w1 bc bd S T D C m ps (w.heap.size+1) w.heap.size r pre Q A):=hi
  have HPX:Hid ((pre.map BP.p++[x.p])<+:ps):=hh.1.pre
  obtain⟨c1,c2,c3⟩:=Qa HCL.out HRG.out hi.pfx
  have hat:=HRG.out x.p (hh.1.pre.subset (by simp))
  have hpl:pre.length+1≤3:=by have:=hh.1.pre.length_le;simp at this;omega
  have hrr:=hh.2
  have HA3:Hid _:=a3
  have HA4:Hid (∀j,T1 j→T j∨w1.heap.size+2≤j):=a4
  have HA5:Hid (∀k,Q k↔T1 k∧w1.heap.size+2≤k):=a5
  have HFR:Hid (Calls Tryz.prog 143 #[.pointer (some ⟨bc,0,none⟩),.int .i64 (x.p.at_:Int)] A fun e w'=>e=.returned (.tuple #[])∧(∃(n':Int) (T':Nat→Prop),0≤n'∧n'≤1∧Cw w' bc bd S T' {D with reads:=D.reads+n+n'} (yi (ci (pre++[x])) (C,m)).1∧∀k,T' k→T1 k∨A.heap.size≤k)∧Kept (fun k=>k=bd∨T1 k) A w'):=by
   have:=vR A bc bd S T1 {D with reads:=D.reads+n} _ a3 (yi (ci pre) (C,m)).2 (by rw [zI];exact c1.map) (by show 0≤D.reads+n;omega) (by show D.reads+n≤_;omega) (by omega) (x.p.at_-21) (by omega)
   rw [show ((x.p.at_-21:Nat):Int)+21=(x.p.at_:Int) from by omega] at this
   have e1:ci (pre++[x])=ci pre++[x.p.at_]:=by simp [ci]
   show Calls _ _ _ _ _
   rw [e1,fO]
   exact this
  have cx:A.cell? ⟨w.heap.size,0,none⟩=some (.pointer (some ⟨bc,0,none⟩)):=cR hi.cbx rfl
  clear a3 a4 a5 c1 c2 c3 hi hh
  gi_wp2_with fail
  refine⟨trivial,rfl,?_⟩
  refine((yz ll).calls HFR.out).mono ?_
  rintro e A' ⟨rfl,⟨n2,T2,d1,d2,d3,d4⟩,d5⟩
  have HD3:Hid _:=d3
  have HD4:Hid (∀k,T2 k→T1 k∨A.heap.size≤k):=d4
  have HD5:Hid (Kept (fun k=>k=bd∨T1 k) A A'):=d5
  clear d3 d4 d5
  gi_wp2
  have hzA:=HI.out.kept.size
  have hT2:∀j,T2 j→T j∨w1.heap.size+2≤j:=fun j hj=>(HD4.out j hj).elim (HA4.out j) (fun h=>.inr (by omega))
  have nb:∀b,w.heap.size≤b→b<w1.heap.size→¬(b=bd∨T1 b):=fun b h1 h2 hc=>by
   rcases hc with h|h
   ·omega
   ·rcases HA4.out b h with h|h
    ·have:=HTL.out b h;omega
    ·omega
  refine⟨HD5.out.mono (fun j hj=>?_),fun k=>T2 k∧w1.heap.size+2≤k,⟨⟨n+n2,T2,by omega,by rw [List.length_append,List.length_singleton];omega,by rw [←Int.add_assoc];exact HD3.out,hT2,fun k=>Iff.rfl⟩,(HD5.out.block _ (lT HI.out.box) (nb _ (by omega) (by omega))).trans HI.out.box,(HD5.out.block _ (lT HI.out.cbx) (nb _ (by omega) (by omega))).trans HI.out.cbx,by rw [List.map_append];exact HPX.out,HI.out.kept.trans HD5.out (fun j hj=>.inl ?_),HI.out.rr⟩,fun k hk=>?_⟩
  ·rcases hj with h|h
   ·exact .inl (by omega)
   ·rcases HA4.out j h with h2|h2
    ·exact .inl (by have:=HTL.out j h2;omega)
    ·exact .inr ((HA5.out j).2 ⟨h,h2⟩)
  ·rcases hj with h|h
   ·exact .inl h
   ·rcases HA4.out j h with h2|h2
    ·exact .inr (.inl h2)
    ·exact .inr (.inr (by omega))
  ·rcases HD4.out k hk.1 with h|h
   ·exact .inl ((HA5.out k).2 ⟨h,hk.2⟩)
   ·exact .inr h
 case done=>
  rintro DD r xs Q A hS hi rfl hK
  obtain⟨n,T1,a1,a2,a3,a4,a5⟩:=hi.st
  have e1:ci xs=ps.map zq.at_:=by rw [←hS.1,List.map_map];rfl
  have hxl:xs.length=ps.length:=by rw [←hS.1];simp
  have hr:=hS.2
  rw [e1,HFREE.out] at a3
  have kp:Kept (fun k=>k=w1.heap.size) A (A.putObj w1.heap.size (.deferred none)):=Kept.putObj _ _ _ rfl
  have hkw:=hi.kept
  show YI _ _ _ .ret _ _
  refine jo rfl hK (results_none rfl _ _ _) ⟨rfl,⟨n,T1,a1,by omega,a3.kept kp (fun j hj e0=>by have:=HSL.out j hj;omega) (fun j hj e0=>by
   rcases a4 j hj with h|h
   ·have:=HTL.out j h;omega
   ·omega),fun j hj=>(a4 j hj).imp id (fun h=>by omega)⟩,?_⟩
  exact((HKw1.out.mono (S':=fun j=>j=bd∨T j) fE).trans hkw (fun j hj=>by
   rcases hj with h|h|h
   ·exact .inl (.inl h)
   ·exact .inl (.inr h)
   ·exact .inr (by omega))).trans kp (fun j hj=>.inr (by omega))
 case stop=>
  rintro DD c r pre A hS hi rfl hK
  exact hi.elim
end prog
namespace prog
open Go.ChangeShapes Go.WideShapes Go.ChangeAt Go.RowKit disk ref
open Go.MuLone
open keys (ze zd zr zn zu)
structure Rest (D:Dk) (n:Nat) (e:En) (root':Nat) (C1 C2:Ck) (m1 m2:List UInt8) (ps:List zq):Prop where
 cln:fI D C1 m1
 few:C1.ws.length≤100
 lt:root'<65536
 chain:yp (fun j=>C1.look D (j:Nat)) ps
 nodup:(ps.map zq.at_).Nodup
 head:yA ps=e.at_
 three:ps.length≤3
 range:∀q∈ps,21≤q.at_∧q.at_<1000
 free:yi (ps.map zq.at_) (C1,m1)=(C2,m2)
 full:(C2.put 1 (zl (zp root' n))).full=false
 fits:(C2.put 1 (zl (zp root' n))).ws.length≤18
 keys:∀k∈(C2.put 1 (zl (zp root' n))).keys,k<D.bs.length
def VA(D:Dk)(n:Nat)(e:En)(root':Nat)(C1 C2:Ck)(m1 m2:List UInt8)(ps:List zq)(v:List Value)(ok:Bool):Prop:=(ok=false∧v=qo)∨(ok=true∧v=qp e∧Rest D n e root' C1 C2 m1 m2 ps)
def Ul(w w':World)(bd:Nat)(S:Nat→Prop)(D:Dk)(n root':Nat)(C2:Ck)(ok:Bool)(x:Ending):Prop:=∃kk:Int,0≤kk∧kk≤40∧
 ((ok=false∧x=.returned (.int .i64 5)∧qK w w' bd S {D with reads:=D.reads+kk })∨(ok=true∧x=.returned (.int .i64 0)∧qK w w' bd S {D with bs:=vi D.bs (C2.put 1 (zl (zp root' n))).ws,reads:=D.reads+kk }))
def VB(w w':World)(bs bd:Nat)(k:Int)(S:Nat→Prop)(D:Dk)(n root':Nat)(C2:Ck)(ok:Bool)(x:Ending):Prop:=∃kk:Int,0≤kk∧kk≤40∧
 ((ok=false∧x=.returned (.int .i64 5)∧qK w w' bd S {D with reads:=D.reads+kk })∨(ok=true∧∃c,x=.returned (.int .i64 c)∧di w w' bs bd k S (zX {D with reads:=D.reads+kk} (C2.put 1 (zl (zp root' n))).ws) c))
theorem fI.reads{D:Dk}{C:Ck}{m:List UInt8}(h:fI D C m)(r:Int):fI {D with reads:=r} C m:=⟨by rw [zI];exact h.map,h.full,h.nodup⟩
theorem uR(w:World)(bs bd:Nat)(S:Nat→Prop)(D:Dk)(k:Int)(hs:zK w bs k (some bd))(hd:zh w bd S D)(hn:¬S bs)(hr0:0≤D.reads)(hr1:D.reads≤4611686018427350000)(hps:D.ps=[])(hfu:zD D.fuse)(h64:64≤D.bs.length)(hN:D.bs.length≤1000)
 (tree n:Nat) (hb:yu (D.look 1) tree n) (hn9:n<4611686018427387904) (p:Pl) (e:En) (root':Nat) (C1 C2:Ck) (m1 m2:List UInt8) (ps:List zq) (v:List Value) (ok:Bool) (hcall:yY (w.heap.size+1) bd S (fun j=>j=w.heap.size+1) D vd tree p root' v ok C1) (hcase:VA D n e root' C1 C2 m1 m2 ps v ok):
 Calls Tryz.prog 53 #[.pointer (some ⟨bs,0,none⟩),.agg #[.string p.key,.int .i64 p.num]] w fun x w'=>VB w w' bs bd k S D n root' C2 ok x:=by
 have HS:Hid _:=hs
 have HD:Hid (zh w bd S D):=hd
 have HB:Hid (yu (D.look 1) tree n):=hb
 have HCALL:Hid (yY (w.heap.size+1) bd S (fun j=>j=w.heap.size+1) D vd tree p root' v ok C1):=hcall
 have HCASE:Hid (VA D n e root' C1 C2 m1 m2 ps v ok):=hcase
 have HPS0:Hid (D.ps=[]):=hps
 have HFU:Hid (zD D.fuse):=hfu
 have c2:w.cell? ⟨bs,2,none⟩=some (.pointer (some ⟨bd,0,none⟩)):=hs.c2
 have hbd:bd<w.heap.size:=hd.lt bd hd.bdS
 have HSL:Hid (∀j,S j→j<w.heap.size):=hd.lt
 have hbs:=hs.lt
 clear hs hd hb hcall hcase hps hfu
 have HKP:Hid (Kept (fun _=>False) w (w.alloc (.cells #[.string p.key,.int .i64 p.num] 107))):=Kept.alloc _ _ _
 have HBP:Hid ((w.alloc (.cells #[.string p.key,.int .i64 p.num] 107)).heap[w.heap.size]? =some (.cells #[.string p.key,.int .i64 p.num] 107 (0,0))):=heap_alloc_new w _
 have hsP:(w.alloc (.cells #[.string p.key,.int .i64 p.num] 107)).heap.size=w.heap.size+1:=by simp
 go_enter Tryz.func53,Tryz.ntmps53
 go_wp2_with fail
 generalize (w.alloc (.cells #[.string p.key,.int .i64 p.num] 107))=W at*
 refine(dy W bd (by omega)).mono ?_
 rintro x w1 ⟨rfl,hch1,hk1⟩
 rw [hsP] at hch1 ⊢
 have HK1:Hid (Kept (fun _=>False) w w1):=HKP.out.trans hk1 iL
 have hz1:=hk1.size
 have HBP1:Hid (w1.heap[w.heap.size]? =_):=(hk1.block _ (by omega) id).trans HBP.out
 have HC1:Hid (Cw w1 (w.heap.size+1) bd S (fun j=>j=w.heap.size+1) D vd):=⟨HD.out.kept HK1.out nF,hch1,fun j hj hT=>by have:=HSL.out j hj;omega⟩
 clear hch1 hk1 c2
 go_wp2_with fail
 refine(dF w1 (w.heap.size+1) bd S _ D vd HC1.out hr0 (by omega) tree n (by rw [yo];exact HB.out)).mono ?_
 rintro x w2 ⟨rfl,⟨k2,hk20,hk21,hc2'⟩,hk2⟩
 have HC2:Hid (Cw w2 (w.heap.size+1) bd S (fun j=>j=w.heap.size+1) {D with reads:=D.reads+k2} vd):=hc2'
 have HK2:Hid (Kept (fun i=>i=bd) w1 w2):=hk2
 have hz2:=hk2.size
 have hbc:w.heap.size+1<w1.heap.size:=HC1.out.chg.lt _ rfl
 have HBP2:Hid (w2.heap[w.heap.size]? =_):=(hk2.block _ (by omega) (by omega)).trans HBP1.out
 have q0:w2.cell? ⟨w.heap.size,0,none⟩=some (.string p.key):=cR HBP2.out rfl
 have q1:w2.cell? ⟨w.heap.size,1,none⟩=some (.int .i64 p.num):=cR HBP2.out rfl
 have hlw:w.heap.size<w2.heap.size:=by omega
 clear hc2' hk2
 go_wp2_with fail
 have HBR:Hid ((w2.alloc (.cells #[.int .i64 (tree:Int),.int .i64 (n:Int)] 145)).heap[w2.heap.size]? =some (.cells #[.int .i64 (tree:Int),.int .i64 (n:Int)] 145 (0,0))):=heap_alloc_new w2 _
 have HKW:Hid (Kept (fun _=>False) w2 (w2.alloc (.cells #[.int .i64 (tree:Int),.int .i64 (n:Int)] 145))):=Kept.alloc _ _ _
 have hsW:(w2.alloc (.cells #[.int .i64 (tree:Int),.int .i64 (n:Int)] 145)).heap.size=w2.heap.size+1:=by simp
 generalize (w2.alloc (.cells #[.int .i64 (tree:Int),.int .i64 (n:Int)] 145))=W3 at*
 refine(HCALL.out.go W3 (D.reads+k2) (by omega) (by omega) (HC2.out.kept0 HKW.out)).mono ?_
 rintro x w4 ⟨rfl,⟨n4,T4,hn40,hn41,hc4,hT4⟩,hk4⟩
 have HC4:Hid (Cw w4 (w.heap.size+1) bd S T4 {D with reads:=D.reads+k2+n4} C1):=hc4
 have HT4:Hid (∀j,T4 j→j=w.heap.size+1∨W3.heap.size≤j):=hT4
 have HK4:Hid (Kept (fun j=>j=bd∨j=w.heap.size+1) W3 w4):=hk4
 have hz4:=hk4.size
 have HB4:Hid (w4.heap[w2.heap.size]? =_):=(hk4.block _ (by omega) (by omega)).trans HBR.out
 have HKw4:Hid (Kept (fun j=>j=bd) w w4):=(((HK1.out.mono fE).trans HK2.out iL).trans HKW.out fE).trans HK4.out (fun j hj=>hj.imp id (fun h=>by omega))
 clear hc4 hT4 hk4 q0 q1
 rcases HCASE.out with⟨rfl,rfl⟩|⟨rfl,rfl,hR⟩
 ·unfold qo
  go_wp2
  have kA:=Kept.alloc (fun _=>False) w4 (.cells #[.string ⟨#[]⟩,.int .i64 0,.bool false,.int .i64 0,.int .i64 0] 109)
  refine bodyPost_ret (results_tmp rfl _ _ _) rfl ⟨k2+n4,by omega,by omega,.inl ⟨rfl,rfl,⟨⟨S,?_,fun _ h=>.inl h⟩,(HKw4.out.trans kA fE).mono (fun j hj=>by rw [show j=bd from hj];exact HD.out.bdS)⟩⟩⟩
  rw [←Int.add_assoc]
  exact HC4.out.disk.kept kA nF
 ·have HR:Hid (Rest D n e root' C1 C2 m1 m2 ps):=hR
  clear hR HCASE
  unfold qp
  go_wp2_with fail
  have HKE:Hid (Kept (fun _=>False) w4 (w4.alloc (.cells #[.string e.pl.key,.int .i64 e.pl.num,.bool e.mark,.int .i64 (e.size:Int),.int .i64 (e.at_:Int)] 109))):=Kept.alloc _ _ _
  have hsE:(w4.alloc (.cells #[.string e.pl.key,.int .i64 e.pl.num,.bool e.mark,.int .i64 (e.size:Int),.int .i64 (e.at_:Int)] 109)).heap.size=w4.heap.size+1:=by simp
  generalize (w4.alloc (.cells #[.string e.pl.key,.int .i64 e.pl.num,.bool e.mark,.int .i64 (e.size:Int),.int .i64 (e.at_:Int)] 109))=W5 at*
  have hfw:=HR.out.few
  refine(XN W5 (w.heap.size+1) bd S T4 {D with reads:=D.reads+k2+n4} C1 (HC4.out.kept0 HKE.out) m1 (HR.out.cln.reads _) (by show 0≤D.reads+k2+n4;omega) (by show D.reads+k2+n4≤_;omega) ps (HR.out.chain.congr (fun q _=>zI _ _ _ _)) HR.out.nodup HR.out.three HR.out.range e.at_ HR.out.head (by omega) C2 m2 HR.out.free).mono ?_
  rintro x w6 ⟨rfl,⟨n6,T6,hn60,hn61,hc6,hT6⟩,hk6⟩
  have HC6:Hid (Cw w6 (w.heap.size+1) bd S T6 {D with reads:=D.reads+k2+n4+n6} C2):=hc6
  have HT6:Hid (∀j,T6 j→j=w.heap.size+1∨W3.heap.size≤j):=fun j hj=>(hT6 j hj).elim (HT4.out j) (fun h=>.inr (by omega))
  have HNT4:Hid (∀j,w.heap.size≤j→j<W3.heap.size→j≠w.heap.size+1→¬(j=bd∨T4 j)):=fun j h1 h2 h3 hc=>by
   rcases hc with h|h
   ·omega
   ·rcases HT4.out j h with h|h<;>omega
  have HB6:Hid (w6.heap[w2.heap.size]? =_):=(hk6.block _ (by omega) (HNT4.out _ (by omega) (by omega) (by omega))).trans ((HKE.out.block _ (by omega) id).trans HB4.out)
  have HKw6:Hid (Kept (fun j=>j=bd) w w6):=(HKw4.out.trans HKE.out fE).trans hk6 (fun j hj=>by
   rcases hj with h|h
   ·exact .inl h
   ·rcases HT4.out j h with h|h
    ·exact .inr (by omega)
    ·exact .inr (by omega))
  have hz6:=hk6.size
  clear hc6 hT6 hk6
  have p0:w6.cell? ⟨w2.heap.size,0,none⟩=some (.int .i64 (tree:Int)):=cR HB6.out rfl
  have p1:w6.cell? ⟨w2.heap.size,1,none⟩=some (.int .i64 (n:Int)):=cR HB6.out rfl
  have pf:=frozen_of_row w6 w2.heap.size 0 _ _ HB6.out
  go_wp2_with fail
  have HK7:Hid (Kept (fun j=>j=w2.heap.size) w6 (w6.setCell ⟨w2.heap.size,0,none⟩ (.int .i64 (root':Int)))):=Kept.setCell (S:=fun j=>j=w2.heap.size) w6 ⟨w2.heap.size,0,none⟩ _ rfl
  generalize (w6.setCell ⟨w2.heap.size,0,none⟩ (.int .i64 (root':Int)))=W7 at*
  have hz7:=HK7.out.size
  have HC7:Hid (Cw W7 (w.heap.size+1) bd S T6 {D with reads:=D.reads+k2+n4+n6} C2):=HC6.out.kept HK7.out (fun j hj e0=>by have:=HSL.out j hj;omega) (fun j hj e0=>by
   rcases HT6.out j hj with h|h<;>omega)
  have HKw7:Hid (Kept (fun j=>j=bd) w W7):=HKw6.out.trans HK7.out (fun j hj=>.inr (by omega))
  have hfl:=(js (ps.map zq.at_) C1 m1 HR.out.cln (fun j hj=>by obtain⟨q,hq,rfl⟩:=List.mem_map.1 hj;exact HR.out.range q hq)).2.2
  rw [HR.out.free,List.length_map] at hfl
  have h3:=HR.out.three
  clear p0 p1 pf
  refine(kJ W7 (w.heap.size+1) bd S T6 _ C2 HC7.out root' n HR.out.lt (by omega) (by simp only at hfl;omega)).mono ?_
  rintro x w8 ⟨rfl,⟨T8,hc8,hT8⟩,hk8⟩
  have HFT:Hid ((C2.put 1 (zl (zp root' n))).full=false∧(C2.put 1 (zl (zp root' n))).ws.length≤18∧∀k∈(C2.put 1 (zl (zp root' n))).keys,k<D.bs.length):=⟨HR.out.full,HR.out.fits,HR.out.keys⟩
  generalize hC3:C2.put 1 (zl (zp root' n))=C3 at*
  have HC3:Hid (C2.put 1 (zl (zp root' n))=C3):=hC3
  have HC8:Hid (Cw w8 (w.heap.size+1) bd S T8 {D with reads:=D.reads+k2+n4+n6} C3):=hc8
  have HKw8:Hid (Kept (fun j=>j=bd) w w8):=HKw7.out.trans hk8 (fun j hj=>by
   rcases HT6.out j hj with h|h
   ·exact .inr (by omega)
   ·exact .inr (by omega))
  clear hc8 hT8 hk8 hC3 hfl
  have HCM:Hid (Calls Tryz.prog 78 #[.pointer (some ⟨bs,0,none⟩),.pointer (some ⟨w.heap.size+1,0,none⟩)] w8 fun e w'=>∃c,e=.returned (.int .i64 c)∧di w8 w' bs bd k S (zX {D with reads:=D.reads+k2+n4+n6} C3.ws) c):=
   fB w8 bs (w.heap.size+1) bd k S T8 {D with reads:=D.reads+k2+n4+n6} C3 HC8.out (HS.out.kept HKw8.out (fun e=>hn (by rw [show bs=bd from e];exact HD.out.bdS))) hn (by have:=HFT.out.2.1;rw [HFT.out.1,Bool.false_or,decide_eq_false_iff_not];omega) (fun q hq=>by have:=HFT.out.2.2 q.1 (List.mem_map.2 ⟨q,hq,rfl⟩);omega) HFU.out (by show D.ps.length≤_;rw [HPS0.out];simp)
  go_wp2_with fail
  refine HCM.out.mono ?_
  rintro x w9 ⟨c9,rfl,ho9⟩
  have HO9:Hid _:=ho9
  clear ho9
  go_wp2
  refine bodyPost_ret (results_tmp rfl _ _ _) rfl ⟨k2+n4+n6,by omega,by omega,.inr ⟨rfl,c9,rfl,?_⟩⟩
  have hcm:=HO9.out
  rw [HC3.out,show ({D with reads:=D.reads+(k2+n4+n6)}:Dk)={D with reads:=D.reads+k2+n4+n6} by rw [Int.add_assoc k2 n4 n6,Int.add_assoc (D.reads+k2) n4 n6,Int.add_assoc D.reads k2]]
  exact⟨hcm.code,hcm.sto,by obtain⟨S8,h1,h2⟩:=hcm.disk;exact⟨S8,h1,fun j hj=>(h2 j hj).imp id (fun h=>by have:=HKw8.out.size;omega)⟩,(HKw8.out.mono (fun j hj=>.inl (by rw [show j=bd from hj];exact HD.out.bdS))).trans hcm.kept iL⟩
end prog
namespace prog
open Go.ChangeShapes Go.WideShapes Go.ChangeAt Go.RowKit disk ref
open Go.MuLone
open law (qe zc zR jI ym)
open keys (ze zd zr zn zu)
theorem YT(w:World)(bs:Nat)(q:Option Nat)(hs:zK w bs 0 q)(key:ByteArray)(num:Int)(hk:key.size≤maxLen)(hkey:zu key.data.toList=false):
 Calls Tryz.prog 31 #[.pointer (some ⟨bs,0,none⟩),.string key,.int .i64 num] w fun e w'=>e=.returned (.int .i64 2)∧zK w' bs 0 q∧Kept (fun k=>k=bs) w w':=by
 have HS:Hid _:=hs
 have HKY:Hid (zu key.data.toList=false):=hkey
 clear hs hkey
 go_enter_defers Tryz.func31,Tryz.ntmps31
 go_wp2_with (first
  |(go_at_call 47;refine(qS HS.out).mono ?_;rintro e w1 ⟨rfl,hs1,hk1⟩;have HS1:Hid _:=hs1;have HK1:Hid (Kept (fun k=>k=bs) w w1):=hk1;clear hs1 hk1)
  |(go_at_call 49;refine(keys.qW key w1 hk).mono ?_;rintro e w2 ⟨rfl,hw2⟩;rw [hw2,HKY.out];clear hw2 w2))
 refine leaves_cons (f:= 48) (args:=#[.pointer (some ⟨bs,0,none⟩)]) (by simp) (by simp [go_sem]) ?_
 refine(qR HS1.out).mono ?_
 rintro e u' w2 ⟨rfl,rfl,hs2,hk2⟩
 exact⟨_,results_tmp Tryz.results31 _ _ _,rfl,hs2,HK1.out.trans hk2 iL⟩
theorem Kk(w:World)(bs:Nat)(hs:zK w bs 0 none)(key:ByteArray)(num:Int)(hk:key.size≤maxLen)(hkey:zu key.data.toList=true):
 Calls Tryz.prog 31 #[.pointer (some ⟨bs,0,none⟩),.string key,.int .i64 num] w fun e w'=>e=.returned (.int .i64 8)∧zK w' bs 0 none∧Kept (fun k=>k=bs) w w':=by
 have HS:Hid _:=hs
 have HKY:Hid (zu key.data.toList=true):=hkey
 clear hs hkey
 go_enter_defers Tryz.func31,Tryz.ntmps31
 go_wp2_with (first
  |(go_at_call 47;refine(qS HS.out).mono ?_;rintro e w1 ⟨rfl,hs1,hk1⟩;have HS1:Hid _:=hs1;have HK1:Hid (Kept (fun k=>k=bs) w w1):=hk1;have c2:w1.cell? ⟨bs,2,none⟩=some (.pointer none):=hs1.c2;clear hs1 hk1)
  |(go_at_call 49;refine(keys.qW key w1 hk).mono ?_;rintro e w2 ⟨rfl,hw2⟩;rw [hw2,HKY.out];clear hw2 w2))
 refine leaves_cons (f:= 48) (args:=#[.pointer (some ⟨bs,0,none⟩)]) (by simp) (by simp [go_sem]) ?_
 refine(qR HS1.out).mono ?_
 rintro e u' w2 ⟨rfl,rfl,hs2,hk2⟩
 exact⟨_,results_tmp Tryz.results31 _ _ _,rfl,hs2,HK1.out.trans hk2 iL⟩
theorem KS(w:World)(bs bd:Nat)(S:Nat→Prop)(D:Dk)(hs:zK w bs 0 (some bd))(hd:zh w bd S D)(hn:¬S bs)(key:ByteArray)(num:Int)(hk:key.size≤maxLen)(hkey:zu key.data.toList=true)(Q:Int→Dk→Option Nat→Prop)
 (hrem:∀w':World,zK w' bs 1 (some bd)→zh w' bd S D→Calls Tryz.prog 53 #[.pointer (some ⟨bs,0,none⟩),.agg #[.string key,.int .i64 num]] w' fun e w''=>∃c D' q,e=.returned (.int .i64 c)∧uv w' w'' bs bd S D' 1 q∧Q c D' q):
 Calls Tryz.prog 31 #[.pointer (some ⟨bs,0,none⟩),.string key,.int .i64 num] w fun e w'=>∃c D' q,e=.returned (.int .i64 c)∧Q c D' q∧uv w w' bs bd S D' 0 q:=by
 have HS:Hid _:=hs
 have HD:Hid (zh w bd S D):=hd
 have HKY:Hid (zu key.data.toList=true):=hkey
 have HN:Hid (∀j,S j→j≠bs):=fun j hj e=>hn (by rw [←e];exact hj)
 have HREM:Hid (∀w':World,zK w' bs 1 (some bd)→zh w' bd S D→Calls Tryz.prog 53 #[.pointer (some ⟨bs,0,none⟩),.agg #[.string key,.int .i64 num]] w' fun e w''=>∃c D' q,e=.returned (.int .i64 c)∧uv w' w'' bs bd S D' 1 q∧Q c D' q):=hrem
 have hbs':=hs.lt
 clear hs hd hkey hrem
 go_enter_defers Tryz.func31,Tryz.ntmps31
 go_wp2_with (first
  |(go_at_call 47;refine(qS HS.out).mono ?_;rintro e w1 ⟨rfl,hs1,hk1⟩;have HS1:Hid (zK w1 bs 1 (some bd)):=hs1;have HK1:Hid (Kept (fun k=>k=bs) w w1):=hk1;have c2:w1.cell? ⟨bs,2,none⟩=some (.pointer (some ⟨bd,0,none⟩)):=hs1.c2;clear hs1 hk1)
  |(go_at_call 49;refine(keys.qW key w1 hk).mono ?_;rintro e w2 ⟨rfl,hw2⟩;rw [hw2,HKY.out];clear hw2 w2)
  |(go_at_call 53;refine(HREM.out _ (by exact HS1.out) (by exact HD.out.kept HK1.out HN.out)).mono ?_;rintro e w3 ⟨c,D',q,rfl,ho3,hq3⟩;have HO3:Hid (uv w1 w3 bs bd S D' 1 q):=ho3;have HQ3:PLift (Q c D' q):=⟨hq3⟩;clear ho3 hq3))
 refine leaves_cons (f:= 48) (args:=#[.pointer (some ⟨bs,0,none⟩)]) (by simp) (by simp [go_sem]) ?_
 obtain⟨hst3,⟨S',hd3,hS3⟩,hk3⟩:=HO3.out
 refine(qR hst3).mono ?_
 rintro e u' w4 ⟨rfl,rfl,hs4,hk4⟩
 have hz:=HK1.out.size
 refine⟨_,results_tmp Tryz.results31 _ _ _,c,D',q,rfl,HQ3.down,hs4,⟨S',hd3.kept hk4 (fun j hj e0=>?_),fun j hj=>?_⟩,?_⟩
 ·rcases hS3 j hj with h1|h1
  ·exact hn (by rw [←show j=bs from e0];exact h1)
  ·have h2:j=bs:=e0;omega
 ·rcases hS3 j hj with h1|h1
  ·exact .inl h1
  ·exact .inr (by omega)
 ·exact((HK1.out.mono (S':=fun k=>S k∨k=bs) (fun _ h=>.inr h)).trans hk3 iL).trans hk4 (fun _ h=>.inl (.inr h))
end prog
end Go.Proofs.YtcoengihaobddaaGreatDoor
