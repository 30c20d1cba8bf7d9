/- Part 26 of 36 of a proof: Fall2, Fall3, Add2, Put1, Open1, At2, Fre1, Fre2, Rem1 -/
import Derived.Test.YtcoengihaobddaaGreatDoorJb25
import Derived.Test.YtcoengihaobddaaGreatDoorJb06
set_option maxHeartbeats 8000000
set_option linter.unusedVariables false
set_option linter.unusedSimpArgs false
set_option maxRecDepth 8000
namespace Go.Proofs.YtcoengihaobddaaGreatDoor
open Go.ChangeShapes Go.WideShapes Go.ChangeAt Go.RowKit disk ref
namespace prog
open book (xf)
open keys (zh zd zx zq)
def Gq(bc bd:Nat)(l:Value):Nat->Value
 |0=>.pointer (some ⟨bc,0,none⟩)
 |1=>.pointer (some ⟨bc,0,none⟩)
 |2=>.pointer (some ⟨bc,0,none⟩)
 |3=>.pointer (some ⟨bd,0,none⟩)
 |4=>.pointer (some ⟨bc,0,none⟩)
 |5=>.pointer (some ⟨bc,0,none⟩)
 |6=>.pointer (some ⟨bc,1,none⟩)
 |_=>l
structure U5 (w:World) (bd:Nat) (S:Nat->Prop) (D1:Dk) (Z:Nat->Value) (L:Nat->Bool) (x:Nat->Value) (w':World):Prop where
 pv:∀i,i<8->L i=true->x i=Z i
 fv:∀i,(i=8\/i=9\/i=19)->L i=true->x i=.bool false
 early:L 8=false->za (λ_=>False) w w'
 dep:L 8=true->L 3=true/\L 7=true
 late:L 8=true->qZ w w' bd S D1
section
variable {w w' w2:World} {bd:Nat} {S:Nat->Prop} {D1:Dk} {Z:Nat->Value} {L:Nat->Bool} {x:Nat->Value}
theorem U5.l8(h:U5 w bd S D1 Z L x w'){i:Nat}(c:L i=false)(d:i=3\/i=7:=by decide):L 8=false:=by
 cases e:L 8 with
 |false=>rfl
 |true=>
  obtain⟨a,b⟩:=h.dep e;rcases d with rfl|rfl<;>first|cases a.symm.trans c|cases b.symm.trans c
theorem U5.upd(h:U5 w bd S D1 Z L x w')(i:Nat)(v:Value)(d:i≠8)(f:i<8->v=Z i)(h2:(i=9\/i=19)->v=.bool false):U5 w bd S D1 Z (λj=>decide (j=i)||L j) (λj=>if j=i then v else x j) w':=by
 have c:(decide (8=i)||L 8)=L 8:=by simp [iw d]
 refine⟨λj b a=>?_,λj b a=>?_,λa=>h.early (by simpa [c] using a),λa=>?_,λa=>h.late (by simpa [c] using a)⟩
 .by_cases e:j=i;.subst e;simp [f b]
  .simp only [e,if_false];exact h.pv j b (by simpa [e] using a)
 .by_cases e:j=i;.subst e;simp [h2 (b.resolve_left d)]
  .simp only [e,if_false];exact h.fv j b (by simpa [e] using a)
 .have:=h.dep (by simpa [c] using a);simp [this]
theorem U5.call(h:U5 w bd S D1 Z L x w')(d:L 3=true/\L 7=true)(c:qZ w w2 bd S D1):U5 w bd S D1 Z (λj=>decide (j=8)||L j) (λj=>if j=8 then .bool false else x j) w2:=by
 refine⟨λj b a=>?_,λj b a=>?_,λa=>by simp at a,λ_=>by simp [d],λ_=>c⟩
 .have e:j≠8:=by omega
  simp only [e,if_false];exact h.pv j b (by simpa [e] using a)
 .by_cases e:j=8;.subst e;simp
  .simp only [e,if_false];exact h.fv j b (by simpa [e] using a)
end
set_option maxRecDepth 60000 in
theorem Yt(w:World)(g bd:Nat)(S T:Nat->Prop)(D:Dk)(C:Ck)(h:Cw w g bd S T D C)(t:∀p∈C.ws,p.1<65536)(s:C.ws.length<=18)(v:zD D.fuse)(Z:D.ps.length<=17179869184)(z:(qM D C.ws).1=false):
 Calls Tryz.prog 140 #[.pointer (some ⟨g,0,none⟩)] w λe w'=>e=.returned (.bool false)/\qZ w w' bd S (qM D C.ws).2:=by
 have P:Hid _:=h;obtain⟨a,cap,l⟩:=h.chg;have U:Hid (uX w T a C.ws):=l.rows t;have X:Hid (∀k,T k->k<w.heap.size):=l.lt;have q:=l.lt g l.bcT;have O:Hid (∀k,S k->¬T k):=h.apart;have m:∀d,za (λ_=>False) w d->d.cell? ⟨g,0,none⟩=some (.pointer (some ⟨bd,0,none⟩))/\d.cell? ⟨g,1,none⟩=some (.slice a C.ws.length cap):=λd k=>⟨(k.cell (a:=⟨g,0,none⟩) q id).trans l.c0,(k.cell (a:=⟨g,1,none⟩) q id).trans l.c1⟩;have A:Hid (∀d,za (λ_=>False) w d->d.cell? ⟨g,0,none⟩=some (.pointer (some ⟨bd,0,none⟩))/\d.cell? ⟨g,1,none⟩=some (.slice a C.ws.length cap)):=m;have Y:Hid ((qM D C.ws).1=false):=z;clear h l m z;go_enter Tryz.func140,Tryz.ntmps140;go_wp2;refine xf (by kernel_rfl) (by kernel_rfl) (λL u d=>∃x:Nat->Value,u={tmps:=#[.pointer (some ⟨g,0,none⟩),undef,.bool false,x 0,x 1,x 2,x 3,x 4,x 5,x 6,x 7,x 8,x 9,x 10,x 11,x 12,x 13,x 14,x 15,x 16,x 17,x 18,x 19],defers:=[]}/\U5 w bd S (qM D C.ws).2 (Gq g bd (.slice a C.ws.length cap)) L x d) ?_ ?_ ?_;.exact⟨λ_=>undef,rfl,⟨λ_ _ h=>(nomatch h),λ_ _ h=>(nomatch h),λ_=>za.drew _ w,λh=>(nomatch h),λh=>(nomatch h)⟩⟩
 .rintro L u d i ad G o c ⟨x,rfl,b⟩;have ab:i<21:=(lT G);rcases (by omega:(i=10\/i=11\/i=12\/i=13\/i=14\/i=15\/i=16\/i=17\/i=18)\/(i=0\/i=1\/i=2\/i=4\/i=5\/i=6)\/(i=3\/i=7)\/i=8\/i=9\/i=19\/i=20) with(rfl|rfl|rfl|rfl|rfl|rfl|rfl|rfl|rfl)|(rfl|rfl|rfl|rfl|rfl|rfl)|(rfl|rfl)|rfl|rfl|rfl|rfl;all_goals (have E:=eG G;subst E)
  iterate 9
   .have e:=b.fv 9 (by decide) (c ⟨9,.guard⟩ (by simp) rfl);refine wpOp_step rfl (λn f=>?_);simp only [e];rw [aw (by simp [Region.wanted,yielded])];exact f _ _ ⟨_,(by simp [e,Act.put]),b.upd _ undef (by decide) (λh=>by omega) (λh=>by omega)⟩
  iterate 6
   .first|have e:=b.pv 0 (by decide) (c ⟨0,.data⟩ ⟨.head _⟩ rfl)|have e:=b.pv 1 (by decide) (c ⟨1,.data⟩ ⟨.head _⟩ rfl)|have e:=b.pv 4 (by decide) (c ⟨4,.data⟩ ⟨.head _⟩ rfl)|have e:=b.pv 5 (by decide) (c ⟨5,.data⟩ ⟨.head _⟩ rfl)|have e:=b
    (try simp only [Gq] at e)
    refine wpOp_step rfl (λn f=>?_)
    (try simp only [e])
    go_simp;exact f _ _ ⟨_,(by first|simp [Gq,e]|simp [Gq]),b.upd _ (Gq g bd (.slice a C.ws.length cap) _) (by decide) (λ_=>rfl) (λ_=>by omega)⟩
  iterate 2
   .obtain⟨ac,aa⟩:=A.out d (b.early (b.l8 o))
    first|have e:=b.pv 2 (by decide) (c ⟨2,.data⟩ ⟨.head _⟩ rfl)|have e:=b.pv 6 (by decide) (c ⟨6,.data⟩ ⟨.head _⟩ rfl)
    simp only [Gq] at e;refine wpOp_step rfl (λn f=>?_);simp only [e];go_simp;exact f _ _ ⟨_,(by simp [Gq,e]),b.upd _ (Gq g bd (.slice a C.ws.length cap) _) (by decide) (λ_=>rfl) (λ_=>by omega)⟩
  .have F:L 3=true:=c ⟨3,.data⟩ (by simp) rfl;have K:x 3=.pointer (some ⟨bd,0,none⟩):=b.pv 3 (by omega) F;have M:L 7=true:=c ⟨7,.data⟩ (by simp) rfl;have B:x 7=.slice a C.ws.length cap:=b.pv 7 (by omega) M;refine wpOp_step rfl (λn f=>?_);simp only [K,B];go_simp;have k1:=b.early o;refine(Yn d bd S T D (P.out.disk.kept k1 nF) a cap C.ws (U.out.kept k1 nF) O.out (λk R=>ay (X.out k R) k1.size) v (by omega) s).mono ?_;rintro e w2 ⟨rfl,H⟩;rw [Y.out];exact f _ _ ⟨λj=>if j=8 then .bool false else x j,by simp [K,B],b.call ⟨F,M⟩ (qZ.kept0 k1 H)⟩
  .have W:L 8=true:=c ⟨8,.data⟩ (by simp) rfl;have I:x 8=.bool false:=b.fv 8 (by omega) W;refine wpOp_step rfl (λn f=>?_);simp only [I];go_simp;exact f _ _ ⟨λj=>if j=9 then .bool false else x j,by simp [I],b.upd 9 _ (by omega) (λ_=>by omega) (λ_=>rfl)⟩
  .have Q:L 9=true:=c ⟨9,.data⟩ (by simp) rfl;have J:x 9=.bool false:=b.fv 9 (by omega) Q;refine wpOp_step rfl (λn f=>?_);simp only [J];go_simp;exact f _ _ ⟨λj=>if j=19 then .bool false else x j,by simp [J],b.upd 19 _ (by omega) (λ_=>by omega) (λ_=>rfl)⟩
  .have N:L 19=true:=c ⟨19,.data⟩ (by simp) rfl;have r:x 19=.bool false:=b.fv 19 (by omega) N;refine wpOp_step rfl (λn f=>?_);simp only [r];go_simp;exact f _ _ ⟨λj=>if j=20 then undef else x j,by simp [r],b.upd 20 _ (by omega) (λh=>by omega) (λh=>by omega)⟩
 .rintro L u d o ⟨x,rfl,b⟩;have V:=o 8 (by decide);have y:Hid (qZ w d bd S (qM D C.ws).2):=b.late V;clear b;go_wp2;go_ret;exact⟨rfl,y.out⟩
end prog
namespace prog
open keys (zh zd zx zq zp)
theorem ZX(w:World)(c bd:Nat)(S T:Nat->Prop)(D:Dk)(C:Ck)(h:Cw w c bd S T D C)(b:∀p∈C.ws,p.1<65536)(a:C.ws.length<=18)(f:zD D.fuse)(g:D.ps.length<=17179869184):
 Calls Tryz.prog 140 #[.pointer (some ⟨c,0,none⟩)] w λe w'=>e=.returned (.bool (qj D C.ws).1)/\qZ w w' bd S (qj D C.ws).2:=by
 cases d:(qM D C.ws).1 with
 |true=>exact Yp w c bd S T D C h b a f g d
 |false=>
  have e:qj D C.ws=qM D C.ws:=aw (by rw [d];simp);rw [e,d];exact Yt w c bd S T D C h b a f g d
structure cB (w w':World) (bs bd:Nat) (k:Int) (S:Nat->Prop) (r:Bool×Dk) (c:Int):Prop where
 code:c=if r.1=true then 0 else 7
 sto:zu w' bs k (if r.1=true then some bd else none)
 disk:∃S',zg w' bd S' r.2/\∀j,S' j->S j\/w.heap.size<=j
 kept:za (λj=>S j\/j=bs) w w'
theorem bz(w:World)(bs l bd:Nat)(k:Int)(S T:Nat->Prop)(D:Dk)(C:Ck)(h:Cw w l bd S T D C)(o:zu w bs k (some bd))(s:¬S bs)(q:(C.full||decide (18<C.ws.length))=false)(m:∀p∈C.ws,p.1<65536)(x:zD D.fuse)(z:D.ps.length<=17179869184):
 Calls Tryz.prog 78 #[.pointer (some ⟨bs,0,none⟩),.pointer (some ⟨l,0,none⟩)] w λe w'=>∃c,e=.returned (.int .i64 c)/\cB w w' bs bd k S (qj D C.ws) c:=by
 have y:Hid _:=h
 have t:C.ws.length<=18:=by simp only [lg,decide_eq_false_iff_not] at q;omega
 have n:Hid (¬S bs):=s;have hbs:=o.lt;have u:Hid (Calls Tryz.prog 140 #[.pointer (some ⟨l,0,none⟩)] w λe w'=>e=.returned (.bool (qj D C.ws).1)/\qZ w w' bd S (qj D C.ws).2):=ZX w l bd S T D C h m t x z;change Hid _ at q o;clear h m t s;generalize qj D C.ws=H at*;obtain⟨b,D'⟩:=H
 cases b with
 |true=>
  go_enter Tryz.func78,Tryz.ntmps78
  go_wp2_with (first
   |(go_at_call 139;refine(dP w l bd T C y.chg).mono ?_;rintro e i ⟨rfl,g⟩;rw [g,q.out];clear g i)
   |(go_at_call 140;refine u.mono ?_;rintro e i ⟨rfl,f⟩;have d:Hid (qZ w i bd S D'):=f;clear f))
  go_ret;exact⟨0,rfl,rfl,o.kept d.kept n,d.disk,d.kept.mono iL⟩
 |false=>
  go_enter Tryz.func78,Tryz.ntmps78
  go_wp2_with (first
   |(go_at_call 139;refine(dP w l bd T C y.chg).mono ?_;rintro e i ⟨rfl,g⟩;rw [g,q.out];clear g i)
   |(go_at_call 140;refine u.mono ?_;rintro e i ⟨rfl,f⟩;have d:Hid _:=f;have a:=o.kept f.kept n.out;have G:=a.c2;have F:=a.fz 2;have B:=a.lt;change Hid _ at a;clear f))
  go_ret;have k2:=za.setCell (S:=λj=>j=bs) i ⟨bs,2,none⟩ (.pointer none) rfl;obtain⟨S1,A,r⟩:=d.disk;refine⟨7,rfl,rfl,⟨?_⟩,⟨S1,A.kept k2 (λj v e=>?_),r⟩,(d.kept.mono iL).trans k2 (λj v=>.inl (.inr v))⟩;.exact heap_setCell_same i bs 2 _ _ (.pointer none) a.at_
  .have E:j=bs:=e;subst E;rcases r j v with h|h;.exact n h
   .omega
end prog
namespace prog
open Go.MuLone
open keys (zh zd zx zq zp)
theorem JA(w:World)(bs bd:Nat)(S:Nat->Prop)(D:Dk)(k:Int)(aO:zu w bs k (some bd))(aQ:zg w bd S D)(cl:¬S bs)(b4:0<=D.reads)(cQ:D.reads<=4611686018427350000)(bo:D.ps=[])(bh:zD D.fuse)(cH:64<=D.bs.length)(bJ:D.bs.length<=1000)
 (q n:Nat) (ak:qT (D.look 1) q n) (cN:n<4611686018427387904) (m:List UInt8) (bK:qF (D.look 2) m) (s:ByteArray) (g:Bool) (P:Nat->Prop) (a:Option Addr) (cap:Nat) (l:List UInt8) (bu:zO w P a l) (bj:∀j,P j->¬S j/\j≠bs) (cx:l.length<=300) (ch:l.length<=cap) (ca:cap<=9223372036854775807)
 (a1:List En) (al:List Nat) (f:Nat) (O:Ck) (aj:List UInt8) (U:fZ.body D.bs.length m (zV l)=(f,O,aj)) (bW:List Nat) (aC:Jv D fZ O m aj f (zV l) bW) (cb:(⟨⟨s,(n:Int)+1⟩,g,l.length,f⟩:En).Ok) (ap:¬(⟨s,(n:Int)+1⟩:Pl).lt ye=true)
 (hF:qY (λj=>O.look D (j:Nat)) q a1 al) (bv:al.Nodup) (br:∀j∈al,21<=j/\zT aj (j-21)=true) (cf:al.length<=979) (aZ:∀j∈al,j<D.bs.length) (aS:∀x∈a1,¬x.pl.lt ye=true) (bp:∀x∈a1,x.pl≠⟨s,(n:Int)+1⟩):
 Calls Tryz.prog 52 #[.pointer (some ⟨bs,0,none⟩),.string s,.slice a l.length cap,.bool g] w λe w'=>∃b E aX aT ba,dn D O E aj aX b ⟨⟨s,(n:Int)+1⟩,g,l.length,f⟩ a1 al aT ba/\∃bg:Int,0<=bg/\bg<=19/\
  ((((E.put 1 (zl (zw b (n+1)))).full||decide (18<(E.put 1 (zl (zw b (n+1)))).ws.length))=true/\e=.returned (.tuple #[.int .i64 0,.int .i64 6])/\zg w' bd S {D with reads:=D.reads+bg}/\za (λj=>j=bd) w w')\/
   (((E.put 1 (zl (zw b (n+1)))).full||decide (18<(E.put 1 (zl (zw b (n+1)))).ws.length))=false/\∃v c,e=.returned (.tuple #[.int .i64 v,.int .i64 c])/\(c=0->v=(n:Int)+1)/\(c≠0->v=0)/\(∀p∈(E.put 1 (zl (zw b (n+1)))).ws,p.1<D.bs.length)/\cB w w' bs bd k S (qj {D with reads:=D.reads+bg} (E.put 1 (zl (zw b (n+1)))).ws) c)):=by
 have aL:Hid (zg w bd S D):=aQ;have cs:Hid _:=ak;have bR:Hid (zO w P a l):=bu;have bm:Hid (∀j,P j->¬S j/\j≠bs):=bj;have cr:=aO.c2;have ce:=aQ.lt bd aQ.bdS;have ar:Hid (∀j,S j->j<w.heap.size):=aQ.lt;have hbs:=aO.lt;change Hid _ at aO bK U aC hF cb ap bv br aS bp aZ bo bh;clear aQ ak bu bj;go_enter Tryz.func52,Tryz.ntmps52;go_wp2_with fail;refine(cV w bd ce).mono ?_;rintro e bF ⟨rfl,aY,aR⟩;have bC:Hid (Cw bF w.heap.size bd S (λj=>j=w.heap.size) D fZ):=⟨aL.kept aR nF,aY,λj o cS=>by have:=ar.out j o;omega⟩;change Hid _ at aR;clear aY cr;go_wp2_with fail;refine(Zd bF w.heap.size bd S _ D fZ bC b4 (by omega) q n (by rw [yE];exact cs)).mono ?_;rintro e w2 ⟨rfl,⟨k2,cp,cu,bc⟩,aI⟩;have cP:=aI.size;change Hid _ at bc aI;go_wp2_with fail;have ao:Hid ((w2.alloc (.cells #[.int .i64 (q:Int),.int .i64 ((n:Int)+1)] 145)).heap[w2.heap.size]? =some (.cells #[.int .i64 (q:Int),.int .i64 ((n:Int)+1)] 145 (0,0))):=ac w2 _;have aJ:Hid (za (λ_=>False) w2 (w2.alloc (.cells #[.int .i64 (q:Int),.int .i64 ((n:Int)+1)] 145))):=za.alloc _ _ _;have H:(w2.alloc (.cells #[.int .i64 (q:Int),.int .i64 ((n:Int)+1)] 145)).heap.size=w2.heap.size+1:=by simp
 generalize (w2.alloc (.cells #[.int .i64 (q:Int),.int .i64 ((n:Int)+1)] 145))=t at*;have cL:w.heap.size<bF.heap.size:=bC.chg.lt _ rfl;have W:Hid (za (λi=>i=bd) w t):=((aR.mono fE).trans aI iL).trans aJ fE;have aK:Hid (zO t (λj=>P j/\j<w.heap.size) a l):=(bR.mono (λi aG h2=>⟨aG,h2⟩)).kept W (λj o K=>(bm j o.1).1 (by rw [K];exact aL.bdS))
 have Q:Hid (∀u,za (λ_=>False) t u->Calls Tryz.prog 75 #[.pointer (some ⟨w.heap.size,0,none⟩),.slice a l.length cap] u λe w'=>e=.returned (.int .i64 (f:Int))/\(∃(n:Int) (b0:Nat->Prop),0<=n/\n<=3/\Cw w' w.heap.size bd S b0 {D with reads:=D.reads+k2+n} O/\∀j,b0 j->j=w.heap.size\/u.heap.size<=j)/\za (λj=>j=bd\/j=w.heap.size) u w'):=λu cm=>
  XM u w.heap.size bd S (λj=>j=w.heap.size) {D with reads:=D.reads+k2} fZ ((bc.kept0 aJ).kept0 cm) m (by rw [yE];exact bK) (by show 0<=D.reads+k2;omega) (by show D.reads+k2<=_;omega) (λj=>P j/\j<w.heap.size) a cap l (aK.kept cm nF) (λj o K=>by omega) (λj o K=>(bm j o.1).1 (by rw [K];exact aL.bdS)) cx ch ca bJ (by show 0<600;omega) f O aj U.out
 have a8:Hid (za (λ_=>False) t (t.alloc (.cells #[.string ⟨#[]⟩,.int .i64 0,.bool false,.int .i64 0,.int .i64 0] 109)).drew):=(za.alloc _ _ _).trans (za.drew _ _) iL;have aM:(t.alloc (.cells #[.string ⟨#[]⟩,.int .i64 0,.bool false,.int .i64 0,.int .i64 0] 109)).heap.size=t.heap.size+1:=by simp
 have bH:=aM;have bU:t.drew.heap.size=t.heap.size:=rfl;have cC:t.cell? ⟨w2.heap.size,1,none⟩=some (.int .i64 ((n:Int)+1)):=cR ao.out rfl;have ci:¬w2.heap.size=t.heap.size:=by omega
 have bN:¬t.heap.size=w2.heap.size:=by omega
 have a0:Hid (∀j,w2.heap.size<=j->¬(j=bd\/j=w.heap.size)):=λj o bf=>by omega
 have ay:Hid _:=H;clear H
 go_region_held3 (λw'=>w'.cell? ⟨w2.heap.size,1,none⟩=some (.int .i64 ((n:Int)+1))) (go_keep) ((go_at_call 75;have H:=ay.out;first
  |(refine(Q t.drew (za.drew (λ_=>False) t)).mono ?_;rintro r d ⟨rfl,⟨A,aE,bO,bL,ad,ae⟩,F⟩;have R:Hid _:=ad;have ab:Hid _:=ae;have a6:Hid _:=F;have ag:=F.size;have y:Hid _:=((za.drew (λ_=>False) t).mono fE).trans F iL;have N:Hid (d.heap[w2.heap.size]? =some (.cells #[.int .i64 (q:Int),.int .i64 ((n:Int)+1)] 145 (0,0))):=(y.block _ (show w2.heap.size<t.heap.size by omega) (a0 _ (aF _))).trans ao.out;have a4:d.cell? ⟨w2.heap.size,1,none⟩=some (.int .i64 ((n:Int)+1)):=(cR N.out rfl);have a5:¬w2.heap.size=d.heap.size:=(by have:t.heap.size<=d.heap.size:=y.size;omega);clear ad ae F H)
  |(refine(Q (t.alloc (.cells #[.string ⟨#[]⟩,.int .i64 0,.bool false,.int .i64 0,.int .i64 0] 109)).drew a8).mono ?_;rintro r d ⟨rfl,⟨A,aE,bO,bL,ad,ae⟩,F⟩;have R:Hid _:=ad;have ab:Hid _:=ae;have a6:Hid _:=F;have ag:=F.size;have y:Hid _:=((a8).mono fE).trans F iL;have N:Hid (d.heap[w2.heap.size]? =some (.cells #[.int .i64 (q:Int),.int .i64 ((n:Int)+1)] 145 (0,0))):=(y.block _ (show w2.heap.size<t.heap.size by omega) (a0 _ (aF _))).trans ao.out;have a4:d.cell? ⟨w2.heap.size,1,none⟩=some (.int .i64 ((n:Int)+1)):=(cR N.out rfl);have a5:¬w2.heap.size=d.heap.size:=(by have:t.heap.size<=d.heap.size:=y.size;omega);have z:Hid (d.heap[t.heap.size]? =some (.cells #[.string ⟨#[]⟩,.int .i64 0,.bool false,.int .i64 0,.int .i64 0] 109 (0,0))):=(F.block t.heap.size (show t.heap.size<(t.alloc (.cells #[.string ⟨#[]⟩,.int .i64 0,.bool false,.int .i64 0,.int .i64 0] 109)).heap.size by rw [aM];omega) (a0 _ (show w2.heap.size<=t.heap.size by omega))).trans (ac t _);have bP:d.cell? ⟨t.heap.size,0,none⟩=some (.string ⟨#[]⟩):=(cR z.out rfl);have bV:=aa d t.heap.size 0 _ _ z.out;have b2:d.cell? ⟨t.heap.size,1,none⟩=some (.int .i64 0):=(cR z.out rfl);have b9:=aa d t.heap.size 1 _ _ z.out;have cg:d.cell? ⟨t.heap.size,2,none⟩=some (.bool false):=(cR z.out rfl);have b5:=aa d t.heap.size 2 _ _ z.out;have cc:d.cell? ⟨t.heap.size,3,none⟩=some (.int .i64 0):=(cR z.out rfl);have bS:=aa d t.heap.size 3 _ _ z.out;have bX:d.cell? ⟨t.heap.size,4,none⟩=some (.int .i64 0):=(cR z.out rfl);have bY:=aa d t.heap.size 4 _ _ z.out;clear ad ae F H)))
 case' refine_2.refine_3.refine_3.refine_3.refine_3.refine_3.refine_3.refine_3.refine_3.refine_3.refine_1.refine_2.refine_3.refine_1.refine_2.refine_1.refine_2=>
  have H:=ay.out;have bb:=y.size;have T:Hid ((d.alloc (.cells #[.string s,.int .i64 ((n:Int)+1),.bool g,.int .i64 (l.length:Int),.int .i64 (f:Int)] 109)).heap[d.heap.size]? =some (.cells #[.string s,.int .i64 ((n:Int)+1),.bool g,.int .i64 (l.length:Int),.int .i64 (f:Int)] 109 (0,0))):=ac d _;have ai:Hid ((d.alloc (.cells #[.string s,.int .i64 ((n:Int)+1),.bool g,.int .i64 (l.length:Int),.int .i64 (f:Int)] 109)).heap[w2.heap.size]? =some (.cells #[.int .i64 (q:Int),.int .i64 ((n:Int)+1)] 145 (0,0))):=((za.alloc (λ_=>False) d _).block _ (by omega) id).trans N.out;have bk:Hid (Cw (d.alloc (.cells #[.string s,.int .i64 ((n:Int)+1),.bool g,.int .i64 (l.length:Int),.int .i64 (f:Int)] 109)) w.heap.size bd S aE {D with reads:=D.reads+k2+A} O):=R.kept0 (za.alloc _ _ _);have bB:Hid (za (λj=>j=bd) w (d.alloc (.cells #[.string s,.int .i64 ((n:Int)+1),.bool g,.int .i64 (l.length:Int),.int .i64 (f:Int)] 109))):=(W.trans y (λj o=>o.elim .inl (λh=>.inr (by omega)))).trans (za.alloc (λ_=>False) _ _) fE
  have az:Hid (∀j,aE j->w.heap.size<=j/\j≠d.heap.size/\j≠w2.heap.size):=λj o=>by
   have aG:=R.chg.lt j o;rcases ab j o with h2|h2;.omega
   .have b8:t.heap.size<=j:=h2;omega
  have aV:(d.alloc (.cells #[.string s,.int .i64 ((n:Int)+1),.bool g,.int .i64 (l.length:Int),.int .i64 (f:Int)] 109)).heap.size=d.heap.size+1:=by simp
  have bM:w2.heap.size<d.heap.size/\d.heap.size<(d.alloc (.cells #[.string s,.int .i64 ((n:Int)+1),.bool g,.int .i64 (l.length:Int),.int .i64 (f:Int)] 109)).heap.size:=by omega
  clear H bb aV;generalize (d.alloc (.cells #[.string s,.int .i64 ((n:Int)+1),.bool g,.int .i64 (l.length:Int),.int .i64 (f:Int)] 109))=X at*;generalize d.heap.size=aH at*;clear R ab a6 y N a4 a5 ag
 case' refine_2.refine_3.refine_3.refine_3.refine_3.refine_3.refine_3.refine_3.refine_3.refine_3.refine_2.refine_1.refine_2.refine_1.refine_2.refine_3.refine_1.refine_2=>
  have H:=ay.out;have bb:=y.size;obtain⟨bE,af⟩:=kF d t.heap.size 109 _ _ _ _ _ (.string s) (.int .i64 ((n:Int)+1)) (.bool g) (.int .i64 (l.length:Int)) (.int .i64 (f:Int)) z.out;have T:Hid ((((((d.setCell ⟨t.heap.size,0,none⟩ (.string s)).setCell ⟨t.heap.size,1,none⟩ (.int .i64 ((n:Int)+1))).setCell ⟨t.heap.size,2,none⟩ (.bool g)).setCell ⟨t.heap.size,3,none⟩ (.int .i64 (l.length:Int))).setCell ⟨t.heap.size,4,none⟩ (.int .i64 (f:Int))).heap[t.heap.size]? =some (.cells #[.string s,.int .i64 ((n:Int)+1),.bool g,.int .i64 (l.length:Int),.int .i64 (f:Int)] 109 (0,0))):=bE;have ai:Hid ((((((d.setCell ⟨t.heap.size,0,none⟩ (.string s)).setCell ⟨t.heap.size,1,none⟩ (.int .i64 ((n:Int)+1))).setCell ⟨t.heap.size,2,none⟩ (.bool g)).setCell ⟨t.heap.size,3,none⟩ (.int .i64 (l.length:Int))).setCell ⟨t.heap.size,4,none⟩ (.int .i64 (f:Int))).heap[w2.heap.size]? =some (.cells #[.int .i64 (q:Int),.int .i64 ((n:Int)+1)] 145 (0,0))):=(af.block _ (by omega) (by omega)).trans N.out
  have ah:∀j,aE j->w.heap.size<=j/\j≠t.heap.size/\j≠w2.heap.size:=λj o=>by
   rcases ab j o with h2|h2;.omega
   .have b8:(t.alloc (.cells #[.string ⟨#[]⟩,.int .i64 0,.bool false,.int .i64 0,.int .i64 0] 109)).heap.size<=j:=h2;omega
  have az:Hid _:=ah;have bk:Hid _:=R.kept af (λj o K=>by have:=ar.out j o;omega) (λj o K=>(ah j o).2.1 K);have bB:Hid _:=(W.trans y (λj o=>o.elim .inl (λh=>.inr (by omega)))).trans af (λj o=>.inr (by omega));have aV:=af.size
  have bM:w2.heap.size<t.heap.size/\t.heap.size<(((((d.setCell ⟨t.heap.size,0,none⟩ (.string s)).setCell ⟨t.heap.size,1,none⟩ (.int .i64 ((n:Int)+1))).setCell ⟨t.heap.size,2,none⟩ (.bool g)).setCell ⟨t.heap.size,3,none⟩ (.int .i64 (l.length:Int))).setCell ⟨t.heap.size,4,none⟩ (.int .i64 (f:Int))).heap.size:=by have:=(lT z);omega
  clear H bb aV bE af ah;generalize (((((d.setCell ⟨t.heap.size,0,none⟩ (.string s)).setCell ⟨t.heap.size,1,none⟩ (.int .i64 ((n:Int)+1))).setCell ⟨t.heap.size,2,none⟩ (.bool g)).setCell ⟨t.heap.size,3,none⟩ (.int .i64 (l.length:Int))).setCell ⟨t.heap.size,4,none⟩ (.int .i64 (f:Int)))=X at*;clear R ab a6 y N z a4 a5 ag bP b2 cg cc bX bV b9 b5 bS bY;clear Q a8 aM bH bU cC ci bN ay ao aJ W aK;generalize t.heap.size=aH at*
 all_goals
  have cG:X.cell? ⟨w2.heap.size,0,none⟩=some (.int .i64 (q:Int)):=cR ai.out rfl;have K:X.cell? ⟨aH,0,none⟩=some (.string s):=cR T.out rfl;have cq:X.cell? ⟨aH,1,none⟩=some (.int .i64 ((n:Int)+1)):=cR T.out rfl;have cA:X.cell? ⟨aH,2,none⟩=some (.bool g):=cR T.out rfl;have cz:X.cell? ⟨aH,3,none⟩=some (.int .i64 (l.length:Int)):=cR T.out rfl;have cy:X.cell? ⟨aH,4,none⟩=some (.int .i64 (f:Int)):=cR T.out rfl;go_wp2_with fail
 all_goals
  have bD:O.ws.length<500:=by have aG:=bn (C:=fZ) (D:=D) (m:=m) (by rw [yE];exact bK) bJ (zV l) f O aj U.out;have h2:=aG.2.1;have b8:fZ.ws.length=0:=rfl;rw [yS] at h2;omega
  obtain⟨b,E,aX,aT,ba,be,cO⟩:=Yd w.heap.size bd S aE D bJ ⟨⟨s,(n:Int)+1⟩,g,l.length,f⟩ cb ap O aj q a1 al hF bv br cf aC.chn aS bp bD;have bT:=be.lt;have cI:E.ws.length<800:=by have:=be.few;omega
  change Hid _ at be;clear bD;refine(cO.go X (D.reads+k2+A) (by omega) (by omega) bk).mono ?_;clear cO;rintro x u5 ⟨rfl,⟨G,bQ,cF,co,bl,bq⟩,av⟩;have cM:=av.size
  have bw:¬(w2.heap.size=bd\/aE w2.heap.size):=λbf=>by
   rcases bf with h|h;.omega
   .exact(az _ h).2.2 rfl
  have aN:Hid (u5.heap[w2.heap.size]? =some (.cells #[.int .i64 (q:Int),.int .i64 ((n:Int)+1)] 145 (0,0))):=(av.block _ (by omega) bw).trans ai.out;have ct:u5.cell? ⟨w2.heap.size,0,none⟩=some (.int .i64 (q:Int)):=cR aN.out rfl;have cn:u5.frozen? ⟨w2.heap.size,0,none⟩=false:=aa u5 w2.heap.size 0 _ _ aN.out;have aP:Hid ((u5.setCell ⟨w2.heap.size,0,none⟩ (.int .i64 (b:Int))).heap[w2.heap.size]? =some (.cells #[.int .i64 (b:Int),.int .i64 ((n:Int)+1)] 145 (0,0))):=heap_setCell_same u5 w2.heap.size 0 _ _ (.int .i64 (b:Int)) aN.out;have bx:Hid _:=za.setCell (S:=λj=>j=w2.heap.size) u5 ⟨w2.heap.size,0,none⟩ (.int .i64 (b:Int)) rfl;have cw:(u5.setCell ⟨w2.heap.size,0,none⟩ (.int .i64 (b:Int))).cell? ⟨w2.heap.size,0,none⟩=some (.int .i64 (b:Int)):=cR aP.out rfl;have cE:(u5.setCell ⟨w2.heap.size,0,none⟩ (.int .i64 (b:Int))).cell? ⟨w2.heap.size,1,none⟩=some (.int .i64 ((n:Int)+1)):=cR aP.out rfl;have cJ:(u5.setCell ⟨w2.heap.size,0,none⟩ (.int .i64 (b:Int))).heap.size=u5.heap.size:=by simp
  have aA:∀j,bQ j->j≠w2.heap.size/\w.heap.size<=j:=λj o=>by
   rcases bq j o with h|h;.have:=az.out j h;omega
   .omega
  have ck:Hid _:=bl.kept bx (λj o K=>by have:=ar.out j o;omega) (λj o K=>(aA j o).1 K);change Hid _ at bl bq av aA;clear bw K cq cA cz cy cG;go_wp2_with fail
 all_goals
  have ax:((n+1:Nat):Int)=(n:Int)+1:=by omega
  have a3:=vX (u5.setCell ⟨w2.heap.size,0,none⟩ (.int .i64 (b:Int))) w.heap.size bd S bQ {D with reads:=D.reads+k2+A+G} E ck b (n+1) bT (by omega) (by omega);rw [ax] at a3;clear ax cw;generalize (u5.setCell ⟨w2.heap.size,0,none⟩ (.int .i64 (b:Int)))=cU at*;refine a3.mono ?_;clear a3;rintro x u7 ⟨rfl,⟨cd,am,b3⟩,aq⟩;have cK:=aq.size;have bZ:Hid (u7.heap[w2.heap.size]? =some (.cells #[.int .i64 (b:Int),.int .i64 ((n:Int)+1)] 145 (0,0))):=(aq.block _ (by omega) (λbf=>(aA _ bf).1 rfl)).trans aP.out
  have Y:Hid (∀k∈(E.put 1 (zl (zw b (n+1)))).keys,k<D.bs.length):=λk cv=>by
   rcases (xh E 1 _ k).1 cv with h|h
   .rcases be.stp.keys k h with h|h|h|h|h
    .rcases aC.stp.keys k h with h|h|h|h|h;.exact nomatch h
     .exact nomatch h
     .exact(aC.stp.grew.fresh k h).2.1
     .omega
     .omega
    .exact aZ k (be.sub k h)
    .exact(be.stp.grew.fresh k h).2.1
    .omega
    .omega
   .omega
  have bI:Hid _:=(bB.trans av (λj o=>o.elim .inl (λh=>.inr (az j h).1))).trans bx (λj o=>.inr (by omega));have Z:Hid _:=bI.trans aq (λj o=>.inr (aA j o).2);change Hid _ at am b3 aq;clear cE ct cn;generalize an:E.put 1 (zl (zw b (n+1)))=V at*
  cases B:(V.full||decide (18<V.ws.length)) with
  |true=>
   have M:Hid _:=B;have J:Hid _:=an;clear B an;go_wp2_with (go_at_call 78;refine(Ys u7 bs w.heap.size bd cd V am.chg M).mono ?_;rintro x L ⟨rfl,bi⟩;rw [bi];clear bi L);refine bodyPost_ret (results_tmp2 rfl _ _ _) rfl ?_;refine⟨b,E,aX,aT,ba,be,k2+A+G,by omega,by omega,.inl ⟨?_,rfl,?_,Z⟩⟩;.rw [J.out];exact M.out
   .have:=am.disk;rw [a9,a9] at this;rw [a9];exact this
  |false=>
   have M:Hid _:=B;have J:Hid _:=an
   have cj:V.ws.length<=18:=by simp only [lg,decide_eq_false_iff_not] at B;omega
   have bt:Hid (Calls Tryz.prog 78 #[.pointer (some ⟨bs,0,none⟩),.pointer (some ⟨w.heap.size,0,none⟩)] u7 λe w'=>∃c,e=.returned (.int .i64 c)/\cB u7 w' bs bd k S (qj {D with reads:=D.reads+k2+A+G} V.ws) c):=
    bz u7 bs w.heap.size bd k S cd {D with reads:=D.reads+k2+A+G} V am (aO.kept Z (λe=>cl (by rw [show bs=bd from e];exact aL.bdS))) cl B (λp a7=>by have:=Y.out p.1 (au.2 ⟨p,a7,rfl⟩);omega) bh (by show D.ps.length<=_;rw [bo.out];simp)
   have bA:Hid (({D with reads:=D.reads+(k2+A+G)}:Dk)={D with reads:=D.reads+k2+A+G }):=by show ({D with reads:=D.reads+(k2+A+G)}:Dk)=_;rw [a9 k2 A G,a9 (D.reads+k2) A G,a9 D.reads k2]
   clear B an cj;have b7:w2.heap.size<u7.heap.size:=by omega
   have b1:Hid (¬(S w2.heap.size\/w2.heap.size=bs)):=λh=>h.elim (λh=>by have:=ar.out _ h;omega) (λh=>by have:=aO.lt;omega)
   have Q:Hid (∀L c,cB u7 L bs bd k S (qj {D with reads:=D.reads+k2+A+G} V.ws) c->cB w L bs bd k S (qj {D with reads:=D.reads+k2+A+G} V.ws) c):=λL c aD=>
    ⟨aD.code,aD.sto,by obtain⟨cD,aG,h2⟩:=aD.disk;exact⟨cD,aG,λj o=>(h2 j o).imp id (λh=>by have:=Z.size;omega)⟩,(Z.mono (λj o=>.inl (by rw [o];exact aL.bdS))).trans aD.kept iL⟩
   cases ak:(qj {D with reads:=D.reads+k2+A+G} V.ws).1 with
   |true=>
    have aW:Hid _:=ak;clear ak;go_wp2_with (go_at_call 78;refine bt.mono ?_;rintro x L ⟨bG,rfl,I⟩;obtain rfl:bG=0:=(by have a2:=I.code;rw [aB aW.out] at a2;exact a2);have aU:Hid _:=I;have b6:Hid (L.heap[w2.heap.size]? =_):=(I.kept.block _ b7 b1).trans bZ.out;have cT:L.cell? ⟨w2.heap.size,1,none⟩=some (.int .i64 ((n:Int)+1)):=(cR b6.out rfl);clear I);refine bodyPost_ret (results_tmp2 rfl _ _ _) rfl ?_;refine⟨b,E,aX,aT,ba,be,k2+A+G,by omega,by omega,.inr ⟨?_,_,_,rfl,λ_=>rfl,λh=>absurd rfl h,by rw [J.out];exact λp a7=>Y p.1 (au.2 ⟨p,a7,rfl⟩),?_⟩⟩;.rw [J.out];exact M.out
    .rw [J.out,bA.out];exact Q L _ aU.out
   |false=>
    have aW:Hid _:=ak;clear ak;go_wp2_with (go_at_call 78;refine bt.mono ?_;rintro x L ⟨bG,rfl,I⟩;obtain rfl:bG=7:=(by have a2:=I.code;rw [aw (by rw [aW.out];simp)] at a2;exact a2);have aU:Hid _:=I;clear I);refine bodyPost_ret (results_tmp2 rfl _ _ _) rfl ?_;refine⟨b,E,aX,aT,ba,be,k2+A+G,by omega,by omega,.inr ⟨?_,_,_,rfl,λh=>by omega,λ_=>rfl,by rw [J.out];exact λp a7=>Y p.1 (au.2 ⟨p,a7,rfl⟩),?_⟩⟩;.rw [J.out];exact M.out
    .rw [J.out,bA.out];exact Q L _ aU.out
theorem cB.onto{w w':World}{bs bd:Nat}{k:Int}{S:Nat->Prop}{D':Dk}{c:Int}(b:zu w bs k (some bd))(h:cB w w' bs bd k S (true,D') c):c=0/\qZ w w' bd S D':=by
 refine⟨h.code,h.disk,h.kept.os,h.kept.tape,h.kept.output,h.kept.size,λj d f=>?_⟩;by_cases e:j=bs
 .subst e;exact h.sto.at_.trans b.at_.symm
 .exact h.kept.block j d (λa=>a.elim f e)
theorem dj(w:World)(bs bd:Nat)(S:Nat->Prop)(D:Dk)(k:Int)(L:zu w bs k (some bd))(af:zg w bd S D)(an:¬S bs)(ac:0<=D.reads)(aa:D.reads<=4611686018427350000)(C:D.ps=[])(A:D.fuse= -1)(M:64<=D.bs.length)(ag:D.bs.length<=1000)
 (q n:Nat) (aj:qT (D.look 1) q n) (N:n<4611686018427387904) (m:List UInt8) (ai:qF (D.look 2) m) (d:ByteArray) (g:Bool) (P:Nat->Prop) (a:Option Addr) (cap:Nat) (l:List UInt8) (K:zO w P a l) (O:∀j,P j->¬S j/\j≠bs) (al:l.length<=300) (U:l.length<=cap) (V:cap<=9223372036854775807)
 (s:List En) (o:List Nat) (f:Nat) (r:Ck) (t:List UInt8) (u:fZ.body D.bs.length m (zV l)=(f,r,t)) (E:List Nat) (Z:Jv D fZ r m t f (zV l) E) (ak:(⟨⟨d,(n:Int)+1⟩,g,l.length,f⟩:En).Ok) (z:¬(⟨d,(n:Int)+1⟩:Pl).lt ye=true)
 (hF:qY (λj=>r.look D (j:Nat)) q s o) (R:o.Nodup) (Y:∀j∈o,21<=j/\zT t (j-21)=true) (Q:o.length<=979) (F:∀j∈o,j<D.bs.length) (G:∀x∈s,¬x.pl.lt ye=true) (X:∀x∈s,x.pl≠⟨d,(n:Int)+1⟩):
 Calls Tryz.prog 52 #[.pointer (some ⟨bs,0,none⟩),.string d,.slice a l.length cap,.bool g] w λe w'=>∃b i J H I,dn D r i t J b ⟨⟨d,(n:Int)+1⟩,g,l.length,f⟩ s o H I/\∃p:Int,0<=p/\p<=19/\
  ((((i.put 1 (zl (zw b (n+1)))).full||decide (18<(i.put 1 (zl (zw b (n+1)))).ws.length))=true/\e=.returned (.tuple #[.int .i64 0,.int .i64 6])/\zg w' bd S {D with reads:=D.reads+p}/\za (λj=>j=bd) w w')\/
   (((i.put 1 (zl (zw b (n+1)))).full||decide (18<(i.put 1 (zl (zw b (n+1)))).ws.length))=false/\e=.returned (.tuple #[.int .i64 ((n:Int)+1),.int .i64 0])/\qZ w w' bd S {D with bs:=un D.bs (i.put 1 (zl (zw b (n+1)))).ws,reads:=D.reads+p })):=by
 refine(JA w bs bd S D k L af an ac aa C (by rw [A];constructor<;>omega) M ag q n aj N m ai d g P a cap l K O al U V s o f r t u E Z ak z hF R Y Q F G X).mono ?_;rintro e w' ⟨b,i,J,H,I,ao,p,ah,ae,h⟩;refine⟨b,i,J,H,I,ao,p,ah,ae,h.imp id ?_⟩;rintro⟨W,v,c,rfl,ad,_,y,B⟩
 have ab:(i.put 1 (zl (zw b (n+1)))).ws.length<=18:=by have:=W;simp only [lg,decide_eq_false_iff_not] at this;omega
 have T:=(XE (D:={D with reads:=D.reads+p }) A C (by show 21<=D.bs.length;omega) y ab).2;rw [T] at B;obtain⟨rfl,am⟩:=B.onto L;rw [ad rfl];exact⟨W,rfl,am⟩
theorem JB(w:World)(bs:Nat)(q:Option Nat)(j:zu w bs 0 q)(b:ByteArray)(m:b.size<=maxLen)(c:zp b.data.toList=false)(a:Option Addr)(n cap:Nat):
 Calls Tryz.prog 27 #[.pointer (some ⟨bs,0,none⟩),.string b,.slice a n cap] w λe w'=>e=.returned (.tuple #[.int .i64 0,.int .i64 2])/\zu w' bs 0 q/\za (λk=>k=bs) w w':=by
 change Hid _ at j c;go_enter_defers Tryz.func27,Tryz.ntmps27
 go_wp2_with (first
  |(go_at_call 47;refine(qc j).mono ?_;rintro e o ⟨rfl,g,d⟩;change Hid _ at g d)
  |(go_at_call 49;refine(keys.ql b o m).mono ?_;rintro e w2 ⟨rfl,h⟩;rw [h,c.out];clear h w2))
 refine leaves_cons (f:= 48) (args:=#[.pointer (some ⟨bs,0,none⟩)]) (by simp) (by simp [go_sem]) ?_;refine(qa g).mono ?_;rintro e u' w2 ⟨rfl,rfl,i,l⟩;exact⟨_,results_tmp2 Tryz.results27 _ _ _,rfl,i,d.trans l iL⟩
theorem JC(w:World)(bs:Nat)(q:Option Nat)(j:zu w bs 0 q)(b:ByteArray)(o:b.size<=maxLen)(c:zp b.data.toList=true)(a:Option Addr)(n cap:Nat)(r:300<n):
 Calls Tryz.prog 27 #[.pointer (some ⟨bs,0,none⟩),.string b,.slice a n cap] w λe w'=>e=.returned (.tuple #[.int .i64 0,.int .i64 3])/\zu w' bs 0 q/\za (λk=>k=bs) w w':=by
 have p:(300:Int)<(n:Int):=by omega
 change Hid _ at j c;go_enter_defers Tryz.func27,Tryz.ntmps27
 go_wp2_with (first
  |(go_at_call 47;refine(qc j).mono ?_;rintro e m ⟨rfl,g,d⟩;change Hid _ at g d)
  |(go_at_call 49;refine(keys.ql b m o).mono ?_;rintro e w2 ⟨rfl,h⟩;rw [h,c.out];clear h w2))
 refine leaves_cons (f:= 48) (args:=#[.pointer (some ⟨bs,0,none⟩)]) (by simp) (by simp [go_sem]) ?_;refine(qa g).mono ?_;rintro e u' w2 ⟨rfl,rfl,i,l⟩;exact⟨_,results_tmp2 Tryz.results27 _ _ _,rfl,i,d.trans l iL⟩
theorem Ui(w:World)(bs:Nat)(j:zu w bs 0 none)(b:ByteArray)(o:b.size<=maxLen)(c:zp b.data.toList=true)(a:Option Addr)(n cap:Nat)(q:n<=300):
 Calls Tryz.prog 27 #[.pointer (some ⟨bs,0,none⟩),.string b,.slice a n cap] w λe w'=>e=.returned (.tuple #[.int .i64 0,.int .i64 8])/\zu w' bs 0 none/\za (λk=>k=bs) w w':=by
 have p:¬(300:Int)<(n:Int):=by omega
 change Hid _ at j c;go_enter_defers Tryz.func27,Tryz.ntmps27
 go_wp2_with (first
  |(go_at_call 47;refine(qc j).mono ?_;rintro e m ⟨rfl,d,g⟩;have r:=d.c2;change Hid _ at d g)
  |(go_at_call 49;refine(keys.ql b m o).mono ?_;rintro e w2 ⟨rfl,h⟩;rw [h,c.out];clear h w2))
 refine leaves_cons (f:= 48) (args:=#[.pointer (some ⟨bs,0,none⟩)]) (by simp) (by simp [go_sem]) ?_;refine(qa d).mono ?_;rintro e u' w2 ⟨rfl,rfl,i,l⟩;exact⟨_,results_tmp2 Tryz.results27 _ _ _,rfl,i,g.trans l iL⟩
structure vP (w w':World) (bs bd:Nat) (S:Nat->Prop) (D:Dk) (k:Int) (q:Option Nat):Prop where
 sto:zu w' bs k q
 disk:∃S',zg w' bd S' D/\∀k,S' k->S k\/w.heap.size<=k
 kept:za (λk=>S k\/k=bs) w w'
theorem U6(w:World)(bs bd:Nat)(S:Nat->Prop)(D:Dk)(C:zu w bs 0 (some bd))(G:zg w bd S D)(T:¬S bs)(b:ByteArray)(U:b.size<=maxLen)(i:zp b.data.toList=true)(P:Nat->Prop)(a:Option Addr)(cap:Nat)(l:List UInt8)(s:zO w P a l)(u:∀j,P j->¬S j/\j≠bs)(aa:l.length<=300)(Q:Int->Int->Dk->Option Nat->Prop)
 (n:∀w',zu w' bs 1 (some bd)->zg w' bd S D->zO w' P a l->Calls Tryz.prog 52 #[.pointer (some ⟨bs,0,none⟩),.string b,.slice a l.length cap,.bool false] w' λe m=>∃v c D' q,e=.returned (.tuple #[.int .i64 v,.int .i64 c])/\vP w' m bs bd S D' 1 q/\Q v c D' q):
 Calls Tryz.prog 27 #[.pointer (some ⟨bs,0,none⟩),.string b,.slice a l.length cap] w λe w'=>∃v c D' q,e=.returned (.tuple #[.int .i64 v,.int .i64 c])/\Q v c D' q/\vP w w' bs bd S D' 0 q:=by
 have V:Hid (zg w bd S D):=G;have L:Hid (zp b.data.toList=true):=i;have J:Hid (zO w P a l):=s;have I:Hid (∀j,P j->¬S j/\j≠bs):=u;have N:Hid (∀j,S j->j≠bs):=λj d e=>T (by rw [<-e];exact d);have E:Hid (∀w',zu w' bs 1 (some bd)->zg w' bd S D->zO w' P a l->Calls Tryz.prog 52 #[.pointer (some ⟨bs,0,none⟩),.string b,.slice a l.length cap,.bool false] w' λe m=>∃v c D' q,e=.returned (.tuple #[.int .i64 v,.int .i64 c])/\vP w' m bs bd S D' 1 q/\Q v c D' q):=n;have W:¬(300:Int)<(l.length:Int):=by omega
 have hbs:=C.lt;change Hid _ at C;clear G i s u n;go_enter_defers Tryz.func27,Tryz.ntmps27
 go_wp2_with (first
  |(go_at_call 47;refine(qc C).mono ?_;rintro e o ⟨rfl,p,t⟩;have g:Hid (za (λk=>k=bs) w o):=t;have Z:o.cell? ⟨bs,2,none⟩=some (.pointer (some ⟨bd,0,none⟩)):=p.c2;change Hid _ at p;clear t)
  |(go_at_call 49;refine(keys.ql b o U).mono ?_;rintro e w2 ⟨rfl,A⟩;rw [A,L.out];clear A w2)
  |(go_at_call 52;refine(E o p (V.kept g N) (J.kept g (λj d r=>(I j d).2 r))).mono ?_;rintro e w2 ⟨v,c,D',q,rfl,z,B⟩;have K:Hid (vP o w2 bs bd S D' 1 q):=z;have M:PLift (Q v c D' q):=⟨B⟩;clear z B))
 refine leaves_cons (f:= 48) (args:=#[.pointer (some ⟨bs,0,none⟩)]) (by simp) (by simp [go_sem]) ?_;obtain⟨F,⟨S',R,y⟩,H⟩:=K.out;refine(qa F).mono ?_;rintro e u' X ⟨rfl,rfl,O,x⟩;have ab:=g.size;refine⟨_,results_tmp2 Tryz.results27 _ _ _,v,c,D',q,rfl,M.down,O,⟨S',R.kept x (λj d r=>?_),λj d=>?_⟩,?_⟩
 .rcases y j d with h|h;.exact N j h r
  .have Y:j=bs:=r;omega
 .rcases y j d with h|h;.exact .inl h
  .exact .inr (by omega)
 .exact((g.mono (S':=λk=>S k\/k=bs) (λ_ h=>.inr h)).trans H iL).trans x (λ_ h=>.inl (.inr h))
theorem bA(w:World)(bd:Nat)(S:Nat->Prop)(D:Dk)(h:zg w bd S D):Calls Tryz.prog 54 #[.pointer (some ⟨bd,0,none⟩)] w λe w'=>e=.returned (.int .i64 D.bs.length)/\w'=w:=by
 obtain⟨b,a,c,d,h⟩:=h;exact jj w bd S D b a c d h
theorem XQ(w:World)(bd:Nat)(S:Nat->Prop)(D:Dk)(b:zg w bd S D)(f:D.bs.length<64):
 Calls Tryz.prog 35 #[.pointer (some ⟨bd,0,none⟩)] w λe w'=>e=.returned (.tuple #[.pointer none,.int .i64 1])/\w'=w:=by
 have d:(D.bs.length:Int)<64:=by omega
 change Hid _ at b;go_enter Tryz.func35,Tryz.ntmps35;go_wp2_with (go_at_call 54;refine(bA w bd S D b).mono ?_;rintro e c ⟨rfl,a⟩;rw [a];clear a c);refine bodyPost_ret (results_tmp2 rfl _ _ _) rfl ?_;exact⟨rfl,rfl⟩
theorem Zh(w:World)(bd:Nat)(S:Nat->Prop)(D D':Dk)(g:zg w bd S D)(m:64<=D.bs.length)(hfin:Calls Tryz.prog 55 #[.pointer (some ⟨bd,0,none⟩)] w λe w'=>e=.returned (.bool true)/\qZ w w' bd S D'):
 Calls Tryz.prog 35 #[.pointer (some ⟨bd,0,none⟩)] w λe w'=>∃bs,e=.returned (.tuple #[.pointer (some ⟨bs,0,none⟩),.int .i64 0])/\w.heap.size<=bs/\zu w' bs 0 (some bd)/\∃S',zg w' bd S' D'/\(∀k,S' k->S k\/w.heap.size<=k)/\¬S' bs/\za S w w':=by
 have l:Hid (zg w bd S D):=g;have n:¬(D.bs.length:Int)<64:=by omega
 have d:Hid (Calls Tryz.prog 55 #[.pointer (some ⟨bd,0,none⟩)] w λe w'=>e=.returned (.bool true)/\qZ w w' bd S D'):=hfin;clear g hfin;go_enter Tryz.func35,Tryz.ntmps35
 go_wp2_with (first
  |(go_at_call 54;refine(bA w bd S D l).mono ?_;rintro e a ⟨rfl,b⟩;rw [b];clear b a)
  |(go_at_call 55;refine d.mono ?_;rintro e a ⟨rfl,c⟩;change Hid _ at c))
 refine bodyPost_ret (results_tmp2 rfl _ _ _) rfl ?_;obtain⟨⟨S',f,h2⟩,j⟩:=c.out;have i:=za.alloc (λ_=>False) a (.cells #[.int .i32 0,.int .u32 0,.pointer (some ⟨bd,0,none⟩)] 104);exact⟨a.heap.size,rfl,j.size,⟨ac a _⟩,S',f.kept i nF,h2,λh=>by have:=f.lt _ h;omega,j.trans i fE⟩
theorem bB(w:World)(bd:Nat)(S:Nat->Prop)(D D':Dk)(d:zg w bd S D)(i:64<=D.bs.length)(hfin:Calls Tryz.prog 55 #[.pointer (some ⟨bd,0,none⟩)] w λe w'=>e=.returned (.bool false)/\qZ w w' bd S D'):
 Calls Tryz.prog 35 #[.pointer (some ⟨bd,0,none⟩)] w λe w'=>e=.returned (.tuple #[.pointer none,.int .i64 7])/\qZ w w' bd S D':=by
 have g:Hid (zg w bd S D):=d;have h:¬(D.bs.length:Int)<64:=by omega
 have c:Hid (Calls Tryz.prog 55 #[.pointer (some ⟨bd,0,none⟩)] w λe w'=>e=.returned (.bool false)/\qZ w w' bd S D'):=hfin;clear d hfin;go_enter Tryz.func35,Tryz.ntmps35
 go_wp2_with (first
  |(go_at_call 54;refine(bA w bd S D g).mono ?_;rintro e f ⟨rfl,b⟩;rw [b];clear b f)
  |(go_at_call 55;refine c.mono ?_;rintro e f ⟨rfl,a⟩;change Hid _ at a))
 refine bodyPost_ret (results_tmp2 rfl _ _ _) rfl ?_;exact⟨rfl,a⟩
theorem U7(w:World)(bs bd:Nat)(S:Nat->Prop)(D:Dk)(ab:zu w bs 0 (some bd))(A:zg w bd S D)(I:¬S bs)(al:0<=D.reads)(aP:D.reads<=4611686018427350000)(o n:Nat)(aj:qT (D.look 1) o n)(b:ByteArray)(c:Int)(az:b.size<=maxLen)(z:zp b.data.toList=true)(Z:List En)(H:List Nat)(hF:qY (λj=>D.look (j:Nat)) o Z H)(ap:H.length<=979)(hbs:∀j∈H,21<=j)(x:En)(an:(yP ⟨b,c⟩ Z).head? =some x)(t:Gp b c (some x)=true)
 (ps:List zv) (P:yZ (λj=>D.look (j:Nat)) ps) (M:(ps.map zv.at_).Nodup) (U:xo ps=x.at_) (l:List UInt8) (am:(ps.map zv.l).flatten=l) (N:l.length=x.size) (au:x.size<=300) (aW:ps.length<=10):
 Calls Tryz.prog 42 #[.pointer (some ⟨bs,0,none⟩),.string b,.int .i64 c] w λe w'=>(∃a cap,e=.returned (.tuple #[.slice a l.length cap,.int .i64 0])/\w'.ownsRow 0 5 1 (.slice a l.length cap) l.length (l.map qy)/\∀k,(Value.slice a l.length cap).ownBlock=some k->w.heap.size<=k)/\zu w' bs 0 (some bd)/\(∃r:Int,D.reads<=r/\r<=D.reads+14+ps.length/\zg w' bd S {D with reads:=r })/\za (λk=>k=bd\/k=bs) w w':=by
 have aB:Hid (zg w bd S D):=A;have aL:=A.lt bd A.bdS;have aE:=ab.lt;have V:bs≠bd:=λe=>I (by rw [e];exact A.bdS);have ao:Hid (∀j,S j->j≠bs):=λj C e=>I (by rw [<-e];exact C)
 have ag:Hid (∀w',zu w' bs 1 (some bd)->zg w' bd S D->Calls Tryz.prog 66 #[.pointer (some ⟨bs,0,none⟩),.agg #[.string b,.int .i64 c]] w' λe g=>e=.returned (.tuple #[.agg (xZ (some x)).toArray,.bool true])/\(∃r:Int,D.reads<=r/\r<=D.reads+14/\zg g bd S {D with reads:=r })/\za (λi=>i=bd) w' g):=λw' ad h2=>by have:=fa w' bs bd S D 1 ad h2 I al (by omega) o n aj ⟨b,c⟩ Z H hF ap hbs;rw [an] at this;exact this
 have F:Hid (∀w' (r:Int),zu w' bs 1 (some bd)->zg w' bd S {D with reads:=r}->0<=r->r<=4611686018427360000->Calls Tryz.prog 51 #[.pointer (some ⟨bs,0,none⟩),.agg (qr x).toArray] w' λaU g=>(∃a cap,aU=.returned (.slice a l.length cap)/\g.ownsRow 0 5 1 (.slice a l.length cap) l.length (l.map qy)/\∀j,(Value.slice a l.length cap).ownBlock=some j->w'.heap.size<=j)/\(∃aa:Int,r<=aa/\aa<=r+ps.length/\zg g bd S {D with reads:=aa })/\za (λi=>i=bd) w' g):=λw' r ad h2 aA aI=>dE w' bs bd S {D with reads:=r} 1 ad h2 I aA aI x ps P M U l am N au (by omega);change Hid _ at ab z t;clear A aj hF hbs an P M U am N;have K:xZ (some x)=[.string x.pl.key,.int .i64 x.pl.num,.bool x.mark,.int .i64 (x.size:Int),.int .i64 (x.at_:Int)]:=rfl;change Hid _ at K
 have aw:x.pl.key=b/\x.pl.num=c/\x.mark=false:=by have:=t.out;simp [Gp] at this;exact⟨this.1.1,this.1.2,this.2⟩
 obtain⟨W,X,Q⟩:=aw;go_enter_defers Tryz.func42,Tryz.ntmps42
 go_wp2_with (first
  |(go_at_call 47;refine(qc ab).mono ?_;rintro e d ⟨rfl,s,T⟩;have y:Hid (za (λk=>k=bs) w d):=T;have aV:=s.c2;change Hid _ at s;clear T)
  |(go_at_call 49;refine(keys.ql b d az).mono ?_;rintro e w2 ⟨rfl,R⟩;rw [R,z.out];clear R w2))
 have q:Hid (za (λ_=>False) d (d.alloc (.cells #[.string b,.int .i64 c] 107))):=za.alloc _ _ _;have aq:Hid ((d.alloc (.cells #[.string b,.int .i64 c] 107)).heap[d.heap.size]? =some (.cells #[.string b,.int .i64 c] 107 (0,0))):=ac d _;have aN:(d.alloc (.cells #[.string b,.int .i64 c] 107)).heap.size=d.heap.size+1:=by simp
 generalize (d.alloc (.cells #[.string b,.int .i64 c] 107))=aF at*;have aQ:=y.size;refine(ag aF (s.kept q id) ((aB.kept y ao).kept q nF)).mono ?_;rintro e w2 ⟨rfl,⟨ae,aH,ay,Y⟩,m⟩;have ak:Hid (zg w2 bd S {D with reads:=ae }):=Y;have aO:=m.size;have O:Hid (w2.heap[d.heap.size]? =_):=(m.block _ (by omega) (by omega)).trans aq.out;change Hid _ at m;clear Y;rw [K.out];have p:Hid (za (λ_=>False) w2 (w2.alloc (.cells #[.string x.pl.key,.int .i64 x.pl.num,.bool x.mark,.int .i64 (x.size:Int),.int .i64 (x.at_:Int)] 109))):=za.alloc _ _ _;have ai:(w2.alloc (.cells #[.string x.pl.key,.int .i64 x.pl.num,.bool x.mark,.int .i64 (x.size:Int),.int .i64 (x.at_:Int)] 109)).heap.size=w2.heap.size+1:=by simp
 have aX:w2.cell? ⟨d.heap.size,0,none⟩=some (.string b):=cR O.out rfl;have aR:w2.cell? ⟨d.heap.size,1,none⟩=some (.int .i64 c):=cR O.out rfl;have av:d.heap.size<w2.heap.size:=by omega
 have aK:(x.pl.key.toList==b.toList)=true:=by rw [W];simp
 have aM:(x.pl.num==c)=true:=by rw [X];simp
 change Hid _ at W X;have u:Hid _:=((s.kept q id).kept m V).kept p id;have L:Hid (zg (w2.alloc (.cells #[.string x.pl.key,.int .i64 x.pl.num,.bool x.mark,.int .i64 (x.size:Int),.int .i64 (x.at_:Int)] 109)) bd S {D with reads:=ae }):=ak.kept p nF;rw [Q] at p u L ai ⊢;unfold qr at F;rw [Q] at F;go_wp2_with fail;refine(F _ ae u L (by omega) (by omega)).mono ?_;rintro e aC ⟨⟨ax,aJ,rfl,G,v⟩,⟨ar,aG,aD,J⟩,E⟩;have af:Hid (zg aC bd S {D with reads:=ar }):=J;change Hid _ at G v E;clear J;go_wp2;refine leaves_cons (f:= 48) (args:=#[.pointer (some ⟨bs,0,none⟩)]) (by simp) (by simp [go_sem]) ?_;refine(qa (u.kept E V)).mono ?_;rintro e u' aT ⟨rfl,rfl,ah,B⟩;refine⟨_,results_tmp2 rfl _ _ _,⟨ax,aJ,rfl,B.owns G (λj C aS=>by have:=v.out j C;omega),λj C=>by have:=v.out j C;omega⟩,ah,⟨ar,by omega,by omega,af.kept B ao⟩,?_⟩;exact(((((y.mono (S':=λk=>k=bd\/k=bs) (λ_ h=>.inr h)).trans q fE).trans m (λ_ h=>.inl (.inl h))).trans p fE).trans E (λ_ h=>.inl (.inl h))).trans B (λ_ h=>.inl (.inr h))
end prog
namespace prog
open keys (zh zd zx zq)
variable {w:World}{g n cap:Nat}
theorem vI(w:World)(b:Nat)(i:Int)(f:w.heap[b]? =some (.cells #[.int .i64 i] 3 (0,0)))(a:Nat)(c:List Value)(j:zS c):
 Calls Tryz.prog 184 #[.agg (.int .i64 (a:Int)::c).toArray,.pointer (some ⟨b,0,none⟩)] w λe w'=>e=.returned (.bool ((a:Int)==i))/\za (λ_=>False) w w':=by
 have d:Hid (za (λ_=>False) w (w.alloc (.cells (.int .i64 (a:Int)::c).toArray 160))):=za.alloc _ _ _;have g:=(lT f);have h:(w.alloc (.cells (.int .i64 (a:Int)::c).toArray 160)).cell? ⟨w.heap.size,0,none⟩=some (.int .i64 (a:Int)):=by rw [aG _ _ 0 _ _ _ (ac w _)];simp
 have k:(w.alloc (.cells (.int .i64 (a:Int)::c).toArray 160)).cell? ⟨b,0,none⟩=some (.int .i64 i):=cR (((d.block _ g id).trans f)) rfl;clear f;go_enter Tryz.func184,Tryz.ntmps184;go_wp2;go_ret;exact⟨rfl,d⟩
theorem bC(w:World)(M bd:Nat)(T:Nat->Prop)(C:Ck)(a:Option Addr)(cap:Nat)(h:qC w M bd T C a cap)(b:Nat)(i:Int)(E:w.heap[b]? =some (.cells #[.int .i64 i] 3 (0,0))):
 Calls Tryz.prog 201 #[.slice a C.ws.length cap,.func (.func 184) #[] #[.pointer (some ⟨b,0,none⟩)]] w λe w'=>e=.returned (.int .i64 (Gn (yd C.ws i)))/\za (λ_=>False) w w':=by
 have A:Hid _:=zY Tryz.infoCw;have I:=h.few;have D:Hid _:=h;change Hid _ at E;clear h;go_enter Tryz.func201,Tryz.ntmps201;go_wp2;go_loopw [8] (λt wr=>∃k:Nat,k<=C.ws.length/\t=.int .i64 k/\(∀j (n:j<C.ws.length),j<k->¬(C.ws[j].1:Int)=i)/\za (λ_=>False) w wr) (λt _=>C.ws.length-(intOf t).toNat)
 case atStart=>exact⟨0,aj _,rfl,λ_ _ h=>by omega,za.refl _ _⟩
 case round=>
  obtain⟨k,N,rfl,v,c⟩:=hrel;change Hid _ at v c;by_cases p:k<C.ws.length
  .obtain⟨g,rfl⟩:=D.rowAt (by omega);have G:Hid _:=(D.kept c nF).range k p;have o:Hid (zS C.ws[k].2):=D.ok _ (ai p)
   have F:Hid (∀j (n:j<C.ws.length),j<k+1->¬(C.ws[k].1:Int)=i->¬(C.ws[j].1:Int)=i):=λj n z H=>by
    by_cases e:j=k;.subst e;exact H
    .exact v j n (by omega)
   have x:Hid ((C.ws[k].1:Int)=i->yd C.ws i=some k):=λK=>cU p v K;have y:Hid (wr.heap[b]? =some (.cells #[.int .i64 i] 3 (0,0))):=(c.block _ (lT E) id).trans E.out;generalize L:C.ws[k]=q at*;obtain⟨m,u⟩:=q;clear L;simp only at F x;by_cases d:(m:Int)=i
   .have l:((m:Int)==i)=true:=by simp [d]
    have s:Hid _:=l;have B:Hid _:=d;clear d l
    go_wp2_with (first
     |(show wpList _ _ _ ({dst:=some 15,op:=.load _ _,type:=_,pos:=_,after:=_,guard:=_}::_) _ _;refine wpList_load_mid rfl 160 (.tmp 14) rfl _ _ rfl (.int .i64 (m:Int)::u) _ G Tryz.underlying160 rfl (by rw [ae,o.1];exact A) ?_)
     |(go_at_call 184;refine(vI _ b i y m u o).mono ?_;rintro e J ⟨rfl,f⟩;rw [s.out];have r:Hid _:=f;clear f))
    go_ret;exact⟨by rw [x.out B.out];rfl,c.trans r iL⟩
   .have l:((m:Int)==i)=false:=by simpa using d
    have s:Hid _:=l;have B:Hid _:=d;clear d l
    go_wp2_with (first
     |(show wpList _ _ _ ({dst:=some 15,op:=.load _ _,type:=_,pos:=_,after:=_,guard:=_}::_) _ _;refine wpList_load_mid rfl 160 (.tmp 14) rfl _ _ rfl (.int .i64 (m:Int)::u) _ G Tryz.underlying160 rfl (by rw [ae,o.1];exact A) ?_)
     |(go_at_call 184;refine(vI _ b i y m u o).mono ?_;rintro e J ⟨rfl,f⟩;rw [s.out];have r:Hid _:=f;clear f))
    go_roundw
    case rel=>exact⟨k+1,by omega,by go_num,λj n z=>F j n z B,c.trans r iL⟩
    case measure=>simp [intOf];omega
  .have x:Hid _:=QQ (λj n=>v j n (by omega));go_wp2;go_ret;exact⟨by rw [x.out];rfl,c⟩
theorem ZY(w:World)(b q n c:Nat)(x:0<n)(p:w.there b q (n*129)):
 ∃L:List Value,L.length=n*129/\∀o,(Builtin.clear_ #[156] o #[.slice (some ⟨b,q,none⟩) n c]).run Tryz.prog w=.ok (.tuple #[]) (w.setCells b q L):=by
 have d:yq.length=129:=congrArg (· +1) zG.1;have t:=zX Tryz.infoCw;have g:∀v∈yq,v.oneCell'=true:=aQ.2 ⟨rfl,zG.2⟩;generalize u:yq=a at*;have f:(Builtin.zeroCells a.toArray n).toList.length=n*129:=by simp [Builtin.zeroCells,d]
 have k:∀v∈(Builtin.zeroCells a.toArray n).toList,v.oneCell'=true:=λv h=>by simp only [Builtin.zeroCells,mC,Array.toList_range,au] at h;obtain⟨i,_,rfl⟩:=h;have s:i%a.toArray.size<a.toArray.size:=Nat.mod_lt _ (by simp [d]);rw [getElem!_pos a.toArray _ s];exact g _ (by simp)
 refine⟨(Builtin.zeroCells a.toArray n).toList,f,λo=>?_⟩;have e:=run_storeCells_cells (P:=Tryz.prog) b q (Builtin.zeroCells a.toArray n).toList 0 w (λj r=>(p j (by omega)).1) (λj r=>(p j (by omega)).2) k;simp only [lD] at e;obtain⟨m,rfl⟩:∃m,n=m+1:=⟨n-1,by omega⟩;have l:(Value.agg a.toArray).cells=a.toArray:=rfl;simp only [Builtin.clear_];simp [ii Tryz.underlying156,t,l,e]
theorem uZ(c:Nat):∀(l:List (List Value)),(∀b∈l,b.length=c)->l.flatten.length=l.length*c
 |[],_=>by simp
 |b::l,h=>by rw [aU,ag,uZ c l (λx a=>h x (am _ a)),h b (al ..),ae,eJ];omega
theorem XR{V:List (Nat×List Value)}(h:w.ownsRow 0 160 129 (.slice (some ⟨g,0,none⟩) n cap) n (V.map zM).flatten)(f:∀p∈V,zS p.2)(C:V.length=n)(i:Nat)(q:i<=n)(L:List Value)(z:i*129+L.length<=n*129):
 (w.setCells g (i*129) L).ownsRow 0 160 129 (.slice (some ⟨g,0,none⟩) i cap) i ((V.take i).map zM).flatten:=by
 have s:∀b∈V.map zM,b.length=129:=λb c=>by obtain⟨p,m,rfl⟩:=au.1 c;simp [zM,(f p m).1]
 rcases h.2 with⟨u,_⟩|⟨B,t,a,o,c,k,e,h2,j,v⟩;.cases u
 .cases o
  have d:((V.take i).map zM).flatten.length=i*129:=by rw [uZ 129 _ (λb c=>s b (by rw [iP] at c;exact aP c))];simp;omega
  refine⟨d,.inr ⟨g,cap,_,rfl,c,z9 g _ L (i*129) w a k (by rw [j];have:=ee 129 e;omega),by omega,h2,?_,?_⟩⟩
  .have:=ee 129 e;simp;omega
  .have r:i*129<=a.toList.length:=by
    have:=ee 129 e;have y:a.toList.length=cap*129:=by simpa using j
    omega
   have A:(a.toList.take (i*129)).length=i*129:=by simp at r ⊢;omega
   show (a.toList.take (i*129)++L++a.toList.drop (i*129+L.length)).take (i*129)=_;rw [ak,aZ (by omega),an (by omega)];have l:a.toList.take (i*129)=(a.toList.take (n*129)).take (i*129):=by rw [iu,a8 (by have:=ee 129 q;omega)]
   rw [l,v];have x:(V.map zM).flatten=((V.take i).map zM).flatten++((V.drop i).map zM).flatten:=by rw [<-eV,<-eh,aE]
   rw [x,aZ (by omega),an (by omega)]
theorem u9(w:World)(b q n c:Nat)(x:0<n)(p:w.there b q (n*5)):
 ∃L:List Value,L.length=n*5/\∀o,(Builtin.clear_ #[207] o #[.slice (some ⟨b,q,none⟩) n c]).run Tryz.prog w=.ok (.tuple #[]) (w.setCells b q L):=by
 have t:∀w,(zeroValue 109).run Tryz.prog w=.ok (.agg qx.toArray) w:=zX Tryz.infoEntry;have d:qx.length=5:=rfl;have g:∀v∈qx,v.oneCell'=true:=by simp [qx,Value.oneCell']
 generalize u:qx=a at*;have f:(Builtin.zeroCells a.toArray n).toList.length=n*5:=by simp [Builtin.zeroCells,d]
 have k:∀v∈(Builtin.zeroCells a.toArray n).toList,v.oneCell'=true:=λv h=>by simp only [Builtin.zeroCells,mC,Array.toList_range,au] at h;obtain⟨i,_,rfl⟩:=h;have s:i%a.toArray.size<a.toArray.size:=Nat.mod_lt _ (by simp [d]);rw [getElem!_pos a.toArray _ s];exact g _ (by simp)
 refine⟨(Builtin.zeroCells a.toArray n).toList,f,λo=>?_⟩;have e:=run_storeCells_cells (P:=Tryz.prog) b q (Builtin.zeroCells a.toArray n).toList 0 w (λj r=>(p j (by omega)).1) (λj r=>(p j (by omega)).2) k;simp only [lD] at e;obtain⟨m,rfl⟩:∃m,n=m+1:=⟨n-1,by omega⟩;have l:(Value.agg a.toArray).cells=a.toArray:=rfl;simp only [Builtin.clear_];simp [ii Tryz.underlying207,t,l,e]
theorem Yu{a:List En}(h:w.ownsRow 0 109 5 (.slice (some ⟨g,0,none⟩) n cap) n (zj a))(i:Nat)(l:i<=n)(c:a.length=n):w.ownsRow 0 109 5 (.slice (some ⟨g,0,none⟩) i cap) i (zj (a.take i)):=by
 rcases h.2 with⟨o,_⟩|⟨t,m,b,j,e,d,s,h2,q,p⟩;.cases o
 .cases j;have k:(zj (a.take i)).length=i*5:=by rw [yh,aC,c,a8 l]
  refine⟨k,.inr ⟨g,cap,b,rfl,e,d,by omega,h2,q,?_⟩⟩;have f:b.toList.take (i*5)=(b.toList.take (n*5)).take (i*5):=by rw [iu,a8 (by omega)]
  rw [f,p];have r:zj a=zj (a.take i)++zj (a.drop i):=by rw [<-qQ,aE]
  rw [r,aZ (by omega),an (by omega)]
theorem Uj{a:List En}(h:w.ownsRow 0 109 5 (.slice (some ⟨g,0,none⟩) n cap) n (zj a))(i:Nat)(c:i<=n)(b:a.length=n):∀j u,(zj (a.drop i))[j]? =some u->w.cell? ((⟨g,i*5,none⟩:Addr).add j)=some u:=λj u f=>by
 have e:zj a=zj (a.take i)++zj (a.drop i):=by rw [<-qQ,aE]
 have d:(zj (a.take i)).length=i*5:=by rw [yh,aC,b,a8 c]
 have:=h.cells (g:=g) rfl (i*5+j) u (by rw [e,iB (by omega),d,lx];exact f);rw [eO] at this ⊢;simpa using this
end prog
end Go.Proofs.YtcoengihaobddaaGreatDoor
