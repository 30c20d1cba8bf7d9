/- Part 26 of 36 of a proof: Fall2, Fall3, Add2, Put1, Open1, At2, Fre1, Fre2, Rem1 -/
import Derived.Test.YtcoengihaobddaaGreatDoorJc25
import Derived.Test.YtcoengihaobddaaGreatDoorJc06
set_option maxHeartbeats 8000000
set_option linter.unusedVariables false
set_option linter.unusedSimpArgs false
set_option maxRecDepth 8000
namespace Go.Proofs.YtcoengihaobddaaGreatDoor
open Go.ChangeShapes Go.WideShapes Go.ChangeAt Go.RowKit disk ref
namespace prog
open book (xj)
open keys (zh ze zy zs)
def Gq(bc bd:Nat)(l:Value):Nat->Value
 |0=>.pointer (some ⟨bc,0,none⟩)
 |1=>.pointer (some ⟨bc,0,none⟩)
 |2=>.pointer (some ⟨bc,0,none⟩)
 |3=>.pointer (some ⟨bd,0,none⟩)
 |4=>.pointer (some ⟨bc,0,none⟩)
 |5=>.pointer (some ⟨bc,0,none⟩)
 |6=>.pointer (some ⟨bc,1,none⟩)
 |_=>l
structure U5 (w:World) (bd:Nat) (S:Nat->Prop) (D1:Dk) (Z:Nat->Value) (L:Nat->Bool) (x:Nat->Value) (w':World):Prop where
 pv:∀i,i<8->L i=true->x i=Z i
 fv:∀i,(i=8\/i=9\/i=19)->L i=true->x i=.bool false
 early:L 8=false->za (λ_=>False) w w'
 dep:L 8=true->L 3=true/\L 7=true
 late:L 8=true->q9 w w' bd S D1
section
variable {w w' w2:World} {bd:Nat} {S:Nat->Prop} {D1:Dk} {Z:Nat->Value} {L:Nat->Bool} {x:Nat->Value}
theorem U5.l8(h:U5 w bd S D1 Z L x w'){i:Nat}(c:L i=false)(e:i=3\/i=7:=by decide):L 8=false:=by
 cases d:L 8 with
 |false=>rfl
 |true=>
  obtain⟨a,b⟩:=h.dep d;rcases e with rfl|rfl<;>first|cases a.symm.trans c|cases b.symm.trans c
theorem U5.upd(h:U5 w bd S D1 Z L x w')(i:Nat)(v:Value)(d:i≠8)(f:i<8->v=Z i)(h2:(i=9\/i=19)->v=.bool false):U5 w bd S D1 Z (λj=>decide (j=i)||L j) (λj=>if j=i then v else x j) w':=by
 have c:(decide (8=i)||L 8)=L 8:=by simp [iw d]
 refine⟨λj b a=>?_,λj b a=>?_,λa=>h.early (by simpa [c] using a),λa=>?_,λa=>h.late (by simpa [c] using a)⟩
 .by_cases e:j=i;.subst e;simp [f b]
  .simp only [e,if_false];exact h.pv j b (by simpa [e] using a)
 .by_cases e:j=i;.subst e;simp [h2 (b.resolve_left d)]
  .simp only [e,if_false];exact h.fv j b (by simpa [e] using a)
 .have:=h.dep (by simpa [c] using a);simp [this]
theorem U5.call(h:U5 w bd S D1 Z L x w')(d:L 3=true/\L 7=true)(c:q9 w w2 bd S D1):U5 w bd S D1 Z (λj=>decide (j=8)||L j) (λj=>if j=8 then .bool false else x j) w2:=by
 refine⟨λj b a=>?_,λj b a=>?_,λa=>by simp at a,λ_=>by simp [d],λ_=>c⟩
 .have e:j≠8:=by omega
  simp only [e,if_false];exact h.pv j b (by simpa [e] using a)
 .by_cases e:j=8;.subst e;simp
  .simp only [e,if_false];exact h.fv j b (by simpa [e] using a)
end
set_option maxRecDepth 60000 in
theorem Yt(w:World)(g bd:Nat)(S T:Nat->Prop)(D:Dk)(C:Ck)(h:Cw w g bd S T D C)(s:∀p∈C.ws,p.1<65536)(u:C.ws.length<=18)(G:zD D.fuse)(Z:D.ps.length<=17179869184)(M:(qO D C.ws).1=false):
 Calls Tryz.prog 140 #[.pointer (some ⟨g,0,none⟩)] w λe w'=>e=.returned (.bool false)/\q9 w w' bd S (qO D C.ws).2:=by
 have W:Hid _:=h;obtain⟨a,cap,l⟩:=h.chg;have Q:Hid (uY w T a C.ws):=l.rows s;have Y:Hid (∀k,T k->k<w.heap.size):=l.lt;have q:=l.lt g l.bcT;have P:Hid (∀k,S k->¬T k):=h.apart;have m:∀d,za (λ_=>False) w d->d.cell? ⟨g,0,none⟩=some (.pointer (some ⟨bd,0,none⟩))/\d.cell? ⟨g,1,none⟩=some (.slice a C.ws.length cap):=λd k=>⟨(k.cell (a:=⟨g,0,none⟩) q id).trans l.c0,(k.cell (a:=⟨g,1,none⟩) q id).trans l.c1⟩;have E:Hid (∀d,za (λ_=>False) w d->d.cell? ⟨g,0,none⟩=some (.pointer (some ⟨bd,0,none⟩))/\d.cell? ⟨g,1,none⟩=some (.slice a C.ws.length cap)):=m;have U:Hid ((qO D C.ws).1=false):=M;clear h l m M;go_enter Tryz.func140,Tryz.ntmps140;go_wp2;refine xj (by kernel_rfl) (by kernel_rfl) (λL t d=>∃x:Nat->Value,t={tmps:=#[.pointer (some ⟨g,0,none⟩),undef,.bool false,x 0,x 1,x 2,x 3,x 4,x 5,x 6,x 7,x 8,x 9,x 10,x 11,x 12,x 13,x 14,x 15,x 16,x 17,x 18,x 19],defers:=[]}/\U5 w bd S (qO D C.ws).2 (Gq g bd (.slice a C.ws.length cap)) L x d) ?_ ?_ ?_;.exact⟨λ_=>undef,rfl,⟨λ_ _ h=>(by cases h),λ_ _ h=>(by cases h),λ_=>za.drew _ w,λh=>(by cases h),λh=>(by cases h)⟩⟩
 .rintro L t d i ad I o c ⟨x,rfl,b⟩;have ac:i<21:=(lT I);rcases (by omega:(i=10\/i=11\/i=12\/i=13\/i=14\/i=15\/i=16\/i=17\/i=18)\/(i=0\/i=1\/i=2\/i=4\/i=5\/i=6)\/(i=3\/i=7)\/i=8\/i=9\/i=19\/i=20) with(rfl|rfl|rfl|rfl|rfl|rfl|rfl|rfl|rfl)|(rfl|rfl|rfl|rfl|rfl|rfl)|(rfl|rfl)|rfl|rfl|rfl|rfl;all_goals (have K:=eG I;subst K)
  iterate 9
   .have e:=b.fv 9 (by decide) (c ⟨9,.guard⟩ (by simp) rfl);refine wpOp_step rfl (λn f=>?_);simp only [e];rw [aw (by simp [Region.wanted,yielded])];exact f _ _ ⟨_,(by simp [e,Act.put]),b.upd _ undef (by decide) (λh=>by omega) (λh=>by omega)⟩
  iterate 6
   .first|have e:=b.pv 0 (by decide) (c ⟨0,.data⟩ ⟨.head _⟩ rfl)|have e:=b.pv 1 (by decide) (c ⟨1,.data⟩ ⟨.head _⟩ rfl)|have e:=b.pv 4 (by decide) (c ⟨4,.data⟩ ⟨.head _⟩ rfl)|have e:=b.pv 5 (by decide) (c ⟨5,.data⟩ ⟨.head _⟩ rfl)|have e:=b
    (try simp only [Gq] at e)
    refine wpOp_step rfl (λn f=>?_)
    (try simp only [e])
    go_simp;exact f _ _ ⟨_,(by first|simp [Gq,e]|simp [Gq]),b.upd _ (Gq g bd (.slice a C.ws.length cap) _) (by decide) (λ_=>rfl) (λ_=>by omega)⟩
  iterate 2
   .obtain⟨aa,ab⟩:=E.out d (b.early (b.l8 o))
    first|have e:=b.pv 2 (by decide) (c ⟨2,.data⟩ ⟨.head _⟩ rfl)|have e:=b.pv 6 (by decide) (c ⟨6,.data⟩ ⟨.head _⟩ rfl)
    simp only [Gq] at e;refine wpOp_step rfl (λn f=>?_);simp only [e];go_simp;exact f _ _ ⟨_,(by simp [Gq,e]),b.upd _ (Gq g bd (.slice a C.ws.length cap) _) (by decide) (λ_=>rfl) (λ_=>by omega)⟩
  .have v:L 3=true:=c ⟨3,.data⟩ (by simp) rfl;have N:x 3=.pointer (some ⟨bd,0,none⟩):=b.pv 3 (by omega) v;have H:L 7=true:=c ⟨7,.data⟩ (by simp) rfl;have y:x 7=.slice a C.ws.length cap:=b.pv 7 (by omega) H;refine wpOp_step rfl (λn f=>?_);simp only [N,y];go_simp;have k1:=b.early o;refine(Yn d bd S T D (W.out.disk.kept k1 nF) a cap C.ws (Q.out.kept k1 nF) P.out (λk O=>ay (Y.out k O) k1.size) G (by omega) u).mono ?_;rintro e w2 ⟨rfl,A⟩;rw [U.out];exact f _ _ ⟨λj=>if j=8 then .bool false else x j,by simp [N,y],b.call ⟨v,H⟩ (q9.kept0 k1 A)⟩
  .have V:L 8=true:=c ⟨8,.data⟩ (by simp) rfl;have J:x 8=.bool false:=b.fv 8 (by omega) V;refine wpOp_step rfl (λn f=>?_);simp only [J];go_simp;exact f _ _ ⟨λj=>if j=9 then .bool false else x j,by simp [J],b.upd 9 _ (by omega) (λ_=>by omega) (λ_=>rfl)⟩
  .have X:L 9=true:=c ⟨9,.data⟩ (by simp) rfl;have z:x 9=.bool false:=b.fv 9 (by omega) X;refine wpOp_step rfl (λn f=>?_);simp only [z];go_simp;exact f _ _ ⟨λj=>if j=19 then .bool false else x j,by simp [z],b.upd 19 _ (by omega) (λ_=>by omega) (λ_=>rfl)⟩
  .have B:L 19=true:=c ⟨19,.data⟩ (by simp) rfl;have r:x 19=.bool false:=b.fv 19 (by omega) B;refine wpOp_step rfl (λn f=>?_);simp only [r];go_simp;exact f _ _ ⟨λj=>if j=20 then undef else x j,by simp [r],b.upd 20 _ (by omega) (λh=>by omega) (λh=>by omega)⟩
 .rintro L t d o ⟨x,rfl,b⟩;have R:=o 8 (by decide);have F:Hid (q9 w d bd S (qO D C.ws).2):=b.late R;clear b;go_wp2;go_ret;exact⟨rfl,F.out⟩
end prog
namespace prog
open keys (zh ze zy zs zq)
theorem ZX(w:World)(c bd:Nat)(S T:Nat->Prop)(D:Dk)(C:Ck)(h:Cw w c bd S T D C)(a:∀p∈C.ws,p.1<65536)(b:C.ws.length<=18)(g:zD D.fuse)(f:D.ps.length<=17179869184):
 Calls Tryz.prog 140 #[.pointer (some ⟨c,0,none⟩)] w λe w'=>e=.returned (.bool (qj D C.ws).1)/\q9 w w' bd S (qj D C.ws).2:=by
 cases d:(qO D C.ws).1 with
 |true=>exact Yp w c bd S T D C h a b g f d
 |false=>
  have e:qj D C.ws=qO D C.ws:=aw (by rw [d];simp);rw [e,d];exact Yt w c bd S T D C h a b g f d
structure cB (w w':World) (bs bd:Nat) (k:Int) (S:Nat->Prop) (r:Bool×Dk) (c:Int):Prop where
 code:c=if r.1=true then 0 else 7
 sto:zu w' bs k (if r.1=true then some bd else none)
 disk:∃S',zg w' bd S' r.2/\∀j,S' j->S j\/w.heap.size<=j
 kept:za (λj=>S j\/j=bs) w w'
theorem bw(w:World)(bs l bd:Nat)(k:Int)(S T:Nat->Prop)(D:Dk)(C:Ck)(h:Cw w l bd S T D C)(q:zu w bs k (some bd))(r:¬S bs)(o:(C.full||decide (18<C.ws.length))=false)(n:∀p∈C.ws,p.1<65536)(A:zD D.fuse)(y:D.ps.length<=17179869184):
 Calls Tryz.prog 78 #[.pointer (some ⟨bs,0,none⟩),.pointer (some ⟨l,0,none⟩)] w λe w'=>∃c,e=.returned (.int .i64 c)/\cB w w' bs bd k S (qj D C.ws) c:=by
 have z:Hid _:=h
 have u:C.ws.length<=18:=by simp only [lg,decide_eq_false_iff_not] at o;omega
 have m:Hid (¬S bs):=r;have hbs:=q.lt;have t:Hid (Calls Tryz.prog 140 #[.pointer (some ⟨l,0,none⟩)] w λe w'=>e=.returned (.bool (qj D C.ws).1)/\q9 w w' bd S (qj D C.ws).2):=ZX w l bd S T D C h n u A y;change Hid _ at o q;clear h n u r;generalize qj D C.ws=H at*;obtain⟨b,D'⟩:=H
 cases b with
 |true=>
  go_enter Tryz.func78,Tryz.ntmps78
  go_wp2_with (first
   |(go_at_call 139;refine(dO w l bd T C z.chg).mono ?_;rintro e g ⟨rfl,i⟩;rw [i,o.out];clear i g)
   |(go_at_call 140;refine t.mono ?_;rintro e g ⟨rfl,d⟩;have f:Hid (q9 w g bd S D'):=d;clear d))
  go_ret;exact⟨0,rfl,rfl,q.kept f.kept m,f.disk,f.kept.mono iL⟩
 |false=>
  go_enter Tryz.func78,Tryz.ntmps78
  go_wp2_with (first
   |(go_at_call 139;refine(dO w l bd T C z.chg).mono ?_;rintro e g ⟨rfl,i⟩;rw [i,o.out];clear i g)
   |(go_at_call 140;refine t.mono ?_;rintro e g ⟨rfl,d⟩;have f:Hid _:=d;have a:=q.kept d.kept m.out;have G:=a.c2;have F:=a.fz 2;have E:=a.lt;change Hid _ at a;clear d))
  go_ret;have k2:=za.setCell (S:=λj=>j=bs) g ⟨bs,2,none⟩ (.pointer none) rfl;obtain⟨S1,x,s⟩:=f.disk;refine⟨7,rfl,rfl,⟨?_⟩,⟨S1,x.kept k2 (λj v e=>?_),s⟩,(f.kept.mono iL).trans k2 (λj v=>.inl (.inr v))⟩;.exact heap_setCell_same g bs 2 _ _ (.pointer none) a.at_
  .have B:j=bs:=e;subst B;rcases s j v with h|h;.exact m h
   .omega
end prog
namespace prog
open Go.MuLone
open keys (zh ze zy zs zq)
theorem JA(w:World)(bs bd:Nat)(S:Nat->Prop)(D:Dk)(k:Int)(aQ:zu w bs k (some bd))(a4:zg w bd S D)(cl:¬S bs)(b8:0<=D.reads)(cJ:D.reads<=4611686018427350000)(bo:D.ps=[])(br:zD D.fuse)(cM:64<=D.bs.length)(bO:D.bs.length<=1000)
 (q n:Nat) (ag:qV (D.look 1) q n) (cQ:n<4611686018427387904) (m:List UInt8) (bJ:qF (D.look 2) m) (s:ByteArray) (g:Bool) (P:Nat->Prop) (a:Option Addr) (cap:Nat) (l:List UInt8) (bn:zL w P a l) (bC:∀j,P j->¬S j/\j≠bs) (cv:l.length<=300) (bX:l.length<=cap) (bY:cap<=9223372036854775807)
 (aP:List En) (ak:List Nat) (f:Nat) (O:Ck) (aj:List UInt8) (U:fY.body D.bs.length m (zW l)=(f,O,aj)) (bV:List Nat) (aC:Jv D fY O m aj f (zW l) bV) (cd:(⟨⟨s,(n:Int)+1⟩,g,l.length,f⟩:En).Ok) (ap:¬(⟨s,(n:Int)+1⟩:Pl).lt yh=true)
 (hF:q8 (λj=>O.look D (j:Nat)) q aP ak) (bD:ak.Nodup) (bx:∀j∈ak,21<=j/\zU aj (j-21)=true) (b4:ak.length<=979) (aY:∀j∈ak,j<D.bs.length) (aI:∀x∈aP,¬x.pl.lt yh=true) (bh:∀x∈aP,x.pl≠⟨s,(n:Int)+1⟩):
 Calls Tryz.prog 52 #[.pointer (some ⟨bs,0,none⟩),.string s,.slice a l.length cap,.bool g] w λe w'=>∃b E a5 aW aJ,dm D O E aj a5 b ⟨⟨s,(n:Int)+1⟩,g,l.length,f⟩ aP ak aW aJ/\∃bf:Int,0<=bf/\bf<=19/\
  ((((E.put 1 (zm (zw b (n+1)))).full||decide (18<(E.put 1 (zm (zw b (n+1)))).ws.length))=true/\e=.returned (.tuple #[.int .i64 0,.int .i64 6])/\zg w' bd S {D with reads:=D.reads+bf}/\za (λj=>j=bd) w w')\/
   (((E.put 1 (zm (zw b (n+1)))).full||decide (18<(E.put 1 (zm (zw b (n+1)))).ws.length))=false/\∃v c,e=.returned (.tuple #[.int .i64 v,.int .i64 c])/\(c=0->v=(n:Int)+1)/\(c≠0->v=0)/\(∀p∈(E.put 1 (zm (zw b (n+1)))).ws,p.1<D.bs.length)/\cB w w' bs bd k S (qj {D with reads:=D.reads+bf} (E.put 1 (zm (zw b (n+1)))).ws) c)):=by
 have aR:Hid (zg w bd S D):=a4;have cC:Hid _:=ag;have bP:Hid (zL w P a l):=bn;have bt:Hid (∀j,P j->¬S j/\j≠bs):=bC;have cn:=aQ.c2;have bT:=a4.lt bd a4.bdS;have ay:Hid (∀j,S j->j<w.heap.size):=a4.lt;have hbs:=aQ.lt;change Hid _ at aQ bJ U aC hF cd ap bD bx aI bh aY bo br;clear a4 ag bn bC;go_enter Tryz.func52,Tryz.ntmps52;go_wp2_with fail;refine(cV w bd bT).mono ?_;rintro e bM ⟨rfl,aV,a6⟩;have bl:Hid (Cw bM w.heap.size bd S (λj=>j=w.heap.size) D fY):=⟨aR.kept a6 nF,aV,λj o cT=>by have:=ay.out j o;omega⟩;change Hid _ at a6;clear aV cn;go_wp2_with fail;refine(Zd bM w.heap.size bd S _ D fY bl b8 (by omega) q n (by rw [yH];exact cC)).mono ?_;rintro e w2 ⟨rfl,⟨k2,cG,cw,aS⟩,aN⟩;have cO:=aN.size;change Hid _ at aS aN;go_wp2_with fail;have aD:Hid ((w2.alloc (.cells #[.int .i64 (q:Int),.int .i64 ((n:Int)+1)] 145)).heap[w2.heap.size]? =some (.cells #[.int .i64 (q:Int),.int .i64 ((n:Int)+1)] 145 (0,0))):=ac w2 _;have aL:Hid (za (λ_=>False) w2 (w2.alloc (.cells #[.int .i64 (q:Int),.int .i64 ((n:Int)+1)] 145))):=za.alloc _ _ _;have G:(w2.alloc (.cells #[.int .i64 (q:Int),.int .i64 ((n:Int)+1)] 145)).heap.size=w2.heap.size+1:=by simp
 generalize (w2.alloc (.cells #[.int .i64 (q:Int),.int .i64 ((n:Int)+1)] 145))=t at*;have cH:w.heap.size<bM.heap.size:=bl.chg.lt _ rfl;have W:Hid (za (λi=>i=bd) w t):=((a6.mono fE).trans aN iL).trans aL fE;have bb:Hid (zL t (λj=>P j/\j<w.heap.size) a l):=(bP.mono (λi aH h2=>⟨aH,h2⟩)).kept W (λj o K=>(bt j o.1).1 (by rw [K];exact aR.bdS))
 have T:Hid (∀u,za (λ_=>False) t u->Calls Tryz.prog 75 #[.pointer (some ⟨w.heap.size,0,none⟩),.slice a l.length cap] u λe w'=>e=.returned (.int .i64 (f:Int))/\(∃(n:Int) (ce:Nat->Prop),0<=n/\n<=3/\Cw w' w.heap.size bd S ce {D with reads:=D.reads+k2+n} O/\∀j,ce j->j=w.heap.size\/u.heap.size<=j)/\za (λj=>j=bd\/j=w.heap.size) u w'):=λu b9=>
  XM u w.heap.size bd S (λj=>j=w.heap.size) {D with reads:=D.reads+k2} fY ((aS.kept0 aL).kept0 b9) m (by rw [yH];exact bJ) (by show 0<=D.reads+k2;omega) (by show D.reads+k2<=_;omega) (λj=>P j/\j<w.heap.size) a cap l (bb.kept b9 nF) (λj o K=>by omega) (λj o K=>(bt j o.1).1 (by rw [K];exact aR.bdS)) cv bX bY bO (by show 0<600;omega) f O aj U.out
 have aZ:Hid (za (λ_=>False) t (t.alloc (.cells #[.string ⟨#[]⟩,.int .i64 0,.bool false,.int .i64 0,.int .i64 0] 109)).drew):=(za.alloc _ _ _).trans (za.drew _ _) iL;have aO:(t.alloc (.cells #[.string ⟨#[]⟩,.int .i64 0,.bool false,.int .i64 0,.int .i64 0] 109)).heap.size=t.heap.size+1:=by simp
 have bN:=aO;have b0:t.drew.heap.size=t.heap.size:=rfl;have ct:t.cell? ⟨w2.heap.size,1,none⟩=some (.int .i64 ((n:Int)+1)):=cR aD.out rfl;have cc:¬w2.heap.size=t.heap.size:=by omega
 have bK:¬t.heap.size=w2.heap.size:=by omega
 have a1:Hid (∀j,w2.heap.size<=j->¬(j=bd\/j=w.heap.size)):=λj o be=>by omega
 have aA:Hid _:=G;clear G
 go_region_held3 (λw'=>w'.cell? ⟨w2.heap.size,1,none⟩=some (.int .i64 ((n:Int)+1))) (go_keep) ((go_at_call 75;have G:=aA.out;first
  |(refine(T t.drew (za.drew (λ_=>False) t)).mono ?_;rintro r d ⟨rfl,⟨A,aG,bL,bF,ab,ae⟩,F⟩;have Q:Hid _:=ab;have af:Hid _:=ae;have a7:Hid _:=F;have ai:=F.size;have y:Hid _:=((za.drew (λ_=>False) t).mono fE).trans F iL;have L:Hid (d.heap[w2.heap.size]? =some (.cells #[.int .i64 (q:Int),.int .i64 ((n:Int)+1)] 145 (0,0))):=(y.block _ (show w2.heap.size<t.heap.size by omega) (a1 _ (aF _))).trans aD.out;have aT:d.cell? ⟨w2.heap.size,1,none⟩=some (.int .i64 ((n:Int)+1)):=(cR L.out rfl);have a3:¬w2.heap.size=d.heap.size:=(by have:t.heap.size<=d.heap.size:=y.size;omega);clear ab ae F G)
  |(refine(T (t.alloc (.cells #[.string ⟨#[]⟩,.int .i64 0,.bool false,.int .i64 0,.int .i64 0] 109)).drew aZ).mono ?_;rintro r d ⟨rfl,⟨A,aG,bL,bF,ab,ae⟩,F⟩;have Q:Hid _:=ab;have af:Hid _:=ae;have a7:Hid _:=F;have ai:=F.size;have y:Hid _:=((aZ).mono fE).trans F iL;have L:Hid (d.heap[w2.heap.size]? =some (.cells #[.int .i64 (q:Int),.int .i64 ((n:Int)+1)] 145 (0,0))):=(y.block _ (show w2.heap.size<t.heap.size by omega) (a1 _ (aF _))).trans aD.out;have aT:d.cell? ⟨w2.heap.size,1,none⟩=some (.int .i64 ((n:Int)+1)):=(cR L.out rfl);have a3:¬w2.heap.size=d.heap.size:=(by have:t.heap.size<=d.heap.size:=y.size;omega);have z:Hid (d.heap[t.heap.size]? =some (.cells #[.string ⟨#[]⟩,.int .i64 0,.bool false,.int .i64 0,.int .i64 0] 109 (0,0))):=(F.block t.heap.size (show t.heap.size<(t.alloc (.cells #[.string ⟨#[]⟩,.int .i64 0,.bool false,.int .i64 0,.int .i64 0] 109)).heap.size by rw [aO];omega) (a1 _ (show w2.heap.size<=t.heap.size by omega))).trans (ac t _);have cg:d.cell? ⟨t.heap.size,0,none⟩=some (.string ⟨#[]⟩):=(cR z.out rfl);have cj:=aa d t.heap.size 0 _ _ z.out;have cm:d.cell? ⟨t.heap.size,1,none⟩=some (.int .i64 0):=(cR z.out rfl);have b2:=aa d t.heap.size 1 _ _ z.out;have ck:d.cell? ⟨t.heap.size,2,none⟩=some (.bool false):=(cR z.out rfl);have bR:=aa d t.heap.size 2 _ _ z.out;have cb:d.cell? ⟨t.heap.size,3,none⟩=some (.int .i64 0):=(cR z.out rfl);have bQ:=aa d t.heap.size 3 _ _ z.out;have ch:d.cell? ⟨t.heap.size,4,none⟩=some (.int .i64 0):=(cR z.out rfl);have ca:=aa d t.heap.size 4 _ _ z.out;clear ab ae F G)))
 case' refine_2.refine_3.refine_3.refine_3.refine_3.refine_3.refine_3.refine_3.refine_3.refine_3.refine_1.refine_2.refine_3.refine_1.refine_2.refine_1.refine_2=>
  have G:=aA.out;have aX:=y.size;have R:Hid ((d.alloc (.cells #[.string s,.int .i64 ((n:Int)+1),.bool g,.int .i64 (l.length:Int),.int .i64 (f:Int)] 109)).heap[d.heap.size]? =some (.cells #[.string s,.int .i64 ((n:Int)+1),.bool g,.int .i64 (l.length:Int),.int .i64 (f:Int)] 109 (0,0))):=ac d _;have al:Hid ((d.alloc (.cells #[.string s,.int .i64 ((n:Int)+1),.bool g,.int .i64 (l.length:Int),.int .i64 (f:Int)] 109)).heap[w2.heap.size]? =some (.cells #[.int .i64 (q:Int),.int .i64 ((n:Int)+1)] 145 (0,0))):=((za.alloc (λ_=>False) d _).block _ (by omega) id).trans L.out;have bi:Hid (Cw (d.alloc (.cells #[.string s,.int .i64 ((n:Int)+1),.bool g,.int .i64 (l.length:Int),.int .i64 (f:Int)] 109)) w.heap.size bd S aG {D with reads:=D.reads+k2+A} O):=Q.kept0 (za.alloc _ _ _);have bp:Hid (za (λj=>j=bd) w (d.alloc (.cells #[.string s,.int .i64 ((n:Int)+1),.bool g,.int .i64 (l.length:Int),.int .i64 (f:Int)] 109))):=(W.trans y (λj o=>o.elim .inl (λh=>.inr (by omega)))).trans (za.alloc (λ_=>False) _ _) fE
  have aq:Hid (∀j,aG j->w.heap.size<=j/\j≠d.heap.size/\j≠w2.heap.size):=λj o=>by
   have aH:=Q.chg.lt j o;rcases af j o with h2|h2;.omega
   .have bS:t.heap.size<=j:=h2;omega
  have a2:(d.alloc (.cells #[.string s,.int .i64 ((n:Int)+1),.bool g,.int .i64 (l.length:Int),.int .i64 (f:Int)] 109)).heap.size=d.heap.size+1:=by simp
  have bI:w2.heap.size<d.heap.size/\d.heap.size<(d.alloc (.cells #[.string s,.int .i64 ((n:Int)+1),.bool g,.int .i64 (l.length:Int),.int .i64 (f:Int)] 109)).heap.size:=by omega
  clear G aX a2;generalize (d.alloc (.cells #[.string s,.int .i64 ((n:Int)+1),.bool g,.int .i64 (l.length:Int),.int .i64 (f:Int)] 109))=X at*;generalize d.heap.size=aE at*;clear Q af a7 y L aT a3 ai
 case' refine_2.refine_3.refine_3.refine_3.refine_3.refine_3.refine_3.refine_3.refine_3.refine_3.refine_2.refine_1.refine_2.refine_1.refine_2.refine_3.refine_1.refine_2=>
  have G:=aA.out;have aX:=y.size;obtain⟨bk,ad⟩:=kJ d t.heap.size 109 _ _ _ _ _ (.string s) (.int .i64 ((n:Int)+1)) (.bool g) (.int .i64 (l.length:Int)) (.int .i64 (f:Int)) z.out;have R:Hid ((((((d.setCell ⟨t.heap.size,0,none⟩ (.string s)).setCell ⟨t.heap.size,1,none⟩ (.int .i64 ((n:Int)+1))).setCell ⟨t.heap.size,2,none⟩ (.bool g)).setCell ⟨t.heap.size,3,none⟩ (.int .i64 (l.length:Int))).setCell ⟨t.heap.size,4,none⟩ (.int .i64 (f:Int))).heap[t.heap.size]? =some (.cells #[.string s,.int .i64 ((n:Int)+1),.bool g,.int .i64 (l.length:Int),.int .i64 (f:Int)] 109 (0,0))):=bk;have al:Hid ((((((d.setCell ⟨t.heap.size,0,none⟩ (.string s)).setCell ⟨t.heap.size,1,none⟩ (.int .i64 ((n:Int)+1))).setCell ⟨t.heap.size,2,none⟩ (.bool g)).setCell ⟨t.heap.size,3,none⟩ (.int .i64 (l.length:Int))).setCell ⟨t.heap.size,4,none⟩ (.int .i64 (f:Int))).heap[w2.heap.size]? =some (.cells #[.int .i64 (q:Int),.int .i64 ((n:Int)+1)] 145 (0,0))):=(ad.block _ (by omega) (by omega)).trans L.out
  have ah:∀j,aG j->w.heap.size<=j/\j≠t.heap.size/\j≠w2.heap.size:=λj o=>by
   rcases af j o with h2|h2;.omega
   .have bS:(t.alloc (.cells #[.string ⟨#[]⟩,.int .i64 0,.bool false,.int .i64 0,.int .i64 0] 109)).heap.size<=j:=h2;omega
  have aq:Hid _:=ah;have bi:Hid _:=Q.kept ad (λj o K=>by have:=ay.out j o;omega) (λj o K=>(ah j o).2.1 K);have bp:Hid _:=(W.trans y (λj o=>o.elim .inl (λh=>.inr (by omega)))).trans ad (λj o=>.inr (by omega));have a2:=ad.size
  have bI:w2.heap.size<t.heap.size/\t.heap.size<(((((d.setCell ⟨t.heap.size,0,none⟩ (.string s)).setCell ⟨t.heap.size,1,none⟩ (.int .i64 ((n:Int)+1))).setCell ⟨t.heap.size,2,none⟩ (.bool g)).setCell ⟨t.heap.size,3,none⟩ (.int .i64 (l.length:Int))).setCell ⟨t.heap.size,4,none⟩ (.int .i64 (f:Int))).heap.size:=by have:=(lT z);omega
  clear G aX a2 bk ad ah;generalize (((((d.setCell ⟨t.heap.size,0,none⟩ (.string s)).setCell ⟨t.heap.size,1,none⟩ (.int .i64 ((n:Int)+1))).setCell ⟨t.heap.size,2,none⟩ (.bool g)).setCell ⟨t.heap.size,3,none⟩ (.int .i64 (l.length:Int))).setCell ⟨t.heap.size,4,none⟩ (.int .i64 (f:Int)))=X at*;clear Q af a7 y L z aT a3 ai cg cm ck cb ch cj b2 bR bQ ca;clear T aZ aO bN b0 ct cc bK aA aD aL W bb;generalize t.heap.size=aE at*
 all_goals
  have cz:X.cell? ⟨w2.heap.size,0,none⟩=some (.int .i64 (q:Int)):=cR al.out rfl;have K:X.cell? ⟨aE,0,none⟩=some (.string s):=cR R.out rfl;have co:X.cell? ⟨aE,1,none⟩=some (.int .i64 ((n:Int)+1)):=cR R.out rfl;have cu:X.cell? ⟨aE,2,none⟩=some (.bool g):=cR R.out rfl;have cE:X.cell? ⟨aE,3,none⟩=some (.int .i64 (l.length:Int)):=cR R.out rfl;have cy:X.cell? ⟨aE,4,none⟩=some (.int .i64 (f:Int)):=cR R.out rfl;go_wp2_with fail
 all_goals
  have bj:O.ws.length<500:=by have aH:=bm (C:=fY) (D:=D) (m:=m) (by rw [yH];exact bJ) bO (zW l) f O aj U.out;have h2:=aH.2.1;have bS:fY.ws.length=0:=rfl;rw [yW] at h2;omega
  obtain⟨b,E,a5,aW,aJ,bg,cP⟩:=Yd w.heap.size bd S aG D bO ⟨⟨s,(n:Int)+1⟩,g,l.length,f⟩ cd ap O aj q aP ak hF bD bx b4 aC.chn aI bh bj;have bZ:=bg.lt;have cI:E.ws.length<800:=by have:=bg.few;omega
  change Hid _ at bg;clear bj;refine(cP.go X (D.reads+k2+A) (by omega) (by omega) bi).mono ?_;clear cP;rintro x u5 ⟨rfl,⟨H,bW,cs,cp,bz,bu⟩,ax⟩;have cL:=ax.size
  have bv:¬(w2.heap.size=bd\/aG w2.heap.size):=λbe=>by
   rcases be with h|h;.omega
   .exact(aq _ h).2.2 rfl
  have a8:Hid (u5.heap[w2.heap.size]? =some (.cells #[.int .i64 (q:Int),.int .i64 ((n:Int)+1)] 145 (0,0))):=(ax.block _ (by omega) bv).trans al.out;have cF:u5.cell? ⟨w2.heap.size,0,none⟩=some (.int .i64 (q:Int)):=cR a8.out rfl;have cA:u5.frozen? ⟨w2.heap.size,0,none⟩=false:=aa u5 w2.heap.size 0 _ _ a8.out;have aM:Hid ((u5.setCell ⟨w2.heap.size,0,none⟩ (.int .i64 (b:Int))).heap[w2.heap.size]? =some (.cells #[.int .i64 (b:Int),.int .i64 ((n:Int)+1)] 145 (0,0))):=heap_setCell_same u5 w2.heap.size 0 _ _ (.int .i64 (b:Int)) a8.out;have bA:Hid _:=za.setCell (S:=λj=>j=w2.heap.size) u5 ⟨w2.heap.size,0,none⟩ (.int .i64 (b:Int)) rfl;have cx:(u5.setCell ⟨w2.heap.size,0,none⟩ (.int .i64 (b:Int))).cell? ⟨w2.heap.size,0,none⟩=some (.int .i64 (b:Int)):=cR aM.out rfl;have cq:(u5.setCell ⟨w2.heap.size,0,none⟩ (.int .i64 (b:Int))).cell? ⟨w2.heap.size,1,none⟩=some (.int .i64 ((n:Int)+1)):=cR aM.out rfl;have cK:(u5.setCell ⟨w2.heap.size,0,none⟩ (.int .i64 (b:Int))).heap.size=u5.heap.size:=by simp
  have ao:∀j,bW j->j≠w2.heap.size/\w.heap.size<=j:=λj o=>by
   rcases bu j o with h|h;.have:=aq.out j h;omega
   .omega
  have bU:Hid _:=bz.kept bA (λj o K=>by have:=ay.out j o;omega) (λj o K=>(ao j o).1 K);change Hid _ at bz bu ax ao;clear bv K co cu cE cy cz;go_wp2_with fail
 all_goals
  have ar:((n+1:Nat):Int)=(n:Int)+1:=by omega
  have aU:=v5 (u5.setCell ⟨w2.heap.size,0,none⟩ (.int .i64 (b:Int))) w.heap.size bd S bW {D with reads:=D.reads+k2+A+H} E bU b (n+1) bZ (by omega) (by omega);rw [ar] at aU;clear ar cx;generalize (u5.setCell ⟨w2.heap.size,0,none⟩ (.int .i64 (b:Int)))=cU at*;refine aU.mono ?_;clear aU;rintro x u7 ⟨rfl,⟨b1,an,b3⟩,am⟩;have cN:=am.size;have b7:Hid (u7.heap[w2.heap.size]? =some (.cells #[.int .i64 (b:Int),.int .i64 ((n:Int)+1)] 145 (0,0))):=(am.block _ (by omega) (λbe=>(ao _ be).1 rfl)).trans aM.out
  have Y:Hid (∀k∈(E.put 1 (zm (zw b (n+1)))).keys,k<D.bs.length):=λk cr=>by
   rcases (xl E 1 _ k).1 cr with h|h
   .rcases bg.stp.keys k h with h|h|h|h|h
    .rcases aC.stp.keys k h with h|h|h|h|h;.exact(by cases h)
     .exact(by cases h)
     .exact(aC.stp.grew.fresh k h).2.1
     .omega
     .omega
    .exact aY k (bg.sub k h)
    .exact(bg.stp.grew.fresh k h).2.1
    .omega
    .omega
   .omega
  have bG:Hid _:=(bp.trans ax (λj o=>o.elim .inl (λh=>.inr (aq j h).1))).trans bA (λj o=>.inr (by omega));have Z:Hid _:=bG.trans am (λj o=>.inr (ao j o).2);change Hid _ at an b3 am;clear cq cF cA;generalize az:E.put 1 (zm (zw b (n+1)))=V at*
  cases B:(V.full||decide (18<V.ws.length)) with
  |true=>
   have M:Hid _:=B;have J:Hid _:=az;clear B az;go_wp2_with (go_at_call 78;refine(Ys u7 bs w.heap.size bd b1 V an.chg M).mono ?_;rintro x N ⟨rfl,bq⟩;rw [bq];clear bq N);refine bodyPost_ret (results_tmp2 rfl _ _ _) rfl ?_;refine⟨b,E,a5,aW,aJ,bg,k2+A+H,by omega,by omega,.inl ⟨?_,rfl,?_,Z⟩⟩;.rw [J.out];exact M.out
   .have:=an.disk;rw [a9,a9] at this;rw [a9];exact this
  |false=>
   have M:Hid _:=B;have J:Hid _:=az
   have cf:V.ws.length<=18:=by simp only [lg,decide_eq_false_iff_not] at B;omega
   have bB:Hid (Calls Tryz.prog 78 #[.pointer (some ⟨bs,0,none⟩),.pointer (some ⟨w.heap.size,0,none⟩)] u7 λe w'=>∃c,e=.returned (.int .i64 c)/\cB u7 w' bs bd k S (qj {D with reads:=D.reads+k2+A+H} V.ws) c):=
    bw u7 bs w.heap.size bd k S b1 {D with reads:=D.reads+k2+A+H} V an (aQ.kept Z (λe=>cl (by rw [show bs=bd from e];exact aR.bdS))) cl B (λp ba=>by have:=Y.out p.1 (au.2 ⟨p,ba,rfl⟩);omega) br (by show D.ps.length<=_;rw [bo.out];simp)
   have bE:Hid (({D with reads:=D.reads+(k2+A+H)}:Dk)={D with reads:=D.reads+k2+A+H }):=by show ({D with reads:=D.reads+(k2+A+H)}:Dk)=_;rw [a9 k2 A H,a9 (D.reads+k2) A H,a9 D.reads k2]
   clear B az cf;have b6:w2.heap.size<u7.heap.size:=by omega
   have ci:Hid (¬(S w2.heap.size\/w2.heap.size=bs)):=λh=>h.elim (λh=>by have:=ay.out _ h;omega) (λh=>by have:=aQ.lt;omega)
   have T:Hid (∀N c,cB u7 N bs bd k S (qj {D with reads:=D.reads+k2+A+H} V.ws) c->cB w N bs bd k S (qj {D with reads:=D.reads+k2+A+H} V.ws) c):=λN c av=>
    ⟨av.code,av.sto,by obtain⟨cD,aH,h2⟩:=av.disk;exact⟨cD,aH,λj o=>(h2 j o).imp id (λh=>by have:=Z.size;omega)⟩,(Z.mono (λj o=>.inl (by rw [o];exact aR.bdS))).trans av.kept iL⟩
   cases ag:(qj {D with reads:=D.reads+k2+A+H} V.ws).1 with
   |true=>
    have a0:Hid _:=ag;clear ag;go_wp2_with (go_at_call 78;refine bB.mono ?_;rintro x N ⟨bH,rfl,I⟩;obtain rfl:bH=0:=(by have bc:=I.code;rw [aB a0.out] at bc;exact bc);have aK:Hid _:=I;have b5:Hid (N.heap[w2.heap.size]? =_):=(I.kept.block _ b6 ci).trans b7.out;have cS:N.cell? ⟨w2.heap.size,1,none⟩=some (.int .i64 ((n:Int)+1)):=(cR b5.out rfl);clear I);refine bodyPost_ret (results_tmp2 rfl _ _ _) rfl ?_;refine⟨b,E,a5,aW,aJ,bg,k2+A+H,by omega,by omega,.inr ⟨?_,_,_,rfl,λ_=>rfl,λh=>absurd rfl h,by rw [J.out];exact λp ba=>Y p.1 (au.2 ⟨p,ba,rfl⟩),?_⟩⟩;.rw [J.out];exact M.out
    .rw [J.out,bE.out];exact T N _ aK.out
   |false=>
    have a0:Hid _:=ag;clear ag;go_wp2_with (go_at_call 78;refine bB.mono ?_;rintro x N ⟨bH,rfl,I⟩;obtain rfl:bH=7:=(by have bc:=I.code;rw [aw (by rw [a0.out];simp)] at bc;exact bc);have aK:Hid _:=I;clear I);refine bodyPost_ret (results_tmp2 rfl _ _ _) rfl ?_;refine⟨b,E,a5,aW,aJ,bg,k2+A+H,by omega,by omega,.inr ⟨?_,_,_,rfl,λh=>by omega,λ_=>rfl,by rw [J.out];exact λp ba=>Y p.1 (au.2 ⟨p,ba,rfl⟩),?_⟩⟩;.rw [J.out];exact M.out
    .rw [J.out,bE.out];exact T N _ aK.out
theorem cB.onto{w w':World}{bs bd:Nat}{k:Int}{S:Nat->Prop}{D':Dk}{c:Int}(b:zu w bs k (some bd))(h:cB w w' bs bd k S (true,D') c):c=0/\q9 w w' bd S D':=by
 refine⟨h.code,h.disk,h.kept.os,h.kept.tape,h.kept.output,h.kept.size,λj a f=>?_⟩;by_cases e:j=bs
 .subst e;exact h.sto.at_.trans b.at_.symm
 .exact h.kept.block j a (λd=>d.elim f e)
theorem di(w:World)(bs bd:Nat)(S:Nat->Prop)(D:Dk)(k:Int)(X:zu w bs k (some bd))(ad:zg w bd S D)(ak:¬S bs)(R:0<=D.reads)(Y:D.reads<=4611686018427350000)(C:D.ps=[])(E:D.fuse= -1)(ab:64<=D.bs.length)(al:D.bs.length<=1000)
 (q n:Nat) (af:qV (D.look 1) q n) (ac:n<4611686018427387904) (m:List UInt8) (am:qF (D.look 2) m) (d:ByteArray) (i:Bool) (P:Nat->Prop) (a:Option Addr) (cap:Nat) (l:List UInt8) (T:zL w P a l) (U:∀j,P j->¬S j/\j≠bs) (aj:l.length<=300) (O:l.length<=cap) (V:cap<=9223372036854775807)
 (r:List En) (o:List Nat) (f:Nat) (s:Ck) (t:List UInt8) (y:fY.body D.bs.length m (zW l)=(f,s,t)) (A:List Nat) (Z:Jv D fY s m t f (zW l) A) (ao:(⟨⟨d,(n:Int)+1⟩,i,l.length,f⟩:En).Ok) (z:¬(⟨d,(n:Int)+1⟩:Pl).lt yh=true)
 (hF:q8 (λj=>s.look D (j:Nat)) q r o) (W:o.Nodup) (N:∀j∈o,21<=j/\zU t (j-21)=true) (K:o.length<=979) (J:∀j∈o,j<D.bs.length) (F:∀x∈r,¬x.pl.lt yh=true) (L:∀x∈r,x.pl≠⟨d,(n:Int)+1⟩):
 Calls Tryz.prog 52 #[.pointer (some ⟨bs,0,none⟩),.string d,.slice a l.length cap,.bool i] w λe w'=>∃b g G I H,dm D s g t G b ⟨⟨d,(n:Int)+1⟩,i,l.length,f⟩ r o I H/\∃p:Int,0<=p/\p<=19/\
  ((((g.put 1 (zm (zw b (n+1)))).full||decide (18<(g.put 1 (zm (zw b (n+1)))).ws.length))=true/\e=.returned (.tuple #[.int .i64 0,.int .i64 6])/\zg w' bd S {D with reads:=D.reads+p}/\za (λj=>j=bd) w w')\/
   (((g.put 1 (zm (zw b (n+1)))).full||decide (18<(g.put 1 (zm (zw b (n+1)))).ws.length))=false/\e=.returned (.tuple #[.int .i64 ((n:Int)+1),.int .i64 0])/\q9 w w' bd S {D with bs:=up D.bs (g.put 1 (zm (zw b (n+1)))).ws,reads:=D.reads+p })):=by
 refine(JA w bs bd S D k X ad ak R Y C (by rw [E];constructor<;>omega) ab al q n af ac m am d i P a cap l T U aj O V r o f s t y A Z ao z hF W N K J F L).mono ?_;rintro e w' ⟨b,g,G,I,H,ah,p,ae,ag,h⟩;refine⟨b,g,G,I,H,ah,p,ae,ag,h.imp id ?_⟩;rintro⟨Q,v,c,rfl,an,_,u,B⟩
 have aa:(g.put 1 (zm (zw b (n+1)))).ws.length<=18:=by have:=Q;simp only [lg,decide_eq_false_iff_not] at this;omega
 have M:=(XE (D:={D with reads:=D.reads+p }) E C (by show 21<=D.bs.length;omega) u aa).2;rw [M] at B;obtain⟨rfl,ai⟩:=B.onto X;rw [an rfl];exact⟨Q,rfl,ai⟩
theorem JB(w:World)(bs:Nat)(q:Option Nat)(l:zu w bs 0 q)(b:ByteArray)(o:b.size<=maxLen)(c:zq b.data.toList=false)(a:Option Addr)(n cap:Nat):
 Calls Tryz.prog 27 #[.pointer (some ⟨bs,0,none⟩),.string b,.slice a n cap] w λe w'=>e=.returned (.tuple #[.int .i64 0,.int .i64 2])/\zu w' bs 0 q/\za (λk=>k=bs) w w':=by
 change Hid _ at l c;go_enter_defers Tryz.func27,Tryz.ntmps27
 go_wp2_with (first
  |(go_at_call 47;refine(qd l).mono ?_;rintro e m ⟨rfl,d,g⟩;change Hid _ at d g)
  |(go_at_call 49;refine(keys.ql b m o).mono ?_;rintro e w2 ⟨rfl,h⟩;rw [h,c.out];clear h w2))
 refine leaves_cons (f:= 48) (args:=#[.pointer (some ⟨bs,0,none⟩)]) (by simp) (by simp [go_sem]) ?_;refine(qc d).mono ?_;rintro e u' w2 ⟨rfl,rfl,j,i⟩;exact⟨_,results_tmp2 Tryz.results27 _ _ _,rfl,j,g.trans i iL⟩
theorem JC(w:World)(bs:Nat)(q:Option Nat)(l:zu w bs 0 q)(b:ByteArray)(o:b.size<=maxLen)(c:zq b.data.toList=true)(a:Option Addr)(n cap:Nat)(r:300<n):
 Calls Tryz.prog 27 #[.pointer (some ⟨bs,0,none⟩),.string b,.slice a n cap] w λe w'=>e=.returned (.tuple #[.int .i64 0,.int .i64 3])/\zu w' bs 0 q/\za (λk=>k=bs) w w':=by
 have p:(300:Int)<(n:Int):=by omega
 change Hid _ at l c;go_enter_defers Tryz.func27,Tryz.ntmps27
 go_wp2_with (first
  |(go_at_call 47;refine(qd l).mono ?_;rintro e m ⟨rfl,d,g⟩;change Hid _ at d g)
  |(go_at_call 49;refine(keys.ql b m o).mono ?_;rintro e w2 ⟨rfl,h⟩;rw [h,c.out];clear h w2))
 refine leaves_cons (f:= 48) (args:=#[.pointer (some ⟨bs,0,none⟩)]) (by simp) (by simp [go_sem]) ?_;refine(qc d).mono ?_;rintro e u' w2 ⟨rfl,rfl,j,i⟩;exact⟨_,results_tmp2 Tryz.results27 _ _ _,rfl,j,g.trans i iL⟩
theorem Ui(w:World)(bs:Nat)(l:zu w bs 0 none)(b:ByteArray)(o:b.size<=maxLen)(d:zq b.data.toList=true)(a:Option Addr)(n cap:Nat)(r:n<=300):
 Calls Tryz.prog 27 #[.pointer (some ⟨bs,0,none⟩),.string b,.slice a n cap] w λe w'=>e=.returned (.tuple #[.int .i64 0,.int .i64 8])/\zu w' bs 0 none/\za (λk=>k=bs) w w':=by
 have p:¬(300:Int)<(n:Int):=by omega
 change Hid _ at l d;go_enter_defers Tryz.func27,Tryz.ntmps27
 go_wp2_with (first
  |(go_at_call 47;refine(qd l).mono ?_;rintro e m ⟨rfl,c,g⟩;have q:=c.c2;change Hid _ at c g)
  |(go_at_call 49;refine(keys.ql b m o).mono ?_;rintro e w2 ⟨rfl,h⟩;rw [h,d.out];clear h w2))
 refine leaves_cons (f:= 48) (args:=#[.pointer (some ⟨bs,0,none⟩)]) (by simp) (by simp [go_sem]) ?_;refine(qc c).mono ?_;rintro e u' w2 ⟨rfl,rfl,j,i⟩;exact⟨_,results_tmp2 Tryz.results27 _ _ _,rfl,j,g.trans i iL⟩
structure vR (w w':World) (bs bd:Nat) (S:Nat->Prop) (D:Dk) (k:Int) (q:Option Nat):Prop where
 sto:zu w' bs k q
 disk:∃S',zg w' bd S' D/\∀k,S' k->S k\/w.heap.size<=k
 kept:za (λk=>S k\/k=bs) w w'
theorem U6(w:World)(bs bd:Nat)(S:Nat->Prop)(D:Dk)(F:zu w bs 0 (some bd))(I:zg w bd S D)(U:¬S bs)(b:ByteArray)(T:b.size<=maxLen)(m:zq b.data.toList=true)(P:Nat->Prop)(a:Option Addr)(cap:Nat)(l:List UInt8)(x:zL w P a l)(y:∀j,P j->¬S j/\j≠bs)(aa:l.length<=300)(Q:Int->Int->Dk->Option Nat->Prop)
 (n:∀w',zu w' bs 1 (some bd)->zg w' bd S D->zL w' P a l->Calls Tryz.prog 52 #[.pointer (some ⟨bs,0,none⟩),.string b,.slice a l.length cap,.bool false] w' λe p=>∃v c D' q,e=.returned (.tuple #[.int .i64 v,.int .i64 c])/\vR w' p bs bd S D' 1 q/\Q v c D' q):
 Calls Tryz.prog 27 #[.pointer (some ⟨bs,0,none⟩),.string b,.slice a l.length cap] w λe w'=>∃v c D' q,e=.returned (.tuple #[.int .i64 v,.int .i64 c])/\Q v c D' q/\vR w w' bs bd S D' 0 q:=by
 have V:Hid (zg w bd S D):=I;have L:Hid (zq b.data.toList=true):=m;have M:Hid (zL w P a l):=x;have H:Hid (∀j,P j->¬S j/\j≠bs):=y;have R:Hid (∀j,S j->j≠bs):=λj d e=>U (by rw [<-e];exact d);have C:Hid (∀w',zu w' bs 1 (some bd)->zg w' bd S D->zL w' P a l->Calls Tryz.prog 52 #[.pointer (some ⟨bs,0,none⟩),.string b,.slice a l.length cap,.bool false] w' λe p=>∃v c D' q,e=.returned (.tuple #[.int .i64 v,.int .i64 c])/\vR w' p bs bd S D' 1 q/\Q v c D' q):=n;have W:¬(300:Int)<(l.length:Int):=by omega
 have hbs:=F.lt;change Hid _ at F;clear I m x y n;go_enter_defers Tryz.func27,Tryz.ntmps27
 go_wp2_with (first
  |(go_at_call 47;refine(qd F).mono ?_;rintro e i ⟨rfl,o,s⟩;have g:Hid (za (λk=>k=bs) w i):=s;have Z:i.cell? ⟨bs,2,none⟩=some (.pointer (some ⟨bd,0,none⟩)):=o.c2;change Hid _ at o;clear s)
  |(go_at_call 49;refine(keys.ql b i T).mono ?_;rintro e w2 ⟨rfl,t⟩;rw [t,L.out];clear t w2)
  |(go_at_call 52;refine(C i o (V.kept g R) (M.kept g (λj d r=>(H j d).2 r))).mono ?_;rintro e w2 ⟨v,c,D',q,rfl,A,B⟩;have N:Hid (vR i w2 bs bd S D' 1 q):=A;have O:PLift (Q v c D' q):=⟨B⟩;clear A B))
 refine leaves_cons (f:= 48) (args:=#[.pointer (some ⟨bs,0,none⟩)]) (by simp) (by simp [go_sem]) ?_;obtain⟨E,⟨S',G,u⟩,J⟩:=N.out;refine(qc E).mono ?_;rintro e u' X ⟨rfl,rfl,K,z⟩;have Y:=g.size;refine⟨_,results_tmp2 Tryz.results27 _ _ _,v,c,D',q,rfl,O.down,K,⟨S',G.kept z (λj d r=>?_),λj d=>?_⟩,?_⟩
 .rcases u j d with h|h;.exact R j h r
  .have ab:j=bs:=r;omega
 .rcases u j d with h|h;.exact .inl h
  .exact .inr (by omega)
 .exact((g.mono (S':=λk=>S k\/k=bs) (λ_ h=>.inr h)).trans J iL).trans z (λ_ h=>.inl (.inr h))
theorem bz(w:World)(bd:Nat)(S:Nat->Prop)(D:Dk)(h:zg w bd S D):Calls Tryz.prog 54 #[.pointer (some ⟨bd,0,none⟩)] w λe w'=>e=.returned (.int .i64 D.bs.length)/\w'=w:=by
 obtain⟨a,b,d,c,h⟩:=h;exact jq w bd S D a b d c h
theorem XQ(w:World)(bd:Nat)(S:Nat->Prop)(D:Dk)(b:zg w bd S D)(f:D.bs.length<64):
 Calls Tryz.prog 35 #[.pointer (some ⟨bd,0,none⟩)] w λe w'=>e=.returned (.tuple #[.pointer none,.int .i64 1])/\w'=w:=by
 have d:(D.bs.length:Int)<64:=by omega
 change Hid _ at b;go_enter Tryz.func35,Tryz.ntmps35;go_wp2_with (go_at_call 54;refine(bz w bd S D b).mono ?_;rintro e c ⟨rfl,a⟩;rw [a];clear a c);refine bodyPost_ret (results_tmp2 rfl _ _ _) rfl ?_;exact⟨rfl,rfl⟩
theorem Zh(w:World)(bd:Nat)(S:Nat->Prop)(D D':Dk)(f:zg w bd S D)(n:64<=D.bs.length)(hfin:Calls Tryz.prog 55 #[.pointer (some ⟨bd,0,none⟩)] w λe w'=>e=.returned (.bool true)/\q9 w w' bd S D'):
 Calls Tryz.prog 35 #[.pointer (some ⟨bd,0,none⟩)] w λe w'=>∃bs,e=.returned (.tuple #[.pointer (some ⟨bs,0,none⟩),.int .i64 0])/\w.heap.size<=bs/\zu w' bs 0 (some bd)/\∃S',zg w' bd S' D'/\(∀k,S' k->S k\/w.heap.size<=k)/\¬S' bs/\za S w w':=by
 have l:Hid (zg w bd S D):=f;have m:¬(D.bs.length:Int)<64:=by omega
 have d:Hid (Calls Tryz.prog 55 #[.pointer (some ⟨bd,0,none⟩)] w λe w'=>e=.returned (.bool true)/\q9 w w' bd S D'):=hfin;clear f hfin;go_enter Tryz.func35,Tryz.ntmps35
 go_wp2_with (first
  |(go_at_call 54;refine(bz w bd S D l).mono ?_;rintro e a ⟨rfl,c⟩;rw [c];clear c a)
  |(go_at_call 55;refine d.mono ?_;rintro e a ⟨rfl,b⟩;change Hid _ at b))
 refine bodyPost_ret (results_tmp2 rfl _ _ _) rfl ?_;obtain⟨⟨S',i,h2⟩,g⟩:=b.out;have j:=za.alloc (λ_=>False) a (.cells #[.int .i32 0,.int .u32 0,.pointer (some ⟨bd,0,none⟩)] 104);exact⟨a.heap.size,rfl,g.size,⟨ac a _⟩,S',i.kept j nF,h2,λh=>by have:=i.lt _ h;omega,g.trans j fE⟩
theorem bA(w:World)(bd:Nat)(S:Nat->Prop)(D D':Dk)(d:zg w bd S D)(i:64<=D.bs.length)(hfin:Calls Tryz.prog 55 #[.pointer (some ⟨bd,0,none⟩)] w λe w'=>e=.returned (.bool false)/\q9 w w' bd S D'):
 Calls Tryz.prog 35 #[.pointer (some ⟨bd,0,none⟩)] w λe w'=>e=.returned (.tuple #[.pointer none,.int .i64 7])/\q9 w w' bd S D':=by
 have g:Hid (zg w bd S D):=d;have h:¬(D.bs.length:Int)<64:=by omega
 have c:Hid (Calls Tryz.prog 55 #[.pointer (some ⟨bd,0,none⟩)] w λe w'=>e=.returned (.bool false)/\q9 w w' bd S D'):=hfin;clear d hfin;go_enter Tryz.func35,Tryz.ntmps35
 go_wp2_with (first
  |(go_at_call 54;refine(bz w bd S D g).mono ?_;rintro e f ⟨rfl,b⟩;rw [b];clear b f)
  |(go_at_call 55;refine c.mono ?_;rintro e f ⟨rfl,a⟩;change Hid _ at a))
 refine bodyPost_ret (results_tmp2 rfl _ _ _) rfl ?_;exact⟨rfl,a⟩
theorem U7(w:World)(bs bd:Nat)(S:Nat->Prop)(D:Dk)(ad:zu w bs 0 (some bd))(z:zg w bd S D)(I:¬S bs)(am:0<=D.reads)(aM:D.reads<=4611686018427350000)(o n:Nat)(aj:qV (D.look 1) o n)(b:ByteArray)(c:Int)(aD:b.size<=maxLen)(u:zq b.data.toList=true)(ab:List En)(H:List Nat)(hF:q8 (λj=>D.look (j:Nat)) o ab H)(af:H.length<=979)(hbs:∀j∈H,21<=j)(x:En)(al:(yS ⟨b,c⟩ ab).head? =some x)(E:Gp b c (some x)=true)
 (ps:List zv) (T:y9 (λj=>D.look (j:Nat)) ps) (X:(ps.map zv.at_).Nodup) (Q:xw ps=x.at_) (l:List UInt8) (an:(ps.map zv.l).flatten=l) (O:l.length=x.size) (ah:x.size<=300) (aW:ps.length<=10):
 Calls Tryz.prog 42 #[.pointer (some ⟨bs,0,none⟩),.string b,.int .i64 c] w λe w'=>(∃a cap,e=.returned (.tuple #[.slice a l.length cap,.int .i64 0])/\w'.ownsRow 0 5 1 (.slice a l.length cap) l.length (l.map qA)/\∀k,(Value.slice a l.length cap).ownBlock=some k->w.heap.size<=k)/\zu w' bs 0 (some bd)/\(∃r:Int,D.reads<=r/\r<=D.reads+14+ps.length/\zg w' bd S {D with reads:=r })/\za (λk=>k=bd\/k=bs) w w':=by
 have aI:Hid (zg w bd S D):=z;have aN:=z.lt bd z.bdS;have aJ:=ad.lt;have L:bs≠bd:=λe=>I (by rw [e];exact z.bdS);have ao:Hid (∀j,S j->j≠bs):=λj y e=>I (by rw [<-e];exact y)
 have ak:Hid (∀w',zu w' bs 1 (some bd)->zg w' bd S D->Calls Tryz.prog 66 #[.pointer (some ⟨bs,0,none⟩),.agg #[.string b,.int .i64 c]] w' λe g=>e=.returned (.tuple #[.agg (jc (some x)).toArray,.bool true])/\(∃r:Int,D.reads<=r/\r<=D.reads+14/\zg g bd S {D with reads:=r })/\za (λi=>i=bd) w' g):=λw' aa h2=>by have:=gZ w' bs bd S D 1 aa h2 I am (by omega) o n aj ⟨b,c⟩ ab H hF af hbs;rw [al] at this;exact this
 have C:Hid (∀w' (r:Int),zu w' bs 1 (some bd)->zg w' bd S {D with reads:=r}->0<=r->r<=4611686018427360000->Calls Tryz.prog 51 #[.pointer (some ⟨bs,0,none⟩),.agg (qt x).toArray] w' λaT g=>(∃a cap,aT=.returned (.slice a l.length cap)/\g.ownsRow 0 5 1 (.slice a l.length cap) l.length (l.map qA)/\∀j,(Value.slice a l.length cap).ownBlock=some j->w'.heap.size<=j)/\(∃Z:Int,r<=Z/\Z<=r+ps.length/\zg g bd S {D with reads:=Z })/\za (λi=>i=bd) w' g):=λw' r aa h2 az ax=>dD w' bs bd S {D with reads:=r} 1 aa h2 I az ax x ps T X Q l an O ah (by omega);change Hid _ at ad u E;clear z aj hF hbs al T X Q an O;have P:jc (some x)=[.string x.pl.key,.int .i64 x.pl.num,.bool x.mark,.int .i64 (x.size:Int),.int .i64 (x.at_:Int)]:=rfl;change Hid _ at P
 have aB:x.pl.key=b/\x.pl.num=c/\x.mark=false:=by have:=E.out;simp [Gp] at this;exact⟨this.1.1,this.1.2,this.2⟩
 obtain⟨W,K,U⟩:=aB;go_enter_defers Tryz.func42,Tryz.ntmps42
 go_wp2_with (first
  |(go_at_call 47;refine(qd ad).mono ?_;rintro e d ⟨rfl,p,V⟩;have v:Hid (za (λk=>k=bs) w d):=V;have aS:=p.c2;change Hid _ at p;clear V)
  |(go_at_call 49;refine(keys.ql b d aD).mono ?_;rintro e w2 ⟨rfl,N⟩;rw [N,u.out];clear N w2))
 have s:Hid (za (λ_=>False) d (d.alloc (.cells #[.string b,.int .i64 c] 107))):=za.alloc _ _ _;have ag:Hid ((d.alloc (.cells #[.string b,.int .i64 c] 107)).heap[d.heap.size]? =some (.cells #[.string b,.int .i64 c] 107 (0,0))):=ac d _;have aO:(d.alloc (.cells #[.string b,.int .i64 c] 107)).heap.size=d.heap.size+1:=by simp
 generalize (d.alloc (.cells #[.string b,.int .i64 c] 107))=aF at*;have aP:=v.size;refine(ak aF (p.kept s id) ((aI.kept v ao).kept s nF)).mono ?_;rintro e w2 ⟨rfl,⟨ae,aC,aG,J⟩,m⟩;have ai:Hid (zg w2 bd S {D with reads:=ae }):=J;have aK:=m.size;have Y:Hid (w2.heap[d.heap.size]? =_):=(m.block _ (by omega) (by omega)).trans ag.out;change Hid _ at m;clear J;rw [P.out];have q:Hid (za (λ_=>False) w2 (w2.alloc (.cells #[.string x.pl.key,.int .i64 x.pl.num,.bool x.mark,.int .i64 (x.size:Int),.int .i64 (x.at_:Int)] 109))):=za.alloc _ _ _;have au:(w2.alloc (.cells #[.string x.pl.key,.int .i64 x.pl.num,.bool x.mark,.int .i64 (x.size:Int),.int .i64 (x.at_:Int)] 109)).heap.size=w2.heap.size+1:=by simp
 have aU:w2.cell? ⟨d.heap.size,0,none⟩=some (.string b):=cR Y.out rfl;have aV:w2.cell? ⟨d.heap.size,1,none⟩=some (.int .i64 c):=cR Y.out rfl;have av:d.heap.size<w2.heap.size:=by omega
 have aL:(x.pl.key.toList==b.toList)=true:=by rw [W];simp
 have aQ:(x.pl.num==c)=true:=by rw [K];simp
 change Hid _ at W K;have G:Hid _:=((p.kept s id).kept m L).kept q id;have M:Hid (zg (w2.alloc (.cells #[.string x.pl.key,.int .i64 x.pl.num,.bool x.mark,.int .i64 (x.size:Int),.int .i64 (x.at_:Int)] 109)) bd S {D with reads:=ae }):=ai.kept q nF;rw [U] at q G M au ⊢;unfold qt at C;rw [U] at C;go_wp2_with fail;refine(C _ ae G M (by omega) (by omega)).mono ?_;rintro e aw ⟨⟨aE,ay,rfl,A,B⟩,⟨ar,aH,aA,R⟩,F⟩;have ap:Hid (zg aw bd S {D with reads:=ar }):=R;change Hid _ at A B F;clear R;go_wp2;refine leaves_cons (f:= 48) (args:=#[.pointer (some ⟨bs,0,none⟩)]) (by simp) (by simp [go_sem]) ?_;refine(qc (G.kept F L)).mono ?_;rintro e u' aX ⟨rfl,rfl,aq,t⟩;refine⟨_,results_tmp2 rfl _ _ _,⟨aE,ay,rfl,t.owns A (λj y aR=>by have:=B.out j y;omega),λj y=>by have:=B.out j y;omega⟩,aq,⟨ar,by omega,by omega,ap.kept t ao⟩,?_⟩;exact(((((v.mono (S':=λk=>k=bd\/k=bs) (λ_ h=>.inr h)).trans s fE).trans m (λ_ h=>.inl (.inl h))).trans q fE).trans F (λ_ h=>.inl (.inl h))).trans t (λ_ h=>.inl (.inr h))
end prog
namespace prog
open keys (zh ze zy zs)
variable {w:World}{g n cap:Nat}
theorem vL(w:World)(b:Nat)(i:Int)(f:w.heap[b]? =some (.cells #[.int .i64 i] 3 (0,0)))(a:Nat)(c:List Value)(h:zT c):
 Calls Tryz.prog 184 #[.agg (.int .i64 (a:Int)::c).toArray,.pointer (some ⟨b,0,none⟩)] w λe w'=>e=.returned (.bool ((a:Int)==i))/\za (λ_=>False) w w':=by
 have d:Hid (za (λ_=>False) w (w.alloc (.cells (.int .i64 (a:Int)::c).toArray 160))):=za.alloc _ _ _;have g:=(lT f);have j:(w.alloc (.cells (.int .i64 (a:Int)::c).toArray 160)).cell? ⟨w.heap.size,0,none⟩=some (.int .i64 (a:Int)):=by rw [aG _ _ 0 _ _ _ (ac w _)];simp
 have k:(w.alloc (.cells (.int .i64 (a:Int)::c).toArray 160)).cell? ⟨b,0,none⟩=some (.int .i64 i):=cR (((d.block _ g id).trans f)) rfl;clear f;go_enter Tryz.func184,Tryz.ntmps184;go_wp2;go_ret;exact⟨rfl,d⟩
theorem bB(w:World)(K bd:Nat)(T:Nat->Prop)(C:Ck)(a:Option Addr)(cap:Nat)(h:qD w K bd T C a cap)(b:Nat)(i:Int)(B:w.heap[b]? =some (.cells #[.int .i64 i] 3 (0,0))):
 Calls Tryz.prog 201 #[.slice a C.ws.length cap,.func (.func 184) #[] #[.pointer (some ⟨b,0,none⟩)]] w λe w'=>e=.returned (.int .i64 (Gn (yg C.ws i)))/\za (λ_=>False) w w':=by
 have y:Hid _:=zZ Tryz.infoCw;have M:=h.few;have E:Hid _:=h;change Hid _ at B;clear h;go_enter Tryz.func201,Tryz.ntmps201;go_wp2;go_loopw [8] (λt wr=>∃k:Nat,k<=C.ws.length/\t=.int .i64 k/\(∀j (n:j<C.ws.length),j<k->¬(C.ws[j].1:Int)=i)/\za (λ_=>False) w wr) (λt _=>C.ws.length-(intOf t).toNat)
 case atStart=>exact⟨0,aj _,rfl,λ_ _ h=>by omega,za.refl _ _⟩
 case round=>
  obtain⟨k,N,rfl,u,c⟩:=hrel;change Hid _ at u c;by_cases p:k<C.ws.length
  .obtain⟨g,rfl⟩:=E.rowAt (by omega);have G:Hid _:=(E.kept c nF).range k p;have o:Hid (zT C.ws[k].2):=E.ok _ (ai p)
   have H:Hid (∀j (n:j<C.ws.length),j<k+1->¬(C.ws[k].1:Int)=i->¬(C.ws[j].1:Int)=i):=λj n z F=>by
    by_cases e:j=k;.subst e;exact F
    .exact u j n (by omega)
   have x:Hid ((C.ws[k].1:Int)=i->yg C.ws i=some k):=λL=>cU p u L;have A:Hid (wr.heap[b]? =some (.cells #[.int .i64 i] 3 (0,0))):=(c.block _ (lT B) id).trans B.out;generalize J:C.ws[k]=q at*;obtain⟨m,v⟩:=q;clear J;simp only at H x;by_cases d:(m:Int)=i
   .have l:((m:Int)==i)=true:=by simp [d]
    have s:Hid _:=l;have D:Hid _:=d;clear d l
    go_wp2_with (first
     |(show wpList _ _ _ ({dst:=some 15,op:=.load _ _,type:=_,pos:=_,after:=_,guard:=_}::_) _ _;refine wpList_load_mid rfl 160 (.tmp 14) rfl _ _ rfl (.int .i64 (m:Int)::v) _ G Tryz.underlying160 rfl (by rw [ae,o.1];exact y) ?_)
     |(go_at_call 184;refine(vL _ b i A m v o).mono ?_;rintro e I ⟨rfl,f⟩;rw [s.out];have r:Hid _:=f;clear f))
    go_ret;exact⟨by rw [x.out D.out];rfl,c.trans r iL⟩
   .have l:((m:Int)==i)=false:=by simpa using d
    have s:Hid _:=l;have D:Hid _:=d;clear d l
    go_wp2_with (first
     |(show wpList _ _ _ ({dst:=some 15,op:=.load _ _,type:=_,pos:=_,after:=_,guard:=_}::_) _ _;refine wpList_load_mid rfl 160 (.tmp 14) rfl _ _ rfl (.int .i64 (m:Int)::v) _ G Tryz.underlying160 rfl (by rw [ae,o.1];exact y) ?_)
     |(go_at_call 184;refine(vL _ b i A m v o).mono ?_;rintro e I ⟨rfl,f⟩;rw [s.out];have r:Hid _:=f;clear f))
    go_roundw
    case rel=>exact⟨k+1,by omega,by go_num,λj n z=>H j n z D,c.trans r iL⟩
    case measure=>simp [intOf];omega
  .have x:Hid _:=QQ (λj n=>u j n (by omega));go_wp2;go_ret;exact⟨by rw [x.out];rfl,c⟩
theorem ZY(w:World)(b q n c:Nat)(x:0<n)(l:w.there b q (n*129)):
 ∃L:List Value,L.length=n*129/\∀k,(Builtin.clear_ #[156] k #[.slice (some ⟨b,q,none⟩) n c]).run Tryz.prog w=.ok (.tuple #[]) (w.setCells b q L):=by
 have e:yu.length=129:=congrArg (· +1) zH.1;have t:=zY Tryz.infoCw;have f:∀v∈yu,v.oneCell'=true:=aQ.2 ⟨rfl,zH.2⟩;generalize u:yu=a at*;have g:(Builtin.zeroCells a.toArray n).toList.length=n*129:=by simp [Builtin.zeroCells,e]
 have o:∀v∈(Builtin.zeroCells a.toArray n).toList,v.oneCell'=true:=λv p=>by simp only [Builtin.zeroCells,mC,Array.toList_range,au] at p;obtain⟨i,_,rfl⟩:=p;have r:i%a.toArray.size<a.toArray.size:=Nat.mod_lt _ (by simp [e]);rw [getElem!_pos a.toArray _ r];exact f _ (by simp)
 refine⟨(Builtin.zeroCells a.toArray n).toList,g,λk=>?_⟩;have d:=run_storeCells_cells (P:=Tryz.prog) b q (Builtin.zeroCells a.toArray n).toList 0 w (λj s=>(l j (by omega)).1) (λj s=>(l j (by omega)).2) o;simp only [lD] at d;obtain⟨m,rfl⟩:∃m,n=m+1:=⟨n-1,by omega⟩;have h:(Value.agg a.toArray).cells=a.toArray:=rfl;simp only [Builtin.clear_];simp [ii Tryz.underlying156,t,h,d]
theorem u9(c:Nat):∀(l:List (List Value)),(∀b∈l,b.length=c)->l.flatten.length=l.length*c
 |[],_=>by simp
 |b::l,h=>by rw [aU,ag,u9 c l (λx a=>h x (am _ a)),h b (al ..),ae,eJ];omega
theorem XR{V:List (Nat×List Value)}(h:w.ownsRow 0 160 129 (.slice (some ⟨g,0,none⟩) n cap) n (V.map zN).flatten)(j:∀p∈V,zT p.2)(B:V.length=n)(i:Nat)(r:i<=n)(L:List Value)(A:i*129+L.length<=n*129):
 (w.setCells g (i*129) L).ownsRow 0 160 129 (.slice (some ⟨g,0,none⟩) i cap) i ((V.take i).map zN).flatten:=by
 have k:∀b∈V.map zN,b.length=129:=λb c=>by obtain⟨p,l,rfl⟩:=au.1 c;simp [zN,(j p l).1]
 rcases h.2 with⟨o,_⟩|⟨C,m,a,t,c,q,e,h2,f,u⟩;.cases o
 .cases t
  have d:((V.take i).map zN).flatten.length=i*129:=by rw [u9 129 _ (λb c=>k b (by rw [iP] at c;exact aP c))];simp;omega
  refine⟨d,.inr ⟨g,cap,_,rfl,c,qa g _ L (i*129) w a q (by rw [f];have:=ee 129 e;omega),by omega,h2,?_,?_⟩⟩
  .have:=ee 129 e;simp;omega
  .have v:i*129<=a.toList.length:=by
    have:=ee 129 e;have y:a.toList.length=cap*129:=by simpa using f
    omega
   have z:(a.toList.take (i*129)).length=i*129:=by simp at v ⊢;omega
   show (a.toList.take (i*129)++L++a.toList.drop (i*129+L.length)).take (i*129)=_;rw [ak,aZ (by omega),an (by omega)];have x:a.toList.take (i*129)=(a.toList.take (n*129)).take (i*129):=by rw [iu,a8 (by have:=ee 129 r;omega)]
   rw [x,u];have s:(V.map zN).flatten=((V.take i).map zN).flatten++((V.drop i).map zN).flatten:=by rw [<-eV,<-eh,aE]
   rw [s,aZ (by omega),an (by omega)]
theorem gc(w:World)(b q n c:Nat)(x:0<n)(l:w.there b q (n*5)):
 ∃L:List Value,L.length=n*5/\∀k,(Builtin.clear_ #[207] k #[.slice (some ⟨b,q,none⟩) n c]).run Tryz.prog w=.ok (.tuple #[]) (w.setCells b q L):=by
 have t:∀w,(zeroValue 109).run Tryz.prog w=.ok (.agg qz.toArray) w:=zY Tryz.infoEntry;have e:qz.length=5:=rfl;have f:∀v∈qz,v.oneCell'=true:=by simp [qz,Value.oneCell']
 generalize u:qz=a at*;have g:(Builtin.zeroCells a.toArray n).toList.length=n*5:=by simp [Builtin.zeroCells,e]
 have o:∀v∈(Builtin.zeroCells a.toArray n).toList,v.oneCell'=true:=λv p=>by simp only [Builtin.zeroCells,mC,Array.toList_range,au] at p;obtain⟨i,_,rfl⟩:=p;have r:i%a.toArray.size<a.toArray.size:=Nat.mod_lt _ (by simp [e]);rw [getElem!_pos a.toArray _ r];exact f _ (by simp)
 refine⟨(Builtin.zeroCells a.toArray n).toList,g,λk=>?_⟩;have d:=run_storeCells_cells (P:=Tryz.prog) b q (Builtin.zeroCells a.toArray n).toList 0 w (λj s=>(l j (by omega)).1) (λj s=>(l j (by omega)).2) o;simp only [lD] at d;obtain⟨m,rfl⟩:∃m,n=m+1:=⟨n-1,by omega⟩;have h:(Value.agg a.toArray).cells=a.toArray:=rfl;simp only [Builtin.clear_];simp [ii Tryz.underlying207,t,h,d]
theorem Yu{a:List En}(h:w.ownsRow 0 109 5 (.slice (some ⟨g,0,none⟩) n cap) n (zj a))(i:Nat)(m:i<=n)(c:a.length=n):w.ownsRow 0 109 5 (.slice (some ⟨g,0,none⟩) i cap) i (zj (a.take i)):=by
 rcases h.2 with⟨f,_⟩|⟨t,e,b,p,k,l,s,h2,j,q⟩;.cases f
 .cases p;have d:(zj (a.take i)).length=i*5:=by rw [yk,aC,c,a8 m]
  refine⟨d,.inr ⟨g,cap,b,rfl,k,l,by omega,h2,j,?_⟩⟩;have r:b.toList.take (i*5)=(b.toList.take (n*5)).take (i*5):=by rw [iu,a8 (by omega)]
  rw [r,q];have o:zj a=zj (a.take i)++zj (a.drop i):=by rw [<-qS,aE]
  rw [o,aZ (by omega),an (by omega)]
theorem Uj{a:List En}(h:w.ownsRow 0 109 5 (.slice (some ⟨g,0,none⟩) n cap) n (zj a))(i:Nat)(f:i<=n)(b:a.length=n):∀j u,(zj (a.drop i))[j]? =some u->w.cell? ((⟨g,i*5,none⟩:Addr).add j)=some u:=λj u e=>by
 have c:zj a=zj (a.take i)++zj (a.drop i):=by rw [<-qS,aE]
 have d:(zj (a.take i)).length=i*5:=by rw [yk,aC,b,a8 f]
 have:=h.cells (g:=g) rfl (i*5+j) u (by rw [c,iB (by omega),d,lx];exact e);rw [eO] at this ⊢;simpa using this
end prog
end Go.Proofs.YtcoengihaobddaaGreatDoor
