/- Part 16 of 50 of a proof: Fall2, Fall3, Add2, Put1, Open1, Mng2 -/
import Derived.Test.YtcoengihaobddaaGreatDoorJe15
set_option maxHeartbeats 8000000
set_option linter.unusedVariables false
set_option linter.unusedSimpArgs false
set_option maxRecDepth 8000
namespace Go.Proofs.YtcoengihaobddaaGreatDoor
namespace prog
open Go.ChangeShapes Go.WideShapes Go.ChangeAt Go.RowKit disk ref
open book (xR)
open keys (zg zd zq zl)
def BF(bc bd:Nat)(l:Value):Nat->Value
 |0=>.pointer (some ⟨bc,0,none⟩)
 |1=>.pointer (some ⟨bc,0,none⟩)
 |2=>.pointer (some ⟨bc,0,none⟩)
 |3=>.pointer (some ⟨bd,0,none⟩)
 |4=>.pointer (some ⟨bc,0,none⟩)
 |5=>.pointer (some ⟨bc,0,none⟩)
 |6=>.pointer (some ⟨bc,1,none⟩)
 |_=>l
structure Bf (w:World) (bd:Nat) (S:Nat->Prop) (D1:Dk) (Z:Nat->Value) (L:Nat->Bool) (x:Nat->Value) (w':World):Prop where
 pv:∀i,i<8->L i=true->x i=Z i
 fv:∀i,(i=8\/i=9\/i=19)->L i=true->x i=.bool false
 early:L 8=false->Kept (λ_=>False) w w'
 dep:L 8=true->L 3=true/\L 7=true
 late:L 8=true->yq w w' bd S D1
section
variable {w w' w2:World} {bd:Nat} {S:Nat->Prop} {D1:Dk} {Z:Nat->Value} {L:Nat->Bool} {x:Nat->Value}
theorem Bf.l8(h:Bf w bd S D1 Z L x w'){i:Nat}(c:L i=false)(e:i=3\/i=7:=by decide):L 8=false:=by
 cases d:L 8 with
 |false=>rfl
 |true=>
  obtain⟨a,b⟩:=h.dep d;rcases e with rfl|rfl<;>first|cases a.symm.trans c|cases b.symm.trans c
theorem Bf.upd(h:Bf w bd S D1 Z L x w')(i:Nat)(v:Value)(d:i≠8)(g:i<8->v=Z i)(f:(i=9\/i=19)->v=.bool false):Bf w bd S D1 Z (λj=>decide (j=i)||L j) (λj=>if j=i then v else x j) w':=by
 have c:(decide (8=i)||L 8)=L 8:=by simp [iK d]
 refine⟨λj b a=>?_,λj b a=>?_,λa=>h.early (by simpa [c] using a),λa=>?_,λa=>h.late (by simpa [c] using a)⟩
 .by_cases e:j=i;.subst e;simp [g b]
  .simp only [e,if_false];exact h.pv j b (by simpa [e] using a)
 .by_cases e:j=i;.subst e;simp [f (b.resolve_left d)]
  .simp only [e,if_false];exact h.fv j b (by simpa [e] using a)
 .have:=h.dep (by simpa [c] using a);simp [this]
theorem Bf.call(h:Bf w bd S D1 Z L x w')(d:L 3=true/\L 7=true)(c:yq w w2 bd S D1):Bf w bd S D1 Z (λj=>decide (j=8)||L j) (λj=>if j=8 then .bool false else x j) w2:=by
 refine⟨λj b a=>?_,λj b a=>?_,λa=>by simp at a,λ_=>by simp [d],λ_=>c⟩
 .have e:j≠8:=by omega
  simp only [e,if_false];exact h.pv j b (by simpa [e] using a)
 .by_cases e:j=8;.subst e;simp
  .simp only [e,if_false];exact h.fv j b (by simpa [e] using a)
end
set_option maxRecDepth 60000 in
theorem XM(w:World)(g bd:Nat)(S T:Nat->Prop)(D:Dk)(C:Ck)(h:Cw w g bd S T D C)(s:∀p∈C.ws,p.1<65536)(u:C.ws.length<=18)(G:zs D.fuse)(Z:D.ps.length<=17179869184)(M:(yb D C.ws).1=false):
 Calls Tryz.prog 140 #[.pointer (some ⟨g,0,none⟩)] w λe w'=>e=.returned (.bool false)/\yq w w' bd S (yb D C.ws).2:=by
 have W:Hid _:=h;obtain⟨a,cap,l⟩:=h.chg;have Q:Hid (fC w T a C.ws):=l.rows s;have Y:Hid (∀k,T k->k<w.heap.size):=l.lt;have q:=l.lt g l.bcT;have P:Hid (∀k,S k->¬T k):=h.apart;have m:∀d,Kept (λ_=>False) w d->d.cell? ⟨g,0,none⟩=some (.pointer (some ⟨bd,0,none⟩))/\d.cell? ⟨g,1,none⟩=some (.slice a C.ws.length cap):=λd k=>⟨(k.cell (a:=⟨g,0,none⟩) q id).trans l.c0,(k.cell (a:=⟨g,1,none⟩) q id).trans l.c1⟩;have E:Hid (∀d,Kept (λ_=>False) w d->d.cell? ⟨g,0,none⟩=some (.pointer (some ⟨bd,0,none⟩))/\d.cell? ⟨g,1,none⟩=some (.slice a C.ws.length cap)):=m;have U:Hid ((yb D C.ws).1=false):=M;clear h l m M;go_enter Tryz.func140,Tryz.ntmps140;go_wp2;refine xR (by kernel_rfl) (by kernel_rfl) (λL t d=>∃x:Nat->Value,t={tmps:=#[.pointer (some ⟨g,0,none⟩),undef,.bool false,x 0,x 1,x 2,x 3,x 4,x 5,x 6,x 7,x 8,x 9,x 10,x 11,x 12,x 13,x 14,x 15,x 16,x 17,x 18,x 19],defers:=[]}/\Bf w bd S (yb D C.ws).2 (BF g bd (.slice a C.ws.length cap)) L x d) ?_ ?_ ?_;.exact⟨λ_=>undef,rfl,⟨λ_ _ h=>(by cases h),λ_ _ h=>(by cases h),λ_=>Kept.drew _ w,λh=>(by cases h),λh=>(by cases h)⟩⟩
 .rintro L t d i ad I o c ⟨x,rfl,b⟩;have ac:i<21:=(lT I);rcases (by omega:(i=10\/i=11\/i=12\/i=13\/i=14\/i=15\/i=16\/i=17\/i=18)\/(i=0\/i=1\/i=2\/i=4\/i=5\/i=6)\/(i=3\/i=7)\/i=8\/i=9\/i=19\/i=20) with(rfl|rfl|rfl|rfl|rfl|rfl|rfl|rfl|rfl)|(rfl|rfl|rfl|rfl|rfl|rfl)|(rfl|rfl)|rfl|rfl|rfl|rfl;all_goals (have K:=aK I;subst K)
  iterate 9
   .have e:=b.fv 9 (by decide) (c ⟨9,.guard⟩ (by simp) rfl);refine wpOp_step rfl (λn f=>?_);simp only [e];rw [az (by simp [Region.wanted,yielded])];exact f _ _ ⟨_,(by simp [e,Act.put]),b.upd _ undef (by decide) (λh=>by omega) (λh=>by omega)⟩
  iterate 6
   .first|have e:=b.pv 0 (by decide) (c ⟨0,.data⟩ ⟨.head _⟩ rfl)|have e:=b.pv 1 (by decide) (c ⟨1,.data⟩ ⟨.head _⟩ rfl)|have e:=b.pv 4 (by decide) (c ⟨4,.data⟩ ⟨.head _⟩ rfl)|have e:=b.pv 5 (by decide) (c ⟨5,.data⟩ ⟨.head _⟩ rfl)|have e:=b
    (try simp only [BF] at e)
    refine wpOp_step rfl (λn f=>?_)
    (try simp only [e])
    go_simp;exact f _ _ ⟨_,(by first|simp [BF,e]|simp [BF]),b.upd _ (BF g bd (.slice a C.ws.length cap) _) (by decide) (λ_=>rfl) (λ_=>by omega)⟩
  iterate 2
   .obtain⟨aa,ab⟩:=E.out d (b.early (b.l8 o))
    first|have e:=b.pv 2 (by decide) (c ⟨2,.data⟩ ⟨.head _⟩ rfl)|have e:=b.pv 6 (by decide) (c ⟨6,.data⟩ ⟨.head _⟩ rfl)
    simp only [BF] at e;refine wpOp_step rfl (λn f=>?_);simp only [e];go_simp;exact f _ _ ⟨_,(by simp [BF,e]),b.upd _ (BF g bd (.slice a C.ws.length cap) _) (by decide) (λ_=>rfl) (λ_=>by omega)⟩
  .have v:L 3=true:=c ⟨3,.data⟩ (by simp) rfl;have N:x 3=.pointer (some ⟨bd,0,none⟩):=b.pv 3 (by omega) v;have H:L 7=true:=c ⟨7,.data⟩ (by simp) rfl;have y:x 7=.slice a C.ws.length cap:=b.pv 7 (by omega) H;refine wpOp_step rfl (λn f=>?_);simp only [N,y];go_simp;have k1:=b.early o;refine(XH d bd S T D (W.out.disk.kept k1 nF) a cap C.ws (Q.out.kept k1 nF) P.out (λk O=>au (Y.out k O) k1.size) G (by omega) u).mono ?_;rintro e w2 ⟨rfl,A⟩;rw [U.out];exact f _ _ ⟨λj=>if j=8 then .bool false else x j,by simp [N,y],b.call ⟨v,H⟩ (yq.kept0 k1 A)⟩
  .have V:L 8=true:=c ⟨8,.data⟩ (by simp) rfl;have J:x 8=.bool false:=b.fv 8 (by omega) V;refine wpOp_step rfl (λn f=>?_);simp only [J];go_simp;exact f _ _ ⟨λj=>if j=9 then .bool false else x j,by simp [J],b.upd 9 _ (by omega) (λ_=>by omega) (λ_=>rfl)⟩
  .have X:L 9=true:=c ⟨9,.data⟩ (by simp) rfl;have z:x 9=.bool false:=b.fv 9 (by omega) X;refine wpOp_step rfl (λn f=>?_);simp only [z];go_simp;exact f _ _ ⟨λj=>if j=19 then .bool false else x j,by simp [z],b.upd 19 _ (by omega) (λ_=>by omega) (λ_=>rfl)⟩
  .have B:L 19=true:=c ⟨19,.data⟩ (by simp) rfl;have r:x 19=.bool false:=b.fv 19 (by omega) B;refine wpOp_step rfl (λn f=>?_);simp only [r];go_simp;exact f _ _ ⟨λj=>if j=20 then undef else x j,by simp [r],b.upd 20 _ (by omega) (λh=>by omega) (λh=>by omega)⟩
 .rintro L t d o ⟨x,rfl,b⟩;have R:=o 8 (by decide);have F:Hid (yq w d bd S (yb D C.ws).2):=b.late R;clear b;go_wp2;go_ret;exact⟨rfl,F.out⟩
end prog
namespace prog
open Go.ChangeShapes Go.WideShapes Go.ChangeAt Go.RowKit disk ref
open keys (zg zd zq zl zh)
theorem Yj(w:World)(c bd:Nat)(S T:Nat->Prop)(D:Dk)(C:Ck)(h:Cw w c bd S T D C)(a:∀p∈C.ws,p.1<65536)(b:C.ws.length<=18)(g:zs D.fuse)(f:D.ps.length<=17179869184):
 Calls Tryz.prog 140 #[.pointer (some ⟨c,0,none⟩)] w λe w'=>e=.returned (.bool (qp D C.ws).1)/\yq w w' bd S (qp D C.ws).2:=by
 cases d:(yb D C.ws).1 with
 |true=>exact XJ w c bd S T D C h a b g f d
 |false=>
  have e:qp D C.ws=yb D C.ws:=az (by rw [d];simp);rw [e,d];exact XM w c bd S T D C h a b g f d
structure Z5 (w w':World) (bs bd:Nat) (k:Int) (S:Nat->Prop) (r:Bool×Dk) (c:Int):Prop where
 code:c=if r.1=true then 0 else 7
 sto:zt w' bs k (if r.1=true then some bd else none)
 disk:∃S',ze w' bd S' r.2/\∀j,S' j->S j\/w.heap.size<=j
 kept:Kept (λj=>S j\/j=bs) w w'
theorem Ze(w:World)(bs l bd:Nat)(k:Int)(S T:Nat->Prop)(D:Dk)(C:Ck)(h:Cw w l bd S T D C)(q:zt w bs k (some bd))(r:¬S bs)(o:(C.full||decide (18<C.ws.length))=false)(n:∀p∈C.ws,p.1<65536)(A:zs D.fuse)(y:D.ps.length<=17179869184):
 Calls Tryz.prog 78 #[.pointer (some ⟨bs,0,none⟩),.pointer (some ⟨l,0,none⟩)] w λe w'=>∃c,e=.returned (.int .i64 c)/\Z5 w w' bs bd k S (qp D C.ws) c:=by
 have z:Hid _:=h
 have u:C.ws.length<=18:=by simp only [lw,decide_eq_false_iff_not] at o;omega
 have m:Hid (¬S bs):=r;have hbs:=q.lt;have t:Hid (Calls Tryz.prog 140 #[.pointer (some ⟨l,0,none⟩)] w λe w'=>e=.returned (.bool (qp D C.ws).1)/\yq w w' bd S (qp D C.ws).2):=Yj w l bd S T D C h n u A y;change Hid _ at o q;clear h n u r;generalize qp D C.ws=I at*;obtain⟨b,E⟩:=I
 cases b with
 |true=>
  go_enter Tryz.func78,Tryz.ntmps78
  go_wp2_with (first
   |(go_at_call 139;refine(cy w l bd T C z.chg).mono ?_;rintro e g ⟨rfl,i⟩;rw [i,o.out];clear i g)
   |(go_at_call 140;refine t.mono ?_;rintro e g ⟨rfl,d⟩;have f:Hid (yq w g bd S E):=d;clear d))
  go_ret;exact⟨0,rfl,rfl,q.kept f.kept m,f.disk,f.kept.mono iL⟩
 |false=>
  go_enter Tryz.func78,Tryz.ntmps78
  go_wp2_with (first
   |(go_at_call 139;refine(cy w l bd T C z.chg).mono ?_;rintro e g ⟨rfl,i⟩;rw [i,o.out];clear i g)
   |(go_at_call 140;refine t.mono ?_;rintro e g ⟨rfl,d⟩;have f:Hid _:=d;have a:=q.kept d.kept m.out;have H:=a.c2;have G:=a.fz 2;have F:=a.lt;change Hid _ at a;clear d))
  go_ret;have k2:=Kept.setCell (S:=λj=>j=bs) g ⟨bs,2,none⟩ (.pointer none) rfl;obtain⟨S1,x,s⟩:=f.disk;refine⟨7,rfl,rfl,⟨?_⟩,⟨S1,x.kept k2 (λj v e=>?_),s⟩,(f.kept.mono iL).trans k2 (λj v=>.inl (.inr v))⟩;.exact heap_setCell_same g bs 2 _ _ (.pointer none) a.at_
  .have B:j=bs:=e;subst B;rcases s j v with h|h;.exact m h
   .omega
end prog
namespace prog
open Go.ChangeShapes Go.WideShapes Go.ChangeAt Go.RowKit disk ref
open Go.MuLone
open keys (zg zd zq zl zh)
theorem Vc(w:World)(bs bd:Nat)(S:Nat->Prop)(D:Dk)(k:Int)(aP:zt w bs k (some bd))(a3:ze w bd S D)(ci:¬S bs)(b5:0<=D.reads)(cF:D.reads<=4611686018427350000)(bk:D.ps=[])(bn:zs D.fuse)(cI:64<=D.bs.length)(bK:D.bs.length<=1000)
 (q n:Nat) (ag:yi (D.look 1) q n) (cM:n<4611686018427387904) (m:List UInt8) (bF:qP (D.look 2) m) (s:ByteArray) (g:Bool) (P:Nat->Prop) (a:Option Addr) (cap:Nat) (l:List UInt8) (bj:zu w P a l) (bw:∀j,P j->¬S j/\j≠bs) (cs:l.length<=300) (bU:l.length<=cap) (bV:cap<=9223372036854775807)
 (aO:List En) (aj:List Nat) (f:Nat) (Q:Ck) (m1:List UInt8) (V:bA.body D.bs.length m (zZ l)=(f,Q,m1)) (bR:List Nat) (aA:K6 D bA Q m m1 f (zZ l) bR) (ca:(⟨⟨s,(n:Int)+1⟩,g,l.length,f⟩:En).Ok) (ao:¬(⟨s,(n:Int)+1⟩:Pl).lt yz=true)
 (hF:yo (λj=>Q.look D (j:Nat)) q aO aj) (bx:aj.Nodup) (br:∀j∈aj,21<=j/\zX m1 (j-21)=true) (b1:aj.length<=979) (aX:∀j∈aj,j<D.bs.length) (aH:∀x∈aO,¬x.pl.lt yz=true) (be:∀x∈aO,x.pl≠⟨s,(n:Int)+1⟩):
 Calls Tryz.prog 52 #[.pointer (some ⟨bs,0,none⟩),.string s,.slice a l.length cap,.bool g] w λe w'=>∃b E m2 aV aI,bT D Q E m1 m2 b ⟨⟨s,(n:Int)+1⟩,g,l.length,f⟩ aO aj aV aI/\∃bb:Int,0<=bb/\bb<=19/\
  ((((E.put 1 (zo (zx b (n+1)))).full||decide (18<(E.put 1 (zo (zx b (n+1)))).ws.length))=true/\e=.returned (.tuple #[.int .i64 0,.int .i64 6])/\ze w' bd S {D with reads:=D.reads+bb}/\Kept (λj=>j=bd) w w')\/
   (((E.put 1 (zo (zx b (n+1)))).full||decide (18<(E.put 1 (zo (zx b (n+1)))).ws.length))=false/\∃v c,e=.returned (.tuple #[.int .i64 v,.int .i64 c])/\(c=0->v=(n:Int)+1)/\(c≠0->v=0)/\(∀p∈(E.put 1 (zo (zx b (n+1)))).ws,p.1<D.bs.length)/\Z5 w w' bs bd k S (qp {D with reads:=D.reads+bb} (E.put 1 (zo (zx b (n+1)))).ws) c)):=by
 have aQ:Hid (ze w bd S D):=a3;have cy:Hid _:=ag;have bL:Hid (zu w P a l):=bj;have bo:Hid (∀j,P j->¬S j/\j≠bs):=bw;have ck:=aP.c2;have bP:=a3.lt bd a3.bdS;have aw:Hid (∀j,S j->j<w.heap.size):=a3.lt;have hbs:=aP.lt;change Hid _ at aP bF V aA hF ca ao bx br aH be aX bk bn;clear a3 ag bj bw;go_enter Tryz.func52,Tryz.ntmps52;go_wp2_with fail;refine(Qi w bd bP).mono ?_;rintro e bI ⟨rfl,aU,a4⟩;have bi:Hid (Cw bI w.heap.size bd S (λj=>j=w.heap.size) D bA):=⟨aQ.kept a4 nF,aU,λj o cO=>by have:=aw.out j o;omega⟩;change Hid _ at a4;clear aU ck;go_wp2_with fail;refine(Qq bI w.heap.size bd S _ D bA bi b5 (by omega) q n (by rw [y7];exact cy)).mono ?_;rintro e w2 ⟨rfl,⟨k2,cC,ct,aR⟩,aM⟩;have cK:=aM.size;change Hid _ at aR aM;go_wp2_with fail;have aD:Hid ((w2.alloc (.cells #[.int .i64 (q:Int),.int .i64 ((n:Int)+1)] 145)).heap[w2.heap.size]? =some (.cells #[.int .i64 (q:Int),.int .i64 ((n:Int)+1)] 145 (0,0))):=heap_alloc_new w2 _;have aK:Hid (Kept (λ_=>False) w2 (w2.alloc (.cells #[.int .i64 (q:Int),.int .i64 ((n:Int)+1)] 145))):=Kept.alloc _ _ _;have G:(w2.alloc (.cells #[.int .i64 (q:Int),.int .i64 ((n:Int)+1)] 145)).heap.size=w2.heap.size+1:=by simp
 generalize (w2.alloc (.cells #[.int .i64 (q:Int),.int .i64 ((n:Int)+1)] 145))=t at*;have cD:w.heap.size<bI.heap.size:=bi.chg.lt _ rfl;have Y:Hid (Kept (λi=>i=bd) w t):=((a4.mono fE).trans aM iL).trans aK fE;have a8:Hid (zu t (λj=>P j/\j<w.heap.size) a l):=(bL.mono (λi aG M=>⟨aG,M⟩)).kept Y (λj o K=>(bo j o.1).1 (by rw [K];exact aQ.bdS))
 have U:Hid (∀u,Kept (λ_=>False) t u->Calls Tryz.prog 75 #[.pointer (some ⟨w.heap.size,0,none⟩),.slice a l.length cap] u λe w'=>e=.returned (.int .i64 (f:Int))/\(∃(n:Int) (cb:Nat->Prop),0<=n/\n<=3/\Cw w' w.heap.size bd S cb {D with reads:=D.reads+k2+n} Q/\∀j,cb j->j=w.heap.size\/u.heap.size<=j)/\Kept (λj=>j=bd\/j=w.heap.size) u w'):=λu b6=>
  Ka u w.heap.size bd S (λj=>j=w.heap.size) {D with reads:=D.reads+k2} bA ((aR.kept0 aK).kept0 b6) m (by rw [y7];exact bF) (by show 0<=D.reads+k2;omega) (by show D.reads+k2<=_;omega) (λj=>P j/\j<w.heap.size) a cap l (a8.kept b6 nF) (λj o K=>by omega) (λj o K=>(bo j o.1).1 (by rw [K];exact aQ.bdS)) cs bU bV bK (by show 0<600;omega) f Q m1 V.out
 have aY:Hid (Kept (λ_=>False) t (t.alloc (.cells #[.string ⟨#[]⟩,.int .i64 0,.bool false,.int .i64 0,.int .i64 0] 109)).drew):=(Kept.alloc _ _ _).trans (Kept.drew _ _) iL;have aN:(t.alloc (.cells #[.string ⟨#[]⟩,.int .i64 0,.bool false,.int .i64 0,.int .i64 0] 109)).heap.size=t.heap.size+1:=by simp
 have bJ:=aN;have bX:t.drew.heap.size=t.heap.size:=rfl;have cq:t.cell? ⟨w2.heap.size,1,none⟩=some (.int .i64 ((n:Int)+1)):=cR aD.out rfl;have b9:¬w2.heap.size=t.heap.size:=by omega
 have bG:¬t.heap.size=w2.heap.size:=by omega
 have a0:Hid (∀j,w2.heap.size<=j->¬(j=bd\/j=w.heap.size)):=λj o ba=>by omega
 have ay:Hid _:=G;clear G
 go_region_held3 (λw'=>w'.cell? ⟨w2.heap.size,1,none⟩=some (.int .i64 ((n:Int)+1))) (go_keep) ((go_at_call 75;have G:=ay.out;first
  |(refine(U t.drew (Kept.drew (λ_=>False) t)).mono ?_;rintro r d ⟨rfl,⟨A,aF,bH,bB,ac,ae⟩,F⟩;have R:Hid _:=ac;have af:Hid _:=ae;have a5:Hid _:=F;have ai:=F.size;have y:Hid _:=((Kept.drew (λ_=>False) t).mono fE).trans F iL;have L:Hid (d.heap[w2.heap.size]? =some (.cells #[.int .i64 (q:Int),.int .i64 ((n:Int)+1)] 145 (0,0))):=(y.block _ (show w2.heap.size<t.heap.size by omega) (a0 _ (aC _))).trans aD.out;have aS:d.cell? ⟨w2.heap.size,1,none⟩=some (.int .i64 ((n:Int)+1)):=(cR L.out rfl);have a2:¬w2.heap.size=d.heap.size:=(by have:t.heap.size<=d.heap.size:=y.size;omega);clear ac ae F G)
  |(refine(U (t.alloc (.cells #[.string ⟨#[]⟩,.int .i64 0,.bool false,.int .i64 0,.int .i64 0] 109)).drew aY).mono ?_;rintro r d ⟨rfl,⟨A,aF,bH,bB,ac,ae⟩,F⟩;have R:Hid _:=ac;have af:Hid _:=ae;have a5:Hid _:=F;have ai:=F.size;have y:Hid _:=((aY).mono fE).trans F iL;have L:Hid (d.heap[w2.heap.size]? =some (.cells #[.int .i64 (q:Int),.int .i64 ((n:Int)+1)] 145 (0,0))):=(y.block _ (show w2.heap.size<t.heap.size by omega) (a0 _ (aC _))).trans aD.out;have aS:d.cell? ⟨w2.heap.size,1,none⟩=some (.int .i64 ((n:Int)+1)):=(cR L.out rfl);have a2:¬w2.heap.size=d.heap.size:=(by have:t.heap.size<=d.heap.size:=y.size;omega);have z:Hid (d.heap[t.heap.size]? =some (.cells #[.string ⟨#[]⟩,.int .i64 0,.bool false,.int .i64 0,.int .i64 0] 109 (0,0))):=(F.block t.heap.size (show t.heap.size<(t.alloc (.cells #[.string ⟨#[]⟩,.int .i64 0,.bool false,.int .i64 0,.int .i64 0] 109)).heap.size by rw [aN];omega) (a0 _ (show w2.heap.size<=t.heap.size by omega))).trans (heap_alloc_new t _);have cd:d.cell? ⟨t.heap.size,0,none⟩=some (.string ⟨#[]⟩):=(cR z.out rfl);have cg:=aa d t.heap.size 0 _ _ z.out;have cj:d.cell? ⟨t.heap.size,1,none⟩=some (.int .i64 0):=(cR z.out rfl);have bZ:=aa d t.heap.size 1 _ _ z.out;have ch:d.cell? ⟨t.heap.size,2,none⟩=some (.bool false):=(cR z.out rfl);have bN:=aa d t.heap.size 2 _ _ z.out;have b8:d.cell? ⟨t.heap.size,3,none⟩=some (.int .i64 0):=(cR z.out rfl);have bM:=aa d t.heap.size 3 _ _ z.out;have ce:d.cell? ⟨t.heap.size,4,none⟩=some (.int .i64 0):=(cR z.out rfl);have b7:=aa d t.heap.size 4 _ _ z.out;clear ac ae F G)))
 case' refine_2.refine_3.refine_3.refine_3.refine_3.refine_3.refine_3.refine_3.refine_3.refine_3.refine_1.refine_2.refine_3.refine_1.refine_2.refine_1.refine_2=>
  have G:=ay.out;have aW:=y.size;have T:Hid ((d.alloc (.cells #[.string s,.int .i64 ((n:Int)+1),.bool g,.int .i64 (l.length:Int),.int .i64 (f:Int)] 109)).heap[d.heap.size]? =some (.cells #[.string s,.int .i64 ((n:Int)+1),.bool g,.int .i64 (l.length:Int),.int .i64 (f:Int)] 109 (0,0))):=heap_alloc_new d _;have ak:Hid ((d.alloc (.cells #[.string s,.int .i64 ((n:Int)+1),.bool g,.int .i64 (l.length:Int),.int .i64 (f:Int)] 109)).heap[w2.heap.size]? =some (.cells #[.int .i64 (q:Int),.int .i64 ((n:Int)+1)] 145 (0,0))):=((Kept.alloc (λ_=>False) d _).block _ (by omega) id).trans L.out;have bf:Hid (Cw (d.alloc (.cells #[.string s,.int .i64 ((n:Int)+1),.bool g,.int .i64 (l.length:Int),.int .i64 (f:Int)] 109)) w.heap.size bd S aF {D with reads:=D.reads+k2+A} Q):=R.kept0 (Kept.alloc _ _ _);have bl:Hid (Kept (λj=>j=bd) w (d.alloc (.cells #[.string s,.int .i64 ((n:Int)+1),.bool g,.int .i64 (l.length:Int),.int .i64 (f:Int)] 109))):=(Y.trans y (λj o=>o.elim .inl (λh=>.inr (by omega)))).trans (Kept.alloc (λ_=>False) _ _) fE
  have ap:Hid (∀j,aF j->w.heap.size<=j/\j≠d.heap.size/\j≠w2.heap.size):=λj o=>by
   have aG:=R.chg.lt j o;rcases af j o with M|M;.omega
   .have bO:t.heap.size<=j:=M;omega
  have a1:(d.alloc (.cells #[.string s,.int .i64 ((n:Int)+1),.bool g,.int .i64 (l.length:Int),.int .i64 (f:Int)] 109)).heap.size=d.heap.size+1:=by simp
  have bE:w2.heap.size<d.heap.size/\d.heap.size<(d.alloc (.cells #[.string s,.int .i64 ((n:Int)+1),.bool g,.int .i64 (l.length:Int),.int .i64 (f:Int)] 109)).heap.size:=by omega
  clear G aW a1;generalize (d.alloc (.cells #[.string s,.int .i64 ((n:Int)+1),.bool g,.int .i64 (l.length:Int),.int .i64 (f:Int)] 109))=X at*;generalize d.heap.size=aE at*;clear R af a5 y L aS a2 ai
 case' refine_2.refine_3.refine_3.refine_3.refine_3.refine_3.refine_3.refine_3.refine_3.refine_3.refine_2.refine_1.refine_2.refine_1.refine_2.refine_3.refine_1.refine_2=>
  have G:=ay.out;have aW:=y.size;obtain⟨bh,ad⟩:=vK d t.heap.size 109 _ _ _ _ _ (.string s) (.int .i64 ((n:Int)+1)) (.bool g) (.int .i64 (l.length:Int)) (.int .i64 (f:Int)) z.out;have T:Hid ((((((d.setCell ⟨t.heap.size,0,none⟩ (.string s)).setCell ⟨t.heap.size,1,none⟩ (.int .i64 ((n:Int)+1))).setCell ⟨t.heap.size,2,none⟩ (.bool g)).setCell ⟨t.heap.size,3,none⟩ (.int .i64 (l.length:Int))).setCell ⟨t.heap.size,4,none⟩ (.int .i64 (f:Int))).heap[t.heap.size]? =some (.cells #[.string s,.int .i64 ((n:Int)+1),.bool g,.int .i64 (l.length:Int),.int .i64 (f:Int)] 109 (0,0))):=bh;have ak:Hid ((((((d.setCell ⟨t.heap.size,0,none⟩ (.string s)).setCell ⟨t.heap.size,1,none⟩ (.int .i64 ((n:Int)+1))).setCell ⟨t.heap.size,2,none⟩ (.bool g)).setCell ⟨t.heap.size,3,none⟩ (.int .i64 (l.length:Int))).setCell ⟨t.heap.size,4,none⟩ (.int .i64 (f:Int))).heap[w2.heap.size]? =some (.cells #[.int .i64 (q:Int),.int .i64 ((n:Int)+1)] 145 (0,0))):=(ad.block _ (by omega) (by omega)).trans L.out
  have ah:∀j,aF j->w.heap.size<=j/\j≠t.heap.size/\j≠w2.heap.size:=λj o=>by
   rcases af j o with M|M;.omega
   .have bO:(t.alloc (.cells #[.string ⟨#[]⟩,.int .i64 0,.bool false,.int .i64 0,.int .i64 0] 109)).heap.size<=j:=M;omega
  have ap:Hid _:=ah;have bf:Hid _:=R.kept ad (λj o K=>by have:=aw.out j o;omega) (λj o K=>(ah j o).2.1 K);have bl:Hid _:=(Y.trans y (λj o=>o.elim .inl (λh=>.inr (by omega)))).trans ad (λj o=>.inr (by omega));have a1:=ad.size
  have bE:w2.heap.size<t.heap.size/\t.heap.size<(((((d.setCell ⟨t.heap.size,0,none⟩ (.string s)).setCell ⟨t.heap.size,1,none⟩ (.int .i64 ((n:Int)+1))).setCell ⟨t.heap.size,2,none⟩ (.bool g)).setCell ⟨t.heap.size,3,none⟩ (.int .i64 (l.length:Int))).setCell ⟨t.heap.size,4,none⟩ (.int .i64 (f:Int))).heap.size:=by have:=(lT z);omega
  clear G aW a1 bh ad ah;generalize (((((d.setCell ⟨t.heap.size,0,none⟩ (.string s)).setCell ⟨t.heap.size,1,none⟩ (.int .i64 ((n:Int)+1))).setCell ⟨t.heap.size,2,none⟩ (.bool g)).setCell ⟨t.heap.size,3,none⟩ (.int .i64 (l.length:Int))).setCell ⟨t.heap.size,4,none⟩ (.int .i64 (f:Int)))=X at*;clear R af a5 y L z aS a2 ai cd cj ch b8 ce cg bZ bN bM b7;clear U aY aN bJ bX cq b9 bG ay aD aK Y a8;generalize t.heap.size=aE at*
 all_goals
  have cw:X.cell? ⟨w2.heap.size,0,none⟩=some (.int .i64 (q:Int)):=cR ak.out rfl;have K:X.cell? ⟨aE,0,none⟩=some (.string s):=cR T.out rfl;have cl:X.cell? ⟨aE,1,none⟩=some (.int .i64 ((n:Int)+1)):=cR T.out rfl;have cr:X.cell? ⟨aE,2,none⟩=some (.bool g):=cR T.out rfl;have cA:X.cell? ⟨aE,3,none⟩=some (.int .i64 (l.length:Int)):=cR T.out rfl;have cv:X.cell? ⟨aE,4,none⟩=some (.int .i64 (f:Int)):=cR T.out rfl;go_wp2_with fail
 all_goals
  have bg:Q.ws.length<500:=by have aG:=cP (C:=bA) (D:=D) (m:=m) (by rw [y7];exact bF) bK (zZ l) f Q m1 V.out;have M:=aG.2.1;have bO:bA.ws.length=0:=rfl;rw [xu] at M;omega
  obtain⟨b,E,m2,aV,aI,bc,cL⟩:=Xs w.heap.size bd S aF D bK ⟨⟨s,(n:Int)+1⟩,g,l.length,f⟩ ca ao Q m1 q aO aj hF bx br b1 aA.chn aH be bg;have bW:=bc.lt;have cE:E.ws.length<800:=by have:=bc.few;omega
  change Hid _ at bc;clear bg;refine(cL.go X (D.reads+k2+A) (by omega) (by omega) bf).mono ?_;clear cL;rintro x u5 ⟨rfl,⟨H,bS,cp,cm,bt,bp⟩,au⟩;have cH:=au.size
  have bq:¬(w2.heap.size=bd\/aF w2.heap.size):=λba=>by
   rcases ba with h|h;.omega
   .exact(ap _ h).2.2 rfl
  have a6:Hid (u5.heap[w2.heap.size]? =some (.cells #[.int .i64 (q:Int),.int .i64 ((n:Int)+1)] 145 (0,0))):=(au.block _ (by omega) bq).trans ak.out;have cB:u5.cell? ⟨w2.heap.size,0,none⟩=some (.int .i64 (q:Int)):=cR a6.out rfl;have cx:u5.frozen? ⟨w2.heap.size,0,none⟩=false:=aa u5 w2.heap.size 0 _ _ a6.out;have aL:Hid ((u5.setCell ⟨w2.heap.size,0,none⟩ (.int .i64 (b:Int))).heap[w2.heap.size]? =some (.cells #[.int .i64 (b:Int),.int .i64 ((n:Int)+1)] 145 (0,0))):=heap_setCell_same u5 w2.heap.size 0 _ _ (.int .i64 (b:Int)) a6.out;have bu:Hid _:=Kept.setCell (S:=λj=>j=w2.heap.size) u5 ⟨w2.heap.size,0,none⟩ (.int .i64 (b:Int)) rfl;have cu:(u5.setCell ⟨w2.heap.size,0,none⟩ (.int .i64 (b:Int))).cell? ⟨w2.heap.size,0,none⟩=some (.int .i64 (b:Int)):=cR aL.out rfl;have cn:(u5.setCell ⟨w2.heap.size,0,none⟩ (.int .i64 (b:Int))).cell? ⟨w2.heap.size,1,none⟩=some (.int .i64 ((n:Int)+1)):=cR aL.out rfl;have cG:(u5.setCell ⟨w2.heap.size,0,none⟩ (.int .i64 (b:Int))).heap.size=u5.heap.size:=by simp
  have an:∀j,bS j->j≠w2.heap.size/\w.heap.size<=j:=λj o=>by
   rcases bp j o with h|h;.have:=ap.out j h;omega
   .omega
  have bQ:Hid _:=bt.kept bu (λj o K=>by have:=aw.out j o;omega) (λj o K=>(an j o).1 K);change Hid _ at bt bp au an;clear bq K cl cr cA cv cw;go_wp2_with fail
 all_goals
  have aq:((n+1:Nat):Int)=(n:Int)+1:=by omega
  have aT:=gC (u5.setCell ⟨w2.heap.size,0,none⟩ (.int .i64 (b:Int))) w.heap.size bd S bS {D with reads:=D.reads+k2+A+H} E bQ b (n+1) bW (by omega) (by omega);rw [aq] at aT;clear aq cu;generalize (u5.setCell ⟨w2.heap.size,0,none⟩ (.int .i64 (b:Int)))=cQ at*;refine aT.mono ?_;clear aT;rintro x u7 ⟨rfl,⟨bY,am,b0⟩,al⟩;have cJ:=al.size;have b4:Hid (u7.heap[w2.heap.size]? =some (.cells #[.int .i64 (b:Int),.int .i64 ((n:Int)+1)] 145 (0,0))):=(al.block _ (by omega) (λba=>(an _ ba).1 rfl)).trans aL.out
  have Z:Hid (∀k∈(E.put 1 (zo (zx b (n+1)))).keys,k<D.bs.length):=λk co=>by
   rcases (xO E 1 _ k).1 co with h|h
   .rcases bc.stp.keys k h with h|h|h|h|h
    .rcases aA.stp.keys k h with h|h|h|h|h;.exact(by cases h)
     .exact(by cases h)
     .exact(aA.stp.grew.fresh k h).2.1
     .omega
     .omega
    .exact aX k (bc.sub k h)
    .exact(bc.stp.grew.fresh k h).2.1
    .omega
    .omega
   .omega
  have bC:Hid _:=(bl.trans au (λj o=>o.elim .inl (λh=>.inr (ap j h).1))).trans bu (λj o=>.inr (by omega));have ab:Hid _:=bC.trans al (λj o=>.inr (an j o).2);change Hid _ at am b0 al;clear cn cB cx;generalize ax:E.put 1 (zo (zx b (n+1)))=W at*
  cases B:(W.full||decide (18<W.ws.length)) with
  |true=>
   have N:Hid _:=B;have J:Hid _:=ax;clear B ax;go_wp2_with (go_at_call 78;refine(XL u7 bs w.heap.size bd bY W am.chg N).mono ?_;rintro x O ⟨rfl,bm⟩;rw [bm];clear bm O);refine bodyPost_ret (results_tmp2 rfl _ _ _) rfl ?_;refine⟨b,E,m2,aV,aI,bc,k2+A+H,by omega,by omega,.inl ⟨?_,rfl,?_,ab⟩⟩;.rw [J.out];exact N.out
   .have:=am.disk;rw [eG,eG] at this;rw [eG];exact this
  |false=>
   have N:Hid _:=B;have J:Hid _:=ax
   have cc:W.ws.length<=18:=by simp only [lw,decide_eq_false_iff_not] at B;omega
   have bv:Hid (Calls Tryz.prog 78 #[.pointer (some ⟨bs,0,none⟩),.pointer (some ⟨w.heap.size,0,none⟩)] u7 λe w'=>∃c,e=.returned (.int .i64 c)/\Z5 u7 w' bs bd k S (qp {D with reads:=D.reads+k2+A+H} W.ws) c):=
    Ze u7 bs w.heap.size bd k S bY {D with reads:=D.reads+k2+A+H} W am (aP.kept ab (λe=>ci (by rw [show bs=bd from e];exact aQ.bdS))) ci B (λp a7=>by have:=Z.out p.1 (av.2 ⟨p,a7,rfl⟩);omega) bn (by show D.ps.length<=_;rw [bk.out];simp)
   have bz:Hid (({D with reads:=D.reads+(k2+A+H)}:Dk)={D with reads:=D.reads+k2+A+H }):=by show ({D with reads:=D.reads+(k2+A+H)}:Dk)=_;rw [eG k2 A H,eG (D.reads+k2) A H,eG D.reads k2]
   clear B ax cc;have b3:w2.heap.size<u7.heap.size:=by omega
   have cf:Hid (¬(S w2.heap.size\/w2.heap.size=bs)):=λh=>h.elim (λh=>by have:=aw.out _ h;omega) (λh=>by have:=aP.lt;omega)
   have U:Hid (∀O c,Z5 u7 O bs bd k S (qp {D with reads:=D.reads+k2+A+H} W.ws) c->Z5 w O bs bd k S (qp {D with reads:=D.reads+k2+A+H} W.ws) c):=λO c ar=>
    ⟨ar.code,ar.sto,by obtain⟨cz,aG,M⟩:=ar.disk;exact⟨cz,aG,λj o=>(M j o).imp id (λh=>by have:=ab.size;omega)⟩,(ab.mono (λj o=>.inl (by rw [o];exact aQ.bdS))).trans ar.kept iL⟩
   cases ag:(qp {D with reads:=D.reads+k2+A+H} W.ws).1 with
   |true=>
    have aZ:Hid _:=ag;clear ag;go_wp2_with (go_at_call 78;refine bv.mono ?_;rintro x O ⟨bD,rfl,I⟩;obtain rfl:bD=0:=(by have a9:=I.code;rw [aB aZ.out] at a9;exact a9);have aJ:Hid _:=I;have b2:Hid (O.heap[w2.heap.size]? =_):=(I.kept.block _ b3 cf).trans b4.out;have cN:O.cell? ⟨w2.heap.size,1,none⟩=some (.int .i64 ((n:Int)+1)):=(cR b2.out rfl);clear I);refine bodyPost_ret (results_tmp2 rfl _ _ _) rfl ?_;refine⟨b,E,m2,aV,aI,bc,k2+A+H,by omega,by omega,.inr ⟨?_,_,_,rfl,λ_=>rfl,λh=>absurd rfl h,by rw [J.out];exact λp a7=>Z p.1 (av.2 ⟨p,a7,rfl⟩),?_⟩⟩;.rw [J.out];exact N.out
    .rw [J.out,bz.out];exact U O _ aJ.out
   |false=>
    have aZ:Hid _:=ag;clear ag;go_wp2_with (go_at_call 78;refine bv.mono ?_;rintro x O ⟨bD,rfl,I⟩;obtain rfl:bD=7:=(by have a9:=I.code;rw [az (by rw [aZ.out];simp)] at a9;exact a9);have aJ:Hid _:=I;clear I);refine bodyPost_ret (results_tmp2 rfl _ _ _) rfl ?_;refine⟨b,E,m2,aV,aI,bc,k2+A+H,by omega,by omega,.inr ⟨?_,_,_,rfl,λh=>by omega,λ_=>rfl,by rw [J.out];exact λp a7=>Z p.1 (av.2 ⟨p,a7,rfl⟩),?_⟩⟩;.rw [J.out];exact N.out
    .rw [J.out,bz.out];exact U O _ aJ.out
theorem Z5.onto{w w':World}{bs bd:Nat}{k:Int}{S:Nat->Prop}{a:Dk}{c:Int}(d:zt w bs k (some bd))(h:Z5 w w' bs bd k S (true,a) c):c=0/\yq w w' bd S a:=by
 refine⟨h.code,h.disk,h.kept.os,h.kept.tape,h.kept.output,h.kept.size,λj b g=>?_⟩;by_cases e:j=bs
 .subst e;exact h.sto.at_.trans d.at_.symm
 .exact h.kept.block j b (λf=>f.elim g e)
theorem QZ(w:World)(bs bd:Nat)(S:Nat->Prop)(D:Dk)(k:Int)(V:zt w bs k (some bd))(ab:ze w bd S D)(ai:¬S bs)(O:0<=D.reads)(W:D.reads<=4611686018427350000)(B:D.ps=[])(C:D.fuse= -1)(Z:64<=D.bs.length)(aj:D.bs.length<=1000)
 (q n:Nat) (ad:yi (D.look 1) q n) (aa:n<4611686018427387904) (m:List UInt8) (ak:qP (D.look 2) m) (d:ByteArray) (i:Bool) (P:Nat->Prop) (a:Option Addr) (cap:Nat) (l:List UInt8) (Q:zu w P a l) (R:∀j,P j->¬S j/\j≠bs) (ah:l.length<=300) (M:l.length<=cap) (T:cap<=9223372036854775807)
 (r:List En) (o:List Nat) (f:Nat) (s:Ck) (m1:List UInt8) (u:bA.body D.bs.length m (zZ l)=(f,s,m1)) (z:List Nat) (X:K6 D bA s m m1 f (zZ l) z) (am:(⟨⟨d,(n:Int)+1⟩,i,l.length,f⟩:En).Ok) (y:¬(⟨d,(n:Int)+1⟩:Pl).lt yz=true)
 (hF:yo (λj=>s.look D (j:Nat)) q r o) (U:o.Nodup) (L:∀j∈o,21<=j/\zX m1 (j-21)=true) (I:o.length<=979) (H:∀j∈o,j<D.bs.length) (E:∀x∈r,¬x.pl.lt yz=true) (J:∀x∈r,x.pl≠⟨d,(n:Int)+1⟩):
 Calls Tryz.prog 52 #[.pointer (some ⟨bs,0,none⟩),.string d,.slice a l.length cap,.bool i] w λe w'=>∃b g m2 G F,bT D s g m1 m2 b ⟨⟨d,(n:Int)+1⟩,i,l.length,f⟩ r o G F/\∃p:Int,0<=p/\p<=19/\
  ((((g.put 1 (zo (zx b (n+1)))).full||decide (18<(g.put 1 (zo (zx b (n+1)))).ws.length))=true/\e=.returned (.tuple #[.int .i64 0,.int .i64 6])/\ze w' bd S {D with reads:=D.reads+p}/\Kept (λj=>j=bd) w w')\/
   (((g.put 1 (zo (zx b (n+1)))).full||decide (18<(g.put 1 (zo (zx b (n+1)))).ws.length))=false/\e=.returned (.tuple #[.int .i64 ((n:Int)+1),.int .i64 0])/\yq w w' bd S {D with bs:=gX D.bs (g.put 1 (zo (zx b (n+1)))).ws,reads:=D.reads+p })):=by
 refine(Vc w bs bd S D k V ab ai O W B (by rw [C];constructor<;>omega) Z aj q n ad aa m ak d i P a cap l Q R ah M T r o f s m1 u z X am y hF U L I H E J).mono ?_;rintro e w' ⟨b,g,m2,G,F,af,p,ac,ae,h⟩;refine⟨b,g,m2,G,F,af,p,ac,ae,h.imp id ?_⟩;rintro⟨N,v,c,rfl,al,_,t,A⟩
 have Y:(g.put 1 (zo (zx b (n+1)))).ws.length<=18:=by have:=N;simp only [lw,decide_eq_false_iff_not] at this;omega
 have K:=(JX (D:={D with reads:=D.reads+p }) C B (by show 21<=D.bs.length;omega) t Y).2;rw [K] at A;obtain⟨rfl,ag⟩:=A.onto V;rw [al rfl];exact⟨N,rfl,ag⟩
theorem Vd(w:World)(bs:Nat)(q:Option Nat)(l:zt w bs 0 q)(b:ByteArray)(o:b.size<=maxLen)(c:zh b.data.toList=false)(a:Option Addr)(n cap:Nat):
 Calls Tryz.prog 27 #[.pointer (some ⟨bs,0,none⟩),.string b,.slice a n cap] w λe w'=>e=.returned (.tuple #[.int .i64 0,.int .i64 2])/\zt w' bs 0 q/\Kept (λk=>k=bs) w w':=by
 change Hid _ at l c;go_enter_defers Tryz.func27,Tryz.ntmps27
 go_wp2_with (first
  |(go_at_call 47;refine(qj l).mono ?_;rintro e m ⟨rfl,d,g⟩;change Hid _ at d g)
  |(go_at_call 49;refine(keys.qu b m o).mono ?_;rintro e w2 ⟨rfl,h⟩;rw [h,c.out];clear h w2))
 refine leaves_cons (f:= 48) (args:=#[.pointer (some ⟨bs,0,none⟩)]) (by simp) (by simp [go_sem]) ?_;refine(qh d).mono ?_;rintro e u' w2 ⟨rfl,rfl,j,i⟩;exact⟨_,results_tmp2 Tryz.results27 _ _ _,rfl,j,g.trans i iL⟩
theorem Ve(w:World)(bs:Nat)(q:Option Nat)(l:zt w bs 0 q)(b:ByteArray)(o:b.size<=maxLen)(c:zh b.data.toList=true)(a:Option Addr)(n cap:Nat)(r:300<n):
 Calls Tryz.prog 27 #[.pointer (some ⟨bs,0,none⟩),.string b,.slice a n cap] w λe w'=>e=.returned (.tuple #[.int .i64 0,.int .i64 3])/\zt w' bs 0 q/\Kept (λk=>k=bs) w w':=by
 have p:(300:Int)<(n:Int):=by omega
 change Hid _ at l c;go_enter_defers Tryz.func27,Tryz.ntmps27
 go_wp2_with (first
  |(go_at_call 47;refine(qj l).mono ?_;rintro e m ⟨rfl,d,g⟩;change Hid _ at d g)
  |(go_at_call 49;refine(keys.qu b m o).mono ?_;rintro e w2 ⟨rfl,h⟩;rw [h,c.out];clear h w2))
 refine leaves_cons (f:= 48) (args:=#[.pointer (some ⟨bs,0,none⟩)]) (by simp) (by simp [go_sem]) ?_;refine(qh d).mono ?_;rintro e u' w2 ⟨rfl,rfl,j,i⟩;exact⟨_,results_tmp2 Tryz.results27 _ _ _,rfl,j,g.trans i iL⟩
theorem GY(w:World)(bs:Nat)(l:zt w bs 0 none)(b:ByteArray)(o:b.size<=maxLen)(d:zh b.data.toList=true)(a:Option Addr)(n cap:Nat)(r:n<=300):
 Calls Tryz.prog 27 #[.pointer (some ⟨bs,0,none⟩),.string b,.slice a n cap] w λe w'=>e=.returned (.tuple #[.int .i64 0,.int .i64 8])/\zt w' bs 0 none/\Kept (λk=>k=bs) w w':=by
 have p:¬(300:Int)<(n:Int):=by omega
 change Hid _ at l d;go_enter_defers Tryz.func27,Tryz.ntmps27
 go_wp2_with (first
  |(go_at_call 47;refine(qj l).mono ?_;rintro e m ⟨rfl,c,g⟩;have q:=c.c2;change Hid _ at c g)
  |(go_at_call 49;refine(keys.qu b m o).mono ?_;rintro e w2 ⟨rfl,h⟩;rw [h,d.out];clear h w2))
 refine leaves_cons (f:= 48) (args:=#[.pointer (some ⟨bs,0,none⟩)]) (by simp) (by simp [go_sem]) ?_;refine(qh c).mono ?_;rintro e u' w2 ⟨rfl,rfl,j,i⟩;exact⟨_,results_tmp2 Tryz.results27 _ _ _,rfl,j,g.trans i iL⟩
structure gk (w w':World) (bs bd:Nat) (S:Nat->Prop) (D:Dk) (k:Int) (q:Option Nat):Prop where
 sto:zt w' bs k q
 disk:∃S',ze w' bd S' D/\∀k,S' k->S k\/w.heap.size<=k
 kept:Kept (λk=>S k\/k=bs) w w'
theorem Bg(w:World)(bs bd:Nat)(S:Nat->Prop)(D:Dk)(G:zt w bs 0 (some bd))(J:ze w bd S D)(V:¬S bs)(d:ByteArray)(U:d.size<=maxLen)(n:zh d.data.toList=true)(P:Nat->Prop)(a:Option Addr)(cap:Nat)(l:List UInt8)(y:zu w P a l)(z:∀j,P j->¬S j/\j≠bs)(ab:l.length<=300)(Q:Int->Int->Dk->Option Nat->Prop)
 (o:∀w',zt w' bs 1 (some bd)->ze w' bd S D->zu w' P a l->Calls Tryz.prog 52 #[.pointer (some ⟨bs,0,none⟩),.string d,.slice a l.length cap,.bool false] w' λe r=>∃v c b q,e=.returned (.tuple #[.int .i64 v,.int .i64 c])/\gk w' r bs bd S b 1 q/\Q v c b q):
 Calls Tryz.prog 27 #[.pointer (some ⟨bs,0,none⟩),.string d,.slice a l.length cap] w λe w'=>∃v c b q,e=.returned (.tuple #[.int .i64 v,.int .i64 c])/\Q v c b q/\gk w w' bs bd S b 0 q:=by
 have W:Hid (ze w bd S D):=J;have M:Hid (zh d.data.toList=true):=n;have N:Hid (zu w P a l):=y;have I:Hid (∀j,P j->¬S j/\j≠bs):=z;have T:Hid (∀j,S j->j≠bs):=λj g e=>V (by rw [<-e];exact g);have E:Hid (∀w',zt w' bs 1 (some bd)->ze w' bd S D->zu w' P a l->Calls Tryz.prog 52 #[.pointer (some ⟨bs,0,none⟩),.string d,.slice a l.length cap,.bool false] w' λe r=>∃v c b q,e=.returned (.tuple #[.int .i64 v,.int .i64 c])/\gk w' r bs bd S b 1 q/\Q v c b q):=o;have X:¬(300:Int)<(l.length:Int):=by omega
 have hbs:=G.lt;change Hid _ at G;clear J n y z o;go_enter_defers Tryz.func27,Tryz.ntmps27
 go_wp2_with (first
  |(go_at_call 47;refine(qj G).mono ?_;rintro e m ⟨rfl,p,t⟩;have i:Hid (Kept (λk=>k=bs) w m):=t;have aa:m.cell? ⟨bs,2,none⟩=some (.pointer (some ⟨bd,0,none⟩)):=p.c2;change Hid _ at p;clear t)
  |(go_at_call 49;refine(keys.qu d m U).mono ?_;rintro e w2 ⟨rfl,u⟩;rw [u,M.out];clear u w2)
  |(go_at_call 52;refine(E m p (W.kept i T) (N.kept i (λj g s=>(I j g).2 s))).mono ?_;rintro e w2 ⟨v,c,b,q,rfl,B,C⟩;have O:Hid (gk m w2 bs bd S b 1 q):=B;have R:PLift (Q v c b q):=⟨C⟩;clear B C))
 refine leaves_cons (f:= 48) (args:=#[.pointer (some ⟨bs,0,none⟩)]) (by simp) (by simp [go_sem]) ?_;obtain⟨F,⟨S',H,x⟩,K⟩:=O.out;refine(qh F).mono ?_;rintro e u' Y ⟨rfl,rfl,L,A⟩;have Z:=i.size;refine⟨_,results_tmp2 Tryz.results27 _ _ _,v,c,b,q,rfl,R.down,L,⟨S',H.kept A (λj g s=>?_),λj g=>?_⟩,?_⟩
 .rcases x j g with h|h;.exact T j h s
  .have ac:j=bs:=s;omega
 .rcases x j g with h|h;.exact .inl h
  .exact .inr (by omega)
 .exact((i.mono (S':=λk=>S k\/k=bs) (λ_ h=>.inr h)).trans K iL).trans A (λ_ h=>.inl (.inr h))
theorem Zf(w:World)(bd:Nat)(S:Nat->Prop)(D:Dk)(h:ze w bd S D):Calls Tryz.prog 54 #[.pointer (some ⟨bd,0,none⟩)] w λe w'=>e=.returned (.int .i64 D.bs.length)/\w'=w:=by
 obtain⟨a,b,d,c,h⟩:=h;exact ke w bd S D a b d c h
theorem Zg(w:World)(bd:Nat)(S:Nat->Prop)(D:Dk)(b:ze w bd S D)(f:D.bs.length<64):
 Calls Tryz.prog 35 #[.pointer (some ⟨bd,0,none⟩)] w λe w'=>e=.returned (.tuple #[.pointer none,.int .i64 1])/\w'=w:=by
 have d:(D.bs.length:Int)<64:=by omega
 change Hid _ at b;go_enter Tryz.func35,Tryz.ntmps35;go_wp2_with (go_at_call 54;refine(Zf w bd S D b).mono ?_;rintro e c ⟨rfl,a⟩;rw [a];clear a c);refine bodyPost_ret (results_tmp2 rfl _ _ _) rfl ?_;exact⟨rfl,rfl⟩
theorem dA(w:World)(bd:Nat)(S:Nat->Prop)(D f:Dk)(g:ze w bd S D)(p:64<=D.bs.length)(hfin:Calls Tryz.prog 55 #[.pointer (some ⟨bd,0,none⟩)] w λe w'=>e=.returned (.bool true)/\yq w w' bd S f):
 Calls Tryz.prog 35 #[.pointer (some ⟨bd,0,none⟩)] w λe w'=>∃bs,e=.returned (.tuple #[.pointer (some ⟨bs,0,none⟩),.int .i64 0])/\w.heap.size<=bs/\zt w' bs 0 (some bd)/\∃S',ze w' bd S' f/\(∀k,S' k->S k\/w.heap.size<=k)/\¬S' bs/\Kept S w w':=by
 have n:Hid (ze w bd S D):=g;have o:¬(D.bs.length:Int)<64:=by omega
 have d:Hid (Calls Tryz.prog 55 #[.pointer (some ⟨bd,0,none⟩)] w λe w'=>e=.returned (.bool true)/\yq w w' bd S f):=hfin;clear g hfin;go_enter Tryz.func35,Tryz.ntmps35
 go_wp2_with (first
  |(go_at_call 54;refine(Zf w bd S D n).mono ?_;rintro e a ⟨rfl,c⟩;rw [c];clear c a)
  |(go_at_call 55;refine d.mono ?_;rintro e a ⟨rfl,b⟩;change Hid _ at b))
 refine bodyPost_ret (results_tmp2 rfl _ _ _) rfl ?_;obtain⟨⟨S',j,m⟩,i⟩:=b.out;have l:=Kept.alloc (λ_=>False) a (.cells #[.int .i32 0,.int .u32 0,.pointer (some ⟨bd,0,none⟩)] 104);exact⟨a.heap.size,rfl,i.size,⟨heap_alloc_new a _⟩,S',j.kept l nF,m,λh=>by have:=j.lt _ h;omega,i.trans l fE⟩
theorem Zh(w:World)(bd:Nat)(S:Nat->Prop)(D d:Dk)(f:ze w bd S D)(j:64<=D.bs.length)(hfin:Calls Tryz.prog 55 #[.pointer (some ⟨bd,0,none⟩)] w λe w'=>e=.returned (.bool false)/\yq w w' bd S d):
 Calls Tryz.prog 35 #[.pointer (some ⟨bd,0,none⟩)] w λe w'=>e=.returned (.tuple #[.pointer none,.int .i64 7])/\yq w w' bd S d:=by
 have h:Hid (ze w bd S D):=f;have i:¬(D.bs.length:Int)<64:=by omega
 have c:Hid (Calls Tryz.prog 55 #[.pointer (some ⟨bd,0,none⟩)] w λe w'=>e=.returned (.bool false)/\yq w w' bd S d):=hfin;clear f hfin;go_enter Tryz.func35,Tryz.ntmps35
 go_wp2_with (first
  |(go_at_call 54;refine(Zf w bd S D h).mono ?_;rintro e g ⟨rfl,b⟩;rw [b];clear b g)
  |(go_at_call 55;refine c.mono ?_;rintro e g ⟨rfl,a⟩;change Hid _ at a))
 refine bodyPost_ret (results_tmp2 rfl _ _ _) rfl ?_;exact⟨rfl,a⟩
end prog
namespace prog
open Go.RowKit disk ref
open law (zP za zL qx jp yU zD xm J6 OutIs Uc)
open keys (zh)
def yX(bs:List (List Value))(V:zP):Prop:=∃tree n m es bl bo,gA bs V tree n m es bl bo
variable {Fu:Int->Prop} {Ho:List (List Value)->zP->Prop} {m1:∀f,Fu f->zs f} {m2:Fu (-1)} {m3:∀bs V,yX bs V->Ho bs V} {m4:∀bs V,Ho bs V->law.Good V}
def ui(Fu:Int->Prop)(Ho:List (List Value)->zP->Prop)(m1:∀f,Fu f->zs f)(m2:Fu (-1))(m3:∀bs V,yX bs V->Ho bs V)(m4:∀bs V,Ho bs V->law.Good V):za where
 Rest:=yX
 Holds:=Ho
 Sto:=λw b q=>zt w b 0 q
 Fu:=Fu
 rest_holds:=m3
 good:=m4
 zeros:=λn h1 h2=>m3 _ _ ⟨_,_,_,_,_,_,Uh n h1 h2⟩
 sto_lt:=λw b q h=>h.lt
 sto_kept:=λw w' b q T h k hn=>h.kept k hn
 fu_int:=m1
 fu_neg:=m2
def GZ:za:=ui (λf=>f= -1) yX (λf h=>by rw [h];constructor<;>omega) rfl (λ_ _ h=>h) (λbs V ⟨_,_,_,_,_,_,h⟩=>h.good)
theorem Zi:∀ps:List (Nat×List Value),sel ps (List.replicate ps.length true)=ps
 |[]=>rfl
 |p::ps=>by unfold sel;rw [ae,mF];simp [Zi ps]
theorem kF:zL GZ where
 small:=λw bd S D d C=>(Zg w bd S D d C).mono (by
  rintro e w' ⟨g,rfl⟩
  exact⟨g,d,Kept.refl _ _⟩)
 big:=λw bd S D P d a o l H=>by
  have f:=o;obtain⟨V,G,h,n,m,z,r,bo,b⟩:=a.all (List.replicate D.ps.length true);rw [Zi] at b;obtain⟨p,x,y,B⟩:=b.head;have c:=kt f;have i:=a.big;have k:D.flush.look 0=zo p:=by rw [c];exact y
  refine(dA w bd S D {D.flush with reads:=D.reads+1} d a.big (dX w bd S D d (by rw [f];constructor<;>omega) (by rw [f];rfl) l (by omega) p x k B)).mono ?_;rintro e w' ⟨bs,g,q,A,S',s,u,E,t⟩;have j:D.flush.bs=zk D.bs D.ps:=by rw [c]
  have v:D.flush.ps=[]:=by rw [c]
  have F:D.flush.fuse= -1:=by rw [c];exact f
  refine⟨{D.flush with reads:=D.reads+1},S',⟨s,u,t,by show D.reads<=D.reads+1;omega,by show D.reads+1<=_;omega,by show D.flush.bs.length=_;rw [j,zB],F⟩,.inl ⟨bs,V,g,q,E,A,G,⟨v,?_,?_⟩⟩⟩
  .show yX D.flush.bs V;rw [j];exact⟨h,n,m,z,r,bo,b⟩
  .show 64<=D.flush.bs.length;rw [j,zB];exact i
theorem vB{w w':World}{bd bs:Nat}{S:Nat->Prop}{D:Dk}{q:Option Nat}(c:ze w bd S D)(g:¬S bs)(b:Fu D.fuse)(f:zt w' bs 0 q)(a:Kept (λk=>k=bs) w w'):xm (ui Fu Ho m1 m2 m3 m4) w w' bd bs S S D D 40 q:=
 ⟨c.kept a (λj d e=>g (by rw [<-show j=bs from e];exact d)),λ_ h=>.inl h,f,a.mono (λ_ h=>.inr h),eD _,by omega,rfl,b⟩
theorem uj{w w':World}{bd bs:Nat}{S:Nat->Prop}{D:Dk}{q:Option Nat}{r:Int}(c:ze w bd S D)(b:Fu D.fuse)(f:zt w' bs 0 q)(l:D.reads<=r)(d:r<=D.reads+40)(a:ze w' bd S {D with reads:=r })(g:Kept (λk=>k=bd\/k=bs) w w'):xm (ui Fu Ho m1 m2 m3 m4) w w' bd bs S S D {D with reads:=r} 40 q:=
 ⟨a,λ_ h=>.inl h,f,g.mono (λj i=>i.elim (λe=>.inl (by rw [e];exact c.bdS)) .inr),l,d,rfl,b⟩
theorem Yk:jp (ui Fu Ho m1 m2 m3 m4) where
 live:=λw bd bs S D V c F C=>by
  have L:=F.fuse;have I:=F.sto;have B:=F.disk;have y:=F.live.ps;obtain⟨l,n,m,E,M,bo,v⟩:=F.live.rest;have P:=F.reads0;have ah:=F.reads1;have A:n<4611686018427387904:=by have:=F.few;rw [v.n0] at this;omega
  have z:∀r:Int,(ui Fu Ho m1 m2 m3 m4).Live {D with reads:=r} V:=λr=>⟨y,⟨l,n,m,E,M,bo,v⟩,F.live.big⟩
  cases d:zh c.data.toList with
  |false=>
   refine(Vb w bs (some bd) I c C d).mono ?_;rintro e w' ⟨i,g,o⟩;exact⟨D,.slice none 0 0,0,S,i,vB B F.apart L g o,F.live,⟨λh=>absurd h (show ¬(2:Int)=0 by decide),λ_=>⟨none,0,rfl⟩⟩,λk h=>(by cases h),λ_=>rfl,λu h=>absurd h (show ¬(2:Int)=0 by decide)⟩
  |true=>
   have t:yi (D.look 1) l n:=by have:=v.root;rw [<-yl y] at this;exact this
   have J:=v.forest.congr (λj _=>yl y j);have G:∀j∈M,21<=j:=λj af=>(v.range j (ac _ af)).1
   cases b:jH c (xn ⟨c,9223372036854775807⟩ E).head? with
   |false=>
    have s:yF true (zO V.vs c)=5:=by
     cases f:(xn ⟨c,9223372036854775807⟩ E).head? with
     |none=>rw [v.new_no A (λx K=>by rw [f] at K;cases K)];rfl
     |some x=>
      by_cases q:x.pl.key=c
      .rw [v.new_yes A f q];rw [f] at b
       have ae:x.mark=true:=by
        simp only [jH,q,ng,lY] at b
        cases W:x.mark with
        |true=>rfl
        |false=>rw [W] at b;cases b
       show cond x.mark 5 0=5;rw [ae];rfl
      .rw [v.new_no A (λaj X=>by rw [f] at X;cases X;exact q)];rfl
    refine(GQ w bs bd S D I B F.apart P (by omega) l n t c C d E M J v.len G _ rfl b).mono ?_;rintro e w' ⟨i,g,⟨r,o,ab,T⟩,U⟩;rw [s];exact⟨{D with reads:=r},.slice none 0 0,0,S,i,uj B L g o (by omega) T U,z r,⟨λh=>absurd h (by decide),λ_=>⟨none,0,rfl⟩⟩,λk h=>(by cases h),λ_=>rfl,λu h=>absurd h (by decide)⟩
   |true=>
    cases f:(xn ⟨c,9223372036854775807⟩ E).head? with
    |none=>rw [f] at b;cases b
    |some x=>
     rw [f] at b;have q:x.pl.key=c:=by simp only [jH,aS,aO] at b;exact b.1
     have Z:x.mark=false:=by simp only [jH,aS,ij] at b;exact b.2
     have H:=v.new_yes A f q;have K:=(v.forest.six.2.2.head_on f).1;have R:=v.body x K;obtain⟨ad,aa,ai⟩:=v.pieces K;have s:yF true (zO V.vs c)=0:=by rw [H];show cond x.mark 5 0=0;rw [Z];rfl
     refine(GR w bs bd S D I B F.apart P (by omega) l n t c C d E M J v.len G x f b (bo x.pl) (R.chain.congr (λp _=>yl y p.at_)) ad R.head _ rfl R.size aa (by omega)).mono ?_;rintro e w' ⟨⟨a,cap,i,Q,N⟩,g,⟨r,o,ab,T⟩,U⟩;rw [s];refine⟨{D with reads:=r},_,x.pl.num,S,i,uj B L g o (by omega) T U,z r,⟨λ_=>⟨_,H,⟨a,cap,rfl,Q,N⟩⟩,λh=>absurd rfl h⟩,λk h ag=>?_,λh=>absurd rfl h,λu _ Y=>?_⟩;.have:=N k h;have:=B.lt k ag;omega
     .rw [H] at Y;cases Y;rfl
 shut:=λw bs c I C=>by
  have O:=I
  cases d:zh c.data.toList with
  |false=>exact(Vb w bs none O c C d).mono (λe w' ⟨i,g,o⟩=>⟨none,0,i,g,o⟩)
  |true=>exact(GP w bs O c C d).mono (λe w' ⟨i,g,o⟩=>⟨none,0,i,g,o⟩)
theorem Yl:yU (ui Fu Ho m1 m2 m3 m4) where
 live:=λw bd bs S D V c d F B af=>by
  have J:=F.fuse;have H:=F.sto;have A:=F.disk;have y:=F.live.ps;obtain⟨q,n,m,C,K,bo,v⟩:=F.live.rest;have O:=F.reads0;have ag:=F.reads1;have z:∀r:Int,(ui Fu Ho m1 m2 m3 m4).Live {D with reads:=r} V:=λr=>⟨y,⟨q,n,m,C,K,bo,v⟩,F.live.big⟩
  cases f:zh c.data.toList with
  |false=>
   refine(GS w bs (some bd) H c d B f).mono ?_;rintro e w' ⟨l,i,s⟩;exact⟨D,.slice none 0 0,S,l,vB A F.apart J i s,F.live,⟨λh=>absurd h (show ¬(2:Int)=0 by decide),λ_=>⟨none,0,rfl⟩⟩,λk h=>(by cases h)⟩
  |true=>
   have u:yi (D.look 1) q n:=by have:=v.root;rw [<-yl y] at this;exact this
   have I:=v.forest.congr (λj _=>yl y j);have G:∀j∈K,21<=j:=λj ad=>(v.range j (ac _ ad)).1
   cases b:BE c d (xn ⟨c,d⟩ C).head? with
   |false=>
    have t:yF true (qK V.vs c d)=5:=by
     cases o:(xn ⟨c,d⟩ C).head? with
     |none=>rw [v.at_no (λx E=>by rw [o] at E;cases E)];rfl
     |some x=>
      by_cases g:x.pl.key=c/\x.pl.num=d
      .rw [v.at_yes (v.forest.six.2.2.head_on o).1 g.1 g.2];rw [o] at b
       have ab:x.mark=true:=by
        simp only [BE,g.1,g.2,ng,lY] at b
        cases U:x.mark with
        |true=>rfl
        |false=>rw [U] at b;cases b
       show cond x.mark 5 0=5;rw [ab];rfl
      .rw [v.at_no (λai W=>by rw [o] at W;cases W;exact g)];rfl
    refine(at_none w bs bd S D H A F.apart O (by omega) q n u c d B f C K I v.len G _ rfl b).mono ?_;rintro e w' ⟨l,i,⟨r,s,Z,R⟩,T⟩;rw [t];exact⟨{D with reads:=r},.slice none 0 0,S,l,uj A J i s (by omega) R T,z r,⟨λh=>absurd h (by decide),λ_=>⟨none,0,rfl⟩⟩,λk h=>(by cases h)⟩
   |true=>
    cases o:(xn ⟨c,d⟩ C).head? with
    |none=>rw [o] at b;cases b
    |some x=>
     rw [o] at b;have g:x.pl.key=c/\x.pl.num=d:=by simp only [BE,aS,aO] at b;exact b.1
     have X:x.mark=false:=by simp only [BE,aS,ij] at b;exact b.2
     have E:=(v.forest.six.2.2.head_on o).1;have N:=v.at_yes E g.1 g.2;have Q:=v.body x E;obtain⟨aa,Y,ah⟩:=v.pieces E;have t:yF true (qK V.vs c d)=0:=by rw [N];show cond x.mark 5 0=0;rw [X];rfl
     refine(Be w bs bd S D H A F.apart O (by omega) q n u c d B f C K I v.len G x o b (bo x.pl) (Q.chain.congr (λp _=>yl y p.at_)) aa Q.head _ rfl Q.size Y (by omega)).mono ?_;rintro e w' ⟨⟨a,cap,l,P,L⟩,i,⟨r,s,Z,R⟩,T⟩;rw [t];refine⟨{D with reads:=r},_,S,l,uj A J i s (by omega) R T,z r,⟨λ_=>⟨_,N,⟨a,cap,rfl,P,L⟩⟩,λh=>absurd rfl h⟩,λk h ae=>?_⟩;have:=L k h;have:=A.lt k ae;omega
 shut:=λw bs c d H B=>by
  have M:=H
  cases f:zh c.data.toList with
  |false=>exact(GS w bs none M c d B f).mono (λe w' ⟨l,i,s⟩=>⟨none,0,l,i,s⟩)
  |true=>exact(Bc w bs M c d B f).mono (λe w' ⟨l,i,s⟩=>⟨none,0,l,i,s⟩)
end prog
end Go.Proofs.YtcoengihaobddaaGreatDoor
