/- Part 14 of 36 of a proof: Law20, Find12, Find13, Top1 -/
import Derived.Test.YtcoengihaobddaaGreatDoorJc13
import Derived.Deep.Slices
import Derived.ChangeArms
import Derived.SizedLaws
set_option maxHeartbeats 8000000
set_option linter.unusedVariables false
set_option linter.unusedSimpArgs false
set_option maxRecDepth 8000
namespace Go.Proofs.YtcoengihaobddaaGreatDoor
namespace law
open Go.ChangeShapes Go.WideShapes Go.ChangeAt Go.RowKit disk ref book
open keys (zh ze zy zs zq)
variable {W1 w2:World}{v0:Value}{more:Bool}
def uE(bo f box q:Nat)(od:xk):Nat->Value
 |0=>.pointer (some ⟨bo,0,none⟩)
 |1=>.pointer (some ⟨bo,0,none⟩)
 |2=>.pointer (some ⟨bo,f,none⟩)
 |3=>.pointer (some ⟨q,0,none⟩)
 |4=>.pointer (some ⟨box,5,none⟩)
 |5=>.string od.P
 |6=>.pointer (some ⟨box,4,none⟩)
 |7=>.string od.S
 |8=>.pointer (some ⟨box,2,none⟩)
 |9=>.int .i64 od.B
 |10=>.pointer (some ⟨box,3,none⟩)
 |_=>.int .i64 od.C
structure vz (M:zd) (X R:Nat->Prop) (bo bs bd:Nat) (h:zQ) (D:Dk) (S:Nat->Prop) (V:qq) (od:xk) (cc:Int) (W1:World) (v0 v1 c:Value) (w2:World) (D2:Dk) (S2:Nat->Prop) (more:Bool):Prop where
 v1:v1=.bool more
 c:c=.int .i64 cc
 aft:yV M W1 w2 bd bs S S2 D D2 1000
 ask:xq M w2 bs bd h D D2 V
 pg:Vn W1 w2 S2 V.vs od.P od.S od.B od.C v0 more cc
 bb:X bs/\¬S bs/\¬R bs/\bs≠bo
theorem Qz.laid{g i:World}{L:List zB}{m:Int}{c:Int}{b:Nat}(l:Qz W1 w2 L m v0 more c)(k1:za (λ_=>False) g W1)(r:g.heap.size<=b)(s:b<W1.heap.size\/w2.heap.size<=b)(o:za (λk=>k=b) w2 i):
 Qz g i L m v0 more c/\∀j,v0.ownBlock=some j->j≠b:=by
 have t:=k1.size
 have d:∀j,v0.ownBlock=some j->j≠b:=λj a=>by
  by_cases f:c=0
  .obtain⟨_,n,p,e,h,h2⟩:=l.yes f;rw [e] at a;have u:=h2 j a;have w:=(h.lt j a).2;omega
  .rw [(l.no f).1] at a;cases a
 refine⟨⟨(k1.trans l.kept iL).trans o (λk v=>.inr (by omega)),λf=>?_,l.no⟩,d⟩;obtain⟨q,n,p,e,h,h2⟩:=l.yes f;exact⟨q,n,p,e,o.owns h (λj a=>by rw [e] at d;exact d j a),λj a=>by have:=h2 j a;omega⟩
theorem Qz.form{w w':World}{L:List zB}{m:Int}{c:Int}(d:Qz w w' L m v0 more c):∃a n k,v0=.slice a n k:=by
 by_cases b:c=0
 .obtain⟨_,f,g,e,_⟩:=d.yes b;exact⟨_,_,_,e⟩
 .exact⟨_,_,_,(d.no b).1⟩
theorem vz.form{M:zd}{X o:Nat->Prop}{bo bs bd:Nat}{h:zQ}{D:Dk}{S:Nat->Prop}{V:qq}{i:xk}{b:Int}{j c:Value}{g:Dk}{f:Nat->Prop}(l:vz M X o bo bs bd h D S V i b W1 v0 j c w2 g f more):∃a n k,v0=.slice a n k:=by
 by_cases d:b=0
 .obtain⟨L,_,⟨_,m,p,e,_⟩,_⟩:=l.pg.yes d;exact⟨_,_,_,e⟩
 .exact⟨_,_,_,(l.pg.no d).1⟩
theorem vz.laid{M:zd}{X K:Nat->Prop}{bo bs bd:Nat}{h:zQ}{D:Dk}{S:Nat->Prop}{V:qq}{C:xk}{n:Int}{p u:World}{w c:Value}{x:Dk}{r:Nat->Prop}{a:Nat}(f:vz M X K bo bs bd h D S V C n W1 v0 w c w2 x r more)(v:∀k,X k->k<p.heap.size)(H:∀k,S k->X k)(k1:za (λ_=>False) p W1)(I:p.heap.size<=a)(A:a<W1.heap.size\/w2.heap.size<=a)(m:za (λk=>k=a) w2 u):
 vz M X K bo bs bd h D S V C n p v0 w c u x r more/\∀j,v0.ownBlock=some j->j≠a:=by
 have J:=k1.size
 have z:¬r a:=λd=>by
  rcases A with i|i
  .rcases f.aft.foot a d with h2|h2;.have:=v _ (H _ h2);omega
   .omega
  .have:=f.aft.disk.lt a d;omega
 have hbs:¬bs=a:=λe=>by have:=v bs f.bb.1;omega
 have q:∀j,n=0->v0.ownBlock=some j->W1.heap.size<=j/\j≠a:=λj d b=>by obtain⟨L,_,⟨_,B,y,e,i,h2⟩,_⟩:=f.pg.yes d;rw [e] at b;have s:=h2 j b;have N:=(i.lt j b).2;exact⟨s,by omega⟩
 have g:∀j,v0.ownBlock=some j->j≠a:=λj b=>by
  by_cases d:n=0;.exact(q j d b).2
  .rw [(f.pg.no d).1] at b;cases b
 refine⟨⟨f.v1,f.c,⟨f.aft.disk.kept m (λk o e=>z (by rw [<-e];exact o)),λk o=>(f.aft.foot k o).imp id (λh=>by omega),((k1.mono fE).trans f.aft.kept iL).trans m (λk o=>.inr (by omega)),f.aft.reads0,f.aft.reads1,f.aft.size,f.aft.fuse⟩,?_,⟨λd=>?_,f.pg.no⟩,f.bb⟩,g⟩
 .cases f.ask using xq.elim with
  |shut t l F=>exact .shut t (M.sto_kept _ _ _ _ _ l m hbs) F
  |live t l live=>exact .live t (M.sto_kept _ _ _ _ _ l m hbs) live
 .obtain⟨L,G,⟨E,B,y,e,i,h2⟩,s⟩:=f.pg.yes d;exact⟨L,G,⟨E,B,y,e,m.owns i (λj b=>by rw [e] at g;exact g j b),λj b=>by have:=h2 j b;omega⟩,s⟩
theorem Xk(M:zd)(A:xD M)(w:World)(X:Nat->Prop)(bo t:Nat)(h:zQ)(bd:Nat)(D:Dk)(S bv:Nat->Prop)(aA:Nat)(V:qq)(af:Int)(n:yw M w X bo t h bd D S bv aA V af)(dp:t<=2199023255552)(bs:Nat)(hbs:h.s=qu bs)
 (d:xk) (Q:Nat->Prop) (an:d.Ok w Q) (cO:∀k,Q k->¬X k/\k<w.heap.size) (a0:d.kind=7)
 (R:Nat) (bm:Value) (F H:Nat->Prop) (a b:Option Addr) (bf bH:Nat) (bj vs:List xZ) (B:xx w R bm F H a b bf bH bj vs) (dh:vs.length<=t) (P:∀k,X k->¬F k/\¬H k/\k≠R):
 Calls Tryz.prog 63 #[.pointer (some ⟨R,0,none⟩),.pointer (some ⟨bo,0,none⟩),.agg #[.int .i64 d.kind,.int .i64 d.A,.int .i64 d.B,.int .i64 d.C,.string d.S,.string d.P,.slice d.la d.l.length d.lc,.slice d.ka d.ks.length d.kc]] w λe w'=>Vp M w w' X bo t R bm F H a bf bj vs e:=by
 have az:=n.xlt;have k0:za (λ_=>False) w (w.alloc (.cells #[.int .i64 d.kind,.int .i64 d.A,.int .i64 d.B,.int .i64 d.C,.string d.S,.string d.P,.slice d.la d.l.length d.lc,.slice d.ka d.ks.length d.kc] 81)):=za.alloc _ _ _;have au:xg (w.alloc (.cells #[.int .i64 d.kind,.int .i64 d.A,.int .i64 d.B,.int .i64 d.C,.string d.S,.string d.P,.slice d.la d.l.length d.lc,.slice d.ka d.ks.length d.kc] 81)) w.heap.size d:=⟨ac w _⟩;have bt:=an.kept k0 nF;have z:=n.kept k0 nF;have Z:w.heap.size<(w.alloc (.cells #[.int .i64 d.kind,.int .i64 d.A,.int .i64 d.B,.int .i64 d.C,.string d.S,.string d.P,.slice d.la d.l.length d.lc,.slice d.ka d.ks.length d.kc] 81)).heap.size:=by simp
 have b2:=z.head.c0;rw [z.hd] at b2;unfold qu at b2;have bg:=z.head.c1;rw [hbs] at bg;unfold qu at bg;have cx:=au.c4;have cD:=au.c2;have cw:=au.c3;have cV:=au.c5;have dj:=au.c0.trans (congrArg (λk=>some (Value.int .i64 k)) a0);have c2:=az bo n.bX;have cn:=n.good.few;change Hid _ at au bt z n an cO hbs az k0 B P Z;clear a0;generalize dl:w.alloc (.cells #[.int .i64 d.kind,.int .i64 d.A,.int .i64 d.B,.int .i64 d.C,.string d.S,.string d.P,.slice d.la d.l.length d.lc,.slice d.ka d.ks.length d.kc] 81)=ag at*;go_enter Tryz.func63,Tryz.ntmps63;go_wp2_with fail;obtain⟨dc,c5,cJ,cv,bS⟩:=z.disk;refine(qE _ bd S D dc c5 cJ cv bS).mono ?_;rintro e ch ⟨rfl,aK⟩;rw [aK];clear aK ch bS;go_wp2_with fail
 have ah:∀o,za (λ_=>False) ag o->o.cell? ⟨bo,1,none⟩=some (.pointer (some ⟨bs,0,none⟩))/\o.cell? ⟨w.heap.size,5,none⟩=some (.string d.P)/\o.cell? ⟨w.heap.size,4,none⟩=some (.string d.S)/\o.cell? ⟨w.heap.size,2,none⟩=some (.int .i64 d.B)/\o.cell? ⟨w.heap.size,3,none⟩=some (.int .i64 d.C):=λo k=>by have y:=Z.out;exact⟨(k.cell (a:=⟨bo,1,none⟩) (show bo<ag.heap.size by omega) id).trans bg,(k.cell (a:=⟨w.heap.size,5,none⟩) y id).trans cV,(k.cell (a:=⟨w.heap.size,4,none⟩) y id).trans cx,(k.cell (a:=⟨w.heap.size,2,none⟩) y id).trans cD,(k.cell (a:=⟨w.heap.size,3,none⟩) y id).trans cw⟩
 have cI:Hid (X bs):=by
  cases n.st using qI.elim with
  |live ba aO ca=>have e:ba=bs:=(by have s:=hbs.out;rw [aO] at s;unfold qu at s;simpa using s);rw [<-e];exact ca
  |shut ba aO ca=>have e:ba=bs:=(by have s:=hbs.out;rw [aO] at s;unfold qu at s;simpa using s);rw [<-e];exact ca
  |gone aO=>have s:=hbs.out;rw [aO] at s;cases s
 have bU:∀k,(S k\/k=bs)->k<ag.heap.size:=λk l=>z.xlt k (l.elim (z.sX k) (λe=>by rw [e];exact cI));have cU:Hid (∀k,(S k\/k=bs)->k<ag.heap.size):=bU;clear bU;refine xj (by kernel_rfl) (by kernel_rfl) (λL aX o=>∃x:Nat->Value,aX={tmps:=#[.pointer (some ⟨R,0,none⟩),.pointer (some ⟨bo,0,none⟩),.agg #[.int .i64 d.kind,.int .i64 d.A,.int .i64 d.B,.int .i64 d.C,.string d.S,.string d.P,.slice d.la d.l.length d.lc,.slice d.ka d.ks.length d.kc],undef,undef,.pointer (some ⟨w.heap.size,0,none⟩),.bool false,.int .i64 D.reads,undef,undef,undef,undef,undef,undef,undef,undef,undef,undef,undef,undef,undef,undef,x 16,x 18,undef,undef,undef,.pointer (some ⟨bo,0,none⟩),.pointer (some ⟨bo,0,none⟩),.pointer (some ⟨bo,0,none⟩),.pointer (some ⟨bd,0,none⟩),.int .i64 D.reads,.pointer (some ⟨w.heap.size,0,none⟩),.int .i64 7,.bool false,.bool false,undef,undef,undef,undef,undef,undef,undef,undef,undef,undef,undef,undef,undef,undef,undef,undef,undef,undef,undef,undef,undef,undef,undef,undef,undef,undef,undef,undef,undef,undef,undef,undef,undef,undef,undef,undef,undef,undef,undef,undef,undef,undef,undef,undef,undef,undef,undef,undef,undef,undef,undef,undef,undef,undef,undef,undef,undef,undef,undef,undef,undef,undef,undef,undef,undef,undef,undef,undef,undef,.bool false,.bool false,undef,undef,undef,undef,undef,undef,undef,undef,undef,undef,undef,undef,undef,undef,undef,undef,undef,undef,undef,undef,undef,undef,undef,undef,undef,undef,undef,undef,undef,undef,undef,undef,undef,undef,undef,undef,undef,undef,undef,undef,undef,undef,undef,undef,undef,undef,undef,undef,undef,undef,undef,undef,undef,undef,undef,undef,undef,undef,undef,undef,undef,undef,x 13,x 0,x 1,x 2,x 3,x 4,x 5,x 6,x 7,x 8,x 9,x 10,x 11,x 12,x 14,x 15,undef,undef,undef,undef,undef,undef,undef,undef,undef,undef,undef,undef,undef,undef,undef,undef,undef,undef,undef,undef,undef,undef,undef,undef,undef,undef,undef,undef,undef,undef,undef,undef,undef,undef,undef,undef,undef,undef,undef,undef,undef,undef,undef,undef,undef,undef,undef,undef,undef,undef],defers:=[]}/\qX ag 90 (uE bo 1 w.heap.size bs d) (λW1 v0 ao c w2=>∃ap ab more,vz M X bv bo bs bd h D S V d (yo h.shut (qH d.P d.S d.B d.C)) W1 v0 ao c w2 ap ab more) L x o) ?_ ?_ ?_;.exact⟨λ_=>undef,rfl,qX.start _⟩
 .rintro L aX o i dn a6 al f ⟨x,rfl,g⟩;have aY:i<19:=(lT a6);rcases (by omega:(i=0\/i=1\/i=2\/i=4\/i=6\/i=8\/i=10)\/(i=3\/i=5\/i=7\/i=9\/i=11)\/i=12\/i=13\/i=14\/i=15\/i=16\/i=17\/i=18) with(rfl|rfl|rfl|rfl|rfl|rfl|rfl)|(rfl|rfl|rfl|rfl|rfl)|rfl|rfl|rfl|rfl|rfl|rfl|rfl;all_goals (have bi:=eG a6;subst bi)
  iterate 7
   .first|have e:=g.pv 0 (by decide) (f ⟨0,.data⟩ ⟨.head _⟩ rfl)|have e:=g.pv 1 (by decide) (f ⟨1,.data⟩ ⟨.head _⟩ rfl)|have e:=g
    (try simp only [uE] at e)
    refine wpOp_step rfl (λW p=>?_)
    (try simp only [e])
    go_simp;exact p _ _ ⟨_,(by first|simp [uE,e]|simp [uE]),g.pure _ (by decide)⟩
  iterate 5
   .obtain⟨cg,cr,c4,da,dg⟩:=ah o (g.early (g.l12 al)).1
    first|have e:=g.pv 2 (by decide) (f ⟨2,.data⟩ ⟨.head _⟩ rfl)|have e:=g.pv 4 (by decide) (f ⟨4,.data⟩ ⟨.head _⟩ rfl)|have e:=g.pv 6 (by decide) (f ⟨6,.data⟩ ⟨.head _⟩ rfl)|have e:=g.pv 8 (by decide) (f ⟨8,.data⟩ ⟨.head _⟩ rfl)|have e:=g.pv 10 (by decide) (f ⟨10,.data⟩ ⟨.head _⟩ rfl)
    simp only [uE] at e;refine wpOp_step rfl (λW p=>?_)
    (try simp only [e])
    go_simp;exact p _ _ ⟨_,(by first|simp [uE,e]|simp [uE]),g.pure _ (by decide)⟩
  .have bb:L 3=true:=(f ⟨3,.data⟩ (by simp) rfl);have bK:x 3=.pointer (some ⟨bs,0,none⟩):=g.pv 3 (by omega) bb;have bw:L 5=true:=(f ⟨5,.data⟩ (by simp) rfl);have bq:x 5=.string d.P:=g.pv 5 (by omega) bw;have a5:L 7=true:=(f ⟨7,.data⟩ (by simp) rfl);have bc:x 7=.string d.S:=g.pv 7 (by omega) a5;have bn:L 9=true:=(f ⟨9,.data⟩ (by simp) rfl);have br:x 9=.int .i64 d.B:=g.pv 9 (by omega) bn;have aL:L 11=true:=(f ⟨11,.data⟩ (by simp) rfl);have aQ:x 11=.int .i64 d.C:=g.pv 11 (by omega) aL;have aM:=(g.early al).1;refine wpOp_step rfl (λW p=>?_);simp only [bK,bq,bc,br,aQ];go_simp;refine(Vo M A o X bo t h bd D S bv aA V af (z.kept aM nF) (by omega) bs hbs d.P d.S an.out.P an.out.S d.B d.C an.out.B an.out.C).mono ?_;rintro e w2 ⟨ap,ab,v0,more,rfl,ak,ce,cP,cs⟩;exact p _ _ ⟨λj=>if j=12 then .tuple #[.agg #[v0,.bool more],.int .i64 (yo h.shut (qH d.P d.S d.B d.C))] else x j,by simp [bK,bq,bc,br,aQ],g.call al v0 (.bool more) _ w2 (λk=>S k\/k=bs) cU ak.kept ⟨ap,ab,more,rfl,rfl,ak,ce,cP,cs⟩ ⟨bb,bw,a5,bn,aL⟩⟩
  .have bF:L 12=true:=(f ⟨12,.data⟩ (by simp) rfl);refine wpOp_step rfl (λW p=>?_);go_simp;exact p _ _ ⟨λj=>if j=13 then x 12 else x j,by simp,g.part13 bF al⟩
  .have C:L 13=true:=(f ⟨13,.data⟩ (by simp) rfl);have u:=g.t12 C;obtain⟨W1,w2,v0,ao,c,q⟩:=g.late u;have E:=q.x13 C;refine wpOp_step rfl (λW p=>?_);simp only [E];go_simp;exact p _ _ ⟨λj=>if j=14 then .agg #[v0,ao] else x j,by simp [E],g.part14 u _ (λ_ _ _ _ _ q'=>by have s:=q'.x13 C;rw [E] at s;simp at s;rw [s.1.1,s.1.2])⟩
  .have C:L 13=true:=(f ⟨13,.data⟩ (by simp) rfl);have u:=g.t12 C;obtain⟨W1,w2,v0,ao,c,q⟩:=g.late u;have E:=q.x13 C;refine wpOp_step rfl (λW p=>?_);simp only [E];go_simp;exact p _ _ ⟨λj=>if j=15 then c else x j,by simp [E],g.part15 u _ (λ_ _ _ _ _ q'=>by have s:=q'.x13 C;rw [E] at s;simp at s;exact s.2)⟩
  .refine wpOp_step rfl (λW p=>?_);go_simp;exact p _ _ ⟨λj=>if j=16 then .pointer (some ⟨o.heap.size,0,none⟩) else x j,by simp,g.make al _ _⟩
  .have a7:L 16=true:=(f ⟨16,.data⟩ (by simp) rfl);have aN:L 14=true:=(f ⟨14,.data⟩ (by simp) rfl);have u:=g.t12 aN;obtain⟨b,v0,ao,U,aj,⟨u0,u1,aJ⟩,⟨_,_,_,ae⟩,bh⟩:=g.lay u a7 al;obtain⟨ap,ab,more,ae⟩:=ae;obtain⟨K,a4,N,rfl⟩:=ae.form;obtain rfl:=ae.v1;clear ae;have aj:=aj aN;have db:o.cell? ⟨b,0,none⟩=some u0:=cR aJ rfl;have cg:o.cell? ⟨b,1,none⟩=some u1:=cR aJ rfl;have dd:=aa o b 0 _ _ aJ;have c6:=aa o b 1 _ _ aJ;refine wpOp_step rfl (λW p=>?_);simp only [U,aj];go_simp;exact p _ _ ⟨λj=>if j=17 then undef else x j,by simp [U,aj],bh undef⟩
  .have aS:L 15=true:=(f ⟨15,.data⟩ (by simp) rfl);have u:=g.t12 aS;refine wpOp_step rfl (λW p=>?_);go_simp;exact p _ _ ⟨λj=>if j=18 then x 15 else x j,by simp,g.part18 u _ (λ_ _ _ _ _ q=>q.x15 aS)⟩
 .rintro L aX O G ⟨x,rfl,g⟩;obtain⟨W1,w2,v0,ao,c,q⟩:=g.late (G 12 (by decide));obtain⟨ap,ab,more,a9⟩:=q.post;obtain⟨I,U,cW,bx,b8,u0,u1,aH,cM⟩:=q.yes (G 16 (by decide));obtain⟨rfl,rfl⟩:=cM (G 17 (by decide));have aq:=q.x18 (G 18 (by decide));obtain⟨J,bJ⟩:=a9.laid z.xlt z.sX q.k1 cW bx b8;rw [J.c] at aq;rw [U,aq];have cc:=(lT aH);clear ah g G a9 bx b8 U aq q;obtain⟨K,a4,N,rfl⟩:=J.form;obtain rfl:=J.v1;have ak:yV M ag.drew O bd bs S ab D ap 1000:=⟨J.aft.disk,J.aft.foot,⟨J.aft.kept.os,J.aft.kept.tape,J.aft.kept.output,J.aft.kept.size,J.aft.kept.block⟩,J.aft.reads0,J.aft.reads1,J.aft.size,J.aft.fuse⟩;have av:Hid (KW w.heap.size O bo h bd ap ab bv aA V af d Q):=gA z az au bt cO Z ak J.bb;have am:Hid (yV M ag.drew O bd bs S ab D ap 1000):=ak;have bE:Hid (xq M O bs bd h D ap V):=J.ask;have b7:Hid (Vn ag O ab V.vs d.P d.S d.B d.C (.slice K a4 N) more (yo h.shut (qH d.P d.S d.B d.C))):=J.pg;have ax:Hid (X bs/\¬S bs/\¬bv bs/\bs≠bo):=J.bb;have cf:Hid (∀j,(Value.slice K a4 N).ownBlock=some j->j≠I):=bJ;have ck:Hid (O.heap[I]? =some (.cells #[.slice K a4 N,.bool more] 90 (0,0))):=aH;obtain⟨aZ,bT⟩:∃aZ,yz V.vs d.P d.S d.B aZ:=⟨_,ft V.vs n.good.apart d.P d.S d.B⟩;have bP:Hid (yz V.vs d.P d.S d.B aZ):=bT
  have cu:Hid (∀v∈V.vs,v.key.size<=9223372036854775807):=λv c9=>by
   have s:=n.good.key v c9;unfold zq at s;simp only [aW,aR] at s;have dw:v.key.data.toList.length=v.key.size:=by simp
   omega
  have bN:Hid (∀k,bv k->k<O.heap.size):=λk l=>by have:=az.out k (n.rX k l).1;have:=Z.out;omega
  generalize b6:yo h.shut (qH d.P d.S d.B d.C)=be at*;have b0:Hid (yo h.shut (qH d.P d.S d.B d.C)=be):=b6;have bM:=av.head.c2;rw [n.his] at bM;unfold qu at bM;have cK:=av.box.c2;have cL:=av.box.c3;have cE:=av.box.c4;have cX:=av.box.c5
  have ah:∀o,za (λ_=>False) O o->o.cell? ⟨bo,2,none⟩=some (.pointer (some ⟨aA,0,none⟩))/\o.cell? ⟨w.heap.size,5,none⟩=some (.string d.P)/\o.cell? ⟨w.heap.size,4,none⟩=some (.string d.S)/\o.cell? ⟨w.heap.size,2,none⟩=some (.int .i64 d.B)/\o.cell? ⟨w.heap.size,3,none⟩=some (.int .i64 d.C):=λo k=>by
   have y:=Z.out;have h2:w.heap.size<O.heap.size:=by omega
   exact⟨(k.cell (a:=⟨bo,2,none⟩) (show bo<O.heap.size by omega) id).trans bM,(k.cell (a:=⟨w.heap.size,5,none⟩) h2 id).trans cX,(k.cell (a:=⟨w.heap.size,4,none⟩) h2 id).trans cE,(k.cell (a:=⟨w.heap.size,2,none⟩) h2 id).trans cK,(k.cell (a:=⟨w.heap.size,3,none⟩) h2 id).trans cL⟩
  clear J ak bJ aH bT b6 bM cK cL cE cX;go_wp2_with fail;refine xj (by kernel_rfl) (by kernel_rfl) (λL aX o=>∃Y:Nat->Value,aX={tmps:=#[.pointer (some ⟨R,0,none⟩),.pointer (some ⟨bo,0,none⟩),.agg #[.int .i64 d.kind,.int .i64 d.A,.int .i64 d.B,.int .i64 d.C,.string d.S,.string d.P,.slice d.la d.l.length d.lc,.slice d.ka d.ks.length d.kc],undef,undef,.pointer (some ⟨w.heap.size,0,none⟩),.bool false,.int .i64 D.reads,undef,undef,undef,undef,undef,undef,undef,undef,undef,undef,undef,undef,undef,undef,.pointer (some ⟨I,0,none⟩),.int .i64 be,Y 16,Y 18,undef,.pointer (some ⟨bo,0,none⟩),.pointer (some ⟨bo,0,none⟩),.pointer (some ⟨bo,0,none⟩),.pointer (some ⟨bd,0,none⟩),.int .i64 D.reads,.pointer (some ⟨w.heap.size,0,none⟩),.int .i64 7,.bool false,.bool false,undef,undef,undef,undef,undef,undef,undef,undef,undef,undef,undef,undef,undef,undef,undef,undef,undef,undef,undef,undef,undef,undef,undef,undef,undef,undef,undef,undef,undef,undef,undef,undef,undef,undef,undef,undef,undef,undef,undef,undef,undef,undef,undef,undef,undef,undef,undef,undef,undef,undef,undef,undef,undef,undef,undef,undef,undef,undef,undef,undef,undef,undef,undef,undef,undef,undef,undef,undef,undef,.bool false,.bool false,undef,undef,undef,undef,undef,undef,undef,undef,undef,undef,undef,undef,undef,undef,undef,undef,undef,undef,undef,undef,undef,undef,undef,undef,undef,undef,undef,undef,undef,undef,undef,undef,undef,undef,undef,undef,undef,undef,undef,undef,undef,undef,undef,undef,undef,undef,undef,undef,undef,undef,undef,undef,undef,undef,undef,undef,undef,undef,undef,undef,undef,undef,x 13,x 0,x 1,x 2,x 3,x 4,x 5,x 6,x 7,x 8,x 9,x 10,x 11,x 12,x 14,x 15,Y 13,Y 0,Y 1,Y 2,Y 3,Y 4,Y 5,Y 6,Y 7,Y 8,Y 9,Y 10,Y 11,Y 12,Y 14,Y 15,undef,undef,undef,undef,undef,undef,undef,undef,undef,undef,undef,undef,undef,undef,undef,undef,undef,undef,undef,undef,undef,undef,undef,undef,undef,undef,undef,undef,undef,undef,undef,undef,undef,undef],defers:=[]}/\qX O 90 (uE bo 2 w.heap.size aA d) (λW1 v0 ao c w2=>∃r,ao=.bool r/\c=.int .i64 (qH d.P d.S d.B d.C)/\Qz W1 w2 aZ d.C v0 r (qH d.P d.S d.B d.C)) L Y o) ?_ ?_ ?_;.exact⟨λ_=>undef,rfl,qX.start _⟩
  .rintro L aX o i dn a6 al f ⟨Y,rfl,g⟩;have aY:i<19:=(lT a6);rcases (by omega:(i=0\/i=1\/i=2\/i=4\/i=6\/i=8\/i=10)\/(i=3\/i=5\/i=7\/i=9\/i=11)\/i=12\/i=13\/i=14\/i=15\/i=16\/i=17\/i=18) with(rfl|rfl|rfl|rfl|rfl|rfl|rfl)|(rfl|rfl|rfl|rfl|rfl)|rfl|rfl|rfl|rfl|rfl|rfl|rfl;all_goals (have bi:=eG a6;subst bi)
   iterate 7
    .first|have e:=g.pv 0 (by decide) (f ⟨0,.data⟩ ⟨.head _⟩ rfl)|have e:=g.pv 1 (by decide) (f ⟨1,.data⟩ ⟨.head _⟩ rfl)|have e:=g
     (try simp only [uE] at e)
     refine wpOp_step rfl (λW p=>?_)
     (try simp only [e])
     go_simp;exact p _ _ ⟨_,(by first|simp [uE,e]|simp [uE]),g.pure _ (by decide)⟩
   iterate 5
    .obtain⟨cg,cr,c4,da,dg⟩:=ah o (g.early (g.l12 al)).1
     first|have e:=g.pv 2 (by decide) (f ⟨2,.data⟩ ⟨.head _⟩ rfl)|have e:=g.pv 4 (by decide) (f ⟨4,.data⟩ ⟨.head _⟩ rfl)|have e:=g.pv 6 (by decide) (f ⟨6,.data⟩ ⟨.head _⟩ rfl)|have e:=g.pv 8 (by decide) (f ⟨8,.data⟩ ⟨.head _⟩ rfl)|have e:=g.pv 10 (by decide) (f ⟨10,.data⟩ ⟨.head _⟩ rfl)
     simp only [uE] at e;refine wpOp_step rfl (λW p=>?_)
     (try simp only [e])
     go_simp;exact p _ _ ⟨_,(by first|simp [uE,e]|simp [uE]),g.pure _ (by decide)⟩
   .have bb:L 3=true:=(f ⟨3,.data⟩ (by simp) rfl);have bK:Y 3=.pointer (some ⟨aA,0,none⟩):=g.pv 3 (by omega) bb;have bw:L 5=true:=(f ⟨5,.data⟩ (by simp) rfl);have bq:Y 5=.string d.P:=g.pv 5 (by omega) bw;have a5:L 7=true:=(f ⟨7,.data⟩ (by simp) rfl);have bc:Y 7=.string d.S:=g.pv 7 (by omega) a5;have bn:L 9=true:=(f ⟨9,.data⟩ (by simp) rfl);have br:Y 9=.int .i64 d.B:=g.pv 9 (by omega) bn;have aL:L 11=true:=(f ⟨11,.data⟩ (by simp) rfl);have aQ:Y 11=.int .i64 d.C:=g.pv 11 (by omega) aL;have aM:=(g.early al).1;refine wpOp_step rfl (λW p=>?_);simp only [bK,bq,bc,br,aQ];go_simp;refine(J9 o bv bv aA V.vs af (av.ref.kept aM nF nF) (λk l=>ay (bN k l) aM.size) (λk l=>ay (bN k l) aM.size) n.good.apart cn cu d.P d.S d.B d.C an.out.P an.out.S aZ bP).mono ?_;rintro e w2 ⟨cj,r,rfl,ai⟩;exact p _ _ ⟨λj=>if j=12 then .tuple #[.agg #[cj,.bool r],.int .i64 (qH d.P d.S d.B d.C)] else Y j,by simp [bK,bq,bc,br,aQ],g.call al cj (.bool r) _ w2 (λ_=>False) fE ai.kept ⟨r,rfl,rfl,ai⟩ ⟨bb,bw,a5,bn,aL⟩⟩
   .have bF:L 12=true:=(f ⟨12,.data⟩ (by simp) rfl);refine wpOp_step rfl (λW p=>?_);go_simp;exact p _ _ ⟨λj=>if j=13 then Y 12 else Y j,by simp,g.part13 bF al⟩
   .have C:L 13=true:=(f ⟨13,.data⟩ (by simp) rfl);have u:=g.t12 C;obtain⟨W1,w2,v0,ao,c,q⟩:=g.late u;have E:=q.x13 C;refine wpOp_step rfl (λW p=>?_);simp only [E];go_simp;exact p _ _ ⟨λj=>if j=14 then .agg #[v0,ao] else Y j,by simp [E],g.part14 u _ (λ_ _ _ _ _ q'=>by have s:=q'.x13 C;rw [E] at s;simp at s;rw [s.1.1,s.1.2])⟩
   .have C:L 13=true:=(f ⟨13,.data⟩ (by simp) rfl);have u:=g.t12 C;obtain⟨W1,w2,v0,ao,c,q⟩:=g.late u;have E:=q.x13 C;refine wpOp_step rfl (λW p=>?_);simp only [E];go_simp;exact p _ _ ⟨λj=>if j=15 then c else Y j,by simp [E],g.part15 u _ (λ_ _ _ _ _ q'=>by have s:=q'.x13 C;rw [E] at s;simp at s;exact s.2)⟩
   .refine wpOp_step rfl (λW p=>?_);go_simp;exact p _ _ ⟨λj=>if j=16 then .pointer (some ⟨o.heap.size,0,none⟩) else Y j,by simp,g.make al _ _⟩
   .have a7:L 16=true:=(f ⟨16,.data⟩ (by simp) rfl);have aN:L 14=true:=(f ⟨14,.data⟩ (by simp) rfl);have u:=g.t12 aN;obtain⟨b,v0,ao,U,aj,⟨u0,u1,aJ⟩,⟨_,_,_,ae⟩,bh⟩:=g.lay u a7 al;obtain⟨r,rfl,_,ae⟩:=ae;obtain⟨aE,a2,aG,rfl⟩:=ae.form;clear ae;have aj:=aj aN;have db:o.cell? ⟨b,0,none⟩=some u0:=cR aJ rfl;have cg:o.cell? ⟨b,1,none⟩=some u1:=cR aJ rfl;have dd:=aa o b 0 _ _ aJ;have c6:=aa o b 1 _ _ aJ;refine wpOp_step rfl (λW p=>?_);simp only [U,aj];go_simp;exact p _ _ ⟨λj=>if j=17 then undef else Y j,by simp [U,aj],bh undef⟩
   .have aS:L 15=true:=(f ⟨15,.data⟩ (by simp) rfl);have u:=g.t12 aS;refine wpOp_step rfl (λW p=>?_);go_simp;exact p _ _ ⟨λj=>if j=18 then Y 15 else Y j,by simp,g.part18 u _ (λ_ _ _ _ _ q=>q.x15 aS)⟩
  .rintro L aX ad G ⟨Y,rfl,g⟩;obtain⟨dx,du,cj,dr,cr,bA⟩:=g.late (G 12 (by decide));obtain⟨r,co,bY,bB⟩:=bA.post;obtain⟨cl,U,cC,bp,b4,u0,u1,aI,cp⟩:=bA.yes (G 16 (by decide));obtain⟨rfl,rfl⟩:=cp (G 17 (by decide));have aq:=bA.x18 (G 18 (by decide));obtain⟨ai,cm⟩:=bB.laid bA.k1 cC bp b4;rw [bY] at aq;rw [U,aq];obtain⟨aE,a2,aG,rfl⟩:=ai.form;subst co;have c1:=(lT aI);have cz:Hid (Qz O ad aZ d.C (.slice aE a2 aG) r (qH d.P d.S d.B d.C)):=ai;have a8:Hid (ad.heap[cl]? =some (.cells #[.slice aE a2 aG,.bool r] 90 (0,0))):=aI;have bG:Hid (ad.heap[I]? =some (.cells #[.slice K a4 N,.bool more] 90 (0,0))):=(ai.kept.block _ cc id).trans ck.out;have cq:Hid (KW w.heap.size ad bo h bd ap ab bv aA V af d Q):=av.kept ai.kept fE;have aw:Hid (za (λ_=>False) O ad):=ai.kept;clear ah g G bB bp b4 U aq bA bY ai cm aI;have aU:za (λk=>S k\/k=bs) w O:=((k0.mono fE).trans (za.drew _ ag) iL).trans am.kept iL;have bz:Hid (za (λk=>S k\/k=bs) w O):=aU
   have a1:Hid (xx ad R bm F H a b bf bH bj vs):=(B.kept aU (λi aY m=>by
    rcases m with m|m;.exact(P i (n.sX i m)).1 aY
    .exact(P i (by rw [m];exact ax.1)).1 aY) (λi aY m=>by
    rcases m with m|m;.exact(P i (n.sX i m)).2.1 aY
    .exact(P i (by rw [m];exact ax.1)).2.1 aY) (λm=>by
    rcases m with m|m;.exact(P R (n.sX R m)).2.2 rfl
    .exact(P bs ax.1).2.2 m.symm)).kept aw nF nF (λaV=>aV)
   have bZ:∀k,(X k\/ab k)->¬F k/\¬H k/\k≠R:=λk l=>by
    rcases l with l|l;.exact P k l
    .rcases am.foot k l with y|y;.exact P k (n.sX k y)
     .have h2:ag.heap.size<=k:=y;have ct:=Z.out;exact⟨λm=>by have:=B.flt k m;omega,λm=>by have:=B.hlt k m;omega,λm=>by have:=B.head.lt;omega⟩
   have aD:Hid (∀k,(X k\/ab k)->¬F k/\¬H k/\k≠R):=bZ
   have bO:Hid (∀k,(X k\/ab k)->X k\/w.heap.size<=k):=λk l=>by
    rcases l with l|l;.exact .inl l
    .rcases am.foot k l with y|y;.exact .inl (n.sX k y)
     .have h2:ag.heap.size<=k:=y;have ct:=Z.out;exact .inr (by omega)
   have bQ:Hid (za (λ_=>False) w ag.drew):=k0.trans (za.drew _ ag) iL;clear aU bZ;go_wp2_with fail;refine(kZ _ bo h (by exact cq.head) _).mono ?_;rintro e ch ⟨rfl,aK⟩;rw [aK,b0.out];clear aK ch;have cZ:ad.cell? ⟨I,0,none⟩=some (.slice K a4 N):=cR bG.out rfl;have dv:ad.cell? ⟨I,1,none⟩=some (.bool more):=cR bG.out rfl;have dz:ad.cell? ⟨cl,0,none⟩=some (.slice aE a2 aG):=cR a8.out rfl;have ds:ad.cell? ⟨cl,1,none⟩=some (.bool r):=cR a8.out rfl;by_cases m:be=0
   .obtain⟨cb,bV,⟨a3,dt,k1,bC,b3,bW⟩,bD⟩:=b7.yes m;have bl:=ud (b0.trans m);obtain⟨bX,dy,k2,cF,b1,cS⟩:=cz.yes bl;obtain rfl:cb=aZ:=bV.unique bP (eR _);obtain⟨di,c3⟩:=dE bl;have cN:r=more:=by rw [a3,bX]
    subst cN;have cY:(cb.take d.C.toNat).length<=50:=by rw [aC];omega
    cases bC;cases cF;clear a3 bX bV;generalize cb.take d.C.toNat=T at*;have bR:Hid (ad.ownsRow 0 94 4 (.slice K T.length N) T.length (qr T)):=aw.owns b3 nF;have cA:Hid (ad.ownsRow 0 94 4 (.slice aE T.length aG) T.length (qr T)):=b1
    have aP:Hid (∀k,(Value.slice K T.length N).ownBlock=some k->w.heap.size<k/\¬ab k):=λk l=>by have y:=bW k l;have ct:=Z.out;exact⟨by omega,bD k l⟩
    have c7:(be !=0)=false:=by simpa using m
    clear b3 b1 bW cS bD m bl;go_wp2_with fail;refine(ci ad K aE N aG T r (by omega) bR cA).mono ?_;rintro e ar ⟨rfl,aF⟩;have cQ:Hid (za (λ_=>False) ad ar):=aF;have b9:Hid (xx ar.drew R bm F H a b bf bH bj vs):=(a1.kept aF nF nF (λaV=>aV)).kept (za.drew (λ_=>False) ar) nF nF (λaV=>aV);have cG:Hid (ar.drew.ownsRow 0 94 4 (.slice K T.length N) T.length (qr T)):=(za.drew (λ_=>False) ar).owns (aF.owns bR nF) nF;have de:=aF.size;have df:ar.cell? ⟨I,0,none⟩=some (.slice K T.length N):=(aF.cell (a:=⟨I,0,none⟩) (show I<ad.heap.size by omega) id).trans cZ;have cd:I<ar.heap.size:=by omega
    have dk:w.heap.size<I:=by have:=Z.out;omega
    have cB:Hid (∀k,(Value.slice K T.length N).ownBlock=some k->¬F k/\¬H k/\k≠R):=λk l=>by have y:=(aP k l).1;exact⟨λm=>by have:=B.flt k m;omega,λm=>by have:=B.hlt k m;omega,λm=>by have:=B.head.lt;omega⟩
    have cH:Hid (¬(H I\/(Value.slice K T.length N).ownBlock=some I\/I=R)):=λm=>by
     rcases m with m|m|m;.have:=B.hlt I m;omega
     .exact cf I m rfl
     .have:=B.head.lt;omega
    clear aF;go_wp2_with fail;go_region_held3 (λw'=>w'.cell? ⟨I,0,none⟩=some (.slice K T.length N)) (go_keep) ((go_at_call 110;refine(jh ar.drew R bm F H (λk=>(Value.slice K T.length N).ownBlock=some k) a b bf bH bj vs b9 (by omega) K T.length N (qr T) cG (by omega) (λk l=>l) cB).mono ?_;rintro e bL ⟨rfl,⟨c8,cy,cT,c0,bk,dm,bI⟩,aB⟩;have b5:Hid (za (λk=>H k\/(Value.slice K T.length N).ownBlock=some k\/k=R) ar bL):=⟨aB.os,aB.tape,aB.output,aB.size,aB.block⟩;have dq:bL.cell? ⟨I,0,none⟩=some (.slice K T.length N):=(b5.cell (a:=⟨I,0,none⟩) cd cH).trans df;change Hid _ at bk bI;clear aB));go_wp2;go_ret;have aT:=az.out;have bu:za (λk=>H k\/(Value.slice K T.length N).ownBlock=some k\/k=R) O bL:=((aw.mono fE).trans cQ fE).trans b5 iL;refine⟨rfl,⟨_,c0,c8,cy,cT,jZ M w ag.drew O bL X bo t h bd D ap S ab bv aA V af n bs hbs bQ (lh Z) am ax bE _ bu (λk l=>?_),bk,by omega,bO,λk l=>?_,λk l=>⟨(aD k l).1,λaV=>?_,(aD k l).2.2⟩⟩,(bz.mono (λk l=>.inl (l.elim (n.sX k) (λe=>by rw [e];exact ax.1)))).trans bu (λk l=>?_)⟩
    .rcases l with l|l|l;.exact⟨λm=>(P k m).2.1 l,λm=>(aD k (.inr m)).2.1 l⟩
     .have y:=aP.out k l;exact⟨λm=>by have:=aT k m;omega,y.2⟩
     .exact⟨λm=>(P k m).2.2 l,λm=>(aD k (.inr m)).2.2 l⟩
    .rcases bI k l with y|y|y;.exact .inl y
     .have:=(aP k y).1;exact .inr (by omega)
     .have h2:ar.heap.size<=k:=y;exact .inr (by omega)
    .rcases bI k aV with y|y|y;.exact(aD k l).2.1 y
     .have h2:=aP.out k y;rcases l with l|l;.have:=aT k l;omega
      .exact h2.2 l
     .have h2:ar.heap.size<=k:=y;rcases l with l|l;.have:=aT k l;omega
      .have:=am.disk.lt k l;omega
    .rcases l with l|l|l;.exact .inl (.inr (.inl l))
     .have:=(aP k l).1;exact .inr (by omega)
     .exact .inl (.inr (.inr l))
   .obtain⟨bC,a3⟩:=b7.no m;cases bC;subst a3;have c7:(be !=0)=true:=by simpa using m
    clear m;go_wp2;go_ret
    exact⟨rfl,⟨_,H,b,bH,vs,jZ M w ag.drew O ad X bo t h bd D ap S ab bv aA V af n bs hbs bQ (lh Z) am ax bE (λ_=>False) aw fE,a1,by omega,bO,λk l=>.inl l,aD⟩,
     (bz.mono (λk l=>.inl (l.elim (n.sX k) (λe=>by rw [e];exact ax.1)))).trans aw fE⟩
end law
namespace law
open Go.ChangeShapes Go.WideShapes Go.ChangeAt Go.RowKit disk ref book
open keys (zh ze zy zs zq)
variable {M N:zd}
structure Ka (M:zd):Prop where
 opn:yb M
 put:xo M
 get:gz M
 at_:cI M
 del:dC M
 era:jY M
 list:xD M
theorem Kb(b:ByteArray)(a:b.size<=maxLen)(w:World):Calls Tryz.prog 57 #[.string b] w λe w'=>e=.returned (.bool true)/\w'=w:=by
 go_enter Tryz.func57,Tryz.ntmps57
 go_wp2_with (first
  |(go_at_call 89;refine(keys.cE _ _ a).mono ?_;rintro e w' ⟨rfl,rfl⟩)
  |(go_at_call 90;refine(keys.ur _ _ a).mono ?_;rintro e w' ⟨rfl,rfl⟩))
 go_ret;exact⟨by simp,rfl⟩
theorem Vw(A:Ka M)(aw:yb N)(ax:xo N)(aB:Vh M N)(w:World)(n J t:Nat)(f:List (Nat×(Nat->Prop)))(aC:Option Addr)(aq:Nat)(F H:Nat->Prop)(a b:Option Addr)(aa ad:Nat)(ae vs:List xZ)(p:qv M w n J t f aC aq F H a b aa ad ae vs)(ag:n<=w.heap.size)(C:t<=2199023255552)
 (c:xk) (Q:Nat->Prop) (P:c.Ok w Q) (af:∀k,Q k->k<n) (O:1<=c.kind/\c.kind<=12):
 Calls Tryz.prog 37 #[.pointer (some ⟨J,0,none⟩),.agg #[.int .i64 c.kind,.int .i64 c.A,.int .i64 c.B,.int .i64 c.C,.string c.S,.string c.P,.slice c.la c.l.length c.lc,.slice c.ka c.ks.length c.kc]] w λe w'=>e=.returned (.bool true)/\jf M w' n J (t+1)/\za (λk=>n<=k) w w':=by
 have k0:za (λ_=>False) w (w.alloc (.cells #[.int .i64 c.kind,.int .i64 c.A,.int .i64 c.B,.int .i64 c.C,.string c.S,.string c.P,.slice c.la c.l.length c.lc,.slice c.ka c.ks.length c.kc] 81)):=za.alloc _ _ _;have s:xg (w.alloc (.cells #[.int .i64 c.kind,.int .i64 c.A,.int .i64 c.B,.int .i64 c.C,.string c.S,.string c.P,.slice c.la c.l.length c.lc,.slice c.ka c.ks.length c.kc] 81)) w.heap.size c:=⟨ac w _⟩;have aJ:=s.c0;have aR:=s.c1;have aX:=s.c2;have aM:=s.c3;have aN:=s.c4;have aV:=s.c5;have aW:=s.c6;have aT:=s.c7;have I:=p.kept0 k0;have K:=P.kept k0 nF;have Y:n<=(w.alloc (.cells #[.int .i64 c.kind,.int .i64 c.A,.int .i64 c.B,.int .i64 c.C,.string c.S,.string c.P,.slice c.la c.l.length c.lc,.slice c.ka c.ks.length c.kc] 81)).heap.size:=aD ag k0.size;have aK:=I.book.head.c.1;have aU:=p.fewO;have Z:=P.A;have aA:=p.fewV;have ak:=p.fewE;have az:=P.S;change Hid _ at I K s k0 p af Y O Z;clear P;generalize aL:w.alloc (.cells #[.int .i64 c.kind,.int .i64 c.A,.int .i64 c.B,.int .i64 c.C,.string c.S,.string c.P,.slice c.la c.l.length c.lc,.slice c.ka c.ks.length c.kc] 81)=G at*;have aE:c.kind=1\/c.kind=12\/c.kind=2\/c.kind=3\/c.kind=4\/c.kind=5\/c.kind=6\/c.kind=7\/c.kind=8\/c.kind=9\/c.kind=10\/c.kind=11:=by have:=O.out;omega
 rcases aE with d|d|d|d|d|d|d|d|d|d|d|d
 .have ai:(c.kind==1)=true:=by rw [d];rfl
  clear d;go_enter Tryz.func37,Tryz.ntmps37;go_wp2_with fail;refine(Xh A.opn aw ax A.list aB _ n J t f aC aq F H a b aa ad ae vs I Y C c Q K af).mono ?_;rintro e w2 ⟨rfl,h2,u⟩;have X:Hid _:=h2;have U:Hid _:=u;clear h2 u;go_wp2;go_ret;exact⟨rfl,X,(k0.mono fE).trans U iL⟩
 .have ai:(c.kind==1)=false:=by rw [d];rfl
  have ao:(c.kind==12)=true:=by rw [d];rfl
  clear d;go_enter Tryz.func37,Tryz.ntmps37;go_wp2_with fail;refine(Kb c.S az G).mono ?_;rintro e w2 ⟨rfl,ah⟩;rw [ah];clear ah w2;go_wp2;go_ret;exact⟨rfl,p.idle k0⟩
 all_goals
  have ai:(c.kind==1)=false:=by rw [d];rfl
  have ao:(c.kind==12)=false:=by rw [d];rfl
  have aS:decide (c.kind<2)=false:=by rw [d];rfl
  have aI:decide (11<c.kind)=false:=by rw [d];rfl
  first
   |have au:decide (8<=c.kind)=false:=by rw [d];rfl
   |have au:decide (8<=c.kind)=true:=by rw [d];rfl
  first
   |have an:(c.kind==2)=true:=by rw [d];rfl
   |have an:(c.kind==2)=false:=by rw [d];rfl
  first
   |have ap:(c.kind==3)=true:=by rw [d];rfl
   |have ap:(c.kind==3)=false:=by rw [d];rfl
  first
   |have al:(c.kind==4)=true:=by rw [d];rfl
   |have al:(c.kind==4)=false:=by rw [d];rfl
  change Hid _ at d;by_cases av:f.length=0
  .have aG:((f.length:Int)==0)=true:=by simp [av]
   go_enter Tryz.func37,Tryz.ntmps37;go_wp2;go_ret;exact⟨rfl,p.idle k0⟩
  .have aG:((f.length:Int)==0)=false:=by simpa using av
   obtain⟨g,rfl⟩:=I.rowAt (by omega);go_enter Tryz.func37,Tryz.ntmps37;go_wp2_with fail;obtain⟨i,aO,aj⟩:=Je c.A f.length Z (by omega) (by omega);have m:i<f.length:=by omega
   have aP:=I.rowCell i m;change Hid _ at aj;go_quiet ((go_at_call 58;exact Calls.quiet_of_same (aj _)));obtain⟨h,bd,D,S,am,L,V,o,B⟩:=I.one i m;have R:=B.kept (T:=λ_=>False) (w':=G.drewN nq) kD nF;have ab:=B.head.c1;have y:Hid (yw M (G.drewN nq) f[i].2 f[i].1 t h bd D S am L V o):=R;have l:Hid _:=I.kept0 (w':=G.drewN nq) kD;have r:Hid _:=K.kept (T:=λ_=>False) (w':=G.drewN nq) kD nF;have q:n<=(G.drewN nq).heap.size:=Y.out;have v:∀k,Q k->¬f[i].2 k/\k<(G.drewN nq).heap.size:=λk ay=>⟨λaH=>by have:=af.out k ay;have:=I.bX i m k aH;omega,by have:=af.out k ay;omega⟩;have W:za (λk=>n<=k) w (G.drewN nq):=(k0.mono fE).trans (S':=λ_=>False) kD fE;change Hid _ at v W;clear R
   have ar:(∃bs,h.s=qu bs)\/h.s=.pointer none:=by
    cases B.st using qI.elim with
    |live bs x=>exact .inl ⟨bs,x⟩
    |shut bs x=>exact .inl ⟨bs,x⟩
    |gone x=>exact .inr x
   clear B;by_cases aQ:8<=c.kind
   .first
     |(exfalso;have aF:=d.out;omega)
     |(go_wp2_with fail
       refine(Xg A.opn aw ax A.list aB y C c Q r v (by have aF:=d.out;omega)).mono ?_;rintro e w2 j;obtain⟨E,h2,u⟩:=l.stepped q i m j;subst E;have X:Hid _:=h2;have U:Hid _:=u;clear h2 u j;go_wp2;go_ret
       exact⟨rfl,X,W.trans U iL⟩)
   first
    |(exfalso;have aF:=d.out;omega)
    |skip
   all_goals
    rcases ar with⟨bs,x⟩|x
    .have z:Hid _:=x;rw [x] at ab;unfold qu at ab;clear x;go_wp2_with fail
     first
      |(go_at_call 60;refine(UJ M A.put _ f[i].2 f[i].1 t h bd D S am L V o y C bs z c Q r v).mono ?_;rintro e w2 j;obtain⟨E,h2,u⟩:=l.stepped q i m j)
      |(go_at_call 61;refine(Qs M A.del _ f[i].2 f[i].1 t h bd D S am L V o y C bs z c Q r v).mono ?_;rintro e w2 j;obtain⟨E,h2,u⟩:=l.stepped q i m j)
      |(go_at_call 62;refine(Xb M A.era _ f[i].2 f[i].1 t h bd D S am L V o y C bs z c Q r v).mono ?_;rintro e w2 j;obtain⟨E,h2,u⟩:=l.stepped q i m j)
      |(go_at_call 63;refine(J8 M A.get _ f[i].2 f[i].1 t h bd D S am L V o y C bs z c Q r v d J _ F H a b aa ad ae vs l.book ak (l.sep i m)).mono ?_;rintro e w2 j;obtain⟨E,h2,u⟩:=l.asked q i m j)
      |(go_at_call 63;refine(Vi M A.at_ _ f[i].2 f[i].1 t h bd D S am L V o y C bs z c Q r v d J _ F H a b aa ad ae vs l.book ak (l.sep i m)).mono ?_;rintro e w2 j;obtain⟨E,h2,u⟩:=l.asked q i m j)
      |(go_at_call 63;refine(Xk M A.list _ f[i].2 f[i].1 t h bd D S am L V o y C bs z c Q r v d J _ F H a b aa ad ae vs l.book aA (l.sep i m)).mono ?_;rintro e w2 j;obtain⟨E,h2,u⟩:=l.askedV q i m j)
     subst E;have X:Hid _:=h2;have U:Hid _:=u;clear h2 u j;go_wp2;go_ret;exact⟨rfl,X,W.trans U iL⟩
    .rw [x] at ab;clear x;go_wp2;go_ret;exact⟨rfl,p.idle (k0.trans (S':=λ_=>False) kD iL)⟩
def Gm(M:zd)(kl:List Int):Prop:=∀(w:World) (base bp t:Nat) (od:xk),jf M w base bp t->base<=w.heap.size->t<=2199023255552->od.Ok w (λk=>k<base)->od.kind∈kl->
 Calls Tryz.prog 37 #[.pointer (some ⟨bp,0,none⟩),.agg #[.int .i64 od.kind,.int .i64 od.A,.int .i64 od.B,.int .i64 od.C,.string od.S,.string od.P,.slice od.la od.l.length od.lc,.slice od.ka od.ks.length od.kc]] w λe w'=>e=.returned (.bool true)/\jf M w' base bp (t+1)/\za (λk=>base<=k) w w'
theorem cN(A:Ka M)(s:yb N)(m:xo N)(x:Vh M N)(h:List Int)(n:∀k∈h,1<=k/\k<=12):Gm M h:=by
 intro w d v t u l c r g e;obtain⟨f,o,i,F,H,a,b,y,j,q,vs,p⟩:=l;exact Vw A s m x w d v t f o i F H a b y j q vs p c r u _ g (λk e=>e) (n _ e)
theorem QA(w:World)(a:Option Addr)(n d l o:Nat)(b:List Int)(i:uD w l b)(m:(8:Int)∈b)(q:b.length<=100):
 Calls Tryz.prog 36 #[.slice a n d,.slice (some ⟨l,0,none⟩) b.length o] w λe w'=>e=.returned (.slice a n d)/\w'=w:=by
 obtain⟨p,u,k⟩:=ed m;have h:Hid (b[p]=8):=k;change Hid _ at i;clear k;go_enter Tryz.func36,Tryz.ntmps36;go_wp2;go_loop [5] (λt=>∃j:Nat,j<=p/\t=.int .i64 j) (λt=>b.length-(intOf t).toNat)
 case atStart=>exact⟨0,aj _,rfl⟩
 case round=>
  obtain⟨j,v,rfl⟩:=hrel;have f:j<b.length:=by omega
  have s:=i.cell j f;by_cases c:b[j]=8
  .have g:(b[j]==8)=true:=by simp [c]
   clear c;go_wp2;go_ret;exact⟨rfl,rfl⟩
  .have g:(b[j]==8)=false:=by simpa using c
   have r:j≠p:=λe=>c (by subst e;exact h);clear c;go_wp2;go_round
   case rel=>exact⟨j+1,by omega,by go_num⟩
   case measure=>simp [intOf];omega
theorem dF(M:zd)(w:World)(Q:Nat->Prop)(C:∀k,Q k->k<w.heap.size)(a:Option Addr)(R:Nat)(l:List xk)(h:kH w Q a l)(aC:l.length<=1256584717449)(U av:Nat)(m:List Int)(D:uD w U m)(Y:(8:Int)∈m)(ae:m.length<=100)(E:Gm M m):
 Calls Tryz.prog 13 #[.slice a l.length R,.slice (some ⟨U,0,none⟩) m.length av] w λe w'=>e=.returned (.bool true)/\za (λ_=>False) w w':=by
 have aw:Hid _:=h;have W:Hid _:=D;change Hid _ at Y C;clear h D;go_enter Tryz.func13,Tryz.ntmps13;go_wp2_with fail;refine(QA w a l.length R U av m W Y ae).mono ?_;rintro e aH ⟨rfl,K⟩;rw [K];clear K aH;have G:=Xj M w;change Hid _ at G;have L:=za.alloc (λ_=>False) w (.cells #[.slice none 0 0,.slice none 0 0,.slice none 0 0] 79);change Hid _ at L;go_wp2;go_loopw [6] (λt wr=>∃k:Nat,k<=l.length/\t=.int .i64 k/\jf M wr w.heap.size w.heap.size k/\za (λk=>w.heap.size<=k) w wr) (λt _=>l.length-(intOf t).toNat)
 case atStart=>exact⟨0,aj _,rfl,G,L.mono fE⟩
 case round=>
  obtain⟨k,D,rfl,am,c⟩:=hrel;have ax:Hid (jf M wr w.heap.size w.heap.size k):=am;have af:=c.size;change Hid _ at c;clear am;by_cases O:k<l.length
  .obtain⟨g,B,rfl,aO,ad,S⟩:=aw.each k O
   have N:l[k].Ok wr (λk=>k<w.heap.size):=by
    have o:=(aw.ok k O).kept c (λi u aG=>by have:=C.out i u;omega)
    exact⟨o.kind,o.A,o.B,o.C,o.S,o.P,o.l.mono (λi u _=>C i u),o.len,o.klen,λj ab=>by
     obtain⟨T,aB,aL,aI,aM,aD⟩:=o.ks j ab
     exact⟨T,aB,aL,C T aI,aM,aD⟩⟩
   have d:∀j v,l[k].cells[j]? =some v->wr.cell? ⟨g,B+k*8+j,none⟩=some v:=λj v aE=>(c.cell (a:=⟨g,B+k*8+j,none⟩) ad (by show ¬w.heap.size<=g;omega)).trans (S j v aE);have P:=W.kept c (λaG=>by have:=W.lt;omega);generalize l[k]=f at*;have aT:wr.cell? ⟨g,B+k*8,none⟩=some (.int .i64 f.kind):=d 0 _ rfl;have aU:wr.cell? ⟨g,B+k*8+1,none⟩=some (.int .i64 f.A):=d 1 _ rfl;have aZ:wr.cell? ⟨g,B+k*8+2,none⟩=some (.int .i64 f.B):=d 2 _ rfl;have aR:wr.cell? ⟨g,B+k*8+3,none⟩=some (.int .i64 f.C):=d 3 _ rfl;have aW:wr.cell? ⟨g,B+k*8+4,none⟩=some (.string f.S):=d 4 _ rfl;have aY:wr.cell? ⟨g,B+k*8+5,none⟩=some (.string f.P):=d 5 _ rfl;have aS:wr.cell? ⟨g,B+k*8+6,none⟩=some (.slice f.la f.l.length f.lc):=d 6 _ rfl;have aX:wr.cell? ⟨g,B+k*8+7,none⟩=some (.slice f.ka f.ks.length f.kc):=d 7 _ rfl;change Hid _ at N P;clear d S;go_wp2;go_loopw [7,8] (λb t aA=>∃j:Nat,j<=m.length/\t=.int .i64 j/\b=.bool (Gl m j f.kind)/\∃n,aA=wr.drewN n) (λ_ t _=>m.length-(intOf t).toNat)
   case atStart=>exact⟨0,aj _,rfl,rfl,0,rfl⟩
   case round=>
    obtain⟨j,ab,rfl,rfl,n,rfl⟩:=hrel;by_cases z:j<m.length
    .have aN:=P.cell j z;have au:Hid _:=Vl m j z f.kind;cases p:Gl m j f.kind
     .have V:Hid _:=p;clear p;go_wp2;go_quiet (fail);go_wp2;go_roundw
      case rel=>exact⟨j+1,by omega,by go_num,by rw [au.out,V.out,Bool.false_or],_,rfl⟩
      case measure=>simp [intOf];omega
     .have V:Hid _:=p;clear p;go_wp2;go_quiet (fail);go_wp2;go_roundw
      case rel=>exact⟨j+1,by omega,by go_num,by rw [au.out,V.out,Bool.true_or],_,rfl⟩
      case measure=>simp [intOf];omega
    .have ao:j=m.length:=by omega
     have q:za (λ_=>False) wr (wr.drewN n):=kD;change Hid _ at q;cases p:Gl m j f.kind
     .clear p;go_wp2;obtain⟨x,aq,X,F,H,ac,ar,ah,an,ap,vs,r⟩:=ax.out;have GR:=r.idle q.out;go_roundw
      case rel=>exact⟨k+1,by omega,by go_num,GR.1,c.trans GR.2 iL⟩
      case measure=>simp [intOf];omega
     .have A:f.kind∈m:=UN (by rw [<-ao];exact p);change Hid _ at A;clear p ao;obtain⟨x,aq,X,F,H,ac,ar,ah,an,ap,vs,r⟩:=ax.out;have ag:Hid (jf M (wr.drewN n) w.heap.size w.heap.size k):=⟨x,aq,X,F,H,ac,ar,ah,an,ap,vs,r.kept0 q⟩;clear r;go_wp2_with fail;refine(E _ _ _ _ f ag (by exact af) (by omega) (by exact N.kept q nF) A).mono ?_;rintro e a0 ⟨rfl,aJ,I⟩;obtain⟨ay,aP,aQ,F',aF,aK,az,ai,Z,ak,aa,s⟩:=aJ;change Hid _ at s I;go_wp2_with fail;refine(JY _ _ _ F' aF aK az ai Z ak aa s.book).mono ?_;rintro e aV ⟨rfl,J,y⟩;have al:Hid _:=s.whole J y;change Hid _ at y;clear J;go_wp2;go_roundw
      case rel=>exact⟨k+1,by omega,by go_num,⟨_,_,_,_,_,_,_,_,_,_,_,al⟩,((c.trans q fE).trans I iL).trans y (λi u=>.inl (s.bF i u))⟩
      case measure=>simp [intOf];omega
  .go_wp2;go_ret;exact⟨rfl,(za.refl (λ_=>False) w).trans c (λk D=>.inr (by omega))⟩
theorem Kc(A:Ka M)(l:yb N)(i:xo N)(n:Vh M N)(w:World)(Q:Nat->Prop)(g:∀k,Q k->k<w.heap.size)(a:Option Addr)(d:Nat)(b:List xk)(h:kH w Q a b)(f:b.length<=1256584717449):
 Calls Tryz.prog 6 #[.slice a b.length d] w λe w'=>e=.returned (.bool true)/\za (λ_=>False) w w':=by
 have m:Hid _:=h;have j:Hid _:=cN A l i n [1,2,3,4,5,6,7,8,9,10,11] (by decide);change Hid _ at g;clear h;go_enter Tryz.func6,Tryz.ntmps6;go_wp2_with fail;refine(dF M _ Q (λk c=>by have:=g.out k c;simp;omega) a d b (m.kept (za.alloc (λ_=>False) w _) nF) f w.heap.size 11 [1,2,3,4,5,6,7,8,9,10,11] ⟨ac w _⟩ (by decide) (by decide) j).mono ?_;rintro e w2 ⟨rfl,c⟩;change Hid _ at c;go_wp2;go_ret;exact⟨rfl,(za.alloc _ w _).trans c iL⟩
theorem Kd(A:Ka M)(l:yb N)(i:xo N)(n:Vh M N)(w:World)(Q:Nat->Prop)(g:∀k,Q k->k<w.heap.size)(a:Option Addr)(d:Nat)(b:List xk)(h:kH w Q a b)(f:b.length<=1256584717449):
 Calls Tryz.prog 7 #[.slice a b.length d] w λe w'=>e=.returned (.bool true)/\za (λ_=>False) w w':=by
 have m:Hid _:=h;have j:Hid _:=cN A l i n [1,2,3,4,5,6,7,8,9,10,11,12] (by decide);change Hid _ at g;clear h;go_enter Tryz.func7,Tryz.ntmps7;go_wp2_with fail;refine(dF M _ Q (λk c=>by have:=g.out k c;simp;omega) a d b (m.kept (za.alloc (λ_=>False) w _) nF) f w.heap.size 12 [1,2,3,4,5,6,7,8,9,10,11,12] ⟨ac w _⟩ (by decide) (by decide) j).mono ?_;rintro e w2 ⟨rfl,c⟩;change Hid _ at c;go_wp2;go_ret;exact⟨rfl,(za.alloc _ w _).trans c iL⟩
end law
namespace law
open Go.RowKit disk ref book Go.Deep
theorem UQ:Tryz.prog.cellsOf 5=1:=by kernel_rfl
theorem Ke:Tryz.prog.cellsOf 4=1:=by kernel_rfl
theorem uF:Tryz.prog.cellsOf 3=1:=by kernel_rfl
theorem QB:Tryz.prog.cellsOf 9=1:=by kernel_rfl
theorem Vx:Tryz.prog.cellsOf 35=1:=by kernel_rfl
theorem Xl:Tryz.prog.cellsOf 39=1:=by kernel_rfl
theorem Jg:Tryz.prog.cellsOf 81=8:=by kernel_rfl
theorem UR:Tryz.prog.bytesOf 5=1:=by kernel_rfl
theorem Kf:Tryz.prog.bytesOf 4=1:=by kernel_rfl
theorem US:Tryz.prog.bytesOf 81=112:=by kernel_rfl
theorem QC{w:World}{a:Addr}{v:Value}(h:w.cell? a=some v):a.block<w.heap.size:=by
 unfold World.cell? at h
 cases b:w.heap[a.block]? with
 |none=>rw [b] at h;simp at h
 |some c=>exact(lT b)
section
variable {H:Type} {enc:TypeId×Value->H} {W:World} {fuel:Nat} {cs:List Value} {x:DataW H×List MemPlace}
theorem QD{a:Addr}{m:Nat}{V:Nat->Value}(h:∀i,i<m->W.cell? (a.add i)=some (V i))(e:0<m):∃b d,a=⟨b,d,none⟩/\b<W.heap.size/\∀i,i<m->W.cell? ⟨b,d+i,none⟩=some (V i):=by
 obtain⟨b,d,f⟩:=a;have c:=h 0 e;have g:f=none:=by simpa [Addr.add] using World.cell?_spot c
 subst g;refine⟨b,d,rfl,?_,λi j=>?_⟩;.have:=QC c;simpa [Addr.add] using this
 .have:=h i j;rw [eO] at this;exact this
theorem Vy(h:DataW.trod enc Tryz.prog W 0 (λ_=>true) true fuel 35 cs=some x):∃a l c,cs=[.slice a l.length c]/\zL W (λk=>k<W.heap.size) a l/\(l.length=0\/∃o u,x.1=.slice o u/\o.length=l.length)/\l.length<=c:=by
 rcases open_slice1 Tryz.underlying35 UQ h with⟨rfl,rfl⟩|⟨a,d,c,m,n,V,D,Pl,rfl,_,s,I,f,rfl,t⟩;.exact⟨none,[],0,rfl,.inl rfl,.inl rfl,aF _⟩
 .have B:d<=m:=by rw [f];simpa using s
  obtain⟨z,r⟩:=choose_lt (α:=Nat) (n:=m) (p:=λi k=>V i=.int .u8 (k:Int)/\k<256) (λi e=>by
   obtain⟨k,q,_,w⟩:=DataW.trod_int Tryz.underlying5 (t i e).2;simp only [eH,and_true] at q
   have F:0<=k/\k<256:=by
    have H:IntKind.u8.min<=k/\k<=IntKind.u8.max:=by simpa only [Lit.wf,aW,aR] using w
    have J:IntKind.u8.min=0:=by decide
    have G:IntKind.u8.max=255:=by decide
    omega
   exact⟨k.toNat,by rw [q];congr 1;omega,by omega⟩)
  refine⟨some a,(List.range d).map λi=>UInt8.ofNat (z i),c,by simp,?_,.inr ⟨_,_,rfl,by simp⟩,by simpa using s⟩;by_cases v:d=0;.subst v;exact .inl rfl
  .obtain⟨b,E,rfl,g,A⟩:=QD (λi e=>(t i e).1) (by omega:0<m);refine .inr ⟨b,E,rfl,g,g,λj y=>?_⟩;have C:j<d:=by simpa using y
   rw [A j (by omega),(r j (by omega)).1];have:=(r j (by omega)).2;simp;omega
theorem Xm(h:DataW.trod enc Tryz.prog W 0 (λ_=>true) true fuel 39 cs=some x):∃a ks c,cs=[.slice a (ks:List Bool).length c]/\(∀j,j<ks.length->∃e u,a=some ⟨e,u,none⟩/\e<W.heap.size/\e<W.heap.size/\W.cell? ⟨e,u+j,none⟩=some (.bool (ks.getD j false)))/\(ks.length=0\/∃s w,x.1=.slice s w/\s.length=ks.length):=by
 rcases open_slice1 Tryz.underlying39 Ke h with⟨rfl,rfl⟩|⟨a,d,c,m,n,V,D,Pl,rfl,_,v,E,o,rfl,r⟩;.exact⟨none,[],0,rfl,λj g=>by simp at g,.inl rfl⟩
 .have B:d<=m:=by rw [o];simpa using v
  obtain⟨z,A⟩:=choose_lt (α:=Bool) (n:=m) (p:=λi k=>V i=.bool k) (λi f=>by
   obtain⟨k,t,_⟩:=DataW.trod_bool Tryz.underlying4 (r i f).2;simp only [eH,and_true] at t
   exact⟨k,t⟩)
  refine⟨some a,(List.range d).map z,c,by simp,λj g=>?_,.inr ⟨_,_,rfl,by simp⟩⟩;have l:j<d:=by simpa using g
  obtain⟨b,C,rfl,q,y⟩:=QD (λi f=>(r i f).1) (by omega:0<m);refine⟨b,C,rfl,q,q,?_⟩;rw [y j (by omega),A j (by omega)];simp [l]
theorem uG{t:TypeId}(b:Tryz.prog.underlying t=some (.int .i64))(h:DataW.trod enc Tryz.prog W 0 (λ_=>true) true fuel t cs=some x):∃k,cs=[.int .i64 k]/\zD k:=by
 obtain⟨k,a,_,c⟩:=DataW.trod_int b h;refine⟨k,a,?_⟩;have f:IntKind.i64.min<=k/\k<=IntKind.i64.max:=by simpa only [Lit.wf,aW,aR] using c
 have d:IntKind.i64.min= -9223372036854775808:=by decide
 have e:IntKind.i64.max=9223372036854775807:=by decide
 unfold zD;omega
theorem UT(h:DataW.trod enc Tryz.prog W 0 (λ_=>true) true fuel 81 cs=some x)(q:(x.1.weights Tryz.prog 81).all (· <=reachBytes)=true):∃ae:xk,cs=ae.cells/\ae.Ok W (λk=>k<W.heap.size):=by
 obtain⟨U,n,rfl,r,c,f,b⟩:=DataW.trod_struct Tryz.underlying81 h;rw [Jg] at c
 match cs,c with
 |[c0,c1,c2,c3,c4,c5,c6,c7],_=>
  match U,f with
  |[x0,x1,x2,x3,x4,x5,x6,x7],_=>
   have H:DataW.trod enc Tryz.prog W 0 (λ_=>true) true n 3 [c0]=some x0:=by have a:DataW.trod enc Tryz.prog W 0 (λ_=>true) true n 3 (List.take (Tryz.prog.cellsOf 3) (List.drop 0 [c0,c1,c2,c3,c4,c5,c6,c7]))=some x0:=b 0 _ rfl;rw [uF] at a;exact a
   have M:DataW.trod enc Tryz.prog W 0 (λ_=>true) true n 3 [c1]=some x1:=by have a:DataW.trod enc Tryz.prog W 0 (λ_=>true) true n 3 (List.take (Tryz.prog.cellsOf 3) (List.drop 1 [c0,c1,c2,c3,c4,c5,c6,c7]))=some x1:=b 1 _ rfl;rw [uF] at a;exact a
   have Z:DataW.trod enc Tryz.prog W 0 (λ_=>true) true n 3 [c2]=some x2:=by have a:DataW.trod enc Tryz.prog W 0 (λ_=>true) true n 3 (List.take (Tryz.prog.cellsOf 3) (List.drop 2 [c0,c1,c2,c3,c4,c5,c6,c7]))=some x2:=b 2 _ rfl;rw [uF] at a;exact a
   have ac:DataW.trod enc Tryz.prog W 0 (λ_=>true) true n 3 [c3]=some x3:=by have a:DataW.trod enc Tryz.prog W 0 (λ_=>true) true n 3 (List.take (Tryz.prog.cellsOf 3) (List.drop 3 [c0,c1,c2,c3,c4,c5,c6,c7]))=some x3:=b 3 _ rfl;rw [uF] at a;exact a
   have ab:DataW.trod enc Tryz.prog W 0 (λ_=>true) true n 9 [c4]=some x4:=by have a:DataW.trod enc Tryz.prog W 0 (λ_=>true) true n 9 (List.take (Tryz.prog.cellsOf 9) (List.drop 4 [c0,c1,c2,c3,c4,c5,c6,c7]))=some x4:=b 4 _ rfl;rw [QB] at a;exact a
   have T:DataW.trod enc Tryz.prog W 0 (λ_=>true) true n 9 [c5]=some x5:=by have a:DataW.trod enc Tryz.prog W 0 (λ_=>true) true n 9 (List.take (Tryz.prog.cellsOf 9) (List.drop 5 [c0,c1,c2,c3,c4,c5,c6,c7]))=some x5:=b 5 _ rfl;rw [QB] at a;exact a
   have V:DataW.trod enc Tryz.prog W 0 (λ_=>true) true n 35 [c6]=some x6:=by have a:DataW.trod enc Tryz.prog W 0 (λ_=>true) true n 35 (List.take (Tryz.prog.cellsOf 35) (List.drop 6 [c0,c1,c2,c3,c4,c5,c6,c7]))=some x6:=b 6 _ rfl;rw [Vx] at a;exact a
   have J:DataW.trod enc Tryz.prog W 0 (λ_=>true) true n 39 [c7]=some x7:=by have a:DataW.trod enc Tryz.prog W 0 (λ_=>true) true n 39 (List.take (Tryz.prog.cellsOf 39) (List.drop 7 [c0,c1,c2,c3,c4,c5,c6,c7]))=some x7:=b 7 _ rfl;rw [Xl] at a;exact a
   clear b h;obtain⟨k0,g,O⟩:=uG Tryz.underlying3 H;obtain⟨k1,v,R⟩:=uG Tryz.underlying3 M;obtain⟨k2,p,K⟩:=uG Tryz.underlying3 Z;obtain⟨k3,w,ad⟩:=uG Tryz.underlying3 ac;obtain⟨C,y, -, Q⟩:=DataW.trod_string Tryz.underlying9 ab;obtain⟨X,i, -, aa⟩:=DataW.trod_string Tryz.underlying9 T;obtain⟨Y,z,L,m,B,G,_⟩:=Vy V;obtain⟨F,s,E,l,P,I⟩:=Xm J;simp only [eH,and_true] at g v p w y i m l;subst g v p w y i m l;rw [r] at q
   have d:(DataW.weightsEach Tryz.prog [3, 3, 3, 3, 9, 9, 35, 39] [x0.1,x1.1,x2.1,x3.1,x4.1,x5.1,x6.1,x7.1]).all (· <=reachBytes)=true:=by
    have e:DataW.weights Tryz.prog 81 (.agg [x0.1,x1.1,x2.1,x3.1,x4.1,x5.1,x6.1,x7.1])=DataW.weightsEach Tryz.prog [3, 3, 3, 3, 9, 9, 35, 39] [x0.1,x1.1,x2.1,x3.1,x4.1,x5.1,x6.1,x7.1]:=by unfold DataW.weights;rw [Tryz.underlying81];rfl
    rw [<-e];exact q
   have o:z.length<=140737488355326:=by
    rcases G with h|⟨N,D,h,S⟩;.omega
    .have:=sized_slice d (j:=6) (t:= 35) rfl (by rw [<-h];rfl) Tryz.underlying35;rw [UR] at this;have u:reachBytes=140737488351232:=by decide
     omega
   have A:s.length<=140737488355326:=by
    rcases I with h|⟨N,D,h,S⟩;.omega
    .have:=sized_slice d (j:=7) (t:= 39) rfl (by rw [<-h];rfl) Tryz.underlying39;rw [Kf] at this;have u:reachBytes=140737488351232:=by decide
     omega
   exact⟨⟨k0,k1,k2,k3,C,X,Y,z,L,F,s,E⟩,rfl,O,R,K,ad,Q,aa,B,o,A,P⟩
theorem fF{H:Type}{P:Program}{e:TypeId}{n:Nat}:∀(l:List (DataW H)),∀d∈l,n∈d.weights P e->n∈DataW.weightsAll P e l
 |d0::l,d,a,hn=>by
  unfold DataW.weightsAll;rcases ar.1 a with rfl|a;.exact af _ hn
  .exact av _ (fF l d a hn)
theorem fG{I:Option Addr}{c F:Nat}(h:DataW.trod enc Tryz.prog W 0 (λ_=>true) true fuel 22 [.slice I c F]=some x)(r:(x.1.weights Tryz.prog 22).all (· <=reachBytes)=true):∃q:List xk,q.length=c/\kH W (λk=>k<W.heap.size) I q/\q.length<=1256584717449:=by
 rcases open_slice Tryz.underlying22 h with⟨s,rfl⟩|⟨a,T,P,m,n,D,Pl,s,_,U,ac,A,rfl,V⟩
 .simp only [eH,Value.slice.injEq,and_true] at s;obtain⟨rfl,rfl,rfl⟩:=s;exact⟨[],rfl,⟨λi f=>by simp at f,λi f=>by simp at f⟩,by simp⟩
 .simp only [eH,Value.slice.injEq,and_true] at s;obtain⟨rfl,rfl,rfl⟩:=s;have Y:c<=m:=by rw [A];simpa using U
  have E:(((List.range c).map D).length+((List.range (m-c)).map λj=>D (c+j)).length)*Tryz.prog.bytesOf 81<=reachBytes/\∀d∈(List.range c).map D,(d.weights Tryz.prog 81).all (· <=reachBytes)=true:=by unfold DataW.weights at r;rw [Tryz.underlying22] at r;simp only [List.all_cons,List.all_append,aW,aR] at r;refine⟨r.1,λd N=>iD.2 (λk S=>?_)⟩;exact iD.1 r.2.1 k (fF _ d N S)
  obtain⟨Q,B⟩:=E;rw [US,ez,ez,mw,mw] at Q;have aa:reachBytes=140737488351232:=by decide
  obtain⟨g,y⟩:=choose_lt (α:=Option xk) (n:=c) (p:=λi R=>∃l:xk,R=some l/\W.cells? 0 (a.add (i*8)) 8=some l.cells/\l.Ok W (λk=>k<W.heap.size)) (λi f=>by
   obtain⟨Z,e,h2⟩:=V i (by omega);rw [Jg] at e;obtain⟨l,rfl,H⟩:=UT h2 (B _ (au.2 ⟨i,List.mem_range.2 f,rfl⟩))
   exact⟨some l,l,rfl,e,H⟩)
  let dflt:xk:=⟨0,0,0,0,ByteArray.empty,ByteArray.empty,none,[],0,none,[],0⟩;refine⟨(List.range c).map λi=>(g i).getD dflt,by simp,⟨λi f=>?_,λi f=>?_⟩,by simp;omega⟩
  .have o:i<c:=by simpa using f
   obtain⟨l,z,G,K⟩:=y i o;have u:=(World.cells?_some G).2.2;obtain⟨b,R,O⟩:=a;have C:=u 0 (by omega)
   have J:O=none:=by obtain⟨ab,_,M,_⟩:=y 0 (by omega);have e:=(World.cells?_some M).2.2 0 (by omega);have h2:=World.cell?_spot e;simpa [Addr.add] using h2
   subst J
   have t:b<W.heap.size:=by have e:=C;rw [add_add,eO] at e;exact QC e
   refine⟨b,R,rfl,t,t,λj v L=>?_⟩
   have w:l.cells[j]? =some v:=by rw [ia,List.getElem_range,z] at L;exact L
   have X:j<8:=by have:=(et.1 w).1;simpa [xk.cells] using this
   have e:=u j X;rw [add_add,eO,w] at e;rw [lH];exact e
  .have o:i<c:=by simpa using f
   obtain⟨l,z,G,K⟩:=y i o;rw [ia,List.getElem_range,z];exact K
end
end law
end Go.Proofs.YtcoengihaobddaaGreatDoor
