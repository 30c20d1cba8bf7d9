/- Part 31 of 36 of a proof: Lst3, Fall4 -/
import Derived.Test.YtcoengihaobddaaGreatDoorJc30
set_option maxHeartbeats 8000000
set_option linter.unusedVariables false
set_option linter.unusedSimpArgs false
set_option maxRecDepth 8000
namespace Go.Proofs.YtcoengihaobddaaGreatDoor
open Go.ChangeShapes Go.WideShapes Go.ChangeAt Go.RowKit disk ref
namespace prog
open Go.MuLone
open keys (zh ze zy zs zq)
theorem JF:∀a b:List UInt8,Op.bytesLess a b=qC a b
 |[],[]=>rfl
 |[],_::_=>rfl
 |_::_,[]=>rfl
 |x::a,y::b=>by
  unfold Op.bytesLess qC;have d:=JF a b;by_cases e:x=y
  .subst e;have f:=UInt8.lt_irrefl x;simp [d,f]
  .have c:=beq_false_of_ne e;simp [c,e]
theorem YI(a b:ByteArray):Op.bytesLess a.toList b.toList=qw a b:=by
 rw [JF,eC,eC];rfl
theorem KP(w:World)(p k:ByteArray)(n:Int)(c:0<=n)(b:n<=9223372036854775807):
 Calls Tryz.prog 68 #[.string p,.string k,.int .i64 n] w λe w'=>e=.returned (.agg #[.string (jd p k n).key,.int .i64 (jd p k n).num])/\za (λ_=>False) w w':=by
 unfold jd;by_cases h:qw k p=true
 .have a:Op.bytesLess k.toList p.toList=true:=by rw [YI];exact h
  rw [aB h];go_enter Tryz.func68,Tryz.ntmps68;go_wp2;exact bodyPost_ret (results_cell_row Tryz.results68 _ _ w.heap.size 107 _ (0,0) _ rfl (ac w _) Tryz.underlying107 rfl (by kernel_rfl)) rfl ⟨rfl,za.alloc _ _ _⟩
 .have a:Op.bytesLess k.toList p.toList=false:=by rw [YI];simpa using h
  rw [aw h];go_enter Tryz.func68,Tryz.ntmps68;go_wp2;exact bodyPost_ret (results_cell_row Tryz.results68 _ _ w.heap.size 107 _ (0,0) _ rfl (ac w _) Tryz.underlying107 rfl (by kernel_rfl)) rfl ⟨rfl,za.alloc _ _ _⟩
def vo(p k:ByteArray)(n m c:Int):Prop:=
 (c=2/\(p.toList==[])=false/\zq p.data.toList=false)\/(c=2/\((p.toList==[])=true\/((p.toList==[])=false/\zq p.data.toList=true))/\(k.toList==[])=false/\zq k.data.toList=false)\/(c=4/\((p.toList==[])=true\/((p.toList==[])=false/\zq p.data.toList=true))/\((k.toList==[])=true\/((k.toList==[])=false/\zq k.data.toList=true))/\(n<0\/(¬n<0/\m<1)\/(¬n<0/\¬m<1/\50<m)))\/c=0/\((p.toList==[])=true\/((p.toList==[])=false/\zq p.data.toList=true))/\((k.toList==[])=true\/((k.toList==[])=false/\zq k.data.toList=true))/\¬n<0/\¬m<1/\¬50<m
theorem vo.zero{p k:ByteArray}{n m:Int}(h:vo p k n m 0):((p.toList==[])=true\/((p.toList==[])=false/\zq p.data.toList=true))/\((k.toList==[])=true\/((k.toList==[])=false/\zq k.data.toList=true))/\¬n<0/\¬m<1/\¬50<m:=by
 rcases h with h|h|h|h;.exact absurd h.1 (by decide)
 .exact absurd h.1 (by decide)
 .exact absurd h.1 (by decide)
 .exact h.2
theorem fj(p k:ByteArray)(n m:Int):vo p k n m (qH p k n m):=by
 have c:(p≠ByteArray.empty)↔(p.toList==[])=false:=by rw [ne_eq,<-ua];simp
 have d:(k≠ByteArray.empty)↔(k.toList==[])=false:=by rw [ne_eq,<-ua];simp
 have b:∀q:ByteArray,((q≠ByteArray.empty)↔(q.toList==[])=false)->¬(q≠ByteArray.empty/\zq q.data.toList=false)->(q.toList==[])=true\/((q.toList==[])=false/\zq q.data.toList=true):=λq f h=>by
  cases g:(q.toList==[]) with
  |true=>exact .inl rfl
  |false=>
   refine .inr ⟨rfl,?_⟩
   cases i:zq q.data.toList with
   |true=>rfl
   |false=>exact absurd ⟨f.2 g,i⟩ h
 unfold qH;by_cases a:p≠ByteArray.empty/\zq p.data.toList=false
 .rw [aB (.inl a)];exact .inl ⟨rfl,c.1 a.1,a.2⟩
 .by_cases h2:k≠ByteArray.empty/\zq k.data.toList=false
  .rw [aB (.inr h2)];exact .inr (.inl ⟨rfl,b p c a,d.1 h2.1,h2.2⟩)
  .rw [aw (λh=>h.elim a h2)];by_cases e:n<0\/m<1\/50<m
   .rw [aB e];exact .inr (.inr (.inl ⟨rfl,b p c a,b k d h2,by omega⟩))
   .rw [aw e];exact .inr (.inr (.inr ⟨rfl,b p c a,b k d h2,by omega,by omega,by omega⟩))
theorem Zq(w:World)(bs:Nat)(q:Option Nat)(x:zu w bs 0 q)(p k:ByteArray)(n m:Int)(Y:p.size<=maxLen)(V:k.size<=maxLen)(c l:Int)(P:vo p k n m c)(A:(c≠0/\l=c)\/(c=0/\q=none/\l=8)):
 Calls Tryz.prog 45 #[.pointer (some ⟨bs,0,none⟩),.string p,.string k,.int .i64 n,.int .i64 m] w λe w'=>e=.returned (.tuple #[.agg #[.slice none 0 0,.bool false],.int .i64 l])/\zu w' bs 0 q/\za (λk=>k=bs) w w':=by
 change Hid _ at x;have t:Hid (za (λ_=>False) w (w.alloc (.cells #[.slice none 0 0,.bool false] 90))):=za.alloc _ _ _;have G:Hid ((w.alloc (.cells #[.slice none 0 0,.bool false] 90)).heap[w.heap.size]? =some (.cells #[.slice none 0 0,.bool false] 90 (0,0))):=ac w _;have hbs:=x.lt;have R:(w.alloc (.cells #[.slice none 0 0,.bool false] 90)).heap.size=w.heap.size+1:=by simp
 have N:Hid (∀J,J=w.alloc (.cells #[.slice none 0 0,.bool false] 90)->Calls Tryz.prog 47 #[.pointer (some ⟨bs,0,none⟩)] J λe a=>e=.returned (.tuple #[])/\zu a bs 1 q/\a.heap[w.heap.size]? =some (.cells #[.slice none 0 0,.bool false] 90 (0,0))/\za (λk=>k=bs) w a/\w.heap.size<a.heap.size):=by rintro J rfl;refine(qd (x.kept t id)).mono ?_;rintro e a ⟨rfl,g,h2⟩;have X:=h2.size;exact⟨rfl,g,(h2.block _ (by omega) (by omega)).trans G,(t.mono fE).trans h2 iL,by omega⟩
 have v:Hid (∀(a:World),zu a bs 1 q->a.heap[w.heap.size]? =some (.cells #[.slice none 0 0,.bool false] 90 (0,0))->za (λk=>k=bs) w a->∀tmps:Array Value,tmps.getD 10 undef=.pointer (some ⟨w.heap.size,0,none⟩)->tmps.getD 11 undef=.int .i64 l->bodyPostD Tryz.prog Tryz.f45 (λe w'=>e=.returned (.tuple #[.agg #[.slice none 0 0,.bool false],.int .i64 l])/\zu w' bs 0 q/\za (λk=>k=bs) w w') .ret {tmps:=tmps,defers:=[{target:=.fn (.func 48) #[],args:=#[.pointer (some ⟨bs,0,none⟩)] }]} ((a.setCell ⟨w.heap.size,0,none⟩ (.slice none 0 0)).setCell ⟨w.heap.size,1,none⟩ (.bool false))):=by
  intro a d b h tmps B F;have Q:=(lT b);have C:=heap_setCell_same a w.heap.size 0 _ _ (.slice none 0 0) b;have D:=heap_setCell_same _ w.heap.size 1 _ _ (.bool false) C;have y:za (λj=>j=w.heap.size) a ((a.setCell ⟨w.heap.size,0,none⟩ (.slice none 0 0)).setCell ⟨w.heap.size,1,none⟩ (.bool false)):=(za.setCell (S:=λj=>j=w.heap.size) a ⟨w.heap.size,0,none⟩ _ rfl).trans (za.setCell (S:=λj=>j=w.heap.size) _ ⟨w.heap.size,1,none⟩ _ rfl) iL;generalize ((a.setCell ⟨w.heap.size,0,none⟩ (.slice none 0 0)).setCell ⟨w.heap.size,1,none⟩ (.bool false))=ae at*;refine leaves_cons (f:= 48) (args:=#[.pointer (some ⟨bs,0,none⟩)]) (by simp) (by simp [go_sem]) ?_;refine(qc (d.kept y (by omega))).mono ?_;rintro e u' ad ⟨rfl,rfl,z,s⟩;have E:=(s.block _ (by have:=y.size;omega) (by omega)).trans D;refine⟨_,qK rfl _ _ _ _ _ _ _ B E Tryz.underlying90 rfl (by kernel_rfl),?_,z,?_⟩;.rw [F];rfl
  .exact(h.trans y (λj ab=>.inr (by omega))).trans s iL
 rcases P with⟨rfl,g,h2⟩|⟨rfl,o|⟨o,u⟩,g,h2⟩|⟨rfl,o|⟨o,u⟩,g|⟨g,H⟩,h2|⟨h2,I⟩|⟨h2,I,L⟩⟩|⟨rfl,o|⟨o,u⟩,g|⟨g,H⟩,h2,I,L⟩;all_goals rcases A with⟨i,rfl⟩|⟨i,rfl,rfl⟩
 all_goals first
  |exact absurd rfl i
  |exact absurd i (by decide)
  |(clear i
    go_enter_defers Tryz.func45,Tryz.ntmps45
    go_wp2_with (first
     |(go_at_call 47;refine(N _ rfl).mono ?_;rintro e a ⟨rfl,d,b,h,K⟩;have Z:a.cell? ⟨w.heap.size,0,none⟩=some (.slice none 0 0):=(cR b rfl);have T:a.cell? ⟨w.heap.size,1,none⟩=some (.bool false):=(cR b rfl);have U:=aa a w.heap.size 0 _ _ b;have W:=aa a w.heap.size 1 _ _ b;have M:=d.c2;try simp only [Option.map_none] at M;change Hid _ at d b h)
     |(go_at_call 49;refine(keys.ql _ a (by assumption)).mono ?_;rintro e O ⟨rfl,r⟩;rw [r];clear r O))
    exact v a d b h _ rfl rfl)
theorem KQ(w:World)(bs bd:Nat)(S:Nat->Prop)(D:Dk)(ag:zu w bs 0 (some bd))(x:zg w bd S D)(ah:¬S bs)(aw:0<=D.reads)(aT:D.reads<=4611686018427350000)(u ar:Nat)(an:qV (D.look 1) u ar)(p k:ByteArray)(n m:Int)(aO:p.size<=maxLen)(ae:k.size<=maxLen)(aI:n<=9223372036854775807)(ab:vo p k n m 0)(M:List En)(K:List Nat)(hF:q8 (λj=>D.look (j:Nat)) u M K)(ak:K.length<=979)(hbs:∀j∈K,21<=j)(V:∀a5∈M,a5.pl.key.size<=9223372036854775807)(L:List En)(au:YG p k n M=L):
 Calls Tryz.prog 45 #[.pointer (some ⟨bs,0,none⟩),.string p,.string k,.int .i64 n,.int .i64 m] w λe w'=>(∃a c,e=.returned (.tuple #[.agg #[.slice a (L.take m.toNat).length c,.bool (decide (m.toNat<L.length))],.int .i64 0])/\w'.ownsRow 0 94 4 (.slice a (L.take m.toNat).length c) (L.take m.toNat).length (vn (L.take m.toNat))/\∀j,(Value.slice a (L.take m.toNat).length c).ownBlock=some j->w.heap.size<=j)/\zu w' bs 0 (some bd)/\(∃r:Int,D.reads<=r/\r<=D.reads+1000/\zg w' bd S {D with reads:=r })/\za (λi=>i=bd\/i=bs) w w':=by
 have aQ:Hid (zg w bd S D):=x;have al:bs≠bd:=λe=>ah (by rw [e];exact x.bdS);have ax:Hid (∀j,S j->j≠bs):=λj l e=>ah (by rw [<-e];exact l);have aU:=x.lt bd x.bdS;have aD:Hid _:=x.lt;have aN:=ag.lt;have am:Hid (0<=n/\1<=m/\m<=50):=by obtain⟨_,_,h2,ay,aK⟩:=ab.zero;exact⟨by omega,by omega,by omega⟩
 obtain⟨T,af⟩:∃T,T=L.take m.toNat:=⟨_,rfl⟩;obtain⟨q,Y⟩:∃b,b=decide (m.toNat<L.length):=⟨_,rfl⟩;rw [<-af,<-Y]
 have aF:Hid (∀w',zu w' bs 1 (some bd)->zg w' bd S D->Calls Tryz.prog 67 #[.pointer (some ⟨bs,0,none⟩),.string p,.agg #[.string (jd p k n).key,.int .i64 (jd p k n).num],.int .i64 m] w' λe A=>(∃a c,e=.returned (.agg #[.slice a T.length c,.bool q])/\A.ownsRow 0 94 4 (.slice a T.length c) T.length (vn T)/\∀j,(Value.slice a T.length c).ownBlock=some j->w'.heap.size<=j)/\(∃r:Int,D.reads<=r/\r<=D.reads+1000/\zg A bd S {D with reads:=r })/\za (λi=>i=bd) w' A):=λw' t h2=>by have ay:=am.out;have:=Ux w' bs bd S D 1 t h2 ah aw (by omega) u ar an p (by unfold maxLen at aO;omega) (jd p k n) m.toNat (by omega) M K hF ak hbs V L au;rw [show ((m.toNat:Nat):Int)=m from by omega,<-af,<-Y] at this;exact this
 change Hid _ at ag;clear x an hF hbs V au af Y;have W:Hid (za (λ_=>False) w (w.alloc (.cells #[.slice none 0 0,.bool false] 90))):=za.alloc _ _ _;have av:Hid ((w.alloc (.cells #[.slice none 0 0,.bool false] 90)).heap[w.heap.size]? =some (.cells #[.slice none 0 0,.bool false] 90 (0,0))):=ac w _;have aY:(w.alloc (.cells #[.slice none 0 0,.bool false] 90)).heap.size=w.heap.size+1:=by simp
 have aL:Hid (∀aJ,aJ=w.alloc (.cells #[.slice none 0 0,.bool false] 90)->Calls Tryz.prog 47 #[.pointer (some ⟨bs,0,none⟩)] aJ λe d=>e=.returned (.tuple #[])/\zu d bs 1 (some bd)/\zg d bd S D/\d.heap[w.heap.size]? =some (.cells #[.slice none 0 0,.bool false] 90 (0,0))/\za (λk=>k=bs) w d/\w.heap.size<d.heap.size):=by rintro aJ rfl;refine(qd (ag.kept W id)).mono ?_;rintro e d ⟨rfl,t,h2⟩;have a0:=h2.size;have ae:=(W.mono (S':=λk=>k=bs) fE).trans h2 iL;exact⟨rfl,t,aQ.kept ae ax,(h2.block _ (by omega) (by omega)).trans av,ae,by omega⟩
 have aG:=am.1;obtain⟨ad,t,h2,ay,aK⟩:=ab.zero;clear ab;rcases ad with ad|⟨ad,aV⟩<;>rcases t with t|⟨t,aX⟩
 all_goals
  go_enter_defers Tryz.func45,Tryz.ntmps45
  go_wp2_with (first
   |(go_at_call 47;refine(aL _ rfl).mono ?_;rintro e d ⟨rfl,y,P,X,U,aM⟩;have O:Hid (zu d bs 1 (some bd)):=y;have aH:Hid (zg d bd S D):=P;have az:Hid (d.heap[w.heap.size]? =some (.cells #[.slice none 0 0,.bool false] 90 (0,0))):=X;have ao:Hid (za (λk=>k=bs) w d):=U;have a1:d.cell? ⟨bs,2,none⟩=some (.pointer (some ⟨bd,0,none⟩)):=y.c2;clear y P X U)
   |(go_at_call 49;refine(keys.ql _ d (by assumption)).mono ?_;rintro e aP ⟨rfl,N⟩;rw [N];clear N aP)
   |(go_at_call 68;refine(KP d p k n aG aI).mono ?_;rintro e J ⟨rfl,B⟩;have s:Hid (za (λ_=>False) d J):=B;have aR:=B.size;clear B)
   |(go_at_call 67;refine(aF J (O.kept s id) (aH.kept s nF)).mono ?_;rintro e g ⟨⟨z,I,rfl,E,R⟩,⟨aC,ai,Z,Q⟩,H⟩;have F:Hid (∀j,(Value.slice z T.length I).ownBlock=some j->J.heap.size<=j):=R;have aA:Hid (zg g bd S {D with reads:=aC }):=Q;have G:Hid (za (λi=>i=bd) J g):=H;have o:g.heap[w.heap.size]? =some (.cells #[.slice none 0 0,.bool false] 90 (0,0)):=(H.block _ (by omega) (by omega)).trans ((s.block _ (by omega) id).trans az);have a2:g.cell? ⟨w.heap.size,0,none⟩=some (.slice none 0 0):=(cR o rfl);have a3:g.cell? ⟨w.heap.size,1,none⟩=some (.bool false):=(cR o rfl);have a4:=aa g w.heap.size 0 _ _ o;have aZ:=aa g w.heap.size 1 _ _ o;change Hid _ at E o;clear R Q H))
  have ap:=heap_setCell_same g w.heap.size 0 _ _ (.slice z T.length I) o.out;have aq:=heap_setCell_same _ w.heap.size 1 _ _ (.bool q) ap;have C:za (λj=>j=w.heap.size) g ((g.setCell ⟨w.heap.size,0,none⟩ (.slice z T.length I)).setCell ⟨w.heap.size,1,none⟩ (.bool q)):=(za.setCell (S:=λj=>j=w.heap.size) g ⟨w.heap.size,0,none⟩ _ rfl).trans (za.setCell (S:=λj=>j=w.heap.size) _ ⟨w.heap.size,1,none⟩ _ rfl) iL;generalize ((g.setCell ⟨w.heap.size,0,none⟩ (.slice z T.length I)).setCell ⟨w.heap.size,1,none⟩ (.bool q))=a7 at*;have aW:=G.size;have aS:=C.size;refine leaves_cons (f:= 48) (args:=#[.pointer (some ⟨bs,0,none⟩)]) (by simp) (by simp [go_sem]) ?_;refine(qc (((O.kept s id).kept G al).kept C (by omega))).mono ?_;rintro e u' a6 ⟨rfl,rfl,aB,v⟩;have aE:=(v.block _ (by omega) (by omega)).trans aq;refine⟨_,qK rfl _ _ _ _ _ _ _ rfl aE Tryz.underlying90 rfl (by kernel_rfl),⟨z,I,rfl,v.owns (C.owns E (λj l aj=>by have:=F.out j l;omega)) (λj l aj=>by have:=F.out j l;omega),λj l=>by have:=F.out j l;omega⟩,aB,⟨aC,ai,Z,(aA.kept C (λj l aj=>by have:=aD.out j l;omega)).kept v ax⟩,?_⟩;exact((((ao.mono (S':=λi=>i=bd\/i=bs) (λ_ h=>.inr h)).trans s fE).trans G (λ_ h=>.inl (.inl h))).trans C (λj l=>.inr (by omega))).trans v (λ_ h=>.inl (.inr h))
end prog
namespace prog
open keys (zh ze zy zs)
theorem fk{i:Array Oper}{rest:List Oper}{o:Oper}{a:Act}{w:World}{Q:Exit->Act->World->Prop}(l:o.guard=none)(s G:Operand)(A:o.op=.call {callee:=.builtin .append,args:=#[s,G],argTypes:=#[156, 156] })
 (e:Option Addr) (n d:Nat) (k:List Value) (E:a.eval s=.slice e n d) (j:w.ownsRow 0 160 129 (.slice e n d) n k) (b:Nat) (f:List Value) (F:a.eval G=.slice (some ⟨b,0,none⟩) 1 1) (t:w.heap[b]? =some (.cells f.toArray 160 (0,0))) (B:f.length=129) (y:∀u∈f,u.oneCell'=true) (H:n<=1000)
 (h:∀g c w',w'.ownsRow 0 160 129 (.slice (some ⟨g,0,none⟩) (n+1) c) (n+1) (k++f)->w.grownBy w' (Value.slice e n d).ownBlock->((Value.slice e n d).ownBlock=some g\/g=w.heap.size)->wpList Tryz.prog i Q rest (a.put o.dst (.slice (some ⟨g,0,none⟩) (n+1) c)) w'):wpList Tryz.prog i Q (o::rest) a w:=by
 refine md l λI x=>?_;obtain⟨z,r,m,p,q⟩:=eZ Tryz.infoCw;obtain⟨g,c,w',C,h2,D,v,_⟩:=run_append_lies (P:=Tryz.prog) (w:=w) 156 o.type 0 160 z _ 129 136 Tryz.underlying156 r m p q (congrArg (· +1) zH.1) (by omega) (.slice e n d) n k j ⟨b,0,none⟩ 1 1 f (by rw [B]) (World.news_of_block t) y (by omega) (by unfold maxLen;omega) (by omega) (aj _) _ rfl;unfold Oper.wp execOp;simp only [A,resolve,invoke,builtin,ie,iI,eD,li,aO,ig,E,F,C];exact x _ _ (h g c w' h2 D v)
structure YJ (W wr:World) (bd:Nat) (S:Nat->Prop) (D:Dk) (ws:List (Nat×List Value)) (k:Nat) (a:Option Addr) (c:Nat):Prop where
 disk:zg wr bd S {D with reads:=D.reads+k}
 row:wr.ownsRow 0 160 129 (.slice a k c) k ((ws.take k).map zN).flatten
 fresh:∀j,(Value.slice a k c).ownBlock=some j->W.heap.size<=j
 kept:za (λj=>j=bd) W wr
theorem YJ.next{s wr b l:World}{bd:Nat}{S:Nat->Prop}{D:Dk}{ws:List (Nat×List Value)}{k:Nat}{a:Option Addr}{c:Nat}(h:YJ s wr bd S D ws k a c)(t:k<ws.length)(u:∀j,S j->j<s.heap.size)(q:zg b bd S {D with reads:=D.reads+k+1 })(k3:za (λj=>j=bd) wr b)(r:Obj){g o:Nat}
 (m:l.ownsRow 0 160 129 (.slice (some ⟨g,0,none⟩) (k+1) o) (k+1) (((ws.take k).map zN).flatten++zN ws[k])) (f:(b.alloc r).grownBy l (Value.slice a k c).ownBlock) (p:(Value.slice a k c).ownBlock=some g\/g=(b.alloc r).heap.size):YJ s l bd S D ws (k+1) (some ⟨g,0,none⟩) o:=by
 have w:za (λ_=>False) b (b.alloc r):=za.alloc _ _ _;have v:=za.grown f h.fresh;have i:=(w.mono fE).trans v iL;refine⟨?_,?_,λj d=>?_,(h.kept.trans k3 iL).trans i (λj d=>.inr d)⟩
 .have:=q.kept i (λj d y=>by have:=u j d;omega);rw [show D.reads+((k+1:Nat):Int)=D.reads+k+1 from by omega];exact this
 .rw [ao t,eh,eV];simpa using m
 .have e:g=j:=by simpa [Value.ownBlock] using d
  subst e;rcases p with n|n;.exact h.fresh g n
  .have h2:=h.kept.size;have x:=k3.size;simp at n;omega
theorem YJ.rows{t wr:World}{bd:Nat}{S:Nat->Prop}{D:Dk}{ws:List (Nat×List Value)}{a:Option Addr}{c:Nat}(h:YJ t wr bd S D ws ws.length a c)(f:∀p∈ws,zT p.2/\p.1<65536)(u:ws.length<=18):uY wr (λj=>t.heap.size<=j/\j<wr.heap.size) a ws:=by
 refine⟨f,?_,by omega⟩;rcases mq ws.length with i|i;.exact .inl (aY i)
 .have d:=h.row;rw [eN] at d;rcases d.2 with⟨_,v⟩|⟨g,m,s,r,_,o,_⟩;.omega
  .cases r;have e:=(lT o);refine .inr ⟨g,rfl,⟨h.fresh g rfl,e⟩,e,λk q=>?_⟩;rw [show ws.length=(ws.map zN).length from by simp] at d;have:=yr d (λb n=>by obtain⟨p,l,rfl⟩:=au.1 n;simp [zN,(f p l).1.1]) k (by simpa using q);simpa [zN] using this
section
attribute [local go_sem ↓] cW cX
attribute [local go_sem] dP dQ
theorem X1(w:World)(bd:Nat)(S:Nat->Prop)(D:Dk)(h:zg w bd S D)(aa:zD D.fuse)(ad:(D.fuse==0)=false)(an:0<=D.reads)(aT:D.reads<=4611686018427380000)(ws:List (Nat×List Value))(aX:0<ws.length)(ab:ws.length<=18)(o:∀p∈ws,zT p.2/\p.1<65536)(ao:D.flush.look 0=zm (zK ws))(H:∀i (aW:i<ws.length),D.flush.look (3+(i:Int))=ws[i].2):
 Calls Tryz.prog 55 #[.pointer (some ⟨bd,0,none⟩)] w λe w'=>e=.returned (.bool (qN {D.flush with reads:=D.reads+1+(ws.length:Int)} ws).1)/\q9 w w' bd S (qN {D.flush with reads:=D.reads+1+(ws.length:Int)} ws).2:=by
 obtain⟨J,T,aU⟩:∃J:List Value,J=zX/\∀w,(zeroValue 154).run Tryz.prog w=.ok (.agg J.toArray) w:=⟨zX,rfl,zY Tryz.infoPage⟩;have aB:Hid (zT J):=by rw [T];exact zH
 clear T;have aC:Hid _:=zZ Tryz.infoPage;have u:(zK ws).Ok:=fa (by omega);have l:(zK ws).items.length=ws.length:=by simp [zK]
 have aO:Hid _:=h;have E:Hid _:=yf u;have r:D.flush.reads=D.reads:=by unfold Dk.flush;split<;>rfl
 have Z:D.flush.ps=[]:=by unfold Dk.flush;rw [aw (by simpa using ad)]
 change Hid _ at l ad ao H o r Z u;clear h;go_enter Tryz.func55,Tryz.ntmps55
 go_wp2_with (first
  |(go_at_call 40;refine(yY _ bd S D aO aa).mono ?_;rintro e aP ⟨rfl,⟨m,K,v⟩,V⟩;rw [ad.out];have C:Hid (zg aP bd m D.flush):=K;change Hid _ at v V;clear K)
  |(go_at_call 81;refine(jr _ bd m D.flush C 0 (by constructor<;>omega) (by rw [r.out];exact an) (by rw [r.out];omega)).mono ?_;rintro e b ⟨rfl,O,F⟩;rw [ao.out];have x:Hid (zg b bd m {D.flush with reads:=D.flush.reads+1 }):=O;change Hid _ at F;clear O)
  |(show wpList _ _ _ ({dst:=none,op:=.store _ (.tmp 3) (.tmp 10),type:=_,pos:=_,after:=_,guard:=_}::_) _ _;refine zi rfl 154 (.tmp 3) (.tmp 10) rfl _ _ (zm (zK ws)) (by simp) rfl rfl (by rw [E.1];exact aC) (by rw [aq,aB.1,E.1]) E.2 ?_;have Y:Hid (qR (b.alloc (.cells (zm (zK ws)).toArray 154)) b.heap.size (zK ws)):=⟨⟨ac b _⟩,u⟩)
  |(go_at_call 82;refine(vA _ _ _ Y).mono ?_;rintro e z ⟨rfl,N⟩;rw [N,l.out];clear N z))
 have ak:Hid (zg (b.alloc (.cells (zm (zK ws)).toArray 154)) bd m {D.flush with reads:=D.flush.reads+1 }):=x.kept (za.alloc (λ_=>False) b _) nF;have ap:Hid (za S w (b.alloc (.cells (zm (zK ws)).toArray 154))):=(V.trans F (λk au=>.inl (v k (by rw [au];exact C.bdS)))).trans (za.alloc _ _ _) iL;have X:Hid _:=x.lt;have aJ:=x.lt bd x.bdS;have aS:(b.alloc (.cells (zm (zK ws)).toArray 154)).heap.size=b.heap.size+1:=by simp
 have aR:=F.size;generalize (b.alloc (.cells (zm (zK ws)).toArray 154))=aG at*;generalize b.heap.size=I at*;go_loopw [4,14] (λaY t wr=>∃(k:Nat) (a:Option Addr) (c:Nat),k<=ws.length/\t=.int .i64 k/\aY=.slice a k c/\YJ aG wr bd m {D.flush with reads:=D.flush.reads+1} ws k a c) (λ_ t _=>ws.length-(intOf t).toNat)
 case atStart=>
  refine⟨0,none,0,aj _,rfl,rfl,?_,aV _ 0 160 129,λj f=>(by cases f),za.refl _ _⟩;have:=ak.out;simpa using this
 case round=>
  obtain⟨k,a,c,au,rfl,rfl,hfin⟩:=hrel;change Hid _ at hfin;by_cases d:k<ws.length
  .have M:Hid _:=Y.kept hfin.kept (λaf=>by have e:=af;omega);have az:Hid (QJ I (zK ws).kind k=.slice (some ⟨I,4+k*2,none⟩) 2 (124-k*2)):=rfl
   have ar:Hid (numOf (((zK ws).bytes.drop (4+k*2)).take 2)=ws[k].1):=by
    have B:=u.item k (by rw [l.out];exact d);have h2:(zK ws).items[k]'(by rw [l.out];exact d)=bytesOf 2 ws[k].1:=by simp [zK]
    rw [h2] at B;have ae:numOf (((zK ws).bytes.drop (4+k*2)).take 2)=numOf (bytesOf 2 ws[k].1):=congrArg numOf B;show _=_;rw [ae];exact ys 2 _ (by have:=(o _ (ai d)).2;omega)
   have al:Hid (Dk.look {D.flush with reads:=D.flush.reads+1+(k:Int)} (3+(k:Int))=ws[k].2):=H.out k d;have L:ws[k].2.length=128:=(o _ (ai d)).1.1;have av:Hid (zT ws[k].2):=(o _ (ai d)).1;have aA:ws[k].1<65536:=(o _ (ai d)).2;have ag:Hid (∀(b z:World) (aF:Obj) (g A:Nat),zg b bd m {D.flush with reads:=D.flush.reads+1+(k:Int)+1}->za (λj=>j=bd) wr b->z.ownsRow 0 160 129 (.slice (some ⟨g,0,none⟩) (k+1) A) (k+1) (((ws.take k).map zN).flatten++.int .i64 (ws[k].1:Int)::ws[k].2)->(b.alloc aF).grownBy z (Value.slice a k c).ownBlock->((Value.slice a k c).ownBlock=some g\/g=(b.alloc aF).heap.size)->YJ aG z bd m {D.flush with reads:=D.flush.reads+1} ws (k+1) (some ⟨g,0,none⟩) A):=λb z aF g A B h2 ae aH aN=>hfin.next d (λj f=>by have:=X.out j f;omega) B h2 aF ae aH aN;generalize aM:ws[k]=q at*;obtain⟨ay,aL⟩:=q;clear aM;simp only at L aA
   go_wp2_with (first
    |(go_at_call 84;refine(QM _ I (zK ws) M k (by rw [l.out];exact d) (by show 1<=zk 1;decide)).mono ?_;rintro e n ⟨rfl,s⟩;rw [s,az.out];clear s n)
    |(go_at_call 83;refine(yA _ I _ _ M.bs (4+k*2) 2 (124-k*2) ay (by rw [u.len];omega) (by omega) ar (by omega)).mono ?_;rintro e n ⟨rfl,s⟩;rw [s];clear s n)
    |(go_at_call 81;refine(jr _ bd m _ hfin.disk (3+(k:Int)) (by constructor<;>omega) (by show 0<=D.flush.reads+1+(k:Int);rw [r.out];omega) (by show D.flush.reads+1+(k:Int)<=_;rw [r.out];omega)).mono ?_;rintro e n ⟨rfl,U,P⟩;rw [al.out];have aE:Hid (zg n bd m {D.flush with reads:=D.flush.reads+1+(k:Int)+1 }):=U;have R:Hid (za (λj=>j=bd) wr n):=P;clear U P)
    |(refine fk rfl (.tmp 17) (.tmp 26) rfl a k c ((ws.take k).map zN).flatten (by rfl) (by exact(R.trans (za.alloc (λ_=>False) n _) fE).owns hfin.row (λj f af=>by have B:=hfin.fresh j f;omega)) n.heap.size (.int .i64 (ay:Int)::aL) (by rfl) (ac n _) (by simp [L]) (aQ.2 ⟨rfl,av.2⟩) (by omega) ?_;intro g A aK G y W;have aI:Hid (YJ aG aK bd m {D.flush with reads:=D.flush.reads+1} ws (k+1) (some ⟨g,0,none⟩) A):=ag.out _ _ _ _ _ aE R G y W;clear G y W))
   go_roundw
   case rel=>exact⟨k+1,some ⟨g,0,none⟩,A,by omega,by go_num,rfl,aI⟩
   case measure=>simp [intOf];omega
  .have ax:k=ws.length:=by omega
   subst ax;have ah:Hid _:=hfin.rows o ab;go_wp2_with (go_at_call 85;refine(bu wr bd m _ _ hfin.disk a c ws ah (λj f af=>by have B:=X.out j f;omega) (λj f=>f.2) (jB aa) (by show D.flush.ps.length<=_;rw [Z.out];simp)).mono ?_;rintro e n ⟨rfl,Q⟩;change Hid _ at Q);go_ret;have aD:=ap.trans hfin.kept (λj f=>.inl (v j (by rw [show j=bd from f];exact C.bdS)));have am:=q9.trans (D1:=D) (λj f=>.inl (v j f)) aD Q.out;simp only [r.out] at am ⊢;exact⟨rfl,am⟩
end
end prog
end Go.Proofs.YtcoengihaobddaaGreatDoor
