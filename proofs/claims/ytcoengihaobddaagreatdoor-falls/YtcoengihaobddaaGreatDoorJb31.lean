/- Part 31 of 36 of a proof: Lst3, Fall4 -/
import Derived.Test.YtcoengihaobddaaGreatDoorJb30
set_option maxHeartbeats 8000000
set_option linter.unusedVariables false
set_option linter.unusedSimpArgs false
set_option maxRecDepth 8000
namespace Go.Proofs.YtcoengihaobddaaGreatDoor
open Go.ChangeShapes Go.WideShapes Go.ChangeAt Go.RowKit disk ref
namespace prog
open Go.MuLone
open keys (zh zd zx zq zp)
theorem JF:∀a b:List UInt8,Op.bytesLess a b=qB a b
 |[],[]=>rfl
 |[],_::_=>rfl
 |_::_,[]=>rfl
 |x::a,y::b=>by
  unfold Op.bytesLess qB;have f:=JF a b;by_cases e:x=y
  .subst e;have d:=UInt8.lt_irrefl x;simp [f,d]
  .have c:=beq_false_of_ne e;simp [c,e]
theorem YI(a b:ByteArray):Op.bytesLess a.toList b.toList=qu a b:=by
 rw [JF,eC,eC];rfl
theorem KP(w:World)(p k:ByteArray)(n:Int)(b:0<=n)(c:n<=9223372036854775807):
 Calls Tryz.prog 68 #[.string p,.string k,.int .i64 n] w λe w'=>e=.returned (.agg #[.string (x8 p k n).key,.int .i64 (x8 p k n).num])/\za (λ_=>False) w w':=by
 unfold x8;by_cases h:qu k p=true
 .have a:Op.bytesLess k.toList p.toList=true:=by rw [YI];exact h
  rw [aB h];go_enter Tryz.func68,Tryz.ntmps68;go_wp2;exact bodyPost_ret (results_cell_row Tryz.results68 _ _ w.heap.size 107 _ (0,0) _ rfl (ac w _) Tryz.underlying107 rfl (by kernel_rfl)) rfl ⟨rfl,za.alloc _ _ _⟩
 .have a:Op.bytesLess k.toList p.toList=false:=by rw [YI];simpa using h
  rw [aw h];go_enter Tryz.func68,Tryz.ntmps68;go_wp2;exact bodyPost_ret (results_cell_row Tryz.results68 _ _ w.heap.size 107 _ (0,0) _ rfl (ac w _) Tryz.underlying107 rfl (by kernel_rfl)) rfl ⟨rfl,za.alloc _ _ _⟩
inductive jB (p k:ByteArray) (n m:Int):Int->Prop
 |badp (h1:(p.toList==[])=false) (h2:zp p.data.toList=false):jB p k n m 2
 |badk (h0:(p.toList==[])=true\/((p.toList==[])=false/\zp p.data.toList=true)) (h1:(k.toList==[])=false) (h2:zp k.data.toList=false):jB p k n m 2
 |arg (h0:(p.toList==[])=true\/((p.toList==[])=false/\zp p.data.toList=true)) (h1:(k.toList==[])=true\/((k.toList==[])=false/\zp k.data.toList=true)) (h2:n<0\/(¬n<0/\m<1)\/(¬n<0/\¬m<1/\50<m)):jB p k n m 4
 |ok (h0:(p.toList==[])=true\/((p.toList==[])=false/\zp p.data.toList=true)) (h1:(k.toList==[])=true\/((k.toList==[])=false/\zp k.data.toList=true)) (h2:¬n<0) (h3:¬m<1) (h4:¬50<m):jB p k n m 0
theorem fk(p k:ByteArray)(n m:Int):jB p k n m (qH p k n m):=by
 have c:(p≠ByteArray.empty)↔(p.toList==[])=false:=by rw [ne_eq,<-v7];simp
 have d:(k≠ByteArray.empty)↔(k.toList==[])=false:=by rw [ne_eq,<-v7];simp
 have b:∀q:ByteArray,((q≠ByteArray.empty)↔(q.toList==[])=false)->¬(q≠ByteArray.empty/\zp q.data.toList=false)->(q.toList==[])=true\/((q.toList==[])=false/\zp q.data.toList=true):=λq g h=>by
  cases i:(q.toList==[]) with
  |true=>exact .inl rfl
  |false=>
   refine .inr ⟨rfl,?_⟩
   cases f:zp q.data.toList with
   |true=>rfl
   |false=>exact absurd ⟨g.2 i,f⟩ h
 unfold qH;by_cases a:p≠ByteArray.empty/\zp p.data.toList=false
 .rw [aB (.inl a)];exact .badp (c.1 a.1) a.2
 .by_cases h2:k≠ByteArray.empty/\zp k.data.toList=false
  .rw [aB (.inr h2)];exact .badk (b p c a) (d.1 h2.1) h2.2
  .rw [aw (λh=>h.elim a h2)];by_cases e:n<0\/m<1\/50<m
   .rw [aB e];exact .arg (b p c a) (b k d h2) (by omega)
   .rw [aw e];exact .ok (b p c a) (b k d h2) (by omega) (by omega) (by omega)
theorem Zq(w:World)(bs:Nat)(q:Option Nat)(v:zu w bs 0 q)(p k:ByteArray)(n m:Int)(Z:p.size<=maxLen)(U:k.size<=maxLen)(c o:Int)(K:jB p k n m c)(I:(c≠0/\o=c)\/(c=0/\q=none/\o=8)):
 Calls Tryz.prog 45 #[.pointer (some ⟨bs,0,none⟩),.string p,.string k,.int .i64 n,.int .i64 m] w λe w'=>e=.returned (.tuple #[.agg #[.slice none 0 0,.bool false],.int .i64 o])/\zu w' bs 0 q/\za (λk=>k=bs) w w':=by
 change Hid _ at v;have t:Hid (za (λ_=>False) w (w.alloc (.cells #[.slice none 0 0,.bool false] 90))):=za.alloc _ _ _;have A:Hid ((w.alloc (.cells #[.slice none 0 0,.bool false] 90)).heap[w.heap.size]? =some (.cells #[.slice none 0 0,.bool false] 90 (0,0))):=ac w _;have hbs:=v.lt;have R:(w.alloc (.cells #[.slice none 0 0,.bool false] 90)).heap.size=w.heap.size+1:=by simp
 have J:Hid (∀P,P=w.alloc (.cells #[.slice none 0 0,.bool false] 90)->Calls Tryz.prog 47 #[.pointer (some ⟨bs,0,none⟩)] P λe a=>e=.returned (.tuple #[])/\zu a bs 1 q/\a.heap[w.heap.size]? =some (.cells #[.slice none 0 0,.bool false] 90 (0,0))/\za (λk=>k=bs) w a/\w.heap.size<a.heap.size):=by rintro P rfl;refine(qc (v.kept t id)).mono ?_;rintro e a ⟨rfl,g,h2⟩;have ad:=h2.size;exact⟨rfl,g,(h2.block _ (by omega) (by omega)).trans A,(t.mono fE).trans h2 iL,by omega⟩
 have y:Hid (∀(a:World),zu a bs 1 q->a.heap[w.heap.size]? =some (.cells #[.slice none 0 0,.bool false] 90 (0,0))->za (λk=>k=bs) w a->∀tmps:Array Value,tmps.getD 10 undef=.pointer (some ⟨w.heap.size,0,none⟩)->tmps.getD 11 undef=.int .i64 o->bodyPostD Tryz.prog Tryz.f45 (λe w'=>e=.returned (.tuple #[.agg #[.slice none 0 0,.bool false],.int .i64 o])/\zu w' bs 0 q/\za (λk=>k=bs) w w') .ret {tmps:=tmps,defers:=[{target:=.fn (.func 48) #[],args:=#[.pointer (some ⟨bs,0,none⟩)] }]} ((a.setCell ⟨w.heap.size,0,none⟩ (.slice none 0 0)).setCell ⟨w.heap.size,1,none⟩ (.bool false))):=by
  intro a d b h tmps H z;have Q:=(lT b);have B:=heap_setCell_same a w.heap.size 0 _ _ (.slice none 0 0) b;have E:=heap_setCell_same _ w.heap.size 1 _ _ (.bool false) B;have x:za (λj=>j=w.heap.size) a ((a.setCell ⟨w.heap.size,0,none⟩ (.slice none 0 0)).setCell ⟨w.heap.size,1,none⟩ (.bool false)):=(za.setCell (S:=λj=>j=w.heap.size) a ⟨w.heap.size,0,none⟩ _ rfl).trans (za.setCell (S:=λj=>j=w.heap.size) _ ⟨w.heap.size,1,none⟩ _ rfl) iL;generalize ((a.setCell ⟨w.heap.size,0,none⟩ (.slice none 0 0)).setCell ⟨w.heap.size,1,none⟩ (.bool false))=ae at*;refine leaves_cons (f:= 48) (args:=#[.pointer (some ⟨bs,0,none⟩)]) (by simp) (by simp [go_sem]) ?_;refine(qa (d.kept x (by omega))).mono ?_;rintro e u' W ⟨rfl,rfl,C,s⟩;have F:=(s.block _ (by have:=x.size;omega) (by omega)).trans E;refine⟨_,qJ rfl _ _ _ _ _ _ _ H F Tryz.underlying90 rfl (by kernel_rfl),?_,C,?_⟩;.rw [z];rfl
  .exact(h.trans x (λj ab=>.inr (by omega))).trans s iL
 rcases K with⟨g,h2⟩|⟨l|⟨l,r⟩,g,h2⟩|⟨l|⟨l,r⟩,g|⟨g,G⟩,h2|⟨h2,D⟩|⟨h2,D,O⟩⟩|⟨l|⟨l,r⟩,g|⟨g,G⟩,h2,D,O⟩;all_goals rcases I with⟨i,rfl⟩|⟨i,rfl,rfl⟩
 all_goals first
  |exact absurd rfl i
  |exact absurd i (by decide)
  |(clear i
    go_enter_defers Tryz.func45,Tryz.ntmps45
    go_wp2_with (first
     |(go_at_call 47;refine(J _ rfl).mono ?_;rintro e a ⟨rfl,d,b,h,M⟩;have V:a.cell? ⟨w.heap.size,0,none⟩=some (.slice none 0 0):=(cR b rfl);have Y:a.cell? ⟨w.heap.size,1,none⟩=some (.bool false):=(cR b rfl);have X:=aa a w.heap.size 0 _ _ b;have T:=aa a w.heap.size 1 _ _ b;have L:=d.c2;try simp only [Option.map_none] at L;change Hid _ at d b h)
     |(go_at_call 49;refine(keys.ql _ a (by assumption)).mono ?_;rintro e N ⟨rfl,u⟩;rw [u];clear u N))
    exact y a d b h _ rfl rfl)
theorem KQ(w:World)(bs bd:Nat)(S:Nat->Prop)(D:Dk)(ae:zu w bs 0 (some bd))(x:zg w bd S D)(af:¬S bs)(aI:0<=D.reads)(aY:D.reads<=4611686018427350000)(u aA:Nat)(ao:qT (D.look 1) u aA)(p k:ByteArray)(n m:Int)(aN:p.size<=maxLen)(Y:k.size<=maxLen)(ax:n<=9223372036854775807)(ak:jB p k n m 0)(J:List En)(M:List Nat)(hF:qY (λj=>D.look (j:Nat)) u J M)(az:M.length<=979)(hbs:∀j∈M,21<=j)(X:∀a1∈J,a1.pl.key.size<=9223372036854775807)(L:List En)(aF:YG p k n J=L):
 Calls Tryz.prog 45 #[.pointer (some ⟨bs,0,none⟩),.string p,.string k,.int .i64 n,.int .i64 m] w λe w'=>(∃a c,e=.returned (.tuple #[.agg #[.slice a (L.take m.toNat).length c,.bool (decide (m.toNat<L.length))],.int .i64 0])/\w'.ownsRow 0 94 4 (.slice a (L.take m.toNat).length c) (L.take m.toNat).length (vk (L.take m.toNat))/\∀j,(Value.slice a (L.take m.toNat).length c).ownBlock=some j->w.heap.size<=j)/\zu w' bs 0 (some bd)/\(∃r:Int,D.reads<=r/\r<=D.reads+1000/\zg w' bd S {D with reads:=r })/\za (λi=>i=bd\/i=bs) w w':=by
 have aK:Hid (zg w bd S D):=x;have aD:bs≠bd:=λe=>af (by rw [e];exact x.bdS);have ar:Hid (∀j,S j->j≠bs):=λj l e=>af (by rw [<-e];exact l);have aV:=x.lt bd x.bdS;have ay:Hid _:=x.lt;have aM:=ae.lt;have av:Hid (0<=n/\1<=m/\m<=50):=by cases ak with|ok _ _ h2 am aQ=>exact⟨by omega,by omega,by omega⟩
 obtain⟨T,Z⟩:∃T,T=L.take m.toNat:=⟨_,rfl⟩;obtain⟨q,ab⟩:∃b,b=decide (m.toNat<L.length):=⟨_,rfl⟩;rw [<-Z,<-ab]
 have ap:Hid (∀w',zu w' bs 1 (some bd)->zg w' bd S D->Calls Tryz.prog 67 #[.pointer (some ⟨bs,0,none⟩),.string p,.agg #[.string (x8 p k n).key,.int .i64 (x8 p k n).num],.int .i64 m] w' λe A=>(∃a c,e=.returned (.agg #[.slice a T.length c,.bool q])/\A.ownsRow 0 94 4 (.slice a T.length c) T.length (vk T)/\∀j,(Value.slice a T.length c).ownBlock=some j->w'.heap.size<=j)/\(∃r:Int,D.reads<=r/\r<=D.reads+1000/\zg A bd S {D with reads:=r })/\za (λi=>i=bd) w' A):=λw' t h2=>by have am:=av.out;have:=Ux w' bs bd S D 1 t h2 af aI (by omega) u aA ao p (by unfold maxLen at aN;omega) (x8 p k n) m.toNat (by omega) J M hF az hbs X L aF;rw [show ((m.toNat:Nat):Int)=m from by omega,<-Z,<-ab] at this;exact this
 change Hid _ at ae;clear x ao hF hbs X aF Z ab;have V:Hid (za (λ_=>False) w (w.alloc (.cells #[.slice none 0 0,.bool false] 90))):=za.alloc _ _ _;have aj:Hid ((w.alloc (.cells #[.slice none 0 0,.bool false] 90)).heap[w.heap.size]? =some (.cells #[.slice none 0 0,.bool false] 90 (0,0))):=ac w _;have aT:(w.alloc (.cells #[.slice none 0 0,.bool false] 90)).heap.size=w.heap.size+1:=by simp
 have aJ:Hid (∀aL,aL=w.alloc (.cells #[.slice none 0 0,.bool false] 90)->Calls Tryz.prog 47 #[.pointer (some ⟨bs,0,none⟩)] aL λe d=>e=.returned (.tuple #[])/\zu d bs 1 (some bd)/\zg d bd S D/\d.heap[w.heap.size]? =some (.cells #[.slice none 0 0,.bool false] 90 (0,0))/\za (λk=>k=bs) w d/\w.heap.size<d.heap.size):=by rintro aL rfl;refine(qc (ae.kept V id)).mono ?_;rintro e d ⟨rfl,t,h2⟩;have a6:=h2.size;have Y:=(V.mono (S':=λk=>k=bs) fE).trans h2 iL;exact⟨rfl,t,aK.kept Y ar,(h2.block _ (by omega) (by omega)).trans aj,Y,by omega⟩
 have au:=av.1
 cases ak with
 |ok ag t h2 am aQ=>
 rcases ag with ag|⟨ag,aU⟩<;>rcases t with t|⟨t,aW⟩
 all_goals
  go_enter_defers Tryz.func45,Tryz.ntmps45
  go_wp2_with (first
   |(go_at_call 47;refine(aJ _ rfl).mono ?_;rintro e d ⟨rfl,G,W,R,U,aO⟩;have O:Hid (zu d bs 1 (some bd)):=G;have aH:Hid (zg d bd S D):=W;have aG:Hid (d.heap[w.heap.size]? =some (.cells #[.slice none 0 0,.bool false] 90 (0,0))):=R;have aq:Hid (za (λk=>k=bs) w d):=U;have a4:d.cell? ⟨bs,2,none⟩=some (.pointer (some ⟨bd,0,none⟩)):=G.c2;clear G W R U)
   |(go_at_call 49;refine(keys.ql _ d (by assumption)).mono ?_;rintro e aP ⟨rfl,Q⟩;rw [Q];clear Q aP)
   |(go_at_call 68;refine(KP d p k n au ax).mono ?_;rintro e K ⟨rfl,C⟩;have s:Hid (za (λ_=>False) d K):=C;have aX:=C.size;clear C)
   |(go_at_call 67;refine(ap K (O.kept s id) (aH.kept s nF)).mono ?_;rintro e g ⟨⟨B,H,rfl,I,P⟩,⟨aE,ah,ad,N⟩,F⟩;have y:Hid (∀j,(Value.slice B T.length H).ownBlock=some j->K.heap.size<=j):=P;have ai:Hid (zg g bd S {D with reads:=aE }):=N;have E:Hid (za (λi=>i=bd) K g):=F;have o:g.heap[w.heap.size]? =some (.cells #[.slice none 0 0,.bool false] 90 (0,0)):=(F.block _ (by omega) (by omega)).trans ((s.block _ (by omega) id).trans aG);have a0:g.cell? ⟨w.heap.size,0,none⟩=some (.slice none 0 0):=(cR o rfl);have a5:g.cell? ⟨w.heap.size,1,none⟩=some (.bool false):=(cR o rfl);have a2:=aa g w.heap.size 0 _ _ o;have aZ:=aa g w.heap.size 1 _ _ o;change Hid _ at I o;clear P N F))
  have aw:=heap_setCell_same g w.heap.size 0 _ _ (.slice B T.length H) o.out;have an:=heap_setCell_same _ w.heap.size 1 _ _ (.bool q) aw;have z:za (λj=>j=w.heap.size) g ((g.setCell ⟨w.heap.size,0,none⟩ (.slice B T.length H)).setCell ⟨w.heap.size,1,none⟩ (.bool q)):=(za.setCell (S:=λj=>j=w.heap.size) g ⟨w.heap.size,0,none⟩ _ rfl).trans (za.setCell (S:=λj=>j=w.heap.size) _ ⟨w.heap.size,1,none⟩ _ rfl) iL;generalize ((g.setCell ⟨w.heap.size,0,none⟩ (.slice B T.length H)).setCell ⟨w.heap.size,1,none⟩ (.bool q))=a7 at*;have aR:=E.size;have aS:=z.size;refine leaves_cons (f:= 48) (args:=#[.pointer (some ⟨bs,0,none⟩)]) (by simp) (by simp [go_sem]) ?_;refine(qa (((O.kept s id).kept E aD).kept z (by omega))).mono ?_;rintro e u' a3 ⟨rfl,rfl,al,v⟩;have aC:=(v.block _ (by omega) (by omega)).trans an;refine⟨_,qJ rfl _ _ _ _ _ _ _ rfl aC Tryz.underlying90 rfl (by kernel_rfl),⟨B,H,rfl,v.owns (z.owns I (λj l aB=>by have:=y.out j l;omega)) (λj l aB=>by have:=y.out j l;omega),λj l=>by have:=y.out j l;omega⟩,al,⟨aE,ah,ad,(ai.kept z (λj l aB=>by have:=ay.out j l;omega)).kept v ar⟩,?_⟩;exact((((aq.mono (S':=λi=>i=bd\/i=bs) (λ_ h=>.inr h)).trans s fE).trans E (λ_ h=>.inl (.inl h))).trans z (λj l=>.inr (by omega))).trans v (λ_ h=>.inl (.inr h))
end prog
namespace prog
open keys (zh zd zx zq)
theorem fl{i:Array Oper}{rest:List Oper}{m:Oper}{a:Act}{w:World}{Q:Exit->Act->World->Prop}(o:m.guard=none)(s G:Operand)(E:m.op=.call {callee:=.builtin .append,args:=#[s,G],argTypes:=#[156, 156] })
 (d:Option Addr) (n e:Nat) (j:List Value) (t:a.eval s=.slice d n e) (k:w.ownsRow 0 160 129 (.slice d n e) n j) (b:Nat) (f:List Value) (v:a.eval G=.slice (some ⟨b,0,none⟩) 1 1) (B:w.heap[b]? =some (.cells f.toArray 160 (0,0))) (C:f.length=129) (x:∀u∈f,u.oneCell'=true) (H:n<=1000)
 (h:∀g c w',w'.ownsRow 0 160 129 (.slice (some ⟨g,0,none⟩) (n+1) c) (n+1) (j++f)->w.grownBy w' (Value.slice d n e).ownBlock->((Value.slice d n e).ownBlock=some g\/g=w.heap.size)->wpList Tryz.prog i Q rest (a.put m.dst (.slice (some ⟨g,0,none⟩) (n+1) c)) w'):wpList Tryz.prog i Q (m::rest) a w:=by
 refine md o λI D=>?_;obtain⟨y,l,q,r,p⟩:=eZ Tryz.infoCw;obtain⟨g,c,w',A,h2,z,F,_⟩:=run_append_lies (P:=Tryz.prog) (w:=w) 156 m.type 0 160 y _ 129 136 Tryz.underlying156 l q r p (congrArg (· +1) zG.1) (by omega) (.slice d n e) n j k ⟨b,0,none⟩ 1 1 f (by rw [C]) (World.news_of_block B) x (by omega) (by unfold maxLen;omega) (by omega) (aj _) _ rfl;unfold Oper.wp execOp;simp only [E,resolve,invoke,builtin,ie,iI,eD,li,aO,ig,t,v,A];exact D _ _ (h g c w' h2 z F)
structure YJ (W wr:World) (bd:Nat) (S:Nat->Prop) (D:Dk) (ws:List (Nat×List Value)) (k:Nat) (a:Option Addr) (c:Nat):Prop where
 disk:zg wr bd S {D with reads:=D.reads+k}
 row:wr.ownsRow 0 160 129 (.slice a k c) k ((ws.take k).map zM).flatten
 fresh:∀j,(Value.slice a k c).ownBlock=some j->W.heap.size<=j
 kept:za (λj=>j=bd) W wr
theorem YJ.next{w wr b m:World}{bd:Nat}{S:Nat->Prop}{D:Dk}{ws:List (Nat×List Value)}{k:Nat}{a:Option Addr}{c:Nat}(h:YJ w wr bd S D ws k a c)(v:k<ws.length)(u:∀j,S j->j<w.heap.size)(s:zg b bd S {D with reads:=D.reads+k+1 })(k3:za (λj=>j=bd) wr b)(q:Obj){g o:Nat}
 (n:m.ownsRow 0 160 129 (.slice (some ⟨g,0,none⟩) (k+1) o) (k+1) (((ws.take k).map zM).flatten++zM ws[k])) (f:(b.alloc q).grownBy m (Value.slice a k c).ownBlock) (p:(Value.slice a k c).ownBlock=some g\/g=(b.alloc q).heap.size):YJ w m bd S D ws (k+1) (some ⟨g,0,none⟩) o:=by
 have t:za (λ_=>False) b (b.alloc q):=za.alloc _ _ _;have r:=za.grown f h.fresh;have i:=(t.mono fE).trans r iL;refine⟨?_,?_,λj d=>?_,(h.kept.trans k3 iL).trans i (λj d=>.inr d)⟩
 .have:=s.kept i (λj d x=>by have:=u j d;omega);rw [show D.reads+((k+1:Nat):Int)=D.reads+k+1 from by omega];exact this
 .rw [ao v,eh,eV];simpa using n
 .have e:g=j:=by simpa [Value.ownBlock] using d
  subst e;rcases p with l|l;.exact h.fresh g l
  .have h2:=h.kept.size;have y:=k3.size;simp at l;omega
theorem YJ.rows{t wr:World}{bd:Nat}{S:Nat->Prop}{D:Dk}{ws:List (Nat×List Value)}{a:Option Addr}{c:Nat}(h:YJ t wr bd S D ws ws.length a c)(e:∀p∈ws,zS p.2/\p.1<65536)(v:ws.length<=18):uX wr (λj=>t.heap.size<=j/\j<wr.heap.size) a ws:=by
 refine⟨e,?_,by omega⟩;rcases mq ws.length with i|i;.exact .inl (aY i)
 .have d:=h.row;rw [eN] at d;rcases d.2 with⟨_,u⟩|⟨g,q,s,o,_,l,_⟩;.omega
  .cases o;have f:=(lT l);refine .inr ⟨g,rfl,⟨h.fresh g rfl,f⟩,f,λk r=>?_⟩;rw [show ws.length=(ws.map zM).length from by simp] at d;have:=ym d (λb m=>by obtain⟨p,n,rfl⟩:=au.1 m;simp [zM,(e p n).1.1]) k (by simpa using r);simpa [zM] using this
section
attribute [local go_sem ↓] cW cX
attribute [local go_sem] dQ dR
theorem X1(w:World)(bd:Nat)(S:Nat->Prop)(D:Dk)(h:zg w bd S D)(K:zD D.fuse)(af:(D.fuse==0)=false)(an:0<=D.reads)(aU:D.reads<=4611686018427380000)(ws:List (Nat×List Value))(aY:0<ws.length)(ae:ws.length<=18)(o:∀p∈ws,zS p.2/\p.1<65536)(ao:D.flush.look 0=zl (zK ws))(G:∀i (aX:i<ws.length),D.flush.look (3+(i:Int))=ws[i].2):
 Calls Tryz.prog 55 #[.pointer (some ⟨bd,0,none⟩)] w λe w'=>e=.returned (.bool (qL {D.flush with reads:=D.reads+1+(ws.length:Int)} ws).1)/\qZ w w' bd S (qL {D.flush with reads:=D.reads+1+(ws.length:Int)} ws).2:=by
 obtain⟨J,R,aS⟩:∃J:List Value,J=zW/\∀w,(zeroValue 154).run Tryz.prog w=.ok (.agg J.toArray) w:=⟨zW,rfl,zX Tryz.infoPage⟩;have am:Hid (zS J):=by rw [R];exact zG
 clear R;have az:Hid _:=zY Tryz.infoPage;have s:(zK ws).Ok:=fc (by omega);have l:(zK ws).items.length=ws.length:=by simp [zK]
 have aL:Hid _:=h;have F:Hid _:=yc s;have r:D.flush.reads=D.reads:=by unfold Dk.flush;split<;>rfl
 have Q:D.flush.ps=[]:=by unfold Dk.flush;rw [aw (by simpa using af)]
 change Hid _ at l af ao G o r Q s;clear h;go_enter Tryz.func55,Tryz.ntmps55
 go_wp2_with (first
  |(go_at_call 40;refine(yU _ bd S D aL K).mono ?_;rintro e aO ⟨rfl,⟨m,aa,x⟩,L⟩;rw [af.out];have E:Hid (zg aO bd m D.flush):=aa;change Hid _ at x L;clear aa)
  |(go_at_call 81;refine(jk _ bd m D.flush E 0 (by constructor<;>omega) (by rw [r.out];exact an) (by rw [r.out];omega)).mono ?_;rintro e b ⟨rfl,P,C⟩;rw [ao.out];have y:Hid (zg b bd m {D.flush with reads:=D.flush.reads+1 }):=P;change Hid _ at C;clear P)
  |(show wpList _ _ _ ({dst:=none,op:=.store _ (.tmp 3) (.tmp 10),type:=_,pos:=_,after:=_,guard:=_}::_) _ _;refine zi rfl 154 (.tmp 3) (.tmp 10) rfl _ _ (zl (zK ws)) (by simp) rfl rfl (by rw [F.1];exact az) (by rw [aq,am.1,F.1]) F.2 ?_;have Y:Hid (qP (b.alloc (.cells (zl (zK ws)).toArray 154)) b.heap.size (zK ws)):=⟨⟨ac b _⟩,s⟩)
  |(go_at_call 82;refine(vx _ _ _ Y).mono ?_;rintro e z ⟨rfl,O⟩;rw [O,l.out];clear O z))
 have ay:Hid (zg (b.alloc (.cells (zl (zK ws)).toArray 154)) bd m {D.flush with reads:=D.flush.reads+1 }):=y.kept (za.alloc (λ_=>False) b _) nF;have aD:Hid (za S w (b.alloc (.cells (zl (zK ws)).toArray 154))):=(L.trans C (λk ak=>.inl (x k (by rw [ak];exact E.bdS)))).trans (za.alloc _ _ _) iL;have T:Hid _:=y.lt;have aI:=y.lt bd y.bdS;have aR:(b.alloc (.cells (zl (zK ws)).toArray 154)).heap.size=b.heap.size+1:=by simp
 have aT:=C.size;generalize (b.alloc (.cells (zl (zK ws)).toArray 154))=aJ at*;generalize b.heap.size=I at*;go_loopw [4,14] (λaW t wr=>∃(k:Nat) (a:Option Addr) (c:Nat),k<=ws.length/\t=.int .i64 k/\aW=.slice a k c/\YJ aJ wr bd m {D.flush with reads:=D.flush.reads+1} ws k a c) (λ_ t _=>ws.length-(intOf t).toNat)
 case atStart=>
  refine⟨0,none,0,aj _,rfl,rfl,?_,aV _ 0 160 129,λj f=>(by cases f),za.refl _ _⟩;have:=ay.out;simpa using this
 case round=>
  obtain⟨k,a,c,ak,rfl,rfl,hfin⟩:=hrel;change Hid _ at hfin;by_cases d:k<ws.length
  .have N:Hid _:=Y.kept hfin.kept (λab=>by have e:=ab;omega);have aA:Hid (QJ I (zK ws).kind k=.slice (some ⟨I,4+k*2,none⟩) 2 (124-k*2)):=rfl
   have aB:Hid (numOf (((zK ws).bytes.drop (4+k*2)).take 2)=ws[k].1):=by
    have A:=s.item k (by rw [l.out];exact d);have h2:(zK ws).items[k]'(by rw [l.out];exact d)=bytesOf 2 ws[k].1:=by simp [zK]
    rw [h2] at A;have ad:numOf (((zK ws).bytes.drop (4+k*2)).take 2)=numOf (bytesOf 2 ws[k].1):=congrArg numOf A;show _=_;rw [ad];exact yn 2 _ (by have:=(o _ (ai d)).2;omega)
   have ap:Hid (Dk.look {D.flush with reads:=D.flush.reads+1+(k:Int)} (3+(k:Int))=ws[k].2):=G.out k d;have U:ws[k].2.length=128:=(o _ (ai d)).1.1;have ah:Hid (zS ws[k].2):=(o _ (ai d)).1;have aE:ws[k].1<65536:=(o _ (ai d)).2;have au:Hid (∀(b z:World) (aF:Obj) (g B:Nat),zg b bd m {D.flush with reads:=D.flush.reads+1+(k:Int)+1}->za (λj=>j=bd) wr b->z.ownsRow 0 160 129 (.slice (some ⟨g,0,none⟩) (k+1) B) (k+1) (((ws.take k).map zM).flatten++.int .i64 (ws[k].1:Int)::ws[k].2)->(b.alloc aF).grownBy z (Value.slice a k c).ownBlock->((Value.slice a k c).ownBlock=some g\/g=(b.alloc aF).heap.size)->YJ aJ z bd m {D.flush with reads:=D.flush.reads+1} ws (k+1) (some ⟨g,0,none⟩) B):=λb z aF g B A h2 ad aP aK=>hfin.next d (λj f=>by have:=T.out j f;omega) A h2 aF ad aP aK;generalize aG:ws[k]=q at*;obtain⟨al,aM⟩:=q;clear aG;simp only at U aE
   go_wp2_with (first
    |(go_at_call 84;refine(QM _ I (zK ws) N k (by rw [l.out];exact d) (by show 1<=zk 1;decide)).mono ?_;rintro e n ⟨rfl,u⟩;rw [u,aA.out];clear u n)
    |(go_at_call 83;refine(yx _ I _ _ N.bs (4+k*2) 2 (124-k*2) al (by rw [s.len];omega) (by omega) aB (by omega)).mono ?_;rintro e n ⟨rfl,u⟩;rw [u];clear u n)
    |(go_at_call 81;refine(jk _ bd m _ hfin.disk (3+(k:Int)) (by constructor<;>omega) (by show 0<=D.flush.reads+1+(k:Int);rw [r.out];omega) (by show D.flush.reads+1+(k:Int)<=_;rw [r.out];omega)).mono ?_;rintro e n ⟨rfl,M,V⟩;rw [ap.out];have av:Hid (zg n bd m {D.flush with reads:=D.flush.reads+1+(k:Int)+1 }):=M;have Z:Hid (za (λj=>j=bd) wr n):=V;clear M V)
    |(refine fl rfl (.tmp 17) (.tmp 26) rfl a k c ((ws.take k).map zM).flatten (by rfl) (by exact(Z.trans (za.alloc (λ_=>False) n _) fE).owns hfin.row (λj f ab=>by have A:=hfin.fresh j f;omega)) n.heap.size (.int .i64 (al:Int)::aM) (by rfl) (ac n _) (by simp [U]) (aQ.2 ⟨rfl,ah.2⟩) (by omega) ?_;intro g B aN H v X;have aH:Hid (YJ aJ aN bd m {D.flush with reads:=D.flush.reads+1} ws (k+1) (some ⟨g,0,none⟩) B):=au.out _ _ _ _ _ av Z H v X;clear H v X))
   go_roundw
   case rel=>exact⟨k+1,some ⟨g,0,none⟩,B,by omega,by go_num,rfl,aH⟩
   case measure=>simp [intOf];omega
  .have ax:k=ws.length:=by omega
   subst ax;have aC:Hid _:=hfin.rows o ae;go_wp2_with (go_at_call 85;refine(bv wr bd m _ _ hfin.disk a c ws aC (λj f ab=>by have A:=T.out j f;omega) (λj f=>f.2) (jw K) (by show D.flush.ps.length<=_;rw [Q.out];simp)).mono ?_;rintro e n ⟨rfl,W⟩;change Hid _ at W);go_ret;have ag:=aD.trans hfin.kept (λj f=>.inl (x j (by rw [show j=bd from f];exact E.bdS)));have ar:=qZ.trans (D1:=D) (λj f=>.inl (x j f)) ag W.out;simp only [r.out] at ar ⊢;exact⟨rfl,ar⟩
end
end prog
end Go.Proofs.YtcoengihaobddaaGreatDoor
