/- Part 6 of 50 of a proof: Ins2, Ins3, Ins4, Ins5, Ins6, Ins7 -/
import Derived.Test.YtcoengihaobddaaGreatDoorJe05
set_option maxHeartbeats 8000000
set_option linter.unusedVariables false
set_option linter.unusedSimpArgs false
set_option maxRecDepth 8000
namespace Go.Proofs.YtcoengihaobddaaGreatDoor
namespace prog
open Go.ChangeShapes Go.WideShapes Go.ChangeAt Go.RowKit disk ref
open keys (zg zd zq zl)
variable {N:Nat}{m:List UInt8}
theorem JP(A B b:List Value)(v:List Value)(a:List Value)(g:b.length=v.length+B.length):
 let cur:=A++b++a;let cur1:=cur.take A.length++v++cur.drop (A.length+v.length)
 cur1.take (A.length+v.length)++B++cur1.drop (A.length+v.length+B.length)=A++v++B++a:=by
 simp only;have e:(A++b++a).take A.length=A:=by rw [an,eC (aC _),eX]
 have c:(A++b++a).drop (A.length+v.length)=b.drop v.length++a:=by rw [an,<-eI,iq (aC _),lA,aH,iq (by omega)]
 rw [e,c];have f:(A++v).length=A.length+v.length:=ah;rw [<-f,eC (aC _),eX,<-eI,iq (aC _),lA,aH];have d:(b.drop v.length).length=B.length:=by rw [aU];omega
 rw [<-d,iq (aC _),lA,aH]
section
attribute [local go_sem ↓] Gt DS
theorem ZX(w:World)(g n cap i:Nat)(a:List En)(az:a.length=n)(h:w.ownsRow 0 109 5 (.slice (some ⟨g,0,none⟩) n cap) n (zj a))(s:Nat)(aO:s≠g)(e:En)(ad:w.heap[s]? =some (.cells (qE e).toArray 109 (0,0)))(aT:n<=1000)(aX:i<n)(aB:cap<n+1)(aM:n<=cap):
 Calls Tryz.prog 177 #[.slice (some ⟨g,0,none⟩) n cap,.int .i64 i,.slice (some ⟨s,0,none⟩) 1 1] w λr w'=>∃ag ap,r=.returned (.slice (some ⟨ag,0,none⟩) (n+1) ap)/\gJ w w' (some ⟨g,0,none⟩) n cap (a.take i++e::a.drop i) ag ap:=by
 have am:cap=n:=by omega
 subst am
 obtain⟨l,y,Q,U⟩:∃l,w.heap[g]? =some (.cells l 109 (0,0))/\l.size=cap*5/\l.toList.take (cap*5)=zj a:=by
  rcases h.2 with⟨aI,_⟩|⟨ag,aG,l,aF,_,y,_,_,aJ,aD⟩;.cases aI
  .cases aF;exact⟨l,y,aJ,aD⟩
 have M:l.toList=zj (a.take i)++zj (a.drop i):=by rw [<-yf,aA,<-U,ao (by rw [iC,Q];exact aC _)]
 have f:(zj (a.take i)).length=i*5:=by rw [yD,ay,eE (by omega)]
 have c:(zj (a.drop i)).length=(cap-i)*5:=by rw [yD,aU,az]
 obtain⟨av,S,T,X,D⟩:=info_parts Tryz.infoEntry
 have O:∀j v,(zj (a.take i)++zj (a.drop i))[j]? =some v->w.cell? ⟨g,j,none⟩=some v:=λj v m=>by rw [ak w g j _ _ _ y,<-lm,M];exact m
 have G:(Builtin.firstCells av.size i (.slice (some ⟨g,0,none⟩) i cap)).run Tryz.prog w.drew=.ok (zj (a.take i)).toArray w.drew:=by
  rw [X]
  exact run_firstCells_some w.drew 5 i ⟨g,0,none⟩ i cap (zj (a.take i)) (by rw [f]) (λj v m=>by
   rw [Addr.add_lit,aV];show w.cell? ⟨g,j,none⟩=some v
   exact O j v (by rw [eW (aW.1 m).1];exact m))
 have Y:i+(cap+1-i)=cap+1:=by omega
 have W:(Wb #[.slice (some ⟨g,0,none⟩) i cap,.int .i64 ((cap+1-i:Nat):Int)]).run Tryz.prog w=_:=
  Lib.run_append_grow_zeros w 207 3 207 109 av _ .i64 .i64 Tryz.underlying207 Tryz.underlying3 S T (some ⟨g,0,none⟩) i cap (zj (a.take i)) G (cap+1-i) (by omega) (by omega) (by omega) (by omega) (by rw [D];omega) (by rw [D,Y];exact growslice_fits (by omega) (by omega))
 rw [Y] at W;have aN:=grownCap_ge w (cap+1) cap 109;have aa:=grownCap_le_maxLen w (cap+1) cap 109 (by unfold maxLen;omega);generalize grownCap w (cap+1) cap 109=F at*;have L:∀k,(Builtin.zeroCells (Value.agg #[.string ⟨#[]⟩,.int .i64 0,.bool false,.int .i64 0,.int .i64 0]).cells k).toList.length=k*5:=λk=>by simp [Builtin.zeroCells,Value.cells]
 have E:=L (cap+1-i);have C:=L (F-(cap+1));clear L G S T X D h U;generalize Builtin.zeroCells (Value.agg #[.string ⟨#[]⟩,.int .i64 0,.bool false,.int .i64 0,.int .i64 0]).cells (cap+1-i)=H at*;generalize Builtin.zeroCells (Value.agg #[.string ⟨#[]⟩,.int .i64 0,.bool false,.int .i64 0,.int .i64 0]).cells (F-(cap+1))=t at*;have z:((zj (a.take i)).toArray++H++t).toList=zj (a.take i)++H.toList++t.toList:=by simp
 have R:((zj (a.take i)).toArray++H++t).size=F*5:=by rw [<-iC,z,ah,ah,f,E,C];omega
 generalize (zj (a.take i)).toArray++H++t=af at*;have d:(qE e).length=5:=rfl;have u:=JP (zj (a.take i)) (zj (a.drop i)) H.toList (qE e) t.toList (by rw [E,c,d];omega);simp only at u;rw [<-z,f,c,d] at u;have au:s<w.heap.size:=(lT ad);have aq:g<w.heap.size:=(lT y);have J:(w.drew.alloc (.cells af 109)).heap[w.heap.size]? =some (.cells af 109 (0,0)):=heap_alloc_new w.drew _;have q:Kept (λ_=>False) w (w.drew.alloc (.cells af 109)):=Kept.trans (b:=w.drew) (Kept.drew _ w) (Kept.alloc _ _ _) iL;generalize w.drew.alloc (.cells af 109)=p at*;have ab:p.heap[s]? =_:=(q.block s au id).trans ad
 have aj:=bQ p w.heap.size (i*5) (cap+1-i) (F-i) ⟨s,0,none⟩ 1 1 af 109 (qE e) J (by rw [show Nat.min 1 (cap+1-i)=1 from by simp only [Nat.min_def];split<;>omega];rfl)
  (λj v m=>by
   rw [Addr.add_lit,aV,ak p s j _ _ _ ab]
   simpa using m) (by rw [R,d];omega) (KY _)
 rw [d] at aj;generalize ac:af.toList.take (i*5)++qE e++af.toList.drop (i*5+5)=x at*;have B:x.length=F*5:=by rw [<-ac];simp only [ah,ay,aU,iC,d];omega
 have K:(p.setRow w.heap.size x.toArray).heap[w.heap.size]? =some (.cells x.toArray 109 (0,0)):=setRow_heap p w.heap.size _ _ 109 _ J;have I:Kept (λj=>j=w.heap.size) p (p.setRow w.heap.size x.toArray):=⟨rfl,rfl,rfl,by simp,λk _ al=>setRow_other p w.heap.size k _ (λe=>al (by rw [e]))⟩;generalize p.setRow w.heap.size x.toArray=o at*;have Z:o.heap[g]? =_:=(I.block g (by have:=q.size;omega) (by omega)).trans ((q.block g aq id).trans y)
 have A:=bQ o.drew w.heap.size (i*5+5) (cap-i) (F-(i+1)) ⟨g,i*5,none⟩ (cap-i) (cap-i) x.toArray 109 (zj (a.drop i)) K (by rw [c];rw [show Nat.min (cap-i) (cap-i)=cap-i from by simp])
  (λj v m=>by
   rw [Addr.add_lit];show o.cell? ⟨g,i*5+j,none⟩=some v;rw [ak o g (i*5+j) _ _ _ Z,<-lm,M,ia (by omega),f,iy]
   exact m) (by rw [aw,B,c];omega) (vv _)
 rw [i6,c,u] at A;have V:=setRow_heap o.drew w.heap.size _ ((zj (a.take i)++qE e++zj (a.drop i)++t.toList).toArray) 109 _ K;have N:Kept (λj=>j=w.heap.size) o (o.drew.setRow w.heap.size ((zj (a.take i)++qE e++zj (a.drop i)++t.toList).toArray)):=⟨rfl,rfl,rfl,by simp,λk _ al=>setRow_other o.drew w.heap.size k _ (λe=>al (by rw [e]))⟩;generalize o.drew.setRow w.heap.size _=aE at*
 have aH:Hid (gJ w aE (some ⟨g,0,none⟩) cap cap (a.take i++e::a.drop i) w.heap.size F):=by
  have ar:(a.take i++e::a.drop i).length=cap+1:=by simp only [ah,ay,ae,aU];omega
  have ax:zj (a.take i++e::a.drop i)=zj (a.take i)++qE e++zj (a.drop i):=by rw [yf,jx,an]
  refine⟨⟨by rw [yD],.inr ⟨w.heap.size,F,_,rfl,ai _,V,by omega,aa,?_,?_⟩⟩,.inr (aC _),(((q.mono fE).trans I (λj m=>.inr (by omega))).trans N (λj m=>.inr (by omega)))⟩;.simp only [aw,ah,f,c,d,C];omega
  .rw [i6,ax,ar,eC (by simp only [ah,f,c,d];omega),ao (by simp only [ah,f,c,d];omega)]
 unfold maxLen at aa;clear M u K I J q ac B f c Q y ad ab O z R V N Z E C az;have aP:(i:Int)<(cap:Int):=by omega
 have aK:¬(i:Int)=(cap:Int):=by omega
 have aL:(cap:Int)<(cap:Int)+1:=by omega
 have P:((cap+1-i:Nat):Int)=(cap:Int)+1-(i:Int):=by omega
 rw [P] at W;have aR:¬cap=i:=by omega
 have aS:¬F=i+1:=by omega
 have aQ:¬F=i:=by omega
 rw [show i*5+5=(i+1)*5 from by omega] at A;clear P;go_enter Tryz.func177,Tryz.ntmps177;go_wp2
 go_region
 go_wp2;go_ret;exact⟨w.heap.size,F,rfl,aH.out⟩
end
theorem fi(w:World)(a:Option Addr)(n cap i:Nat)(b:List En)(q:b.length=n)(h:w.ownsRow 0 109 5 (.slice a n cap) n (zj b))(c:Nat)(x:(Value.slice a n cap).ownBlock≠some c)(e:En)(p:w.heap[c]? =some (.cells (qE e).toArray 109 (0,0)))(l:n<=1000)(D:i<=n):
 Calls Tryz.prog 177 #[.slice a n cap,.int .i64 i,.slice (some ⟨c,0,none⟩) 1 1] w λr w'=>∃d y,r=.returned (.slice (some ⟨d,0,none⟩) (n+1) y)/\gJ w w' a n cap (b.take i++e::b.drop i) d y:=by
 have f:n<=cap/\cap<=9223372036854775807:=by
  rcases h.2 with⟨t,m⟩|⟨d,o,u,s,_,C,t,m,B,A⟩;.cases t;omega
  .cases s;unfold maxLen at m;omega
 by_cases v:i=n
 .subst v;have:=QU w a i cap b q h c e p l f.1 f.2;rw [ao (by omega),eb (by omega)];exact this
 .have k:i<n:=by omega
  rcases h.2 with⟨t,m⟩|⟨d,o,u,s,_⟩;.omega
  .cases s;have g:c≠d:=λz=>x (by rw [z];rfl);by_cases j:n+1<=cap;.exact ZV w d n cap i b q h c g e p l k j f.2
   .exact ZX w d n cap i b q h c g e p l k (by omega) f.1
def fj(N:Nat)(m:List UInt8):Option Nat:=(List.range (N-21)).find? λi=> !zX m i
theorem cE{i:Nat}(d:i+21<N)(c:zX m i=false)(a:∀j,j<i->zX m j=true):fj N m=some i:=by
 unfold fj;rw [List.find?_range_eq_some];refine⟨by simpa using c,by simp;omega,λj b=>by simpa using a j b⟩
theorem cF(h:∀i,i+21<N->zX m i=true):fj N m=none:=by
 unfold fj;rw [lG];intro i a;have:=h i (by simp at a;omega);simpa using this
theorem Xf{i:Nat}(h:fj N m=some i):i+21<N/\zX m i=false/\∀j,j<i->zX m j=true:=by
 unfold fj at h;rw [List.find?_range_eq_some] at h;obtain⟨a,d,b⟩:=h;refine⟨by simp at d;omega,by simpa using a,λj c=>by simpa using b j c⟩
def Ck.take(C:Ck)(N:Nat)(m:List UInt8):Nat×Ck×List UInt8:=match fj N m with
 |some i=>(i+21,C.put 2 (zo (zV (gI m i))),gI m i)
 |none=>(0,{C with full:=true},m)
theorem cG(w:World)(c bd:Nat)(S T:Nat->Prop)(D:Dk)(C:Ck)(h:Cw w c bd S T D C)(m:List UInt8)(s:qP (C.look D 2) m)(o:0<=D.reads)(p:D.reads<=4611686018427387904)(j:C.ws.length<1000):
 Calls Tryz.prog 134 #[.pointer (some ⟨c,0,none⟩)] w λe w'=>e=.returned (.int .i64 ((C.take D.bs.length m).1:Nat))/\(∃(n:Int) (q:Nat->Prop),0<=n/\n<=1/\Cw w' c bd S q {D with reads:=D.reads+n} (C.take D.bs.length m).2.1/\∀k,q k->T k\/w.heap.size<=k)/\Kept (λk=>k=bd\/T k) w w':=by
 refine(Gs w c bd S T D C h m s o p j).mono ?_;rintro e w' ⟨a,r,rfl,f⟩;have l:=f.is;refine⟨?_,?_,f.kept⟩
 .rcases l with⟨i,rfl,b,d,g,rfl⟩|⟨rfl,b,rfl⟩;.unfold Ck.take;rw [cE b d g];rfl
  .unfold Ck.take;rw [cF b];rfl
 .have t:(C.take D.bs.length m).2.1=r:=by
   rcases l with⟨i,rfl,b,d,g,rfl⟩|⟨rfl,b,rfl⟩;.unfold Ck.take;rw [cE b d g]
   .unfold Ck.take;rw [cF b]
  rw [t];exact f.at_
theorem Xg(ws:List (Nat×List Value))(i:Int):yy ws i=(ws.map Prod.fst).findIdx? (λn:Nat=>decide ((n:Int)=i)):=by
 unfold yy;rw [List.findIdx?_map];rfl
theorem Xh(C:Ck)(D:Dk)(i:Nat)(b:List Value)(j:Int):(C.put i b).look D j=if j=i then b else C.look D j:=by
 cases c:yy C.ws i with
 |none=>
  rw [kO b c];unfold Ck.look
  have f:yy (C.ws++[(i,b)]) j=(yy C.ws j).or (if (i:Int)=j then some C.ws.length else none):=by unfold yy;rw [List.findIdx?_append];congr 1;by_cases m:(i:Int)=j<;>simp [m]
  simp only [f];by_cases a:j=i
  .subst a;rw [c,aB rfl,aB rfl];simp
  .rw [az a,az (λh=>a h.symm),Option.or_none]
   cases g:yy C.ws j with
   |none=>rfl
   |some k=>
    obtain⟨d,_⟩:=jo (D:=D) g;simp only;rw [aE,eW d,<-aE]
 |some k=>
  obtain⟨d,_,p⟩:=jo (D:=D) c;obtain⟨_,e⟩:=ki b c;rw [e];unfold Ck.look
  have f:yy (C.ws.set k (C.ws[k].1,b)) j=yy C.ws j:=by
   rw [Xg,Xg,mf];congr 1;have:C.ws[k].1=(C.ws.map Prod.fst)[k]'(by simpa using d):=by simp
   rw [this,List.set_getElem_self]
  simp only [f];by_cases a:j=i
  .subst a;rw [c,aB rfl];simp [d]
  .rw [az a]
   cases g:yy C.ws j with
   |none=>rfl
   |some o=>
    obtain⟨q,_,r⟩:=jo (D:=D) g;have l:k≠o:=λn=>a (by subst n;omega);simp only;rw [aE,iV l,<-aE]
theorem qe(C:Ck)(D:Dk)(i:Nat)(b:List Value)(j:Int)(h:j≠i):(C.put i b).look D j=C.look D j:=by rw [Xh,az h]
theorem qw(C:Ck)(D:Dk)(i:Nat)(b:List Value):(C.put i b).look D i=b:=by rw [Xh,aB rfl]
theorem qP.put{C:Ck}{D:Dk}(h:qP (C.look D 2) m)(i:Nat)(b:List Value)(a:i≠2):qP ((C.put i b).look D 2) m:=by rw [qe _ _ _ _ _ (by omega)];exact h
theorem qP.take{C:Ck}{D:Dk}(h:qP (C.look D 2) m)(N:Nat):qP ((C.take N m).2.1.look D 2) (C.take N m).2.2:=by
 unfold Ck.take;split;.exact⟨by rw [Y9];exact h.len,.inl (qw C D 2 _)⟩
 .exact h
theorem DT(C:Ck)(N:Nat)(m:List UInt8):(C.take N m).1=0\/(21<=(C.take N m).1/\(C.take N m).1<N):=by
 unfold Ck.take;split;.next i h=>right;have:=(Xf h).1;simp only;omega
 .exact .inl rfl
theorem fk(C:Ck)(N:Nat)(m:List UInt8):(C.take N m).2.1.ws.length<=C.ws.length+1:=by
 unfold Ck.take;split;.exact qH _ _ _
 .simp
theorem zH(C:Ck)(D:Dk)(n:Int)(j:Int):C.look {D with reads:=n} j=C.look D j:=by
 unfold Ck.look;split<;>rfl
theorem vK(w:World)(b:Nat)(t:TypeId)(p q r x l f e c a d:Value)(h:w.heap[b]? =some (.cells #[p,q,r,x,l] t (0,0))):
 (((((w.setCell ⟨b,0,none⟩ f).setCell ⟨b,1,none⟩ e).setCell ⟨b,2,none⟩ c).setCell ⟨b,3,none⟩ a).setCell ⟨b,4,none⟩ d).heap[b]? =some (.cells #[f,e,c,a,d] t (0,0))/\Kept (λj=>j=b) w (((((w.setCell ⟨b,0,none⟩ f).setCell ⟨b,1,none⟩ e).setCell ⟨b,2,none⟩ c).setCell ⟨b,3,none⟩ a).setCell ⟨b,4,none⟩ d):=by
 have n:=heap_setCell_same w b 0 _ _ f h;have u:=heap_setCell_same _ b 1 _ _ e n;have m:=heap_setCell_same _ b 2 _ _ c u;have o:=heap_setCell_same _ b 3 _ _ a m;have s:=heap_setCell_same _ b 4 _ _ d o;refine⟨s,?_⟩;have k:∀(g:World) (i:Nat) (v:Value),Kept (λj=>j=b) g (g.setCell ⟨b,i,none⟩ v):=λg i v=>Kept.setCell (S:=λj=>j=b) g ⟨b,i,none⟩ v rfl;exact((((k _ 0 f).trans (k _ 1 e) iL).trans (k _ 2 c) iL).trans (k _ 3 a) iL).trans (k _ 4 d) iL
def Ck.split(C:Ck)(N:Nat)(m:List UInt8)(at_ k:Nat)(es:List En):Nat×Ck×List UInt8:=
 let t:=C.take N m
 (t.1,(t.2.1.put at_ (zo (zc k (es.take (es.length/2))))).put t.1 (zo (zc k (es.drop (es.length/2)))),t.2.2)
theorem Gu(w:World)(x bd:Nat)(S T:Nat->Prop)(D:Dk)(C:Ck)(h:Cw w x bd S T D C)(m:List UInt8)(ao:qP (C.look D 2) m)(ad:0<=D.reads)(ae:D.reads<=4611686018427387904)(P:Nat->Prop)(u:∀j,P j->¬T j)(O:∀j,P j->j≠bd)(a:Option Addr)(cap:Nat)(k:Nat)(au:k=4\/k=5)(c:List En)(an:ql w P a c)(Q:∀e∈c,e.Ok)(L:c.length/2<c.length)(X:c.length<=12)(W:c.length<=cap)(K:cap<=9223372036854775807)(t:Nat)(ay:C.ws.length<800)(s:Nat)(I:Ck)(aq:List UInt8)(E:C.take D.bs.length m=(s,I,aq))(p:En)(ac:c[c.length/2]=p):
 Calls Tryz.prog 178 #[.agg #[.int .u8 (k:Int),.slice a c.length cap],.pointer (some ⟨x,0,none⟩),.int .i64 t] w λr w'=>r=.returned (.agg #[.string p.pl.key,.int .i64 p.pl.num,.bool false,.int .i64 0,.int .i64 (s:Int)])/\(∃(n:Int) (ag:Nat->Prop),0<=n/\n<=1/\Cw w' x bd S ag {D with reads:=D.reads+n} ((I.put t (zo (zc k (c.take (c.length/2))))).put s (zo (zc k (c.drop (c.length/2)))))/\∀j,ag j->T j\/w.heap.size<=j)/\Kept (λj=>j=bd\/T j) w w':=by
 have J:Hid _:=h;change Hid _ at an ao Q u O;clear h;have y:Hid (Kept (λ_=>False) w ((w.alloc (.cells #[.int .u8 (k:Int),.slice a c.length cap] 209)).alloc (.cells #[.string ⟨#[]⟩,.int .i64 0,.bool false,.int .i64 0,.int .i64 0] 109))):=Kept.alloc2 _ _ _;go_enter Tryz.func178,Tryz.ntmps178;go_wp2_with fail;have al:Hid (((w.alloc (.cells #[.int .u8 (k:Int),.slice a c.length cap] 209)).alloc (.cells #[.string ⟨#[]⟩,.int .i64 0,.bool false,.int .i64 0,.int .i64 0] 109)).heap[w.heap.size+1]? =some (.cells #[.string ⟨#[]⟩,.int .i64 0,.bool false,.int .i64 0,.int .i64 0] 109 (0,0))):=heap_alloc2_new w _ _;have ah:Hid (((w.alloc (.cells #[.int .u8 (k:Int),.slice a c.length cap] 209)).alloc (.cells #[.string ⟨#[]⟩,.int .i64 0,.bool false,.int .i64 0,.int .i64 0] 109)).heap[w.heap.size]? =some (.cells #[.int .u8 (k:Int),.slice a c.length cap] 209 (0,0))):=((Kept.alloc (λ_=>False) _ _).block w.heap.size (by simp) id).trans (heap_alloc_new w _);have aC:((w.alloc (.cells #[.int .u8 (k:Int),.slice a c.length cap] 209)).alloc (.cells #[.string ⟨#[]⟩,.int .i64 0,.bool false,.int .i64 0,.int .i64 0] 109)).heap.size=w.heap.size+2:=by simp
 generalize ((w.alloc (.cells #[.int .u8 (k:Int),.slice a c.length cap] 209)).alloc (.cells #[.string ⟨#[]⟩,.int .i64 0,.bool false,.int .i64 0,.int .i64 0] 109))=aA at*;have M:=J.chg.lt;have A:=J.disk.lt;have aB:=A bd J.disk.bdS;change Hid _ at M A;refine(cG aA x bd S T D C (J.kept0 y) m ao ad ae (by omega)).mono ?_;rintro r z ⟨rfl,⟨ax,ak,ap,ab,U,o⟩,i⟩;have F:Hid _:=U;have l:∀j,w.heap.size<=j->¬(j=bd\/T j):=λj d q=>q.elim (λh=>by omega) (λh=>by have:=M.out j h;omega);have V:Hid (z.heap[w.heap.size+1]? =_):=(i.block _ (by omega) (l _ (by omega))).trans al.out;have G:Hid (z.heap[w.heap.size]? =_):=(i.block _ (by omega) (l _ (by omega))).trans ah.out;have az:z.cell? ⟨w.heap.size,0,none⟩=some (.int .u8 (k:Int)):=cR G.out rfl;have ar:z.cell? ⟨w.heap.size,1,none⟩=some (.slice a c.length cap):=cR G.out rfl;have am:Hid _:=(an.below.kept y nF).kept i (λj d q=>q.elim (O j d.1) (u j d.1))
 have Y:Hid (∀j,(P j/\j<w.heap.size)->¬ak j):=λj d q=>by
  rcases o j q with f|f;.exact u j d.1 f
  .omega
 have af:I.ws.length<900:=by have:=fk C D.bs.length m;rw [E] at this;simp only at this;omega
 rw [E] at F ⊢;dsimp only at F ⊢;have aw:=i.size;change Hid _ at o i l;clear U E;go_wp2_with fail;refine(Qn z x bd S ak _ I F (λj=>P j/\j<w.heap.size) Y a cap k au c am Q (c.length/2) rfl L X W K t s af).mono ?_;rintro r g ⟨rfl,⟨aj,R,N⟩,B⟩;rw [ac];have b:Hid (g.heap[w.heap.size+1]? =_):=(B.block _ (by omega) (λq=>by rcases o _ q with f|f;exact l _ (by omega) (.inr f);omega)).trans V.out;have aI:g.cell? ⟨w.heap.size+1,0,none⟩=some (.string ⟨#[]⟩):=cR b.out rfl;have aK:g.cell? ⟨w.heap.size+1,1,none⟩=some (.int .i64 0):=cR b.out rfl;have aH:g.cell? ⟨w.heap.size+1,2,none⟩=some (.bool false):=cR b.out rfl;have aE:g.cell? ⟨w.heap.size+1,3,none⟩=some (.int .i64 0):=cR b.out rfl;have aL:g.cell? ⟨w.heap.size+1,4,none⟩=some (.int .i64 0):=cR b.out rfl;have aJ:=aa g (w.heap.size+1) 0 _ _ b.out;have aD:=aa g (w.heap.size+1) 1 _ _ b.out;have aF:=aa g (w.heap.size+1) 2 _ _ b.out;have aM:=aa g (w.heap.size+1) 3 _ _ b.out;have aG:=aa g (w.heap.size+1) 4 _ _ b.out;change Hid _ at R N B;go_wp2;obtain⟨av,ai⟩:=vK g (w.heap.size+1) 109 _ _ _ _ _ (.string p.pl.key) (.int .i64 p.pl.num) (.bool false) (.int .i64 0) (.int .i64 (s:Int)) b.out
 have H:∀j,aj j->T j\/aA.heap.size<=j:=λj d=>by
  rcases N j d with f|f;.exact o j f
  .right;omega
 refine bodyPost_ret (v:=.agg #[.string p.pl.key,.int .i64 p.pl.num,.bool false,.int .i64 0,.int .i64 (s:Int)]) (results_cell_row Tryz.results178 _ _ (w.heap.size+1) 109 _ (0,0) _ rfl av Tryz.underlying109 rfl (by kernel_rfl)) rfl ⟨rfl,⟨ax,aj,ap,ab,R.kept ai (λj d Z=>by have:=A.out j d;omega) (λj d Z=>?_),λj d=>(H j d).imp id (λh=>by omega)⟩,?_⟩
 .subst Z;rcases H _ d with f|f;.exact l _ (by omega) (.inr f)
  .omega
 .have k1:=(y.mono fE).trans i iL
  have k2:=k1.trans B (λj d=>by
   rcases o j d with f|f;.exact .inl (.inr f)
   .exact .inr (by omega))
  exact k2.trans ai (λj d=>.inr (by omega))
theorem VR(w:World)(f bd:Nat)(S T:Nat->Prop)(D:Dk)(C:Ck)(h:Cw w f bd S T D C)(m:List UInt8)(y:qP (C.look D 2) m)(q:0<=D.reads)(t:D.reads<=4611686018427387904)(P:Nat->Prop)(s:∀j,P j->¬T j)(p:∀j,P j->j≠bd)(a:Option Addr)(cap:Nat)(k:Nat)(z:k=4\/k=5)(b:List En)(x:ql w P a b)(u:∀e∈b,e.Ok)(g:b.length/2<b.length)(i:b.length<=12)(o:b.length<=cap)(d:cap<=9223372036854775807)(c:Nat)(l:C.ws.length<800):
 Calls Tryz.prog 178 #[.agg #[.int .u8 (k:Int),.slice a b.length cap],.pointer (some ⟨f,0,none⟩),.int .i64 c] w λr w'=>r=.returned (.agg #[.string b[b.length/2].pl.key,.int .i64 b[b.length/2].pl.num,.bool false,.int .i64 0,.int .i64 ((C.split D.bs.length m c k b).1:Nat)])/\(∃(n:Int) (v:Nat->Prop),0<=n/\n<=1/\Cw w' f bd S v {D with reads:=D.reads+n} (C.split D.bs.length m c k b).2.1/\∀j,v j->T j\/w.heap.size<=j)/\Kept (λj=>j=bd\/T j) w w':=
 Gu w f bd S T D C h m y q t P s p a cap k z b x u g i o d c l _ _ _ rfl _ rfl
def Ck.plant(C:Ck)(N:Nat)(m:List UInt8)(k:Nat)(es:List En):Nat×Ck×List UInt8:=
 let t:=C.take N m
 (t.1,t.2.1.put t.1 (zo (zc k es)),t.2.2)
theorem Xi(w:World)(p bd:Nat)(S T:Nat->Prop)(D:Dk)(C:Ck)(h:Cw w p bd S T D C)(m:List UInt8)(U:qP (C.look D 2) m)(O:0<=D.reads)(R:D.reads<=4611686018427387904)(P:Nat->Prop)(z:∀j,P j->¬T j)(F:∀j,P j->j≠bd)(a:Option Addr)(cap:Nat)(k:Nat)(aa:k=4\/k=5)(d:List En)(n:Nat)(ac:d.length=n)(Q:ql w P a d)(H:∀e∈d,e.Ok)(K:d.length<=6)(af:C.ws.length<800)(t:Nat)(u:Ck)(ad:List UInt8)(f:C.take D.bs.length m=(t,u,ad)):
 Calls Tryz.prog 136 #[.pointer (some ⟨p,0,none⟩),.agg #[.int .u8 (k:Int),.slice a n cap]] w λr w'=>r=.returned (.int .i64 (t:Int))/\(∃(n:Int) (W:Nat->Prop),0<=n/\n<=1/\Cw w' p bd S W {D with reads:=D.reads+n} (u.put t (zo (zc k d)))/\∀j,W j->T j\/w.heap.size<=j)/\Kept (λj=>j=bd\/T j) w w':=by
 have v:Hid _:=h;change Hid _ at Q U H z F;clear h;have q:Hid (Kept (λ_=>False) w (w.alloc (.cells #[.int .u8 (k:Int),.slice a n cap] 209))):=Kept.alloc _ _ _;go_enter Tryz.func136,Tryz.ntmps136;go_wp2_with fail;have X:Hid ((w.alloc (.cells #[.int .u8 (k:Int),.slice a n cap] 209)).heap[w.heap.size]? =some (.cells #[.int .u8 (k:Int),.slice a n cap] 209 (0,0))):=heap_alloc_new w _;have ak:(w.alloc (.cells #[.int .u8 (k:Int),.slice a n cap] 209)).heap.size=w.heap.size+1:=by simp
 generalize (w.alloc (.cells #[.int .u8 (k:Int),.slice a n cap] 209))=al at*;have A:=v.chg.lt;have x:=v.disk.lt;have aj:=x bd v.disk.bdS;change Hid _ at A;clear x;refine(cG al p bd S T D C (v.kept0 q) m U O R (by omega)).mono ?_;rintro r s ⟨rfl,⟨ae,Z,V,M,I,o⟩,b⟩;have g:Hid _:=I;have E:∀j,w.heap.size<=j->¬(j=bd\/T j):=λj c J=>J.elim (λh=>by omega) (λh=>by have:=A.out j h;omega);have i:Hid (s.heap[w.heap.size]? =_):=(b.block _ (by omega) (E _ (by omega))).trans X.out;have ah:s.cell? ⟨w.heap.size,0,none⟩=some (.int .u8 (k:Int)):=cR i.out rfl;have Y:s.cell? ⟨w.heap.size,1,none⟩=some (.slice a n cap):=cR i.out rfl;have N:Hid _:=(Q.below.kept q nF).kept b (λj c J=>J.elim (F j c.1) (z j c.1));have ai:u.ws.length<900:=by have:=fk C D.bs.length m;rw [f] at this;simp only at this;omega
 rw [f] at g ⊢;dsimp only at g ⊢;have ab:=b.size;change Hid _ at o b;clear I E f;go_wp2_with fail;refine(v8 s p bd S Z _ u g _ a cap k aa d N H K t (by omega) n ac).mono ?_;rintro r am ⟨rfl,⟨ag,G,B⟩,y⟩;change Hid _ at G B y;go_wp2;go_ret;refine⟨rfl,⟨ae,ag,V,M,G,λj c=>?_⟩,?_⟩
 .rcases B j c with l|l
  .rcases o j l with L|L;.exact .inl L
   .exact .inr (by omega)
  .exact .inr (by omega)
 .have k1:=(q.mono fE).trans b iL
  exact k1.trans y (λj c=>by
   rcases o j c with l|l;.exact .inl (.inr l)
   .exact .inr (by omega))
def dh:En:=⟨⟨⟨#[]⟩,0⟩,false,0,0⟩
def qI:List Value:=[.string ⟨#[]⟩,.int .i64 0,.bool false,.int .i64 0,.int .i64 0]
def Ck.more(C:Ck)(N:Nat)(m:List UInt8)(at_ k:Nat)(es:List En):Bool×List Value×Ck×List UInt8:=
 if es.length<=6 then (false,qI,C.put at_ (zo (zc k es)),m)
 else
  let s:=C.split N m at_ k es
  (true,qE ⟨(es.getD (es.length/2) dh).pl,false,0,s.1⟩,s.2.1,s.2.2)
theorem KZ(w:World)(g bd:Nat)(S T:Nat->Prop)(D:Dk)(C:Ck)(h:Cw w g bd S T D C)(m:List UInt8)(z:qP (C.look D 2) m)(q:0<=D.reads)(t:D.reads<=4611686018427387904)(P:Nat->Prop)(s:∀j,P j->¬T j)(p:∀j,P j->j≠bd)(a:Option Addr)(cap:Nat)(k:Nat)(A:k=4\/k=5)(b:List En)(x:ql w P a b)(u:∀e∈b,e.Ok)(n:Nat)(y:b.length=n)(d:n/2<n)(i:n<=12)(o:n<=cap)(f:cap<=9223372036854775807)(c:Nat)(l:C.ws.length<800):
 Calls Tryz.prog 178 #[.agg #[.int .u8 (k:Int),.slice a n cap],.pointer (some ⟨g,0,none⟩),.int .i64 c] w λr w'=>r=.returned (.agg (qE ⟨(b.getD (b.length/2) dh).pl,false,0,(C.split D.bs.length m c k b).1⟩).toArray)/\(∃(n:Int) (v:Nat->Prop),0<=n/\n<=1/\Cw w' g bd S v {D with reads:=D.reads+n} (C.split D.bs.length m c k b).2.1/\∀j,v j->T j\/w.heap.size<=j)/\Kept (λj=>j=bd\/T j) w w':=by
 subst y;have:=VR w g bd S T D C h m z q t P s p a cap k A b x u d i o f c l;rw [aE,aI d,i9];exact this
theorem qW{P:Program}{fn:Func}{p u:Tmp}{a:TypeId}(h:fn.results=#[.cell p a,.tmp u])(tmps:Array Value)(w:World)(g:Nat)(t:TypeId)(b:Array Value)(d:Nat×Nat)(e:TypeDesc)
 (f:tmps.getD p undef=.pointer (some ⟨g,0,none⟩)) (k:w.heap[g]? =some (.cells b t d))
 (j:P.underlying a=some e) (i:(match e with|.struct _|.array _ _=>true|_=>false)=true) (l:(P.info? a).map (·.size)=some b.size):
 (results fn tmps).run P w=.ok (.tuple #[.agg b,tmps.getD u undef]) w:=by
 have c:tmps[p]?.getD undef=.pointer (some ⟨g,0,none⟩):=by simpa using f
 simp [results,h,c,asAddr,run_loadVar_row w g t a b d e k j i l]
theorem Xj(w:World)(ac bd:Nat)(S T:Nat->Prop)(D:Dk)(C:Ck)(h:Cw w ac bd S T D C)(m:List UInt8)(bh:qP (C.look D 2) m)(bm:0<=D.reads)(b4:D.reads<=4611686018427380000)(s:Nat)(br:s<65536)(d:List En)(ab:∀e∈d,e.Ok)(aV:d.length<=6)(bg:xi d)(bn:C.look D s=zo (zc 5 d))(e:En)(a3:e.Ok)(bZ:C.ws.length<700)(o:List En)(I:d.take (zr d e.pl)++e::d.drop (zr d e.pl)=o)(f:Bool)(v:List Value)(aH:Ck)(a5:List UInt8)(L:C.more D.bs.length m s 5 o=(f,v,aH,a5)):
 Calls Tryz.prog 137 #[.pointer (some ⟨ac,0,none⟩),.int .i64 s,.agg (qE e).toArray] w λr w'=>r=.returned (.tuple #[.agg v.toArray,.bool f])/\(∃(n:Int) (bo:Nat->Prop),0<=n/\n<=2/\Cw w' ac bd S bo {D with reads:=D.reads+n} aH/\∀j,bo j->T j\/w.heap.size<=j)/\Kept (λj=>j=bd\/T j) w w':=by
 have aE:Hid _:=h;have ci:Hid e.Ok:=a3;have Y:o.length=d.length+1:=by rw [<-I];simp only [ah,ay,ae,aU];have:=jF d e.pl;omega
 have ap:Hid (∀bv∈o,bv.Ok):=λbv K=>by
  rw [<-I] at K;rcases aj.1 K with K|K;.exact ab bv (aJ K)
  .rcases aq.1 K with rfl|K;.exact a3
   .exact ab bv (eJ K)
 change Hid _ at I L;change Hid _ at bh ab bg bn;clear h a3;have b5:=aE.disk.lt bd aE.disk.bdS;have F:Hid _:=aE.chg.lt;have ax:Hid _:=aE.disk.lt;have O:Hid (Kept (λ_=>False) w ((w.alloc (.cells (qE e).toArray 109)).alloc (.cells qI.toArray 109))):=Kept.alloc2 _ _ _;have al:Hid (((w.alloc (.cells (qE e).toArray 109)).alloc (.cells qI.toArray 109)).heap[w.heap.size+1]? =some (.cells qI.toArray 109 (0,0))):=heap_alloc2_new w _ _;have af:Hid (((w.alloc (.cells (qE e).toArray 109)).alloc (.cells qI.toArray 109)).heap[w.heap.size]? =some (.cells (qE e).toArray 109 (0,0))):=((Kept.alloc (λ_=>False) _ _).block w.heap.size (by simp) id).trans (heap_alloc_new w _);have aO:((w.alloc (.cells (qE e).toArray 109)).alloc (.cells qI.toArray 109)).heap.size=w.heap.size+2:=by simp
 unfold qI at O al af aO;unfold qE at O al af aO ⊢;go_enter Tryz.func137,Tryz.ntmps137;go_wp2_with fail;change Hid (Kept _ w ((w.alloc (.cells #[.string e.pl.key,.int .i64 e.pl.num,.bool e.mark,.int .i64 (e.size:Int),.int .i64 (e.at_:Int)] 109)).alloc (.cells #[.string ⟨#[]⟩,.int .i64 0,.bool false,.int .i64 0,.int .i64 0] 109))) at O;generalize ((w.alloc (.cells #[.string e.pl.key,.int .i64 e.pl.num,.bool e.mark,.int .i64 (e.size:Int),.int .i64 (e.at_:Int)] 109)).alloc (.cells #[.string ⟨#[]⟩,.int .i64 0,.bool false,.int .i64 0,.int .i64 0] 109))=a7 at*;refine(yR a7 ac bd S T D C (aE.kept0 O) bm (by omega) s br 5 d (.inr rfl) ab (λh=>absurd h (by decide)) aV bn).mono ?_;rintro r c ⟨a,cap,rfl,⟨an,bi,b0,aT⟩,P,Z,X,ao⟩;have a8:Hid (Kept (λj=>j=bd) a7 c):=P;have aM:Hid (c.ownsRow 0 109 5 (.slice a d.length cap) d.length (zj d)):=X;have bJ:=P.size;have R:Hid (c.heap[w.heap.size]? =_):=(P.block _ (by omega) (by omega)).trans af.out;have a1:Hid (c.heap[w.heap.size+1]? =_):=(P.block _ (by omega) (by omega)).trans al.out;change Hid _ at aT ao Z;clear P X;have cf:c.cell? ⟨w.heap.size,0,none⟩=some (.string e.pl.key):=cR R.out rfl;have cm:c.cell? ⟨w.heap.size,1,none⟩=some (.int .i64 e.pl.num):=cR R.out rfl;have bP:w.heap.size<c.heap.size:=by omega
 have t:∀j,(Value.slice a d.length cap).ownBlock=some j->a7.heap.size<=j/\j<c.heap.size:=λj k=>⟨ao j k,(aM.lt j k).2⟩;change Hid _ at t;go_wp2_with fail;have aR:Hid (Kept (λ_=>False) c (c.alloc (.cells #[.int .u8 5,.slice a d.length cap] 209))):=Kept.alloc _ _ _;have bk:Hid ((c.alloc (.cells #[.int .u8 5,.slice a d.length cap] 209)).heap[c.heap.size]? =some (.cells #[.int .u8 5,.slice a d.length cap] 209 (0,0))):=heap_alloc_new c _;have b9:(c.alloc (.cells #[.int .u8 5,.slice a d.length cap] 209)).heap.size=c.heap.size+1:=by simp
 generalize (c.alloc (.cells #[.int .u8 5,.slice a d.length cap] 209))=bD at*;refine(kf bD _ a cap d (Z.kept aR nF) bg 5 e.pl).mono ?_;rintro r q ⟨rfl,W⟩;have ar:Hid _:=aR.trans W iL;have bK:=W.size;have U:Hid (q.heap[c.heap.size]? =_):=(W.block _ (by omega) id).trans bk.out;clear W;have A:Hid (q.heap[w.heap.size]? =_):=(ar.block _ (by omega) id).trans R.out;have a4:Hid (q.heap[w.heap.size+1]? =_):=(ar.block _ (by omega) id).trans a1.out;have cl:q.cell? ⟨w.heap.size,0,none⟩=some (.string e.pl.key):=cR A.out rfl;have cg:q.cell? ⟨w.heap.size,1,none⟩=some (.int .i64 e.pl.num):=cR A.out rfl;have co:q.cell? ⟨w.heap.size,2,none⟩=some (.bool e.mark):=cR A.out rfl;have cb:q.cell? ⟨w.heap.size,3,none⟩=some (.int .i64 (e.size:Int)):=cR A.out rfl;have cn:q.cell? ⟨w.heap.size,4,none⟩=some (.int .i64 (e.at_:Int)):=cR A.out rfl;have cd:q.cell? ⟨c.heap.size,0,none⟩=some (.int .u8 5):=cR U.out rfl;have ck:q.cell? ⟨c.heap.size,1,none⟩=some (.slice a d.length cap):=cR U.out rfl;have bp:=jF d e.pl;generalize zr d e.pl=i at*;go_wp2_with fail;have am:Hid (Kept (λ_=>False) q (q.alloc (.cells #[.string e.pl.key,.int .i64 e.pl.num,.bool e.mark,.int .i64 (e.size:Int),.int .i64 (e.at_:Int)] 109))):=Kept.alloc _ _ _;have bu:Hid ((q.alloc (.cells #[.string e.pl.key,.int .i64 e.pl.num,.bool e.mark,.int .i64 (e.size:Int),.int .i64 (e.at_:Int)] 109)).heap[q.heap.size]? =some (.cells (qE e).toArray 109 (0,0))):=heap_alloc_new q _;have b1:(q.alloc (.cells #[.string e.pl.key,.int .i64 e.pl.num,.bool e.mark,.int .i64 (e.size:Int),.int .i64 (e.at_:Int)] 109)).heap.size=q.heap.size+1:=by simp
 generalize (q.alloc (.cells #[.string e.pl.key,.int .i64 e.pl.num,.bool e.mark,.int .i64 (e.size:Int),.int .i64 (e.at_:Int)] 109))=bw at*;have aP:Hid _:=ar.trans am iL;refine(fi bw a d.length cap i d rfl (aP.owns aM nF) q.heap.size (λp=>by have:=(t _ p).2;omega) e bu (by omega) bp).mono ?_;rintro r u ⟨g,B,rfl,x⟩;rw [I.out] at x;have bC:=x.kept.size;have ak:∀j,c.heap.size<=j\/j<a7.heap.size->¬(Value.slice a d.length cap).ownBlock=some j:=λj k p=>by have:=t.out j p;omega
 have H:Hid (u.heap[c.heap.size]? =_):=(x.kept.block _ (by omega) (ak _ (.inl (aC _)))).trans ((am.block _ (by omega) id).trans U);have a6:Hid (u.heap[w.heap.size+1]? =_):=(x.kept.block _ (by omega) (ak _ (.inr (by omega)))).trans ((am.block _ (by omega) id).trans a4)
 have ca:a7.heap.size<=g/\g≠c.heap.size:=by
  rcases x.at_ with E|E;.have:=t.out g E;omega
  .omega
 have bs:Hid (Kept (λj=>(Value.slice a d.length cap).ownBlock=some j) c u):=(aP.mono fE).trans x.kept iL;have bX:u.cell? ⟨c.heap.size,0,none⟩=some (.int .u8 5):=cR H.out rfl;have bT:u.cell? ⟨c.heap.size,1,none⟩=some (.slice a d.length cap):=cR H.out rfl;have bl:=aa u c.heap.size 1 _ _ H.out;change Hid _ at x;clear ak;go_wp2_with fail;have aA:Hid ((u.setCell ⟨c.heap.size,1,none⟩ (.slice (some ⟨g,0,none⟩) (d.length+1) B)).heap[c.heap.size]? =some (.cells #[.int .u8 5,.slice (some ⟨g,0,none⟩) (d.length+1) B] 209 (0,0))):=heap_setCell_same u c.heap.size 1 _ _ _ H.out;have ai:Hid (Kept (λj=>j=c.heap.size) u (u.setCell ⟨c.heap.size,1,none⟩ (.slice (some ⟨g,0,none⟩) (d.length+1) B))):=Kept.setCell (S:=λj=>j=c.heap.size) u ⟨c.heap.size,1,none⟩ _ rfl;have b7:(u.setCell ⟨c.heap.size,1,none⟩ (.slice (some ⟨g,0,none⟩) (d.length+1) B)).heap.size=u.heap.size:=by simp
 generalize (u.setCell ⟨c.heap.size,1,none⟩ (.slice (some ⟨g,0,none⟩) (d.length+1) B))=y at*;have aN:Hid _:=ai.owns x.own (λj k ad=>by simp [Value.ownBlock] at k;omega);have bt:Hid _:=ql.of_own aN (λj k=>by simp [Value.ownBlock] at k;exact k.symm) (by omega)
 have aI:d.length+1<=B/\B<=9223372036854775807:=by
  rcases aN.2 with⟨E,bj⟩|⟨cc,bF,b2,bM,_,ch,E,bj,_⟩;.cases E
  .cases bM;unfold maxLen at bj;omega
 have aS:Hid (Kept (λj=>(Value.slice a d.length cap).ownBlock=some j\/j=c.heap.size) c y):=(bs.mono iL).trans ai (λ_ h=>.inl (.inr h))
 have aX:Hid _:=aT.kept aS (λj k p=>by
  have:=ax.out j k;rcases p with p|p;.have:=t.out j p;omega
  .omega) (λj k p=>by
  have:=F.out j k;rcases p with p|p;.have:=t.out j p;omega
  .omega)
 have a2:Hid (y.heap[w.heap.size+1]? =_):=(ai.block _ (by omega) (by omega)).trans a6.out
 have a0:Hid (Kept (λj=>j=bd\/T j) w y):=((O.mono fE).trans a8 (λ_ h=>.inl (.inl h))).trans aS (λj k=>by
  rcases k with p|p;.have:=t.out j p;exact .inr (by omega)
  .exact .inr (by omega))
 have ba:y.cell? ⟨c.heap.size,0,none⟩=some (.int .u8 5):=cR aA.out rfl;have bc:y.cell? ⟨c.heap.size,1,none⟩=some (.slice (some ⟨g,0,none⟩) (d.length+1) B):=cR aA.out rfl;have bU:c.heap.size<y.heap.size:=by omega
 clear bX bT bl;go_region_held3 (λw'=>w'.cell? ⟨c.heap.size,0,none⟩=some (.int .u8 5)/\w'.cell? ⟨c.heap.size,1,none⟩=some (.slice (some ⟨g,0,none⟩) (d.length+1) B)) (go_keep) ((go_at_call 129;refine(vo _ 5 (by decide)).mono ?_;rintro r bG ⟨rfl,aK⟩;rw [aK];clear aK bG));have bb:room 5=6:=rfl;have Q:Hid (Kept (λ_=>False) y y.drew):=Kept.drew _ y;have b3:y.drew.heap.size=y.heap.size:=rfl;generalize y.drew=aG at*;have aL:Hid _:=bt.kept Q nF;have aF:Hid _:=aX.kept0 Q.out;have ag:Hid (aG.heap[w.heap.size+1]? =_):=(Q.block _ (by omega) id).trans a2.out;have b6:Hid (aG.heap[c.heap.size]? =_):=(Q.block _ (by omega) id).trans aA.out;have G:Hid _:=a0.trans Q fE;have be:Hid (∀j,j=g->¬T j):=λj k bH=>by have:=F.out j bH;omega
 have bq:Hid (∀j,j=g->j≠bd):=λj k ad=>by omega
 clear ba bc;by_cases b8:d.length+1<=6
 .have aD:(false,qI,C.put s (zo (zc 5 o)),m)=(f,v,aH,a5):=by
   have:=L.out;unfold Ck.more at this;rw [aB (by omega)] at this;exact this
  clear L;cases aD;have bI:(d.length:Int)+1<=((room 5:Nat):Int):=by rw [bb];omega
  go_wp2_with fail;refine(v8 aG ac bd S T _ C aF (λj=>j=g) (some ⟨g,0,none⟩) B 5 (.inr rfl) o aL ap (by omega) s (by omega) (d.length+1) Y).mono ?_;rintro r l ⟨rfl,⟨aZ,J,M⟩,z⟩;have V:Hid _:=J;have N:Hid _:=M;have aw:Hid _:=z;have b:Hid (l.heap[w.heap.size+1]? =_):=(z.block _ (by omega) (λp=>by have:=F.out _ p;omega)).trans ag.out;have bQ:l.cell? ⟨w.heap.size+1,0,none⟩=some (.string ⟨#[]⟩):=cR b.out rfl;have bS:l.cell? ⟨w.heap.size+1,1,none⟩=some (.int .i64 0):=cR b.out rfl;have bN:l.cell? ⟨w.heap.size+1,2,none⟩=some (.bool false):=cR b.out rfl;have bx:l.cell? ⟨w.heap.size+1,3,none⟩=some (.int .i64 0):=cR b.out rfl;have bV:l.cell? ⟨w.heap.size+1,4,none⟩=some (.int .i64 0):=cR b.out rfl;have bR:=aa l (w.heap.size+1) 0 _ _ b.out;have bL:=aa l (w.heap.size+1) 1 _ _ b.out;have bA:=aa l (w.heap.size+1) 2 _ _ b.out;have bY:=aa l (w.heap.size+1) 3 _ _ b.out;have bB:=aa l (w.heap.size+1) 4 _ _ b.out;clear J M z;go_wp2;obtain⟨aY,av⟩:=vK l (w.heap.size+1) 109 _ _ _ _ _ (.string ⟨#[]⟩) (.int .i64 0) (.bool false) (.int .i64 0) (.int .i64 0) b.out;refine bodyPost_ret (v:=.tuple #[.agg qI.toArray,.bool false]) (qW Tryz.results137 _ _ (w.heap.size+1) 109 _ (0,0) _ rfl aY Tryz.underlying109 rfl (by kernel_rfl)) rfl ⟨rfl,⟨an,aZ,bi,by omega,V.kept av (λj k ad=>by have:=ax.out j k;omega) (λj k ad=>?_),λj k=>(N j k).imp id (λh=>by have:=G.size;omega)⟩,?_⟩
  .rcases N j k with E|E;.have:=F.out j E;omega
   .omega
  .exact(G.trans aw (λj k=>.inl (.inr k))).trans av (λj k=>.inr (by omega))
 .have aD:(true,qE ⟨(o.getD (o.length/2) dh).pl,false,0,(C.split D.bs.length m s 5 o).1⟩,(C.split D.bs.length m s 5 o).2.1,(C.split D.bs.length m s 5 o).2.2)=(f,v,aH,a5):=by
   have:=L.out;unfold Ck.more at this;rw [az (by omega)] at this;exact this
  clear L;cases aD;have bf:Hid (qP (C.look {D with reads:=D.reads+an} 2) m):=by show qP _ _;rw [zH];exact bh.out
  go_wp2_with fail;refine(KZ aG ac bd S T _ C aF m bf (by show 0<=D.reads+an;omega) (by show D.reads+an<=_;omega) (λj=>j=g) be bq (some ⟨g,0,none⟩) B 5 (.inr rfl) o aL ap (d.length+1) Y (by omega) (by omega) aI.1 aI.2 s (by omega)).mono ?_;rintro r l ⟨rfl,⟨bz,aZ,bW,bO,J,M⟩,z⟩;have V:Hid _:=J;have N:Hid _:=M;have aw:Hid _:=z;have b:Hid (l.heap[w.heap.size+1]? =_):=(z.block _ (by omega) (λp=>p.elim (λh=>by omega) (λh=>by have:=F.out _ h;omega))).trans ag.out;have bQ:l.cell? ⟨w.heap.size+1,0,none⟩=some (.string ⟨#[]⟩):=cR b.out rfl;have bS:l.cell? ⟨w.heap.size+1,1,none⟩=some (.int .i64 0):=cR b.out rfl;have bN:l.cell? ⟨w.heap.size+1,2,none⟩=some (.bool false):=cR b.out rfl;have bx:l.cell? ⟨w.heap.size+1,3,none⟩=some (.int .i64 0):=cR b.out rfl;have bV:l.cell? ⟨w.heap.size+1,4,none⟩=some (.int .i64 0):=cR b.out rfl;have bR:=aa l (w.heap.size+1) 0 _ _ b.out;have bL:=aa l (w.heap.size+1) 1 _ _ b.out;have bA:=aa l (w.heap.size+1) 2 _ _ b.out;have bY:=aa l (w.heap.size+1) 3 _ _ b.out;have bB:=aa l (w.heap.size+1) 4 _ _ b.out;clear J M z;generalize aQ:(o.getD (o.length/2) dh).pl=aW at*;generalize au:C.split D.bs.length m s 5 o=bE at*;obtain⟨a9,ce,cj⟩:=bE;dsimp only at V ⊢;change Hid _ at aQ au;unfold qE;go_wp2;obtain⟨aY,av⟩:=vK l (w.heap.size+1) 109 _ _ _ _ _ (.string aW.key) (.int .i64 aW.num) (.bool false) (.int .i64 0) (.int .i64 (a9:Int)) b.out;refine bodyPost_ret (v:=.tuple #[.agg (qE ⟨aW,false,0,a9⟩).toArray,.bool true]) (qW Tryz.results137 _ _ (w.heap.size+1) 109 _ (0,0) _ rfl aY Tryz.underlying109 rfl (by kernel_rfl)) rfl ⟨by rw [aQ.out,au.out],⟨an+bz,aZ,by omega,by omega,?_,λj k=>(N j k).imp id (λh=>by have:=G.size;omega)⟩,?_⟩
  .have:=V.kept av (λj k ad=>by have:=ax.out j k;omega) (λj k ad=>by
    rcases N j k with E|E;.have:=F.out j E;omega
    .omega)
   rw [eG] at this;rw [au.out];exact this
  .exact(G.trans aw (λj k=>.inl k)).trans av (λj k=>.inr (by omega))
structure Below (bc bd:Nat) (S T:Nat->Prop) (D:Dk) (C:Ck) (at_:Nat) (e:En) (M:Nat) (f:Bool) (v:List Value) (C':Ck):Prop where
 go:∀(w0:World) (n0:Int),0<=n0->n0<=1->Cw w0 bc bd S T {D with reads:=D.reads+n0} C->Calls Tryz.prog 137 #[.pointer (some ⟨bc,0,none⟩),.int .i64 at_,.agg (qE e).toArray] w0 λr w'=>r=.returned (.tuple #[.agg v.toArray,.bool f])/\(∃(n:Int) (T':Nat->Prop),0<=n/\n<=M/\Cw w' bc bd S T' {D with reads:=D.reads+n0+n} C'/\∀j,T' j->T j\/w0.heap.size<=j)/\Kept (λj=>j=bd\/T j) w0 w'
theorem VS(w:World)(F bd:Nat)(S T:Nat->Prop)(D:Dk)(C:Ck)(h:Cw w F bd S T D C)(m:List UInt8)(bs:qP (C.look D 2) m)(bb:0<=D.reads)(bH:D.reads<=4611686018427380000)(V:Nat)(bi:V<65536)(k:List En)(aF:∀e∈k,e.Ok)(a7:∀e∈k,e.mark=false/\e.size=0)(aK:k.length<=6)(aM:xi k)(bc:C.look D V=zo (zc 4 k))(e:En)(bx:e.Ok)(bD:C.ws.length<700)(M:Nat)(aw:Ck)(c:Nat)(av:zK k e.pl=c)(bk:c<k.length)(ag:Below F bd S T D C k[c].at_ e M false qI aw):
 Calls Tryz.prog 137 #[.pointer (some ⟨F,0,none⟩),.int .i64 V,.agg (qE e).toArray] w λr w'=>r=.returned (.tuple #[.agg qI.toArray,.bool false])/\(∃(n:Int) (bf:Nat->Prop),0<=n/\n<=M+1/\Cw w' F bd S bf {D with reads:=D.reads+n} aw/\∀j,bf j->T j\/w.heap.size<=j)/\Kept (λj=>j=bd\/T j) w w':=by
 have ar:Hid _:=h;change Hid _ at bs a7 ag aF aM bc;clear h bx;have bJ:=ar.disk.lt bd ar.disk.bdS;have ap:Hid _:=ar.chg.lt;have aG:Hid _:=ar.disk.lt;have J:Hid (Kept (λ_=>False) w ((w.alloc (.cells (qE e).toArray 109)).alloc (.cells qI.toArray 109))):=Kept.alloc2 _ _ _;have aj:Hid (((w.alloc (.cells (qE e).toArray 109)).alloc (.cells qI.toArray 109)).heap[w.heap.size+1]? =some (.cells qI.toArray 109 (0,0))):=heap_alloc2_new w _ _;have af:Hid (((w.alloc (.cells (qE e).toArray 109)).alloc (.cells qI.toArray 109)).heap[w.heap.size]? =some (.cells (qE e).toArray 109 (0,0))):=((Kept.alloc (λ_=>False) _ _).block w.heap.size (by simp) id).trans (heap_alloc_new w _);have aC:((w.alloc (.cells (qE e).toArray 109)).alloc (.cells qI.toArray 109)).heap.size=w.heap.size+2:=by simp
 unfold qI at J aj af aC;unfold qE at J aj af aC ⊢;go_enter Tryz.func137,Tryz.ntmps137;go_wp2_with fail;change Hid (Kept _ w ((w.alloc (.cells #[.string e.pl.key,.int .i64 e.pl.num,.bool e.mark,.int .i64 (e.size:Int),.int .i64 (e.at_:Int)] 109)).alloc (.cells #[.string ⟨#[]⟩,.int .i64 0,.bool false,.int .i64 0,.int .i64 0] 109))) at J;generalize ((w.alloc (.cells #[.string e.pl.key,.int .i64 e.pl.num,.bool e.mark,.int .i64 (e.size:Int),.int .i64 (e.at_:Int)] 109)).alloc (.cells #[.string ⟨#[]⟩,.int .i64 0,.bool false,.int .i64 0,.int .i64 0] 109))=bm at*;refine(yR bm F bd S T D C (ar.kept0 J) bb (by omega) V bi 4 k (.inl rfl) aF (λ_=>a7) aK bc).mono ?_;rintro r f ⟨a,cap,rfl,⟨ac,a5,aR,au⟩,L,y,Y,am⟩;have aU:Hid (Kept (λj=>j=bd) bm f):=L;have aB:Hid (f.ownsRow 0 109 5 (.slice a k.length cap) k.length (zj k)):=Y;have br:=L.size;have Q:Hid (f.heap[w.heap.size]? =_):=(L.block _ (by omega) (by omega)).trans af.out;have aP:Hid (f.heap[w.heap.size+1]? =_):=(L.block _ (by omega) (by omega)).trans aj.out;change Hid _ at au am y;clear L Y;have bo:f.cell? ⟨w.heap.size,0,none⟩=some (.string e.pl.key):=cR Q.out rfl;have bz:f.cell? ⟨w.heap.size,1,none⟩=some (.int .i64 e.pl.num):=cR Q.out rfl;have bA:w.heap.size<f.heap.size:=by omega
 have ao:∀j,(Value.slice a k.length cap).ownBlock=some j->bm.heap.size<=j/\j<f.heap.size:=λj q=>⟨am j q,(aB.lt j q).2⟩;change Hid _ at ao;go_wp2_with fail;have aE:Hid (Kept (λ_=>False) f (f.alloc (.cells #[.int .u8 4,.slice a k.length cap] 209))):=Kept.alloc _ _ _;have ba:Hid ((f.alloc (.cells #[.int .u8 4,.slice a k.length cap] 209)).heap[f.heap.size]? =some (.cells #[.int .u8 4,.slice a k.length cap] 209 (0,0))):=heap_alloc_new f _;have bQ:(f.alloc (.cells #[.int .u8 4,.slice a k.length cap] 209)).heap.size=f.heap.size+1:=by simp
 generalize (f.alloc (.cells #[.int .u8 4,.slice a k.length cap] 209))=bp at*;refine(kf bp _ a cap k (y.kept aE nF) aM 4 e.pl).mono ?_;rintro r A ⟨rfl,W⟩;have Z:Hid _:=aE.trans W iL;have bt:=W.size;have R:Hid (A.heap[f.heap.size]? =_):=(W.block _ (by omega) id).trans ba.out;clear W;have x:Hid (A.heap[w.heap.size]? =_):=(Z.block _ (by omega) id).trans Q.out;have aQ:Hid (A.heap[w.heap.size+1]? =_):=(Z.block _ (by omega) id).trans aP.out;have be:A.cell? ⟨w.heap.size,0,none⟩=some (.string e.pl.key):=cR x.out rfl;have a0:A.cell? ⟨w.heap.size,1,none⟩=some (.int .i64 e.pl.num):=cR x.out rfl;have bl:A.cell? ⟨w.heap.size,2,none⟩=some (.bool e.mark):=cR x.out rfl;have aS:A.cell? ⟨w.heap.size,3,none⟩=some (.int .i64 (e.size:Int)):=cR x.out rfl;have bj:A.cell? ⟨w.heap.size,4,none⟩=some (.int .i64 (e.at_:Int)):=cR x.out rfl;have bn:A.cell? ⟨f.heap.size,0,none⟩=some (.int .u8 4):=cR R.out rfl;have a8:A.cell? ⟨f.heap.size,1,none⟩=some (.slice a k.length cap):=cR R.out rfl;have aX:Hid _:=av;generalize zr k e.pl=i at*;clear av;go_wp2_with fail;refine(uJ A _ a cap k (y.kept Z nF) aM 4 e.pl).mono ?_;rintro r b ⟨rfl,B⟩;rw [aX.out];have K:Hid (Kept (λ_=>False) f b):=Z.trans B iL;have bv:=B.size;have O:Hid (b.heap[f.heap.size]? =_):=(B.block _ (by omega) id).trans R.out;have u:Hid (b.heap[w.heap.size]? =_):=(B.block _ (by omega) id).trans x.out;have an:Hid (b.heap[w.heap.size+1]? =_):=(B.block _ (by omega) id).trans aQ.out;have aD:Hid _:=y.kept K nF;have bP:Hid _:=K.owns aB nF;have aN:Hid (Cw b.drew F bd S T {D with reads:=D.reads+ac} C):=(au.kept0 K).kept0 (Kept.drew _ b);have al:Hid (Kept (λj=>j=bd\/T j) w b):=((J.mono fE).trans aU (λ_ h=>.inl (.inl h))).trans K fE;clear B be a0 bl aS bj bn a8 bo bz;obtain⟨g,az,rfl⟩:=aD.base (by omega);obtain⟨-, -, -, -, aY, -, bI⟩:=aD.cells c bk;have bT:=ao.out g rfl;have ak:Hid (∀w0:World,Cw w0 F bd S T {D with reads:=D.reads+ac} C->_):=λw0 bg=>ag.go w0 ac a5 aR bg;generalize k[c].at_=a2 at*;have be:b.cell? ⟨w.heap.size,0,none⟩=some (.string e.pl.key):=cR u.out rfl;have a0:b.cell? ⟨w.heap.size,1,none⟩=some (.int .i64 e.pl.num):=cR u.out rfl;have bl:b.cell? ⟨w.heap.size,2,none⟩=some (.bool e.mark):=cR u.out rfl;have aS:b.cell? ⟨w.heap.size,3,none⟩=some (.int .i64 (e.size:Int)):=cR u.out rfl;have bj:b.cell? ⟨w.heap.size,4,none⟩=some (.int .i64 (e.at_:Int)):=cR u.out rfl;have a8:b.cell? ⟨f.heap.size,1,none⟩=some (.slice (some ⟨g,az,none⟩) k.length cap):=cR O.out rfl;have bE:(c:Int)<(k.length:Int):=by omega
 have t:∀j,w.heap.size<=j->¬(j=bd\/T j):=λj q av=>av.elim (λh=>by omega) (λh=>by have:=ap.out j h;omega);change Hid _ at t;unfold qI at ak;have bu:¬b.heap.size=f.heap.size:=by omega
 have bB:¬b.heap.size=g:=by omega
 have bC:¬b.heap.size=w.heap.size:=by omega
 have ae:Hid (Kept (λ_=>False) b b.drew):=Kept.drew _ b;have z:Hid (Kept (λ_=>False) b (b.alloc (.cells #[.string ⟨#[]⟩,.int .i64 0,.bool false,.int .i64 0,.int .i64 0] 109)).drew):=(Kept.alloc _ _ _).trans (Kept.drew _ _) iL;have ay:Hid _:=(au.kept0 K).kept0 z.out;have a3:(b.alloc (.cells #[.string ⟨#[]⟩,.int .i64 0,.bool false,.int .i64 0,.int .i64 0] 109)).heap.size=b.heap.size+1:=by simp
 go_wp2_with fail
 go_region_held3 (λw'=>w'.cell? ⟨f.heap.size,1,none⟩=some (.slice (some ⟨g,az,none⟩) k.length cap)/\w'.cell? ⟨g,az+c*5+4,none⟩=some (.int .i64 (a2:Int))/\w'.cell? ⟨w.heap.size,0,none⟩=some (.string e.pl.key)/\w'.cell? ⟨w.heap.size,1,none⟩=some (.int .i64 e.pl.num)/\w'.cell? ⟨w.heap.size,2,none⟩=some (.bool e.mark)/\w'.cell? ⟨w.heap.size,3,none⟩=some (.int .i64 (e.size:Int))/\w'.cell? ⟨w.heap.size,4,none⟩=some (.int .i64 (e.at_:Int))) (go_keep) ((go_at_call 137;first
  |(refine(ak _ (by exact aN)).mono ?_;rintro r d ⟨rfl,⟨ax,I,aO,aI,G,N⟩,E⟩;have ah:Hid _:=G;have ab:Hid (∀j,I j->T j\/b.drew.heap.size<=j):=N;have l:Hid _:=(ae.mono fE).trans E iL;have P:Hid (d.heap[f.heap.size]? =_):=(l.block _ (show f.heap.size<b.heap.size by omega) (t _ (by omega))).trans O.out;have p:Hid (d.heap[w.heap.size]? =_):=(l.block _ (show w.heap.size<b.heap.size by omega) (t _ (by omega))).trans u.out;have U:Hid (d.heap[w.heap.size+1]? =_):=(l.block _ (show w.heap.size+1<b.heap.size by omega) (t _ (by omega))).trans an.out;have a6:d.cell? ⟨f.heap.size,1,none⟩=some (.slice (some ⟨g,az,none⟩) k.length cap):=(cR P.out rfl);have aW:=(l.cell (a:=⟨g,az+c*5+4,none⟩) (show g<b.heap.size by omega) (t g (by omega))).trans aY;have a4:d.cell? ⟨w.heap.size,0,none⟩=some (.string e.pl.key):=(cR p.out rfl);have aV:d.cell? ⟨w.heap.size,1,none⟩=some (.int .i64 e.pl.num):=(cR p.out rfl);have aT:d.cell? ⟨w.heap.size,2,none⟩=some (.bool e.mark):=(cR p.out rfl);have a9:d.cell? ⟨w.heap.size,3,none⟩=some (.int .i64 (e.size:Int)):=(cR p.out rfl);have a1:d.cell? ⟨w.heap.size,4,none⟩=some (.int .i64 (e.at_:Int)):=(cR p.out rfl);have aL:=l.size;clear G N E)
  |(refine(ak _ (by exact ay)).mono ?_;rintro r d ⟨rfl,⟨ax,I,aO,aI,G,N⟩,E⟩;have ah:Hid _:=G;have ab:Hid (∀j,I j->T j\/(b.alloc (.cells #[.string ⟨#[]⟩,.int .i64 0,.bool false,.int .i64 0,.int .i64 0] 109)).drew.heap.size<=j):=N;have l:Hid (Kept (λj=>j=bd\/T j) b d):=(z.mono fE).trans E iL;have P:Hid (d.heap[f.heap.size]? =_):=(l.block _ (show f.heap.size<b.heap.size by omega) (t _ (by omega))).trans O.out;have p:Hid (d.heap[w.heap.size]? =_):=(l.block _ (show w.heap.size<b.heap.size by omega) (t _ (by omega))).trans u.out;have U:Hid (d.heap[w.heap.size+1]? =_):=(l.block _ (show w.heap.size+1<b.heap.size by omega) (t _ (by omega))).trans an.out;have a6:d.cell? ⟨f.heap.size,1,none⟩=some (.slice (some ⟨g,az,none⟩) k.length cap):=(cR P.out rfl);have aW:d.cell? ⟨g,az+c*5+4,none⟩=some (.int .i64 (a2:Int)):=(l.cell (a:=⟨g,az+c*5+4,none⟩) (show g<b.heap.size by omega) (t g (by omega))).trans aY;have a4:d.cell? ⟨w.heap.size,0,none⟩=some (.string e.pl.key):=(cR p.out rfl);have aV:d.cell? ⟨w.heap.size,1,none⟩=some (.int .i64 e.pl.num):=(cR p.out rfl);have aT:d.cell? ⟨w.heap.size,2,none⟩=some (.bool e.mark):=(cR p.out rfl);have a9:d.cell? ⟨w.heap.size,3,none⟩=some (.int .i64 (e.size:Int)):=(cR p.out rfl);have a1:d.cell? ⟨w.heap.size,4,none⟩=some (.int .i64 (e.at_:Int)):=(cR p.out rfl);have aL:b.heap.size<=d.heap.size:=l.size;have s:Hid (d.heap[b.heap.size]? =some (.cells #[.string ⟨#[]⟩,.int .i64 0,.bool false,.int .i64 0,.int .i64 0] 109 (0,0))):=(E.block b.heap.size (show b.heap.size<(b.alloc (.cells #[.string ⟨#[]⟩,.int .i64 0,.bool false,.int .i64 0,.int .i64 0] 109)).heap.size by rw [a3];omega) (t _ (by omega))).trans (heap_alloc_new b _);have bN:d.cell? ⟨b.heap.size,0,none⟩=some (.string ⟨#[]⟩):=(cR s.out rfl);have bR:=aa d b.heap.size 0 _ _ s.out;have bU:d.cell? ⟨b.heap.size,1,none⟩=some (.int .i64 0):=(cR s.out rfl);have bK:=aa d b.heap.size 1 _ _ s.out;have bS:d.cell? ⟨b.heap.size,2,none⟩=some (.bool false):=(cR s.out rfl);have bG:=aa d b.heap.size 2 _ _ s.out;have bL:d.cell? ⟨b.heap.size,3,none⟩=some (.int .i64 0):=(cR s.out rfl);have bF:=aa d b.heap.size 3 _ _ s.out;have bO:d.cell? ⟨b.heap.size,4,none⟩=some (.int .i64 0):=(cR s.out rfl);have bM:=aa d b.heap.size 4 _ _ s.out;clear G N E)))
 have o:Hid ((d.alloc (.cells #[.string ⟨#[]⟩,.int .i64 0,.bool false,.int .i64 0,.int .i64 0] 109)).heap[w.heap.size+1]? =_):=((Kept.alloc (λ_=>False) d _).block _ (by omega) id).trans U.out;have aA:Hid (Cw (d.alloc (.cells #[.string ⟨#[]⟩,.int .i64 0,.bool false,.int .i64 0,.int .i64 0] 109)) F bd S I {D with reads:=D.reads+ac+ax} aw):=ah.kept0 (Kept.alloc _ _ _);have aq:Hid (Kept (λj=>j=bd\/T j) w (d.alloc (.cells #[.string ⟨#[]⟩,.int .i64 0,.bool false,.int .i64 0,.int .i64 0] 109))):=(al.trans l iL).trans (Kept.alloc (λ_=>False) _ _) fE;have ai:Hid (∀j,I j->T j\/b.heap.size<=j):=ab.out;have aJ:d.heap.size<=(d.alloc (.cells #[.string ⟨#[]⟩,.int .i64 0,.bool false,.int .i64 0,.int .i64 0] 109)).heap.size:=by simp
 generalize (d.alloc (.cells #[.string ⟨#[]⟩,.int .i64 0,.bool false,.int .i64 0,.int .i64 0] 109))=X at*
 rotate_left
 obtain⟨aZ,H⟩:=vK d b.heap.size 109 _ _ _ _ _ (.string ⟨#[]⟩) (.int .i64 0) (.bool false) (.int .i64 0) (.int .i64 0) s.out;have o:Hid ((((((d.setCell ⟨b.heap.size,0,none⟩ (.string ⟨#[]⟩)).setCell ⟨b.heap.size,1,none⟩ (.int .i64 0)).setCell ⟨b.heap.size,2,none⟩ (.bool false)).setCell ⟨b.heap.size,3,none⟩ (.int .i64 0)).setCell ⟨b.heap.size,4,none⟩ (.int .i64 0)).heap[w.heap.size+1]? =_):=(H.block _ (by omega) (by omega)).trans U.out;have ai:Hid (∀j,I j->T j\/b.heap.size<=j):=λj q=>(ab j q).imp id (λh=>by have bw:(b.alloc (.cells #[.string ⟨#[]⟩,.int .i64 0,.bool false,.int .i64 0,.int .i64 0] 109)).heap.size<=j:=h;omega)
 have aA:Hid (Cw (((((d.setCell ⟨b.heap.size,0,none⟩ (.string ⟨#[]⟩)).setCell ⟨b.heap.size,1,none⟩ (.int .i64 0)).setCell ⟨b.heap.size,2,none⟩ (.bool false)).setCell ⟨b.heap.size,3,none⟩ (.int .i64 0)).setCell ⟨b.heap.size,4,none⟩ (.int .i64 0)) F bd S I {D with reads:=D.reads+ac+ax} aw):=ah.kept H (λj q aH=>by have:=aG.out j q;omega) (λj q aH=>by
  rcases ab j q with ad|ad;.have:=ap.out j ad;omega
  .have bw:(b.alloc (.cells #[.string ⟨#[]⟩,.int .i64 0,.bool false,.int .i64 0,.int .i64 0] 109)).heap.size<=j:=ad;omega)
 have aq:Hid _:=(al.trans l iL).trans H (λj q=>.inr (by omega));have aJ:=H.size;clear aZ H;generalize (((((d.setCell ⟨b.heap.size,0,none⟩ (.string ⟨#[]⟩)).setCell ⟨b.heap.size,1,none⟩ (.int .i64 0)).setCell ⟨b.heap.size,2,none⟩ (.bool false)).setCell ⟨b.heap.size,3,none⟩ (.int .i64 0)).setCell ⟨b.heap.size,4,none⟩ (.int .i64 0))=X at*
 rotate_left
 all_goals
  have b0:X.cell? ⟨w.heap.size+1,0,none⟩=some (.string ⟨#[]⟩):=cR o.out rfl;have b1:=aa X (w.heap.size+1) 0 _ _ o.out;have b2:X.cell? ⟨w.heap.size+1,1,none⟩=some (.int .i64 0):=cR o.out rfl;have bY:=aa X (w.heap.size+1) 1 _ _ o.out;have bZ:X.cell? ⟨w.heap.size+1,2,none⟩=some (.bool false):=cR o.out rfl;have bW:=aa X (w.heap.size+1) 2 _ _ o.out;have bV:X.cell? ⟨w.heap.size+1,3,none⟩=some (.int .i64 0):=cR o.out rfl;have b4:=aa X (w.heap.size+1) 3 _ _ o.out;have b3:X.cell? ⟨w.heap.size+1,4,none⟩=some (.int .i64 0):=cR o.out rfl;have bX:=aa X (w.heap.size+1) 4 _ _ o.out;go_wp2;obtain⟨bq,bh⟩:=vK X (w.heap.size+1) 109 _ _ _ _ _ (.string ⟨#[]⟩) (.int .i64 0) (.bool false) (.int .i64 0) (.int .i64 0) o.out;refine bodyPost_ret (v:=.tuple #[.agg qI.toArray,.bool false]) (qW Tryz.results137 _ _ (w.heap.size+1) 109 _ (0,0) _ rfl bq Tryz.underlying109 rfl (by kernel_rfl)) rfl ⟨rfl,⟨ac+ax,I,by omega,by omega,?_,λj q=>(ai j q).imp id (λh=>by omega)⟩,?_⟩
  .have:=aA.kept bh (λj q aH=>by have:=aG.out j q;omega) (λj q aH=>by
    rcases ai j q with ad|ad;.have:=ap.out j ad;omega
    .omega)
   rw [eG] at this;exact this
  .exact aq.trans bh (λj q=>.inr (by omega))
end prog
end Go.Proofs.YtcoengihaobddaaGreatDoor
