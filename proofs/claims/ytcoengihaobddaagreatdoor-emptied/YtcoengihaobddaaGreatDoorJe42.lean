/- Part 42 of 50 of a proof: Keep12, Keep13 -/
import Derived.Test.YtcoengihaobddaaGreatDoorJe41
set_option maxHeartbeats 8000000
set_option linter.unusedVariables false
set_option linter.unusedSimpArgs false
set_option maxRecDepth 8000
namespace Go.Proofs.YtcoengihaobddaaGreatDoor
namespace keep
open Go.ChangeShapes Go.WideShapes Go.ChangeAt Go.RowKit disk ref book
open law (zP za zL qx qr zD xm J6 Chg Uc)
open keys (zg zd zq zl zh)
theorem wpList_append_own{P:Program}{p:Array Oper}{rest:List Oper}{D:Oper}{a:Act}{w:World}{Q:Exit->Act->World->Prop}(B:D.guard=none)(s Z:Operand)(t:TypeId)
 (R:D.op=.call {callee:=.builtin .append,args:=#[s,Z],argTypes:=#[t,t] })
 (e:TypeId) (i:TypeInfo) (z:Value) (b bytes:Nat) (J:P.underlying t=some (.slice e)) (W:P.info? e=some i) (O:i.zero=some z)
 (l:i.size=b) (G:i.bytes=bytes) (H:z.cells.size=b) (F:0<b) (v:Value) (n:Nat) (y:List Value) (V:a.eval s=v) (q:w.ownsRow 0 e b v n y)
 (x:Addr) (m c:Nat) (d:List Value) (X:a.eval Z=.slice (some x) m c) (S:d.length=m*b) (o:∀j u,d[j]? =some u->w.cell? (x.add j)=some u) (L:∀u∈d,u.oneCell'=true)
 (E:n+m<=maxLen) (k:(n+m)*bytes<=140737488355328)
 (h:∀g f w',w'.ownsRow 0 e b (.slice g (n+m) f) (n+m) (y++d)->w.grownBy w' v.ownBlock->((Value.slice g (n+m) f).ownBlock=v.ownBlock\/(Value.slice g (n+m) f).ownBlock=some w.heap.size)->wpList P p Q rest (a.put D.dst (.slice g (n+m) f)) w'):wpList P p Q (D::rest) a w:=by
 refine md B λab K=>?_;obtain⟨I,w',T,C,U,_,M⟩:=mn (P:=P) w 0 t D.type e i z b bytes J W O l G H F v n y q x m c d S o L E k (ai _)
 obtain⟨g,f,rfl⟩:∃g f,I=.slice g (n+m) f:=by
  rcases C.2 with⟨A,N⟩|⟨aa,r,Y,A,_⟩;.exact⟨none,0,by rw [A,N]⟩
  .exact⟨_,r,A⟩
 unfold Oper.wp execOp;simp only [R,resolve,invoke,builtin,il,iI,eM,iQ,aT,im,V,X,T];exact K _ _ (h g f w' C U M)
def cut{α:Type}(l:List α)(i:Nat):List α:=l.take i++l.drop (i+1)
theorem vP{α:Type}(l:List α)(i:Nat)(h:i<l.length):(cut l i).length+1=l.length:=by unfold cut;simp;omega
theorem uB:∀(vs:List zw) (i:Nat) (h:i<vs.length),xt vs->qF vs vs[i].key vs[i].num=cut vs i
 |u::vs,0,_,ha=>by unfold xt at ha;rw [aR] at ha;unfold qF cut;simp only [ms,mj,aH,aV,iN,mh];rw [hE,az (by simp)];refine eT.2 (λv e=>?_);have:=ha.1 v e;have a:¬(v.key=u.key/\v.num=u.num):=λc=>this ⟨c.1.symm,c.2.symm⟩;rw [ij,iM];simp only [ne_eq,aS,aO];exact a
 |u::vs,i+1,h,ha=>by
  unfold xt at ha;rw [aR] at ha;have d:i<vs.length:=by simpa using h
  have b:=uB vs i d ha.2;have a:¬(u.key=vs[i].key/\u.num=vs[i].num):=ha.1 _ (ag d);unfold qF cut at b ⊢;simp only [mu,iB,iN,a9];rw [hE,aB (by rw [ij,iM];simp only [ne_eq,aS,aO];exact a),b]
theorem YF{α:Type}(l:List α)(i j:Nat)(h:j<(cut l i).length)(c:i<l.length):∃k,∃d:k<l.length,(cut l i)[j]=l[k]/\k=if j<i then j else j+1:=by
 have e:=vP l i c;unfold cut at h ⊢;by_cases a:j<i
 .refine⟨j,by omega,?_,by rw [aB a]⟩;rw [ie (by simp;omega),lO]
 .have b:j+1<l.length:=by simp at h;omega
  refine⟨j+1,b,?_,by rw [az a]⟩;rw [ip (by simp;omega),lP];congr 1;simp;omega
theorem Told.cut{w:World}{P:Nat->Prop}{cs:List (List Value)}{vs:List zw}(h:Told w P cs vs)(i:Nat)(c:i<vs.length):Told w P (cut cs i) (cut vs i):=by
 have o:=h.len;have q:=vP cs i (by omega);have p:=vP vs i c;refine⟨by omega,λj m b=>?_⟩;obtain⟨k,g,l,f⟩:=YF cs i j m (by omega);obtain⟨n,d,e,a⟩:=YF vs i j b c;obtain rfl:k=n:=by rw [f,a]
 rw [l,e];exact h.each k g d
theorem qQ{cs:List (List Value)}(h:∀c∈cs,c.length=3):cs.flatten.length=cs.length*3:=by
 induction cs with
 |nil=>rfl
 |cons c cs b=>
  rw [eo,ah,b (λd a=>h d (al _ a)),h c (am ..),ae];omega
section
variable {M:za} {w w2 w':World} {X T:Nat->Prop} {bp bd bs:Nat} {S S2:Nat->Prop} {D D2:Dk} {V V':zP} {a:Option Addr} {cap:Nat} {cs:List (List Value)} {G:Nat->Prop}
theorem yk.erased(h:yk M w X bp bd bs S D V a cap cs G)(k2:Kept (λk=>S k\/k=bs) w w2)(n:∀k,S2 k->(S k\/w.heap.size<=k)/\k<w2.heap.size)(J:zD M w2 bd bs S2 D2 V')(C:D2.bs.length=1000)(i:Nat)(A:i<V.vs.length)(B:V'.vs=cut V.vs i)(I:V'.n0=V.n0)
 (c:World) (s:Kept (λ_=>False) w2 c) (f:Option Addr) (g d:Nat) (K:d+1=V.vs.length) (m:c.ownsRow 0 85 3 (.slice f d g) d (cut cs i).flatten) (r:∀k,(Value.slice f d g).ownBlock=some k->w2.heap.size<=k):
 yk M (c.setCell ⟨bp,2,none⟩ (.slice f d g)) (λk=>X k\/(w.heap.size<=k/\k<(c.setCell ⟨bp,2,none⟩ (.slice f d g)).heap.size)) bp bd bs S2 D2 V' f g (cut cs i) G/\Kept X w (c.setCell ⟨bp,2,none⟩ (.slice f d g)):=by
 have p:=h.lt;have hbs:=h.xlt bs h.xb;have O:=k2.size;have N:=s.size;have t:V'.vs.length=d:=by have:=vP V.vs i A;rw [B];omega
 have u:=Kept.setCell (S:=λk=>k=bp) c ⟨bp,2,none⟩ (.slice f d g) rfl;have o:Kept (λk=>k=bp) w2 (c.setCell ⟨bp,2,none⟩ (.slice f d g)):=(s.mono fE).trans u iL;have L:=u.size;have j:∀k,k<w.heap.size->¬S k->¬S2 k:=λk q y F=>by rcases (n k F).1 with z|z;exact y z;omega
 have l:∀k,(Value.slice f V'.vs.length g).ownBlock=some k->w2.heap.size<=k/\k<c.heap.size:=λk b=>by rw [t] at b;exact⟨r k b,(m.lt k b).2⟩
 refine⟨⟨?_,zD.kept J o (λk b e=>j bp p h.pS (by rw [<-show k=bp from e];exact b)) (λe=>h.pb e.symm),C,?_,?_,?_,?_,.inl h.xb,.inl h.xp,?_,λk b=>.inl (h.xG k b),j bp p h.pS,h.pb,?_,?_⟩,?_⟩
 .have e:c.heap[bp]? =_:=(s.block bp (by omega) (λE=>E)).trans ((k2.block bp p (λv=>v.elim h.pS h.pb)).trans h.head);rw [heap_setCell_same c bp 2 _ _ _ e,t,I];rfl
 .rw [t];exact u.owns m (λk b e=>by have:=r k b;omega)
 .rw [B];refine((h.told.kept k2 (λk b v=>?_)).kept o (λk b e=>(h.gS k b).2.2.1 e)).cut i A;have:=h.gS k b;exact v.elim this.1 this.2.1
 .intro k b;rcases b with b|⟨_,b⟩;.have:=h.xlt k b;omega
  .exact b
 .intro k b;rcases n k b with⟨q|q,y⟩;.exact .inl (h.xS k q)
  .exact .inr ⟨q,by omega⟩
 .intro k b;have:=l k b;exact .inr ⟨by omega,by omega⟩
 .intro k b;have:=l k b;exact⟨λH=>by have:=(n k H).2;omega,by omega,by omega⟩
 .intro k b;have:=h.gS k b;have x:=h.xlt k (h.xG k b);exact⟨j k x this.1,this.2.1,this.2.2.1,λe=>by have:=l k e;omega⟩
 .refine(k2.mono (λk b=>?_)).trans o (λk b=>.inl (by rw [show k=bp from b];exact h.xp));rcases b with b|rfl;.exact h.xS k b
  .exact h.xb
end
theorem xT{c p:Option Nat}{B C k:Nat}(h:c=p\/c=some B)(d:C<=B)(b:∀j,p=some j->C<=j)(a:c=some k):C<=k:=by
 rcases h with h|h;.exact b k (h.symm.trans a)
 .have:=aK (h.symm.trans a);omega
section
variable {M:za} {w w':World} {X T:Nat->Prop} {bp bd bs:Nat} {S:Nat->Prop} {D:Dk} {V:zP} {a:Option Addr} {cap:Nat} {cs:List (List Value)} {G:Nat->Prop}
theorem yk.bare(h:yk M w X bp bd bs S D V a cap cs G):xH M {w with heap:=#[]} w bp bd bs (Vt bd bs (.slice a V.vs.length cap) V.n0) S D V:=
 ⟨h.fore,h.head,h.pS,h.pb,λ_ _=>ai _,ai _,⟨rfl,rfl,rfl,ai _,λk b=>absurd b (Nat.not_lt_zero k)⟩,h.size⟩
set_option maxRecDepth 60000 in
theorem QK(A:qr M)(bt:∀f,M.Fu f->f≠0)(h:yk M w X bp bd bs S D V a cap cs G)(bG:D.reads<=1000000000)(bk:V.n0<=1000000)(bv:weight V.vs<=480)(i:Nat)(L:i<V.vs.length):
 Calls Tryz.prog 33 #[.pointer (some ⟨bp,0,none⟩),.int .i64 (i:Int)] w λe w'=>e=.returned (.bool true)/\∃S' bg bu W a6 G',yk M w' (λk=>X k\/(w.heap.size<=k/\k<w'.heap.size)) bp bd bs S' bg ⟨cut V.vs i,V.n0⟩ bu W a6 G'/\bg.reads<=D.reads+40/\Kept X w w':=by
 obtain⟨a4,bN,bK,bn,bc,bj,bm⟩:=h.c;obtain⟨g,rfl⟩:=h.rowAt (by omega);obtain⟨k0,k1,_⟩:=h.cells i L;have K:Hid (yk M w X bp bd bs S D V (some ⟨g,0,none⟩) cap cs G):=h;have ab:=h.fore.live.good
 have aS:Hid (V.sub V.vs[i].key V.vs[i].num=⟨cut V.vs i,V.n0⟩):=by show (⟨qF V.vs V.vs[i].key V.vs[i].num,V.n0⟩:zP)=_;rw [uB V.vs i L ab.apart]
 have a3:Hid (zh V.vs[i].key.data.toList=true):=ab.key _ (ag L);have a1:=ab.num _ (ag L);have bb:Hid (zs V.vs[i].num):=⟨by omega,by omega⟩;have a7:Hid (∃v∈V.vs,v.key=V.vs[i].key/\v.num=V.vs[i].num):=⟨_,ag L,rfl,rfl⟩;generalize V.vs[i].key=aZ at*;generalize V.vs[i].num=aO at*;have bJ:(i:Int)<(V.vs.length:Int):=by omega
 have bF:=yM V.vs;have a8:=h.lt;have hbs:=h.xlt bs h.xb;have T:=h.rS g rfl;have an:=h.xlt g (h.xr g rfl);have bl:=h.told.len
 have aM:V.vs.length<=cap/\cap<=maxLen:=by
  rcases h.row.2 with⟨bz,ad⟩|⟨bO,W,bE,bx,_,_,br,bw,_⟩;.cases bz
  .cases bx;exact⟨br,bw⟩
 have bq:cap<=9223372036854775807:=by have:=aM.2;unfold maxLen at this;omega
 have bo:(V.vs.length:Int)<=(cap:Int):=by omega
 have bH:(i:Int)+1<=(V.vs.length:Int):=by omega
 have bD:IntKind.i64.wrap ((i:Int)+1)=(i:Int)+1:=IntWalk.i64_in _ (by omega);obtain⟨J,ao,ap,aw,aj⟩:=qU Tryz.infoKp;have d:Hid (Tryz.prog.info? 85=some J/\J.zero=some (.agg #[.string ⟨#[]⟩,.int .i64 0,.slice none 0 0])/\J.size=3/\J.bytes=48):=⟨ao,ap,aw,aj⟩;have U:=h.told.one;have az:=h.told.three;have aI:Hid (∀c∈cs,c.length=3):=az;have a5:Hid (∀u∈cs.flatten,u.oneCell'=true):=U;clear h ab ao ap aw aj a4 bn bc bj bm U az a1;go_enter Tryz.func33,Tryz.ntmps33;go_wp2_with fail;go_region_held3 (λw'=>w'.cell? ⟨bp,1,none⟩=some (.pointer (some ⟨bs,0,none⟩))/\w'.cell? ⟨bp,2,none⟩=some (.slice (some ⟨g,0,none⟩) V.vs.length cap)/\w'.cell? ⟨g,i*3,none⟩=some (.string aZ)/\w'.cell? ⟨g,i*3+1,none⟩=some (.int .i64 aO)) (go_keep) ((go_at_call 31;refine(YE A bt (K.out.bare.keep (Kept.drew (λ_=>False) w)) (by omega) bk bv aZ a3.out aO bb.out a7.out).mono ?_;rw [aS.out];rintro e w2 ⟨S2,D2,rfl,y,R,ae⟩;have H:Hid (Kept (λk=>S k\/k=bs) w w2):=⟨y.kept.os,y.kept.tape,y.kept.output,y.kept.size,y.kept.block⟩;have aE:Hid (zD M w2 bd bs S2 D2 ⟨cut V.vs i,V.n0⟩):=R.fore;have av:Hid (D2.bs.length=1000):=R.size;have au:Hid (∀k,S2 k->(S k\/w.heap.size<=k)/\k<w2.heap.size):=(λk b=>⟨y.foot k b,y.disk.lt k b⟩);have Q:w2.heap[bp]? =_:=(H.out.block bp a8 (λx=>x.elim K.out.pS K.out.pb)).trans K.out.head;have ar:Hid (w2.heap[bp]? =some (.cells #[.pointer (some ⟨bd,0,none⟩),.pointer (some ⟨bs,0,none⟩),.slice (some ⟨g,0,none⟩) V.vs.length cap,.int .i64 V.n0,.int .i64 (-1),.int .i64 0,.bool true] 33 (0,0))):=Q;have bC:w2.cell? ⟨bp,1,none⟩=some (.pointer (some ⟨bs,0,none⟩)):=(ak w2 bp 1 _ _ _ Q).trans rfl;have bB:w2.cell? ⟨bp,2,none⟩=some (.slice (some ⟨g,0,none⟩) V.vs.length cap):=(ak w2 bp 2 _ _ _ Q).trans rfl;have bL:w2.cell? ⟨g,i*3,none⟩=some (.string aZ):=(H.out.cell (a:=⟨g,i*3,none⟩) an (λx=>x.elim T.1 T.2.1)).trans k0;have bM:w2.cell? ⟨g,i*3+1,none⟩=some (.int .i64 aO):=(H.out.cell (a:=⟨g,i*3+1,none⟩) an (λx=>x.elim T.1 T.2.1)).trans k1;clear y R Q));have ax:Hid (w2.ownsRow 0 85 3 (.slice (some ⟨g,0,none⟩) V.vs.length cap) V.vs.length cs.flatten):=H.out.owns K.out.row (λk b x=>by have:=K.out.rS k b;exact x.elim this.1 this.2.1);have R:=H.out.size;have aq:(cs.take i).length=i:=by rw [ay];omega
 have aG:Hid (∀c∈cs.take i,c.length=3):=λc x=>aI.out c (aJ x);have aB:Hid (cs.flatten=(cs.take i).flatten++(cs.drop i).flatten):=by show cs.flatten=_;rw [<-aY,aA]
 have aD:Hid (∀(j:Nat) (u:Value),(cs.take i).flatten[j]? =some u->w2.cell? ((⟨g,0,none⟩:Addr).add j)=some u):=λj u z=>ax.out.cells (g:=g) rfl j u (by
  rw [aB.out,eW (aW.1 z).1];exact z)
 have al:Hid (∀u∈(cs.take i).flatten,u.oneCell'=true):=λu z=>a5.out u (by rw [aB.out];exact ac _ z);have ai:Hid ((cut cs i).flatten=(cs.take i).flatten++(cs.drop (i+1)).flatten):=by show (cut cs i).flatten=_;unfold cut;rw [aY]
 have bh:(cs.drop (i+1)).length=V.vs.length-(i+1):=by rw [aU,bl]
 have bi:Hid (∀c∈cs.drop (i+1),c.length=3):=λc x=>aI.out c (eJ x);have ah:Hid (cs.flatten=(cs.take (i+1)).flatten++(cs.drop (i+1)).flatten):=by show cs.flatten=_;rw [<-aY,aA]
 have aF:(cs.take (i+1)).flatten.length=(i+1)*3:=by rw [qQ (λc x=>aI.out c (aJ x)),ay];omega
 have am:Hid ((cs.take (i+1)).flatten.length=(i+1)*3):=aF
 have ba:Hid (∀a2:World,Kept (λ_=>False) w2 a2->∀(j:Nat) (u:Value),(cs.drop (i+1)).flatten[j]? =some u->a2.cell? ((⟨g,(i+1)*3,none⟩:Addr).add j)=some u):=λa2 bA j u z=>by
  have ad:=(bA.owns ax.out nF).cells (g:=g) rfl ((i+1)*3+j) u (by
   rw [ah.out,ia (by rw [am.out];omega),am.out,iy];exact z)
  rw [eO] at ad ⊢;rw [aV] at ad;exact ad
 have be:Hid (∀u∈(cs.drop (i+1)).flatten,u.oneCell'=true):=λu z=>a5.out u (by rw [ah.out];exact af _ z);clear aF;by_cases bf:cap=i+1
 .subst bf;have bI:V.vs.length<=i+1:=by omega
  have a9:Hid ((cs.drop (i+1)).flatten=[]):=by show _=_;rw [eb (by omega)];rfl
  go_wp2_with (first
   |(refine wpList_append_own rfl (.tmp 31) (.tmp 37) 31 rfl 85 J _ 3 48 Tryz.underlying31 d.out.1 d.out.2.1 d.out.2.2.1 d.out.2.2.2 rfl (by omega) (.slice none 0 0) 0 [] (by rfl) (aP _ _ _ _) ⟨g,0,none⟩ i (i+1) (cs.take i).flatten (by rfl) (by rw [qQ aG.out,aq]) aD.out al.out (by unfold maxLen;omega) (by omega) ?_;intro O P n r m B;have N:Hid (n.ownsRow 0 85 3 (.slice O i P) i (cs.take i).flatten):=(by have F:=r;rw [aV,aH] at F;exact F);have o:Hid (Kept (λ_=>False) w2 n):=Kept.grown m (λk b=>by cases b);have p:Hid (∀k,(Value.slice O i P).ownBlock=some k->w2.heap.size<=k):=(λk b=>xT (by have F:=B;rw [aV] at F;exact F) (aC _) (λj aQ=>by cases aQ) b);have s:n.heap[bp]? =_:=(o.out.block bp (by omega) (λa0=>a0)).trans ar.out;have Y:Hid (n.heap[bp]? =some (.cells #[.pointer (some ⟨bd,0,none⟩),.pointer (some ⟨bs,0,none⟩),.slice (some ⟨g,0,none⟩) V.vs.length (i+1),.int .i64 V.n0,.int .i64 (-1),.int .i64 0,.bool true] 33 (0,0))):=s;have aL:n.cell? ⟨bp,2,none⟩=some (.slice (some ⟨g,0,none⟩) V.vs.length (i+1)):=(ak n bp 2 _ _ _ s).trans rfl;have aT:=aa n bp 2 _ _ s;clear r m B s)
   |(refine wpList_append_own rfl (.tmp 40) (.tmp 47) 31 rfl 85 J _ 3 48 Tryz.underlying31 d.out.1 d.out.2.1 d.out.2.2.1 d.out.2.2.2 rfl (by omega) (.slice O i P) i (cs.take i).flatten (by rfl) (by exact N.out) ⟨g,0,none⟩ 0 0 [] (by rfl) (by rfl) (λj u z=>by cases z) (λu z=>by cases z) (by unfold maxLen;omega) (by omega) ?_;intro aN aR t q l E;have Z:Hid _:=yk.erased K.out H.out au.out aE.out av.out i L rfl rfl t (by exact(o.out.trans (Kept.grown (S:=λk=>w2.heap.size<=k) l (λk b=>p.out k b)) (λk b=>.inr b))) aN aR (i+0) (by omega) (by rw [ai.out,a9.out];exact q) (λk b=>xT E o.out.size p.out b);have I:Kept (λk=>w2.heap.size<=k) n t:=Kept.grown l (λk b=>p.out k b);have C:t.heap[bp]? =_:=(I.block bp (by have:=o.out.size;omega) (by omega)).trans Y.out;have aK:t.cell? ⟨bp,2,none⟩=some (.slice (some ⟨g,0,none⟩) V.vs.length (i+1)):=(ak t bp 2 _ _ _ C).trans rfl;have aX:=aa t bp 2 _ _ C;clear q l E I C))
  all_goals
   go_ret;exact⟨rfl,S2,D2,_,_,_,_,Z.out.1,ae,Z.out.2⟩
 .go_wp2_with (first
   |(refine wpList_append_own rfl (.tmp 31) (.tmp 37) 31 rfl 85 J _ 3 48 Tryz.underlying31 d.out.1 d.out.2.1 d.out.2.2.1 d.out.2.2.2 rfl (by omega) (.slice none 0 0) 0 [] (by rfl) (aP _ _ _ _) ⟨g,0,none⟩ i cap (cs.take i).flatten (by rfl) (by rw [qQ aG.out,aq]) aD.out al.out (by unfold maxLen;omega) (by omega) ?_;intro O P n r m B;have N:Hid (n.ownsRow 0 85 3 (.slice O i P) i (cs.take i).flatten):=(by have F:=r;rw [aV,aH] at F;exact F);have o:Hid (Kept (λ_=>False) w2 n):=Kept.grown m (λk b=>by cases b);have p:Hid (∀k,(Value.slice O i P).ownBlock=some k->w2.heap.size<=k):=(λk b=>xT (by have F:=B;rw [aV] at F;exact F) (aC _) (λj aQ=>by cases aQ) b);have s:n.heap[bp]? =_:=(o.out.block bp (by omega) (λa0=>a0)).trans ar.out;have Y:Hid (n.heap[bp]? =some (.cells #[.pointer (some ⟨bd,0,none⟩),.pointer (some ⟨bs,0,none⟩),.slice (some ⟨g,0,none⟩) V.vs.length cap,.int .i64 V.n0,.int .i64 (-1),.int .i64 0,.bool true] 33 (0,0))):=s;have aL:n.cell? ⟨bp,2,none⟩=some (.slice (some ⟨g,0,none⟩) V.vs.length cap):=(ak n bp 2 _ _ _ s).trans rfl;have aT:=aa n bp 2 _ _ s;clear r m B s)
   |(refine wpList_append_own rfl (.tmp 40) (.tmp 47) 31 rfl 85 J _ 3 48 Tryz.underlying31 d.out.1 d.out.2.1 d.out.2.2.1 d.out.2.2.2 rfl (by omega) (.slice O i P) i (cs.take i).flatten (by rfl) (by exact N.out) ⟨g,(i+1)*3,none⟩ (V.vs.length-(i+1)) (cap-(i+1)) (cs.drop (i+1)).flatten (by rfl) (by rw [qQ bi.out,bh]) (by exact ba.out _ o.out) be.out (by unfold maxLen;omega) (by omega) ?_;intro aN aR t q l E;have Z:Hid _:=yk.erased K.out H.out au.out aE.out av.out i L rfl rfl t (by exact(o.out.trans (Kept.grown (S:=λk=>w2.heap.size<=k) l (λk b=>p.out k b)) (λk b=>.inr b))) aN aR (i+(V.vs.length-(i+1))) (by omega) (by rw [ai.out];exact q) (λk b=>xT E o.out.size p.out b);have I:Kept (λk=>w2.heap.size<=k) n t:=Kept.grown l (λk b=>p.out k b);have C:t.heap[bp]? =_:=(I.block bp (by have:=o.out.size;omega) (by omega)).trans Y.out;have aK:t.cell? ⟨bp,2,none⟩=some (.slice (some ⟨g,0,none⟩) V.vs.length cap):=(ak t bp 2 _ _ _ C).trans rfl;have aX:=aa t bp 2 _ _ C;clear q l E I C))
  all_goals
   go_ret;exact⟨rfl,S2,D2,_,_,_,_,Z.out.1,ae,Z.out.2⟩
end
end keep
end Go.Proofs.YtcoengihaobddaaGreatDoor
