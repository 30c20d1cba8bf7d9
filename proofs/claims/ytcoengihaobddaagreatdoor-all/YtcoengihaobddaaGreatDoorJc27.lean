/- Part 27 of 36 of a proof: Rem2, Rem3, Fre3, Fre4, Fre5, Fre6, Rem4, Rem5 -/
import Derived.Test.YtcoengihaobddaaGreatDoorJc26
import Derived.OwnWalk
set_option maxHeartbeats 8000000
set_option linter.unusedVariables false
set_option linter.unusedSimpArgs false
set_option maxRecDepth 8000
namespace Go.Proofs.YtcoengihaobddaaGreatDoor
namespace prog
open Go.ChangeShapes Go.WideShapes Go.ChangeAt Go.RowKit disk ref
open keys (zh ze zy zs)
variable {w wr:World}{g k cap j p:Nat}{ws V:List (Nat×List Value)}{i:Int}
theorem Zi{b:List Value}(h:w.ownsRow 0 109 5 (.slice (some ⟨g,0,none⟩) k cap) k b)(L:List Value)(n:k*5+L.length<=cap*5):(w.setCells g (k*5) L).ownsRow 0 109 5 (.slice (some ⟨g,0,none⟩) k cap) k b:=by
 rcases h.2 with⟨j,_⟩|⟨o,i,a,c,l,f,e,h2,m,d⟩;.cases j
 .cases c;refine⟨h.1,.inr ⟨g,cap,_,rfl,l,qa g _ L (k*5) w a f (by omega),e,h2,?_,?_⟩⟩
  .simp;omega
  .show (a.toList.take (k*5)++L++a.toList.drop (k*5+L.length)).take (k*5)=_;rw [ak,aZ (by simp;omega),an (by simp;omega)];exact d
theorem Yv{b:List Value}(h:w.ownsRow 0 109 5 (.slice (some ⟨g,0,none⟩) k cap) k b)(i n:Nat)(o:i+n<=cap*5):w.there g i n:=by
 rcases h.2 with⟨d,_⟩|⟨s,c,f,e,l,a,r,h2,j,q⟩;.cases d
 .cases e;intro m p;refine⟨?_,aa w g _ _ _ a⟩;rw [aG w g _ _ _ _ a,i7 (by omega)];rfl
section
attribute [local go_sem ↓] dj
theorem gd(w:World)(g n cap:Nat)(b:List En)(f:b.length=n)(h:w.ownsRow 0 109 5 (.slice (some ⟨g,0,none⟩) n cap) n (zj b))(i:Nat)(ar:i<n)(au:n<=1000):
 Calls Tryz.prog 181 #[.slice (some ⟨g,0,none⟩) n cap,.int .i64 (i:Int),.int .i64 ((i:Int)+1)] w λe w'=>e=.returned (.slice (some ⟨g,0,none⟩) (n-1) cap)/\w'.ownsRow 0 109 5 (.slice (some ⟨g,0,none⟩) (n-1) cap) (n-1) (zj (b.eraseIdx i))/\za (λj=>j=g) w w':=by
 obtain⟨Y,y,E,z,I⟩:=eZ Tryz.infoEntry
 have W:n<=cap:=by
  rcases h.2 with⟨R,_⟩|⟨ap,Q,ag,G,_,an,V,h2,aq,ao⟩;.cases R
  .cases G;exact V
 have m:w.drew.ownsRow 0 109 5 (.slice (some ⟨g,0,none⟩) n cap) n (zj b):=(za.drew (λ_=>False) w).owns h nF;obtain⟨s,a,c,d⟩:=run_append_fits (P:=Tryz.prog) w.drew 0 207 207 109 Y 5 Tryz.underlying207 y z g i cap (zj (b.take i)) (Yu m i (by omega) f) ⟨g,(i+1)*5,none⟩ (n-(i+1)) (cap-(i+1)) (zj (b.drop (i+1))) (by rw [yk,aS,f]) (Uj m (i+1) (by omega) f) (ki _) (by omega);have q:(Xs #[.slice (some ⟨g,0,none⟩) i cap,.slice (some ⟨g,(i+1)*5,none⟩) (n-(i+1)) (cap-(i+1))]).run Tryz.prog w.drew=.ok (.slice (some ⟨g,0,none⟩) (i+(n-(i+1))) cap) s:=a
 have A:Hid (s.ownsRow 0 109 5 (.slice (some ⟨g,0,none⟩) (n-1) cap) (n-1) (zj (b.eraseIdx i))):=by
  have l:i+(n-(i+1))=n-1:=by omega
  rw [l,<-qS,<-lr] at c;exact c
 have H:Hid (za (λj=>j=g) w s):=((za.drew (λ_=>False) w).mono fE).trans (za.grown (S:=λj=>j=g) d (λk C=>(eG C).symm)) iL;have l:i+(n-(i+1))=n-1:=by omega
 rw [l] at q;have am:Hid (i+(n-(i+1))=n-1):=l;clear a c d m l y E z I;have ab:Hid _:=h;have t:Hid (b.length=n):=f;clear h f;have ak:(i:Int)+1<=(n:Int):=by omega
 have ah:(n:Int)<=(cap:Int):=by omega
 have al:(i:Int)<=(n:Int):=by omega
 have aj:(i:Int)<=(cap:Int):=by omega
 have af:(i:Int)+1<=(cap:Int):=by omega
 have ae:(0:Int)<=(i:Int)+1:=by omega
 have aa:¬cap=i:=by omega
 have O:¬(cap:Int)=(i:Int):=by omega
 by_cases X:cap=i+1
 .obtain rfl:n=i+1:=by omega
  subst X;have m:w.drew.ownsRow 0 109 5 (.slice (some ⟨g,0,none⟩) (i+1) (i+1)) (i+1) (zj b):=(za.drew (λ_=>False) w).owns ab.out nF;obtain⟨ac,B,M,v,F⟩:=eZ Tryz.infoEntry;obtain⟨r,a,c,d⟩:=run_append_fits (P:=Tryz.prog) w.drew 0 207 207 109 ac 5 Tryz.underlying207 B v g i (i+1) (zj (b.take i)) (Yu m i (by omega) t.out) ⟨g,0,none⟩ 0 0 [] rfl (λj u Z=>by simp at Z) (by simp) (by omega);have N:(Xs #[.slice (some ⟨g,0,none⟩) i (i+1),.slice (some ⟨g,0,none⟩) 0 0]).run Tryz.prog w.drew=.ok (.slice (some ⟨g,0,none⟩) i (i+1)) r:=a
  have x:Hid (r.ownsRow 0 109 5 (.slice (some ⟨g,0,none⟩) i (i+1)) i (zj (b.eraseIdx i))):=by
   rw [aM] at c;have l:b.eraseIdx i=b.take i:=by rw [lr,eo (by rw [t.out];exact aF _),aM]
   rw [l];exact c
  have K:Hid (za (λj=>j=g) w r):=((za.drew (λ_=>False) w).mono fE).trans (za.grown (S:=λj=>j=g) d (λk C=>(eG C).symm)) iL;clear a c d m B M v F q;have ai:(i:Int)<=(i:Int)+1:=by omega
  go_enter Tryz.func181,Tryz.ntmps181;go_wp2_with fail;go_region_held3 (λ_=>True) (trivial) (fail);obtain⟨L,p,J⟩:=gc r g (i*5) 1 1 (by omega) (Yv x.out _ _ (by omega));have o:Hid (L.length=1*5):=p;clear p;go_wp2;go_ret;have D:=o.out;exact⟨rfl,Zi x.out L (by omega),K.out.trans (za.setCells (S:=λj=>j=g) g rfl _ _ _) iL⟩
 .have ad:¬(cap:Int)=(i:Int)+1:=by omega
  go_enter Tryz.func181,Tryz.ntmps181;go_wp2_with fail;go_region_held3 (λ_=>True) (trivial) (fail);obtain⟨L,p,J⟩:=gc s g ((n-1)*5) (n-(n-1)) (cap-(n-1)) (by omega) (Yv A.out _ _ (by omega));have o:Hid _:=p;have T:¬cap=n-1:=by omega
  have U:((n-1:Nat):Int)<=(n:Int):=by omega
  clear p;go_wp2;go_ret;have D:=o.out;exact⟨rfl,Zi A.out L (by omega),H.out.trans (za.setCells (S:=λj=>j=g) g rfl _ _ _) iL⟩
end
theorem Zj(w:World)(k:Nat)(h:k=4\/k=5)(a:Option Addr)(n cap:Nat):
 Calls Tryz.prog 182 #[.agg #[.int .u8 (k:Int),.slice a n cap]] w λe w'=>e=.returned (.bool (decide ((n:Int)<3)))/\za (λ_=>False) w w':=by
 have d:Hid (za (λ_=>False) w (w.alloc (.cells #[.int .u8 (k:Int),.slice a n cap] 209))):=za.alloc _ _ _;have f:Hid ((w.alloc (.cells #[.int .u8 (k:Int),.slice a n cap] 209)).heap[w.heap.size]? =some (.cells #[.int .u8 (k:Int),.slice a n cap] 209 (0,0))):=ac w _;have l:(w.alloc (.cells #[.int .u8 (k:Int),.slice a n cap] 209)).cell? ⟨w.heap.size,0,none⟩=some (.int .u8 (k:Int)):=cR f.out rfl;have m:(w.alloc (.cells #[.int .u8 (k:Int),.slice a n cap] 209)).cell? ⟨w.heap.size,1,none⟩=some (.slice a n cap):=cR f.out rfl
 have i:Hid (((room k:Nat):Int)=6):=by show ((room k:Nat):Int)=6;rcases h with rfl|rfl<;>decide
 have c:k<=6:=by omega
 go_enter Tryz.func182,Tryz.ntmps182;go_wp2_with fail;generalize (w.alloc (.cells #[.int .u8 (k:Int),.slice a n cap] 209))=j at*;go_region_held3 (λw'=>w'.cell? ⟨w.heap.size,0,none⟩=some (.int .u8 (k:Int))/\w'.cell? ⟨w.heap.size,1,none⟩=some (.slice a n cap)) (go_keep) ((go_at_call 129;refine(j9 _ k c).mono ?_;rintro e g ⟨rfl,b⟩;rw [b,i.out];clear b g));go_wp2;go_ret;exact⟨rfl,d.out.trans (za.drew (λ_=>False) j) iL⟩
def fL(ws:List (Nat×List Value))(i:Int):List (Nat×List Value):=ws.filter λp=> !decide ((p.1:Int)=i)
theorem fM(a:j<ws.length)(h:(ws[j].1:Int)=i):fL (ws.take (j+1)) i=fL (ws.take j) i:=by
 rw [ao a];unfold fL;rw [lP,List.filter_cons_of_neg (by rw [h];simp),mI,aM]
theorem Z0(a:j<ws.length)(h:¬(ws[j].1:Int)=i):fL (ws.take (j+1)) i=fL (ws.take j) i++[ws[j]]:=by
 rw [ao a];unfold fL;rw [lP,List.filter_cons_of_pos (by simpa using h),mI]
theorem Zk(h:yg ws i=some k):k<ws.length/\ws.take k=fL (ws.take (k+1)) i:=by
 unfold yg at h;rw [eQ] at h;obtain⟨a,d,h2⟩:=h;refine⟨a,?_⟩;rw [fM a (by simpa using d)];unfold fL;rw [eU.2];intro p b;obtain⟨j,c,rfl⟩:=ed b;rw [aC] at c;rw [lY];simpa using h2 j (by omega)
structure fe (w:World) (g cap:Nat) (ws:List (Nat×List Value)) (i:Int) (p j:Nat) (V:List (Nat×List Value)) (wr:World):Prop where
 pj:p<j
 jn:j<=ws.length
 len:V.length=ws.length
 front:V.take p=fL (ws.take j) i
 back:V.drop j=ws.drop j
 ok:∀q∈V,zT q.2
 row:wr.ownsRow 0 160 129 (.slice (some ⟨g,0,none⟩) ws.length cap) ws.length (V.map zN).flatten
 kept:za (λk=>k=g) w wr
theorem fe.wlen(h:fe w g cap ws i p j V wr):∀b∈V.map zN,b.length=129:=λb c=>by
 obtain⟨q,a,rfl⟩:=au.1 c;simp [zN,(h.ok q a).1]
theorem fe.at_(h:fe w g cap ws i p j V wr)(c:j<ws.length):∃b:j<V.length,V[j]=ws[j]:=by
 have b:j<V.length:=by rw [h.len];exact c
 refine⟨b,?_⟩;have a:=congrArg (·[0]?) h.back;simp only [lO,lD] at a;rw [aH b,aH c] at a;exact eG a
theorem fe.skip{a:World}(h:fe w g cap ws i p j V wr)(b:j<ws.length)(e:(ws[j].1:Int)=i)(k:za (λ_=>False) wr a):fe w g cap ws i p (j+1) V a where
 pj:=by have:=h.pj;omega
 jn:=b
 len:=h.len
 front:=by rw [fM b e];exact h.front
 back:=by have:=congrArg (List.drop 1) h.back;simpa [eA,iG] using this
 ok:=h.ok
 row:=k.owns h.row nF
 kept:=h.kept.trans k fE
theorem fe.move{c:World}(h:fe w g cap ws i p j V wr)(b:j<ws.length)(e:¬(ws[j].1:Int)=i)(k:za (λ_=>False) wr c):fe w g cap ws i (p+1) (j+1) (V.set p ws[j]) (c.setCells g (p*129) (zN ws[j])) where
 pj:=by have:=h.pj;omega
 jn:=b
 len:=by simp [h.len]
 front:=by
  have m:p<V.length:=by have:=h.pj;rw [h.len];omega
  rw [Z0 b e,<-h.front,ao (by simpa using m),List.getElem_set_self,List.take_set_of_le (aF _)]
 back:=by rw [List.drop_set_of_lt (by have:=h.pj;omega)];have:=congrArg (List.drop 1) h.back;simpa [eA,iG] using this
 ok:=λq d=>by
  rcases il d with d|rfl;.exact h.ok q d
  .obtain⟨l,f⟩:=h.at_ b;rw [<-f];exact h.ok _ (ai l)
 row:=by obtain⟨l,f⟩:=h.at_ b;have a:=k.owns h.row nF;rw [show ws.length=(V.map zN).length from by simp [h.len]] at a;have h2:=dq a h.wlen p (by have:=h.pj;simp [h.len];omega) (zN ws[j]) (by rw [<-f];exact h.wlen _ (au.2 ⟨_,ai l,rfl⟩));rw [<-lU,show (V.map zN).length=ws.length from by simp [h.len]] at h2;exact h2
 kept:=(h.kept.trans k fE).trans (za.setCells (S:=λk=>k=g) g rfl _ _ _) iL
theorem Z1(w:World)(f bd:Nat)(T:Nat->Prop)(C:Ck)(a:Option Addr)(cap:Nat)(h:qD w f bd T C a cap)(b:Nat)(i:Int)(d:w.heap[b]? =some (.cells #[.int .i64 i] 3 (0,0)))(g:yg C.ws i=none):
 Calls Tryz.prog 183 #[.slice a C.ws.length cap,.func (.func 184) #[] #[.pointer (some ⟨b,0,none⟩)]] w λe w'=>e=.returned (.slice a C.ws.length cap)/\za (λ_=>False) w w':=by
 change Hid _ at h d g;go_enter Tryz.func183,Tryz.ntmps183;go_wp2_with (go_at_call 201;refine(bB w f bd T C a cap h b i d).mono ?_;rintro e j ⟨rfl,c⟩;rw [g.out];change Hid _ at c;dsimp only [Gn]);go_ret;exact⟨rfl,c⟩
theorem Z2(w:World)(an bd:Nat)(T:Nat->Prop)(C:Ck)(g cap:Nat)(h:qD w an bd T C (some ⟨g,0,none⟩) cap)(b:Nat)(i:Int)(I:w.heap[b]? =some (.cells #[.int .i64 i] 3 (0,0)))(ao:b≠g)(k:Nat)(ad:yg C.ws i=some k):
 Calls Tryz.prog 183 #[.slice (some ⟨g,0,none⟩) C.ws.length cap,.func (.func 184) #[] #[.pointer (some ⟨b,0,none⟩)]] w λe w'=>e=.returned (.slice (some ⟨g,0,none⟩) (fL C.ws i).length cap)/\w'.ownsRow 0 160 129 (.slice (some ⟨g,0,none⟩) (fL C.ws i).length cap) (fL C.ws i).length ((fL C.ws i).map zN).flatten/\za (λj=>j=g) w w':=by
 obtain⟨K,Q,aN⟩:∃K:List Value,K=yu/\∀w,(zeroValue 160).run Tryz.prog w=.ok (.agg K.toArray) w:=⟨yu,rfl,zY Tryz.infoCw⟩;have P:Hid (K.length=129):=by rw [Q];exact congrArg (· +1) zH.1
 clear Q;have n:Hid _:=zZ Tryz.infoCw;obtain⟨ah,X⟩:=Zk ad;have aE:=h.few;have M:Hid _:=h;change Hid _ at X I ad;clear h;go_enter Tryz.func183,Tryz.ntmps183;have aM:((k:Int)== -1)=false:=by simp
 go_wp2_with (go_at_call 201;refine(bB w an bd T C _ cap M.out b i I.out).mono ?_;rintro e aP ⟨rfl,D⟩;rw [ad.out];change Hid _ at D;dsimp only [Gn]);go_loopw [5,6] (λaF ab wr=>∃(p j:Nat) (V:List (Nat×List Value)),aF=.int .i64 p/\ab=.int .i64 j/\fe w g cap C.ws i p j V wr) (λ_ ab _=>C.ws.length-(intOf ab).toNat)
 case atStart=>exact⟨k,k+1,C.ws,rfl,by go_num,by omega,ah,rfl,X.out,rfl,M.ok,D.owns M.row nF,D.mono fE⟩
 case round=>
  obtain⟨p,j,V,rfl,rfl,c⟩:=hrel;have aJ:=c.pj;have aK:=c.jn;change Hid _ at c;by_cases y:j<C.ws.length
  .obtain⟨aA,W⟩:=c.at_ y
   have ag:Hid (wr.rangeAt g (j*129) (.int .i64 (C.ws[j].1:Int)::C.ws[j].2)):=by have av:=c.row;rw [show C.ws.length=(V.map zN).length from by simp [c.len]] at av;have:=yr av c.wlen j (by simpa using aA);rw [ia,W] at this;exact this
   have a:Hid (zT C.ws[j].2):=M.ok _ (ai y);have aj:=(lT I.out);have aI:=c.kept.size;have aw:Hid (wr.heap[b]? =some (.cells #[.int .i64 i] 3 (0,0))):=(c.kept.block _ aj ao).trans I.out;have O:Hid (∀d,¬(C.ws[j].1:Int)=i->za (λ_=>False) wr d->fe w g cap C.ws i (p+1) (j+1) (V.set p C.ws[j]) (d.setCells g (p*129) (.int .i64 (C.ws[j].1:Int)::C.ws[j].2))):=λd e k=>c.move y e k;have U:Hid (∀d,(C.ws[j].1:Int)=i->za (λ_=>False) wr d->fe w g cap C.ws i p (j+1) V d):=λd e k=>c.skip y e k
   have G:Hid (∀d,za (λ_=>False) wr d->d.there g (p*129) 129):=λd k=>by
    rcases (k.owns c.row nF).2 with⟨F,_⟩|⟨am,E,v,t,_,z,o,h2,J,al⟩;.cases F
    .cases t;intro m ax
     have B:p*129+m<v.size:=by rw [J];have:(p+1)*129<=cap*129:=ee _ (by omega);omega
     refine⟨?_,aa d g _ _ _ z⟩;rw [aG d g _ _ _ _ z,i7 B];rfl
   clear W;generalize aB:C.ws[j]=q at*;obtain⟨f,l⟩:=q;clear aB;simp only at O U ag a;have x:Hid (za (λ_=>False) wr (wr.alloc (.cells (.int .i64 (f:Int)::l).toArray 160))):=za.alloc _ _ _;have Y:Hid ((wr.alloc (.cells (.int .i64 (f:Int)::l).toArray 160)).rangeAt wr.heap.size 0 (.int .i64 (f:Int)::l)):=zR (ac wr _);have N:Hid ((wr.alloc (.cells (.int .i64 (f:Int)::l).toArray 160)).heap[b]? =some (.cells #[.int .i64 i] 3 (0,0))):=(x.block _ (by omega) id).trans aw.out;have aL:(j:Int)<(C.ws.length:Int):=by omega
   by_cases s:(f:Int)=i
   .have H:Hid (((f:Int)==i)=true):=by show ((f:Int)==i)=true;simp [s]
    have Z:Hid _:=s;clear s
    go_wp2_with (first
     |(show wpList _ _ _ ({dst:=some 25,op:=.load _ _,type:=_,pos:=_,after:=_,guard:=_}::_) _ _;refine wpList_load_mid rfl 160 (.tmp 24) rfl _ _ rfl (.int .i64 (f:Int)::l) _ ag.out Tryz.underlying160 rfl (by rw [ae,a.1];exact n.out) ?_)
     |(show wpList _ _ _ ({dst:=none,op:=.store _ (.tmp 7) (.tmp 25),type:=_,pos:=_,after:=_,guard:=_}::_) _ _;refine zi rfl 160 (.tmp 7) (.tmp 25) rfl _ _ (.int .i64 (f:Int)::l) rfl rfl rfl (by rw [ae,a.1];exact n.out) (by rw [ae,a.1];simpa using P.out) (aQ.2 ⟨rfl,a.2⟩) ?_)
     |(show wpList _ _ _ ({dst:=some 27,op:=.load _ _,type:=_,pos:=_,after:=_,guard:=_}::_) _ _;refine wpList_load_mid rfl 160 (.tmp 7) rfl _ _ rfl (.int .i64 (f:Int)::l) _ Y.out Tryz.underlying160 rfl (by rw [ae,a.1];exact n.out) ?_)
     |(go_at_call 184;refine(vL _ b i N.out f l a.out).mono ?_;rintro e af ⟨rfl,r⟩;rw [H.out];have u:Hid _:=r;clear r))
    go_roundw
    case rel=>exact⟨p,j+1,V,rfl,by go_num,U.out _ Z.out (x.trans u.out iL)⟩
    case measure=>simp [intOf];omega
   .have H:Hid (((f:Int)==i)=false):=by show ((f:Int)==i)=false;simpa using s
    have Z:Hid _:=s;clear s;have ap:(p:Int)<(C.ws.length:Int):=by omega
    go_wp2_with (first
     |(show wpList _ _ _ ({dst:=some 25,op:=.load _ _,type:=_,pos:=_,after:=_,guard:=_}::_) _ _;refine wpList_load_mid rfl 160 (.tmp 24) rfl _ _ rfl (.int .i64 (f:Int)::l) _ ag.out Tryz.underlying160 rfl (by rw [ae,a.1];exact n.out) ?_)
     |(show wpList _ _ _ ({dst:=none,op:=.store _ (.tmp 7) (.tmp 25),type:=_,pos:=_,after:=_,guard:=_}::_) _ _;refine zi rfl 160 (.tmp 7) (.tmp 25) rfl _ _ (.int .i64 (f:Int)::l) rfl rfl rfl (by rw [ae,a.1];exact n.out) (by rw [ae,a.1];simpa using P.out) (aQ.2 ⟨rfl,a.2⟩) ?_)
     |(show wpList _ _ _ ({dst:=some 27,op:=.load _ _,type:=_,pos:=_,after:=_,guard:=_}::_) _ _;refine wpList_load_mid rfl 160 (.tmp 7) rfl _ _ rfl (.int .i64 (f:Int)::l) _ Y.out Tryz.underlying160 rfl (by rw [ae,a.1];exact n.out) ?_)
     |(go_at_call 184;refine(vL _ b i N.out f l a.out).mono ?_;rintro e af ⟨rfl,r⟩;rw [H.out];have u:Hid _:=r;have au:Hid (af.rangeAt wr.heap.size 0 (.int .i64 (f:Int)::l)):=zR ((r.block wr.heap.size (by simp) id).trans (ac wr _));clear r)
     |(show wpList _ _ _ ({dst:=some 32,op:=.load _ _,type:=_,pos:=_,after:=_,guard:=_}::_) _ _;refine wpList_load_mid rfl 160 (.tmp 7) rfl _ _ rfl (.int .i64 (f:Int)::l) _ au.out Tryz.underlying160 rfl (by rw [ae,a.1];exact n.out) ?_)
     |(show wpList _ _ _ ({dst:=none,op:=.store _ (.tmp 33) (.tmp 32),type:=_,pos:=_,after:=_,guard:=_}::_) _ _;refine wpList_store_mid rfl 160 (.tmp 33) (.tmp 32) rfl g (p*129) _ rfl rfl (by rw [aq,ae,a.1];exact G.out af (x.trans u.out iL)) (by rw [aq,ae,a.1];exact n.out) (all_oneCell_toArray (aQ.2 ⟨rfl,a.2⟩)) ?_))
    go_roundw
    case rel=>exact⟨p+1,j+1,_,by go_num,by go_num,O.out _ Z.out (x.trans u.out iL)⟩
    case measure=>simp [intOf];omega
  .obtain rfl:j=C.ws.length:=by omega
   have A:(fL C.ws i).length=p:=by have o:=congrArg List.length c.front;rw [eN,aC,c.len,a8 (by omega)] at o;exact o.symm
   have ak:Hid (V.take p=fL C.ws i):=by have o:=c.front;rw [eN] at o;exact o
   have ay:C.ws.length<=cap:=by
    rcases c.row.2 with⟨F,_⟩|⟨am,E,v,t,_,z,o,h2,J,al⟩;.cases F
    .cases t;exact o
   have G:Hid (wr.there g (p*129) ((C.ws.length-p)*129)):=by
    show wr.there g (p*129) ((C.ws.length-p)*129);rcases c.row.2 with⟨F,_⟩|⟨am,E,v,t,_,z,o,h2,J,al⟩;.cases F
    .cases t;intro m ax
     have B:p*129+m<v.size:=by rw [J];have:C.ws.length*129<=cap*129:=ee _ o;rw [Nat.sub_mul] at ax;have:p*129<=C.ws.length*129:=ee _ (by omega);omega
     refine⟨?_,aa wr g _ _ _ z⟩;rw [aG wr g _ _ _ _ z,i7 B];rfl
   obtain⟨L,az,aO⟩:=ZY wr g (p*129) (C.ws.length-p) (cap-p) (by omega) G.out;have R:=XR c.row c.ok c.len p (by omega) L (by rw [az,Nat.sub_mul];have:p*129<=C.ws.length*129:=ee _ (by omega);omega);have ar:Hid ((wr.setCells g (p*129) L).ownsRow 0 160 129 (.slice (some ⟨g,0,none⟩) p cap) p ((fL C.ws i).map zN).flatten):=by rw [<-ak.out];exact R
   have aH:¬cap=p:=by omega
   have ap:(p:Int)<=(C.ws.length:Int):=by omega
   have aD:(p:Int)<=(cap:Int):=by omega
   change Hid _ at A;clear R;go_wp2;go_ret;refine⟨by rw [A.out];rfl,by rw [A.out];exact ar.out,c.kept.trans (za.setCells (S:=λk=>k=g) g rfl _ _ _) iL⟩
theorem XS:∀(r:Fin 8) (a:Fin 256),bits BinOp.andNot IntKind.u8 (a.val:Int) (gL r.val)=((a.val&&&(255^^^2^r.val):Nat):Int):=by decide+kernel
theorem XT(a r:Nat)(b:a<256)(c:r<8):bits BinOp.andNot IntKind.u8 (a:Int) (gL r)=((a&&&(255^^^2^r):Nat):Int):=XS ⟨r,c⟩ ⟨a,b⟩
def Ck.free(C:Ck)(m:List UInt8)(i:Nat):Ck:={C.put 2 (zm (zS (jR m i))) with ws:=fL (C.put 2 (zm (zS (jR m i)))).ws ((i:Int)+21)}
theorem qD.shorter{w':World}{a bd:Nat}{T:Nat->Prop}{C:Ck}(h:qD w a bd T C (some ⟨g,0,none⟩) cap)(ws:List (Nat×List Value))(i:∀p∈ws,zT p.2)(n:ws.length<=C.ws.length)
 (c:w'.ownsRow 0 160 129 (.slice (some ⟨g,0,none⟩) ws.length cap) ws.length (ws.map zN).flatten) (l:za (λj=>j=g) w w'):
 qD (w'.setCell ⟨a,1,none⟩ (.slice (some ⟨g,0,none⟩) ws.length cap)) a bd T {C with ws:=ws} (some ⟨g,0,none⟩) cap:=by
 have d:a≠g:=λe=>h.ap (by rw [<-e];rfl);have b:w'.heap[a]? =_:=(l.block a (h.lt a h.bcT) d).trans h.head;refine⟨i,?_,?_,h.own,h.ap,by show ws.length<=1000;have:=h.few;omega⟩;.rw [heap_setCell_same w' a 1 _ _ _ b];rfl
 .exact(za.setCell (S:=λk=>k=a) w' ⟨a,1,none⟩ _ rfl).owns c (λk f e=>h.ap (by
   have m:(Value.slice (some ⟨g,0,none⟩) C.ws.length cap).ownBlock=(Value.slice (some ⟨g,0,none⟩) ws.length cap).ownBlock:=rfl
   rw [m,f,show k=a from e]))
section
attribute [local go_sem ↓] jx
theorem gg(w:World)(c bd:Nat)(S T:Nat->Prop)(D:Dk)(C:Ck)(h:Cw w c bd S T D C)(m:List UInt8)(B:qF (C.look D 2) m)(aF:0<=D.reads)(aH:D.reads<=4611686018427387904)(av:C.ws.length<1000)(i:Nat)(bh:i<979):
 Calls Tryz.prog 143 #[.pointer (some ⟨c,0,none⟩),.int .i64 ((i:Int)+21)] w λe w'=>e=.returned (.tuple #[])/\(∃(n:Int) (aI:Nat->Prop),0<=n/\n<=1/\Cw w' c bd S aI {D with reads:=D.reads+n} (C.free m i)/\∀k,aI k->T k\/w.heap.size<=k)/\za (λk=>k=bd\/T k) w w':=by
 obtain⟨X,ae,bg⟩:∃X:List Value,X=zX/\∀w,(zeroValue 154).run Tryz.prog w=.ok (.agg X.toArray) w:=⟨zX,rfl,zY Tryz.infoPage⟩;have aQ:Hid (zT X):=by rw [ae];exact zH
 clear ae;have a6:Hid _:=zZ Tryz.infoPage;have a4:Hid _:=h;have aS:=B.len;have L:Hid _:=yf (xX B.len);have aM:Hid _:=h.disk.lt;have y:Hid _:=h.chg.lt;have a9:=h.disk.lt bd h.disk.bdS;change Hid _ at B;clear h;go_enter Tryz.func143,Tryz.ntmps143;have ad:Hid (za (λ_=>False) w (w.alloc (.cells #[.int .i64 ((i:Int)+21)] 3))):=za.alloc _ _ _;have ay:Hid ((w.alloc (.cells #[.int .i64 ((i:Int)+21)] 3)).heap[w.heap.size]? =some (.cells #[.int .i64 ((i:Int)+21)] 3 (0,0))):=ac w _;have bb:(w.alloc (.cells #[.int .i64 ((i:Int)+21)] 3)).heap.size=w.heap.size+1:=by simp
 go_wp2_with fail;generalize (w.alloc (.cells #[.int .i64 ((i:Int)+21)] 3))=ax at*;refine(uN ax c bd S T D C (a4.kept0 ad) m B aF aH).mono ?_;rintro e b ⟨rfl,⟨W,al,Y,ai⟩,G⟩;have aC:Hid (za (λk=>k=bd) ax b):=G;have bc:=G.size;have ab:Hid (b.heap[w.heap.size]? =some (.cells #[.int .i64 ((i:Int)+21)] 3 (0,0))):=(G.block _ (by omega) (by omega)).trans ay.out;have bl:b.cell? ⟨w.heap.size,0,none⟩=some (.int .i64 ((i:Int)+21)):=cR ab.out rfl;have bm:w.heap.size<b.heap.size:=by omega
 change Hid _ at ai;clear G
 go_wp2_with (first
  |(show wpList _ _ _ ({dst:=none,op:=.store _ (.tmp 4) (.tmp 8),type:=_,pos:=_,after:=_,guard:=_}::_) _ _;refine zi rfl 154 (.tmp 4) (.tmp 8) rfl _ _ (zm (zS m)) (by simp) rfl rfl (by rw [L.1];exact a6) (by rw [aq,aQ.1,L.1]) L.2 ?_)
  |(go_at_call 171;refine(gM _ i (by omega)).mono ?_;rintro e bi ⟨rfl,U,rfl⟩))
 have aU:Hid (qR ((b.alloc (.cells (zm (zS m)).toArray 154)).drewN U) b.heap.size (zS m)):=(show qR (b.alloc (.cells (zm (zS m)).toArray 154)) b.heap.size (zS m) from⟨⟨ac b _⟩,xX B.len⟩).kept (T:=λ_=>False) kD (λar=>ar);have aA:Hid (za (λ_=>False) b ((b.alloc (.cells (zm (zS m)).toArray 154)).drewN U)):=(za.alloc _ _ _).trans (S':=λ_=>False) kD iL;have aK:((b.alloc (.cells (zm (zS m)).toArray 154)).drewN U).heap.size=b.heap.size+1:=by show (b.alloc _).heap.size=_;simp
 generalize (b.alloc (.cells (zm (zS m)).toArray 154)).drewN U=az at*;refine(jj az _ _ aU).mono ?_;rintro e bf ⟨rfl,V,rfl⟩;have R:ja b.heap.size (zS m).kind (zS m).items.length=.slice (some ⟨b.heap.size,4,none⟩) 124 124:=by simp [ja,zS,zk,aS]
 rw [R];clear R;have O:Hid (qR (az.drewN V) b.heap.size (zS m)):=aU.kept (T:=λ_=>False) kD (λar=>ar);have A:Hid (za (λ_=>False) b (az.drewN V)):=aA.trans (S':=λ_=>False) kD iL;have aD:(az.drewN V).heap.size=b.heap.size+1:=aK;generalize az.drewN V=s at*;have aV:=QV B.len O (i/8) (by omega);have a8:=O.bs.fz (4+i/8);have t:=(m.getD (i/8) 0).toNat_lt;have ao:Hid (jR m i=m.set (i/8) (UInt8.ofNat ((m.getD (i/8) 0).toNat&&&(255^^^2^(i%8))))):=rfl;have aZ:=XT (m.getD (i/8) 0).toNat (i%8) (m.getD (i/8) 0).toNat_lt (by omega);have a5:Hid ((m.getD (i/8) 0).toNat&&&(255^^^2^(i%8))<256):=mr mJ t;generalize (m.getD (i/8) 0).toNat=bj at*;generalize a3:bj&&&(255^^^2^(i%8))=M at*;have af:Hid (qR (s.setCell ⟨b.heap.size,4+i/8,none⟩ (.int .u8 (M:Int))) b.heap.size (zS (jR m i))):=by rw [ao.out];exact map_set B.len O i (by omega) M a5.out
 have N:Hid (za (λk=>k=b.heap.size) s (s.setCell ⟨b.heap.size,4+i/8,none⟩ (.int .u8 (M:Int)))):=za.setCell (S:=λk=>k=b.heap.size) s ⟨b.heap.size,4+i/8,none⟩ (.int .u8 (M:Int)) rfl;have Z:Hid (zT (zm (zS (jR m i)))):=yf af.ok;have aB:(uL (.pointer (some ⟨b.heap.size,0,none⟩))).run Tryz.prog (s.setCell ⟨b.heap.size,4+i/8,none⟩ (.int .u8 (M:Int)))=.ok (.agg (zm (zS (jR m i))).toArray) (s.setCell ⟨b.heap.size,4+i/8,none⟩ (.int .u8 (M:Int))):=xN _ _ _ _ (zR af.bs.at_) Z.1;clear a3;have be:(i:Int)/8<124:=by omega
 have a0:0<=(i:Int)/8:=by omega
 go_wp2_with fail;have aE:Hid (Cw (s.setCell ⟨b.heap.size,4+i/8,none⟩ (.int .u8 (M:Int))) c bd S T {D with reads:=D.reads+W} C):=(ai.kept0 A).kept N (λj f K=>by have a1:=aM.out j f;omega) (λj f K=>by have a1:=y.out j f;have h2:j=b.heap.size:=K;omega);have aN:Hid ((s.setCell ⟨b.heap.size,4+i/8,none⟩ (.int .u8 (M:Int))).heap[w.heap.size]? =some (.cells #[.int .i64 ((i:Int)+21)] 3 (0,0))):=(N.block _ (by omega) (by omega)).trans ((A.block _ (by omega) id).trans ab);have ba:(s.setCell ⟨b.heap.size,4+i/8,none⟩ (.int .u8 (M:Int))).heap.size=b.heap.size+1:=by rw [<-aD];simp
 have an:Hid (za (λk=>k=bd) w (s.setCell ⟨b.heap.size,4+i/8,none⟩ (.int .u8 (M:Int)))):=(((ad.mono fE).trans aC iL).trans A fE).trans N (λj f=>.inr (by omega));generalize (s.setCell ⟨b.heap.size,4+i/8,none⟩ (.int .u8 (M:Int)))=aT at*;refine(jz aT c bd S T _ C aE 2 _ Z av).mono ?_;rintro e z ⟨rfl,⟨v,J,I⟩,Q⟩;have aO:Hid (za T aT z):=Q;have ag:Hid (z.heap[w.heap.size]? =some (.cells #[.int .i64 ((i:Int)+21)] 3 (0,0))):=(Q.block _ (by omega) (λaX=>by have:=y.out _ aX;omega)).trans aN.out;change Hid _ at J I;clear Q aB;generalize aj:C.put 2 (zm (zS (jR m i)))=l at*;change Hid _ at aj;obtain⟨a,cap,d⟩:=J.chg;have bk:=d.c1;change Hid _ at d;have aL:Hid (C.free m i={l with ws:=fL l.ws ((i:Int)+21) }):=by show C.free m i=_;unfold Ck.free;rw [aj.out]
 have x:Hid (∀k,v k->T k\/w.heap.size<=k):=λk aY=>(I k aY).imp id (λh=>by omega);have P:Hid (za (λk=>k=bd\/T k) w z):=(an.mono iL).trans aO (λ_ h=>.inl (.inr h));have r:v c:=d.bcT;have H:Hid (∀k,S k->¬v k):=J.apart;have am:Hid (zg z bd S {D with reads:=D.reads+W }):=J.disk
 have aW:¬c=w.heap.size:=λe=>by
  rcases x c r with h|h;.have:=y.out c h;omega
  .rcases I c r with h2|h2;.have:=y.out c h2;omega
   .omega
 change Hid _ at r
 cases t:yg l.ws ((i:Int)+21) with
 |none=>
  have aw:Hid _:=t
  have a7:Hid (fL l.ws ((i:Int)+21)=l.ws):=by show fL l.ws ((i:Int)+21)=l.ws;unfold fL;rw [eU];intro p ap;unfold yg at t;rw [im] at t;simpa using t p ap
  clear t;go_wp2_with (go_at_call 183;refine(Z1 z c bd v l a cap d w.heap.size _ ag aw).mono ?_;rintro e q ⟨rfl,o⟩;have u:Hid (za (λ_=>False) z q):=o;have E:Hid (qD q c bd v l a cap):=d.kept o nF;have a2:=E.c1;have aP:=E.fz 1;clear o);go_end0;have GR:q.setCell ⟨c,1,none⟩ (.slice a l.ws.length cap)=q:=dR E.head rfl;rw [GR];refine⟨rfl,⟨W,v,al,Y,⟨am.kept u nF,?_,H⟩,x⟩,P.trans u fE⟩;rw [aL.out,a7.out];exact⟨a,cap,E⟩
 |some k=>
  have aw:Hid _:=t;obtain⟨g,rfl⟩:=d.rowAt (by have:=(Zk t).1;omega);clear t;have F:v g:=(d.own g).2 (.inr rfl)
  have aG:w.heap.size≠g:=λe=>by
   rcases I g F with h2|h2;.have:=y.out g h2;omega
   .omega
  have au:¬c=g:=λe=>d.ap (by rw [<-e];rfl);change Hid _ at F;go_wp2_with (go_at_call 183;refine(Z2 z c bd v l g cap d w.heap.size _ ag aG k aw).mono ?_;rintro e q ⟨rfl,ak,o⟩;have u:Hid _:=o;have ah:Hid _:=(o.block c (d.lt c d.bcT) au).trans d.head;have a2:q.cell? ⟨c,1,none⟩=some (.slice (some ⟨g,0,none⟩) l.ws.length cap):=(cR ah.out rfl);have aP:q.frozen? ⟨c,1,none⟩=false:=aa q c 1 _ _ ah.out;change Hid _ at ak;clear o);go_end0;have aR:=d.shorter (fL l.ws ((i:Int)+21)) (λp ap=>d.ok p (ei.1 ap).1) (ip _ _) ak u.out;have aJ:za (λk=>k=c) q (q.setCell ⟨c,1,none⟩ (.slice (some ⟨g,0,none⟩) (fL l.ws ((i:Int)+21)).length cap)):=za.setCell (S:=λk=>k=c) q ⟨c,1,none⟩ _ rfl;refine⟨rfl,⟨W,v,al,Y,⟨(am.kept u (λj f K=>H j f (by rw [show j=g from K];exact F))).kept aJ (λj f K=>H j f (by rw [show j=c from K];exact r)),?_,H⟩,x⟩,(P.trans u (λj f=>?_)).trans aJ (λj f=>?_)⟩
  .rw [aL.out];exact⟨_,cap,aR⟩
  .rcases x g F.out with h|h;.exact .inl (.inr (by rw [show j=g from f];exact h))
   .exact .inr (by rw [show j=g from f];exact h)
  .rcases x c r.out with h|h;.exact .inl (.inr (by rw [show j=c from f];exact h))
   .exact .inr (by rw [show j=c from f];exact h)
end
theorem XU(w:World)(b bd:Nat)(S T:Nat->Prop)(D:Dk)(C:Ck)(h:Cw w b bd S T D C)(m:List UInt8)(z:qF (C.look D 2) m)(x:0<=D.reads)(O:D.reads<=4611686018427380000)(t:C.ws.length<1000)(i:Nat)(I:i<979)(k:Nat)(B:k=4\/k=5)(y:C.look D ((i+21:Nat):Int)=zm (zc k [])):
 Calls Tryz.prog 142 #[.pointer (some ⟨b,0,none⟩),.int .i64 ((i:Int)+21)] w λe w'=>e=.returned (.int .i64 0)/\(∃(n:Int) (A:Nat->Prop),0<=n/\n<=2/\Cw w' b bd S A {D with reads:=D.reads+n} (C.free m i)/\∀k,A k->T k\/w.heap.size<=k)/\za (λk=>k=bd\/T k) w w':=by
 have c:((i+21:Nat):Int)=(i:Int)+21:=by omega
 have v:Hid (Calls Tryz.prog 174 #[.iface 142 (.pointer (some ⟨b,0,none⟩)),.int .i64 ((i:Int)+21)] w λe w'=>∃f a,e=.returned (.agg #[.int .u8 (k:Int),.slice f 0 a])/\(∃n:Int,0<=n/\n<=1/\Cw w' b bd S T {D with reads:=D.reads+n} C)/\za (λi=>i=bd) w w'):=by have:=yB w b bd S T D C h x (by omega) (i+21) (by omega) k [] B (by simp) (by simp) (by simp) y;rw [c] at this;exact this.mono (λe w' ⟨f,a,l,h2,H,_⟩=>⟨f,a,l,h2,H⟩)
 change Hid _ at z;clear h y c;go_enter Tryz.func142,Tryz.ntmps142;go_wp2_with fail;refine v.mono ?_;rintro e u ⟨f,a,rfl,⟨o,E,F,s⟩,d⟩;have N:=d.size;change Hid _ at s d;have g:Hid (za (λ_=>False) u (u.alloc (.cells #[.int .u8 (k:Int),.slice f 0 a] 209))):=za.alloc _ _ _;go_wp2_with (go_at_call 143;refine(gg _ b bd S T {D with reads:=D.reads+o} C (s.kept0 g) m z (by show 0<=D.reads+o;omega) (by show D.reads+o<=_;omega) t i I).mono ?_;rintro e P ⟨rfl,⟨L,M,K,G,r,q⟩,p⟩;change Hid _ at r q p);go_ret;refine⟨rfl,⟨o+L,M,by omega,by omega,?_,λj J=>?_⟩,?_⟩;.have:=r.out;rw [a9] at this;exact this
 .rcases q j J with l|l;.exact .inl l
  .exact .inr (by have:=g.size;omega)
 .exact(((d.mono (S':=λk=>k=bd\/T k) iL).trans g fE).trans p iL)
theorem KG(w:World)(f bd:Nat)(S T:Nat->Prop)(D:Dk)(C:Ck)(h:Cw w f bd S T D C)(m:List UInt8)(N:qF (C.look D 2) m)(K:0<=D.reads)(ak:D.reads<=4611686018427380000)(B:C.ws.length<1000)(i:Nat)(ad:i<979)(v:En)(ae:v.Ok)(F:v.mark=false/\v.size=0)(L:C.look D ((i+21:Nat):Int)=zm (zc 4 [v])):
 Calls Tryz.prog 142 #[.pointer (some ⟨f,0,none⟩),.int .i64 ((i:Int)+21)] w λe w'=>e=.returned (.int .i64 (v.at_:Int))/\(∃(n:Int) (Q:Nat->Prop),0<=n/\n<=2/\Cw w' f bd S Q {D with reads:=D.reads+n} (C.free m i)/\∀k,Q k->T k\/w.heap.size<=k)/\za (λk=>k=bd\/T k) w w':=by
 have o:((i+21:Nat):Int)=(i:Int)+21:=by omega
 have E:Hid (Calls Tryz.prog 174 #[.iface 142 (.pointer (some ⟨f,0,none⟩)),.int .i64 ((i:Int)+21)] w λe w'=>∃g b,e=.returned (.agg #[.int .u8 4,.slice (some ⟨g,0,none⟩) 1 b])/\(∃n:Int,0<=n/\n<=1/\Cw w' f bd S T {D with reads:=D.reads+n} C)/\za (λi=>i=bd) w w'/\w.heap.size<=g/\g<w'.heap.size/\w'.cell? ⟨g,4,none⟩=some (.int .i64 (v.at_:Int))):=by
  have:=yB w f bd S T D C h K (by omega) (i+21) (by omega) 4 [v] (.inl rfl) (by simpa using ae) (λ_=>by simpa using F) (by simp) L;rw [o] at this;refine this.mono ?_;rintro e w' ⟨an,b,q,h2,ab,ao,I,ag⟩;rcases I.2 with⟨_,V⟩|⟨g,aa,aj,O,_,W,_⟩;.simp at V
  .simp only [iq,Value.slice.injEq] at O;obtain⟨rfl,_,rfl⟩:=O;have s:=I.cells (g:=g) rfl 4 (.int .i64 (v.at_:Int)) (by simp [qt]);rw [eO] at s;exact⟨g,b,q,h2,ab,ag g rfl,(lT W),s⟩
 have U:Hid _:=h.chg.lt;have al:=h.disk.lt bd h.disk.bdS;change Hid _ at N;clear h L o;go_enter Tryz.func142,Tryz.ntmps142;go_wp2_with fail;refine E.mono ?_;rintro e d ⟨g,b,rfl,⟨r,X,Y,A⟩,p,J,x,t⟩;have H:=p.size;change Hid _ at A p;have c:Hid (za (λ_=>False) d (d.alloc (.cells #[.int .u8 4,.slice (some ⟨g,0,none⟩) 1 b] 209))):=za.alloc _ _ _;have G:Hid ((d.alloc (.cells #[.int .u8 4,.slice (some ⟨g,0,none⟩) 1 b] 209)).heap[d.heap.size]? =some (.cells #[.int .u8 4,.slice (some ⟨g,0,none⟩) 1 b] 209 (0,0))):=ac d _
 have y:Hid (∀j,w.heap.size<=j->¬(j=bd\/T j)):=λj P s=>by
  rcases s with h|h;.omega
  .have:=U.out j h;omega
 change Hid _ at t;go_wp2_with (go_at_call 143;refine(gg _ f bd S T {D with reads:=D.reads+r} C (A.kept0 c) m N (by show 0<=D.reads+r;omega) (by show D.reads+r<=_;omega) B i ad).mono ?_;rintro e R ⟨rfl,⟨ai,af,ah,Z,z,u⟩,l⟩;have M:Hid (R.heap[d.heap.size]? =some (.cells #[.int .u8 4,.slice (some ⟨g,0,none⟩) 1 b] 209 (0,0))):=(l.block _ (by simp) (y _ H)).trans G.out;have ap:R.cell? ⟨d.heap.size,1,none⟩=some (.slice (some ⟨g,0,none⟩) 1 b):=(cR M.out rfl);have am:=(l.cell (a:=⟨g,4,none⟩) (ay x c.size) (y g J)).trans ((c.cell (a:=⟨g,4,none⟩) x id).trans t);change Hid _ at z u l);go_ret;refine⟨rfl,⟨r+ai,af,by omega,by omega,?_,λj P=>?_⟩,?_⟩;.have:=z.out;rw [a9] at this;exact this
 .rcases u j P with q|q;.exact .inl q
  .exact .inr (by have:=c.size;omega)
 .exact(((p.mono (S':=λk=>k=bd\/T k) iL).trans c fE).trans l iL)
theorem XV(w:World)(d bd:Nat)(S T:Nat->Prop)(D:Dk)(C:Ck)(h:Cw w d bd S T D C)(x:0<=D.reads)(E:D.reads<=4611686018427380000)(b:Nat)(u:b<65536)(k:Nat)(p:k=4\/k=5)(a:List En)(m:∀e∈a,e.Ok)(v:k=4->∀e∈a,e.mark=false/\e.size=0)(f:a.length<=6)(s:1<=a.length)(h2:k=4->2<=a.length)(y:C.look D (b:Nat)=zm (zc k a)):
 Calls Tryz.prog 142 #[.pointer (some ⟨d,0,none⟩),.int .i64 (b:Int)] w λe w'=>e=.returned (.int .i64 (b:Int))/\(∃n:Int,0<=n/\n<=1/\Cw w' d bd S T {D with reads:=D.reads+n} C)/\za (λk=>k=bd) w w':=by
 have t:Hid (Calls Tryz.prog 174 #[.iface 142 (.pointer (some ⟨d,0,none⟩)),.int .i64 (b:Int)] w λe w'=>∃g c,e=.returned (.agg #[.int .u8 (k:Int),.slice g a.length c])/\(∃n:Int,0<=n/\n<=1/\Cw w' d bd S T {D with reads:=D.reads+n} C)/\za (λi=>i=bd) w w'):=
  (yB w d bd S T D C h x (by omega) b u k a p m v f y).mono (λe w' ⟨g,c,s,h2,z,_⟩=>⟨g,c,s,h2,z⟩)
 have B:((a.length:Int)==0)=false:=by simpa using (by omega:¬a.length=0)
 have l:Hid ((k=4/\((a.length:Int)==1)=false)\/k=5):=by
  rcases p with h|h;.exact .inl ⟨h,by have:=h2 h;simpa using (by omega:¬(a.length:Int)=1)⟩
  .exact .inr h
 clear h m v f s h2 y p;rcases l.out with⟨rfl,F⟩|rfl
 all_goals
  clear l;go_enter Tryz.func142,Tryz.ntmps142;go_wp2_with fail;refine t.mono ?_;rintro e G ⟨g,c,rfl,⟨A,q,r,o⟩,j⟩;change Hid _ at o j;go_wp2;go_ret;exact⟨rfl,⟨A,q,r,o.kept0 (za.alloc _ _ _)⟩,j.trans (za.alloc (λ_=>False) _ _) fE⟩
end prog
end Go.Proofs.YtcoengihaobddaaGreatDoor
