/- Part 27 of 36 of a proof: Rem2, Rem3, Fre3, Fre4, Fre5, Fre6, Rem4, Rem5 -/
import Derived.Test.YtcoengihaobddaaGreatDoorJb26
import Derived.OwnWalk
set_option maxHeartbeats 8000000
set_option linter.unusedVariables false
set_option linter.unusedSimpArgs false
set_option maxRecDepth 8000
namespace Go.Proofs.YtcoengihaobddaaGreatDoor
namespace prog
open Go.ChangeShapes Go.WideShapes Go.ChangeAt Go.RowKit disk ref
open keys (zh zd zx zq)
variable {w wr:World}{g k cap j p:Nat}{ws V:List (Nat×List Value)}{i:Int}
theorem Zi{b:List Value}(h:w.ownsRow 0 109 5 (.slice (some ⟨g,0,none⟩) k cap) k b)(L:List Value)(n:k*5+L.length<=cap*5):(w.setCells g (k*5) L).ownsRow 0 109 5 (.slice (some ⟨g,0,none⟩) k cap) k b:=by
 rcases h.2 with⟨f,_⟩|⟨o,e,a,j,d,c,l,h2,m,i⟩;.cases f
 .cases j;refine⟨h.1,.inr ⟨g,cap,_,rfl,d,z9 g _ L (k*5) w a c (by omega),l,h2,?_,?_⟩⟩
  .simp;omega
  .show (a.toList.take (k*5)++L++a.toList.drop (k*5+L.length)).take (k*5)=_;rw [ak,aZ (by simp;omega),an (by simp;omega)];exact i
theorem Yv{c:List Value}(h:w.ownsRow 0 109 5 (.slice (some ⟨g,0,none⟩) k cap) k c)(i n:Nat)(o:i+n<=cap*5):w.there g i n:=by
 rcases h.2 with⟨e,_⟩|⟨p,d,f,b,j,a,l,h2,r,q⟩;.cases e
 .cases b;intro m s;refine⟨?_,aa w g _ _ _ a⟩;rw [aG w g _ _ _ _ a,i7 (by omega)];rfl
section
attribute [local go_sem ↓] dl
theorem gc(w:World)(g n cap:Nat)(b:List En)(f:b.length=n)(h:w.ownsRow 0 109 5 (.slice (some ⟨g,0,none⟩) n cap) n (zj b))(i:Nat)(aq:i<n)(an:n<=1000):
 Calls Tryz.prog 181 #[.slice (some ⟨g,0,none⟩) n cap,.int .i64 (i:Int),.int .i64 ((i:Int)+1)] w λe w'=>e=.returned (.slice (some ⟨g,0,none⟩) (n-1) cap)/\w'.ownsRow 0 109 5 (.slice (some ⟨g,0,none⟩) (n-1) cap) (n-1) (zj (b.eraseIdx i))/\za (λj=>j=g) w w':=by
 obtain⟨W,v,K,A,J⟩:=eZ Tryz.infoEntry
 have V:n<=cap:=by
  rcases h.2 with⟨X,_⟩|⟨ar,ac,aj,D,_,ap,Q,h2,ao,au⟩;.cases X
  .cases D;exact Q
 have m:w.drew.ownsRow 0 109 5 (.slice (some ⟨g,0,none⟩) n cap) n (zj b):=(za.drew (λ_=>False) w).owns h nF;obtain⟨s,a,c,d⟩:=run_append_fits (P:=Tryz.prog) w.drew 0 207 207 109 W 5 Tryz.underlying207 v A g i cap (zj (b.take i)) (Yu m i (by omega) f) ⟨g,(i+1)*5,none⟩ (n-(i+1)) (cap-(i+1)) (zj (b.drop (i+1))) (by rw [yh,aS,f]) (Uj m (i+1) (by omega) f) (ke _) (by omega);have q:(Xs #[.slice (some ⟨g,0,none⟩) i cap,.slice (some ⟨g,(i+1)*5,none⟩) (n-(i+1)) (cap-(i+1))]).run Tryz.prog w.drew=.ok (.slice (some ⟨g,0,none⟩) (i+(n-(i+1))) cap) s:=a
 have t:Hid (s.ownsRow 0 109 5 (.slice (some ⟨g,0,none⟩) (n-1) cap) (n-1) (zj (b.eraseIdx i))):=by
  have l:i+(n-(i+1))=n-1:=by omega
  rw [l,<-qQ,<-lr] at c;exact c
 have I:Hid (za (λj=>j=g) w s):=((za.drew (λ_=>False) w).mono fE).trans (za.grown (S:=λj=>j=g) d (λk C=>(eG C).symm)) iL;have l:i+(n-(i+1))=n-1:=by omega
 rw [l] at q;have af:Hid (i+(n-(i+1))=n-1):=l;clear a c d m l v K A J;have R:Hid _:=h;have z:Hid (b.length=n):=f;clear h f;have ae:(i:Int)+1<=(n:Int):=by omega
 have al:(n:Int)<=(cap:Int):=by omega
 have am:(i:Int)<=(n:Int):=by omega
 have ag:(i:Int)<=(cap:Int):=by omega
 have ai:(i:Int)+1<=(cap:Int):=by omega
 have ak:(0:Int)<=(i:Int)+1:=by omega
 have Z:¬cap=i:=by omega
 have N:¬(cap:Int)=(i:Int):=by omega
 by_cases U:cap=i+1
 .obtain rfl:n=i+1:=by omega
  subst U;have m:w.drew.ownsRow 0 109 5 (.slice (some ⟨g,0,none⟩) (i+1) (i+1)) (i+1) (zj b):=(za.drew (λ_=>False) w).owns R.out nF;obtain⟨Y,x,E,B,F⟩:=eZ Tryz.infoEntry;obtain⟨r,a,c,d⟩:=run_append_fits (P:=Tryz.prog) w.drew 0 207 207 109 Y 5 Tryz.underlying207 x B g i (i+1) (zj (b.take i)) (Yu m i (by omega) z.out) ⟨g,0,none⟩ 0 0 [] rfl (λj u ab=>by simp at ab) (by simp) (by omega);have O:(Xs #[.slice (some ⟨g,0,none⟩) i (i+1),.slice (some ⟨g,0,none⟩) 0 0]).run Tryz.prog w.drew=.ok (.slice (some ⟨g,0,none⟩) i (i+1)) r:=a
  have y:Hid (r.ownsRow 0 109 5 (.slice (some ⟨g,0,none⟩) i (i+1)) i (zj (b.eraseIdx i))):=by
   rw [aM] at c;have l:b.eraseIdx i=b.take i:=by rw [lr,eo (by rw [z.out];exact aF _),aM]
   rw [l];exact c
  have M:Hid (za (λj=>j=g) w r):=((za.drew (λ_=>False) w).mono fE).trans (za.grown (S:=λj=>j=g) d (λk C=>(eG C).symm)) iL;clear a c d m x E B F q;have ah:(i:Int)<=(i:Int)+1:=by omega
  go_enter Tryz.func181,Tryz.ntmps181;go_wp2_with fail;go_region_held3 (λ_=>True) (trivial) (fail);obtain⟨L,p,H⟩:=u9 r g (i*5) 1 1 (by omega) (Yv y.out _ _ (by omega));have o:Hid (L.length=1*5):=p;clear p;go_wp2;go_ret;have G:=o.out;exact⟨rfl,Zi y.out L (by omega),M.out.trans (za.setCells (S:=λj=>j=g) g rfl _ _ _) iL⟩
 .have ad:¬(cap:Int)=(i:Int)+1:=by omega
  go_enter Tryz.func181,Tryz.ntmps181;go_wp2_with fail;go_region_held3 (λ_=>True) (trivial) (fail);obtain⟨L,p,H⟩:=u9 s g ((n-1)*5) (n-(n-1)) (cap-(n-1)) (by omega) (Yv t.out _ _ (by omega));have o:Hid _:=p;have aa:¬cap=n-1:=by omega
  have T:((n-1:Nat):Int)<=(n:Int):=by omega
  clear p;go_wp2;go_ret;have G:=o.out;exact⟨rfl,Zi t.out L (by omega),I.out.trans (za.setCells (S:=λj=>j=g) g rfl _ _ _) iL⟩
end
theorem Zj(w:World)(k:Nat)(g:k=4\/k=5)(a:Option Addr)(n cap:Nat):
 Calls Tryz.prog 182 #[.agg #[.int .u8 (k:Int),.slice a n cap]] w λe w'=>e=.returned (.bool (decide ((n:Int)<3)))/\za (λ_=>False) w w':=by
 have f:Hid (za (λ_=>False) w (w.alloc (.cells #[.int .u8 (k:Int),.slice a n cap] 209))):=za.alloc _ _ _;have d:Hid ((w.alloc (.cells #[.int .u8 (k:Int),.slice a n cap] 209)).heap[w.heap.size]? =some (.cells #[.int .u8 (k:Int),.slice a n cap] 209 (0,0))):=ac w _;have j:(w.alloc (.cells #[.int .u8 (k:Int),.slice a n cap] 209)).cell? ⟨w.heap.size,0,none⟩=some (.int .u8 (k:Int)):=cR d.out rfl;have m:(w.alloc (.cells #[.int .u8 (k:Int),.slice a n cap] 209)).cell? ⟨w.heap.size,1,none⟩=some (.slice a n cap):=cR d.out rfl
 have h:Hid (((room k:Nat):Int)=6):=by show ((room k:Nat):Int)=6;rcases g with rfl|rfl<;>decide
 have c:k<=6:=by omega
 go_enter Tryz.func182,Tryz.ntmps182;go_wp2_with fail;generalize (w.alloc (.cells #[.int .u8 (k:Int),.slice a n cap] 209))=l at*;go_region_held3 (λw'=>w'.cell? ⟨w.heap.size,0,none⟩=some (.int .u8 (k:Int))/\w'.cell? ⟨w.heap.size,1,none⟩=some (.slice a n cap)) (go_keep) ((go_at_call 129;refine(jZ _ k c).mono ?_;rintro e i ⟨rfl,b⟩;rw [b,h.out];clear b i));go_wp2;go_ret;exact⟨rfl,f.out.trans (za.drew (λ_=>False) l) iL⟩
def fM(ws:List (Nat×List Value))(i:Int):List (Nat×List Value):=ws.filter λp=> !decide ((p.1:Int)=i)
theorem fN(a:j<ws.length)(h:(ws[j].1:Int)=i):fM (ws.take (j+1)) i=fM (ws.take j) i:=by
 rw [ao a];unfold fM;rw [lP,List.filter_cons_of_neg (by rw [h];simp),mI,aM]
theorem Z0(a:j<ws.length)(h:¬(ws[j].1:Int)=i):fM (ws.take (j+1)) i=fM (ws.take j) i++[ws[j]]:=by
 rw [ao a];unfold fM;rw [lP,List.filter_cons_of_pos (by simpa using h),mI]
theorem Zk(h:yd ws i=some k):k<ws.length/\ws.take k=fM (ws.take (k+1)) i:=by
 unfold yd at h;rw [eQ] at h;obtain⟨a,c,h2⟩:=h;refine⟨a,?_⟩;rw [fN a (by simpa using c)];unfold fM;rw [eU.2];intro p b;obtain⟨j,d,rfl⟩:=ed b;rw [aC] at d;rw [lY];simpa using h2 j (by omega)
structure fg (w:World) (g cap:Nat) (ws:List (Nat×List Value)) (i:Int) (p j:Nat) (V:List (Nat×List Value)) (wr:World):Prop where
 pj:p<j
 jn:j<=ws.length
 len:V.length=ws.length
 front:V.take p=fM (ws.take j) i
 back:V.drop j=ws.drop j
 ok:∀q∈V,zS q.2
 row:wr.ownsRow 0 160 129 (.slice (some ⟨g,0,none⟩) ws.length cap) ws.length (V.map zM).flatten
 kept:za (λk=>k=g) w wr
theorem fg.wlen(h:fg w g cap ws i p j V wr):∀b∈V.map zM,b.length=129:=λb a=>by
 obtain⟨q,c,rfl⟩:=au.1 a;simp [zM,(h.ok q c).1]
theorem fg.at_(h:fg w g cap ws i p j V wr)(c:j<ws.length):∃a:j<V.length,V[j]=ws[j]:=by
 have a:j<V.length:=by rw [h.len];exact c
 refine⟨a,?_⟩;have b:=congrArg (·[0]?) h.back;simp only [lO,lD] at b;rw [aH a,aH c] at b;exact eG b
theorem fg.skip{a:World}(h:fg w g cap ws i p j V wr)(b:j<ws.length)(e:(ws[j].1:Int)=i)(k:za (λ_=>False) wr a):fg w g cap ws i p (j+1) V a where
 pj:=by have:=h.pj;omega
 jn:=b
 len:=h.len
 front:=by rw [fN b e];exact h.front
 back:=by have:=congrArg (List.drop 1) h.back;simpa [eA,iG] using this
 ok:=h.ok
 row:=k.owns h.row nF
 kept:=h.kept.trans k fE
theorem fg.move{c:World}(h:fg w g cap ws i p j V wr)(b:j<ws.length)(e:¬(ws[j].1:Int)=i)(k:za (λ_=>False) wr c):fg w g cap ws i (p+1) (j+1) (V.set p ws[j]) (c.setCells g (p*129) (zM ws[j])) where
 pj:=by have:=h.pj;omega
 jn:=b
 len:=by simp [h.len]
 front:=by
  have m:p<V.length:=by have:=h.pj;rw [h.len];omega
  rw [Z0 b e,<-h.front,ao (by simpa using m),List.getElem_set_self,List.take_set_of_le (aF _)]
 back:=by rw [List.drop_set_of_lt (by have:=h.pj;omega)];have:=congrArg (List.drop 1) h.back;simpa [eA,iG] using this
 ok:=λq f=>by
  rcases il f with f|rfl;.exact h.ok q f
  .obtain⟨d,l⟩:=h.at_ b;rw [<-l];exact h.ok _ (ai d)
 row:=by obtain⟨d,l⟩:=h.at_ b;have a:=k.owns h.row nF;rw [show ws.length=(V.map zM).length from by simp [h.len]] at a;have h2:=dr a h.wlen p (by have:=h.pj;simp [h.len];omega) (zM ws[j]) (by rw [<-l];exact h.wlen _ (au.2 ⟨_,ai d,rfl⟩));rw [<-lU,show (V.map zM).length=ws.length from by simp [h.len]] at h2;exact h2
 kept:=(h.kept.trans k fE).trans (za.setCells (S:=λk=>k=g) g rfl _ _ _) iL
theorem Z1(w:World)(g bd:Nat)(T:Nat->Prop)(C:Ck)(a:Option Addr)(cap:Nat)(h:qC w g bd T C a cap)(b:Nat)(i:Int)(d:w.heap[b]? =some (.cells #[.int .i64 i] 3 (0,0)))(f:yd C.ws i=none):
 Calls Tryz.prog 183 #[.slice a C.ws.length cap,.func (.func 184) #[] #[.pointer (some ⟨b,0,none⟩)]] w λe w'=>e=.returned (.slice a C.ws.length cap)/\za (λ_=>False) w w':=by
 change Hid _ at h d f;go_enter Tryz.func183,Tryz.ntmps183;go_wp2_with (go_at_call 201;refine(bC w g bd T C a cap h b i d).mono ?_;rintro e j ⟨rfl,c⟩;rw [f.out];change Hid _ at c;dsimp only [Gn]);go_ret;exact⟨rfl,c⟩
theorem Z2(w:World)(ax bd:Nat)(T:Nat->Prop)(C:Ck)(g cap:Nat)(h:qC w ax bd T C (some ⟨g,0,none⟩) cap)(b:Nat)(i:Int)(J:w.heap[b]? =some (.cells #[.int .i64 i] 3 (0,0)))(ak:b≠g)(k:Nat)(Z:yd C.ws i=some k):
 Calls Tryz.prog 183 #[.slice (some ⟨g,0,none⟩) C.ws.length cap,.func (.func 184) #[] #[.pointer (some ⟨b,0,none⟩)]] w λe w'=>e=.returned (.slice (some ⟨g,0,none⟩) (fM C.ws i).length cap)/\w'.ownsRow 0 160 129 (.slice (some ⟨g,0,none⟩) (fM C.ws i).length cap) (fM C.ws i).length ((fM C.ws i).map zM).flatten/\za (λj=>j=g) w w':=by
 obtain⟨M,P,aH⟩:∃M:List Value,M=yq/\∀w,(zeroValue 160).run Tryz.prog w=.ok (.agg M.toArray) w:=⟨yq,rfl,zX Tryz.infoCw⟩;have X:Hid (M.length=129):=by rw [P];exact congrArg (· +1) zG.1
 clear P;have n:Hid _:=zY Tryz.infoCw;obtain⟨ap,U⟩:=Zk Z;have aD:=h.few;have K:Hid _:=h;change Hid _ at U J Z;clear h;go_enter Tryz.func183,Tryz.ntmps183;have aO:((k:Int)== -1)=false:=by simp
 go_wp2_with (go_at_call 201;refine(bC w ax bd T C _ cap K.out b i J.out).mono ?_;rintro e aP ⟨rfl,E⟩;rw [Z.out];change Hid _ at E;dsimp only [Gn]);go_loopw [5,6] (λaz af wr=>∃(p j:Nat) (V:List (Nat×List Value)),az=.int .i64 p/\af=.int .i64 j/\fg w g cap C.ws i p j V wr) (λ_ af _=>C.ws.length-(intOf af).toNat)
 case atStart=>exact⟨k,k+1,C.ws,rfl,by go_num,by omega,ap,rfl,U.out,rfl,K.ok,E.owns K.row nF,E.mono fE⟩
 case round=>
  obtain⟨p,j,V,rfl,rfl,c⟩:=hrel;have aJ:=c.pj;have aL:=c.jn;change Hid _ at c;by_cases v:j<C.ws.length
  .obtain⟨aB,N⟩:=c.at_ v
   have ad:Hid (wr.rangeAt g (j*129) (.int .i64 (C.ws[j].1:Int)::C.ws[j].2)):=by have au:=c.row;rw [show C.ws.length=(V.map zM).length from by simp [c.len]] at au;have:=ym au c.wlen j (by simpa using aB);rw [ia,N] at this;exact this
   have a:Hid (zS C.ws[j].2):=K.ok _ (ai v);have ao:=(lT J.out);have aI:=c.kept.size;have ah:Hid (wr.heap[b]? =some (.cells #[.int .i64 i] 3 (0,0))):=(c.kept.block _ ao ak).trans J.out;have W:Hid (∀d,¬(C.ws[j].1:Int)=i->za (λ_=>False) wr d->fg w g cap C.ws i (p+1) (j+1) (V.set p C.ws[j]) (d.setCells g (p*129) (.int .i64 (C.ws[j].1:Int)::C.ws[j].2))):=λd e k=>c.move v e k;have Q:Hid (∀d,(C.ws[j].1:Int)=i->za (λ_=>False) wr d->fg w g cap C.ws i p (j+1) V d):=λd e k=>c.skip v e k
   have H:Hid (∀d,za (λ_=>False) wr d->d.there g (p*129) 129):=λd k=>by
    rcases (k.owns c.row nF).2 with⟨F,_⟩|⟨av,A,x,t,_,z,o,h2,I,aw⟩;.cases F
    .cases t;intro m al
     have D:p*129+m<x.size:=by rw [I];have:(p+1)*129<=cap*129:=ee _ (by omega);omega
     refine⟨?_,aa d g _ _ _ z⟩;rw [aG d g _ _ _ _ z,i7 D];rfl
   clear N;generalize aA:C.ws[j]=q at*;obtain⟨f,l⟩:=q;clear aA;simp only at W Q ad a;have u:Hid (za (λ_=>False) wr (wr.alloc (.cells (.int .i64 (f:Int)::l).toArray 160))):=za.alloc _ _ _;have Y:Hid ((wr.alloc (.cells (.int .i64 (f:Int)::l).toArray 160)).rangeAt wr.heap.size 0 (.int .i64 (f:Int)::l)):=zQ (ac wr _);have R:Hid ((wr.alloc (.cells (.int .i64 (f:Int)::l).toArray 160)).heap[b]? =some (.cells #[.int .i64 i] 3 (0,0))):=(u.block _ (by omega) id).trans ah.out;have aK:(j:Int)<(C.ws.length:Int):=by omega
   by_cases s:(f:Int)=i
   .have G:Hid (((f:Int)==i)=true):=by show ((f:Int)==i)=true;simp [s]
    have ab:Hid _:=s;clear s
    go_wp2_with (first
     |(show wpList _ _ _ ({dst:=some 25,op:=.load _ _,type:=_,pos:=_,after:=_,guard:=_}::_) _ _;refine wpList_load_mid rfl 160 (.tmp 24) rfl _ _ rfl (.int .i64 (f:Int)::l) _ ad.out Tryz.underlying160 rfl (by rw [ae,a.1];exact n.out) ?_)
     |(show wpList _ _ _ ({dst:=none,op:=.store _ (.tmp 7) (.tmp 25),type:=_,pos:=_,after:=_,guard:=_}::_) _ _;refine zi rfl 160 (.tmp 7) (.tmp 25) rfl _ _ (.int .i64 (f:Int)::l) rfl rfl rfl (by rw [ae,a.1];exact n.out) (by rw [ae,a.1];simpa using X.out) (aQ.2 ⟨rfl,a.2⟩) ?_)
     |(show wpList _ _ _ ({dst:=some 27,op:=.load _ _,type:=_,pos:=_,after:=_,guard:=_}::_) _ _;refine wpList_load_mid rfl 160 (.tmp 7) rfl _ _ rfl (.int .i64 (f:Int)::l) _ Y.out Tryz.underlying160 rfl (by rw [ae,a.1];exact n.out) ?_)
     |(go_at_call 184;refine(vI _ b i R.out f l a.out).mono ?_;rintro e ag ⟨rfl,r⟩;rw [G.out];have y:Hid _:=r;clear r))
    go_roundw
    case rel=>exact⟨p,j+1,V,rfl,by go_num,Q.out _ ab.out (u.trans y.out iL)⟩
    case measure=>simp [intOf];omega
   .have G:Hid (((f:Int)==i)=false):=by show ((f:Int)==i)=false;simpa using s
    have ab:Hid _:=s;clear s;have ar:(p:Int)<(C.ws.length:Int):=by omega
    go_wp2_with (first
     |(show wpList _ _ _ ({dst:=some 25,op:=.load _ _,type:=_,pos:=_,after:=_,guard:=_}::_) _ _;refine wpList_load_mid rfl 160 (.tmp 24) rfl _ _ rfl (.int .i64 (f:Int)::l) _ ad.out Tryz.underlying160 rfl (by rw [ae,a.1];exact n.out) ?_)
     |(show wpList _ _ _ ({dst:=none,op:=.store _ (.tmp 7) (.tmp 25),type:=_,pos:=_,after:=_,guard:=_}::_) _ _;refine zi rfl 160 (.tmp 7) (.tmp 25) rfl _ _ (.int .i64 (f:Int)::l) rfl rfl rfl (by rw [ae,a.1];exact n.out) (by rw [ae,a.1];simpa using X.out) (aQ.2 ⟨rfl,a.2⟩) ?_)
     |(show wpList _ _ _ ({dst:=some 27,op:=.load _ _,type:=_,pos:=_,after:=_,guard:=_}::_) _ _;refine wpList_load_mid rfl 160 (.tmp 7) rfl _ _ rfl (.int .i64 (f:Int)::l) _ Y.out Tryz.underlying160 rfl (by rw [ae,a.1];exact n.out) ?_)
     |(go_at_call 184;refine(vI _ b i R.out f l a.out).mono ?_;rintro e ag ⟨rfl,r⟩;rw [G.out];have y:Hid _:=r;have aj:Hid (ag.rangeAt wr.heap.size 0 (.int .i64 (f:Int)::l)):=zQ ((r.block wr.heap.size (by simp) id).trans (ac wr _));clear r)
     |(show wpList _ _ _ ({dst:=some 32,op:=.load _ _,type:=_,pos:=_,after:=_,guard:=_}::_) _ _;refine wpList_load_mid rfl 160 (.tmp 7) rfl _ _ rfl (.int .i64 (f:Int)::l) _ aj.out Tryz.underlying160 rfl (by rw [ae,a.1];exact n.out) ?_)
     |(show wpList _ _ _ ({dst:=none,op:=.store _ (.tmp 33) (.tmp 32),type:=_,pos:=_,after:=_,guard:=_}::_) _ _;refine wpList_store_mid rfl 160 (.tmp 33) (.tmp 32) rfl g (p*129) _ rfl rfl (by rw [aq,ae,a.1];exact H.out ag (u.trans y.out iL)) (by rw [aq,ae,a.1];exact n.out) (all_oneCell_toArray (aQ.2 ⟨rfl,a.2⟩)) ?_))
    go_roundw
    case rel=>exact⟨p+1,j+1,_,by go_num,by go_num,W.out _ ab.out (u.trans y.out iL)⟩
    case measure=>simp [intOf];omega
  .obtain rfl:j=C.ws.length:=by omega
   have B:(fM C.ws i).length=p:=by have o:=congrArg List.length c.front;rw [eN,aC,c.len,a8 (by omega)] at o;exact o.symm
   have an:Hid (V.take p=fM C.ws i):=by have o:=c.front;rw [eN] at o;exact o
   have ay:C.ws.length<=cap:=by
    rcases c.row.2 with⟨F,_⟩|⟨av,A,x,t,_,z,o,h2,I,aw⟩;.cases F
    .cases t;exact o
   have H:Hid (wr.there g (p*129) ((C.ws.length-p)*129)):=by
    show wr.there g (p*129) ((C.ws.length-p)*129);rcases c.row.2 with⟨F,_⟩|⟨av,A,x,t,_,z,o,h2,I,aw⟩;.cases F
    .cases t;intro m al
     have D:p*129+m<x.size:=by rw [I];have:C.ws.length*129<=cap*129:=ee _ o;rw [Nat.sub_mul] at al;have:p*129<=C.ws.length*129:=ee _ (by omega);omega
     refine⟨?_,aa wr g _ _ _ z⟩;rw [aG wr g _ _ _ _ z,i7 D];rfl
   obtain⟨L,aE,aN⟩:=ZY wr g (p*129) (C.ws.length-p) (cap-p) (by omega) H.out;have O:=XR c.row c.ok c.len p (by omega) L (by rw [aE,Nat.sub_mul];have:p*129<=C.ws.length*129:=ee _ (by omega);omega);have am:Hid ((wr.setCells g (p*129) L).ownsRow 0 160 129 (.slice (some ⟨g,0,none⟩) p cap) p ((fM C.ws i).map zM).flatten):=by rw [<-an.out];exact O
   have aM:¬cap=p:=by omega
   have ar:(p:Int)<=(C.ws.length:Int):=by omega
   have aF:(p:Int)<=(cap:Int):=by omega
   change Hid _ at B;clear O;go_wp2;go_ret;refine⟨by rw [B.out];rfl,by rw [B.out];exact am.out,c.kept.trans (za.setCells (S:=λk=>k=g) g rfl _ _ _) iL⟩
theorem XS:∀(r:Fin 8) (a:Fin 256),bits BinOp.andNot IntKind.u8 (a.val:Int) (gM r.val)=((a.val&&&(255^^^2^r.val):Nat):Int):=by decide+kernel
theorem XT(a r:Nat)(b:a<256)(c:r<8):bits BinOp.andNot IntKind.u8 (a:Int) (gM r)=((a&&&(255^^^2^r):Nat):Int):=XS ⟨r,c⟩ ⟨a,b⟩
def Ck.free(C:Ck)(m:List UInt8)(i:Nat):Ck:={C.put 2 (zl (zR (jN m i))) with ws:=fM (C.put 2 (zl (zR (jN m i)))).ws ((i:Int)+21)}
theorem qC.shorter{w':World}{a bd:Nat}{T:Nat->Prop}{C:Ck}(h:qC w a bd T C (some ⟨g,0,none⟩) cap)(ws:List (Nat×List Value))(f:∀p∈ws,zS p.2)(n:ws.length<=C.ws.length)
 (c:w'.ownsRow 0 160 129 (.slice (some ⟨g,0,none⟩) ws.length cap) ws.length (ws.map zM).flatten) (m:za (λj=>j=g) w w'):
 qC (w'.setCell ⟨a,1,none⟩ (.slice (some ⟨g,0,none⟩) ws.length cap)) a bd T {C with ws:=ws} (some ⟨g,0,none⟩) cap:=by
 have d:a≠g:=λe=>h.ap (by rw [<-e];rfl);have b:w'.heap[a]? =_:=(m.block a (h.lt a h.bcT) d).trans h.head;refine⟨f,?_,?_,h.own,h.ap,by show ws.length<=1000;have:=h.few;omega⟩;.rw [heap_setCell_same w' a 1 _ _ _ b];rfl
 .exact(za.setCell (S:=λk=>k=a) w' ⟨a,1,none⟩ _ rfl).owns c (λk i e=>h.ap (by
   have l:(Value.slice (some ⟨g,0,none⟩) C.ws.length cap).ownBlock=(Value.slice (some ⟨g,0,none⟩) ws.length cap).ownBlock:=rfl
   rw [l,i,show k=a from e]))
section
attribute [local go_sem ↓] js
theorem gd(w:World)(c bd:Nat)(S T:Nat->Prop)(D:Dk)(C:Ck)(h:Cw w c bd S T D C)(m:List UInt8)(z:qF (C.look D 2) m)(aU:0<=D.reads)(aS:D.reads<=4611686018427387904)(ar:C.ws.length<1000)(i:Nat)(bg:i<979):
 Calls Tryz.prog 143 #[.pointer (some ⟨c,0,none⟩),.int .i64 ((i:Int)+21)] w λe w'=>e=.returned (.tuple #[])/\(∃(n:Int) (aP:Nat->Prop),0<=n/\n<=1/\Cw w' c bd S aP {D with reads:=D.reads+n} (C.free m i)/\∀k,aP k->T k\/w.heap.size<=k)/\za (λk=>k=bd\/T k) w w':=by
 obtain⟨W,af,bm⟩:∃W:List Value,W=zW/\∀w,(zeroValue 154).run Tryz.prog w=.ok (.agg W.toArray) w:=⟨zW,rfl,zX Tryz.infoPage⟩;have aG:Hid (zS W):=by rw [af];exact zG
 clear af;have aY:Hid _:=zY Tryz.infoPage;have a5:Hid _:=h;have aE:=z.len;have Q:Hid _:=yc (xR z.len);have aN:Hid _:=h.disk.lt;have x:Hid _:=h.chg.lt;have ba:=h.disk.lt bd h.disk.bdS;change Hid _ at z;clear h;go_enter Tryz.func143,Tryz.ntmps143;have ak:Hid (za (λ_=>False) w (w.alloc (.cells #[.int .i64 ((i:Int)+21)] 3))):=za.alloc _ _ _;have aO:Hid ((w.alloc (.cells #[.int .i64 ((i:Int)+21)] 3)).heap[w.heap.size]? =some (.cells #[.int .i64 ((i:Int)+21)] 3 (0,0))):=ac w _;have bc:(w.alloc (.cells #[.int .i64 ((i:Int)+21)] 3)).heap.size=w.heap.size+1:=by simp
 go_wp2_with fail;generalize (w.alloc (.cells #[.int .i64 ((i:Int)+21)] 3))=ax at*;refine(uM ax c bd S T D C (a5.kept0 ak) m z aU aS).mono ?_;rintro e b ⟨rfl,⟨V,ae,ai,Z⟩,H⟩;have aH:Hid (za (λk=>k=bd) ax b):=H;have be:=H.size;have al:Hid (b.heap[w.heap.size]? =some (.cells #[.int .i64 ((i:Int)+21)] 3 (0,0))):=(H.block _ (by omega) (by omega)).trans aO.out;have bi:b.cell? ⟨w.heap.size,0,none⟩=some (.int .i64 ((i:Int)+21)):=cR al.out rfl;have bl:w.heap.size<b.heap.size:=by omega
 change Hid _ at Z;clear H
 go_wp2_with (first
  |(show wpList _ _ _ ({dst:=none,op:=.store _ (.tmp 4) (.tmp 8),type:=_,pos:=_,after:=_,guard:=_}::_) _ _;refine zi rfl 154 (.tmp 4) (.tmp 8) rfl _ _ (zl (zR m)) (by simp) rfl rfl (by rw [Q.1];exact aY) (by rw [aq,aG.1,Q.1]) Q.2 ?_)
  |(go_at_call 171;refine(gN _ i (by omega)).mono ?_;rintro e bf ⟨rfl,X,rfl⟩))
 have aF:Hid (qP ((b.alloc (.cells (zl (zR m)).toArray 154)).drewN X) b.heap.size (zR m)):=(show qP (b.alloc (.cells (zl (zR m)).toArray 154)) b.heap.size (zR m) from⟨⟨ac b _⟩,xR z.len⟩).kept (T:=λ_=>False) kD (λav=>av);have aA:Hid (za (λ_=>False) b ((b.alloc (.cells (zl (zR m)).toArray 154)).drewN X)):=(za.alloc _ _ _).trans (S':=λ_=>False) kD iL;have aD:((b.alloc (.cells (zl (zR m)).toArray 154)).drewN X).heap.size=b.heap.size+1:=by show (b.alloc _).heap.size=_;simp
 generalize (b.alloc (.cells (zl (zR m)).toArray 154)).drewN X=aI at*;refine(je aI _ _ aF).mono ?_;rintro e bh ⟨rfl,U,rfl⟩;have O:xX b.heap.size (zR m).kind (zR m).items.length=.slice (some ⟨b.heap.size,4,none⟩) 124 124:=by simp [xX,zR,zk,aE]
 rw [O];clear O;have M:Hid (qP (aI.drewN U) b.heap.size (zR m)):=aF.kept (T:=λ_=>False) kD (λav=>av);have A:Hid (za (λ_=>False) b (aI.drewN U)):=aA.trans (S':=λ_=>False) kD iL;have aR:(aI.drewN U).heap.size=b.heap.size+1:=aD;generalize aI.drewN U=o at*;have aV:=QV z.len M (i/8) (by omega);have a9:=M.bs.fz (4+i/8);have t:=(m.getD (i/8) 0).toNat_lt;have ao:Hid (jN m i=m.set (i/8) (UInt8.ofNat ((m.getD (i/8) 0).toNat&&&(255^^^2^(i%8))))):=rfl;have aX:=XT (m.getD (i/8) 0).toNat (i%8) (m.getD (i/8) 0).toNat_lt (by omega);have a1:Hid ((m.getD (i/8) 0).toNat&&&(255^^^2^(i%8))<256):=mr mJ t;generalize (m.getD (i/8) 0).toNat=bk at*;generalize a7:bk&&&(255^^^2^(i%8))=P at*;have Y:Hid (qP (o.setCell ⟨b.heap.size,4+i/8,none⟩ (.int .u8 (P:Int))) b.heap.size (zR (jN m i))):=by rw [ao.out];exact map_set z.len M i (by omega) P a1.out
 have R:Hid (za (λk=>k=b.heap.size) o (o.setCell ⟨b.heap.size,4+i/8,none⟩ (.int .u8 (P:Int)))):=za.setCell (S:=λk=>k=b.heap.size) o ⟨b.heap.size,4+i/8,none⟩ (.int .u8 (P:Int)) rfl;have ad:Hid (zS (zl (zR (jN m i)))):=yc Y.ok;have aK:(uK (.pointer (some ⟨b.heap.size,0,none⟩))).run Tryz.prog (o.setCell ⟨b.heap.size,4+i/8,none⟩ (.int .u8 (P:Int)))=.ok (.agg (zl (zR (jN m i))).toArray) (o.setCell ⟨b.heap.size,4+i/8,none⟩ (.int .u8 (P:Int))):=xI _ _ _ _ (zQ Y.bs.at_) ad.1;clear a7;have bb:(i:Int)/8<124:=by omega
 have a3:0<=(i:Int)/8:=by omega
 go_wp2_with fail;have ay:Hid (Cw (o.setCell ⟨b.heap.size,4+i/8,none⟩ (.int .u8 (P:Int))) c bd S T {D with reads:=D.reads+V} C):=(Z.kept0 A).kept R (λj f K=>by have a6:=aN.out j f;omega) (λj f K=>by have a6:=x.out j f;have h2:j=b.heap.size:=K;omega);have aL:Hid ((o.setCell ⟨b.heap.size,4+i/8,none⟩ (.int .u8 (P:Int))).heap[w.heap.size]? =some (.cells #[.int .i64 ((i:Int)+21)] 3 (0,0))):=(R.block _ (by omega) (by omega)).trans ((A.block _ (by omega) id).trans al);have a8:(o.setCell ⟨b.heap.size,4+i/8,none⟩ (.int .u8 (P:Int))).heap.size=b.heap.size+1:=by rw [<-aR];simp
 have ap:Hid (za (λk=>k=bd) w (o.setCell ⟨b.heap.size,4+i/8,none⟩ (.int .u8 (P:Int)))):=(((ak.mono fE).trans aH iL).trans A fE).trans R (λj f=>.inr (by omega));generalize (o.setCell ⟨b.heap.size,4+i/8,none⟩ (.int .u8 (P:Int)))=aQ at*;refine(ju aQ c bd S T _ C ay 2 _ ad ar).mono ?_;rintro e B ⟨rfl,⟨v,I,J⟩,N⟩;have aJ:Hid (za T aQ B):=N;have ag:Hid (B.heap[w.heap.size]? =some (.cells #[.int .i64 ((i:Int)+21)] 3 (0,0))):=(N.block _ (by omega) (λaZ=>by have:=x.out _ aZ;omega)).trans aL.out;change Hid _ at I J;clear N aK;generalize aj:C.put 2 (zl (zR (jN m i)))=l at*;change Hid _ at aj;obtain⟨a,cap,d⟩:=I.chg;have bj:=d.c1;change Hid _ at d;have aC:Hid (C.free m i={l with ws:=fM l.ws ((i:Int)+21) }):=by show C.free m i=_;unfold Ck.free;rw [aj.out]
 have y:Hid (∀k,v k->T k\/w.heap.size<=k):=λk a0=>(J k a0).imp id (λh=>by omega);have L:Hid (za (λk=>k=bd\/T k) w B):=(ap.mono iL).trans aJ (λ_ h=>.inl (.inr h));have s:v c:=d.bcT;have G:Hid (∀k,S k->¬v k):=I.apart;have am:Hid (zg B bd S {D with reads:=D.reads+V }):=I.disk
 have aW:¬c=w.heap.size:=λe=>by
  rcases y c s with h|h;.have:=x.out c h;omega
  .rcases J c s with h2|h2;.have:=x.out c h2;omega
   .omega
 change Hid _ at s
 cases t:yd l.ws ((i:Int)+21) with
 |none=>
  have an:Hid _:=t
  have a2:Hid (fM l.ws ((i:Int)+21)=l.ws):=by show fM l.ws ((i:Int)+21)=l.ws;unfold fM;rw [eU];intro p au;unfold yd at t;rw [im] at t;simpa using t p au
  clear t;go_wp2_with (go_at_call 183;refine(Z1 B c bd v l a cap d w.heap.size _ ag an).mono ?_;rintro e r ⟨rfl,q⟩;have u:Hid (za (λ_=>False) B r):=q;have E:Hid (qC r c bd v l a cap):=d.kept q nF;have a4:=E.c1;have aT:=E.fz 1;clear q);go_end0;have GR:r.setCell ⟨c,1,none⟩ (.slice a l.ws.length cap)=r:=dS E.head rfl;rw [GR];refine⟨rfl,⟨V,v,ae,ai,⟨am.kept u nF,?_,G⟩,y⟩,L.trans u fE⟩;rw [aC.out,a2.out];exact⟨a,cap,E⟩
 |some k=>
  have an:Hid _:=t;obtain⟨g,rfl⟩:=d.rowAt (by have:=(Zk t).1;omega);clear t;have F:v g:=(d.own g).2 (.inr rfl)
  have aB:w.heap.size≠g:=λe=>by
   rcases J g F with h2|h2;.have:=x.out g h2;omega
   .omega
  have aw:¬c=g:=λe=>d.ap (by rw [<-e];rfl);change Hid _ at F;go_wp2_with (go_at_call 183;refine(Z2 B c bd v l g cap d w.heap.size _ ag aB k an).mono ?_;rintro e r ⟨rfl,ab,q⟩;have u:Hid _:=q;have ah:Hid _:=(q.block c (d.lt c d.bcT) aw).trans d.head;have a4:r.cell? ⟨c,1,none⟩=some (.slice (some ⟨g,0,none⟩) l.ws.length cap):=(cR ah.out rfl);have aT:r.frozen? ⟨c,1,none⟩=false:=aa r c 1 _ _ ah.out;change Hid _ at ab;clear q);go_end0;have aM:=d.shorter (fM l.ws ((i:Int)+21)) (λp au=>d.ok p (ei.1 au).1) (ip _ _) ab u.out;have az:za (λk=>k=c) r (r.setCell ⟨c,1,none⟩ (.slice (some ⟨g,0,none⟩) (fM l.ws ((i:Int)+21)).length cap)):=za.setCell (S:=λk=>k=c) r ⟨c,1,none⟩ _ rfl;refine⟨rfl,⟨V,v,ae,ai,⟨(am.kept u (λj f K=>G j f (by rw [show j=g from K];exact F))).kept az (λj f K=>G j f (by rw [show j=c from K];exact s)),?_,G⟩,y⟩,(L.trans u (λj f=>?_)).trans az (λj f=>?_)⟩
  .rw [aC.out];exact⟨_,cap,aM⟩
  .rcases y g F.out with h|h;.exact .inl (.inr (by rw [show j=g from f];exact h))
   .exact .inr (by rw [show j=g from f];exact h)
  .rcases y c s.out with h|h;.exact .inl (.inr (by rw [show j=c from f];exact h))
   .exact .inr (by rw [show j=c from f];exact h)
end
theorem XU(w:World)(b bd:Nat)(S T:Nat->Prop)(D:Dk)(C:Ck)(h:Cw w b bd S T D C)(m:List UInt8)(y:qF (C.look D 2) m)(A:0<=D.reads)(N:D.reads<=4611686018427380000)(t:C.ws.length<1000)(i:Nat)(L:i<979)(k:Nat)(E:k=4\/k=5)(z:C.look D ((i+21:Nat):Int)=zl (zc k [])):
 Calls Tryz.prog 142 #[.pointer (some ⟨b,0,none⟩),.int .i64 ((i:Int)+21)] w λe w'=>e=.returned (.int .i64 0)/\(∃(n:Int) (v:Nat->Prop),0<=n/\n<=2/\Cw w' b bd S v {D with reads:=D.reads+n} (C.free m i)/\∀k,v k->T k\/w.heap.size<=k)/\za (λk=>k=bd\/T k) w w':=by
 have c:((i+21:Nat):Int)=(i:Int)+21:=by omega
 have u:Hid (Calls Tryz.prog 174 #[.iface 142 (.pointer (some ⟨b,0,none⟩)),.int .i64 ((i:Int)+21)] w λe w'=>∃f a,e=.returned (.agg #[.int .u8 (k:Int),.slice f 0 a])/\(∃n:Int,0<=n/\n<=1/\Cw w' b bd S T {D with reads:=D.reads+n} C)/\za (λi=>i=bd) w w'):=by have:=yy w b bd S T D C h A (by omega) (i+21) (by omega) k [] E (by simp) (by simp) (by simp) z;rw [c] at this;exact this.mono (λe w' ⟨f,a,l,h2,F,_⟩=>⟨f,a,l,h2,F⟩)
 change Hid _ at y;clear h z c;go_enter Tryz.func142,Tryz.ntmps142;go_wp2_with fail;refine u.mono ?_;rintro e x ⟨f,a,rfl,⟨o,J,G,q⟩,d⟩;have O:=d.size;change Hid _ at q d;have g:Hid (za (λ_=>False) x (x.alloc (.cells #[.int .u8 (k:Int),.slice f 0 a] 209))):=za.alloc _ _ _;go_wp2_with (go_at_call 143;refine(gd _ b bd S T {D with reads:=D.reads+o} C (q.kept0 g) m y (by show 0<=D.reads+o;omega) (by show D.reads+o<=_;omega) t i L).mono ?_;rintro e P ⟨rfl,⟨H,I,B,M,r,s⟩,p⟩;change Hid _ at r s p);go_ret;refine⟨rfl,⟨o+H,I,by omega,by omega,?_,λj K=>?_⟩,?_⟩;.have:=r.out;rw [a9] at this;exact this
 .rcases s j K with l|l;.exact .inl l
  .exact .inr (by have:=g.size;omega)
 .exact(((d.mono (S':=λk=>k=bd\/T k) iL).trans g fE).trans p iL)
theorem KG(w:World)(f bd:Nat)(S T:Nat->Prop)(D:Dk)(C:Ck)(h:Cw w f bd S T D C)(m:List UInt8)(I:qF (C.look D 2) m)(U:0<=D.reads)(al:D.reads<=4611686018427380000)(B:C.ws.length<1000)(i:Nat)(ah:i<979)(u:En)(W:u.Ok)(Q:u.mark=false/\u.size=0)(O:C.look D ((i+21:Nat):Int)=zl (zc 4 [u])):
 Calls Tryz.prog 142 #[.pointer (some ⟨f,0,none⟩),.int .i64 ((i:Int)+21)] w λe w'=>e=.returned (.int .i64 (u.at_:Int))/\(∃(n:Int) (H:Nat->Prop),0<=n/\n<=2/\Cw w' f bd S H {D with reads:=D.reads+n} (C.free m i)/\∀k,H k->T k\/w.heap.size<=k)/\za (λk=>k=bd\/T k) w w':=by
 have o:((i+21:Nat):Int)=(i:Int)+21:=by omega
 have E:Hid (Calls Tryz.prog 174 #[.iface 142 (.pointer (some ⟨f,0,none⟩)),.int .i64 ((i:Int)+21)] w λe w'=>∃g b,e=.returned (.agg #[.int .u8 4,.slice (some ⟨g,0,none⟩) 1 b])/\(∃n:Int,0<=n/\n<=1/\Cw w' f bd S T {D with reads:=D.reads+n} C)/\za (λi=>i=bd) w w'/\w.heap.size<=g/\g<w'.heap.size/\w'.cell? ⟨g,4,none⟩=some (.int .i64 (u.at_:Int))):=by
  have:=yy w f bd S T D C h U (by omega) (i+21) (by omega) 4 [u] (.inl rfl) (by simpa using W) (λ_=>by simpa using Q) (by simp) O;rw [o] at this;refine this.mono ?_;rintro e w' ⟨an,b,q,h2,Z,ao,G,Y⟩;rcases G.2 with⟨_,X⟩|⟨g,ae,ak,F,_,ab,_⟩;.simp at X
  .simp only [iq,Value.slice.injEq] at F;obtain⟨rfl,_,rfl⟩:=F;have r:=G.cells (g:=g) rfl 4 (.int .i64 (u.at_:Int)) (by simp [qr]);rw [eO] at r;exact⟨g,b,q,h2,Z,Y g rfl,(lT ab),r⟩
 have J:Hid _:=h.chg.lt;have aj:=h.disk.lt bd h.disk.bdS;change Hid _ at I;clear h O o;go_enter Tryz.func142,Tryz.ntmps142;go_wp2_with fail;refine E.mono ?_;rintro e d ⟨g,b,rfl,⟨s,ag,aa,v⟩,p,K,y,A⟩;have R:=p.size;change Hid _ at v p;have c:Hid (za (λ_=>False) d (d.alloc (.cells #[.int .u8 4,.slice (some ⟨g,0,none⟩) 1 b] 209))):=za.alloc _ _ _;have L:Hid ((d.alloc (.cells #[.int .u8 4,.slice (some ⟨g,0,none⟩) 1 b] 209)).heap[d.heap.size]? =some (.cells #[.int .u8 4,.slice (some ⟨g,0,none⟩) 1 b] 209 (0,0))):=ac d _
 have t:Hid (∀j,w.heap.size<=j->¬(j=bd\/T j)):=λj N r=>by
  rcases r with h|h;.omega
  .have:=J.out j h;omega
 change Hid _ at A;go_wp2_with (go_at_call 143;refine(gd _ f bd S T {D with reads:=D.reads+s} C (v.kept0 c) m I (by show 0<=D.reads+s;omega) (by show D.reads+s<=_;omega) B i ah).mono ?_;rintro e P ⟨rfl,⟨ad,af,V,ai,x,z⟩,l⟩;have M:Hid (P.heap[d.heap.size]? =some (.cells #[.int .u8 4,.slice (some ⟨g,0,none⟩) 1 b] 209 (0,0))):=(l.block _ (by simp) (t _ R)).trans L.out;have am:P.cell? ⟨d.heap.size,1,none⟩=some (.slice (some ⟨g,0,none⟩) 1 b):=(cR M.out rfl);have ap:=(l.cell (a:=⟨g,4,none⟩) (ay y c.size) (t g K)).trans ((c.cell (a:=⟨g,4,none⟩) y id).trans A);change Hid _ at x z l);go_ret;refine⟨rfl,⟨s+ad,af,by omega,by omega,?_,λj N=>?_⟩,?_⟩;.have:=x.out;rw [a9] at this;exact this
 .rcases z j N with q|q;.exact .inl q
  .exact .inr (by have:=c.size;omega)
 .exact(((p.mono (S':=λk=>k=bd\/T k) iL).trans c fE).trans l iL)
theorem XV(w:World)(d bd:Nat)(S T:Nat->Prop)(D:Dk)(C:Ck)(h:Cw w d bd S T D C)(v:0<=D.reads)(F:D.reads<=4611686018427380000)(b:Nat)(u:b<65536)(k:Nat)(q:k=4\/k=5)(a:List En)(o:∀e∈a,e.Ok)(y:k=4->∀e∈a,e.mark=false/\e.size=0)(f:a.length<=6)(p:1<=a.length)(h2:k=4->2<=a.length)(x:C.look D (b:Nat)=zl (zc k a)):
 Calls Tryz.prog 142 #[.pointer (some ⟨d,0,none⟩),.int .i64 (b:Int)] w λe w'=>e=.returned (.int .i64 (b:Int))/\(∃n:Int,0<=n/\n<=1/\Cw w' d bd S T {D with reads:=D.reads+n} C)/\za (λk=>k=bd) w w':=by
 have t:Hid (Calls Tryz.prog 174 #[.iface 142 (.pointer (some ⟨d,0,none⟩)),.int .i64 (b:Int)] w λe w'=>∃g c,e=.returned (.agg #[.int .u8 (k:Int),.slice g a.length c])/\(∃n:Int,0<=n/\n<=1/\Cw w' d bd S T {D with reads:=D.reads+n} C)/\za (λi=>i=bd) w w'):=
  (yy w d bd S T D C h v (by omega) b u k a q o y f x).mono (λe w' ⟨g,c,p,h2,z,_⟩=>⟨g,c,p,h2,z⟩)
 have E:((a.length:Int)==0)=false:=by simpa using (by omega:¬a.length=0)
 have l:Hid ((k=4/\((a.length:Int)==1)=false)\/k=5):=by
  rcases q with h|h;.exact .inl ⟨h,by have:=h2 h;simpa using (by omega:¬(a.length:Int)=1)⟩
  .exact .inr h
 clear h o y f p h2 x q;rcases l.out with⟨rfl,B⟩|rfl
 all_goals
  clear l;go_enter Tryz.func142,Tryz.ntmps142;go_wp2_with fail;refine t.mono ?_;rintro e G ⟨g,c,rfl,⟨A,s,r,m⟩,j⟩;change Hid _ at m j;go_wp2;go_ret;exact⟨rfl,⟨A,s,r,m.kept0 (za.alloc _ _ _)⟩,j.trans (za.alloc (λ_=>False) _ _) fE⟩
end prog
end Go.Proofs.YtcoengihaobddaaGreatDoor
