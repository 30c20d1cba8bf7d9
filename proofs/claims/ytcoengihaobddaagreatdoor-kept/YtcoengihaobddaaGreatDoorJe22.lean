/- Part 22 of 50 of a proof: Fre1, Fre2, Rem1, Rem2, Rem3, Fre3, Fre4, Fre5, Fre6, Rem4, Rem5 -/
import Derived.Test.YtcoengihaobddaaGreatDoorJe06
import Derived.Lib.SliceRun
import Derived.OwnWalk
set_option maxHeartbeats 8000000
set_option linter.unusedVariables false
set_option linter.unusedSimpArgs false
set_option maxRecDepth 8000
namespace Go.Proofs.YtcoengihaobddaaGreatDoor
namespace prog
open Go.ChangeShapes Go.WideShapes Go.ChangeAt Go.RowKit disk ref
open keys (zg zd zq zl)
variable {w wr:World}{g n cap k j p:Nat}{V ws:List (Nat×List Value)}{i:Int}
theorem uW(w:World)(b:Nat)(i:Int)(f:w.heap[b]? =some (.cells #[.int .i64 i] 3 (0,0)))(a:Nat)(c:List Value)(h:zW c):
 Calls Tryz.prog 184 #[.agg (.int .i64 (a:Int)::c).toArray,.pointer (some ⟨b,0,none⟩)] w λe w'=>e=.returned (.bool ((a:Int)==i))/\Kept (λ_=>False) w w':=by
 have d:Hid (Kept (λ_=>False) w (w.alloc (.cells (.int .i64 (a:Int)::c).toArray 160))):=Kept.alloc _ _ _;have g:=(lT f);have j:(w.alloc (.cells (.int .i64 (a:Int)::c).toArray 160)).cell? ⟨w.heap.size,0,none⟩=some (.int .i64 (a:Int)):=by rw [ak _ _ 0 _ _ _ (heap_alloc_new w _)];simp
 have k:(w.alloc (.cells (.int .i64 (a:Int)::c).toArray 160)).cell? ⟨b,0,none⟩=some (.int .i64 i):=cR (((d.block _ g id).trans f)) rfl;clear f;go_enter Tryz.func184,Tryz.ntmps184;go_wp2;go_ret;exact⟨rfl,d⟩
theorem Zt(w:World)(K bd:Nat)(T:Nat->Prop)(C:Ck)(a:Option Addr)(cap:Nat)(h:qO w K bd T C a cap)(b:Nat)(i:Int)(B:w.heap[b]? =some (.cells #[.int .i64 i] 3 (0,0))):
 Calls Tryz.prog 201 #[.slice a C.ws.length cap,.func (.func 184) #[] #[.pointer (some ⟨b,0,none⟩)]] w λe w'=>e=.returned (.int .i64 (BD (yy C.ws i)))/\Kept (λ_=>False) w w':=by
 have y:Hid _:=qc Tryz.infoCw;have M:=h.few;have E:Hid _:=h;change Hid _ at B;clear h;go_enter Tryz.func201,Tryz.ntmps201;go_wp2;go_loopw [8] (λt wr=>∃k:Nat,k<=C.ws.length/\t=.int .i64 k/\(∀j (n:j<C.ws.length),j<k->¬(C.ws[j].1:Int)=i)/\Kept (λ_=>False) w wr) (λt _=>C.ws.length-(intOf t).toNat)
 case atStart=>exact⟨0,ai _,rfl,λ_ _ h=>by omega,Kept.refl _ _⟩
 case round=>
  obtain⟨k,N,rfl,u,c⟩:=hrel;change Hid _ at u c;by_cases p:k<C.ws.length
  .obtain⟨g,rfl⟩:=E.rowAt (by omega);have G:Hid _:=(E.kept c nF).range k p;have o:Hid (zW C.ws[k].2):=E.ok _ (ag p)
   have H:Hid (∀j (n:j<C.ws.length),j<k+1->¬(C.ws[k].1:Int)=i->¬(C.ws[j].1:Int)=i):=λj n z F=>by
    by_cases e:j=k;.subst e;exact F
    .exact u j n (by omega)
   have x:Hid ((C.ws[k].1:Int)=i->yy C.ws i=some k):=λL=>Qh p u L;have A:Hid (wr.heap[b]? =some (.cells #[.int .i64 i] 3 (0,0))):=(c.block _ (lT B) id).trans B.out;generalize J:C.ws[k]=q at*;obtain⟨m,v⟩:=q;clear J;simp only at H x;by_cases d:(m:Int)=i
   .have l:((m:Int)==i)=true:=by simp [d]
    have s:Hid _:=l;have D:Hid _:=d;clear d l
    go_wp2_with (first
     |(show wpList _ _ _ ({dst:=some 15,op:=.load _ _,type:=_,pos:=_,after:=_,guard:=_}::_) _ _;refine wpList_load_mid rfl 160 (.tmp 14) rfl _ _ rfl (.int .i64 (m:Int)::v) _ G Tryz.underlying160 rfl (by rw [ae,o.1];exact y) ?_)
     |(go_at_call 184;refine(uW _ b i A m v o).mono ?_;rintro e I ⟨rfl,f⟩;rw [s.out];have r:Hid _:=f;clear f))
    go_ret;exact⟨by rw [x.out D.out];rfl,c.trans r iL⟩
   .have l:((m:Int)==i)=false:=by simpa using d
    have s:Hid _:=l;have D:Hid _:=d;clear d l
    go_wp2_with (first
     |(show wpList _ _ _ ({dst:=some 15,op:=.load _ _,type:=_,pos:=_,after:=_,guard:=_}::_) _ _;refine wpList_load_mid rfl 160 (.tmp 14) rfl _ _ rfl (.int .i64 (m:Int)::v) _ G Tryz.underlying160 rfl (by rw [ae,o.1];exact y) ?_)
     |(go_at_call 184;refine(uW _ b i A m v o).mono ?_;rintro e I ⟨rfl,f⟩;rw [s.out];have r:Hid _:=f;clear f))
    go_roundw
    case rel=>exact⟨k+1,by omega,by go_num,λj n z=>H j n z D,c.trans r iL⟩
    case measure=>simp [intOf];omega
  .have x:Hid _:=Y5 (λj n=>u j n (by omega));go_wp2;go_ret;exact⟨by rw [x.out];rfl,c⟩
theorem Yr(w:World)(b q n c:Nat)(y:0<n)(l:w.there b q (n*129)):
 ∃x:List Value,x.length=n*129/\∀k,(Builtin.clear_ #[156] k #[.slice (some ⟨b,q,none⟩) n c]).run Tryz.prog w=.ok (.tuple #[]) (w.setCells b q x):=by
 have e:yN.length=129:=et (· +1) zI.1;have t:=qa Tryz.infoCw;have f:∀v∈yN,v.oneCell'=true:=aZ.2 ⟨rfl,zI.2⟩;generalize u:yN=a at*;have g:(Builtin.zeroCells a.toArray n).toList.length=n*129:=by simp [Builtin.zeroCells,e]
 have o:∀v∈(Builtin.zeroCells a.toArray n).toList,v.oneCell'=true:=λv p=>by simp only [Builtin.zeroCells,mU,Array.toList_range,av] at p;obtain⟨i,_,rfl⟩:=p;have r:i%a.toArray.size<a.toArray.size:=mQ _ (by simp [e]);rw [getElem!_pos a.toArray _ r];exact f _ (by simp)
 refine⟨(Builtin.zeroCells a.toArray n).toList,g,λk=>?_⟩;have d:=run_storeCells_cells (P:=Tryz.prog) b q (Builtin.zeroCells a.toArray n).toList 0 w (λj s=>(l j (by omega)).1) (λj s=>(l j (by omega)).2) o;simp only [lS] at d;obtain⟨m,rfl⟩:∃m,n=m+1:=⟨n-1,by omega⟩;have h:(Value.agg a.toArray).cells=a.toArray:=rfl;simp only [Builtin.clear_];simp [iz Tryz.underlying156,t,h,d]
theorem fI(c:Nat):∀(l:List (List Value)),(∀b∈l,b.length=c)->l.flatten.length=l.length*c
 |[],_=>by simp
 |b::l,h=>by rw [eo,ah,fI c l (λd a=>h d (al _ a)),h b (am ..),ae,eS];omega
theorem Kl(h:w.ownsRow 0 160 129 (.slice (some ⟨g,0,none⟩) n cap) n (V.map zR).flatten)(k:∀p∈V,zW p.2)(D:V.length=n)(i:Nat)(t:i<=n)(f:List Value)(C:i*129+f.length<=n*129):
 (w.setCells g (i*129) f).ownsRow 0 160 129 (.slice (some ⟨g,0,none⟩) i cap) i ((V.take i).map zR).flatten:=by
 have l:∀b∈V.map zR,b.length=129:=λb c=>by obtain⟨p,m,rfl⟩:=av.1 c;simp [zR,(k p m).1]
 rcases h.2 with⟨r,_⟩|⟨E,q,a,v,c,s,e,o,j,x⟩;.cases r
 .cases v
  have d:((V.take i).map zR).flatten.length=i*129:=by rw [fI 129 _ (λb c=>l b (by rw [i4] at c;exact aJ c))];simp;omega
  refine⟨d,.inr ⟨g,cap,_,rfl,c,qg g _ f (i*129) w a s (by rw [j];have:=eH 129 e;omega),by omega,o,?_,?_⟩⟩
  .have:=eH 129 e;simp;omega
  .have y:i*129<=a.toList.length:=by
    have:=eH 129 e;have A:a.toList.length=cap*129:=by simpa using j
    omega
   have B:(a.toList.take (i*129)).length=i*129:=by simp at y ⊢;omega
   show (a.toList.take (i*129)++f++a.toList.drop (i*129+f.length)).take (i*129)=_;rw [an,eC (by omega),ao (by omega)];have z:a.toList.take (i*129)=(a.toList.take (n*129)).take (i*129):=by rw [iJ,eE (by have:=eH 129 t;omega)]
   rw [z,x];have u:(V.map zR).flatten=((V.take i).map zR).flatten++((V.drop i).map zR).flatten:=by rw [<-aY,<-eh,aA]
   rw [u,eC (by omega),ao (by omega)]
theorem fJ(w:World)(b q n c:Nat)(y:0<n)(l:w.there b q (n*5)):
 ∃x:List Value,x.length=n*5/\∀k,(Builtin.clear_ #[207] k #[.slice (some ⟨b,q,none⟩) n c]).run Tryz.prog w=.ok (.tuple #[]) (w.setCells b q x):=by
 have t:∀w,(zeroValue 109).run Tryz.prog w=.ok (.agg qI.toArray) w:=qa Tryz.infoEntry;have e:qI.length=5:=rfl;have f:∀v∈qI,v.oneCell'=true:=by simp [qI,Value.oneCell']
 generalize u:qI=a at*;have g:(Builtin.zeroCells a.toArray n).toList.length=n*5:=by simp [Builtin.zeroCells,e]
 have o:∀v∈(Builtin.zeroCells a.toArray n).toList,v.oneCell'=true:=λv p=>by simp only [Builtin.zeroCells,mU,Array.toList_range,av] at p;obtain⟨i,_,rfl⟩:=p;have r:i%a.toArray.size<a.toArray.size:=mQ _ (by simp [e]);rw [getElem!_pos a.toArray _ r];exact f _ (by simp)
 refine⟨(Builtin.zeroCells a.toArray n).toList,g,λk=>?_⟩;have d:=run_storeCells_cells (P:=Tryz.prog) b q (Builtin.zeroCells a.toArray n).toList 0 w (λj s=>(l j (by omega)).1) (λj s=>(l j (by omega)).2) o;simp only [lS] at d;obtain⟨m,rfl⟩:∃m,n=m+1:=⟨n-1,by omega⟩;have h:(Value.agg a.toArray).cells=a.toArray:=rfl;simp only [Builtin.clear_];simp [iz Tryz.underlying207,t,h,d]
theorem XZ{a:List En}(h:w.ownsRow 0 109 5 (.slice (some ⟨g,0,none⟩) n cap) n (zj a))(i:Nat)(o:i<=n)(c:a.length=n):w.ownsRow 0 109 5 (.slice (some ⟨g,0,none⟩) i cap) i (zj (a.take i)):=by
 rcases h.2 with⟨j,_⟩|⟨u,f,b,q,l,m,t,e,k,r⟩;.cases j
 .cases q;have d:(zj (a.take i)).length=i*5:=by rw [yD,ay,c,eE o]
  refine⟨d,.inr ⟨g,cap,b,rfl,l,m,by omega,e,k,?_⟩⟩;have s:b.toList.take (i*5)=(b.toList.take (n*5)).take (i*5):=by rw [iJ,eE (by omega)]
  rw [s,r];have p:zj a=zj (a.take i)++zj (a.drop i):=by rw [<-yf,aA]
  rw [p,eC (by omega),ao (by omega)]
theorem Dc{a:List En}(h:w.ownsRow 0 109 5 (.slice (some ⟨g,0,none⟩) n cap) n (zj a))(i:Nat)(f:i<=n)(b:a.length=n):∀j u,(zj (a.drop i))[j]? =some u->w.cell? ((⟨g,i*5,none⟩:Addr).add j)=some u:=λj u e=>by
 have c:zj a=zj (a.take i)++zj (a.drop i):=by rw [<-yf,aA]
 have d:(zj (a.take i)).length=i*5:=by rw [yD,ay,b,eE f]
 have:=h.cells (g:=g) rfl (i*5+j) u (by rw [c,ia (by omega),d,iy];exact e);rw [eO] at this ⊢;simpa using this
theorem QA{b:List Value}(h:w.ownsRow 0 109 5 (.slice (some ⟨g,0,none⟩) k cap) k b)(c:List Value)(p:k*5+c.length<=cap*5):(w.setCells g (k*5) c).ownsRow 0 109 5 (.slice (some ⟨g,0,none⟩) k cap) k b:=by
 rcases h.2 with⟨m,_⟩|⟨q,l,a,d,n,j,i,e,o,f⟩;.cases m
 .cases d;refine⟨h.1,.inr ⟨g,cap,_,rfl,n,qg g _ c (k*5) w a j (by omega),i,e,?_,?_⟩⟩
  .simp;omega
  .show (a.toList.take (k*5)++c++a.toList.drop (k*5+c.length)).take (k*5)=_;rw [an,eC (by simp;omega),ao (by simp;omega)];exact f
theorem X0{b:List Value}(h:w.ownsRow 0 109 5 (.slice (some ⟨g,0,none⟩) k cap) k b)(i n:Nat)(p:i+n<=cap*5):w.there g i n:=by
 rcases h.2 with⟨d,_⟩|⟨t,c,f,e,o,a,s,j,l,r⟩;.cases d
 .cases e;intro m q;refine⟨?_,aa w g _ _ _ a⟩;rw [ak w g _ _ _ _ a,lx (by omega)];rfl
section
attribute [local go_sem ↓] bO
theorem fK(w:World)(g n cap:Nat)(b:List En)(f:b.length=n)(h:w.ownsRow 0 109 5 (.slice (some ⟨g,0,none⟩) n cap) n (zj b))(i:Nat)(au:i<n)(av:n<=1000):
 Calls Tryz.prog 181 #[.slice (some ⟨g,0,none⟩) n cap,.int .i64 (i:Int),.int .i64 ((i:Int)+1)] w λe w'=>e=.returned (.slice (some ⟨g,0,none⟩) (n-1) cap)/\w'.ownsRow 0 109 5 (.slice (some ⟨g,0,none⟩) (n-1) cap) (n-1) (zj (b.eraseIdx i))/\Kept (λj=>j=g) w w':=by
 obtain⟨Y,y,E,z,I⟩:=info_parts Tryz.infoEntry
 have W:n<=cap:=by
  rcases h.2 with⟨R,_⟩|⟨aq,Q,ag,G,_,ao,V,an,ar,ap⟩;.cases R
  .cases G;exact V
 have m:w.drew.ownsRow 0 109 5 (.slice (some ⟨g,0,none⟩) n cap) n (zj b):=(Kept.drew (λ_=>False) w).owns h nF;obtain⟨s,a,c,d⟩:=run_append_fits (P:=Tryz.prog) w.drew 0 207 207 109 Y 5 Tryz.underlying207 y z g i cap (zj (b.take i)) (XZ m i (by omega) f) ⟨g,(i+1)*5,none⟩ (n-(i+1)) (cap-(i+1)) (zj (b.drop (i+1))) (by rw [yD,aU,f]) (Dc m (i+1) (by omega) f) (vv _) (by omega);have q:(JJ #[.slice (some ⟨g,0,none⟩) i cap,.slice (some ⟨g,(i+1)*5,none⟩) (n-(i+1)) (cap-(i+1))]).run Tryz.prog w.drew=.ok (.slice (some ⟨g,0,none⟩) (i+(n-(i+1))) cap) s:=a
 have A:Hid (s.ownsRow 0 109 5 (.slice (some ⟨g,0,none⟩) (n-1) cap) (n-1) (zj (b.eraseIdx i))):=by
  have l:i+(n-(i+1))=n-1:=by omega
  rw [l,<-yf,<-lD] at c;exact c
 have H:Hid (Kept (λj=>j=g) w s):=((Kept.drew (λ_=>False) w).mono fE).trans (Kept.grown (S:=λj=>j=g) d (λk C=>(aK C).symm)) iL;have l:i+(n-(i+1))=n-1:=by omega
 rw [l] at q;have am:Hid (i+(n-(i+1))=n-1):=l;clear a c d m l y E z I;have ab:Hid _:=h;have t:Hid (b.length=n):=f;clear h f;have ak:(i:Int)+1<=(n:Int):=by omega
 have ah:(n:Int)<=(cap:Int):=by omega
 have al:(i:Int)<=(n:Int):=by omega
 have aj:(i:Int)<=(cap:Int):=by omega
 have af:(i:Int)+1<=(cap:Int):=by omega
 have ae:(0:Int)<=(i:Int)+1:=by omega
 have aa:¬cap=i:=by omega
 have O:¬(cap:Int)=(i:Int):=by omega
 by_cases X:cap=i+1
 .obtain rfl:n=i+1:=by omega
  subst X;have m:w.drew.ownsRow 0 109 5 (.slice (some ⟨g,0,none⟩) (i+1) (i+1)) (i+1) (zj b):=(Kept.drew (λ_=>False) w).owns ab.out nF;obtain⟨ac,B,L,v,F⟩:=info_parts Tryz.infoEntry;obtain⟨r,a,c,d⟩:=run_append_fits (P:=Tryz.prog) w.drew 0 207 207 109 ac 5 Tryz.underlying207 B v g i (i+1) (zj (b.take i)) (XZ m i (by omega) t.out) ⟨g,0,none⟩ 0 0 [] rfl (λj u Z=>by simp at Z) (by simp) (by omega);have N:(JJ #[.slice (some ⟨g,0,none⟩) i (i+1),.slice (some ⟨g,0,none⟩) 0 0]).run Tryz.prog w.drew=.ok (.slice (some ⟨g,0,none⟩) i (i+1)) r:=a
  have x:Hid (r.ownsRow 0 109 5 (.slice (some ⟨g,0,none⟩) i (i+1)) i (zj (b.eraseIdx i))):=by
   rw [aM] at c;have l:b.eraseIdx i=b.take i:=by rw [lD,eb (by rw [t.out];exact aC _),aM]
   rw [l];exact c
  have K:Hid (Kept (λj=>j=g) w r):=((Kept.drew (λ_=>False) w).mono fE).trans (Kept.grown (S:=λj=>j=g) d (λk C=>(aK C).symm)) iL;clear a c d m B L v F q;have ai:(i:Int)<=(i:Int)+1:=by omega
  go_enter Tryz.func181,Tryz.ntmps181;go_wp2_with fail;go_region_held3 (λ_=>True) (trivial) (fail);obtain⟨M,p,J⟩:=fJ r g (i*5) 1 1 (by omega) (X0 x.out _ _ (by omega));have o:Hid (M.length=1*5):=p;clear p;go_wp2;go_ret;have D:=o.out;exact⟨rfl,QA x.out M (by omega),K.out.trans (Kept.setCells (S:=λj=>j=g) g rfl _ _ _) iL⟩
 .have ad:¬(cap:Int)=(i:Int)+1:=by omega
  go_enter Tryz.func181,Tryz.ntmps181;go_wp2_with fail;go_region_held3 (λ_=>True) (trivial) (fail);obtain⟨M,p,J⟩:=fJ s g ((n-1)*5) (n-(n-1)) (cap-(n-1)) (by omega) (X0 A.out _ _ (by omega));have o:Hid _:=p;have T:¬cap=n-1:=by omega
  have U:((n-1:Nat):Int)<=(n:Int):=by omega
  clear p;go_wp2;go_ret;have D:=o.out;exact⟨rfl,QA A.out M (by omega),H.out.trans (Kept.setCells (S:=λj=>j=g) g rfl _ _ _) iL⟩
end
theorem QB(w:World)(k:Nat)(h:k=4\/k=5)(a:Option Addr)(n cap:Nat):
 Calls Tryz.prog 182 #[.agg #[.int .u8 (k:Int),.slice a n cap]] w λe w'=>e=.returned (.bool (decide ((n:Int)<3)))/\Kept (λ_=>False) w w':=by
 have d:Hid (Kept (λ_=>False) w (w.alloc (.cells #[.int .u8 (k:Int),.slice a n cap] 209))):=Kept.alloc _ _ _;have f:Hid ((w.alloc (.cells #[.int .u8 (k:Int),.slice a n cap] 209)).heap[w.heap.size]? =some (.cells #[.int .u8 (k:Int),.slice a n cap] 209 (0,0))):=heap_alloc_new w _;have l:(w.alloc (.cells #[.int .u8 (k:Int),.slice a n cap] 209)).cell? ⟨w.heap.size,0,none⟩=some (.int .u8 (k:Int)):=cR f.out rfl;have m:(w.alloc (.cells #[.int .u8 (k:Int),.slice a n cap] 209)).cell? ⟨w.heap.size,1,none⟩=some (.slice a n cap):=cR f.out rfl
 have i:Hid (((room k:Nat):Int)=6):=by show ((room k:Nat):Int)=6;rcases h with rfl|rfl<;>decide
 have c:k<=6:=by omega
 go_enter Tryz.func182,Tryz.ntmps182;go_wp2_with fail;generalize (w.alloc (.cells #[.int .u8 (k:Int),.slice a n cap] 209))=j at*;go_region_held3 (λw'=>w'.cell? ⟨w.heap.size,0,none⟩=some (.int .u8 (k:Int))/\w'.cell? ⟨w.heap.size,1,none⟩=some (.slice a n cap)) (go_keep) ((go_at_call 129;refine(vo _ k c).mono ?_;rintro e g ⟨rfl,b⟩;rw [b,i.out];clear b g));go_wp2;go_ret;exact⟨rfl,d.out.trans (Kept.drew (λ_=>False) j) iL⟩
def dY(ws:List (Nat×List Value))(i:Int):List (Nat×List Value):=ws.filter λp=> !decide ((p.1:Int)=i)
theorem dZ(a:j<ws.length)(h:(ws[j].1:Int)=i):dY (ws.take (j+1)) i=dY (ws.take j) i:=by
 rw [ar a];unfold dY;rw [lK,List.filter_cons_of_neg (by rw [h];simp),nd,aM]
theorem Ys(a:j<ws.length)(h:¬(ws[j].1:Int)=i):dY (ws.take (j+1)) i=dY (ws.take j) i++[ws[j]]:=by
 rw [ar a];unfold dY;rw [lK,List.filter_cons_of_pos (by simpa using h),nd]
theorem QC(h:yy ws i=some k):k<ws.length/\ws.take k=dY (ws.take (k+1)) i:=by
 unfold yy at h;rw [ic] at h;obtain⟨a,e,d⟩:=h;refine⟨a,?_⟩;rw [dZ a (by simpa using e)];unfold dY;rw [eT.2];intro p b;obtain⟨j,c,rfl⟩:=ei b;rw [ay] at c;rw [lO];simpa using d j (by omega)
structure dF (w:World) (g cap:Nat) (ws:List (Nat×List Value)) (i:Int) (p j:Nat) (V:List (Nat×List Value)) (wr:World):Prop where
 pj:p<j
 jn:j<=ws.length
 len:V.length=ws.length
 front:V.take p=dY (ws.take j) i
 back:V.drop j=ws.drop j
 ok:∀q∈V,zW q.2
 row:wr.ownsRow 0 160 129 (.slice (some ⟨g,0,none⟩) ws.length cap) ws.length (V.map zR).flatten
 kept:Kept (λk=>k=g) w wr
theorem dF.wlen(h:dF w g cap ws i p j V wr):∀b∈V.map zR,b.length=129:=λb c=>by
 obtain⟨q,a,rfl⟩:=av.1 c;simp [zR,(h.ok q a).1]
theorem dF.at_(h:dF w g cap ws i p j V wr)(c:j<ws.length):∃b:j<V.length,V[j]=ws[j]:=by
 have b:j<V.length:=by rw [h.len];exact c
 refine⟨b,?_⟩;have a:=et (·[0]?) h.back;simp only [mc,lS] at a;rw [aI b,aI c] at a;exact aK a
theorem dF.skip{a:World}(h:dF w g cap ws i p j V wr)(b:j<ws.length)(e:(ws[j].1:Int)=i)(k:Kept (λ_=>False) wr a):dF w g cap ws i p (j+1) V a where
 pj:=by have:=h.pj;omega
 jn:=b
 len:=h.len
 front:=by rw [dZ b e];exact h.front
 back:=by have:=et (List.drop 1) h.back;simpa [eI,iU] using this
 ok:=h.ok
 row:=k.owns h.row nF
 kept:=h.kept.trans k fE
theorem dF.move{c:World}(h:dF w g cap ws i p j V wr)(b:j<ws.length)(e:¬(ws[j].1:Int)=i)(k:Kept (λ_=>False) wr c):dF w g cap ws i (p+1) (j+1) (V.set p ws[j]) (c.setCells g (p*129) (zR ws[j])) where
 pj:=by have:=h.pj;omega
 jn:=b
 len:=by simp [h.len]
 front:=by
  have n:p<V.length:=by have:=h.pj;rw [h.len];omega
  rw [Ys b e,<-h.front,ar (by simpa using n),List.getElem_set_self,List.take_set_of_le (aC _)]
 back:=by rw [List.drop_set_of_lt (by have:=h.pj;omega)];have:=et (List.drop 1) h.back;simpa [eI,iU] using this
 ok:=λq d=>by
  rcases iD d with d|rfl;.exact h.ok q d
  .obtain⟨l,f⟩:=h.at_ b;rw [<-f];exact h.ok _ (ag l)
 row:=by obtain⟨l,f⟩:=h.at_ b;have a:=k.owns h.row nF;rw [show ws.length=(V.map zR).length from by simp [h.len]] at a;have m:=cd a h.wlen p (by have:=h.pj;simp [h.len];omega) (zR ws[j]) (by rw [<-f];exact h.wlen _ (av.2 ⟨_,ag l,rfl⟩));rw [<-mf,show (V.map zR).length=ws.length from by simp [h.len]] at m;exact m
 kept:=(h.kept.trans k fE).trans (Kept.setCells (S:=λk=>k=g) g rfl _ _ _) iL
theorem Yt(w:World)(f bd:Nat)(T:Nat->Prop)(C:Ck)(a:Option Addr)(cap:Nat)(h:qO w f bd T C a cap)(b:Nat)(i:Int)(d:w.heap[b]? =some (.cells #[.int .i64 i] 3 (0,0)))(g:yy C.ws i=none):
 Calls Tryz.prog 183 #[.slice a C.ws.length cap,.func (.func 184) #[] #[.pointer (some ⟨b,0,none⟩)]] w λe w'=>e=.returned (.slice a C.ws.length cap)/\Kept (λ_=>False) w w':=by
 change Hid _ at h d g;go_enter Tryz.func183,Tryz.ntmps183;go_wp2_with (go_at_call 201;refine(Zt w f bd T C a cap h b i d).mono ?_;rintro e j ⟨rfl,c⟩;rw [g.out];change Hid _ at c;dsimp only [BD]);go_ret;exact⟨rfl,c⟩
theorem Yu(w:World)(an bd:Nat)(T:Nat->Prop)(C:Ck)(g cap:Nat)(h:qO w an bd T C (some ⟨g,0,none⟩) cap)(b:Nat)(i:Int)(I:w.heap[b]? =some (.cells #[.int .i64 i] 3 (0,0)))(ao:b≠g)(k:Nat)(ab:yy C.ws i=some k):
 Calls Tryz.prog 183 #[.slice (some ⟨g,0,none⟩) C.ws.length cap,.func (.func 184) #[] #[.pointer (some ⟨b,0,none⟩)]] w λe w'=>e=.returned (.slice (some ⟨g,0,none⟩) (dY C.ws i).length cap)/\w'.ownsRow 0 160 129 (.slice (some ⟨g,0,none⟩) (dY C.ws i).length cap) (dY C.ws i).length ((dY C.ws i).map zR).flatten/\Kept (λj=>j=g) w w':=by
 obtain⟨K,P,aN⟩:∃K:List Value,K=yN/\∀w,(zeroValue 160).run Tryz.prog w=.ok (.agg K.toArray) w:=⟨yN,rfl,qa Tryz.infoCw⟩;have O:Hid (K.length=129):=by rw [P];exact et (· +1) zI.1
 clear P;have n:Hid _:=qc Tryz.infoCw;obtain⟨af,W⟩:=QC ab;have aE:=h.few;have L:Hid _:=h;change Hid _ at W I ab;clear h;go_enter Tryz.func183,Tryz.ntmps183;have aM:((k:Int)== -1)=false:=by simp
 go_wp2_with (go_at_call 201;refine(Zt w an bd T C _ cap L.out b i I.out).mono ?_;rintro e aP ⟨rfl,D⟩;rw [ab.out];change Hid _ at D;dsimp only [BD]);go_loopw [5,6] (λaF Z wr=>∃(p j:Nat) (V:List (Nat×List Value)),aF=.int .i64 p/\Z=.int .i64 j/\dF w g cap C.ws i p j V wr) (λ_ Z _=>C.ws.length-(intOf Z).toNat)
 case atStart=>exact⟨k,k+1,C.ws,rfl,by go_num,by omega,af,rfl,W.out,rfl,L.ok,D.owns L.row nF,D.mono fE⟩
 case round=>
  obtain⟨p,j,V,rfl,rfl,c⟩:=hrel;have aJ:=c.pj;have aK:=c.jn;change Hid _ at c;by_cases y:j<C.ws.length
  .obtain⟨aB,U⟩:=c.at_ y
   have ad:Hid (wr.rangeAt g (j*129) (.int .i64 (C.ws[j].1:Int)::C.ws[j].2)):=by have au:=c.row;rw [show C.ws.length=(V.map zR).length from by simp [c.len]] at au;have:=q9 au c.wlen j (by simpa using aB);rw [ig,U] at this;exact this
   have a:Hid (zW C.ws[j].2):=L.ok _ (ag y);have ah:=(lT I.out);have aI:=c.kept.size;have av:Hid (wr.heap[b]? =some (.cells #[.int .i64 i] 3 (0,0))):=(c.kept.block _ ah ao).trans I.out;have N:Hid (∀d,¬(C.ws[j].1:Int)=i->Kept (λ_=>False) wr d->dF w g cap C.ws i (p+1) (j+1) (V.set p C.ws[j]) (d.setCells g (p*129) (.int .i64 (C.ws[j].1:Int)::C.ws[j].2))):=λd e k=>c.move y e k;have R:Hid (∀d,(C.ws[j].1:Int)=i->Kept (λ_=>False) wr d->dF w g cap C.ws i p (j+1) V d):=λd e k=>c.skip y e k
   have G:Hid (∀d,Kept (λ_=>False) wr d->d.there g (p*129) 129):=λd k=>by
    rcases (k.owns c.row nF).2 with⟨F,_⟩|⟨am,E,v,t,_,z,o,ai,J,al⟩;.cases F
    .cases t;intro m ax
     have B:p*129+m<v.size:=by rw [J];have:(p+1)*129<=cap*129:=eH _ (by omega);omega
     refine⟨?_,aa d g _ _ _ z⟩;rw [ak d g _ _ _ _ z,lx B];rfl
   clear U;generalize aC:C.ws[j]=q at*;obtain⟨f,l⟩:=q;clear aC;simp only at N R ad a;have x:Hid (Kept (λ_=>False) wr (wr.alloc (.cells (.int .i64 (f:Int)::l).toArray 160))):=Kept.alloc _ _ _;have X:Hid ((wr.alloc (.cells (.int .i64 (f:Int)::l).toArray 160)).rangeAt wr.heap.size 0 (.int .i64 (f:Int)::l)):=zU (heap_alloc_new wr _);have M:Hid ((wr.alloc (.cells (.int .i64 (f:Int)::l).toArray 160)).heap[b]? =some (.cells #[.int .i64 i] 3 (0,0))):=(x.block _ (by omega) id).trans av.out;have aL:(j:Int)<(C.ws.length:Int):=by omega
   by_cases s:(f:Int)=i
   .have H:Hid (((f:Int)==i)=true):=by show ((f:Int)==i)=true;simp [s]
    have Y:Hid _:=s;clear s
    go_wp2_with (first
     |(show wpList _ _ _ ({dst:=some 25,op:=.load _ _,type:=_,pos:=_,after:=_,guard:=_}::_) _ _;refine wpList_load_mid rfl 160 (.tmp 24) rfl _ _ rfl (.int .i64 (f:Int)::l) _ ad.out Tryz.underlying160 rfl (by rw [ae,a.1];exact n.out) ?_)
     |(show wpList _ _ _ ({dst:=none,op:=.store _ (.tmp 7) (.tmp 25),type:=_,pos:=_,after:=_,guard:=_}::_) _ _;refine zi rfl 160 (.tmp 7) (.tmp 25) rfl _ _ (.int .i64 (f:Int)::l) rfl rfl rfl (by rw [ae,a.1];exact n.out) (by rw [ae,a.1];simpa using O.out) (aZ.2 ⟨rfl,a.2⟩) ?_)
     |(show wpList _ _ _ ({dst:=some 27,op:=.load _ _,type:=_,pos:=_,after:=_,guard:=_}::_) _ _;refine wpList_load_mid rfl 160 (.tmp 7) rfl _ _ rfl (.int .i64 (f:Int)::l) _ X.out Tryz.underlying160 rfl (by rw [ae,a.1];exact n.out) ?_)
     |(go_at_call 184;refine(uW _ b i M.out f l a.out).mono ?_;rintro e ac ⟨rfl,r⟩;rw [H.out];have u:Hid _:=r;clear r))
    go_roundw
    case rel=>exact⟨p,j+1,V,rfl,by go_num,R.out _ Y.out (x.trans u.out iL)⟩
    case measure=>simp [intOf];omega
   .have H:Hid (((f:Int)==i)=false):=by show ((f:Int)==i)=false;simpa using s
    have Y:Hid _:=s;clear s;have ap:(p:Int)<(C.ws.length:Int):=by omega
    go_wp2_with (first
     |(show wpList _ _ _ ({dst:=some 25,op:=.load _ _,type:=_,pos:=_,after:=_,guard:=_}::_) _ _;refine wpList_load_mid rfl 160 (.tmp 24) rfl _ _ rfl (.int .i64 (f:Int)::l) _ ad.out Tryz.underlying160 rfl (by rw [ae,a.1];exact n.out) ?_)
     |(show wpList _ _ _ ({dst:=none,op:=.store _ (.tmp 7) (.tmp 25),type:=_,pos:=_,after:=_,guard:=_}::_) _ _;refine zi rfl 160 (.tmp 7) (.tmp 25) rfl _ _ (.int .i64 (f:Int)::l) rfl rfl rfl (by rw [ae,a.1];exact n.out) (by rw [ae,a.1];simpa using O.out) (aZ.2 ⟨rfl,a.2⟩) ?_)
     |(show wpList _ _ _ ({dst:=some 27,op:=.load _ _,type:=_,pos:=_,after:=_,guard:=_}::_) _ _;refine wpList_load_mid rfl 160 (.tmp 7) rfl _ _ rfl (.int .i64 (f:Int)::l) _ X.out Tryz.underlying160 rfl (by rw [ae,a.1];exact n.out) ?_)
     |(go_at_call 184;refine(uW _ b i M.out f l a.out).mono ?_;rintro e ac ⟨rfl,r⟩;rw [H.out];have u:Hid _:=r;have ar:Hid (ac.rangeAt wr.heap.size 0 (.int .i64 (f:Int)::l)):=zU ((r.block wr.heap.size (by simp) id).trans (heap_alloc_new wr _));clear r)
     |(show wpList _ _ _ ({dst:=some 32,op:=.load _ _,type:=_,pos:=_,after:=_,guard:=_}::_) _ _;refine wpList_load_mid rfl 160 (.tmp 7) rfl _ _ rfl (.int .i64 (f:Int)::l) _ ar.out Tryz.underlying160 rfl (by rw [ae,a.1];exact n.out) ?_)
     |(show wpList _ _ _ ({dst:=none,op:=.store _ (.tmp 33) (.tmp 32),type:=_,pos:=_,after:=_,guard:=_}::_) _ _;refine wpList_store_mid rfl 160 (.tmp 33) (.tmp 32) rfl g (p*129) _ rfl rfl (by rw [aw,ae,a.1];exact G.out ac (x.trans u.out iL)) (by rw [aw,ae,a.1];exact n.out) (all_oneCell_toArray (aZ.2 ⟨rfl,a.2⟩)) ?_))
    go_roundw
    case rel=>exact⟨p+1,j+1,_,by go_num,by go_num,N.out _ Y.out (x.trans u.out iL)⟩
    case measure=>simp [intOf];omega
  .obtain rfl:j=C.ws.length:=by omega
   have A:(dY C.ws i).length=p:=by have o:=et List.length c.front;rw [eX,ay,c.len,eE (by omega)] at o;exact o.symm
   have aj:Hid (V.take p=dY C.ws i):=by have o:=c.front;rw [eX] at o;exact o
   have az:C.ws.length<=cap:=by
    rcases c.row.2 with⟨F,_⟩|⟨am,E,v,t,_,z,o,ai,J,al⟩;.cases F
    .cases t;exact o
   have G:Hid (wr.there g (p*129) ((C.ws.length-p)*129)):=by
    show wr.there g (p*129) ((C.ws.length-p)*129);rcases c.row.2 with⟨F,_⟩|⟨am,E,v,t,_,z,o,ai,J,al⟩;.cases F
    .cases t;intro m ax
     have B:p*129+m<v.size:=by rw [J];have:C.ws.length*129<=cap*129:=eH _ o;rw [Nat.sub_mul] at ax;have:p*129<=C.ws.length*129:=eH _ (by omega);omega
     refine⟨?_,aa wr g _ _ _ z⟩;rw [ak wr g _ _ _ _ z,lx B];rfl
   obtain⟨aH,aA,aO⟩:=Yr wr g (p*129) (C.ws.length-p) (cap-p) (by omega) G.out;have Q:=Kl c.row c.ok c.len p (by omega) aH (by rw [aA,Nat.sub_mul];have:p*129<=C.ws.length*129:=eH _ (by omega);omega);have aq:Hid ((wr.setCells g (p*129) aH).ownsRow 0 160 129 (.slice (some ⟨g,0,none⟩) p cap) p ((dY C.ws i).map zR).flatten):=by rw [<-aj.out];exact Q
   have aG:¬cap=p:=by omega
   have ap:(p:Int)<=(C.ws.length:Int):=by omega
   have aD:(p:Int)<=(cap:Int):=by omega
   change Hid _ at A;clear Q;go_wp2;go_ret;refine⟨by rw [A.out];rfl,by rw [A.out];exact aq.out,c.kept.trans (Kept.setCells (S:=λk=>k=g) g rfl _ _ _) iL⟩
theorem Km:∀(r:Fin 8) (a:Fin 256),bits BinOp.andNot IntKind.u8 (a.val:Int) (dc r.val)=((a.val&&&(255^^^2^r.val):Nat):Int):=by decide+kernel
theorem Kn(a r:Nat)(b:a<256)(c:r<8):bits BinOp.andNot IntKind.u8 (a:Int) (dc r)=((a&&&(255^^^2^r):Nat):Int):=Km ⟨r,c⟩ ⟨a,b⟩
def Ck.free(C:Ck)(m:List UInt8)(i:Nat):Ck:={C.put 2 (zo (zV (vd m i))) with ws:=dY (C.put 2 (zo (zV (vd m i)))).ws ((i:Int)+21)}
theorem qO.shorter{w':World}{a bd:Nat}{T:Nat->Prop}{C:Ck}(h:qO w a bd T C (some ⟨g,0,none⟩) cap)(ws:List (Nat×List Value))(i:∀p∈ws,zW p.2)(n:ws.length<=C.ws.length)
 (c:w'.ownsRow 0 160 129 (.slice (some ⟨g,0,none⟩) ws.length cap) ws.length (ws.map zR).flatten) (l:Kept (λj=>j=g) w w'):
 qO (w'.setCell ⟨a,1,none⟩ (.slice (some ⟨g,0,none⟩) ws.length cap)) a bd T {C with ws:=ws} (some ⟨g,0,none⟩) cap:=by
 have d:a≠g:=λe=>h.ap (by rw [<-e];rfl);have b:w'.heap[a]? =_:=(l.block a (h.lt a h.bcT) d).trans h.head;refine⟨i,?_,?_,h.own,h.ap,by show ws.length<=1000;have:=h.few;omega⟩;.rw [heap_setCell_same w' a 1 _ _ _ b];rfl
 .exact(Kept.setCell (S:=λk=>k=a) w' ⟨a,1,none⟩ _ rfl).owns c (λk f e=>h.ap (by
   have m:(Value.slice (some ⟨g,0,none⟩) C.ws.length cap).ownBlock=(Value.slice (some ⟨g,0,none⟩) ws.length cap).ownBlock:=rfl
   rw [m,f,show k=a from e]))
section
attribute [local go_sem ↓] kh
theorem fL(w:World)(c bd:Nat)(S T:Nat->Prop)(D:Dk)(C:Ck)(h:Cw w c bd S T D C)(m:List UInt8)(B:qP (C.look D 2) m)(aF:0<=D.reads)(aH:D.reads<=4611686018427387904)(au:C.ws.length<1000)(i:Nat)(bh:i<979):
 Calls Tryz.prog 143 #[.pointer (some ⟨c,0,none⟩),.int .i64 ((i:Int)+21)] w λe w'=>e=.returned (.tuple #[])/\(∃(n:Int) (aI:Nat->Prop),0<=n/\n<=1/\Cw w' c bd S aI {D with reads:=D.reads+n} (C.free m i)/\∀k,aI k->T k\/w.heap.size<=k)/\Kept (λk=>k=bd\/T k) w w':=by
 obtain⟨Y,ae,bg⟩:∃Y:List Value,Y=z9/\∀w,(zeroValue 154).run Tryz.prog w=.ok (.agg Y.toArray) w:=⟨z9,rfl,qa Tryz.infoPage⟩;have aQ:Hid (zW Y):=by rw [ae];exact zI
 clear ae;have a6:Hid _:=qc Tryz.infoPage;have a4:Hid _:=h;have aS:=B.len;have M:Hid _:=yv (jG B.len);have aM:Hid _:=h.disk.lt;have y:Hid _:=h.chg.lt;have a9:=h.disk.lt bd h.disk.bdS;change Hid _ at B;clear h;go_enter Tryz.func143,Tryz.ntmps143;have ad:Hid (Kept (λ_=>False) w (w.alloc (.cells #[.int .i64 ((i:Int)+21)] 3))):=Kept.alloc _ _ _;have ay:Hid ((w.alloc (.cells #[.int .i64 ((i:Int)+21)] 3)).heap[w.heap.size]? =some (.cells #[.int .i64 ((i:Int)+21)] 3 (0,0))):=heap_alloc_new w _;have bb:(w.alloc (.cells #[.int .i64 ((i:Int)+21)] 3)).heap.size=w.heap.size+1:=by simp
 go_wp2_with fail;generalize (w.alloc (.cells #[.int .i64 ((i:Int)+21)] 3))=ax at*;refine(fh ax c bd S T D C (a4.kept0 ad) m B aF aH).mono ?_;rintro e b ⟨rfl,⟨X,al,Z,ai⟩,G⟩;have aC:Hid (Kept (λk=>k=bd) ax b):=G;have bc:=G.size;have ac:Hid (b.heap[w.heap.size]? =some (.cells #[.int .i64 ((i:Int)+21)] 3 (0,0))):=(G.block _ (by omega) (by omega)).trans ay.out;have bl:b.cell? ⟨w.heap.size,0,none⟩=some (.int .i64 ((i:Int)+21)):=cR ac.out rfl;have bm:w.heap.size<b.heap.size:=by omega
 change Hid _ at ai;clear G
 go_wp2_with (first
  |(show wpList _ _ _ ({dst:=none,op:=.store _ (.tmp 4) (.tmp 8),type:=_,pos:=_,after:=_,guard:=_}::_) _ _;refine zi rfl 154 (.tmp 4) (.tmp 8) rfl _ _ (zo (zV m)) (by simp) rfl rfl (by rw [M.1];exact a6) (by rw [aw,aQ.1,M.1]) M.2 ?_)
  |(go_at_call 171;refine(dd _ i (by omega)).mono ?_;rintro e bi ⟨rfl,V,rfl⟩))
 have aU:Hid (yd ((b.alloc (.cells (zo (zV m)).toArray 154)).drewN V) b.heap.size (zV m)):=(show yd (b.alloc (.cells (zo (zV m)).toArray 154)) b.heap.size (zV m) from⟨⟨heap_alloc_new b _⟩,jG B.len⟩).kept (T:=λ_=>False) kD (λaq=>aq);have aA:Hid (Kept (λ_=>False) b ((b.alloc (.cells (zo (zV m)).toArray 154)).drewN V)):=(Kept.alloc _ _ _).trans (S':=λ_=>False) kD iL;have aK:((b.alloc (.cells (zo (zV m)).toArray 154)).drewN V).heap.size=b.heap.size+1:=by show (b.alloc _).heap.size=_;simp
 generalize (b.alloc (.cells (zo (zV m)).toArray 154)).drewN V=az at*;refine(jZ az _ _ aU).mono ?_;rintro e bf ⟨rfl,W,rfl⟩;have U:jM b.heap.size (zV m).kind (zV m).items.length=.slice (some ⟨b.heap.size,4,none⟩) 124 124:=by simp [jM,zV,zm,aS]
 rw [U];clear U;have P:Hid (yd (az.drewN W) b.heap.size (zV m)):=aU.kept (T:=λ_=>False) kD (λaq=>aq);have A:Hid (Kept (λ_=>False) b (az.drewN W)):=aA.trans (S':=λ_=>False) kD iL;have aD:(az.drewN W).heap.size=b.heap.size+1:=aK;generalize az.drewN W=s at*;have aV:=Xc B.len P (i/8) (by omega);have a8:=P.bs.fz (4+i/8);have t:=(m.getD (i/8) 0).toNat_lt;have ao:Hid (vd m i=m.set (i/8) (UInt8.ofNat ((m.getD (i/8) 0).toNat&&&(255^^^2^(i%8))))):=rfl;have aZ:=Kn (m.getD (i/8) 0).toNat (i%8) (m.getD (i/8) 0).toNat_lt (by omega);have a5:Hid ((m.getD (i/8) 0).toNat&&&(255^^^2^(i%8))<256):=mM mZ t;generalize (m.getD (i/8) 0).toNat=bj at*;generalize a3:bj&&&(255^^^2^(i%8))=N at*;have af:Hid (yd (s.setCell ⟨b.heap.size,4+i/8,none⟩ (.int .u8 (N:Int))) b.heap.size (zV (vd m i))):=by rw [ao.out];exact map_set B.len P i (by omega) N a5.out
 have O:Hid (Kept (λk=>k=b.heap.size) s (s.setCell ⟨b.heap.size,4+i/8,none⟩ (.int .u8 (N:Int)))):=Kept.setCell (S:=λk=>k=b.heap.size) s ⟨b.heap.size,4+i/8,none⟩ (.int .u8 (N:Int)) rfl;have ab:Hid (zW (zo (zV (vd m i)))):=yv af.ok;have aB:(fe (.pointer (some ⟨b.heap.size,0,none⟩))).run Tryz.prog (s.setCell ⟨b.heap.size,4+i/8,none⟩ (.int .u8 (N:Int)))=.ok (.agg (zo (zV (vd m i))).toArray) (s.setCell ⟨b.heap.size,4+i/8,none⟩ (.int .u8 (N:Int))):=jw _ _ _ _ (zU af.bs.at_) ab.1;clear a3;have be:(i:Int)/8<124:=by omega
 have a0:0<=(i:Int)/8:=by omega
 go_wp2_with fail;have aE:Hid (Cw (s.setCell ⟨b.heap.size,4+i/8,none⟩ (.int .u8 (N:Int))) c bd S T {D with reads:=D.reads+X} C):=(ai.kept0 A).kept O (λj f K=>by have a1:=aM.out j f;omega) (λj f K=>by have a1:=y.out j f;have L:j=b.heap.size:=K;omega);have aN:Hid ((s.setCell ⟨b.heap.size,4+i/8,none⟩ (.int .u8 (N:Int))).heap[w.heap.size]? =some (.cells #[.int .i64 ((i:Int)+21)] 3 (0,0))):=(O.block _ (by omega) (by omega)).trans ((A.block _ (by omega) id).trans ac);have ba:(s.setCell ⟨b.heap.size,4+i/8,none⟩ (.int .u8 (N:Int))).heap.size=b.heap.size+1:=by rw [<-aD];simp
 have an:Hid (Kept (λk=>k=bd) w (s.setCell ⟨b.heap.size,4+i/8,none⟩ (.int .u8 (N:Int)))):=(((ad.mono fE).trans aC iL).trans A fE).trans O (λj f=>.inr (by omega));generalize (s.setCell ⟨b.heap.size,4+i/8,none⟩ (.int .u8 (N:Int)))=aT at*;refine(kj aT c bd S T _ C aE 2 _ ab au).mono ?_;rintro e z ⟨rfl,⟨v,J,I⟩,R⟩;have aO:Hid (Kept T aT z):=R;have ag:Hid (z.heap[w.heap.size]? =some (.cells #[.int .i64 ((i:Int)+21)] 3 (0,0))):=(R.block _ (by omega) (λaX=>by have:=y.out _ aX;omega)).trans aN.out;change Hid _ at J I;clear R aB;generalize aj:C.put 2 (zo (zV (vd m i)))=l at*;change Hid _ at aj;obtain⟨a,cap,d⟩:=J.chg;have bk:=d.c1;change Hid _ at d;have aL:Hid (C.free m i={l with ws:=dY l.ws ((i:Int)+21) }):=by show C.free m i=_;unfold Ck.free;rw [aj.out]
 have x:Hid (∀k,v k->T k\/w.heap.size<=k):=λk aY=>(I k aY).imp id (λh=>by omega);have Q:Hid (Kept (λk=>k=bd\/T k) w z):=(an.mono iL).trans aO (λ_ h=>.inl (.inr h));have r:v c:=d.bcT;have H:Hid (∀k,S k->¬v k):=J.apart;have am:Hid (ze z bd S {D with reads:=D.reads+X }):=J.disk
 have aW:¬c=w.heap.size:=λe=>by
  rcases x c r with h|h;.have:=y.out c h;omega
  .rcases I c r with L|L;.have:=y.out c L;omega
   .omega
 change Hid _ at r
 cases t:yy l.ws ((i:Int)+21) with
 |none=>
  have av:Hid _:=t
  have a7:Hid (dY l.ws ((i:Int)+21)=l.ws):=by show dY l.ws ((i:Int)+21)=l.ws;unfold dY;rw [eT];intro p ap;unfold yy at t;rw [iE] at t;simpa using t p ap
  clear t;go_wp2_with (go_at_call 183;refine(Yt z c bd v l a cap d w.heap.size _ ag av).mono ?_;rintro e q ⟨rfl,o⟩;have u:Hid (Kept (λ_=>False) z q):=o;have E:Hid (qO q c bd v l a cap):=d.kept o nF;have a2:=E.c1;have aP:=E.fz 1;clear o);go_end0;have B9:q.setCell ⟨c,1,none⟩ (.slice a l.ws.length cap)=q:=cC E.head rfl;rw [B9];refine⟨rfl,⟨X,v,al,Z,⟨am.kept u nF,?_,H⟩,x⟩,Q.trans u fE⟩;rw [aL.out,a7.out];exact⟨a,cap,E⟩
 |some k=>
  have av:Hid _:=t;obtain⟨g,rfl⟩:=d.rowAt (by have:=(QC t).1;omega);clear t;have F:v g:=(d.own g).2 (.inr rfl)
  have aG:w.heap.size≠g:=λe=>by
   rcases I g F with L|L;.have:=y.out g L;omega
   .omega
  have ar:¬c=g:=λe=>d.ap (by rw [<-e];rfl);change Hid _ at F;go_wp2_with (go_at_call 183;refine(Yu z c bd v l g cap d w.heap.size _ ag aG k av).mono ?_;rintro e q ⟨rfl,ak,o⟩;have u:Hid _:=o;have ah:Hid _:=(o.block c (d.lt c d.bcT) ar).trans d.head;have a2:q.cell? ⟨c,1,none⟩=some (.slice (some ⟨g,0,none⟩) l.ws.length cap):=(cR ah.out rfl);have aP:q.frozen? ⟨c,1,none⟩=false:=aa q c 1 _ _ ah.out;change Hid _ at ak;clear o);go_end0;have aR:=d.shorter (dY l.ws ((i:Int)+21)) (λp ap=>d.ok p (eA.1 ap).1) (ir _ _) ak u.out;have aJ:Kept (λk=>k=c) q (q.setCell ⟨c,1,none⟩ (.slice (some ⟨g,0,none⟩) (dY l.ws ((i:Int)+21)).length cap)):=Kept.setCell (S:=λk=>k=c) q ⟨c,1,none⟩ _ rfl;refine⟨rfl,⟨X,v,al,Z,⟨(am.kept u (λj f K=>H j f (by rw [show j=g from K];exact F))).kept aJ (λj f K=>H j f (by rw [show j=c from K];exact r)),?_,H⟩,x⟩,(Q.trans u (λj f=>?_)).trans aJ (λj f=>?_)⟩
  .rw [aL.out];exact⟨_,cap,aR⟩
  .rcases x g F.out with h|h;.exact .inl (.inr (by rw [show j=g from f];exact h))
   .exact .inr (by rw [show j=g from f];exact h)
  .rcases x c r.out with h|h;.exact .inl (.inr (by rw [show j=c from f];exact h))
   .exact .inr (by rw [show j=c from f];exact h)
end
theorem Ko(w:World)(b bd:Nat)(S T:Nat->Prop)(D:Dk)(C:Ck)(h:Cw w b bd S T D C)(m:List UInt8)(z:qP (C.look D 2) m)(x:0<=D.reads)(P:D.reads<=4611686018427380000)(t:C.ws.length<1000)(i:Nat)(J:i<979)(k:Nat)(E:k=4\/k=5)(y:C.look D ((i+21:Nat):Int)=zo (zc k [])):
 Calls Tryz.prog 142 #[.pointer (some ⟨b,0,none⟩),.int .i64 ((i:Int)+21)] w λe w'=>e=.returned (.int .i64 0)/\(∃(n:Int) (A:Nat->Prop),0<=n/\n<=2/\Cw w' b bd S A {D with reads:=D.reads+n} (C.free m i)/\∀k,A k->T k\/w.heap.size<=k)/\Kept (λk=>k=bd\/T k) w w':=by
 have c:((i+21:Nat):Int)=(i:Int)+21:=by omega
 have v:Hid (Calls Tryz.prog 174 #[.iface 142 (.pointer (some ⟨b,0,none⟩)),.int .i64 ((i:Int)+21)] w λe w'=>∃f a,e=.returned (.agg #[.int .u8 (k:Int),.slice f 0 a])/\(∃n:Int,0<=n/\n<=1/\Cw w' b bd S T {D with reads:=D.reads+n} C)/\Kept (λi=>i=bd) w w'):=by have:=yR w b bd S T D C h x (by omega) (i+21) (by omega) k [] E (by simp) (by simp) (by simp) y;rw [c] at this;exact this.mono (λe w' ⟨f,a,l,B,I,_⟩=>⟨f,a,l,B,I⟩)
 change Hid _ at z;clear h y c;go_enter Tryz.func142,Tryz.ntmps142;go_wp2_with fail;refine v.mono ?_;rintro e u ⟨f,a,rfl,⟨o,F,G,s⟩,d⟩;have O:=d.size;change Hid _ at s d;have g:Hid (Kept (λ_=>False) u (u.alloc (.cells #[.int .u8 (k:Int),.slice f 0 a] 209))):=Kept.alloc _ _ _;go_wp2_with (go_at_call 143;refine(fL _ b bd S T {D with reads:=D.reads+o} C (s.kept0 g) m z (by show 0<=D.reads+o;omega) (by show D.reads+o<=_;omega) t i J).mono ?_;rintro e Q ⟨rfl,⟨M,N,L,H,r,q⟩,p⟩;change Hid _ at r q p);go_ret;refine⟨rfl,⟨o+M,N,by omega,by omega,?_,λj K=>?_⟩,?_⟩;.have:=r.out;rw [eG] at this;exact this
 .rcases q j K with l|l;.exact .inl l
  .exact .inr (by have:=g.size;omega)
 .exact(((d.mono (S':=λk=>k=bd\/T k) iL).trans g fE).trans p iL)
theorem Uq(w:World)(f bd:Nat)(S T:Nat->Prop)(D:Dk)(C:Ck)(h:Cw w f bd S T D C)(m:List UInt8)(N:qP (C.look D 2) m)(K:0<=D.reads)(ak:D.reads<=4611686018427380000)(B:C.ws.length<1000)(i:Nat)(ad:i<979)(v:En)(ae:v.Ok)(F:v.mark=false/\v.size=0)(L:C.look D ((i+21:Nat):Int)=zo (zc 4 [v])):
 Calls Tryz.prog 142 #[.pointer (some ⟨f,0,none⟩),.int .i64 ((i:Int)+21)] w λe w'=>e=.returned (.int .i64 (v.at_:Int))/\(∃(n:Int) (Q:Nat->Prop),0<=n/\n<=2/\Cw w' f bd S Q {D with reads:=D.reads+n} (C.free m i)/\∀k,Q k->T k\/w.heap.size<=k)/\Kept (λk=>k=bd\/T k) w w':=by
 have o:((i+21:Nat):Int)=(i:Int)+21:=by omega
 have E:Hid (Calls Tryz.prog 174 #[.iface 142 (.pointer (some ⟨f,0,none⟩)),.int .i64 ((i:Int)+21)] w λe w'=>∃g b,e=.returned (.agg #[.int .u8 4,.slice (some ⟨g,0,none⟩) 1 b])/\(∃n:Int,0<=n/\n<=1/\Cw w' f bd S T {D with reads:=D.reads+n} C)/\Kept (λi=>i=bd) w w'/\w.heap.size<=g/\g<w'.heap.size/\w'.cell? ⟨g,4,none⟩=some (.int .i64 (v.at_:Int))):=by
  have:=yR w f bd S T D C h K (by omega) (i+21) (by omega) 4 [v] (.inl rfl) (by simpa using ae) (λ_=>by simpa using F) (by simp) L;rw [o] at this;refine this.mono ?_;rintro e w' ⟨an,b,q,V,ac,ao,I,ag⟩;rcases I.2 with⟨_,W⟩|⟨g,ab,aj,O,_,X,_⟩;.simp at W
  .simp only [iG,Value.slice.injEq] at O;obtain⟨rfl,_,rfl⟩:=O;have s:=I.cells (g:=g) rfl 4 (.int .i64 (v.at_:Int)) (by simp [qE]);rw [eO] at s;exact⟨g,b,q,V,ac,ag g rfl,(lT X),s⟩
 have U:Hid _:=h.chg.lt;have al:=h.disk.lt bd h.disk.bdS;change Hid _ at N;clear h L o;go_enter Tryz.func142,Tryz.ntmps142;go_wp2_with fail;refine E.mono ?_;rintro e d ⟨g,b,rfl,⟨r,Y,Z,A⟩,p,J,x,t⟩;have H:=p.size;change Hid _ at A p;have c:Hid (Kept (λ_=>False) d (d.alloc (.cells #[.int .u8 4,.slice (some ⟨g,0,none⟩) 1 b] 209))):=Kept.alloc _ _ _;have G:Hid ((d.alloc (.cells #[.int .u8 4,.slice (some ⟨g,0,none⟩) 1 b] 209)).heap[d.heap.size]? =some (.cells #[.int .u8 4,.slice (some ⟨g,0,none⟩) 1 b] 209 (0,0))):=heap_alloc_new d _
 have y:Hid (∀j,w.heap.size<=j->¬(j=bd\/T j)):=λj P s=>by
  rcases s with h|h;.omega
  .have:=U.out j h;omega
 change Hid _ at t;go_wp2_with (go_at_call 143;refine(fL _ f bd S T {D with reads:=D.reads+r} C (A.kept0 c) m N (by show 0<=D.reads+r;omega) (by show D.reads+r<=_;omega) B i ad).mono ?_;rintro e R ⟨rfl,⟨ai,af,ah,aa,z,u⟩,l⟩;have M:Hid (R.heap[d.heap.size]? =some (.cells #[.int .u8 4,.slice (some ⟨g,0,none⟩) 1 b] 209 (0,0))):=(l.block _ (by simp) (y _ H)).trans G.out;have ap:R.cell? ⟨d.heap.size,1,none⟩=some (.slice (some ⟨g,0,none⟩) 1 b):=(cR M.out rfl);have am:=(l.cell (a:=⟨g,4,none⟩) (au x c.size) (y g J)).trans ((c.cell (a:=⟨g,4,none⟩) x id).trans t);change Hid _ at z u l);go_ret;refine⟨rfl,⟨r+ai,af,by omega,by omega,?_,λj P=>?_⟩,?_⟩;.have:=z.out;rw [eG] at this;exact this
 .rcases u j P with q|q;.exact .inl q
  .exact .inr (by have:=c.size;omega)
 .exact(((p.mono (S':=λk=>k=bd\/T k) iL).trans c fE).trans l iL)
theorem Kp(w:World)(d bd:Nat)(S T:Nat->Prop)(D:Dk)(C:Ck)(h:Cw w d bd S T D C)(y:0<=D.reads)(F:D.reads<=4611686018427380000)(b:Nat)(v:b<65536)(k:Nat)(q:k=4\/k=5)(a:List En)(o:∀e∈a,e.Ok)(x:k=4->∀e∈a,e.mark=false/\e.size=0)(f:a.length<=6)(t:1<=a.length)(g:k=4->2<=a.length)(z:C.look D (b:Nat)=zo (zc k a)):
 Calls Tryz.prog 142 #[.pointer (some ⟨d,0,none⟩),.int .i64 (b:Int)] w λe w'=>e=.returned (.int .i64 (b:Int))/\(∃n:Int,0<=n/\n<=1/\Cw w' d bd S T {D with reads:=D.reads+n} C)/\Kept (λk=>k=bd) w w':=by
 have u:Hid (Calls Tryz.prog 174 #[.iface 142 (.pointer (some ⟨d,0,none⟩)),.int .i64 (b:Int)] w λe w'=>∃j c,e=.returned (.agg #[.int .u8 (k:Int),.slice j a.length c])/\(∃n:Int,0<=n/\n<=1/\Cw w' d bd S T {D with reads:=D.reads+n} C)/\Kept (λi=>i=bd) w w'):=
  (yR w d bd S T D C h y (by omega) b v k a q o x f z).mono (λe w' ⟨j,c,t,g,A,_⟩=>⟨j,c,t,g,A⟩)
 have E:((a.length:Int)==0)=false:=by simpa using (by omega:¬a.length=0)
 have m:Hid ((k=4/\((a.length:Int)==1)=false)\/k=5):=by
  rcases q with h|h;.exact .inl ⟨h,by have:=g h;simpa using (by omega:¬(a.length:Int)=1)⟩
  .exact .inr h
 clear h o x f t g z q;rcases m.out with⟨rfl,G⟩|rfl
 all_goals
  clear m;go_enter Tryz.func142,Tryz.ntmps142;go_wp2_with fail;refine u.mono ?_;rintro e H ⟨j,c,rfl,⟨B,r,s,p⟩,l⟩;change Hid _ at p l;go_wp2;go_ret;exact⟨rfl,⟨B,r,s,p.kept0 (Kept.alloc _ _ _)⟩,l.trans (Kept.alloc (λ_=>False) _ _) fE⟩
end prog
end Go.Proofs.YtcoengihaobddaaGreatDoor
