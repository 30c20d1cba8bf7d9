/- Part 43 of 50 of a proof: Keep14, Keep15 -/
import Derived.Test.YtcoengihaobddaaGreatDoorJe41
set_option maxHeartbeats 8000000
set_option linter.unusedVariables false
set_option linter.unusedSimpArgs false
set_option maxRecDepth 8000
namespace Go.Proofs.YtcoengihaobddaaGreatDoor
namespace keep
open Go.ChangeShapes Go.WideShapes Go.ChangeAt Go.RowKit disk ref book
open law (zP za zL yU zD xm J6 Uc OutIs)
open keys (zg zd zq zl zh)
def uC(w:World)(Q:Nat->Prop)(a:Option Addr)(ks:List Bool):Prop:=∀j,j<ks.length->∃kb ko,a=some ⟨kb,ko,none⟩/\Q kb/\kb<w.heap.size/\w.cell? ⟨kb,ko+j,none⟩=some (.bool (ks.getD j false))
theorem uC.kept{w w':World}{Q T:Nat->Prop}{a:Option Addr}{ks:List Bool}(h:uC w Q a ks)(k:Kept T w w')(m:∀i,Q i->¬T i):uC w' Q a ks:=λj f=>by
 obtain⟨b,d,l,c,e,g⟩:=h j f;exact⟨b,d,l,c,au e k.size,(k.cell (a:=⟨b,d+j,none⟩) e (m b c)).trans g⟩
def yI(d s l:Value)(last:Int):Obj:=.cells #[d,s,l,.int .i64 last,.int .i64 (-1),.int .i64 0,.bool true] 33 (0,0)
theorem jD{w:World}{bp:Nat}{b s l:Value}{a:Int}(h:w.heap[bp]? =some (yI b s l a)):w.cell? ⟨bp,0,none⟩=some b/\w.cell? ⟨bp,1,none⟩=some s/\w.cell? ⟨bp,2,none⟩=some l/\w.cell? ⟨bp,4,none⟩=some (.int .i64 (-1))/\w.cell? ⟨bp,6,none⟩=some (.bool true)/\∀i,w.frozen? ⟨bp,i,none⟩=false:=by
 unfold yI at h;refine⟨?_,?_,?_,?_,?_,λi=>aa w bp i _ _ h⟩<;>rw [ak w bp _ _ _ _ h]<;>rfl
section
variable {M:za} {w0 w w':World} {bp bd bs:Nat} {O:Obj} {S S':Nat->Prop} {D D':Dk} {V V':zP} {most:Int}
theorem Jt(A:zL M)(n:∀f,M.Fu f->f≠0)(i:ze w bd S D)(m:M.Live D V)(j:M.Fu D.fuse)(g:0<=D.reads)(q:D.reads<=1000000000000)(h:D.bs.length=1000)(r:V.n0<=1000000):
 Calls Tryz.prog 35 #[.pointer (some ⟨bd,0,none⟩)] w λe w'=>∃bs S' D',e=.returned (.tuple #[.pointer (some ⟨bs,0,none⟩),.int .i64 0])/\zD M w' bd bs S' D' V/\w.heap.size<=bs/\(∀k,S' k->S k\/w.heap.size<=k)/\Kept S w w'/\D'.reads<=D.reads+2000/\D'.bs.length=1000:=by
 refine(A.big w bd S D (λp=>p=V) i m.could j g (by omega)).mono ?_;rintro e w' ⟨D',S',a,⟨bs,p,rfl,hbs,d,c,rfl,b⟩|⟨rfl,o,t⟩⟩
 .have s:=a.reads0;have l:=a.reads1;rw [h] at l;exact⟨bs,S',D',rfl,⟨a.disk,d,c,b,a.fuse,by omega,by omega,by omega⟩,hbs,a.foot,a.kept,by omega,a.size.trans h⟩
 .exact absurd o (n _ a.fuse)
theorem QL(a:M.Live D V):M.Live {D with reads:=0} V:=⟨a.ps,a.rest,a.big⟩
theorem UL(a:M.Live D V)(ks:List Bool):M.Live {D with bs:=zk D.bs (sel D.ps ks),ps:=[],fuse:= -1} V:=by
 refine⟨rfl,?_,?_⟩
 .show M.Rest (zk D.bs (sel D.ps ks)) V;rw [a.ps];exact a.rest
 .show 64<=(zk D.bs (sel D.ps ks)).length;rw [a.ps];exact a.big
theorem KE(A:zL M)(aN:∀f,M.Fu f->f≠0)(s l:Value)(b:Int)(F:w.heap[bp]? =some (yI (.pointer (some ⟨bd,0,none⟩)) s l b))(aZ:ze w bd S D)(aq:M.Live D V)(aL:¬S bp)(aS:D.bs.length=1000)(a7:V.n0<=1000000)(Q:Nat->Prop)(B:Option Addr)(aJ:Nat)(ks:List Bool)(c:uC w Q B ks)(aA:∀k,Q k->¬S k)(bh:ks.length<=140737488355326):
 Calls Tryz.prog 16 #[.pointer (some ⟨bp,0,none⟩),.slice B ks.length aJ] w λe w'=>e=.returned (.tuple #[])/\∃Y d S' D',w'.heap[bp]? =some (yI (.pointer (some ⟨Y,0,none⟩)) (.pointer (some ⟨d,0,none⟩)) l b)/\zD M w' Y d S' D' V/\w.heap.size<=d/\(∀k,S' k->w.heap.size<=k)/\Kept (λk=>S k\/k=bp) w w'/\D'.reads<=2000/\D'.bs.length=1000:=by
 have au:bp<w.heap.size:=(lT F);have a8:Hid (w.heap[bp]? =some (yI (.pointer (some ⟨bd,0,none⟩)) s l b)):=F;have aT:Hid (M.Live D V):=aq;have ag:Hid (¬S bp):=aL;obtain⟨bb,_,_,_,_,_⟩:=jD F;obtain⟨aE,aw,an,aH,W⟩:=aZ;have ai:Hid (zn w bd S D aE aw an aH):=W
 have ar:Hid (∀j,j<ks.length->∃m C,B=some ⟨m,C,none⟩/\¬S m/\m<w.heap.size/\w.cell? ⟨m,C+j,none⟩=some (.bool (ks.getD j false))):=λj aX=>by obtain⟨m,C,a2,aM,aV,aP⟩:=c j aX;exact⟨m,C,a2,aA m aM,aV,aP⟩
 clear F aq aL W c aA;go_enter Tryz.func16,Tryz.ntmps16;go_wp2_with fail;refine(K8 w bd S D aE aw an aH ai.out B ks aJ (by omega) ar.out).mono ?_;rintro e a ⟨rfl,⟨S1,ap,aG⟩,q⟩;have v:a.heap[bp]? =_:=(q.block bp au ag.out).trans a8.out;obtain⟨aQ,_,_,_,_,_⟩:=jD v;have al:Hid (a.heap[bp]? =some (yI (.pointer (some ⟨bd,0,none⟩)) s l b)):=v;have ak:Hid (Kept S w a):=q;have be:=q.size;have N:=UL aT.out ks;have T:(zk D.bs (sel D.ps ks)).length=1000:=by rw [zB];exact aS
 have X:M.Fu (-1):=M.fu_neg;generalize o:({D with bs:=zk D.bs (sel D.ps ks),ps:=[],fuse:= -1}:Dk)=D1 at*;have ab:D1.bs.length=1000:=by rw [<-o];exact T
 have ac:M.Fu D1.fuse:=by rw [<-o];exact X
 have ay:D1.ps.length<=68719476736:=by rw [<-o];simp
 obtain⟨Z,L,O,U,u⟩:=ap;have aK:Hid (zn a bd S1 D1 Z L O U):=u;have aI:Hid (M.Live D1 V):=N;have av:Hid (M.Fu D1.fuse):=ac;clear v q N T X u o aG;go_wp2_with fail;refine(QY a bd S1 D1 Z L O U aK.out ay).mono ?_;rintro e i ⟨rfl,⟨E,G,J⟩,p⟩;have x:i.heap[bp]? =_:=(p.block bp (by omega) (λa5=>a5)).trans al.out;obtain⟨aR,_,_,_,_,z⟩:=jD x;have a0:=z 0;have aB:Hid (i.heap[bp]? =some (yI (.pointer (some ⟨bd,0,none⟩)) s l b)):=x;have ao:Hid (Kept (λ_=>False) a i):=p;have bf:=p.size;have ah:Hid (ze i a.heap.size E {D1 with reads:=0 }):=G;have r:Hid (∀k,E k->a.heap.size<=k):=J;clear x p G J z;go_wp2_with fail;have R:(i.setCell ⟨bp,0,none⟩ (.pointer (some ⟨a.heap.size,0,none⟩))).heap[bp]? =some (yI (.pointer (some ⟨a.heap.size,0,none⟩)) s l b):=heap_setCell_same i bp 0 _ _ _ aB.out;have k3:=Kept.setCell (S:=λk=>k=bp) i ⟨bp,0,none⟩ (.pointer (some ⟨a.heap.size,0,none⟩)) rfl;generalize i.setCell ⟨bp,0,none⟩ (.pointer (some ⟨a.heap.size,0,none⟩))=ad at*;have I:ze ad a.heap.size E {D1 with reads:=0}:=ah.out.kept k3 (λk c e=>by have:=r.out k c;have a4:k=bp:=e;omega);have ax:Hid (Kept (λk=>k=bp) i ad):=k3;have ba:=k3.size;refine(Jt A aN I (QL aI.out) (by exact av.out) (by show (0:Int)<=0;omega) (by show (0:Int)<=_;omega) (by exact ab) a7).mono ?_;rintro e g ⟨d,ae,aa,rfl,K,a1,P,t,bg,aF⟩;have y:g.heap[bp]? =_:=(t.block bp (by omega) (λaY=>by have:=r.out bp aY;omega)).trans R;obtain⟨a3,aO,_,_,a9,n⟩:=jD y;have a6:=n 1;have aU:=n 6;have aD:Hid (g.heap[bp]? =some (yI (.pointer (some ⟨a.heap.size,0,none⟩)) s l b)):=y;have aj:Hid (zD M g a.heap.size d ae aa V):=K;have aC:Hid (Kept E ad g):=t;have H:Hid (∀k,ae k->a.heap.size<=k):=λk c=>(P k c).elim (r.out k) (λh=>by omega);have bc:=t.size;have af:aa.reads<=2000:=by have e:({D1 with reads:=0}:Dk).reads=0:=rfl;omega
 clear y K t P n I k3 R;go_wp2_with fail;go_end0
 have az:((g.setCell ⟨bp,1,none⟩ (.pointer (some ⟨d,0,none⟩))).setCell ⟨bp,6,none⟩ (.bool true)).heap[bp]? =some (yI (.pointer (some ⟨a.heap.size,0,none⟩)) (.pointer (some ⟨d,0,none⟩)) l b):=by have aW:=heap_setCell_same g bp 1 _ _ (.pointer (some ⟨d,0,none⟩)) aD.out;exact heap_setCell_same _ bp 6 _ _ (.bool true) aW
 have am:Kept (λk=>k=bp) g ((g.setCell ⟨bp,1,none⟩ (.pointer (some ⟨d,0,none⟩))).setCell ⟨bp,6,none⟩ (.bool true)):=(Kept.setCell (S:=λk=>k=bp) g ⟨bp,1,none⟩ _ rfl).trans (Kept.setCell (S:=λk=>k=bp) _ ⟨bp,6,none⟩ _ rfl) iL;refine⟨rfl,a.heap.size,d,ae,aa,az,zD.kept aj.out am (λk c e=>by have:=H.out k c;have a4:k=bp:=e;omega) (λe=>by omega),by omega,λk c=>by have:=H.out k c;omega,?_,af,aF⟩;refine(((((ak.out.mono iL).trans ao.out fE).trans ax.out (λk c=>.inl (.inr c))).trans aC.out (λk c=>.inr ?_))).trans am (λk c=>.inl (.inr c));have:=r.out k c;omega
end
theorem gh{vs:List zw}(h:xt vs){v:zw}(e:v∈vs):qK vs v.key v.num=some v:=by
 cases b:qK vs v.key v.num with
 |none=>exact absurd ⟨rfl,rfl⟩ (jY b v e)
 |some u=>
  obtain⟨f,d,k⟩:=jv b;obtain⟨i,g,rfl⟩:=ei k;obtain⟨j,c,rfl⟩:=ei e;unfold xt at h;rw [eB] at h;rcases mo i j with a|a|a;.exact absurd ⟨f,d⟩ (h i j g c a)
  .subst a;rfl
  .exact absurd ⟨f.symm,d.symm⟩ (h j i c g a)
section
variable {M:za} {w0 w w':World} {bp bd bs:Nat} {O:Obj} {S S':Nat->Prop} {D D':Dk} {V V':zP} {most:Int}
theorem B3(A:yU M)(h:xH M w0 w bp bd bs O S D V)(s:D.reads<=1000000000000)(v:zw)(g:v∈V.vs)(p:v.mark=false):
 Calls Tryz.prog 42 #[.pointer (some ⟨bs,0,none⟩),.string v.key,.int .i64 v.num] w λe w'=>∃S' D' a cap,e=.returned (.tuple #[.slice a v.body.length cap,.int .i64 0])/\xm M w w' bd bs S S' D D' 40 (some bd)/\xH M w0 w' bp bd bs O S' D' V/\D'.reads<=D.reads+40/\bY w' S' bs a cap v.body:=by
 have d:=h.fore.live.good;have b:=d.key v g;have q:=jr b;have t:=d.num v g;have r:=h.fore.few;refine(A.live w bd bs S D V v.key v.num h.fore (by unfold maxLen;omega) ⟨by omega,by omega⟩).mono ?_;rintro e w' ⟨D',x,S',rfl,f,m,c,n⟩
 have o:yF (zh v.key.data.toList) (qK V.vs v.key v.num)=0:=by rw [b,gh d.apart g];show cond v.mark 5 0=0;rw [p];rfl
 rw [o] at c ⊢;obtain⟨u,l,a,cap,rfl,i,j⟩:=c.1 rfl;rw [gh d.apart g] at l;obtain rfl:v=u:=by simpa using l
 exact⟨S',D',a,cap,rfl,f,h.aft f m (by have:=f.reads1;omega) h.fore.few,f.reads1,⟨.inr ⟨i,λk b=>⟨n k b,by have:=j k b;have:=h.bs_lt;omega⟩⟩⟩⟩
structure yZ (w:World) (S:Nat->Prop) (bs:Nat) (a:Option Addr) (cap:Nat) (cs:List (List Value)) (G:Nat->Prop) (vs:List zw):Prop where
 row:jb w S bs 85 3 (.slice a vs.length cap) vs.length cs.flatten
 told:Told w G cs vs
 far:∀k,G k->¬S k/\k≠bs/\k<w.heap.size
variable {a:Option Addr} {cap:Nat} {cs:List (List Value)} {G:Nat->Prop} {vs:List zw}
theorem yZ.keep(h:yZ w S bs a cap cs G vs)(k:Kept (λ_=>False) w w'):yZ w' S bs a cap cs G vs:=⟨h.row.keep k,h.told.kept k nF,λi b=>⟨(h.far i b).1,(h.far i b).2.1,au (h.far i b).2.2 k.size⟩⟩
theorem yZ.aft(h:yZ w S bs a cap cs G vs)(c:xm M w w' bd bs S S' D D' most (some bd)):yZ w' S' bs a cap cs G vs:=
 ⟨h.row.aft c,h.told.kept c.kept (λi b d=>d.elim (h.far i b).1 (h.far i b).2.1),λi b=>⟨(xm.far c (h.far i b).2.2 (h.far i b).1 (h.far i b).2.1).2,(h.far i b).2.1,au (h.far i b).2.2 c.kept.size⟩⟩
theorem yZ.cells(h:yZ w S bs a cap cs G vs)(p:0<vs.length):∃g,a=some ⟨g,0,none⟩/\∀i (c:i<vs.length),w.cell? ⟨g,i*3,none⟩=some (.string vs[i].key)/\w.cell? ⟨g,i*3+1,none⟩=some (.int .i64 vs[i].num)/\∃f b,w.cell? ⟨g,i*3+2,none⟩=some (.slice f vs[i].body.length b)/\zu w G f vs[i].body:=by
 obtain⟨g,rfl⟩:∃g,a=some ⟨g,0,none⟩:=by
  rcases h.row.row.2 with⟨l,q⟩|⟨g,b,o,n,_⟩;.simp at l;omega
  .cases n;exact⟨g,rfl⟩
 refine⟨g,rfl,λi c=>?_⟩;have j:=h.told.len;have k:=h.row.row;rw [<-j] at k;have d:=q9 k h.told.three i (by rw [j];exact c);obtain⟨f,b,e,m⟩:=(h.told.each i (by rw [j];exact c) c).at_;rw [e] at d;exact⟨d 0 _ rfl,d 1 _ rfl,f,b,d 2 _ rfl,m⟩
set_option maxRecDepth 60000 in
theorem UM(A:yU M)(b:Int)(h:xH M w0 w bp bd bs (yI (.pointer (some ⟨bd,0,none⟩)) (.pointer (some ⟨bs,0,none⟩)) (.slice a V.vs.length cap) b) S D V)(k:yZ w S bs a cap cs G V.vs)(ap:D.reads<=1000000000)(ao:V.vs.length<=1000)(T:∀v∈V.vs,v.mark=false):
 Calls Tryz.prog 17 #[.pointer (some ⟨bp,0,none⟩)] w λe w'=>e=.returned (.bool true)/\∃S' D',xH M w0 w' bp bd bs (yI (.pointer (some ⟨bd,0,none⟩)) (.pointer (some ⟨bs,0,none⟩)) (.slice a V.vs.length cap) b) S' D' V:=by
 have ad:Hid (xH M w0 w bp bd bs (yI (.pointer (some ⟨bd,0,none⟩)) (.pointer (some ⟨bs,0,none⟩)) (.slice a V.vs.length cap) b) S D V):=h;have X:Hid (yZ w S bs a cap cs G V.vs):=k;have W:Hid (∀v∈V.vs,v.mark=false):=T;have H:Hid (∀v∈V.vs,v.body.length<=300):=h.fore.live.good.body;clear h k T;go_enter Tryz.func17,Tryz.ntmps17;go_wp2_with fail;go_loopw [3] (λt wr=>∃i:Nat,i<=V.vs.length/\t=.int .i64 i/\∃S' D',xH M w0 wr bp bd bs (yI (.pointer (some ⟨bd,0,none⟩)) (.pointer (some ⟨bs,0,none⟩)) (.slice a V.vs.length cap) b) S' D' V/\yZ wr S' bs a cap cs G V.vs/\D'.reads<=D.reads+40*(i:Int)) (λt _=>V.vs.length-(intOf t).toNat)
 case atStart=>exact⟨0,ai _,rfl,S,D,ad.out,X.out,by omega⟩
 case round=>
  obtain⟨i,aq,rfl,S',D',z,k,ae⟩:=hrel;have O:Hid (xH M w0 wr bp bd bs (yI (.pointer (some ⟨bd,0,none⟩)) (.pointer (some ⟨bs,0,none⟩)) (.slice a V.vs.length cap) b) S' D' V):=z;have r:Hid (yZ wr S' bs a cap cs G V.vs):=k;obtain⟨_,al,ak,_,_,_⟩:=jD z.head;clear z k;by_cases f:i<V.vs.length
  .have aj:(i:Int)<(V.vs.length:Int):=by omega
   obtain⟨g,rfl,u⟩:=r.out.cells (by omega);obtain⟨k0,k1,_⟩:=u i f;have c:Hid (V.vs[i]∈V.vs):=ag f;have B:Hid (V.vs[i]? =some V.vs[i]):=by show _=_;simp
   generalize V.vs[i]=v at*;clear u;go_wp2_with fail;have ah:=H.out v c.out;have N:Hid (V.vs[i]=v):=by show V.vs[i]=v;have:=B.out;rw [aI f] at this;exact aK this
   go_region_held3 (λw'=>w'.cell? ⟨bp,1,none⟩=some (.pointer (some ⟨bs,0,none⟩))/\w'.cell? ⟨bp,2,none⟩=some (.slice (some ⟨g,0,none⟩) V.vs.length cap)/\w'.cell? ⟨g,i*3,none⟩=some (.string v.key)/\w'.cell? ⟨g,i*3+1,none⟩=some (.int .i64 v.num)) (go_keep) ((go_at_call 42;refine(B3 A (O.out.keep (Kept.drew (λ_=>False) wr)) (by omega) v c.out (W.out v c.out)).mono ?_;rintro e j ⟨m,y,U,aa,rfl,s,n,af,q⟩;have E:Hid (xH M w0 j bp bd bs (yI (.pointer (some ⟨bd,0,none⟩)) (.pointer (some ⟨bs,0,none⟩)) (.slice (some ⟨g,0,none⟩) V.vs.length cap) b) m y V):=n;have d:=(r.out.keep (Kept.drew (λ_=>False) wr)).aft s;have F:Hid (yZ j m bs (some ⟨g,0,none⟩) cap cs G V.vs):=d;have P:Hid (zu j (λ_=>True) U v.body):=q.bytes;obtain⟨_,ac,Y,_,_,_⟩:=jD n.head;obtain⟨Z,I,l⟩:=d.cells (by omega);obtain rfl:g=Z:=(by simpa using I);obtain⟨Q,R,J,ab,k2,o⟩:=l i f;rw [N.out] at Q R k2 o;have C:Hid (zu j G J v.body):=o;clear s n q d l o I));go_wp2_with fail;refine(uy j (λ_=>True) G U J aa ab v.body P.out C.out (by omega)).mono ?_;rintro e x ⟨rfl,an,p⟩;have k3:Kept (λ_=>False) j x:=by rw [p];exact kD
   have L:Hid (xH M w0 x bp bd bs (yI (.pointer (some ⟨bd,0,none⟩)) (.pointer (some ⟨bs,0,none⟩)) (.slice (some ⟨g,0,none⟩) V.vs.length cap) b) m y V):=E.out.keep k3;have K:Hid (yZ x m bs (some ⟨g,0,none⟩) cap cs G V.vs):=F.out.keep k3;clear p k3;go_wp2;go_roundw
   case rel=>exact⟨i+1,by omega,by go_num,m,y,L.out,K.out,by push_cast;omega⟩
   case measure=>simp [intOf];omega
  .have am:decide ((i:Int)<(V.vs.length:Int))=false:=decide_eq_false (by omega);go_wp2;go_ret;exact⟨rfl,S',D',O.out⟩
end
end keep
end Go.Proofs.YtcoengihaobddaaGreatDoor
