/- Part 40 of 50 of a proof: Keep8, Keep9, Top2 -/
import Derived.Test.YtcoengihaobddaaGreatDoorJe39
import Derived.Test.YtcoengihaobddaaGreatDoorJe19
set_option maxHeartbeats 8000000
set_option linter.unusedVariables false
set_option linter.unusedSimpArgs false
set_option maxRecDepth 8000
namespace Go.Proofs.YtcoengihaobddaaGreatDoor
namespace keep
open Go.ChangeShapes Go.WideShapes Go.ChangeAt Go.RowKit disk ref book
open law (zP za yg zD xm zJ Z8 uv)
open keys (zg zd zq zl zh)
variable {a5:Option Addr}{c5:Nat}
theorem YD(l r:List zw):zJ (l++r)=zJ l++zJ r:=by unfold zJ;simp
theorem QJ(l:List zw):(zJ l).length=l.length*4:=by
 unfold zJ
 induction l with
 |nil=>rfl
 |cons v l a=>simp only [aT,eo,ah,ae,a];simp [Z8];omega
theorem UI(L:List zw)(n m:Nat):L.take (n+((L.drop n).take m).length)=L.take n++(L.drop n).take m:=by
 rw [List.take_add];congr 1;rw [ay];by_cases h:m<=(L.drop n).length;.rw [eE h]
 .rw [Nat.min_eq_right (by omega),ao (aC _),ao (by omega)]
theorem DI(L:List zw)(n:Nat)(h:n<L.length):Jw L (n+1)=L[n].key/\KC L (n+1)=L[n].num:=by
 unfold Jw KC;simp [h]
theorem jr{k:ByteArray}(h:zh k.data.toList=true):k.size<=8:=by
 unfold zh at h;simp only [aS,aO] at h;simpa using h.1.2
structure UW (M:za) (w wr:World) (bd bs:Nat) (S:Nat->Prop) (D:Dk) (V:zP) (L:List zw) (m i n:Nat) (a:Option Addr) (c:Nat) (S':Nat->Prop) (D':Dk):Prop where
 ni:n=i*m
 nlt:n=0\/n<L.length
 fore:zD M wr bd bs S' D' V
 foot:∀k,S' k->S k\/w.heap.size<=k
 kept:Kept (λk=>S k\/k=bs) w wr
 reads0:D.reads<=D'.reads
 reads1:D'.reads<=D.reads+1000*(i:Int)
 size:D'.bs.length=D.bs.length
 row:Row wr a c (L.take n)
 new:∀k,(Value.slice a n c).ownBlock=some k->w.heap.size<=k/\¬S' k
 nil:n=0->a=none/\c=0
section
variable {M:za} {w wr w2 w5:World} {bd bs:Nat} {S S' S2:Nat->Prop} {D D' D2:Dk} {V:zP} {L KK:List zw} {m i n q c c2:Nat} {a:Option Addr}
structure UJ (M:za) (w w5:World) (bd bs:Nat) (S:Nat->Prop) (D:Dk) (V:zP) (L:List zw) (i n:Nat) (a5:Option Addr) (c5:Nat) (S2:Nat->Prop) (D2:Dk):Prop where
 fore:zD M w5 bd bs S2 D2 V
 foot:∀k,S2 k->S k\/w.heap.size<=k
 kept:Kept (λk=>S k\/k=bs) w w5
 reads0:D.reads<=D2.reads
 reads1:D2.reads<=D.reads+1000*((i:Int)+1)
 size:D2.bs.length=D.bs.length
 row:Row w5 a5 c5 (L.take n)
 new:∀k,(Value.slice a5 n c5).ownBlock=some k->w.heap.size<=k/\¬S2 k
theorem UW.page(h:UW M w wr bd bs S D V L m i n a c S' D')(b:xm M wr w2 bd bs S' S2 D' D2 1000 (some bd))(g:M.Live D2 V)(hbs:bs<w.heap.size)(t:D2.reads<=2305843009213693952)(T:Nat->Prop)(s:Kept T w2 w5)(l:∀k,T k->w.heap.size<=k/\¬S2 k)(a5:Option Addr)(c5 j:Nat)(o:Row w5 a5 c5 (L.take j))(q:∀k,(Value.slice a5 j c5).ownBlock=some k->w.heap.size<=k/\¬S2 k):UJ M w w5 bd bs S D V L i j a5 c5 S2 D2:=by
 have f:∀k,S2 k->S k\/w.heap.size<=k:=λk d=>by
  rcases b.foot k d with e|e;.exact h.foot k e
  .exact .inr (by have:=h.kept.size;omega)
 have r:¬S2 bs:=λd=>by
  rcases b.foot bs d with e|e;.exact h.fore.apart e
  .have:=h.kept.size;omega
 have y:=h.reads0;have u:=h.reads1;have z:=b.reads0;have v:=b.reads1;have x:=h.fore.reads0;refine⟨zD.kept ⟨b.disk,r,b.sto,g,b.fuse,by omega,t,h.fore.few⟩ s (λk d p=>(l k p).2 d) (λp=>by have:=(l bs p).1;omega),f,?_,by omega,by omega,b.size.trans h.size,o,q⟩;refine(h.kept.trans (b.kept.mono (S':=λk=>S' k\/k=bs) (λk d=>d)) (λk d=>?_)).trans s (λk d=>.inr (l k d).1);rcases d with d|d;.exact(h.foot k d).imp .inl id
 .exact .inl (.inr d)
theorem UW.first(h:UW M w wr bd bs S D V L m i 0 none 0 S' D')(a:xm M wr w2 bd bs S' S2 D' D2 1000 (some bd))(c:M.Live D2 V)(hbs:bs<w.heap.size)(n:D2.reads<=2305843009213693952)(l:L.take (0+q)=L.take 0++KK)(r:KK.length=q)(o:Obj)(a5:Option Addr)(c5:Nat)
 (f:w5.ownsRow 0 94 4 (.slice a5 q c5) q (zJ KK)) (d:(w2.alloc o).grownBy w5 none) (j:(Value.slice a5 q c5).ownBlock=none\/(Value.slice a5 q c5).ownBlock=some (w2.alloc o).heap.size):UJ M w w5 bd bs S D V L i q a5 c5 S2 D2:=by
 have e:L.take q=KK:=by simpa using l
 have t:=h.kept.size;have s:=a.kept.size;refine h.page a c hbs n (λ_=>False) ((Kept.alloc _ w2 o).trans (Kept.grown d (λk b=>by cases b)) iL) fE a5 c5 q ?_ (λk b=>?_)
 .unfold Row;rw [e,r];exact f
 .have u:k=w2.heap.size+1:=by
   rcases j with g|g<;>rw [g] at b<;>simp at b;omega
  exact⟨by omega,λp=>by have:=a.disk.lt k p;omega⟩
theorem UW.next(h:UW M w wr bd bs S D V L m i n a c S' D')(b:xm M wr w2 bd bs S' S2 D' D2 1000 (some bd))(l:M.Live D2 V)(hbs:bs<w.heap.size)(v:D2.reads<=2305843009213693952)(t:L.take (n+q)=L.take n++KK)(B:KK.length=q)(y:n+q<=L.length)(z:Obj)(f c5:Nat)
 (o:w5.ownsRow 0 94 4 (.slice (some ⟨f,0,none⟩) (n+q) c5) (n+q) (zJ (L.take n)++zJ KK)) (j:(w2.alloc z).grownBy w5 (Value.slice a n c).ownBlock) (s:(Value.slice a n c).ownBlock=some f\/f=w2.heap.size+1):UJ M w w5 bd bs S D V L i (n+q) (some ⟨f,0,none⟩) c5 S2 D2:=by
 have C:=h.kept.size;have A:=b.kept.size
 have g:∀k,(Value.slice a n c).ownBlock=some k->w.heap.size<=k/\¬S2 k:=λk d=>by
  have e:=h.new k d;refine⟨e.1,λp=>?_⟩;rcases b.foot k p with u|u;.exact e.2 u
  .have x:n<=L.length:=by omega
   have E:k<wr.heap.size:=by have r:wr.ownsRow 0 94 4 (.slice a (L.take n).length c) (L.take n).length (zJ (L.take n)):=h.row;rw [ay,eE x] at r;exact(r.lt k d).2
   omega
 refine h.page b l hbs v (λk=>(Value.slice a n c).ownBlock=some k) ((Kept.alloc _ w2 z).trans (Kept.grown j (λk d=>d)) iL) g _ _ _ ?_ (λk d=>?_)
 .unfold Row;rw [ay,eE y,t,YD];exact o
 .obtain rfl:f=k:=by simpa [Value.ownBlock] using d
  rcases s with e|e;.exact g _ e
  .exact⟨by omega,λp=>by have:=b.disk.lt _ p;omega⟩
theorem UJ.last(h:UJ M w w5 bd bs S D V L i n a5 c5 S2 D2)(o:0<n)(d:n<=L.length):∃g j,a5=some ⟨g,0,none⟩/\g<w5.heap.size/\j+1=n/\w5.cell? ⟨g,j*4,none⟩=some (.string (Jw L n))/\w5.cell? ⟨g,j*4+1,none⟩=some (.int .i64 (KC L n)):=by
 have m:(L.take n).length=n:=by rw [ay,eE d]
 obtain⟨g,e,f,k⟩:=h.row.cells (by omega);obtain⟨j,rfl⟩:∃j,n=j+1:=⟨n-1,by omega⟩;obtain⟨a,b,_,_⟩:=k j (by omega);obtain⟨c,l⟩:=DI L j (by omega);rw [lO] at a b;exact⟨g,j,e,f,rfl,by rw [c];exact a,by rw [l];exact b⟩
theorem UJ.on{a:Nat}(h:UJ M w w5 bd bs S D V L i a a5 c5 S2 D2)(b:a=(i+1)*m)(c:a<L.length)(d:0<a):UW M w w5 bd bs S D V L m (i+1) a a5 c5 S2 D2:=
 ⟨b,.inr c,h.fore,h.foot,h.kept,h.reads0,by have:=h.reads1;push_cast;omega,h.size,h.row,h.new,λe=>by omega⟩
theorem UJ.done{d:Nat}{p:ByteArray}(h:UJ M w w5 bd bs S D V L i d a5 c5 S2 D2)(l:i<2000)(g:d=L.length)(f:qB V.vs p ByteArray.empty 0 L):∃D' S' a c b,Ending.returned (Value.tuple #[.slice a5 d c5,.bool true])=.returned (.tuple #[.slice a b.length c,.bool true])/\xm M w w5 bd bs S S' D D' 2000000 (some bd)/\M.Live D' V/\qB V.vs p ByteArray.empty 0 b/\Row w5 a c b/\∀k,(Value.slice a b.length c).ownBlock=some k->w.heap.size<=k/\¬S' k:=by
 subst g;have e:=h.row;rw [eX] at e;have j:=h.reads1;exact⟨D2,S2,a5,c5,L,rfl,⟨h.fore.disk,h.foot,h.fore.sto,h.kept,h.reads0,by omega,h.size,h.fore.fuse⟩,h.fore.live,f,e,h.new⟩
end
set_option maxRecDepth 60000 in
theorem jC(M:za)(A:yg M)(w:World)(bd bs:Nat)(S:Nat->Prop)(D:Dk)(V:zP)(F:zD M w bd bs S D V)(p:ByteArray)(aZ:p=ByteArray.empty\/zh p.data.toList=true)(bm:p.size<=8)(m:Nat)(bq:1<=m)(br:m<=50)(aJ:V.vs.length<=1000)(bh:D.reads<=1000000000000):
 Calls Tryz.prog 20 #[.pointer (some ⟨bs,0,none⟩),.string p,.int .i64 (m:Int)] w λe w'=>∃D' S' a c L,e=.returned (.tuple #[.slice a L.length c,.bool true])/\xm M w w' bd bs S S' D D' 2000000 (some bd)/\M.Live D' V/\qB V.vs p ByteArray.empty 0 L/\Row w' a c L/\∀k,(Value.slice a L.length c).ownBlock=some k->w.heap.size<=k/\¬S' k:=by
 have s:=F.live.good;obtain⟨L,aa⟩:∃L,qB V.vs p ByteArray.empty 0 L:=⟨_,dP V.vs s.apart p ByteArray.empty 0⟩
 have aq:∀v∈V.vs,v.key≠ByteArray.empty:=λv H e=>by have:=s.key v H;rw [e] at this;exact absurd this (by decide)
 have bj:L.length<=1000:=by rw [aa.perm.length_eq];exact aF (ir _ _) aJ
 have ao:∀v∈L,v∈V.vs:=λv H=>(eA.1 (aa.perm.subset H)).1
 have ae:∀n,n<=L.length->qR p (Jw L n) (KC L n) m=0/\(Jw L n).size<=8/\zs (KC L n):=λn bu=>by
  have aW:(Jw L n=ByteArray.empty/\KC L n=0)\/∃v∈V.vs,Jw L n=v.key/\KC L n=v.num:=by
   by_cases aS:n=0;.subst aS;exact .inl ⟨rfl,rfl⟩
   .obtain⟨j,rfl⟩:∃j,n=j+1:=⟨n-1,by omega⟩;obtain⟨ah,af⟩:=DI L j (by omega);exact .inr ⟨L[j],ao _ (ag _),ah,af⟩
  have aG:=F.few
  have aM:(Jw L n=ByteArray.empty\/zh (Jw L n).data.toList=true)/\0<=KC L n/\KC L n<=2305843009213693952/\(Jw L n).size<=8:=by
   rcases aW with⟨ah,af⟩|⟨v,H,ah,af⟩;.rw [ah,af];exact⟨.inl rfl,by omega,by omega,by decide⟩
   .have ab:=s.num v H;have G:=s.key v H;rw [ah,af];refine⟨.inr G,by omega,by omega,?_⟩;have:=jr G;exact this
  refine⟨?_,aM.2.2.2,⟨by omega,by omega⟩⟩;unfold qR;rw [az,az (by omega)];rintro(⟨ab,G⟩|⟨ab,G⟩)
  .rcases aZ with P|P;.exact ab P
   .rw [P] at G;cases G
  .rcases aM.1 with P|P;.exact ab P
   .rw [P] at G;cases G
 have aT:Hid _:=F;obtain⟨J,ax,aA,aC,au⟩:=qU Tryz.infoVer;have l:Hid (Tryz.prog.info? 94=some J/\J.zero=some (.agg #[.string ⟨#[]⟩,.int .i64 0,.bool false,.int .i64 0])/\J.size=4/\J.bytes=40):=⟨ax,aA,aC,au⟩;have C:=M.sto_lt _ _ _ F.sto;change Hid _ at aa ae aq;clear ax aA aC au F ao s aZ;go_enter Tryz.func20,Tryz.ntmps20;go_wp2_with fail;go_loopw [8,9,10,11] (λx ba a3 t wr=>∃i n:Nat,∃a c S' D',x=.slice a n c/\ba=.string (Jw L n)/\a3=.int .i64 (KC L n)/\t=.int .i64 (i:Int)/\UW M w wr bd bs S D V L m i n a c S' D') (λ_ _ _ t _=>2000-(intOf t).toNat)
 case atStart=>
  exact⟨0,0,none,0,S,D,rfl,rfl,rfl,rfl,⟨by simp,.inl rfl,aT,λk z=>.inl z,Kept.refl _ _,eD _,by omega,rfl,Row.nil w,λk z=>(by cases z),λ_=>⟨rfl,rfl⟩⟩⟩
 case round=>
  obtain⟨i,n,a,c,S',D',rfl,rfl,rfl,rfl,d⟩:=hrel;have av:=d.ni;have bk:=d.nlt;have bg:=d.reads1;have U:n<=L.length:=by omega
  have be:i<=n:=by rw [av];exact i5 i (by omega)
  have bo:(i:Int)<2000:=by omega
  obtain⟨aL,bt,a7⟩:=ae.out n U;have a4:=aT.reads0;change Hid _ at d aL;clear av;generalize aX:Jw L n=bi at*;generalize a1:KC L n=N at*;have ar:Hid (Jw L n=bi/\KC L n=N):=⟨aX,a1⟩;clear aX a1;go_wp2_with fail;refine(A.live wr bd bs S' D' V p bi N m d.fore (by unfold maxLen;omega) (by unfold maxLen;omega) a7 ⟨by omega,by omega⟩).mono ?_;rintro e w2 ⟨D2,S2,x,B,rfl,o,u,W,_,ad⟩;rw [aL.out];obtain⟨a2,aw,al⟩:=W aL.out;obtain rfl:a2=L.drop n:=aw.unique (by have:=qB.behind aa aq n U;rw [ar.1,ar.2] at this;exact this) (eN _);obtain⟨aj,c2,rfl,y,Q⟩:=al.at_;have h:=al.more;have aD:((m:Int)).toNat=m:=by simp
  rw [aD] at y Q h ad;simp only [aD];have T:((L.drop n).take m).length=min m (L.length-n):=by rw [ay,aU]
  have Z:Hid _:=UI L n m;generalize aY:(L.drop n).take m=KK at*;generalize O:KK.length=q at*;have bl:Hid (∀k,(Value.slice aj q c2).ownBlock=some k->wr.heap.size<=k/\¬S2 k):=λk z=>⟨Q k z,ad k z⟩;have hld:(L.drop n).length=L.length-n:=aU;rw [hld] at h;have bc:=o.kept.size;change Hid _ at o u y O;clear W al aw Q ad aY hld;have Y:∀v,(w2.alloc (.cells #[v,.bool B] 90)).heap[w2.heap.size]? =some (.cells #[v,.bool B] 90 (0,0)):=λv=>heap_alloc_new w2 _;have X:Hid (∀aH,(w2.alloc aH).ownsRow 0 94 4 (.slice aj q c2) q (zJ KK)):=λaH=>World.ownsRow.alloc y aH;by_cases aG:n=0
  .subst aG;obtain⟨rfl,rfl⟩:=d.nil rfl
   cases B with
   |true=>
    have I:=aN h.symm;have aI:q=m:=by omega
    subst aI;clear h T;go_wp2_with (refine vU rfl (.tmp 47) (.tmp 49) 44 rfl 94 J _ 4 40 Tryz.underlying44 l.1 l.2.1 l.2.2.1 l.2.2.2 rfl (by omega) (.slice aj q c2) q (zJ KK) (by rfl) (by rfl) (X _) (gg KK) (by unfold maxLen;omega) (by omega) ?_;intro a5 c5 w5 f b r;have K:w5.cell? ⟨w2.heap.size,1,none⟩=some (.bool true):=(b.cell_far ⟨w2.heap.size,1,none⟩ (by simp) (λe=>by cases e)).trans ((ak _ _ 1 _ _ _ (Y _)).trans rfl);have E:Hid (UJ M w w5 bd bs S D V L i q a5 c5 S2 D2):=UW.first d o u C (by have:=o.reads1;omega) Z O _ a5 c5 f b r;clear f b r;obtain⟨R,j,rfl,a0,a6,aV,aR⟩:=E.last (by omega) (by omega);have aO:(j:Int)<(q:Int):=(by omega);have aP:IntKind.i64.wrap ((q:Int)-1)=(j:Int):=(by rw [show (q:Int)-1=(j:Int) by omega];exact IntWalk.i64_in _ (by omega)));go_roundw
    case rel=>exact⟨i+1,q,_,_,S2,D2,rfl,rfl,rfl,by go_num,E.on (by have:=d.ni;rw [eS,<-this];omega) (by omega) (by omega)⟩
    case measure=>simp [intOf];omega
   |false=>
    have I:=iS h.symm;have am:Hid (q=L.length):=by show q=_;omega
    have aQ:q<=m:=by omega
    clear h T I;go_wp2_with (refine vU rfl (.tmp 47) (.tmp 49) 44 rfl 94 J _ 4 40 Tryz.underlying44 l.1 l.2.1 l.2.2.1 l.2.2.2 rfl (by omega) (.slice aj q c2) q (zJ KK) (by rfl) (by rfl) (X _) (gg KK) (by unfold maxLen;omega) (by omega) ?_;intro a5 c5 w5 f b r;have K:w5.cell? ⟨w2.heap.size,1,none⟩=some (.bool false):=(b.cell_far ⟨w2.heap.size,1,none⟩ (by simp) (λe=>by cases e)).trans ((ak _ _ 1 _ _ _ (Y _)).trans rfl);have E:Hid (UJ M w w5 bd bs S D V L i q a5 c5 S2 D2):=UW.first d o u C (by have:=o.reads1;omega) Z O _ a5 c5 f b r;clear f b r);go_ret2;exact E.done (by omega) am aa.out
  .obtain⟨ac,rfl⟩:∃ac,aj=some ⟨ac,0,none⟩:=by
    rcases y.2 with⟨aS,aW⟩|⟨g,a9,bf,H,_⟩;.omega
    .cases H;exact⟨g,rfl⟩
   have aB:Hid (∀k,(Value.slice a n c).ownBlock=some k->k<w2.heap.size):=λk z=>by have an:wr.ownsRow 0 94 4 (.slice a (L.take n).length c) (L.take n).length (zJ (L.take n)):=d.row;rw [ay,eE U] at an;have:=(an.lt k z).2;omega
   have aE:Hid (∀aH,(w2.alloc aH).ownsRow 0 94 4 (.slice a n c) n (zJ (L.take n))):=λaH=>World.ownsRow.alloc (by
    have an:wr.ownsRow 0 94 4 (.slice a (L.take n).length c) (L.take n).length (zJ (L.take n)):=d.row;rw [ay,eE U] at an;refine o.kept.owns an (λk z ap=>?_);have ab:=d.new k z;rcases ap with ap|ap;.exact ab.2 ap
    .omega) aH
   cases B with
   |true=>
    have I:=aN h.symm;have aI:q=m:=by omega
    subst aI;clear h T;go_wp2_with (refine wpList_append_lies _ rfl (.tmp 47) (.tmp 49) 44 rfl 0 94 J _ 4 40 Tryz.underlying44 l.1 l.2.1 l.2.2.1 l.2.2.2 rfl (by omega) (.slice a n c) n (zJ (L.take n)) (by rfl) (aE _) ⟨ac,0,none⟩ q c2 (zJ KK) (by rfl) (by rw [QJ,O.out]) (by exact(X _).cells (g:=ac) rfl) (gg KK) (by omega) (by unfold maxLen;omega) (by omega) (ai _) (w2.heap.size+1) (by simp) ?_;intro R c5 w5 f b r aK;have K:w5.cell? ⟨w2.heap.size,1,none⟩=some (.bool true):=(b.cell_far ⟨w2.heap.size,1,none⟩ (by simp) (λe=>Nat.lt_irrefl _ (aB _ e.symm))).trans ((ak _ _ 1 _ _ _ (Y _)).trans rfl);have E:Hid (UJ M w w5 bd bs S D V L i (n+q) (some ⟨R,0,none⟩) c5 S2 D2):=UW.next d o u C (by have:=o.reads1;omega) Z O (by omega) _ R c5 f b r;clear f b r;obtain⟨a8,j,bb,a0,a6,aV,aR⟩:=E.last (by omega) (by omega);obtain rfl:R=a8:=(by simpa using bb);have aO:(j:Int)<(n:Int)+(q:Int):=(by omega);have aP:IntKind.i64.wrap ((n:Int)+(q:Int)-1)=(j:Int):=(by rw [show (n:Int)+(q:Int)-1=(j:Int) by omega];exact IntWalk.i64_in _ (by omega)));go_roundw
    case rel=>exact⟨i+1,n+q,_,_,S2,D2,rfl,rfl,rfl,by go_num,E.on (by have:=d.ni;rw [eS,<-this];omega) (by omega) (by omega)⟩
    case measure=>simp [intOf];omega
   |false=>
    have I:=iS h.symm;have am:Hid (n+q=L.length):=by show n+q=_;omega
    have aQ:q<=m:=by omega
    have bp:0<q:=by omega
    have bn:n+q<=L.length:=by omega
    clear h T I;go_wp2_with (refine wpList_append_lies _ rfl (.tmp 47) (.tmp 49) 44 rfl 0 94 J _ 4 40 Tryz.underlying44 l.1 l.2.1 l.2.2.1 l.2.2.2 rfl (by omega) (.slice a n c) n (zJ (L.take n)) (by rfl) (aE _) ⟨ac,0,none⟩ q c2 (zJ KK) (by rfl) (by rw [QJ,O.out]) (by exact(X _).cells (g:=ac) rfl) (gg KK) (by omega) (by unfold maxLen;omega) (by omega) (ai _) (w2.heap.size+1) (by simp) ?_;intro R c5 w5 f b r aK;have K:w5.cell? ⟨w2.heap.size,1,none⟩=some (.bool false):=(b.cell_far ⟨w2.heap.size,1,none⟩ (by simp) (λe=>Nat.lt_irrefl _ (aB _ e.symm))).trans ((ak _ _ 1 _ _ _ (Y _)).trans rfl);have E:Hid (UJ M w w5 bd bs S D V L i (n+q) (some ⟨R,0,none⟩) c5 S2 D2):=UW.next d o u C (by have:=o.reads1;omega) Z O (by omega) _ R c5 f b r;clear f b r);go_ret2;exact E.done (by omega) am aa.out
end keep
namespace keep
open Go.ChangeShapes Go.WideShapes Go.ChangeAt Go.RowKit disk ref book
open law (zP za zL qx yg zD xm zJ Z8 uv)
open keys (zg zd zq zl zh)
variable {L:List zw}
theorem Vr{n:Int}(h:zs n):zs (n.tdiv 50):=by
 have e:(n.tdiv 50).natAbs=n.natAbs/50:=Int.natAbs_tdiv n 50;unfold zs at h ⊢;omega
theorem KD(v:zw):qT v ByteArray.empty ByteArray.empty 0=true:=by unfold qT;simp
theorem qB.all{vs:List zw}(h:qB vs ByteArray.empty ByteArray.empty 0 L):L.Perm vs:=by
 have:=h.perm
 rwa [eT.2 (λv _=>KD v)] at this
theorem qB.pre{vs:List zw}(h:qB vs ByteArray.empty ByteArray.empty 0 L)(p:ByteArray):qB vs p ByteArray.empty 0 (pre p L):=by
 refine⟨h.sorted.sublist mE,?_⟩
 have e:(λv:zw=>qT v p ByteArray.empty 0)=λv=>p.data.toList.isPrefixOf v.key.data.toList:=by funext v;unfold qT;simp
 rw [e];exact(qB.all h).filter _
section
variable {M:za} {w w':World} {bd bs:Nat} {S S':Nat->Prop} {D D':Dk} {V:zP} {most:Int}
theorem zD.aft(F:zD M w bd bs S D V)(h:xm M w w' bd bs S S' D D' most (some bd))(c:M.Live D' V)(d:D'.reads<=2305843009213693952):zD M w' bd bs S' D' V:=
 ⟨h.disk,λb=>by
  rcases h.foot bs b with a|a;.exact F.apart a
  .have:=M.sto_lt _ _ _ F.sto;omega,h.sto,c,h.fuse,by have:=F.reads0;have:=h.reads0;omega,d,F.few⟩
theorem xm.far(h:xm M w w' bd bs S S' D D' most (some bd)){k:Nat}(d:k<w.heap.size)(c:¬S k)(e:k≠bs):w'.heap[k]? =w.heap[k]? /\¬S' k:=
 ⟨h.kept.block k d (λa=>a.elim c e),λa=>by
  rcases h.foot k a with b|b;.exact c b
  .omega⟩
theorem Row.aft{a:Option Addr}{c:Nat}(e:Row w a c L)(h:xm M w w' bd bs S S' D D' most (some bd))(d:∀k,(Value.slice a L.length c).ownBlock=some k->¬S k/\k≠bs):Row w' a c L/\∀k,(Value.slice a L.length c).ownBlock=some k->¬S' k/\k≠bs:=
 ⟨e.kept h.kept (λk b f=>f.elim (d k b).1 (d k b).2),λk b=>⟨(xm.far h (World.ownsRow.lt e k b).2 (d k b).1 (d k b).2).2,(d k b).2⟩⟩
end
set_option maxRecDepth 60000 in
theorem UK(M:za)(cc:zL M)(cm:qx M)(a2:yg M)(ch:∀f,M.Fu f->f≠0)(w:World)(Q:Nat->Prop)(bS:∀k,Q k->k<w.heap.size)(a:Option Addr)(cap:Nat)(J:List bn)(h:Qa w Q a J)(aV:J.length<=2000000000000)(most:Int)(Z:zs most)(g:Int)(I:zs g):
 Calls Tryz.prog 9 #[.slice a J.length cap,.int .i64 most,.int .i64 g] w λe w'=>e=.returned (.bool true)/\Kept (λ_=>False) w w':=by
 have cn:Hid (Qa w Q a J):=h;have b9:Hid (∀k,Q k->k<w.heap.size):=bS;have ac:Hid (zs most):=Z;have b6:Hid (zs g):=I;clear h bS Z I;go_enter Tryz.func9,Tryz.ntmps9;go_wp2_with fail;refine(gW M cc cm ch _ Q b9.out a cap J cn.out aV).mono ?_;rintro e K ⟨X,c,D,V,rfl,⟨bd,bs,S,H,n,bg,G',y⟩,P,aL,bi,bB⟩;obtain⟨bF,cD,cu,bD,bV,cv,bC⟩:=y.c;have a1:Hid (yk M K X c bd bs S D V H n bg G'):=y;have az:Hid (Kept (λ_=>False) w K):=aL;have b8:Hid (∀k,X k->w.heap.size<=k):=bi;have bN:=y.lt;have hbs:=y.xlt bs y.xb;have cy:=P.reads;have ct:=yM V.vs;have cC:=P.weight;have aC:Hid (zD M K bd bs S D V):=y.fore;have Y:Hid (¬S c/\c≠bs):=⟨y.pS,y.pb⟩;have bk:Hid (∀v∈V.vs,v.key.size<=8):=λv a6=>jr (y.fore.live.good.key v a6);have bx:Hid (∀W,Calls Tryz.prog 21 #[.int .i64 most,.int .i64 50] W λe w'=>e=.returned (.int .i64 (qX most 50:Int))/\w'=W):=λW=>yV W most 50 ac.out (by omega) (by omega);have cz:qX most 50<50:=by have:=xy most 50 (by omega);omega
 have aS:Hid (∀W,Calls Tryz.prog 21 #[.int .i64 (most.tdiv 50),.int .i64 50] W λe w'=>e=.returned (.int .i64 (qX (most.tdiv 50) 50:Int))/\w'=W):=λW=>yV W _ 50 (Vr ac.out) (by omega) (by omega);have cB:IntKind.i64.wrap (most.tdiv 50)=most.tdiv 50:=IntWalk.i64_in _ (Vr ac.out);have cx:qX (most.tdiv 50) 50<50:=by have:=xy (most.tdiv 50) 50 (by omega);omega
 have aW:Hid (∀W,Calls Tryz.prog 21 #[.int .i64 g,.int .i64 12] W λe w'=>e=.returned (.int .i64 (qX g 12:Int))/\w'=W):=λW=>yV W g 12 b6.out (by omega) (by omega);have be:qX g 12<12:=by have:=xy g 12 (by omega);omega
 generalize qX most 50=r at*;generalize qX (most.tdiv 50) 50=ba at*;generalize qX g 12=ae at*;obtain⟨x,ax,aB,aO⟩:=vH ae be;have av:Hid (kK[ae]? =some (.string x)/\zh x.data.toList=true):=⟨ax,aB⟩;have cb:(ae:Int)<12:=by omega
 obtain⟨al,b1⟩:∃m,m=r+1:=⟨_,rfl⟩;obtain⟨ao,bw⟩:∃m,m=ba+1:=⟨_,rfl⟩;have cr:IntKind.i64.wrap (1+(r:Int))=(al:Int):=by rw [show 1+(r:Int)=(al:Int) by omega];exact IntWalk.i64_in _ (by omega)
 have cq:IntKind.i64.wrap (1+(ba:Int))=(ao:Int):=by rw [show 1+(ba:Int)=(ao:Int) by omega];exact IntWalk.i64_in _ (by omega)
 have ah:1<=al/\al<=50:=by omega
 have am:1<=ao/\ao<=50:=by omega
 have cA:V.vs.length<=473:=by omega
 clear y aL bi bF bD bV bC P bB ax aB b1 bw;go_wp2_with fail
 go_region_held3 (λw'=>w'.cell? ⟨c,1,none⟩=some (.pointer (some ⟨bs,0,none⟩))) (go_keep) ((first
  |(go_at_call 21;refine(bx.out _).mono ?_;rintro e G ⟨rfl,rfl⟩)
  |(go_at_call 20;refine(jC M a2 K.drew bd bs S D V (zD.kept aC.out (Kept.drew (λ_=>False) K) nF (λt=>t)) ⟨#[]⟩ (.inl rfl) (by decide) al ah.1 ah.2 (by omega) (by omega)).mono ?_;rintro e w2 ⟨D2,S2,u,c2,L,rfl,b,o,bL,q,p⟩;have d:xm M K w2 bd bs S S2 D D2 2000000 (some bd):=⟨b.disk,b.foot,b.sto,⟨b.kept.os,b.kept.tape,b.kept.output,b.kept.size,b.kept.block⟩,b.reads0,b.reads1,b.size,b.fuse⟩;have U:Hid (xm M K w2 bd bs S S2 D D2 2000000 (some bd)):=d;have aQ:Hid (zD M w2 bd bs S2 D2 V):=zD.aft aC.out d o (by have:=d.reads1;omega);have aj:Hid (qB V.vs ByteArray.empty ByteArray.empty 0 L):=bL;have bv:Hid (Row w2 u c2 L):=q;have bo:Hid (∀k,(Value.slice u L.length c2).ownBlock=some k->¬S2 k/\k≠bs):=(λk j=>⟨(p k j).2,by have cp:K.heap.size<=k:=(p k j).1;omega⟩);have l:=xm.far d bN Y.out.1 Y.out.2;have bl:Hid (¬S2 c):=l.2;have ag:w2.heap[c]? =_:=l.1.trans a1.out.head;have bT:Hid (w2.heap[c]? =some (.cells #[.pointer (some ⟨bd,0,none⟩),.pointer (some ⟨bs,0,none⟩),.slice H V.vs.length n,.int .i64 V.n0,.int .i64 (-1),.int .i64 0,.bool true] 33 (0,0))):=ag;have co:w2.cell? ⟨c,1,none⟩=some (.pointer (some ⟨bs,0,none⟩)):=(ak w2 c 1 _ _ _ ag).trans rfl;have aT:c<w2.heap.size:=(by have:=d.kept.size;omega);have cd:D2.reads<=6000000:=(by have:=d.reads1;omega);clear b d o bL q p l ag)))
 have aN:L.length=V.vs.length:=(qB.all aj.out).length_eq;have bU:Hid (L.length=V.vs.length):=aN;have bH:L.length<=473:=by omega
 clear aN;go_wp2_with fail;refine(jC M a2 w2 bd bs S2 D2 V aQ.out ⟨#[]⟩ (.inl rfl) (by decide) 50 (by omega) (by omega) (by omega) (by omega)).mono ?_;rintro e E ⟨T,z,ar,ad,i,rfl,b,o,aA,q,p⟩;obtain rfl:i=L:=aA.unique aj.out (eN _);have aJ:Hid (xm M w2 E bd bs S2 z D2 T 2000000 (some bd)):=b;have b4:Hid (zD M E bd bs z T V):=zD.aft aQ.out b o (by have:=b.reads1;omega);have an:=Row.aft bv.out b bo.out;have bI:Hid (Row E u c2 i):=an.1;have bA:Hid (∀k,(Value.slice u i.length c2).ownBlock=some k->¬z k/\k≠bs):=an.2;have bG:Hid (Row E ar ad i):=q;have b2:Hid (∀k,(Value.slice ar i.length ad).ownBlock=some k->¬z k/\k≠bs):=λk j=>⟨(p k j).2,by have cp:=(p k j).1;have:=U.out.kept.size;omega⟩;have l:=xm.far b aT bl.out Y.out.2;have br:Hid (¬z c):=l.2;have bu:Hid (E.heap[c]? =some (.cells #[.pointer (some ⟨bd,0,none⟩),.pointer (some ⟨bs,0,none⟩),.slice H V.vs.length n,.int .i64 V.n0,.int .i64 (-1),.int .i64 0,.bool true] 33 (0,0))):=l.1.trans bT.out;have aU:c<E.heap.size:=by have:=b.kept.size;omega
 have ca:T.reads<=8000000:=by have:=b.reads1;omega
 clear b o aA q p an l;go_wp2_with fail;refine(ux _).mono ?_;rintro e s ⟨rfl,B,au⟩;have bX:Hid (Kept (λ_=>False) E s):=B;have bJ:Hid (zD M s bd bs z T V):=zD.kept b4.out B nF (λt=>t);have bj:Hid (Row s u c2 i):=bI.out.kept B nF;have b7:Hid (Row s ar ad i):=bG.out.kept B nF;have ai:s.heap[c]? =_:=(B.block c aU (λt=>t)).trans bu.out;have bt:Hid (s.heap[c]? =some (.cells #[.pointer (some ⟨bd,0,none⟩),.pointer (some ⟨bs,0,none⟩),.slice H V.vs.length n,.int .i64 V.n0,.int .i64 (-1),.int .i64 0,.bool true] 33 (0,0))):=ai;have cj:s.cell? ⟨c,1,none⟩=some (.pointer (some ⟨bs,0,none⟩)):=(ak s c 1 _ _ _ ai).trans rfl;have cs:s.cell? ⟨E.heap.size,ae,none⟩=some (.string x):=(ak s _ ae _ _ _ au).trans av.out.1;have cl:E.heap.size<s.heap.size:=(lT au);have a0:c<s.heap.size:=by omega
 clear B au ai;go_wp2_with (go_at_call 21;refine(aW.out _).mono ?_;rintro e G ⟨rfl,ay⟩;rw [ay];clear ay G)
 go_region_held3 (λw'=>w'.cell? ⟨c,1,none⟩=some (.pointer (some ⟨bs,0,none⟩))) (go_keep) ((first
  |(go_at_call 21;refine(aS.out _).mono ?_;rintro e G ⟨rfl,rfl⟩)
  |(go_at_call 20;refine(jC M a2 s.drew bd bs z T V (zD.kept bJ.out (Kept.drew (λ_=>False) s) nF (λt=>t)) x (.inr av.out.2) aO ao am.1 am.2 (by omega) (by omega)).mono ?_;rintro e w5 ⟨bc,bq,a5,c5,O,rfl,b,o,aH,q,p⟩;have d:xm M s w5 bd bs z bq T bc 2000000 (some bd):=⟨b.disk,b.foot,b.sto,⟨b.kept.os,b.kept.tape,b.kept.output,b.kept.size,b.kept.block⟩,b.reads0,b.reads1,b.size,b.fuse⟩;have bh:Hid (xm M s w5 bd bs z bq T bc 2000000 (some bd)):=d;obtain rfl:O=pre x i:=aH.unique (qB.pre aj.out x) (eN _);have b0:Hid (Row w5 a5 c5 (pre x i)):=q;have aM:=Row.aft bj.out d bA.out;have aR:Hid (Row w5 u c2 i):=aM.1;have bM:Hid (Row w5 ar ad i):=(Row.aft b7.out d b2.out).1;have l:=xm.far d a0 br.out Y.out.2;have ab:w5.heap[c]? =_:=l.1.trans bt.out;have bQ:Hid (w5.heap[c]? =some (.cells #[.pointer (some ⟨bd,0,none⟩),.pointer (some ⟨bs,0,none⟩),.slice H V.vs.length n,.int .i64 V.n0,.int .i64 (-1),.int .i64 0,.bool true] 33 (0,0))):=ab;have cf:w5.cell? ⟨c,1,none⟩=some (.pointer (some ⟨bs,0,none⟩)):=(ak w5 c 1 _ _ _ ab).trans rfl;have aZ:c<w5.heap.size:=(by have:=d.kept.size;omega);clear b d o aH q p l ab aM)))
 have cw:(pre x i).length<=473:=aF (ir _ _) bH;generalize aP:pre x i=O at*;have bP:Hid (pre x i=O):=aP;clear aP;go_wp2_with fail;refine(vI w5 u ar c2 ad i (by omega) aR.out bM.out).mono ?_;rintro e F ⟨rfl,cH,aw⟩;have aa:Kept (λ_=>False) w5 F:=by rw [aw];exact kD
 have bY:Hid (Kept (λ_=>False) w5 F):=aa;have bf:Hid (Row F a5 c5 O):=b0.out.kept aa nF;have N:Hid (Row F u c2 i):=aR.out.kept aa nF;have aE:F.heap[c]? =_:=(aa.block c aZ (λt=>t)).trans bQ.out;have bO:Hid (F.heap[c]? =some (.cells #[.pointer (some ⟨bd,0,none⟩),.pointer (some ⟨bs,0,none⟩),.slice H V.vs.length n,.int .i64 V.n0,.int .i64 (-1),.int .i64 0,.bool true] 33 (0,0))):=aE;have a9:c<F.heap.size:=by have:=aa.size;omega
 clear aw aa aE;have aK:Hid (∀v∈i,v.key.size<=8):=λv a6=>bk.out v ((qB.all aj.out).subset a6);go_wp2_with fail;refine(xW F u c2 i (by omega) N.out (λk j=>(World.ownsRow.lt N.out k j).2) x aO aK.out).mono ?_;rw [bP.out];rintro e C ⟨bb,bZ,rfl,aD,A,b5⟩;have bz:Hid (Row C bb bZ O):=aD;have aX:Hid (Row C a5 c5 O):=bf.out.kept A nF;have a7:Hid (Row C u c2 i):=N.out.kept A nF;have bR:Hid (Kept (λ_=>False) F C):=A;have bp:Hid (C.heap[c]? =some (.cells #[.pointer (some ⟨bd,0,none⟩),.pointer (some ⟨bs,0,none⟩),.slice H V.vs.length n,.int .i64 V.n0,.int .i64 (-1),.int .i64 0,.bool true] 33 (0,0))):=(A.block c a9 (λt=>t)).trans bO.out;have a3:c<C.heap.size:=by have:=A.size;omega
 clear aD A b5;go_wp2_with fail;refine(vI C a5 bb c5 bZ O (by omega) aX.out bz.out).mono ?_;rintro e R ⟨rfl,cF,aI⟩;have ap:Kept (λ_=>False) C R:=by rw [aI];exact kD
 have bE:Hid (Kept (λ_=>False) C R):=ap;have a4:Hid (Row R u c2 i):=a7.out.kept ap nF;have bm:Hid (R.heap[c]? =some (.cells #[.pointer (some ⟨bd,0,none⟩),.pointer (some ⟨bs,0,none⟩),.slice H V.vs.length n,.int .i64 V.n0,.int .i64 (-1),.int .i64 0,.bool true] 33 (0,0))):=(ap.block c a3 (λt=>t)).trans bp.out;have a8:c<R.heap.size:=by have:=ap.size;omega
 clear aI ap;go_wp2_with fail;refine(Jr R u c2 i (by omega) a4.out aj.out.sorted aK.out).mono ?_;rintro e G ⟨rfl,aq⟩;have bK:Hid (Kept (λ_=>False) R G):=aq;have aG:G.heap[c]? =_:=(aq.block c a8 (λt=>t)).trans bm.out;have cg:G.cell? ⟨c,2,none⟩=some (.slice H V.vs.length n):=(ak G c 2 _ _ _ aG).trans rfl;have ce:((V.vs.length:Int)==(V.vs.length:Int))=true:=by simp
 rw [bU.out];clear aq aG;go_wp2;go_ret;refine⟨rfl,?_⟩
 have af:Kept (λk=>w.heap.size<=k) w G:=by
  have ck:Kept (λk=>w.heap.size<=k) w w5:=by
   have cE:=az.out.size;have b3:∀k,S k->w.heap.size<=k:=λk j=>b8.out k (a1.out.xS k j);have aY:w.heap.size<=bs:=b8.out bs a1.out.xb;have bW:∀k,S2 k->w.heap.size<=k:=λk j=>(U.out.foot k j).elim (b3 k) (λh=>by omega);have cG:=U.out.kept.size;have ci:∀k,z k->w.heap.size<=k:=λk j=>(aJ.out.foot k j).elim (bW k) (λh=>by omega);refine((((az.out.mono fE).trans U.out.kept (λk j=>.inl ?_)).trans aJ.out.kept (λk j=>.inl ?_)).trans bX.out fE).trans bh.out.kept (λk j=>.inl ?_);.exact j.elim (b3 k) (λe=>by rw [e];exact aY)
   .exact j.elim (bW k) (λe=>by rw [e];exact aY)
   .exact j.elim (ci k) (λe=>by rw [e];exact aY)
  exact(((ck.trans bY.out fE).trans bR.out fE).trans bE.out fE).trans bK.out fE
 exact⟨af.os,af.tape,af.output,af.size,λk j _=>af.block k j (by omega)⟩
end keep
namespace keep
open Go.RowKit disk ref book Go.Deep law
theorem Vs:Tryz.prog.cellsOf 41=5:=by kernel_rfl
theorem Bx:Tryz.prog.bytesOf 41=72:=by kernel_rfl
section
variable {H:Type} {enc:TypeId×Value->H} {W:World} {fuel:Nat} {cs:List Value} {x:DataW H×List MemPlace}
theorem By(h:DataW.trod enc Tryz.prog W 0 (λ_=>true) true fuel 41 cs=some x)(o:(x.1.weights Tryz.prog 41).all (· <=reachBytes)=true):∃S:bn,cs=S.cells/\S.Ok W (λk=>k<W.heap.size):=by
 obtain⟨M,n,rfl,p,c,f,b⟩:=DataW.trod_struct Tryz.underlying41 h;rw [Vs] at c
 match cs,c with
 |[c0,c1,c2,c3,c4],_=>
  match M,f with
  |[x0,x1,x2,x3,x4],_=>
   have C:DataW.trod enc Tryz.prog W 0 (λ_=>true) true n 3 [c0]=some x0:=by have a:DataW.trod enc Tryz.prog W 0 (λ_=>true) true n 3 (List.take (Tryz.prog.cellsOf 3) (List.drop 0 [c0,c1,c2,c3,c4]))=some x0:=b 0 _ rfl;rw [jJ] at a;exact a
   have F:DataW.trod enc Tryz.prog W 0 (λ_=>true) true n 3 [c1]=some x1:=by have a:DataW.trod enc Tryz.prog W 0 (λ_=>true) true n 3 (List.take (Tryz.prog.cellsOf 3) (List.drop 1 [c0,c1,c2,c3,c4]))=some x1:=b 1 _ rfl;rw [jJ] at a;exact a
   have O:DataW.trod enc Tryz.prog W 0 (λ_=>true) true n 35 [c2]=some x2:=by have a:DataW.trod enc Tryz.prog W 0 (λ_=>true) true n 35 (List.take (Tryz.prog.cellsOf 35) (List.drop 2 [c0,c1,c2,c3,c4]))=some x2:=b 2 _ rfl;rw [XX] at a;exact a
   have Q:DataW.trod enc Tryz.prog W 0 (λ_=>true) true n 3 [c3]=some x3:=by have a:DataW.trod enc Tryz.prog W 0 (λ_=>true) true n 3 (List.take (Tryz.prog.cellsOf 3) (List.drop 3 [c0,c1,c2,c3,c4]))=some x3:=b 3 _ rfl;rw [jJ] at a;exact a
   have P:DataW.trod enc Tryz.prog W 0 (λ_=>true) true n 39 [c4]=some x4:=by have a:DataW.trod enc Tryz.prog W 0 (λ_=>true) true n 39 (List.take (Tryz.prog.cellsOf 39) (List.drop 4 [c0,c1,c2,c3,c4]))=some x4:=b 4 _ rfl;rw [Zp] at a;exact a
   clear b h;obtain⟨k0,g,H⟩:=y9 Tryz.underlying3 C;obtain⟨k1,r,J⟩:=y9 Tryz.underlying3 F;obtain⟨N,u,E,l,w,B,K⟩:=Zs O;obtain⟨k3,s,R⟩:=y9 Tryz.underlying3 Q;obtain⟨A,q,z,i,I,D⟩:=gU P;simp only [ee,and_true] at g r s l i;subst g r s l i;rw [p] at o
   have d:(DataW.weightsEach Tryz.prog [3, 3, 35, 3, 39] [x0.1,x1.1,x2.1,x3.1,x4.1]).all (· <=reachBytes)=true:=by
    have e:DataW.weights Tryz.prog 41 (.agg [x0.1,x1.1,x2.1,x3.1,x4.1])=DataW.weightsEach Tryz.prog [3, 3, 35, 3, 39] [x0.1,x1.1,x2.1,x3.1,x4.1]:=by unfold DataW.weights;rw [Tryz.underlying41];rfl
    rw [<-e];exact o
   have T:reachBytes=140737488351232:=by decide
   have m:u.length<=140737488355326:=by
    rcases B with h|⟨G,y,h,L⟩;.omega
    .have:=sized_slice d (j:=2) (t:= 35) rfl (by rw [<-h];rfl) Tryz.underlying35;rw [Yp] at this;omega
   have v:q.length<=140737488355326:=by
    rcases D with h|⟨G,y,h,L⟩;.omega
    .have:=sized_slice d (j:=4) (t:= 39) rfl (by rw [<-h];rfl) Tryz.underlying39;rw [dD] at this;omega
   exact⟨⟨k0,k1,N,u,E,k3,A,q,z⟩,rfl,H,J,R,w,m,K,v,I⟩
theorem uA{K:Option Addr}{c cap:Nat}(h:DataW.trod enc Tryz.prog W 0 (λ_=>true) true fuel 26 [.slice K c cap]=some x)(q:(x.1.weights Tryz.prog 26).all (· <=reachBytes)=true):∃o:List bn,o.length=c/\Qa W (λk=>k<W.heap.size) K o/\o.length<=2000000000000:=by
 rcases open_slice Tryz.underlying26 h with⟨r,rfl⟩|⟨a,T,Q,m,n,D,Pl,r,_,V,ac,C,rfl,X⟩
 .simp only [ee,Value.slice.injEq,and_true] at r;obtain⟨rfl,rfl,rfl⟩:=r;exact⟨[],rfl,⟨λi f=>by simp at f,λi f=>by simp at f⟩,by simp⟩
 .simp only [ee,Value.slice.injEq,and_true] at r;obtain⟨rfl,rfl,rfl⟩:=r;have Z:c<=m:=by rw [C];simpa using V
  have G:(((List.range c).map D).length+((List.range (m-c)).map λj=>D (c+j)).length)*Tryz.prog.bytesOf 41<=reachBytes/\∀U∈(List.range c).map D,(U.weights Tryz.prog 41).all (· <=reachBytes)=true:=by unfold DataW.weights at q;rw [Tryz.underlying26] at q;simp only [mA,lH,aS,aO] at q;refine⟨q.1,λU P=>aQ.2 (λk S=>?_)⟩;exact aQ.1 q.2.1 k (um _ U P S)
  obtain⟨R,E⟩:=G;rw [Bx,eF,eF,i3,i3] at R;have ab:reachBytes=140737488351232:=by decide
  obtain⟨g,z⟩:=choose_lt (α:=Option bn) (n:=c) (p:=λi B=>∃d:bn,B=some d/\W.cells? 0 (a.add (i*5)) 5=some d.cells/\d.Ok W (λk=>k<W.heap.size)) (λi f=>by
   obtain⟨aa,e,y⟩:=X i (by omega);rw [Vs] at e;obtain⟨d,rfl,J⟩:=By y (E _ (av.2 ⟨i,mK.2 f,rfl⟩))
   exact⟨some d,d,rfl,e,J⟩)
  let dflt:bn:=⟨0,0,none,[],0,0,none,[],0⟩;refine⟨(List.range c).map λi=>(g i).getD dflt,by simp,⟨λi f=>?_,λi f=>?_⟩,by simp;omega⟩
  .have l:i<c:=by simpa using f
   obtain⟨d,A,H,M⟩:=z i l;have t:=(World.cells?_some H).2.2;obtain⟨b,B,w⟩:=a;have F:W.cell? (((⟨b,B,w⟩:Addr).add (i*5)).add 0)=d.cells[0]? :=t 0 (by omega)
   have L:w=none:=by obtain⟨I,_,O,_⟩:=z 0 (by omega);have e:W.cell? (((⟨b,B,w⟩:Addr).add (0*5)).add 0)=some (.int .i64 I.key):=(World.cells?_some O).2.2 0 (by omega);have y:=World.cell?_spot e;simpa [Addr.add] using y
   subst L
   have s:b<W.heap.size:=by have e:W.cell? (((⟨b,B,none⟩:Addr).add (i*5)).add 0)=some (.int .i64 d.key):=F;rw [add_add,eO] at e;exact Zq e
   refine⟨b,B,rfl,s,s,λj v N=>?_⟩
   have u:d.cells[j]? =some v:=by rw [ig,mg,A] at N;exact N
   have Y:j<5:=by have:=(aW.1 u).1;simpa [bn.cells] using this
   have e:=t j Y;rw [add_add,eO,u] at e;rw [lF];exact e
  .have l:i<c:=by simpa using f
   obtain⟨d,A,H,M⟩:=z i l;rw [ig,mg,A];exact M
theorem DJ{f:Option Addr}{d cap:Nat}(h:DataW.trod enc Tryz.prog W 0 (λ_=>true) true fuel 35 [.slice f d cap]=some x)(b:(x.1.weights Tryz.prog 35).all (· <=reachBytes)=true):∃l:List UInt8,d=l.length/\zu W (λk=>k<W.heap.size) f l/\l.length<=140737488355326/\l.length<=cap:=by
 obtain⟨a,l,c,e,i,j,n⟩:=Zs h;simp only [ee,Value.slice.injEq,and_true] at e;obtain⟨rfl,rfl,rfl⟩:=e;refine⟨l,rfl,i,?_,n⟩;rcases j with r|⟨s,p,m,q⟩;.omega
 .rw [m] at b;unfold DataW.weights at b;rw [Tryz.underlying35] at b;simp only [mA,lH,aS,aO] at b;have g:=b.1;rw [Yp] at g;have o:reachBytes=140737488351232:=by decide
  omega
end
end keep
end Go.Proofs.YtcoengihaobddaaGreatDoor
