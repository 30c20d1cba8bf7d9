/- Part 9 of 36 of a proof: Find1, Find2, Find3, Find4, Find5, Find6, Find7 -/
import Derived.Test.YtcoengihaobddaaGreatDoorJb08
set_option maxHeartbeats 8000000
set_option linter.unusedVariables false
set_option linter.unusedSimpArgs false
set_option maxRecDepth 8000
namespace Go.Proofs.YtcoengihaobddaaGreatDoor
open Go.ChangeShapes Go.WideShapes Go.ChangeAt Go.RowKit disk ref book
open keys (zh zd zx zq zp)
namespace law
open keep (Row Qv YW Xe J4 Jd cK Qw gD jW xW)
set_option maxRecDepth 60000 in
theorem UM(M:ze)(A:xy M)(w:World)(bo bd bs:Nat)(S:Nat->Prop)(D:Dk)(V:qE)(F:xw M w bd bs S D V)(bc:w.cell? ⟨bo,1,none⟩=some (.pointer (some ⟨bs,0,none⟩)))(a3:bo<w.heap.size)(aZ:¬S bo)(aV:bo≠bs)(bC:D.reads<=1000000000000000000):
 Calls Tryz.prog 185 #[.pointer (some ⟨bo,0,none⟩)] w λe w'=>∃D' S' a c L,e=.returned (.tuple #[.slice a L.length c,.bool true])/\dC M w w' bd bs S S' D D' 2000000 (some bd)/\M.Live D' V/\yw V.vs ByteArray.empty ByteArray.empty 0 L/\Row w' a c L/\∀k,(Value.slice a L.length c).ownBlock=some k->w.heap.size<=k/\¬S' k:=by
 have bb:ByteArray.empty=ByteArray.empty\/zp ByteArray.empty.data.toList=true:=.inl rfl;have p:=F.live.good;obtain⟨L,al⟩:∃L,yw V.vs ByteArray.empty ByteArray.empty 0 L:=⟨_,fw V.vs p.apart ByteArray.empty ByteArray.empty 0⟩
 have aJ:∀v∈V.vs,v.key≠ByteArray.empty:=λv J e=>by have:=p.key v J;rw [e] at this;exact absurd this (by decide)
 have bq:L.length<=6000:=by rw [al.perm.length_eq];exact aD (ip _ _) p.few
 have ao:∀v∈L,v∈V.vs:=λv J=>(ei.1 (al.perm.subset J)).1
 have ar:∀n,n<=L.length->qH ByteArray.empty (Qv L n) (YW L n) 50=0/\(Qv L n).size<=8/\zD (YW L n):=λn bG=>by
  have a5:(Qv L n=ByteArray.empty/\YW L n=0)\/∃v∈V.vs,Qv L n=v.key/\YW L n=v.num:=by
   by_cases ba:n=0;.subst ba;exact .inl ⟨rfl,rfl⟩
   .obtain⟨j,rfl⟩:∃j,n=j+1:=⟨n-1,by omega⟩;obtain⟨au,aq⟩:=Xe L j (by omega);exact .inr ⟨L[j],ao _ (ai _),au,aq⟩
  have aE:=F.few
  have h2:(Qv L n=ByteArray.empty\/zp (Qv L n).data.toList=true)/\0<=YW L n/\YW L n<=2305843009213693952/\(Qv L n).size<=8:=by
   rcases a5 with⟨au,aq⟩|⟨v,J,au,aq⟩;.rw [au,aq];exact⟨.inl rfl,by omega,by omega,by decide⟩
   .have af:=p.num v J;have O:=p.key v J;rw [au,aq];refine⟨.inr O,by omega,by omega,?_⟩;have:=Qw O;exact this
  refine⟨?_,h2.2.2.2,⟨by omega,by omega⟩⟩;unfold qH;rw [aw,aw (by omega)];rintro(⟨af,O⟩|⟨af,O⟩)
  .rcases bb with U|U;.exact af U
   .rw [U] at O;cases O
  .rcases h2.1 with U|U;.exact af U
   .rw [U] at O;cases O
 have aW:Hid _:=F;obtain⟨K,az,aF,aM,aL⟩:=yv keep.Tryz.infoVer;have l:Hid (Tryz.prog.info? 94=some K/\K.zero=some (.agg #[.string ⟨#[]⟩,.int .i64 0,.bool false,.int .i64 0])/\K.size=4/\K.bytes=40):=⟨az,aF,aM,aL⟩;have H:=M.sto_lt _ _ _ F.sto;change Hid _ at al ar aJ;clear az aF aM aL F ao p bb;go_enter Tryz.func185,Tryz.ntmps185;go_wp2_with fail;go_loopw [4,5,6,7] (λbt bm bj t wr=>∃i n:Nat,∃a c S' D',bt=.slice a n c/\bm=.string (Qv L n)/\bj=.int .i64 (YW L n)/\t=.int .i64 (i:Int)/\J4 M w wr bd bs S D V L 50 i n a c S' D') (λ_ _ _ t _=>1001-(intOf t).toNat)
 case atStart=>
  exact⟨0,0,none,0,S,D,rfl,rfl,rfl,rfl,⟨by simp,.inl rfl,aW,λk C=>.inl C,za.refl _ _,eb _,by omega,rfl,keep.Row.nil w,λk C=>(by cases C),λ_=>⟨rfl,rfl⟩⟩⟩
 case round=>
  obtain⟨i,n,a,c,S',D',rfl,rfl,rfl,rfl,d⟩:=hrel;have a6:=d.ni;have bD:=d.nlt;have bE:=d.reads1;have X:n<=L.length:=by omega
  have bv:(i:Int)<=1000:=by omega
  have bz:=(d.kept.cell (a:=⟨bo,1,none⟩) a3 (λae=>ae.elim aZ aV)).trans bc;obtain⟨aQ,bF,bk⟩:=ar.out n X;have bp:=aW.reads0;have bw:i<=120:=by omega
  change Hid _ at d aQ;clear a6;generalize aY:Qv L n=bA at*;generalize aT:YW L n=N at*;have aK:Hid (Qv L n=bA/\YW L n=N):=⟨aY,aT⟩;clear aY aT;go_wp2_with fail;refine(A.live wr bd bs S' D' V ByteArray.empty bA N 50 d.fore (by decide) (by unfold maxLen;omega) bk ⟨by omega,by omega⟩).mono ?_;rintro e r ⟨ak,R,bt,I,rfl,o,s,ab,_,ay⟩;rw [aQ.out];obtain⟨bg,aH,am⟩:=ab aQ.out;obtain rfl:bg=L.drop n:=aH.unique (by have:=keep.yw.behind al aJ n X;rw [aK.1,aK.2] at this;exact this) (eR _);obtain⟨av,ah,rfl,u,P⟩:=am.at_;have h:=am.more;have aB:((50:Int)).toNat=50:=rfl;rw [aB] at u P h ay;simp only [aB];have Y:((L.drop n).take 50).length=min 50 (L.length-n):=by rw [aC,aS]
  have aa:Hid _:=cK L n 50;generalize a4:(L.drop n).take 50=E at*;generalize T:E.length=q at*;have bu:Hid (∀k,(Value.slice av q ah).ownBlock=some k->wr.heap.size<=k/\¬R k):=λk C=>⟨P k C,ay k C⟩;have hld:(L.drop n).length=L.length-n:=aS;rw [hld] at h;have bf:=o.kept.size;change Hid _ at o s u T;clear ab am aH P ay a4 hld;have ad:∀v,(r.alloc (.cells #[v,.bool I] 90)).heap[r.heap.size]? =some (.cells #[v,.bool I] 90 (0,0)):=λv=>ac r _;have Z:Hid (∀aP,(r.alloc aP).ownsRow 0 94 4 (.slice av q ah) q (qq E)):=λaP=>er u aP;by_cases aE:n=0
  .subst aE;obtain⟨rfl,rfl⟩:=d.nil rfl
   cases I with
   |true=>
    have x:=ix h.symm;have z:Hid (q=50):=by show q=50;omega
    have aU:((q:Int)==0)=false:=by rw [z.out];rfl
    have aN:q<=50:=by rw [z.out];omega
    have a1:0<q:=by rw [z.out];omega
    have aR:q<L.length-0:=by rw [z.out];exact x
    clear h Y;go_wp2_with (refine xW rfl (.tmp 36) (.tmp 38) 44 rfl 94 K _ 4 40 Tryz.underlying44 l.1 l.2.1 l.2.2.1 l.2.2.2 rfl (by omega) (.slice av q ah) q (qq E) (by rfl) (by rfl) (Z _) (jW E) (by unfold maxLen;omega) (by omega) ?_;intro ap y B f b m;have Q:B.cell? ⟨r.heap.size,1,none⟩=some (.bool true):=(b.cell_far ⟨r.heap.size,1,none⟩ (by simp) (λe=>by cases e)).trans ((aG _ _ 1 _ _ _ (ad _)).trans rfl);have G:Hid (Jd M w B bd bs S D V L i q ap y R ak):=keep.J4.first d o s H (by have:=o.reads1;omega) aa T _ ap y f b m;clear f b m;obtain⟨W,j,rfl,a2,bn,be,a9⟩:=G.last (by omega) (by omega);have a0:(j:Int)<(q:Int):=(by omega);have a7:IntKind.i64.wrap ((q:Int)-1)=(j:Int):=(by rw [show (q:Int)-1=(j:Int) by omega];exact IntWalk.i64_in _ (by omega)));go_roundw
    case rel=>exact⟨i+1,q,_,_,R,ak,rfl,rfl,rfl,by go_num,G.on (by have:=d.ni;have:=z.out;omega) (by omega) (by omega)⟩
    case measure=>simp [intOf];omega
   |false=>
    have x:=iF h.symm;have an:Hid (q=L.length):=by show q=_;omega
    have aX:q<=50:=by omega
    clear h Y x;go_wp2_with (refine xW rfl (.tmp 36) (.tmp 38) 44 rfl 94 K _ 4 40 Tryz.underlying44 l.1 l.2.1 l.2.2.1 l.2.2.2 rfl (by omega) (.slice av q ah) q (qq E) (by rfl) (by rfl) (Z _) (jW E) (by unfold maxLen;omega) (by omega) ?_;intro ap y B f b m;have Q:B.cell? ⟨r.heap.size,1,none⟩=some (.bool false):=(b.cell_far ⟨r.heap.size,1,none⟩ (by simp) (λe=>by cases e)).trans ((aG _ _ 1 _ _ _ (ad _)).trans rfl);have G:Hid (Jd M w B bd bs S D V L i q ap y R ak):=keep.J4.first d o s H (by have:=o.reads1;omega) aa T _ ap y f b m;clear f b m);go_ret2;exact G.done (by omega) an al.out
  .obtain⟨ag,rfl⟩:∃ag,av=some ⟨ag,0,none⟩:=by
    rcases u.2 with⟨ba,a5⟩|⟨g,bi,bB,J,_⟩;.omega
    .cases J;exact⟨g,rfl⟩
   have aA:Hid (∀k,(Value.slice a n c).ownBlock=some k->k<r.heap.size):=λk C=>by have ax:wr.ownsRow 0 94 4 (.slice a (L.take n).length c) (L.take n).length (qq (L.take n)):=d.row;rw [aC,a8 X] at ax;have:=(ax.lt k C).2;omega
   have aI:Hid (∀aP,(r.alloc aP).ownsRow 0 94 4 (.slice a n c) n (qq (L.take n))):=λaP=>er (by
    have ax:wr.ownsRow 0 94 4 (.slice a (L.take n).length c) (L.take n).length (qq (L.take n)):=d.row;rw [aC,a8 X] at ax;refine o.kept.owns ax (λk C ae=>?_);have af:=d.new k C;rcases ae with ae|ae;.exact af.2 ae
    .omega) aP
   cases I with
   |true=>
    have x:=ix h.symm;have z:Hid (q=50):=by show q=50;omega
    have aU:((q:Int)==0)=false:=by rw [z.out];rfl
    have aN:q<=50:=by rw [z.out];omega
    have a1:0<q:=by rw [z.out];omega
    have aR:q<L.length-n:=by rw [z.out];exact x
    clear h Y;go_wp2_with (refine wpList_append_lies _ rfl (.tmp 36) (.tmp 38) 44 rfl 0 94 K _ 4 40 Tryz.underlying44 l.1 l.2.1 l.2.2.1 l.2.2.2 rfl (by omega) (.slice a n c) n (qq (L.take n)) (by rfl) (aI _) ⟨ag,0,none⟩ q ah (qq E) (by rfl) (by rw [gD,T.out]) (by exact(Z _).cells (g:=ag) rfl) (jW E) (by omega) (by unfold maxLen;omega) (by omega) (aj _) (r.heap.size+1) (by simp) ?_;intro W y B f b m aO;have Q:B.cell? ⟨r.heap.size,1,none⟩=some (.bool true):=(b.cell_far ⟨r.heap.size,1,none⟩ (by simp) (λe=>Nat.lt_irrefl _ (aA _ e.symm))).trans ((aG _ _ 1 _ _ _ (ad _)).trans rfl);have G:Hid (Jd M w B bd bs S D V L i (n+q) (some ⟨W,0,none⟩) y R ak):=keep.J4.next d o s H (by have:=o.reads1;omega) aa T (by omega) _ W y f b m;clear f b m;obtain⟨bl,j,bh,a2,bn,be,a9⟩:=G.last (by omega) (by omega);obtain rfl:W=bl:=(by simpa using bh);have a0:(j:Int)<(n:Int)+(q:Int):=(by omega);have a7:IntKind.i64.wrap ((n:Int)+(q:Int)-1)=(j:Int):=(by rw [show (n:Int)+(q:Int)-1=(j:Int) by omega];exact IntWalk.i64_in _ (by omega)));go_roundw
    case rel=>exact⟨i+1,n+q,_,_,R,ak,rfl,rfl,rfl,by go_num,G.on (by have:=d.ni;have:=z.out;omega) (by omega) (by omega)⟩
    case measure=>simp [intOf];omega
   |false=>
    have x:=iF h.symm;have an:Hid (n+q=L.length):=by show n+q=_;omega
    have aX:q<=50:=by omega
    have br:0<q:=by omega
    have bx:n+q<=L.length:=by omega
    clear h Y x;go_wp2_with (refine wpList_append_lies _ rfl (.tmp 36) (.tmp 38) 44 rfl 0 94 K _ 4 40 Tryz.underlying44 l.1 l.2.1 l.2.2.1 l.2.2.2 rfl (by omega) (.slice a n c) n (qq (L.take n)) (by rfl) (aI _) ⟨ag,0,none⟩ q ah (qq E) (by rfl) (by rw [gD,T.out]) (by exact(Z _).cells (g:=ag) rfl) (jW E) (by omega) (by unfold maxLen;omega) (by omega) (aj _) (r.heap.size+1) (by simp) ?_;intro W y B f b m aO;have Q:B.cell? ⟨r.heap.size,1,none⟩=some (.bool false):=(b.cell_far ⟨r.heap.size,1,none⟩ (by simp) (λe=>Nat.lt_irrefl _ (aA _ e.symm))).trans ((aG _ _ 1 _ _ _ (ad _)).trans rfl);have G:Hid (Jd M w B bd bs S D V L i (n+q) (some ⟨W,0,none⟩) y R ak):=keep.J4.next d o s H (by have:=o.reads1;omega) aa T (by omega) _ W y f b m;clear f b m);go_ret2;exact G.done (by omega) an al.out
end law
namespace law
open keep (Row)
def J5(u v:zB):Prop:=u.key=v.key/\u.num=v.num/\u.mark=v.mark/\u.body.length=v.body.length
theorem J5.refl(v:zB):J5 v v:=⟨rfl,rfl,rfl,rfl⟩
section
variable {w:World} {F G:Nat->Prop} {ib:Nat} {us:List zB} {last:Int} {a:Option Addr} {c:Nat} {L:List zB}
theorem za.drewN0(w:World)(n:Nat):za (λ_=>False) w (w.drewN n):=kD
theorem Qx(d:zJ w F G ib us last)(g:L.length≠us.length):
 Calls Tryz.prog 186 #[.slice a L.length c,.pointer (some ⟨ib,0,none⟩)] w λe w'=>e=.returned (.bool false)/\w'=w:=by
 obtain⟨k,b,j,h⟩:=d;have i:=h.c0;have f:((L.length:Int) !=(us.length:Int))=true:=by simp;omega
 clear h;go_enter Tryz.func186,Tryz.ntmps186;go_wp2;go_ret;exact⟨rfl,rfl⟩
theorem gE(ar:zJ w F G ib us last)(B:Row w a c L)(ah:L.length=us.length)(aF:us.length<=6001)(f:∀v∈L,∃j,∃h:j<us.length,J5 us[j] v)(U:∀v∈us,v.body.length<=300):
 Calls Tryz.prog 186 #[.slice a L.length c,.pointer (some ⟨ib,0,none⟩)] w λe w'=>e=.returned (.bool true)/\za (λ_=>False) w w':=by
 have ap:Hid (Row w a c L):=B;have aq:Hid _:=f;obtain⟨aQ,al,aM,h⟩:=ar;have N:=h.c0;have au:((L.length:Int) !=(us.length:Int))=false:=by simp;omega
 have S:Hid _:=h;have E:=h.lt;have aw:L.length<=6001:=by omega
 change Hid _ at U;clear B f h ah;go_enter Tryz.func186,Tryz.ntmps186;go_wp2;go_loopw [5] (λt wr=>∃i:Nat,i<=L.length/\t=.int .i64 i/\za (λ_=>False) w wr) (λt _=>L.length-(intOf t).toNat)
 case atStart=>exact⟨0,aj _,rfl,za.refl _ _⟩
 case round=>
  obtain⟨i,aL,rfl,I⟩:=hrel;have ab:Hid _:=I;have ag:=(I.cell (a:=⟨ib,0,none⟩) E (λd=>d)).trans N;clear I;by_cases P:i<L.length
  .have az:(i:Int)<(L.length:Int):=by omega
   have aa:Hid (∃j,∃h:j<us.length,J5 us[j] L[i]):=aq.out _ (ai P);obtain⟨p,rfl,m,Q⟩:=ap.cells (by omega);obtain⟨ae,X,Y,ad⟩:=Q i P;generalize L[i]=v at*;clear Q;go_wp2;go_loopw [6,7] (λb t ak=>∃k:Nat,k<=us.length/\t=.int .i64 k/\za (λ_=>False) w ak/\∃A:Bool,b=.bool A/\((∃j,∃h:j<us.length,j<k/\J5 us[j] v)->A=true)) (λ_ t _=>us.length-(intOf t).toNat)
   case atStart=>exact⟨0,aj _,rfl,ab,false,rfl,λ⟨j,h,z,_⟩=>absurd z (by omega)⟩
   case round=>
    obtain⟨k,I,rfl,l,A,rfl,x⟩:=hrel;have av:=(l.cell (a:=⟨ib,0,none⟩) E (λd=>d)).trans N;have af:=(l.cell (a:=⟨p,i*4,none⟩) m (λd=>d)).trans ae;have V:=(l.cell (a:=⟨p,i*4+1,none⟩) m (λd=>d)).trans X;have W:=(l.cell (a:=⟨p,i*4+2,none⟩) m (λd=>d)).trans Y;have T:=(l.cell (a:=⟨p,i*4+3,none⟩) m (λd=>d)).trans ad;change Hid _ at x l;by_cases C:k<us.length
    .have ax:(k:Int)<(us.length:Int):=by omega
     obtain⟨aR,rfl⟩:=S.rowAt (by omega);obtain⟨aE,aD,aS,M,J,aK,_⟩:=(S.kept l nF nF).cells k C;have Z:=U.out _ (ai C)
     have K:Hid (∀r,(J5 us[k] v->r=true)->(A=true->r=true)->(∃j,∃h:j<us.length,j<k+1/\J5 us[j] v)->r=true):=λr D h2 ⟨j,z,ay,s⟩=>by
      by_cases e:j=k;.subst e;exact D s
      .exact h2 (x ⟨j,z,by omega,s⟩)
     clear x;generalize us[k]=u at*;clear Z;go_wp2;have o:=ac wr (.cells #[.string u.key,.int .i64 u.num,.bool u.mark,.slice M u.body.length J] 123);have O:za (λ_=>False) wr (wr.alloc (.cells #[.string u.key,.int .i64 u.num,.bool u.mark,.slice M u.body.length J] 123)):=za.alloc _ _ _;generalize wr.alloc (.cells #[.string u.key,.int .i64 u.num,.bool u.mark,.slice M u.body.length J] 123)=q at*;have g:Hid _:=l.trans O iL;have aN:q.cell? ⟨wr.heap.size,0,none⟩=some (.string u.key):=(aG q _ 0 _ _ _ o).trans rfl;have aA:q.cell? ⟨wr.heap.size,1,none⟩=some (.int .i64 u.num):=(aG q _ 1 _ _ _ o).trans rfl;have aO:q.cell? ⟨wr.heap.size,2,none⟩=some (.bool u.mark):=(aG q _ 2 _ _ _ o).trans rfl;have aH:q.cell? ⟨wr.heap.size,3,none⟩=some (.slice M u.body.length J):=(aG q _ 3 _ _ _ o).trans rfl;have aB:=(g.cell (a:=⟨p,i*4,none⟩) m (λd=>d)).trans ae;have aJ:=(g.cell (a:=⟨p,i*4+1,none⟩) m (λd=>d)).trans X;have aI:=(g.cell (a:=⟨p,i*4+2,none⟩) m (λd=>d)).trans Y;have aC:=(g.cell (a:=⟨p,i*4+3,none⟩) m (λd=>d)).trans ad;clear o O af V W T
     cases A with
     |true=>
      go_quiet (fail);go_wp2;go_roundw
      case rel=>exact⟨k+1,by omega,by go_num,g.trans (za.drewN0 _ _) fE,true,rfl,λ_=>rfl⟩
      case measure=>simp [intOf];omega
     |false=>
      by_cases D:u.key.toList=v.key.toList
      .by_cases h2:u.num=v.num
       .have ao:(u.num==v.num)=true:=by simp [h2]
        by_cases y:u.mark=v.mark
        .have an:(u.mark==v.mark)=true:=by simp [y]
         by_cases H:(u.body.length:Int)=(v.body.length:Int)
         .have am:((u.body.length:Int)==(v.body.length:Int))=true:=by simp [H]
          clear h2 y H;go_quiet (fail);go_wp2;go_roundw
          case rel=>exact⟨k+1,by omega,by go_num,g.trans (za.drewN0 _ _) fE,true,rfl,λ_=>rfl⟩
          case measure=>simp [intOf];omega
         .have am:((u.body.length:Int)==(v.body.length:Int))=false:=by simpa using H
          have n:Hid (¬J5 u v):=λf=>H (by rw [f.2.2.2]);clear h2 y H;go_quiet (fail);go_wp2;go_roundw
          case rel=>exact⟨k+1,by omega,by go_num,g.trans (za.drewN0 _ _) fE,false,rfl,K false (λf=>absurd f n) id⟩
          case measure=>simp [intOf];omega
        .have an:(u.mark==v.mark)=false:=by simpa using y
         have n:Hid (¬J5 u v):=λf=>y f.2.2.1;clear h2 y;go_quiet (fail);go_wp2;go_roundw
         case rel=>exact⟨k+1,by omega,by go_num,g.trans (za.drewN0 _ _) fE,false,rfl,K false (λf=>absurd f n) id⟩
         case measure=>simp [intOf];omega
       .have ao:(u.num==v.num)=false:=by simpa using h2
        have n:Hid (¬J5 u v):=λf=>h2 f.2.1;clear h2;go_quiet (fail);go_wp2;go_roundw
        case rel=>exact⟨k+1,by omega,by go_num,g.trans (za.drewN0 _ _) fE,false,rfl,K false (λf=>absurd f n) id⟩
        case measure=>simp [intOf];omega
      .have aP:(u.key.toList==v.key.toList)=false:=by simpa using D
       have n:Hid (¬J5 u v):=λf=>D (qN.2 f.1);clear D;go_quiet (fail);go_wp2;go_roundw
       case rel=>exact⟨k+1,by omega,by go_num,g.trans (za.drewN0 _ _) fE,false,rfl,K false (λf=>absurd f n) id⟩
       case measure=>simp [intOf];omega
    .have e:k=us.length:=by omega
     subst e
     have R:=x.out (by
      obtain⟨j,z,s⟩:=aa.out
      exact⟨j,z,z,s⟩)
     subst R;go_wp2;go_roundw
     case rel=>exact⟨i+1,by omega,by go_num,l⟩
     case measure=>simp [intOf];omega
  .have e:i=L.length:=by omega
   subst e;go_wp2;go_ret;exact⟨rfl,ab⟩
end
theorem gF{L us:List zB}(a:L.Perm us):∀v∈L,∃j,∃h:j<us.length,J5 us[j] v:=λv b=>by
 obtain⟨j,c,e⟩:=ed (a.subset b);exact⟨j,c,by rw [e];exact J5.refl v⟩
set_option maxRecDepth 60000 in
theorem Qy(w:World)(bo:Nat)(h:qg)(o:zo w bo h)(ib:Nat)(V:h.is=qz ib)(f:ByteArray)(b:Bool)(body:List UInt8)(C:Option Addr)(N:Nat)(aB:h.k0=.string f)(h2:h.k2=.bool b)(an:h.k3=.slice C body.length N)(R:Nat->Prop)(aq:∀k,R k->k<w.heap.size/\k≠bo)(vs:List zB)(last n:Int)(aE:zJ w R R ib vs last)(ao:zO w R C body)(a0:last<n)(aT:n<=h.told+h.died)(bi:0<=h.told/\h.told<=1000000000000000000)(be:0<=h.died/\h.died<=1000000000000000000)(a:Option Addr)(c:Nat)(L:List zB)(F:Row w a c L)(G:L.Perm (vs++[⟨f,n,b,body⟩]))(I:∀v∈vs,v.num<=last)(Z:∀v∈vs,v.body.length<=300)(ag:body.length<=300)(aK:vs.length<=6000):
 Calls Tryz.prog 187 #[.pointer (some ⟨bo,0,none⟩),.slice a L.length c] w λe w'=>e=.returned (.bool true)/\∃aF,zo w' bo {h with is:=qz aF}/\zJ w' (λk=>R k\/(w.heap.size<=k/\k<w'.heap.size)) (λk=>R k\/(w.heap.size<=k/\k<w'.heap.size)) aF (vs++[⟨f,n,b,body⟩]) n/\za (λk=>k=bo) w w':=by
 have O:L.length=vs.length+1:=by rw [G.length_eq];simp
 have T:=o.c2;have E:w.cell? ⟨bo,4,none⟩=some h.k0:=o.at_ rfl;have K:w.cell? ⟨bo,6,none⟩=some h.k2:=o.at_ rfl;have D:w.cell? ⟨bo,7,none⟩=some h.k3:=o.at_ rfl;have a4:w.cell? ⟨bo,8,none⟩=some (.int .i64 h.died):=o.at_ rfl;have aR:w.cell? ⟨bo,9,none⟩=some (.int .i64 h.told):=o.at_ rfl;have aZ:=o.fz 2;rw [V] at T;rw [aB] at E;rw [h2] at K;rw [an] at D;unfold qz at T;have g:=o.lt;have al:Hid (zJ w R R ib vs last):=aE;have P:Hid (∀k,R k->k<w.heap.size/\k≠bo):=aq;have ap:Hid (zO w R C body):=ao;have aA:Hid (Row w a c L):=F;have aS:L.length<=6001:=by omega
 obtain⟨bf,bg,aO,ad⟩:=aE;have a2:=ad.c1;have aQ:IntKind.i64.wrap (h.told+h.died)=h.told+h.died:=IntWalk.i64_in _ (by omega);change Hid _ at o G I Z O;clear aq ao F ad V aB h2 an;go_enter Tryz.func187,Tryz.ntmps187;go_wp2;go_loopw [5] (λt wr=>∃i:Nat,i<=L.length/\t=.int .i64 i/\(∀j (y:j<L.length),j<i->L[j]∈vs)/\∃m,wr=w.drewN m) (λt _=>L.length-(intOf t).toNat)
 case atStart=>exact⟨0,aj _,rfl,λj _ y=>absurd y (by omega),0,rfl⟩
 case round=>
  obtain⟨i,bb,rfl,z,m,rfl⟩:=hrel;change Hid _ at z;by_cases Y:i<L.length
  .have a8:(i:Int)<(L.length:Int):=by omega
   obtain⟨aw,rfl,aP,ab⟩:=aA.out.cells (by omega);obtain⟨aN,aI,_,_⟩:=ab i Y;clear ab;by_cases s:L[i]∈vs
   .have aH:¬last<L[i].num:=by have:=I.out _ s;omega
    have a6:=decide_eq_false aH
    have ay:Hid (∀j (y:j<L.length),j<i+1->L[j]∈vs):=λj y aW=>by
     by_cases e:j=i;.subst e;exact s
     .exact z.out j y (by omega)
    clear s;generalize L[i]=v at*;go_wp2;go_quiet (fail);go_wp2;go_quiet (fail);go_wp2;go_roundw
    case rel=>exact⟨i+1,by omega,by go_num,ay.out,_,rfl⟩
    case measure=>simp [intOf];omega
   .have U:L[i]=⟨f,n,b,body⟩:=by
     rcases ah.1 (G.out.subset (ai Y)) with h|h;.exact absurd h s
     .exact az.1 h
    rw [U] at aN aI;clear U s z;go_wp2;go_quiet (fail);go_wp2;go_quiet (fail);go_wp2_with fail;refine(ux (w.drewN _) R R ib vs last (al.out.kept (za.drewN0 w _) nF nF) (by omega)).mono ?_;rintro e p ⟨rfl,X,q⟩;have r:Hid (za (λ_=>False) w p):=⟨q.os,q.tape,q.output,q.size,q.block⟩;have ak:Hid (zJ p (λk=>w.heap.size<=k) R w.heap.size vs last):=X;have a1:=r.out.size;have bc:=(r.out.cell (a:=⟨bo,4,none⟩) g (λH=>H)).trans E;have bh:=(r.out.cell (a:=⟨bo,6,none⟩) g (λH=>H)).trans K;have a9:=(r.out.cell (a:=⟨bo,7,none⟩) g (λH=>H)).trans D;clear X q;go_wp2_with fail;go_region_held3 (λw'=>w'.cell? ⟨bo,4,none⟩=some (.string f)/\w'.cell? ⟨bo,6,none⟩=some (.bool b)/\w'.cell? ⟨bo,7,none⟩=some (.slice C body.length N)) (go_keep) ((go_at_call 95;refine(dj p.drew (λk=>w.heap.size<=k) R R w.heap.size vs last (ak.out.kept (za.drew (λ_=>False) p) nF nF) (λk bd h2=>by have:=(P.out k h2).1;omega) (by omega) f n b C N body ((ap.out.kept r.out nF).kept (za.drew (λ_=>False) p) nF) (by omega)).mono ?_;rintro e B ⟨rfl,W,Q⟩;have u:Hid (za (λk=>w.heap.size<=k) w B):=((r.out.mono fE).trans (za.drew (λk=>w.heap.size<=k) p) (λk d=>.inl d)).trans Q (λk d=>.inl d);have ac:Hid (zJ B (λk=>w.heap.size<=k\/p.heap.size<=k) (λk=>R k\/p.heap.size<=k) w.heap.size (vs++[⟨f,n,b,body⟩]) (max last n)):=W;have a5:B.cell? ⟨bo,4,none⟩=some (.string f):=(u.out.cell (a:=⟨bo,4,none⟩) g (by show ¬w.heap.size<=bo;omega)).trans E;have a7:B.cell? ⟨bo,6,none⟩=some (.bool b):=(u.out.cell (a:=⟨bo,6,none⟩) g (by show ¬w.heap.size<=bo;omega)).trans K;have aV:B.cell? ⟨bo,7,none⟩=some (.slice C body.length N):=(u.out.cell (a:=⟨bo,7,none⟩) g (by show ¬w.heap.size<=bo;omega)).trans D;clear W Q))
    have au:Hid (Row B (some ⟨aw,0,none⟩) c L):=aA.out.kept u.out (λk d ba=>by have e:aw=k:=by simpa [Value.ownBlock] using d
                                                                               omega)
    go_wp2_with fail
    refine(gE ac.out au.out (by rw [O.out];simp) (by simp;omega) (gF G.out) (λv aL=>by
     rcases ah.1 aL with h|h;.exact Z.out v h
     .rw [az.1 h];exact ag)).mono ?_
    rintro e x ⟨rfl,J⟩;have l:Hid _:=u.out.trans J fE;have M:=ac.out.kept J nF nF
    have ax:Hid (zJ x (λk=>w.heap.size<=k\/p.heap.size<=k) (λk=>R k\/p.heap.size<=k) w.heap.size (vs++[⟨f,n,b,body⟩]) n):=by rw [show max last n=n by omega] at M;exact M
    have A:=(l.out.block bo g (by omega)).trans o.out.head;have aY:x.cell? ⟨bo,2,none⟩=some h.is:=(aG x bo 2 _ _ _ A).trans rfl;have aX:=aa x bo 2 _ _ A;have aC:Hid (x.heap[bo]? =some (.cells h.cells 125 (0,0))):=A;clear J M A;go_wp2;go_ret;have af:=za.setCell (S:=λk=>k=bo) x ⟨bo,2,none⟩ (.pointer (some ⟨w.heap.size,0,none⟩)) rfl;have a3:=l.out.size;have aJ:=af.size;refine⟨rfl,w.heap.size,⟨(heap_setCell_same x bo 2 _ _ _ aC.out).trans rfl⟩,?_,?_⟩
    .refine(ax.out.kept af (λk d e=>by have ar:k=bo:=e;omega) (λk d e=>by
      have ar:k=bo:=e;rcases d with d|d;.exact(P.out k d).2 ar
      .omega)).mono (λk d ae=>.inr ⟨by omega,ae⟩) (λk d ae=>d.imp id (λh=>⟨by omega,ae⟩))
    .refine⟨l.out.os,l.out.tape,l.out.output,aD l.out.size aJ,λk d aM=>(af.block k (by omega) aM).trans (l.out.block k d (by omega))⟩
  .exfalso;obtain⟨j,y,e⟩:=ed (G.out.symm.subset (av vs (List.mem_singleton_self (⟨f,n,b,body⟩:zB))));have am:=I.out _ (z.out j y (by omega));rw [e] at am;have aU:n<=last:=am;omega
inductive xC (w:World) (R:Nat->Prop) (h:qg) (V:qE) (last:Int):(qE->Prop)->Prop
 |still (hm:h.mb=.pointer none):xC w R h V last (λU=>U=V)
 |put (mb:Nat) (key:ByteArray) (mark:Bool) (body:List UInt8) (a:Option Addr) (num:Int) (c:Nat) (hm:h.mb=qz mb) (h0:h.k0=.string key) (h1:h.k1=.int .i64 num) (h2:h.k2=.bool mark) (h3:h.k3=.slice a body.length c) (hk:key≠ByteArray.empty) (hb:zO w R a body) (hn:V.n0+1<=h.told+h.died):xC w R h V last (λU=>U=V\/U=V.add key mark body)
 |erase (mb:Nat) (us:List zB) (num:Int) (mark:Bool) (a:Option Addr) (n c:Nat) (hm:h.mb=qz mb) (h0:h.k0=.string ByteArray.empty) (h1:h.k1=.int .i64 num) (h2:h.k2=.bool mark) (h3:h.k3=.slice a n c) (hr:zJ w R R mb us last) (hu:us.length+1=V.vs.length) (hs:∀v∈us,v∈V.vs):xC w R h V last (λU=>U=V\/U=⟨us,V.n0⟩)
section
variable {M:ze} {w w':World} {X S S' R R' T:Nat->Prop} {bo bd bs ib t:Nat} {h h':qg} {D D':Dk} {V U:qE} {last:Int} {P:qE->Prop}
theorem vN.split(r:vN M w R h D V last):∃P,xC w R h V last P/\M.Could D P:=by
 cases r with
 |put mb j b body a d c i f e h2 g o k could p=>exact⟨_,.put mb j b body a d c i f e h2 g o k p,could⟩
 |erase mb us d b a n c i f e h2 g q m l could=>exact⟨_,.erase mb us d b a n c i f e h2 g q m l,could⟩
theorem kI.split(i:kI M w X S R bo bd h D V last):∃P,xC w R h V last P/\M.Could D P:=by
 cases i with
 |live bs b e g d f c shut mb live=>exact⟨_,.still mb,live.could⟩
 |shut bs b e g d f c shut torn=>exact torn.split
 |gone b torn=>
  rcases torn with⟨a,h2⟩|a;.exact⟨_,.still a,h2⟩
  .exact a.split
theorem xC.join(s:xC w R h V last P)(c:M.Could D P):(h.mb=.pointer none/\M.Could D (λU=>U=V))\/vN M w R h D V last:=by
 cases s with
 |still e=>exact .inl ⟨e,c⟩
 |put mb k b body a d g e i f h2 j p l q=>exact .inr (.put mb k b body a d g e i f h2 j p l c q)
 |erase mb us d b a n g e i f h2 j r o m=>exact .inr (.erase mb us d b a n g e i f h2 j r o m c)
theorem xC.kept(u:xC w R h V last P)(k:za T w w')(l:∀i,R i->¬T i):xC w' R h V last P:=by
 cases u with
 |still d=>exact .still d
 |put mb o b body a c f d g e h2 j s p m=>exact .put mb o b body a c f d g e h2 j s (p.kept k l) m
 |erase mb us c b a n f d g e h2 j t r q=>exact .erase mb us c b a n f d g e h2 j (t.kept k l l) r q
theorem xC.head(A:xC w R h V last P)(e:h'.mb=h.mb/\h'.k0=h.k0/\h'.k1=h.k1/\h'.k2=h.k2/\h'.k3=h.k3/\h'.told=h.told/\h'.died=h.died):xC w R h' V last P:=by
 obtain⟨g,l,r,q,m,v,t⟩:=e
 cases A with
 |still c=>exact .still (g.trans c)
 |put mb o b body a d i c j f h2 k u y p=>exact .put mb o b body a d i (g.trans c) (l.trans j) (r.trans f) (q.trans h2) (m.trans k) u y (by rw [v,t];exact p)
 |erase mb us d b a n i c j f h2 k x z s=>exact .erase mb us d b a n i (g.trans c) (l.trans j) (r.trans f) (q.trans h2) (m.trans k) x z s
structure uB (M:ze) (w w':World) (X:Nat->Prop) (bo t:Nat) (e:Ending):Prop where
 ret:e=.returned (.bool true)
 one:∃X',One M w' X' bo t/\∀k,X' k->X k\/w.heap.size<=k
 kept:za X w w'
theorem uB.step{e:Ending}(b:uB M w w' X bo t e):Stepped M w w' X bo t e:=⟨b.ret,by
 obtain⟨X',a,h2⟩:=b.one
 exact⟨X',a.later (Nat.le_succ t),h2⟩,b.kept⟩
structure Gj (M:ze) (w:World) (X:Nat->Prop) (bo t:Nat) (h:qg) (bd bs:Nat) (D:Dk) (S R:Nat->Prop) (ib:Nat) (V U:qE) (last:Int):Prop where
 head:zo w bo h
 hd:h.d=qz bd
 hs:h.s=qz bs
 his:h.is=qz ib
 fore:xw M w bd bs S D U
 ref:zJ w R R ib V.vs last
 sX:∀k,S k->X k
 rX:∀k,R k->X k/\¬S k/\k≠bo/\k≠bs
 bX:X bo
 bsX:X bs
 bS:¬S bo
 bb:bs≠bo
 xlt:∀k,X k->k<w.heap.size
 last0:last<=V.n0
 lastv:∀v∈V.vs,v.num<=last
 told0:0<=h.told
 died0:0<=h.died
 n0t:V.n0<=h.told+h.died
 tt:h.told+h.died<=t
 good:Good V
 reads:D.reads<=2000
theorem Gj.done(b:Gj M w X bo t h bd bs D S R ib V U last){ib':Nat}{last':Int}(k:za (λk=>S k\/k=bs\/k=bo) w w')(q:zo w' bo h')(B:h'.d=h.d/\h'.s=h.s/\h'.is=qz ib'/\h'.mb=.pointer none/\h'.shut=false/\h'.told=h.told/\h'.died=h.died)
 (disk:zg w' bd S' D') (e:∀k,S' k->S k\/w.heap.size<=k) (n:M.Sto w' bs (some bd)) (c:M.Live D' U) (fu:M.Fu D'.fuse) (f:0<=D'.reads) (reads1:D'.reads<=3000000) (ref:zJ w' R' R' ib' U.vs last') (p:∀k,R' k->(R k\/w.heap.size<=k)/\k<w'.heap.size/\¬S' k) (g:last'<=U.n0) (i:∀v∈U.vs,v.num<=last') (o:U.n0<=h.told+h.died):
 (∃X',One M w' X' bo t/\∀k,X' k->X k\/w.heap.size<=k)/\za X w w':=by
 have r:=b.xlt bo b.bX;have hbs:=b.xlt bs b.bsX;have G:=k.size;obtain⟨z,u,C,y,x,m,l⟩:=B;have s:∀j,j<w.heap.size->¬S j->¬S' j:=λj d h2 A=>(e j A).elim h2 (λF=>by omega);have E:=b.tt;refine⟨⟨λk=>X k\/(w.heap.size<=k/\k<w'.heap.size),⟨h',bd,D',S',R',ib',U,last',q,z.trans b.hd,C,disk,ref,λj a=>?_,λj a=>?_,.inl b.bX,s bo r b.bS,λj a=>?_,g,i,by rw [m];exact b.told0,by rw [l];exact b.died0,by rw [m,l];exact o,by rw [m,l];omega,f,by omega,fu,c.good,c.big,.live bs (u.trans b.hs) (.inl b.bsX) (s bs hbs b.fore.apart) (λa=>?_) b.bb n x y c⟩,λj a=>a.imp id (λh=>h.1)⟩,k.mono (λj a=>?_)⟩;.exact(e j a).elim (λh=>.inl (b.sX j h)) (λh=>.inr ⟨h,disk.lt j a⟩)
 .have d:=p j a;refine⟨d.1.elim (λh=>.inl (b.rX j h).1) (λh=>.inr ⟨h,d.2.1⟩),d.2.2,?_⟩;exact d.1.elim (λh=>(b.rX j h).2.2.1) (λh=>by omega)
 .rcases a with a|a;.have:=b.xlt j a;omega
  .exact a.2
 .exact(p bs a).1.elim (λh=>(b.rX bs h).2.2.2 rfl) (λh=>by omega)
 .rcases a with a|rfl|rfl;.exact b.sX j a
  .exact b.bsX
  .exact b.bX
end
theorem Xf{vs L:List zB}(h:yw vs ByteArray.empty ByteArray.empty 0 L):L.Perm vs:=by
 have:=h.perm
 rwa [eU.2 (λv _=>by unfold qU;simp)] at this
section
variable {M:ze} {w w':World} {X S S' R R' T:Nat->Prop} {bo bd bs ib t:Nat} {h h':qg} {D D':Dk} {V U:qE} {last:Int} {P:qE->Prop}
theorem Gj.clear(a:Gj M w X bo t h bd bs D S R ib V U last){v:Value}(j:Nat){h2:qg}(e:h2.cells=h.cells.setIfInBounds j v)(l:h2.d=h.d/\h2.s=h.s/\h2.is=h.is/\h2.told=h.told/\h2.died=h.died):Gj M (w.setCell ⟨bo,j,none⟩ v) X bo t h2 bd bs D S R ib V U last/\za (λk=>k=bo) w (w.setCell ⟨bo,j,none⟩ v):=by
 have k:=za.setCell (S:=λk=>k=bo) w ⟨bo,j,none⟩ v rfl;obtain⟨n,g,m,f,d⟩:=l;refine⟨⟨a.head.set j v h2 e,n.trans a.hd,g.trans a.hs,m.trans a.his,⟨a.fore.disk.kept k (λi c b=>a.bS (by rw [<-show i=bo from b];exact c)),a.fore.apart,M.sto_kept _ _ _ _ _ a.fore.sto k (λb=>a.bb b),a.fore.live,a.fore.fuse,a.fore.reads0,a.fore.reads1,a.fore.few⟩,a.ref.kept k (λi c b=>(a.rX i c).2.2.1 b) (λi c b=>(a.rX i c).2.2.1 b),a.sX,a.rX,a.bX,a.bsX,a.bS,a.bb,λi c=>ay (a.xlt i c) k.size,a.last0,a.lastv,by rw [f];exact a.told0,by rw [d];exact a.died0,by rw [f,d];exact a.n0t,by rw [f,d];exact a.tt,a.good,a.reads⟩,k⟩
set_option maxRecDepth 60000 in
theorem J6(A:xy M)(aj:Gj M w X bo t h bd bs D S R ib V U last)(a8:xC w R h V last P)(aZ:P U)(bG:t<=4398046511104):
 Calls Tryz.prog 150 #[.pointer (some ⟨bo,0,none⟩)] w λe w'=>uB M w w' X bo t e:=by
 have bA:=aj.xlt bo aj.bX;have bj:=aj.head.c10;have be:=aj.head.fz 10;have an:=aj.head.c3;obtain⟨q,k1⟩:=aj.clear (v:=.bool false) 10 (h2:={h with shut:=false }) rfl ⟨rfl,rfl,rfl,rfl,rfl⟩;have d:Hid (Gj M (w.setCell ⟨bo,10,none⟩ (.bool false)) X bo t {h with shut:=false} bd bs D S R ib V U last):=q;have ab:Hid (za (λk=>k=bo) w (w.setCell ⟨bo,10,none⟩ (.bool false))):=k1;have af:Hid _:=(a8.head (h':={h with shut:=false }) ⟨rfl,rfl,rfl,rfl,rfl,rfl,rfl⟩).kept k1 (λi bb y=>(aj.rX i bb).2.2.1 y);have ad:Hid (P U):=aZ;have bx:=aj.fore.reads0;have bw:=aj.reads;change Hid _ at aj;clear q k1 a8 aZ;by_cases T:h.mb=.pointer none
 .rw [T] at an
  have ac:Hid (U=V):=by
   have z:=af.out;have h2:=ad.out;show U=V
   cases z with
   |still j=>exact h2
   |put mb u g body a Q c j G z h2 m b aA aE=>rw [show ({h with shut:=false}:qg).mb=h.mb from rfl,T] at j;cases j
   |erase mb us Q g a n c j G z h2 m aB ay ax=>rw [show ({h with shut:=false}:qg).mb=h.mb from rfl,T] at j;cases j
  go_enter Tryz.func150,Tryz.ntmps150;go_wp2;go_ret;have q:=d.out;have aq:=aj.done (R':=R) (ib':=ib) (last':=last) (ab.mono (λk b=>.inr (.inr b))) q.head ⟨rfl,rfl,q.his,T,rfl,rfl,rfl⟩ q.fore.disk (λk b=>.inl b) q.fore.sto q.fore.live q.fore.fuse (by omega) (by omega) (by rw [ac.out];exact q.ref) (λk b=>⟨.inl b,q.xlt k (q.rX k b).1,(q.rX k b).2.1⟩) (by rw [ac.out];exact q.last0) (by rw [ac.out];exact q.lastv) (by rw [ac.out];exact q.n0t);exact⟨rfl,aq.1,aq.2⟩
 .obtain⟨mb,I⟩:∃mb,h.mb=qz mb:=by
   have z:=af.out
   cases z with
   |still j=>exact absurd j T
   |put mb u g body a Q c j G z h2 m b aA aE=>exact⟨mb,j⟩
   |erase mb us Q g a n c j G z h2 m aB ay ax=>exact⟨mb,j⟩
  rw [I] at an;unfold qz at an;go_enter Tryz.func150,Tryz.ntmps150;go_wp2_with fail;generalize w.setCell ⟨bo,10,none⟩ (.bool false)=ba at*;have bC:=ab.size;refine(UM M A ba bo bd bs S D U d.fore (by rw [d.head.c1];exact congrArg some d.hs) (by omega) d.bS (λe=>d.bb e.symm) (by omega)).mono ?_;rintro e f ⟨aW,aw,a,c,L,rfl,o,ag,aY,am,aK⟩;have K:Hid (M.Live aW U):=ag;have E:Hid (L.Perm U.vs):=Xf aY;have ao:Hid (Row f a c L):=am;have aD:∀k,R k->¬(S k\/k=bs):=λk b y=>y.elim (d.rX k b).2.1 (d.rX k b).2.2.2;have aT:¬(S bo\/bo=bs):=λy=>y.elim d.bS (λe=>d.bb e.symm);have ae:=d.head.kept o.kept aT;have O:Hid (zo f bo {h with shut:=false }):=ae;have au:=d.ref.kept o.kept aD aD;have C:Hid (zJ f R R ib V.vs last):=au;have aV:Hid _:=af.kept o.kept aD
  have p:Hid (∀k,R k->k<f.heap.size/\¬aw k/\k≠bo):=λk b=>by
   have z:=d.xlt k (d.rX k b).1;have h2:=o.kept.size;refine⟨by omega,λy=>?_,(d.rX k b).2.2.1⟩;rcases o.foot k y with m|m;.exact(d.rX k b).2.1 m
   .omega
  have aX:Hid (¬aw bo/\¬aw bs):=⟨λy=>by
   rcases o.foot bo y with m|m;.exact d.bS m
   .have:=d.xlt bo d.bX;omega,λy=>by
   rcases o.foot bs y with m|m;.exact d.fore.apart m
   .have:=d.xlt bs d.bsX;omega⟩
  have al:za (λk=>S k\/k=bs\/k=bo) w f:=(ab.mono (λk b=>.inr (.inr b))).trans o.kept (λk b=>.inl (b.elim .inl (λh=>.inr (.inl h))));have bq:bo<f.heap.size:=by have:=o.kept.size;omega
  have bF:=(ae.c2).trans (congrArg some d.his);have bH:=(ae.c3).trans (congrArg some I);have bg:=o.reads0;have bh:=o.reads1
  have Z:Hid (∀(ai:World) (R':Nat->Prop) (ib':Nat) (last':Int),zo ai bo {h with shut:=false,mb:=.pointer none,is:=qz ib'}->za (λk=>k=bo) f ai->zJ ai R' R' ib' U.vs last'->(∀k,R' k->(R k\/f.heap.size<=k)/\k<ai.heap.size)->last'<=U.n0->(∀v∈U.vs,v.num<=last')->U.n0<=h.told+h.died->uB M w ai X bo t (.returned (.bool true))):=λai R' ib' last' bk aM bm bp bf bn bl=>by
   have aq:=aj.done (R':=R') (S':=aw) (D':=aW) (ib':=ib') (last':=last') (al.trans aM (λk b=>.inl (.inr (.inr b)))) bk ⟨rfl,rfl,rfl,rfl,rfl,rfl,rfl⟩ (o.disk.kept aM (λk b e=>aX.1 (by rw [<-show k=bo from e];exact b))) (λk b=>(o.foot k b).imp id (λh=>by omega)) (M.sto_kept _ _ _ _ _ o.sto aM (λe=>d.bb e)) K o.fuse (by omega) (by omega) bm (λk b=>by
    have aO:=bp k b;have:=al.size;refine⟨aO.1.imp id (λh=>by omega),aO.2,?_⟩;rcases aO.1 with a1|a1;.exact(p k a1).2.1
    .exact λy=>by have:=o.disk.lt k y;omega) bf bn bl
   exact⟨rfl,aq.1,aq.2⟩
  change Hid _ at o al;clear ag aY am aK aD aT ae au aj ab af;by_cases J:U=V
  .subst J;go_wp2_with fail;refine(gE C ao E.length_eq (by have:=K.good.few;omega) (gF E) K.good.body).mono ?_;rintro e r ⟨rfl,B⟩;have l:=O.kept B (λaL=>aL);have aS:=(l.c3).trans (congrArg some I);have aU:=l.fz 3;have ak:Hid (zo r bo {h with shut:=false }):=l;have ap:Hid _:=B;clear B l;go_wp2;go_ret;have aa:=za.setCell (S:=λk=>k=bo) r ⟨bo,3,none⟩ (.pointer none) rfl;have F:za (λk=>k=bo) f (r.setCell ⟨bo,3,none⟩ (.pointer none)):=(ap.mono fE).trans aa iL;have a5:=F.size;exact Z _ R ib last (ak.set 3 _ _ (by show #[h.d,h.s,qz ib,_,_,_,_,_,_,_,_]=_;rw [<-show h.is=qz ib from d.his];rfl)) F (C.kept F (λk b=>(p k b).2.2) (λk b=>(p k b).2.2)) (λk b=>⟨.inl b,by have:=(p k b).1;omega⟩) d.last0 d.lastv d.n0t
  .have a3:=aV.out
   cases a3 with
   |still j=>exact absurd ad J
   |put s u g body aC Q aN j G z h2 m b aA aE=>
    obtain rfl:U=V.add u g body:=ad.resolve_left J;have ar:Hid (L.length≠V.vs.length):=by show L.length≠_;rw [E.length_eq];simp [qE.add]
    have bi:f.cell? ⟨bo,4,none⟩=some (.string u):=(O.at_ (i:=4) (v:=h.k0) rfl).trans (congrArg some G);have a6:¬u.toList=[]:=λe=>b (qN.1 (by rw [e,eC];rfl));have bt:(u.toList==[])=false:=by simpa using a6
    have aR:Hid (zO f R aC body):=aA;have W:Hid (h.k0=.string u/\h.k2=.bool g/\h.k3=.slice aC body.length aN/\V.n0+1<=h.told+h.died):=⟨G,h2,m,aE⟩;clear j G z h2 m b aA aE J;go_wp2_with fail;refine(Qx (L:=L) C ar).mono ?_;rintro e r ⟨rfl,Y⟩;rw [Y];clear Y r;go_wp2_with fail;have x:=d.out;have a0:0<=h.told:=x.told0;have a2:0<=h.died:=x.died0;have bv:h.told+h.died<=t:=x.tt;have bz:=x.last0;refine(Qy f bo {h with shut:=false} O ib x.his u g body aC aN W.1 W.2.1 W.2.2.1 R (λk b=>⟨(p k b).1,(p k b).2.2⟩) V.vs last (V.n0+1) C aR (by omega) W.2.2.2 ⟨a0,by show h.told<=_;omega⟩ ⟨a2,by show h.died<=_;omega⟩ a c L ao E x.lastv x.good.body (K.good.body _ (av _ (List.mem_singleton_self _))) x.good.few).mono ?_;rintro e N ⟨rfl,aQ,H,aJ,aF⟩;have bD:=(H.c3).trans (congrArg some I);have bB:=H.fz 3;have a7:Hid (zo N bo {h with shut:=false,is:=qz aQ }):=H;have aI:Hid (za (λk=>k=bo) f N):=aF;have a4:Hid (zJ N (λk=>R k\/(f.heap.size<=k/\k<N.heap.size)) (λk=>R k\/(f.heap.size<=k/\k<N.heap.size)) aQ (V.vs++[⟨u,V.n0+1,g,body⟩]) (V.n0+1)):=aJ;clear H aJ aF x;go_wp2;go_ret;have aa:=za.setCell (S:=λk=>k=bo) N ⟨bo,3,none⟩ (.pointer none) rfl;have bI:=aI.size;have a5:=aa.size;have aG:∀k,(R k\/(f.heap.size<=k/\k<N.heap.size))->¬(k=bo):=λk b e=>b.elim (λh=>(p k h).2.2 e) (λh=>by omega)
    exact Z _ (λk=>R k\/(f.heap.size<=k/\k<N.heap.size)) aQ (V.n0+1) (a7.set 3 _ _ rfl) (aI.trans aa iL) (a4.kept aa aG aG) (λk b=>⟨b.imp id (λh=>h.1),b.elim (λh=>by have:=(p k h).1;omega) (λh=>by omega)⟩) (eb _) (λv aP=>by
     rcases ah.1 aP with h|h;.have:=d.lastv v h;omega
     .rw [az.1 h];exact eb _) W.2.2.2
   |erase s us Q g aC bE aN j G z h2 m aB ay ax=>
    obtain rfl:U=⟨us,V.n0⟩:=ad.resolve_left J
    obtain rfl:s=mb:=by have e:=j.symm.trans I;unfold qz at e;simpa using e
    have ar:Hid (L.length≠V.vs.length):=by show L.length≠_;rw [E.length_eq,<-ay];exact λe=>absurd e (by show us.length≠us.length+1;omega)
    have bi:=(O.at_ (i:=4) (v:=h.k0) rfl).trans (congrArg some G);have aH:Hid (zJ f R R s us last):=aB;have a9:Hid (∀v∈us,v∈V.vs):=ax;clear j G z h2 m aB ay ax J;go_wp2_with fail;refine(Qx (L:=L) C ar).mono ?_;rintro e r ⟨rfl,Y⟩;rw [Y];clear Y r;go_wp2_with fail;refine(gE (L:=L) aH ao E.length_eq (by have:=K.good.few;have:us.length<=6000:=this;omega) (gF E) K.good.body).mono ?_;rintro e r ⟨rfl,B⟩;have l:=O.kept B (λaL=>aL);have bu:=(l.c2).trans (congrArg some d.his);have aS:r.cell? ⟨bo,3,none⟩=some (.pointer (some ⟨s,0,none⟩)):=(l.c3).trans (congrArg some I);have br:=l.fz 2;have aU:=l.fz 3;have ak:Hid (zo r bo {h with shut:=false }):=l;have ap:Hid (za (λ_=>False) f r):=B;clear B l;go_wp2;go_ret;have bc:=za.setCell (S:=λk=>k=bo) r ⟨bo,2,none⟩ (.pointer (some ⟨s,0,none⟩)) rfl;have H:zo (r.setCell ⟨bo,2,none⟩ (.pointer (some ⟨s,0,none⟩))) bo {h with shut:=false,is:=qz s}:=ak.set 2 _ _ rfl;have aa:=za.setCell (S:=λk=>k=bo) (r.setCell ⟨bo,2,none⟩ (.pointer (some ⟨s,0,none⟩))) ⟨bo,3,none⟩ (.pointer none) rfl;have F:=((ap.mono (S':=λk=>k=bo) fE).trans bc iL).trans aa iL;have a5:=F.size;exact Z _ R s last (H.set 3 _ _ rfl) F (aH.kept F (λk b=>(p k b).2.2) (λk b=>(p k b).2.2)) (λk b=>⟨.inl b,by have:=(p k b).1;omega⟩) d.last0 (λv aP=>d.lastv v (a9 v aP)) d.n0t
end
end law
namespace law
structure Vh (M N:ze):Prop where
 could:∀D P,M.Could D P->N.Could D P
 fore:∀w bd bs S D V,xw N w bd bs S D V->xw M w bd bs S D V
 none:∀f,N.Fu f->f≠0
 every:∀f,zD f->M.Fu f
section
variable {M N:ze} {w w':World} {X S S' R R' T:Nat->Prop} {bo bd bs ib t:Nat} {h h':qg} {D D':Dk} {V U:qE} {last:Int} {P:qE->Prop}
theorem ze.Could.as(c:M.Could D P)(b:D'.bs=D.bs)(a:D'.ps=D.ps):M.Could D' P:=⟨by rw [a];exact c.few,by rw [b];exact c.big,λks=>by rw [b,a];exact c.all ks⟩
theorem ze.Could.fall(c:M.Could D P)(ks:List Bool):M.Could {D with bs:=zm D.bs (sel D.ps ks),ps:=[],fuse:= -1} P:=
 ⟨aj _,by show 64<=(zm D.bs (sel D.ps ks)).length;rw [zC];exact c.big,λ_=>c.all ks⟩
theorem cL(s:q8 M)(q:q8 N)(l:Vh M N)(h:Bool)(i:zg w bd S D)(o:M.Could D P)(r:M.Fu D.fuse)(t:h=true\/D.fuse= -1)(u:D.reads=0)(n:∀U,P U->U.n0<=2305843009213693952):
 Calls Tryz.prog 35 #[.pointer (some ⟨bd,0,none⟩)] w λe w'=>∃D' S',zg w' bd S' D'/\(∀k,S' k->S k\/w.heap.size<=k)/\za S w w'/\0<=D'.reads/\D'.reads<=2*D.bs.length/\D'.bs.length=D.bs.length/\M.Fu D'.fuse/\
  ((∃bs U,e=.returned (.tuple #[.pointer (some ⟨bs,0,none⟩),.int .i64 0])/\w.heap.size<=bs/\P U/\xw M w' bd bs S' D' U)\/(h=true/\e=.returned (.tuple #[.pointer none,.int .i64 7])/\D'.fuse=0/\M.Could D' P)):=by
 have v:D.bs.length<=1000:=by obtain⟨_,_,_,_,g⟩:=i;exact g.ok.few
 by_cases p:D.fuse= -1
 .refine(q.big w bd S D P i (l.could _ _ o) (by rw [p];exact N.fu_neg) (by omega) (by omega)).mono ?_;rintro e w' ⟨D',S',a,⟨bs,U,rfl,hbs,d,c,f,b⟩|⟨rfl,j,_⟩⟩
  .have g:=a.reads0;have h2:=a.reads1;have F:=l.fore w' bd bs S' D' U ⟨a.disk,d,c,b,a.fuse,by omega,by omega,n U f⟩;exact⟨D',S',a.disk,a.foot,a.kept,by omega,by omega,a.size,F.fuse,.inl ⟨bs,U,rfl,hbs,f,F⟩⟩
  .exact absurd j (l.none _ a.fuse)
 .refine(s.big w bd S D P i o r (by omega) (by omega)).mono ?_;rintro e w' ⟨D',S',a,⟨bs,U,rfl,hbs,d,c,f,b⟩|⟨rfl,j,m⟩⟩
  .have g:=a.reads0;have h2:=a.reads1;exact⟨D',S',a.disk,a.foot,a.kept,by omega,by omega,a.size,a.fuse,.inl ⟨bs,U,rfl,hbs,f,⟨a.disk,d,c,b,a.fuse,by omega,by omega,n U f⟩⟩⟩
  .have g:=a.reads0;have h2:=a.reads1;exact⟨D',S',a.disk,a.foot,a.kept,by omega,by omega,a.size,a.fuse,.inr ⟨t.resolve_right p,rfl,j,m⟩⟩
theorem J7(ag:q8 N)(af:xk N)(J:Vh M N)(T:zo w bo h)(H:h.d=qz bd)(ac:zg w bd S D)(A:M.Could D P)(F:∀U,P U->U.n0<=2305843009213693952):
 Calls Tryz.prog 148 #[.pointer (some ⟨bo,0,none⟩)] w λe w'=>e=.returned (.tuple #[])/\za (λ_=>False) w w':=by
 have v:=T.c0;rw [H] at v;unfold qz at v;obtain⟨ab,aa,ai,aj,g⟩:=ac;have ak:=g.ok.few;have al:=A.few;have ah:Hid (∀U,P U->U.n0<=2305843009213693952):=F;change Hid _ at g A;clear T F H;go_enter Tryz.func148,Tryz.ntmps148;go_wp2_with fail;refine(Jb w bd S D ab aa ai aj g (by omega)).mono ?_;rintro e K ⟨rfl,⟨S1,X,i⟩,t⟩;obtain⟨p,r,u,y,m⟩:=X;have R:Hid (za (λ_=>False) w K):=t;change Hid _ at m i;clear t;go_wp2_with fail;refine(ur K w.heap.size S1 {D with reads:=0} p r u y m (-1)).mono ?_;rintro e C ⟨rfl,z,s⟩;have L:Hid (zn C w.heap.size S1 {D with reads:=0,fuse:= -1} p r u y):=z;have x:Hid (za (λk=>w.heap.size<=k) w C):=(R.mono fE).trans s (λk b=>.inl (by show w.heap.size<=k;rw [show k=w.heap.size from b];exact aF _));clear z s;go_wp2_with fail;refine(ag.big C w.heap.size S1 {D with reads:=0,fuse:= -1} P ⟨_,_,_,_,L⟩ (J.could _ _ (A.as rfl rfl)) N.fu_neg (by show (0:Int)<=0;omega) (by show (0:Int)<=_;omega)).mono ?_;rintro e G ⟨o,E,a,⟨bs,U,rfl,hbs,j,l,O,f⟩|⟨rfl,ad,_⟩⟩
 .have Z:0<=o.reads:=a.reads0;have h2:o.reads<=0+2*(D.bs.length:Int):=a.reads1;have ae:Hid (xw N G w.heap.size bs E o U):=⟨a.disk,j,l,f,a.fuse,Z,by omega,ah U O⟩;have ap:=x.size;have I:Hid (∀k,E k->w.heap.size<=k):=λk b=>(a.foot k b).elim (i k) (λh=>by omega);have Y:Hid _:=x.trans a.kept (λk b=>.inl (i k b));have B:w.heap.size<=bs:=by omega
  clear a l O f j;go_wp2_with fail;refine(af.live G w.heap.size bs E (λ_=>False) o U ⟨#[116,114,105,97,108]⟩ none 0 [] ae (by decide) (.inl rfl) fE (by decide) (by decide) (by omega)).mono ?_;rintro e an ⟨ao,am,c,n,q,rfl,W,Q,V⟩;clear Q V;have d:Hid _:=Y.trans W.kept (λk b=>.inl (b.elim (I k) (λe=>by show w.heap.size<=k;rw [e];exact B)));clear W;go_wp2;go_end0;exact⟨rfl,⟨d.os,d.tape,d.output,d.size,λk b _=>d.block k b (by omega)⟩⟩
 .exact absurd ad (J.none _ a.fuse)
end
structure ZJ (M:ze) (w:World) (X:Nat->Prop) (bo t:Nat) (h:qg) (bd:Nat) (D:Dk) (S R:Nat->Prop) (ib:Nat) (V:qE) (last:Int) (P:qE->Prop):Prop where
 head:zo w bo h
 hd:h.d=qz bd
 his:h.is=qz ib
 disk:zg w bd S D
 ref:zJ w R R ib V.vs last
 sX:∀k,S k->X k
 rX:∀k,R k->X k/\¬S k/\k≠bo
 bX:X bo
 bS:¬S bo
 xlt:∀k,X k->k<w.heap.size
 last0:last<=V.n0
 lastv:∀v∈V.vs,v.num<=last
 told0:0<=h.told
 died0:0<=h.died
 n0t:V.n0<=h.told+h.died
 tt:h.told+h.died<=t
 fu:M.Fu D.fuse
 good:Good V
 torn:xC w R h V last P
 could:M.Could D P
section
variable {M N:ze} {w w':World} {X S S' R R' T:Nat->Prop} {bo bd bs ib t:Nat} {h h':qg} {D D':Dk} {V U:qE} {last:Int} {P:qE->Prop}
theorem yt.bare(a:yt M w X bo t h bd D S R ib V last):∃P,ZJ M w X bo t h bd D S R ib V last P:=by
 obtain⟨P,b,h2⟩:=a.st.split;exact⟨P,a.head,a.hd,a.his,a.disk,a.ref,a.sX,a.rX,a.bX,a.bS,a.xlt,a.last0,a.lastv,a.told0,a.died0,a.n0t,a.tt,a.fu,a.good,b,h2⟩
theorem xC.n0(q:xC w R h V last P)(e:P U)(b:V.n0<=h.told+h.died):U.n0<=h.told+h.died:=by
 cases q with
 |still i=>rw [show U=V from e];exact b
 |put mb m d body a f c i k j h2 l s o g=>
  rcases e with rfl|rfl;.exact b
  .exact g
 |erase mb us f d a n c i k j h2 l t r p=>
  rcases e with rfl|rfl;.exact b
  .exact b
theorem uB.before{e:Ending}{a:World}{b:Nat->Prop}(f:uB M w w' X bo t e)(k:za b a w)(c:∀k,X k->b k\/a.heap.size<=k):uB M a w' b bo t e:=⟨f.ret,by
 obtain⟨X',d,h2⟩:=f.one
 exact⟨X',d,λi h=>(h2 i h).elim (c i) (λg=>.inr (aD k.size g))⟩,k.trans f.kept c⟩
set_option maxRecDepth 60000 in
theorem jp(ba:q8 M)(aJ:q8 N)(bc:xk N)(a6:xy M)(aH:Vh M N)(b:ZJ M w X bo t h bd D S R ib V last P)(ac:Bool)(a4:ac=true\/D.fuse= -1)(bh:t<=4398046511104):
 Calls Tryz.prog 88 #[.pointer (some ⟨bo,0,none⟩),.bool ac] w λe w'=>uB M w w' X bo t e:=by
 have aM:Hid (∀U,P U->U.n0<=2305843009213693952):=λU bf=>by have aP:=b.torn.n0 bf b.n0t;have:=b.tt;omega
 have bm:=b.xlt bo b.bX;have bu:=b.could.few
 have bq:D.bs.length<=1000:=by obtain⟨_,_,_,_,aP⟩:=b.disk;exact aP.ok.few
 change Hid _ at b;go_enter Tryz.func88,Tryz.ntmps88;go_wp2_with fail;refine(J7 aJ bc aH b.head b.hd b.disk b.could aM).mono ?_;rintro e ah ⟨rfl,B⟩;have Z:=b.head.kept B (λaE=>aE);have bz:=Z.c0.trans (congrArg some b.hd);obtain⟨a2,a1,bg,a8,au⟩:=b.disk.kept B nF;have bx:=B.size;change Hid _ at B au Z;go_wp2_with fail;refine(Jb ah bd S D a2 a1 bg a8 au (by omega)).mono ?_;rintro e ae ⟨rfl,⟨ai,aA,ax⟩,E⟩;have aW:Hid _:=B.trans E iL;have G:=Z.kept E (λaE=>aE);have bk:=G.c0.trans (congrArg some b.hd);have bl:=G.fz 0;have bv:=E.size;have bb:bo<ae.heap.size:=by omega
 have aI:Hid (zg ae ah.heap.size ai {D with reads:=0 }):=aA;have I:Hid (∀k,ai k->ah.heap.size<=k):=ax;change Hid _ at G;clear E aA ax;generalize a0:ah.heap.size=c at*;go_wp2_with fail;have k3:=za.setCell (S:=λk=>k=bo) ae ⟨bo,0,none⟩ (.pointer (some ⟨c,0,none⟩)) rfl;have O:zo (ae.setCell ⟨bo,0,none⟩ (.pointer (some ⟨c,0,none⟩))) bo {h with d:=qz c}:=G.set 0 _ _ rfl;generalize ae.setCell ⟨bo,0,none⟩ (.pointer (some ⟨c,0,none⟩))=aF at*;have bp:=O.c0;have av:zg aF c ai {D with reads:=0}:=aI.kept k3 (λk a e=>by have:=I.out k a;omega);have aV:Hid _:=av;have aZ:Hid _:=(aW.mono fE).trans k3 iL;have bw:=k3.size;obtain⟨aR,aQ,aO,aL,W⟩:=av;change Hid _ at O W;clear k3;refine(qD aF c ai {D with reads:=0} aR aQ aO aL W).mono ?_;rintro e y ⟨rfl,g⟩;rw [g];clear g y;go_wp2_with fail;refine(cL ba aJ aH ac aV (b.could.as rfl rfl) b.fu a4 rfl aM).mono ?_;rintro e q ⟨j,p,ak,am,J,aC,Q,aj,ad,o⟩;have aa:∀k,p k->c<=k:=λk a=>(am k a).elim (I k) (λh=>by omega);have aB:=aZ.trans J (λk a=>.inr (by have:=I.out k a;omega));have n:=O.kept J (λm=>by have:=I.out bo m;omega);have bt:=n.c0;have be:=J.size;have L:Hid (zg q c p j):=ak;have aY:Hid (M.Fu j.fuse):=ad;obtain⟨al,az,ar,ao,x⟩:=ak;have bj:=x.ok.few;have a3:j.reads<=2*(j.bs.length:Int):=by rw [aj];exact Q
 have bi:=n.fz 1;have bn:=n.c1;change Hid _ at aa aB n aj x o;clear ad am J Q;have br:¬(j.reads>2*(j.bs.length:Int)):=by omega
 rcases o.out with⟨bs,U,rfl,hbs,aU,F⟩|⟨rfl,rfl,aT,m⟩
 .have a5:Hid (P U):=aU;have v:Hid _:=F;have a7:=M.sto_lt _ _ _ F.sto;clear aU F o
  go_wp2_with (first
   |(go_at_call 86;refine(qD q c p j al az ar ao x).mono ?_;rintro e y ⟨rfl,g⟩;rw [g];clear g y)
   |(go_at_call 149;refine(yC q bo {h with d:=qz c} n c rfl p j L).mono ?_;rintro e y ⟨rfl,g⟩;rw [g];clear g y))
  have r:=za.setCell (S:=λk=>k=bo) q ⟨bo,1,none⟩ (.pointer (some ⟨bs,0,none⟩)) rfl;have u:zo (q.setCell ⟨bo,1,none⟩ (.pointer (some ⟨bs,0,none⟩))) bo {h with d:=qz c,s:=qz bs}:=n.set 1 _ _ rfl;generalize q.setCell ⟨bo,1,none⟩ (.pointer (some ⟨bs,0,none⟩))=C at*;have z:za (λk=>k=bo) w C:=aB.trans r iL;have a9:=r.size;have f:=b.out;have A:∀k,R k->k<w.heap.size:=λk a=>f.xlt k (f.rX k a).1;have l:∀k,R k->¬k=bo:=λk a=>(f.rX k a).2.2;have i:∀k,p k->w.heap.size<=k:=λk a=>by have:=aa.out k a;omega
  have ab:Gj M C (λk=>X k\/(w.heap.size<=k/\k<C.heap.size)) bo t {h with d:=qz c,s:=qz bs} c bs j p R ib V U last:=
   ⟨u,rfl,rfl,f.his,⟨v.disk.kept r (λk a e=>by have:=i k a;omega),v.apart,M.sto_kept _ _ _ _ _ v.sto r (λe=>by have bA:=e;omega),v.live,v.fuse,v.reads0,v.reads1,v.few⟩,f.ref.kept z l l,λk a=>.inr ⟨i k a,by have:=v.disk.lt k a;omega⟩,λk a=>⟨.inl (f.rX k a).1,λm=>by have:=i k m;have:=A k a;omega,l k a,λe=>by have:=A k a;omega⟩,.inl f.bX,.inr ⟨by omega,by omega⟩,λm=>by have:=i bo m;omega,by omega,λk a=>by
    rcases a with a|a;.have:=f.xlt k a;have:=z.size;omega
    .exact a.2,f.last0,f.lastv,f.told0,f.died0,f.n0t,f.tt,f.good,by omega⟩
  have aN:Hid _:=(f.torn.head (h':={h with d:=qz c,s:=qz bs }) ⟨rfl,rfl,rfl,rfl,rfl,rfl,rfl⟩).kept z l;have ag:Hid (za X w C):=z.mono (λk a=>by rw [show k=bo from a];exact f.bX);change Hid _ at ab;clear r u z f A l i;refine(J6 a6 ab aN a5 bh).mono ?_;rintro e K T;have aS:Hid _:=T.before ag (λk a=>a.imp id (λh=>h.1));obtain rfl:=T.ret;clear T;go_wp2;go_ret;exact aS.out
 .have aG:Hid _:=aT;have an:Hid (M.Could j P):=m;clear aT m o
  go_wp2_with (first
   |(go_at_call 86;refine(qD q c p j al az ar ao x).mono ?_;rintro e y ⟨rfl,g⟩;rw [g];clear g y)
   |(go_at_call 149;refine(yC q bo {h with d:=qz c} n c rfl p j L).mono ?_;rintro e y ⟨rfl,g⟩;rw [g];clear g y))
  have r:=za.setCell (S:=λk=>k=bo) q ⟨bo,1,none⟩ (.pointer none) rfl;have u:zo (q.setCell ⟨bo,1,none⟩ (.pointer none)) bo {h with d:=qz c,s:=.pointer none}:=n.set 1 _ _ rfl;generalize q.setCell ⟨bo,1,none⟩ (.pointer none)=C at*;have i:∀k,p k->w.heap.size<=k:=λk a=>by have:=aa.out k a;omega
  have aq:zg C c p j:=L.kept r (λk a e=>by have:=i k a;omega);have ag:Hid _:=aB.trans r iL;have a9:=r.size;change Hid _ at aq u i;clear r;refine(dB C bo _ u c rfl p j aq aG).mono ?_;rintro e K ⟨rfl,⟨aD,aw,ay⟩,H⟩;have ap:Hid (zg K c aD j):=aw;have af:Hid (∀k,aD k->w.heap.size<=k):=λk a=>i k (ay k a);have aK:Hid (zo K bo {h with d:=qz c,s:=.pointer none }):=u.kept H (λm=>by have:=i.out bo m;omega);have Y:Hid (za (λk=>k=bo) w K):=ag.trans H (λk a=>.inr (i k a));have bB:=H.size;clear aw ay H;go_wp2;go_ret;have f:=b.out;have A:∀k,R k->k<w.heap.size:=λk a=>f.xlt k (f.rX k a).1;have l:∀k,R k->¬k=bo:=λk a=>(f.rX k a).2.2;have aX:xC K R {h with d:=qz c,s:=.pointer none} V last P:=(f.torn.head (h':={h with d:=qz c,s:=.pointer none }) ⟨rfl,rfl,rfl,rfl,rfl,rfl,rfl⟩).kept Y l;refine⟨rfl,⟨λk=>X k\/(w.heap.size<=k/\k<K.heap.size),⟨_,c,j,aD,R,ib,V,last,aK,rfl,f.his,ap,f.ref.kept Y l l,λk a=>.inr ⟨af k a,ap.lt k a⟩,λk a=>⟨.inl (f.rX k a).1,λm=>by have:=af.out k m;have:=A k a;omega,l k a⟩,.inl f.bX,λm=>by have:=af.out bo m;omega,λk a=>?_,f.last0,f.lastv,f.told0,f.died0,f.n0t,f.tt,aC,by omega,aY,f.good,an.big,.gone rfl (aX.join an)⟩,λk a=>a.imp id (λh=>h.1)⟩,Y.mono (λk a=>by rw [show k=bo from a];exact f.bX)⟩;rcases a with a|a;.have:=f.xlt k a;omega
  .exact a.2
end
end law
end Go.Proofs.YtcoengihaobddaaGreatDoor
