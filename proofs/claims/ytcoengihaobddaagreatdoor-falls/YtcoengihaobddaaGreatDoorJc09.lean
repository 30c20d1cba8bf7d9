/- Part 9 of 36 of a proof: Find1, Find2, Find3, Find4, Find5, Find6, Find7 -/
import Derived.Test.YtcoengihaobddaaGreatDoorJc08
set_option maxHeartbeats 8000000
set_option linter.unusedVariables false
set_option linter.unusedSimpArgs false
set_option maxRecDepth 8000
namespace Go.Proofs.YtcoengihaobddaaGreatDoor
open Go.ChangeShapes Go.WideShapes Go.ChangeAt Go.RowKit disk ref book
open keys (zh ze zy zs zq)
namespace law
open keep (Row Qv YW Xe J4 Jd cK Qw gC j6 x9)
set_option maxRecDepth 60000 in
theorem UM(M:zd)(A:xD M)(w:World)(bo bd bs:Nat)(S:Nat->Prop)(D:Dk)(V:qq)(F:xI M w bd bs S D V)(aV:w.cell? ⟨bo,1,none⟩=some (.pointer (some ⟨bs,0,none⟩)))(a2:bo<w.heap.size)(aR:¬S bo)(aU:bo≠bs)(bt:D.reads<=1000000000000000000):
 Calls Tryz.prog 185 #[.pointer (some ⟨bo,0,none⟩)] w λe w'=>∃D' S' a c L,e=.returned (.tuple #[.slice a L.length c,.bool true])/\bY M w w' bd bs S S' D D' 2000000 (some bd)/\M.Live D' V/\yz V.vs ByteArray.empty ByteArray.empty 0 L/\Row w' a c L/\∀k,(Value.slice a L.length c).ownBlock=some k->w.heap.size<=k/\¬S' k:=by
 have ba:ByteArray.empty=ByteArray.empty\/zq ByteArray.empty.data.toList=true:=.inl rfl;have p:=F.live.good;obtain⟨L,af⟩:∃L,yz V.vs ByteArray.empty ByteArray.empty 0 L:=⟨_,ft V.vs p.apart ByteArray.empty ByteArray.empty 0⟩
 have az:∀v∈V.vs,v.key≠ByteArray.empty:=λv K e=>by have:=p.key v K;rw [e] at this;exact absurd this (by decide)
 have bv:L.length<=6000:=by rw [af.perm.length_eq];exact aD (ip _ _) p.few
 have ay:∀v∈L,v∈V.vs:=λv K=>(ei.1 (af.perm.subset K)).1
 have an:∀n,n<=L.length->qH ByteArray.empty (Qv L n) (YW L n) 50=0/\(Qv L n).size<=8/\zD (YW L n):=λn bG=>by
  have a5:(Qv L n=ByteArray.empty/\YW L n=0)\/∃v∈V.vs,Qv L n=v.key/\YW L n=v.num:=by
   by_cases a1:n=0;.subst a1;exact .inl ⟨rfl,rfl⟩
   .obtain⟨j,rfl⟩:∃j,n=j+1:=⟨n-1,by omega⟩;obtain⟨aq,ao⟩:=Xe L j (by omega);exact .inr ⟨L[j],ay _ (ai _),aq,ao⟩
  have aM:=F.few
  have h2:(Qv L n=ByteArray.empty\/zq (Qv L n).data.toList=true)/\0<=YW L n/\YW L n<=2305843009213693952/\(Qv L n).size<=8:=by
   rcases a5 with⟨aq,ao⟩|⟨v,K,aq,ao⟩;.rw [aq,ao];exact⟨.inl rfl,by omega,by omega,by decide⟩
   .have ah:=p.num v K;have J:=p.key v K;rw [aq,ao];refine⟨.inr J,by omega,by omega,?_⟩;have:=Qw J;exact this
  refine⟨?_,h2.2.2.2,⟨by omega,by omega⟩⟩;unfold qH;rw [aw,aw (by omega)];rintro(⟨ah,J⟩|⟨ah,J⟩)
  .rcases ba with R|R;.exact ah R
   .rw [R] at J;cases J
  .rcases h2.1 with R|R;.exact ah R
   .rw [R] at J;cases J
 have a3:Hid _:=F;obtain⟨O,aF,aH,aJ,aB⟩:=yy keep.Tryz.infoVer;have l:Hid (Tryz.prog.info? 94=some O/\O.zero=some (.agg #[.string ⟨#[]⟩,.int .i64 0,.bool false,.int .i64 0])/\O.size=4/\O.bytes=40):=⟨aF,aH,aJ,aB⟩;have H:=M.sto_lt _ _ _ F.sto;change Hid _ at af an az;clear aF aH aJ aB F ay p ba;go_enter Tryz.func185,Tryz.ntmps185;go_wp2_with fail;go_loopw [4,5,6,7] (λbw bm bg t wr=>∃i n:Nat,∃a c S' D',bw=.slice a n c/\bm=.string (Qv L n)/\bg=.int .i64 (YW L n)/\t=.int .i64 (i:Int)/\J4 M w wr bd bs S D V L 50 i n a c S' D') (λ_ _ _ t _=>1001-(intOf t).toNat)
 case atStart=>
  exact⟨0,0,none,0,S,D,rfl,rfl,rfl,rfl,⟨by simp,.inl rfl,a3,λk E=>.inl E,za.refl _ _,eb _,by omega,rfl,keep.Row.nil w,λk E=>(by cases E),λ_=>⟨rfl,rfl⟩⟩⟩
 case round=>
  obtain⟨i,n,a,c,S',D',rfl,rfl,rfl,rfl,d⟩:=hrel;have aY:=d.ni;have bz:=d.nlt;have br:=d.reads1;have Y:n<=L.length:=by omega
  have bC:(i:Int)<=1000:=by omega
  have bD:=(d.kept.cell (a:=⟨bo,1,none⟩) a2 (λak=>ak.elim aR aU)).trans aV;obtain⟨aQ,bF,bj⟩:=an.out n Y;have bh:=a3.reads0;have bx:i<=120:=by omega
  change Hid _ at d aQ;clear aY;generalize a7:Qv L n=bu at*;generalize be:YW L n=N at*;have aA:Hid (Qv L n=bu/\YW L n=N):=⟨a7,be⟩;clear a7 be;go_wp2_with fail;refine(A.live wr bd bs S' D' V ByteArray.empty bu N 50 d.fore (by decide) (by unfold maxLen;omega) bj ⟨by omega,by omega⟩).mono ?_;rintro e r ⟨ae,U,bw,G,rfl,m,s,Z,_,am⟩;rw [aQ.out];obtain⟨bf,aE,au⟩:=Z aQ.out;obtain rfl:bf=L.drop n:=aE.unique (by have:=keep.yz.behind af az n Y;rw [aA.1,aA.2] at this;exact this) (eR _);obtain⟨ar,ag,rfl,u,T⟩:=au.at_;have h:=au.more;have aK:((50:Int)).toNat=50:=rfl;rw [aK] at u T h am;simp only [aK];have X:((L.drop n).take 50).length=min 50 (L.length-n):=by rw [aC,aS]
  have ad:Hid _:=cK L n 50;generalize a9:(L.drop n).take 50=C at*;generalize Q:C.length=q at*;have bA:Hid (∀k,(Value.slice ar q ag).ownBlock=some k->wr.heap.size<=k/\¬U k):=λk E=>⟨T k E,am k E⟩;have hld:(L.drop n).length=L.length-n:=aS;rw [hld] at h;have bp:=m.kept.size;change Hid _ at m s u Q;clear Z au aE T am a9 hld;have ab:∀v,(r.alloc (.cells #[v,.bool G] 90)).heap[r.heap.size]? =some (.cells #[v,.bool G] 90 (0,0)):=λv=>ac r _;have aa:Hid (∀aN,(r.alloc aN).ownsRow 0 94 4 (.slice ar q ag) q (qr C)):=λaN=>er u aN;by_cases aM:n=0
  .subst aM;obtain⟨rfl,rfl⟩:=d.nil rfl
   cases G with
   |true=>
    have y:=ix h.symm;have x:Hid (q=50):=by show q=50;omega
    have aT:((q:Int)==0)=false:=by rw [x.out];rfl
    have aP:q<=50:=by rw [x.out];omega
    have a6:0<q:=by rw [x.out];omega
    have bb:q<L.length-0:=by rw [x.out];exact y
    clear h X;go_wp2_with (refine x9 rfl (.tmp 36) (.tmp 38) 44 rfl 94 O _ 4 40 Tryz.underlying44 l.1 l.2.1 l.2.2.1 l.2.2.2 rfl (by omega) (.slice ar q ag) q (qr C) (by rfl) (by rfl) (aa _) (j6 C) (by unfold maxLen;omega) (by omega) ?_;intro ap z B f b o;have P:B.cell? ⟨r.heap.size,1,none⟩=some (.bool true):=(b.cell_far ⟨r.heap.size,1,none⟩ (by simp) (λe=>by cases e)).trans ((aG _ _ 1 _ _ _ (ab _)).trans rfl);have I:Hid (Jd M w B bd bs S D V L i q ap z U ae):=keep.J4.first d m s H (by have:=m.reads1;omega) ad Q _ ap z f b o;clear f b o;obtain⟨W,j,rfl,bc,bi,a4,a0⟩:=I.last (by omega) (by omega);have aW:(j:Int)<(q:Int):=(by omega);have aX:IntKind.i64.wrap ((q:Int)-1)=(j:Int):=(by rw [show (q:Int)-1=(j:Int) by omega];exact IntWalk.i64_in _ (by omega)));go_roundw
    case rel=>exact⟨i+1,q,_,_,U,ae,rfl,rfl,rfl,by go_num,I.on (by have:=d.ni;have:=x.out;omega) (by omega) (by omega)⟩
    case measure=>simp [intOf];omega
   |false=>
    have y:=iF h.symm;have av:Hid (q=L.length):=by show q=_;omega
    have aZ:q<=50:=by omega
    clear h X y;go_wp2_with (refine x9 rfl (.tmp 36) (.tmp 38) 44 rfl 94 O _ 4 40 Tryz.underlying44 l.1 l.2.1 l.2.2.1 l.2.2.2 rfl (by omega) (.slice ar q ag) q (qr C) (by rfl) (by rfl) (aa _) (j6 C) (by unfold maxLen;omega) (by omega) ?_;intro ap z B f b o;have P:B.cell? ⟨r.heap.size,1,none⟩=some (.bool false):=(b.cell_far ⟨r.heap.size,1,none⟩ (by simp) (λe=>by cases e)).trans ((aG _ _ 1 _ _ _ (ab _)).trans rfl);have I:Hid (Jd M w B bd bs S D V L i q ap z U ae):=keep.J4.first d m s H (by have:=m.reads1;omega) ad Q _ ap z f b o;clear f b o);go_ret2;exact I.done (by omega) av af.out
  .obtain⟨al,rfl⟩:∃al,ar=some ⟨al,0,none⟩:=by
    rcases u.2 with⟨a1,a5⟩|⟨g,bl,bq,K,_⟩;.omega
    .cases K;exact⟨g,rfl⟩
   have aI:Hid (∀k,(Value.slice a n c).ownBlock=some k->k<r.heap.size):=λk E=>by have ax:wr.ownsRow 0 94 4 (.slice a (L.take n).length c) (L.take n).length (qr (L.take n)):=d.row;rw [aC,a8 Y] at ax;have:=(ax.lt k E).2;omega
   have aL:Hid (∀aN,(r.alloc aN).ownsRow 0 94 4 (.slice a n c) n (qr (L.take n))):=λaN=>er (by
    have ax:wr.ownsRow 0 94 4 (.slice a (L.take n).length c) (L.take n).length (qr (L.take n)):=d.row;rw [aC,a8 Y] at ax;refine m.kept.owns ax (λk E ak=>?_);have ah:=d.new k E;rcases ak with ak|ak;.exact ah.2 ak
    .omega) aN
   cases G with
   |true=>
    have y:=ix h.symm;have x:Hid (q=50):=by show q=50;omega
    have aT:((q:Int)==0)=false:=by rw [x.out];rfl
    have aP:q<=50:=by rw [x.out];omega
    have a6:0<q:=by rw [x.out];omega
    have bb:q<L.length-n:=by rw [x.out];exact y
    clear h X;go_wp2_with (refine wpList_append_lies _ rfl (.tmp 36) (.tmp 38) 44 rfl 0 94 O _ 4 40 Tryz.underlying44 l.1 l.2.1 l.2.2.1 l.2.2.2 rfl (by omega) (.slice a n c) n (qr (L.take n)) (by rfl) (aL _) ⟨al,0,none⟩ q ag (qr C) (by rfl) (by rw [gC,Q.out]) (by exact(aa _).cells (g:=al) rfl) (j6 C) (by omega) (by unfold maxLen;omega) (by omega) (aj _) (r.heap.size+1) (by simp) ?_;intro W z B f b o aO;have P:B.cell? ⟨r.heap.size,1,none⟩=some (.bool true):=(b.cell_far ⟨r.heap.size,1,none⟩ (by simp) (λe=>Nat.lt_irrefl _ (aI _ e.symm))).trans ((aG _ _ 1 _ _ _ (ab _)).trans rfl);have I:Hid (Jd M w B bd bs S D V L i (n+q) (some ⟨W,0,none⟩) z U ae):=keep.J4.next d m s H (by have:=m.reads1;omega) ad Q (by omega) _ W z f b o;clear f b o;obtain⟨bk,j,bn,bc,bi,a4,a0⟩:=I.last (by omega) (by omega);obtain rfl:W=bk:=(by simpa using bn);have aW:(j:Int)<(n:Int)+(q:Int):=(by omega);have aX:IntKind.i64.wrap ((n:Int)+(q:Int)-1)=(j:Int):=(by rw [show (n:Int)+(q:Int)-1=(j:Int) by omega];exact IntWalk.i64_in _ (by omega)));go_roundw
    case rel=>exact⟨i+1,n+q,_,_,U,ae,rfl,rfl,rfl,by go_num,I.on (by have:=d.ni;have:=x.out;omega) (by omega) (by omega)⟩
    case measure=>simp [intOf];omega
   |false=>
    have y:=iF h.symm;have av:Hid (n+q=L.length):=by show n+q=_;omega
    have aZ:q<=50:=by omega
    have bE:0<q:=by omega
    have bB:n+q<=L.length:=by omega
    clear h X y;go_wp2_with (refine wpList_append_lies _ rfl (.tmp 36) (.tmp 38) 44 rfl 0 94 O _ 4 40 Tryz.underlying44 l.1 l.2.1 l.2.2.1 l.2.2.2 rfl (by omega) (.slice a n c) n (qr (L.take n)) (by rfl) (aL _) ⟨al,0,none⟩ q ag (qr C) (by rfl) (by rw [gC,Q.out]) (by exact(aa _).cells (g:=al) rfl) (j6 C) (by omega) (by unfold maxLen;omega) (by omega) (aj _) (r.heap.size+1) (by simp) ?_;intro W z B f b o aO;have P:B.cell? ⟨r.heap.size,1,none⟩=some (.bool false):=(b.cell_far ⟨r.heap.size,1,none⟩ (by simp) (λe=>Nat.lt_irrefl _ (aI _ e.symm))).trans ((aG _ _ 1 _ _ _ (ab _)).trans rfl);have I:Hid (Jd M w B bd bs S D V L i (n+q) (some ⟨W,0,none⟩) z U ae):=keep.J4.next d m s H (by have:=m.reads1;omega) ad Q (by omega) _ W z f b o;clear f b o);go_ret2;exact I.done (by omega) av af.out
end law
namespace law
open keep (Row)
def J5(u v:zB):Prop:=u.key=v.key/\u.num=v.num/\u.mark=v.mark/\u.body.length=v.body.length
theorem J5.refl(v:zB):J5 v v:=⟨rfl,rfl,rfl,rfl⟩
section
variable {w:World} {F G:Nat->Prop} {ib:Nat} {us:List zB} {last:Int} {a:Option Addr} {c:Nat} {L:List zB}
theorem za.drewN0(w:World)(n:Nat):za (λ_=>False) w (w.drewN n):=kD
theorem Qx(b:zG w F G ib us last)(i:L.length≠us.length):
 Calls Tryz.prog 186 #[.slice a L.length c,.pointer (some ⟨ib,0,none⟩)] w λe w'=>e=.returned (.bool false)/\w'=w:=by
 obtain⟨j,d,k,h⟩:=b;have g:=h.c0;have f:((L.length:Int) !=(us.length:Int))=true:=by simp;omega
 clear h;go_enter Tryz.func186,Tryz.ntmps186;go_wp2;go_ret;exact⟨rfl,rfl⟩
theorem gD(ar:zG w F G ib us last)(C:Row w a c L)(am:L.length=us.length)(aR:us.length<=6001)(f:∀v∈L,∃j,∃h:j<us.length,J5 us[j] v)(T:∀v∈us,v.body.length<=300):
 Calls Tryz.prog 186 #[.slice a L.length c,.pointer (some ⟨ib,0,none⟩)] w λe w'=>e=.returned (.bool true)/\za (λ_=>False) w w':=by
 have au:Hid (Row w a c L):=C;have ag:Hid _:=f;obtain⟨aD,aq,aE,h⟩:=ar;have N:=h.c0;have ap:((L.length:Int) !=(us.length:Int))=false:=by simp;omega
 have af:Hid _:=h;have A:=h.lt;have aw:L.length<=6001:=by omega
 change Hid _ at T;clear C f h am;go_enter Tryz.func186,Tryz.ntmps186;go_wp2;go_loopw [5] (λt wr=>∃i:Nat,i<=L.length/\t=.int .i64 i/\za (λ_=>False) w wr) (λt _=>L.length-(intOf t).toNat)
 case atStart=>exact⟨0,aj _,rfl,za.refl _ _⟩
 case round=>
  obtain⟨i,aI,rfl,I⟩:=hrel;have ab:Hid _:=I;have ah:=(I.cell (a:=⟨ib,0,none⟩) A (λd=>d)).trans N;clear I;by_cases P:i<L.length
  .have az:(i:Int)<(L.length:Int):=by omega
   have V:Hid (∃j,∃h:j<us.length,J5 us[j] L[i]):=ag.out _ (ai P);obtain⟨q,rfl,m,Q⟩:=au.cells (by omega);obtain⟨Z,aa,W,U⟩:=Q i P;generalize L[i]=v at*;clear Q;go_wp2;go_loopw [6,7] (λb t ak=>∃k:Nat,k<=us.length/\t=.int .i64 k/\za (λ_=>False) w ak/\∃D:Bool,b=.bool D/\((∃j,∃h:j<us.length,j<k/\J5 us[j] v)->D=true)) (λ_ t _=>us.length-(intOf t).toNat)
   case atStart=>exact⟨0,aj _,rfl,ab,false,rfl,λ⟨j,h,z,_⟩=>absurd z (by omega)⟩
   case round=>
    obtain⟨k,I,rfl,l,D,rfl,x⟩:=hrel;have an:=(l.cell (a:=⟨ib,0,none⟩) A (λd=>d)).trans N;have R:=(l.cell (a:=⟨q,i*4,none⟩) m (λd=>d)).trans Z;have Y:=(l.cell (a:=⟨q,i*4+1,none⟩) m (λd=>d)).trans aa;have ae:=(l.cell (a:=⟨q,i*4+2,none⟩) m (λd=>d)).trans W;have S:=(l.cell (a:=⟨q,i*4+3,none⟩) m (λd=>d)).trans U;change Hid _ at x l;by_cases H:k<us.length
    .have ax:(k:Int)<(us.length:Int):=by omega
     obtain⟨aM,rfl⟩:=af.rowAt (by omega);obtain⟨aF,aL,aQ,J,K,aB,_⟩:=(af.kept l nF nF).cells k H;have X:=T.out _ (ai H)
     have M:Hid (∀r,(J5 us[k] v->r=true)->(D=true->r=true)->(∃j,∃h:j<us.length,j<k+1/\J5 us[j] v)->r=true):=λr E h2 ⟨j,z,ay,s⟩=>by
      by_cases e:j=k;.subst e;exact E s
      .exact h2 (x ⟨j,z,by omega,s⟩)
     clear x;generalize us[k]=u at*;clear X;go_wp2;have p:=ac wr (.cells #[.string u.key,.int .i64 u.num,.bool u.mark,.slice J u.body.length K] 123);have O:za (λ_=>False) wr (wr.alloc (.cells #[.string u.key,.int .i64 u.num,.bool u.mark,.slice J u.body.length K] 123)):=za.alloc _ _ _;generalize wr.alloc (.cells #[.string u.key,.int .i64 u.num,.bool u.mark,.slice J u.body.length K] 123)=o at*;have g:Hid _:=l.trans O iL;have aO:o.cell? ⟨wr.heap.size,0,none⟩=some (.string u.key):=(aG o _ 0 _ _ _ p).trans rfl;have aH:o.cell? ⟨wr.heap.size,1,none⟩=some (.int .i64 u.num):=(aG o _ 1 _ _ _ p).trans rfl;have aN:o.cell? ⟨wr.heap.size,2,none⟩=some (.bool u.mark):=(aG o _ 2 _ _ _ p).trans rfl;have aJ:o.cell? ⟨wr.heap.size,3,none⟩=some (.slice J u.body.length K):=(aG o _ 3 _ _ _ p).trans rfl;have aS:=(g.cell (a:=⟨q,i*4,none⟩) m (λd=>d)).trans Z;have aP:=(g.cell (a:=⟨q,i*4+1,none⟩) m (λd=>d)).trans aa;have aC:=(g.cell (a:=⟨q,i*4+2,none⟩) m (λd=>d)).trans W;have aA:=(g.cell (a:=⟨q,i*4+3,none⟩) m (λd=>d)).trans U;clear p O R Y ae S
     cases D with
     |true=>
      go_quiet (fail);go_wp2;go_roundw
      case rel=>exact⟨k+1,by omega,by go_num,g.trans (za.drewN0 _ _) fE,true,rfl,λ_=>rfl⟩
      case measure=>simp [intOf];omega
     |false=>
      by_cases E:u.key.toList=v.key.toList
      .by_cases h2:u.num=v.num
       .have al:(u.num==v.num)=true:=by simp [h2]
        by_cases y:u.mark=v.mark
        .have av:(u.mark==v.mark)=true:=by simp [y]
         by_cases B:(u.body.length:Int)=(v.body.length:Int)
         .have ao:((u.body.length:Int)==(v.body.length:Int))=true:=by simp [B]
          clear h2 y B;go_quiet (fail);go_wp2;go_roundw
          case rel=>exact⟨k+1,by omega,by go_num,g.trans (za.drewN0 _ _) fE,true,rfl,λ_=>rfl⟩
          case measure=>simp [intOf];omega
         .have ao:((u.body.length:Int)==(v.body.length:Int))=false:=by simpa using B
          have n:Hid (¬J5 u v):=λf=>B (by rw [f.2.2.2]);clear h2 y B;go_quiet (fail);go_wp2;go_roundw
          case rel=>exact⟨k+1,by omega,by go_num,g.trans (za.drewN0 _ _) fE,false,rfl,M false (λf=>absurd f n) id⟩
          case measure=>simp [intOf];omega
        .have av:(u.mark==v.mark)=false:=by simpa using y
         have n:Hid (¬J5 u v):=λf=>y f.2.2.1;clear h2 y;go_quiet (fail);go_wp2;go_roundw
         case rel=>exact⟨k+1,by omega,by go_num,g.trans (za.drewN0 _ _) fE,false,rfl,M false (λf=>absurd f n) id⟩
         case measure=>simp [intOf];omega
       .have al:(u.num==v.num)=false:=by simpa using h2
        have n:Hid (¬J5 u v):=λf=>h2 f.2.1;clear h2;go_quiet (fail);go_wp2;go_roundw
        case rel=>exact⟨k+1,by omega,by go_num,g.trans (za.drewN0 _ _) fE,false,rfl,M false (λf=>absurd f n) id⟩
        case measure=>simp [intOf];omega
      .have aK:(u.key.toList==v.key.toList)=false:=by simpa using E
       have n:Hid (¬J5 u v):=λf=>E (qP.2 f.1);clear E;go_quiet (fail);go_wp2;go_roundw
       case rel=>exact⟨k+1,by omega,by go_num,g.trans (za.drewN0 _ _) fE,false,rfl,M false (λf=>absurd f n) id⟩
       case measure=>simp [intOf];omega
    .have e:k=us.length:=by omega
     subst e
     have ad:=x.out (by
      obtain⟨j,z,s⟩:=V.out
      exact⟨j,z,z,s⟩)
     subst ad;go_wp2;go_roundw
     case rel=>exact⟨i+1,by omega,by go_num,l⟩
     case measure=>simp [intOf];omega
  .have e:i=L.length:=by omega
   subst e;go_wp2;go_ret;exact⟨rfl,ab⟩
end
theorem gE{L us:List zB}(a:L.Perm us):∀v∈L,∃j,∃h:j<us.length,J5 us[j] v:=λv c=>by
 obtain⟨j,b,e⟩:=ed (a.subset c);exact⟨j,b,by rw [e];exact J5.refl v⟩
set_option maxRecDepth 60000 in
theorem Qy(w:World)(bo:Nat)(h:zQ)(o:zp w bo h)(ib:Nat)(U:h.is=qu ib)(f:ByteArray)(b:Bool)(body:List UInt8)(B:Option Addr)(N:Nat)(ar:h.k0=.string f)(h2:h.k2=.bool b)(ap:h.k3=.slice B body.length N)(R:Nat->Prop)(aH:∀k,R k->k<w.heap.size/\k≠bo)(vs:List zB)(last n:Int)(aC:zG w R R ib vs last)(al:zL w R B body)(aP:last<n)(a6:n<=h.told+h.died)(a9:0<=h.told/\h.told<=1000000000000000000)(be:0<=h.died/\h.died<=1000000000000000000)(a:Option Addr)(c:Nat)(L:List zB)(E:Row w a c L)(G:L.Perm (vs++[⟨f,n,b,body⟩]))(M:∀v∈vs,v.num<=last)(O:∀v∈vs,v.body.length<=300)(ao:body.length<=300)(aI:vs.length<=6000):
 Calls Tryz.prog 187 #[.pointer (some ⟨bo,0,none⟩),.slice a L.length c] w λe w'=>e=.returned (.bool true)/\∃am,zp w' bo {h with is:=qu am}/\zG w' (λk=>R k\/(w.heap.size<=k/\k<w'.heap.size)) (λk=>R k\/(w.heap.size<=k/\k<w'.heap.size)) am (vs++[⟨f,n,b,body⟩]) n/\za (λk=>k=bo) w w':=by
 have Z:L.length=vs.length+1:=by rw [G.length_eq];simp
 have ac:=o.c2;have I:w.cell? ⟨bo,4,none⟩=some h.k0:=o.at_ rfl;have K:w.cell? ⟨bo,6,none⟩=some h.k2:=o.at_ rfl;have D:w.cell? ⟨bo,7,none⟩=some h.k3:=o.at_ rfl;have a5:w.cell? ⟨bo,8,none⟩=some (.int .i64 h.died):=o.at_ rfl;have a4:w.cell? ⟨bo,9,none⟩=some (.int .i64 h.told):=o.at_ rfl;have a7:=o.fz 2;rw [U] at ac;rw [ar] at I;rw [h2] at K;rw [ap] at D;unfold qu at ac;have g:=o.lt;have aw:Hid (zG w R R ib vs last):=aC;have ab:Hid (∀k,R k->k<w.heap.size/\k≠bo):=aH;have ag:Hid (zL w R B body):=al;have aE:Hid (Row w a c L):=E;have aO:L.length<=6001:=by omega
 obtain⟨bf,bb,aZ,V⟩:=aC;have aX:=V.c1;have aS:IntKind.i64.wrap (h.told+h.died)=h.told+h.died:=IntWalk.i64_in _ (by omega);change Hid _ at o G M O Z;clear aH al E V U ar h2 ap;go_enter Tryz.func187,Tryz.ntmps187;go_wp2;go_loopw [5] (λt wr=>∃i:Nat,i<=L.length/\t=.int .i64 i/\(∀j (y:j<L.length),j<i->L[j]∈vs)/\∃m,wr=w.drewN m) (λt _=>L.length-(intOf t).toNat)
 case atStart=>exact⟨0,aj _,rfl,λj _ y=>absurd y (by omega),0,rfl⟩
 case round=>
  obtain⟨i,ba,rfl,A,m,rfl⟩:=hrel;change Hid _ at A;by_cases X:i<L.length
  .have a2:(i:Int)<(L.length:Int):=by omega
   obtain⟨aB,rfl,a3,Y⟩:=aE.out.cells (by omega);obtain⟨aL,aM,_,_⟩:=Y i X;clear Y;by_cases u:L[i]∈vs
   .have aA:¬last<L[i].num:=by have:=M.out _ u;omega
    have aW:=decide_eq_false aA
    have ak:Hid (∀j (y:j<L.length),j<i+1->L[j]∈vs):=λj y aQ=>by
     by_cases e:j=i;.subst e;exact u
     .exact A.out j y (by omega)
    clear u;generalize L[i]=v at*;go_wp2;go_quiet (fail);go_wp2;go_quiet (fail);go_wp2;go_roundw
    case rel=>exact⟨i+1,by omega,by go_num,ak.out,_,rfl⟩
    case measure=>simp [intOf];omega
   .have W:L[i]=⟨f,n,b,body⟩:=by
     rcases ah.1 (G.out.subset (ai X)) with h|h;.exact absurd h u
     .exact az.1 h
    rw [W] at aL aM;clear W u A;go_wp2;go_quiet (fail);go_wp2;go_quiet (fail);go_wp2_with fail;refine(uy (w.drewN _) R R ib vs last (aw.out.kept (za.drewN0 w _) nF nF) (by omega)).mono ?_;rintro e p ⟨rfl,P,r⟩;have q:Hid (za (λ_=>False) w p):=⟨r.os,r.tape,r.output,r.size,r.block⟩;have ax:Hid (zG p (λk=>w.heap.size<=k) R w.heap.size vs last):=P;have aV:=q.out.size;have bc:=(q.out.cell (a:=⟨bo,4,none⟩) g (λH=>H)).trans I;have bi:=(q.out.cell (a:=⟨bo,6,none⟩) g (λH=>H)).trans K;have bg:=(q.out.cell (a:=⟨bo,7,none⟩) g (λH=>H)).trans D;clear P r;go_wp2_with fail;go_region_held3 (λw'=>w'.cell? ⟨bo,4,none⟩=some (.string f)/\w'.cell? ⟨bo,6,none⟩=some (.bool b)/\w'.cell? ⟨bo,7,none⟩=some (.slice B body.length N)) (go_keep) ((go_at_call 95;refine(di p.drew (λk=>w.heap.size<=k) R R w.heap.size vs last (ax.out.kept (za.drew (λ_=>False) p) nF nF) (λk bh h2=>by have:=(ab.out k h2).1;omega) (by omega) f n b B N body ((ag.out.kept q.out nF).kept (za.drew (λ_=>False) p) nF) (by omega)).mono ?_;rintro e C ⟨rfl,ad,T⟩;have s:Hid (za (λk=>w.heap.size<=k) w C):=((q.out.mono fE).trans (za.drew (λk=>w.heap.size<=k) p) (λk d=>.inl d)).trans T (λk d=>.inl d);have Q:Hid (zG C (λk=>w.heap.size<=k\/p.heap.size<=k) (λk=>R k\/p.heap.size<=k) w.heap.size (vs++[⟨f,n,b,body⟩]) (max last n)):=ad;have a0:C.cell? ⟨bo,4,none⟩=some (.string f):=(s.out.cell (a:=⟨bo,4,none⟩) g (by show ¬w.heap.size<=bo;omega)).trans I;have aT:C.cell? ⟨bo,6,none⟩=some (.bool b):=(s.out.cell (a:=⟨bo,6,none⟩) g (by show ¬w.heap.size<=bo;omega)).trans K;have a8:C.cell? ⟨bo,7,none⟩=some (.slice B body.length N):=(s.out.cell (a:=⟨bo,7,none⟩) g (by show ¬w.heap.size<=bo;omega)).trans D;clear ad T))
    have an:Hid (Row C (some ⟨aB,0,none⟩) c L):=aE.out.kept s.out (λk d bd=>by have e:aB=k:=by simpa [Value.ownBlock] using d
                                                                               omega)
    go_wp2_with fail
    refine(gD Q.out an.out (by rw [Z.out];simp) (by simp;omega) (gE G.out) (λv aJ=>by
     rcases ah.1 aJ with h|h;.exact O.out v h
     .rw [az.1 h];exact ao)).mono ?_
    rintro e x ⟨rfl,J⟩;have l:Hid _:=s.out.trans J fE;have F:=Q.out.kept J nF nF
    have aq:Hid (zG x (λk=>w.heap.size<=k\/p.heap.size<=k) (λk=>R k\/p.heap.size<=k) w.heap.size (vs++[⟨f,n,b,body⟩]) n):=by rw [show max last n=n by omega] at F;exact F
    have z:=(l.out.block bo g (by omega)).trans o.out.head;have aU:x.cell? ⟨bo,2,none⟩=some h.is:=(aG x bo 2 _ _ _ z).trans rfl;have aY:=aa x bo 2 _ _ z;have au:Hid (x.heap[bo]? =some (.cells h.cells 125 (0,0))):=z;clear J F z;go_wp2;go_ret;have ae:=za.setCell (S:=λk=>k=bo) x ⟨bo,2,none⟩ (.pointer (some ⟨w.heap.size,0,none⟩)) rfl;have aR:=l.out.size;have aK:=ae.size;refine⟨rfl,w.heap.size,⟨(heap_setCell_same x bo 2 _ _ _ au.out).trans rfl⟩,?_,?_⟩
    .refine(aq.out.kept ae (λk d e=>by have ay:k=bo:=e;omega) (λk d e=>by
      have ay:k=bo:=e;rcases d with d|d;.exact(ab.out k d).2 ay
      .omega)).mono (λk d af=>.inr ⟨by omega,af⟩) (λk d af=>d.imp id (λh=>⟨by omega,af⟩))
    .refine⟨l.out.os,l.out.tape,l.out.output,aD l.out.size aK,λk d aN=>(ae.block k (by omega) aN).trans (l.out.block k d (by omega))⟩
  .exfalso;obtain⟨j,y,e⟩:=ed (G.out.symm.subset (av vs (List.mem_singleton_self (⟨f,n,b,body⟩:zB))));have aF:=M.out _ (A.out j y (by omega));rw [e] at aF;have a1:n<=last:=aF;omega
structure ye(w:World)(R:Nat->Prop)(h:zQ)(V:qq)(last:Int)(P:qq->Prop):Prop where
 or_:(h.mb=.pointer none/\P=(λU=>U=V))\/ (∃(mb:Nat) (key:ByteArray) (mark:Bool) (body:List UInt8) (a:Option Addr) (num:Int) (c:Nat),h.mb=qu mb/\h.k0=.string key/\h.k1=.int .i64 num/\h.k2=.bool mark/\h.k3=.slice a body.length c/\key≠ByteArray.empty/\zL w R a body/\V.n0+1<=h.told+h.died/\P=(λU=>U=V\/U=V.add key mark body))\/ ∃(mb:Nat) (us:List zB) (num:Int) (mark:Bool) (a:Option Addr) (n c:Nat),h.mb=qu mb/\h.k0=.string ByteArray.empty/\h.k1=.int .i64 num/\h.k2=.bool mark/\h.k3=.slice a n c/\zG w R R mb us last/\us.length+1=V.vs.length/\(∀v∈us,v∈V.vs)/\P=(λU=>U=V\/U=⟨us,V.n0⟩)
section
variable {w:World} {R:Nat->Prop} {h:zQ} {V:qq} {last:Int}
theorem ye.still(a:h.mb=.pointer none):ye w R h V last (λU=>U=V):=⟨.inl ⟨a,rfl⟩⟩
theorem ye.put(mb:Nat)(d:ByteArray)(b:Bool)(body:List UInt8)(a:Option Addr)(e:Int)(c:Nat)(f:h.mb=qu mb)(j:h.k0=.string d)(i:h.k1=.int .i64 e)(h2:h.k2=.bool b)(k:h.k3=.slice a body.length c)(g:d≠ByteArray.empty)(l:zL w R a body)(m:V.n0+1<=h.told+h.died):ye w R h V last (λU=>U=V\/U=V.add d b body):=⟨.inr (.inl ⟨mb,d,b,body,a,e,c,f,j,i,h2,k,g,l,m,rfl⟩)⟩
theorem ye.erase(mb:Nat)(us:List zB)(d:Int)(b:Bool)(a:Option Addr)(n c:Nat)(e:h.mb=qu mb)(j:h.k0=.string ByteArray.empty)(g:h.k1=.int .i64 d)(h2:h.k2=.bool b)(k:h.k3=.slice a n c)(f:zG w R R mb us last)(l:us.length+1=V.vs.length)(i:∀v∈us,v∈V.vs):ye w R h V last (λU=>U=V\/U=⟨us,V.n0⟩):=⟨.inr (.inr ⟨mb,us,d,b,a,n,c,e,j,g,h2,k,f,l,i,rfl⟩)⟩
theorem ye.elim{motive:(P:qq->Prop)->ye w R h V last P->Prop}(still:∀hm,motive _ (.still hm))(put:∀mb key mark body a num c hm h0 h1 h2 h3 hk hb hn,motive _ (.put mb key mark body a num c hm h0 h1 h2 h3 hk hb hn))(erase:∀mb us num mark a n c hm h0 h1 h2 h3 hr hu hs,motive _ (.erase mb us num mark a n c hm h0 h1 h2 h3 hr hu hs)){P:qq->Prop}(t:ye w R h V last P):motive P t:=by
 rcases t with⟨⟨hm,rfl⟩|⟨_,_,_,_,_,_,_,hm,h0,h1,h2,h3,hk,hb,hn,rfl⟩|⟨_,_,_,_,_,_,_,hm,h0,h1,h2,h3,hr,hu,hs,rfl⟩⟩;.exact still hm
 .exact put _ _ _ _ _ _ _ hm h0 h1 h2 h3 hk hb hn
 .exact erase _ _ _ _ _ _ _ hm h0 h1 h2 h3 hr hu hs
end
section
variable {M:zd} {w w':World} {X S S' R R' T:Nat->Prop} {bo bd bs ib t:Nat} {h h':zQ} {D D':Dk} {V U:qq} {last:Int} {P:qq->Prop}
theorem xy.split(r:xy M w R h D V last):∃P,ye w R h V last P/\M.Could D P:=by
 cases r using xy.elim with
 |put mb j b body a d c g e i h2 f q l could p=>exact⟨_,.put mb j b body a d c g e i h2 f q l p,could⟩
 |erase mb us d b a n c g e i h2 f k m o could=>exact⟨_,.erase mb us d b a n c g e i h2 f k m o,could⟩
theorem qI.split(i:qI M w X S R bo bd h D V last):∃P,ye w R h V last P/\M.Could D P:=by
 cases i using qI.elim with
 |live bs b e f g d c shut mb live=>exact⟨_,.still mb,live.could⟩
 |shut bs b e f g d c shut torn=>exact torn.split
 |gone b torn=>
  rcases torn with⟨a,h2⟩|a;.exact⟨_,.still a,h2⟩
  .exact a.split
theorem ye.join(s:ye w R h V last P)(c:M.Could D P):(h.mb=.pointer none/\M.Could D (λU=>U=V))\/xy M w R h D V last:=by
 cases s using ye.elim with
 |still d=>exact .inl ⟨d,c⟩
 |put mb k b body a e j d f i h2 g r m q=>exact .inr (.put mb k b body a e j d f i h2 g r m c q)
 |erase mb us e b a n j d f i h2 g l o p=>exact .inr (.erase mb us e b a n j d f i h2 g l o p c)
theorem ye.kept(u:ye w R h V last P)(k:za T w w')(g:∀i,R i->¬T i):ye w' R h V last P:=by
 cases u using ye.elim with
 |still c=>exact .still c
 |put mb m b body a d l c e j h2 f t q o=>exact .put mb m b body a d l c e j h2 f t (q.kept k g) o
 |erase mb us d b a n l c e j h2 f p r s=>exact .erase mb us d b a n l c e j h2 f (p.kept k g g) r s
theorem ye.head(A:ye w R h V last P)(e:h'.mb=h.mb/\h'.k0=h.k0/\h'.k1=h.k1/\h'.k2=h.k2/\h'.k3=h.k3/\h'.told=h.told/\h'.died=h.died):ye w R h' V last P:=by
 obtain⟨j,m,p,q,l,v,s⟩:=e
 cases A using ye.elim with
 |still d=>exact .still (j.trans d)
 |put mb o b body a c k d f g h2 i u t r=>exact .put mb o b body a c k (j.trans d) (m.trans f) (p.trans g) (q.trans h2) (l.trans i) u t (by rw [v,s];exact r)
 |erase mb us c b a n k d f g h2 i x y z=>exact .erase mb us c b a n k (j.trans d) (m.trans f) (p.trans g) (q.trans h2) (l.trans i) x y z
structure uC (M:zd) (w w':World) (X:Nat->Prop) (bo t:Nat) (e:Ending):Prop where
 ret:e=.returned (.bool true)
 one:∃X',One M w' X' bo t/\∀k,X' k->X k\/w.heap.size<=k
 kept:za X w w'
theorem uC.step{e:Ending}(b:uC M w w' X bo t e):Stepped M w w' X bo t e:=⟨b.ret,by
 obtain⟨X',a,h2⟩:=b.one
 exact⟨X',a.later (Nat.le_succ t),h2⟩,b.kept⟩
structure Gj (M:zd) (w:World) (X:Nat->Prop) (bo t:Nat) (h:zQ) (bd bs:Nat) (D:Dk) (S R:Nat->Prop) (ib:Nat) (V U:qq) (last:Int):Prop where
 head:zp w bo h
 hd:h.d=qu bd
 hs:h.s=qu bs
 his:h.is=qu ib
 fore:xI M w bd bs S D U
 ref:zG w R R ib V.vs last
 sX:∀k,S k->X k
 rX:∀k,R k->X k/\¬S k/\k≠bo/\k≠bs
 bX:X bo
 bsX:X bs
 bS:¬S bo
 bb:bs≠bo
 xlt:∀k,X k->k<w.heap.size
 last0:last<=V.n0
 lastv:∀v∈V.vs,v.num<=last
 told0:0<=h.told
 died0:0<=h.died
 n0t:V.n0<=h.told+h.died
 tt:h.told+h.died<=t
 good:Good V
 reads:D.reads<=2000
theorem Gj.done(b:Gj M w X bo t h bd bs D S R ib V U last){ib':Nat}{last':Int}(k:za (λk=>S k\/k=bs\/k=bo) w w')(r:zp w' bo h')(y:h'.d=h.d/\h'.s=h.s/\h'.is=qu ib'/\h'.mb=.pointer none/\h'.shut=false/\h'.told=h.told/\h'.died=h.died)
 (disk:zg w' bd S' D') (e:∀k,S' k->S k\/w.heap.size<=k) (q:M.Sto w' bs (some bd)) (c:M.Live D' U) (fu:M.Fu D'.fuse) (f:0<=D'.reads) (reads1:D'.reads<=3000000) (ref:zG w' R' R' ib' U.vs last') (s:∀k,R' k->(R k\/w.heap.size<=k)/\k<w'.heap.size/\¬S' k) (g:last'<=U.n0) (i:∀v∈U.vs,v.num<=last') (o:U.n0<=h.told+h.died):
 (∃X',One M w' X' bo t/\∀k,X' k->X k\/w.heap.size<=k)/\za X w w':=by
 have n:=b.xlt bo b.bX;have hbs:=b.xlt bs b.bsX;have G:=k.size;obtain⟨A,x,B,C,u,m,l⟩:=y;have p:∀j,j<w.heap.size->¬S j->¬S' j:=λj d h2 z=>(e j z).elim h2 (λF=>by omega);have E:=b.tt;refine⟨⟨λk=>X k\/(w.heap.size<=k/\k<w'.heap.size),⟨h',bd,D',S',R',ib',U,last',r,A.trans b.hd,B,disk,ref,λj a=>?_,λj a=>?_,.inl b.bX,p bo n b.bS,λj a=>?_,g,i,by rw [m];exact b.told0,by rw [l];exact b.died0,by rw [m,l];exact o,by rw [m,l];omega,f,by omega,fu,c.good,c.big,.live bs (x.trans b.hs) (.inl b.bsX) (p bs hbs b.fore.apart) (λa=>?_) b.bb q u C c⟩,λj a=>a.imp id (λh=>h.1)⟩,k.mono (λj a=>?_)⟩;.exact(e j a).elim (λh=>.inl (b.sX j h)) (λh=>.inr ⟨h,disk.lt j a⟩)
 .have d:=s j a;refine⟨d.1.elim (λh=>.inl (b.rX j h).1) (λh=>.inr ⟨h,d.2.1⟩),d.2.2,?_⟩;exact d.1.elim (λh=>(b.rX j h).2.2.1) (λh=>by omega)
 .rcases a with a|a;.have:=b.xlt j a;omega
  .exact a.2
 .exact(s bs a).1.elim (λh=>(b.rX bs h).2.2.2 rfl) (λh=>by omega)
 .rcases a with a|rfl|rfl;.exact b.sX j a
  .exact b.bsX
  .exact b.bX
end
theorem Xf{vs L:List zB}(h:yz vs ByteArray.empty ByteArray.empty 0 L):L.Perm vs:=by
 have:=h.perm
 rwa [eU.2 (λv _=>by unfold qW;simp)] at this
section
variable {M:zd} {w w':World} {X S S' R R' T:Nat->Prop} {bo bd bs ib t:Nat} {h h':zQ} {D D':Dk} {V U:qq} {last:Int} {P:qq->Prop}
theorem Gj.clear(a:Gj M w X bo t h bd bs D S R ib V U last){v:Value}(j:Nat){h2:zQ}(e:h2.cells=h.cells.setIfInBounds j v)(m:h2.d=h.d/\h2.s=h.s/\h2.is=h.is/\h2.told=h.told/\h2.died=h.died):Gj M (w.setCell ⟨bo,j,none⟩ v) X bo t h2 bd bs D S R ib V U last/\za (λk=>k=bo) w (w.setCell ⟨bo,j,none⟩ v):=by
 have k:=za.setCell (S:=λk=>k=bo) w ⟨bo,j,none⟩ v rfl;obtain⟨g,n,l,f,d⟩:=m;refine⟨⟨a.head.set j v h2 e,g.trans a.hd,n.trans a.hs,l.trans a.his,⟨a.fore.disk.kept k (λi b c=>a.bS (by rw [<-show i=bo from c];exact b)),a.fore.apart,M.sto_kept _ _ _ _ _ a.fore.sto k (λc=>a.bb c),a.fore.live,a.fore.fuse,a.fore.reads0,a.fore.reads1,a.fore.few⟩,a.ref.kept k (λi b c=>(a.rX i b).2.2.1 c) (λi b c=>(a.rX i b).2.2.1 c),a.sX,a.rX,a.bX,a.bsX,a.bS,a.bb,λi b=>ay (a.xlt i b) k.size,a.last0,a.lastv,by rw [f];exact a.told0,by rw [d];exact a.died0,by rw [f,d];exact a.n0t,by rw [f,d];exact a.tt,a.good,a.reads⟩,k⟩
set_option maxRecDepth 60000 in
theorem J6(A:xD M)(ai:Gj M w X bo t h bd bs D S R ib V U last)(a8:ye w R h V last P)(aW:P U)(bF:t<=4398046511104):
 Calls Tryz.prog 150 #[.pointer (some ⟨bo,0,none⟩)] w λe w'=>uC M w w' X bo t e:=by
 have bw:=ai.xlt bo ai.bX;have bi:=ai.head.c10;have bh:=ai.head.fz 10;have am:=ai.head.c3;obtain⟨q,k1⟩:=ai.clear (v:=.bool false) 10 (h2:={h with shut:=false }) rfl ⟨rfl,rfl,rfl,rfl,rfl⟩;have d:Hid (Gj M (w.setCell ⟨bo,10,none⟩ (.bool false)) X bo t {h with shut:=false} bd bs D S R ib V U last):=q;have ab:Hid (za (λk=>k=bo) w (w.setCell ⟨bo,10,none⟩ (.bool false))):=k1;have ag:Hid _:=(a8.head (h':={h with shut:=false }) ⟨rfl,rfl,rfl,rfl,rfl,rfl,rfl⟩).kept k1 (λi bj y=>(ai.rX i bj).2.2.1 y);have ac:Hid (P U):=aW;have bB:=ai.fore.reads0;have bD:=ai.reads;change Hid _ at ai;clear q k1 a8 aW;by_cases Y:h.mb=.pointer none
 .rw [Y] at am
  have ae:Hid (U=V):=by
   have z:=ag.out;have h2:=ac.out;show U=V
   cases z using ye.elim with
   |still j=>exact h2
   |put mb u f body a N c j G z h2 m b aw aE=>rw [show ({h with shut:=false}:zQ).mb=h.mb from rfl,Y] at j;cases j
   |erase mb us N f a n c j G z h2 m aD aB aA=>rw [show ({h with shut:=false}:zQ).mb=h.mb from rfl,Y] at j;cases j
  go_enter Tryz.func150,Tryz.ntmps150;go_wp2;go_ret;have q:=d.out;have au:=ai.done (R':=R) (ib':=ib) (last':=last) (ab.mono (λk b=>.inr (.inr b))) q.head ⟨rfl,rfl,q.his,Y,rfl,rfl,rfl⟩ q.fore.disk (λk b=>.inl b) q.fore.sto q.fore.live q.fore.fuse (by omega) (by omega) (by rw [ae.out];exact q.ref) (λk b=>⟨.inl b,q.xlt k (q.rX k b).1,(q.rX k b).2.1⟩) (by rw [ae.out];exact q.last0) (by rw [ae.out];exact q.lastv) (by rw [ae.out];exact q.n0t);exact⟨rfl,au.1,au.2⟩
 .obtain⟨mb,J⟩:∃mb,h.mb=qu mb:=by
   have z:=ag.out
   cases z using ye.elim with
   |still j=>exact absurd j Y
   |put mb u f body a N c j G z h2 m b aw aE=>exact⟨mb,j⟩
   |erase mb us N f a n c j G z h2 m aD aB aA=>exact⟨mb,j⟩
  rw [J] at am;unfold qu at am;go_enter Tryz.func150,Tryz.ntmps150;go_wp2_with fail;generalize w.setCell ⟨bo,10,none⟩ (.bool false)=bm at*;have bC:=ab.size;refine(UM M A bm bo bd bs S D U d.fore (by rw [d.head.c1];exact congrArg some d.hs) (by omega) d.bS (λe=>d.bb e.symm) (by omega)).mono ?_;rintro e g ⟨a0,ay,a,c,L,rfl,o,ad,a1,ap,aP⟩;have K:Hid (M.Live a0 U):=ad;have E:Hid (L.Perm U.vs):=Xf a1;have ak:Hid (Row g a c L):=ap;have ax:∀k,R k->¬(S k\/k=bs):=λk b y=>y.elim (d.rX k b).2.1 (d.rX k b).2.2.2;have aX:¬(S bo\/bo=bs):=λy=>y.elim d.bS (λe=>d.bb e.symm);have af:=d.head.kept o.kept aX;have W:Hid (zp g bo {h with shut:=false }):=af;have ao:=d.ref.kept o.kept ax ax;have C:Hid (zG g R R ib V.vs last):=ao;have aU:Hid _:=ag.kept o.kept ax
  have l:Hid (∀k,R k->k<g.heap.size/\¬ay k/\k≠bo):=λk b=>by
   have z:=d.xlt k (d.rX k b).1;have h2:=o.kept.size;refine⟨by omega,λy=>?_,(d.rX k b).2.2.1⟩;rcases o.foot k y with m|m;.exact(d.rX k b).2.1 m
   .omega
  have a6:Hid (¬ay bo/\¬ay bs):=⟨λy=>by
   rcases o.foot bo y with m|m;.exact d.bS m
   .have:=d.xlt bo d.bX;omega,λy=>by
   rcases o.foot bs y with m|m;.exact d.fore.apart m
   .have:=d.xlt bs d.bsX;omega⟩
  have ar:za (λk=>S k\/k=bs\/k=bo) w g:=(ab.mono (λk b=>.inr (.inr b))).trans o.kept (λk b=>.inl (b.elim .inl (λh=>.inr (.inl h))));have bf:bo<g.heap.size:=by have:=o.kept.size;omega
  have bE:=(af.c2).trans (congrArg some d.his);have bH:=(af.c3).trans (congrArg some J);have bk:=o.reads0;have bp:=o.reads1
  have aa:Hid (∀(aj:World) (R':Nat->Prop) (ib':Nat) (last':Int),zp aj bo {h with shut:=false,mb:=.pointer none,is:=qu ib'}->za (λk=>k=bo) g aj->zG aj R' R' ib' U.vs last'->(∀k,R' k->(R k\/g.heap.size<=k)/\k<aj.heap.size)->last'<=U.n0->(∀v∈U.vs,v.num<=last')->U.n0<=h.told+h.died->uC M w aj X bo t (.returned (.bool true))):=λaj R' ib' last' bn aO bq bg be bb ba=>by
   have au:=ai.done (R':=R') (S':=ay) (D':=a0) (ib':=ib') (last':=last') (ar.trans aO (λk b=>.inl (.inr (.inr b)))) bn ⟨rfl,rfl,rfl,rfl,rfl,rfl,rfl⟩ (o.disk.kept aO (λk b e=>a6.1 (by rw [<-show k=bo from e];exact b))) (λk b=>(o.foot k b).imp id (λh=>by omega)) (M.sto_kept _ _ _ _ _ o.sto aO (λe=>d.bb e)) K o.fuse (by omega) (by omega) bq (λk b=>by
    have aQ:=bg k b;have:=ar.size;refine⟨aQ.1.imp id (λh=>by omega),aQ.2,?_⟩;rcases aQ.1 with aY|aY;.exact(l k aY).2.1
    .exact λy=>by have:=o.disk.lt k y;omega) be bb ba
   exact⟨rfl,au.1,au.2⟩
  change Hid _ at o ar;clear ad a1 ap aP ax aX af ao ai ab ag;by_cases H:U=V
  .subst H;go_wp2_with fail;refine(gD C ak E.length_eq (by have:=K.good.few;omega) (gE E) K.good.body).mono ?_;rintro e r ⟨rfl,F⟩;have p:=W.kept F (λaL=>aL);have a2:=(p.c3).trans (congrArg some J);have a9:=p.fz 3;have al:Hid (zp r bo {h with shut:=false }):=p;have aq:Hid _:=F;clear F p;go_wp2;go_ret;have Z:=za.setCell (S:=λk=>k=bo) r ⟨bo,3,none⟩ (.pointer none) rfl;have B:za (λk=>k=bo) g (r.setCell ⟨bo,3,none⟩ (.pointer none)):=(aq.mono fE).trans Z iL;have a5:=B.size;exact aa _ R ib last (al.set 3 _ _ (by show #[h.d,h.s,qu ib,_,_,_,_,_,_,_,_]=_;rw [<-show h.is=qu ib from d.his];rfl)) B (C.kept B (λk b=>(l k b).2.2) (λk b=>(l k b).2.2)) (λk b=>⟨.inl b,by have:=(l k b).1;omega⟩) d.last0 d.lastv d.n0t
  .have a7:=aU.out
   cases a7 using ye.elim with
   |still j=>exact absurd ac H
   |put x u f body aC N aN j G z h2 m b aw aE=>
    obtain rfl:U=V.add u f body:=ac.resolve_left H;have an:Hid (L.length≠V.vs.length):=by show L.length≠_;rw [E.length_eq];simp [qq.add]
    have bc:g.cell? ⟨bo,4,none⟩=some (.string u):=(W.at_ (i:=4) (v:=h.k0) rfl).trans (congrArg some G);have aR:¬u.toList=[]:=λe=>b (qP.1 (by rw [e,eC];rfl));have bt:(u.toList==[])=false:=by simpa using aR
    have aS:Hid (zL g R aC body):=aw;have T:Hid (h.k0=.string u/\h.k2=.bool f/\h.k3=.slice aC body.length aN/\V.n0+1<=h.told+h.died):=⟨G,h2,m,aE⟩;clear j G z h2 m b aw aE H;go_wp2_with fail;refine(Qx (L:=L) C an).mono ?_;rintro e r ⟨rfl,Q⟩;rw [Q];clear Q r;go_wp2_with fail;have s:=d.out;have a3:0<=h.told:=s.told0;have a4:0<=h.died:=s.died0;have bu:h.told+h.died<=t:=s.tt;have br:=s.last0;refine(Qy g bo {h with shut:=false} W ib s.his u f body aC aN T.1 T.2.1 T.2.2.1 R (λk b=>⟨(l k b).1,(l k b).2.2⟩) V.vs last (V.n0+1) C aS (by omega) T.2.2.2 ⟨a3,by show h.told<=_;omega⟩ ⟨a4,by show h.died<=_;omega⟩ a c L ak E s.lastv s.good.body (K.good.body _ (av _ (List.mem_singleton_self _))) s.good.few).mono ?_;rintro e O ⟨rfl,aK,I,aH,aJ⟩;have bA:=(I.c3).trans (congrArg some J);have bz:=I.fz 3;have aV:Hid (zp O bo {h with shut:=false,is:=qu aK }):=I;have aI:Hid (za (λk=>k=bo) g O):=aJ;have aT:Hid (zG O (λk=>R k\/(g.heap.size<=k/\k<O.heap.size)) (λk=>R k\/(g.heap.size<=k/\k<O.heap.size)) aK (V.vs++[⟨u,V.n0+1,f,body⟩]) (V.n0+1)):=aH;clear I aH aJ s;go_wp2;go_ret;have Z:=za.setCell (S:=λk=>k=bo) O ⟨bo,3,none⟩ (.pointer none) rfl;have bI:=aI.size;have a5:=Z.size;have aG:∀k,(R k\/(g.heap.size<=k/\k<O.heap.size))->¬(k=bo):=λk b e=>b.elim (λh=>(l k h).2.2 e) (λh=>by omega)
    exact aa _ (λk=>R k\/(g.heap.size<=k/\k<O.heap.size)) aK (V.n0+1) (aV.set 3 _ _ rfl) (aI.trans Z iL) (aT.kept Z aG aG) (λk b=>⟨b.imp id (λh=>h.1),b.elim (λh=>by have:=(l k h).1;omega) (λh=>by omega)⟩) (eb _) (λv aM=>by
     rcases ah.1 aM with h|h;.have:=d.lastv v h;omega
     .rw [az.1 h];exact eb _) T.2.2.2
   |erase x us N f aC bG aN j G z h2 m aD aB aA=>
    obtain rfl:U=⟨us,V.n0⟩:=ac.resolve_left H
    obtain rfl:x=mb:=by have e:=j.symm.trans J;unfold qu at e;simpa using e
    have an:Hid (L.length≠V.vs.length):=by show L.length≠_;rw [E.length_eq,<-aB];exact λe=>absurd e (by show us.length≠us.length+1;omega)
    have bc:=(W.at_ (i:=4) (v:=h.k0) rfl).trans (congrArg some G);have aF:Hid (zG g R R x us last):=aD;have aZ:Hid (∀v∈us,v∈V.vs):=aA;clear j G z h2 m aD aB aA H;go_wp2_with fail;refine(Qx (L:=L) C an).mono ?_;rintro e r ⟨rfl,Q⟩;rw [Q];clear Q r;go_wp2_with fail;refine(gD (L:=L) aF ak E.length_eq (by have:=K.good.few;have:us.length<=6000:=this;omega) (gE E) K.good.body).mono ?_;rintro e r ⟨rfl,F⟩;have p:=W.kept F (λaL=>aL);have bx:=(p.c2).trans (congrArg some d.his);have a2:r.cell? ⟨bo,3,none⟩=some (.pointer (some ⟨x,0,none⟩)):=(p.c3).trans (congrArg some J);have bv:=p.fz 2;have a9:=p.fz 3;have al:Hid (zp r bo {h with shut:=false }):=p;have aq:Hid (za (λ_=>False) g r):=F;clear F p;go_wp2;go_ret;have bl:=za.setCell (S:=λk=>k=bo) r ⟨bo,2,none⟩ (.pointer (some ⟨x,0,none⟩)) rfl;have I:zp (r.setCell ⟨bo,2,none⟩ (.pointer (some ⟨x,0,none⟩))) bo {h with shut:=false,is:=qu x}:=al.set 2 _ _ rfl;have Z:=za.setCell (S:=λk=>k=bo) (r.setCell ⟨bo,2,none⟩ (.pointer (some ⟨x,0,none⟩))) ⟨bo,3,none⟩ (.pointer none) rfl;have B:=((aq.mono (S':=λk=>k=bo) fE).trans bl iL).trans Z iL;have a5:=B.size;exact aa _ R x last (I.set 3 _ _ rfl) B (aF.kept B (λk b=>(l k b).2.2) (λk b=>(l k b).2.2)) (λk b=>⟨.inl b,by have:=(l k b).1;omega⟩) d.last0 (λv aM=>d.lastv v (aZ v aM)) d.n0t
end
end law
namespace law
structure Vh (M N:zd):Prop where
 could:∀D P,M.Could D P->N.Could D P
 fore:∀w bd bs S D V,xI N w bd bs S D V->xI M w bd bs S D V
 none:∀f,N.Fu f->f≠0
 every:∀f,zD f->M.Fu f
section
variable {M N:zd} {w w':World} {X S S' R R' T:Nat->Prop} {bo bd bs ib t:Nat} {h h':zQ} {D D':Dk} {V U:qq} {last:Int} {P:qq->Prop}
theorem zd.Could.as(c:M.Could D P)(b:D'.bs=D.bs)(a:D'.ps=D.ps):M.Could D' P:=⟨by rw [a];exact c.few,by rw [b];exact c.big,λks=>by rw [b,a];exact c.all ks⟩
theorem zd.Could.fall(c:M.Could D P)(ks:List Bool):M.Could {D with bs:=zn D.bs (sel D.ps ks),ps:=[],fuse:= -1} P:=
 ⟨aj _,by show 64<=(zn D.bs (sel D.ps ks)).length;rw [zC];exact c.big,λ_=>c.all ks⟩
theorem cL(t:yb M)(s:yb N)(l:Vh M N)(h:Bool)(i:zg w bd S D)(o:M.Could D P)(q:M.Fu D.fuse)(r:h=true\/D.fuse= -1)(u:D.reads=0)(m:∀U,P U->U.n0<=2305843009213693952):
 Calls Tryz.prog 35 #[.pointer (some ⟨bd,0,none⟩)] w λe w'=>∃D' S',zg w' bd S' D'/\(∀k,S' k->S k\/w.heap.size<=k)/\za S w w'/\0<=D'.reads/\D'.reads<=2*D.bs.length/\D'.bs.length=D.bs.length/\M.Fu D'.fuse/\
  ((∃bs U,e=.returned (.tuple #[.pointer (some ⟨bs,0,none⟩),.int .i64 0])/\w.heap.size<=bs/\P U/\xI M w' bd bs S' D' U)\/(h=true/\e=.returned (.tuple #[.pointer none,.int .i64 7])/\D'.fuse=0/\M.Could D' P)):=by
 have v:D.bs.length<=1000:=by obtain⟨_,_,_,_,g⟩:=i;exact g.ok.few
 by_cases p:D.fuse= -1
 .refine(s.big w bd S D P i (l.could _ _ o) (by rw [p];exact N.fu_neg) (by omega) (by omega)).mono ?_;rintro e w' ⟨D',S',a,⟨bs,U,rfl,hbs,d,c,f,b⟩|⟨rfl,j,_⟩⟩
  .have g:=a.reads0;have h2:=a.reads1;have F:=l.fore w' bd bs S' D' U ⟨a.disk,d,c,b,a.fuse,by omega,by omega,m U f⟩;exact⟨D',S',a.disk,a.foot,a.kept,by omega,by omega,a.size,F.fuse,.inl ⟨bs,U,rfl,hbs,f,F⟩⟩
  .exact absurd j (l.none _ a.fuse)
 .refine(t.big w bd S D P i o q (by omega) (by omega)).mono ?_;rintro e w' ⟨D',S',a,⟨bs,U,rfl,hbs,d,c,f,b⟩|⟨rfl,j,n⟩⟩
  .have g:=a.reads0;have h2:=a.reads1;exact⟨D',S',a.disk,a.foot,a.kept,by omega,by omega,a.size,a.fuse,.inl ⟨bs,U,rfl,hbs,f,⟨a.disk,d,c,b,a.fuse,by omega,by omega,m U f⟩⟩⟩
  .have g:=a.reads0;have h2:=a.reads1;exact⟨D',S',a.disk,a.foot,a.kept,by omega,by omega,a.size,a.fuse,.inr ⟨r.resolve_right p,rfl,j,n⟩⟩
theorem J7(ai:yb N)(af:xo N)(K:Vh M N)(R:zp w bo h)(F:h.d=qu bd)(aa:zg w bd S D)(E:M.Could D P)(V:∀U,P U->U.n0<=2305843009213693952):
 Calls Tryz.prog 148 #[.pointer (some ⟨bo,0,none⟩)] w λe w'=>e=.returned (.tuple #[])/\za (λ_=>False) w w':=by
 have s:=R.c0;rw [F] at s;unfold qu at s;obtain⟨ad,aj,ae,ah,l⟩:=aa;have ak:=l.ok.few;have al:=E.few;have ag:Hid (∀U,P U->U.n0<=2305843009213693952):=V;change Hid _ at l E;clear R V F;go_enter Tryz.func148,Tryz.ntmps148;go_wp2_with fail;refine(Jb w bd S D ad aj ae ah l (by omega)).mono ?_;rintro e G ⟨rfl,⟨S1,Q,j⟩,t⟩;obtain⟨z,x,y,v,i⟩:=Q;have L:Hid (za (λ_=>False) w G):=t;change Hid _ at i j;clear t;go_wp2_with fail;refine(uv G w.heap.size S1 {D with reads:=0} z x y v i (-1)).mono ?_;rintro e C ⟨rfl,p,r⟩;have J:Hid (zo C w.heap.size S1 {D with reads:=0,fuse:= -1} z x y v):=p;have u:Hid (za (λk=>w.heap.size<=k) w C):=(L.mono fE).trans r (λk b=>.inl (by show w.heap.size<=k;rw [show k=w.heap.size from b];exact aF _));clear p r;go_wp2_with fail;refine(ai.big C w.heap.size S1 {D with reads:=0,fuse:= -1} P ⟨_,_,_,_,J⟩ (K.could _ _ (E.as rfl rfl)) N.fu_neg (by show (0:Int)<=0;omega) (by show (0:Int)<=_;omega)).mono ?_;rintro e I ⟨o,B,a,⟨bs,U,rfl,hbs,m,g,W,f⟩|⟨rfl,Z,_⟩⟩
 .have ac:0<=o.reads:=a.reads0;have h2:o.reads<=0+2*(D.bs.length:Int):=a.reads1;have ab:Hid (xI N I w.heap.size bs B o U):=⟨a.disk,m,g,f,a.fuse,ac,by omega,ag U W⟩;have an:=u.size;have T:Hid (∀k,B k->w.heap.size<=k):=λk b=>(a.foot k b).elim (j k) (λh=>by omega);have Y:Hid _:=u.trans a.kept (λk b=>.inl (j k b));have A:w.heap.size<=bs:=by omega
  clear a g W f m;go_wp2_with fail;refine(af.live I w.heap.size bs B (λ_=>False) o U ⟨#[116,114,105,97,108]⟩ none 0 [] ab (by decide) (.inl rfl) fE (by decide) (by decide) (by omega)).mono ?_;rintro e am ⟨ao,ap,c,n,q,rfl,X,O,H⟩;clear O H;have d:Hid _:=Y.trans X.kept (λk b=>.inl (b.elim (T k) (λe=>by show w.heap.size<=k;rw [e];exact A)));clear X;go_wp2;go_end0;exact⟨rfl,⟨d.os,d.tape,d.output,d.size,λk b _=>d.block k b (by omega)⟩⟩
 .exact absurd Z (K.none _ a.fuse)
end
structure ZJ (M:zd) (w:World) (X:Nat->Prop) (bo t:Nat) (h:zQ) (bd:Nat) (D:Dk) (S R:Nat->Prop) (ib:Nat) (V:qq) (last:Int) (P:qq->Prop):Prop where
 head:zp w bo h
 hd:h.d=qu bd
 his:h.is=qu ib
 disk:zg w bd S D
 ref:zG w R R ib V.vs last
 sX:∀k,S k->X k
 rX:∀k,R k->X k/\¬S k/\k≠bo
 bX:X bo
 bS:¬S bo
 xlt:∀k,X k->k<w.heap.size
 last0:last<=V.n0
 lastv:∀v∈V.vs,v.num<=last
 told0:0<=h.told
 died0:0<=h.died
 n0t:V.n0<=h.told+h.died
 tt:h.told+h.died<=t
 fu:M.Fu D.fuse
 good:Good V
 torn:ye w R h V last P
 could:M.Could D P
section
variable {M N:zd} {w w':World} {X S S' R R' T:Nat->Prop} {bo bd bs ib t:Nat} {h h':zQ} {D D':Dk} {V U:qq} {last:Int} {P:qq->Prop}
theorem yw.bare(a:yw M w X bo t h bd D S R ib V last):∃P,ZJ M w X bo t h bd D S R ib V last P:=by
 obtain⟨P,b,h2⟩:=a.st.split;exact⟨P,a.head,a.hd,a.his,a.disk,a.ref,a.sX,a.rX,a.bX,a.bS,a.xlt,a.last0,a.lastv,a.told0,a.died0,a.n0t,a.tt,a.fu,a.good,b,h2⟩
theorem ye.n0(p:ye w R h V last P)(e:P U)(b:V.n0<=h.told+h.died):U.n0<=h.told+h.died:=by
 cases p using ye.elim with
 |still f=>rw [show U=V from e];exact b
 |put mb m d body a g c f j l h2 k t q i=>
  rcases e with rfl|rfl;.exact b
  .exact i
 |erase mb us g d a n c f j l h2 k o r s=>
  rcases e with rfl|rfl;.exact b
  .exact b
theorem uC.before{e:Ending}{b:World}{a:Nat->Prop}(f:uC M w w' X bo t e)(k:za a b w)(c:∀k,X k->a k\/b.heap.size<=k):uC M b w' a bo t e:=⟨f.ret,by
 obtain⟨X',d,h2⟩:=f.one
 exact⟨X',d,λi h=>(h2 i h).elim (c i) (λg=>.inr (aD k.size g))⟩,k.trans f.kept c⟩
set_option maxRecDepth 60000 in
theorem ju(a7:yb M)(aK:yb N)(a5:xo N)(a0:xD M)(aR:Vh M N)(b:ZJ M w X bo t h bd D S R ib V last P)(L:Bool)(bf:L=true\/D.fuse= -1)(a2:t<=4398046511104):
 Calls Tryz.prog 88 #[.pointer (some ⟨bo,0,none⟩),.bool L] w λe w'=>uC M w w' X bo t e:=by
 have aI:Hid (∀U,P U->U.n0<=2305843009213693952):=λU bb=>by have aS:=b.torn.n0 bb b.n0t;have:=b.tt;omega
 have bu:=b.xlt bo b.bX;have bx:=b.could.few
 have bi:D.bs.length<=1000:=by obtain⟨_,_,_,_,aS⟩:=b.disk;exact aS.ok.few
 change Hid _ at b;go_enter Tryz.func88,Tryz.ntmps88;go_wp2_with fail;refine(J7 aK a5 aR b.head b.hd b.disk b.could aI).mono ?_;rintro e ah ⟨rfl,B⟩;have O:=b.head.kept B (λaE=>aE);have bz:=O.c0.trans (congrArg some b.hd);obtain⟨bc,a6,a4,be,aA⟩:=b.disk.kept B nF;have bp:=B.size;change Hid _ at B aA O;go_wp2_with fail;refine(Jb ah bd S D bc a6 a4 be aA (by omega)).mono ?_;rintro e ag ⟨rfl,⟨ai,aj,ao⟩,G⟩;have aH:Hid _:=B.trans G iL;have E:=O.kept G (λaE=>aE);have bt:=E.c0.trans (congrArg some b.hd);have bv:=E.fz 0;have br:=G.size;have a1:bo<ag.heap.size:=by omega
 have aF:Hid (zg ag ah.heap.size ai {D with reads:=0 }):=aj;have H:Hid (∀k,ai k->ah.heap.size<=k):=ao;change Hid _ at E;clear G aj ao;generalize a3:ah.heap.size=c at*;go_wp2_with fail;have k3:=za.setCell (S:=λk=>k=bo) ag ⟨bo,0,none⟩ (.pointer (some ⟨c,0,none⟩)) rfl;have ab:zp (ag.setCell ⟨bo,0,none⟩ (.pointer (some ⟨c,0,none⟩))) bo {h with d:=qu c}:=E.set 0 _ _ rfl;generalize ag.setCell ⟨bo,0,none⟩ (.pointer (some ⟨c,0,none⟩))=aP at*;have bn:=ab.c0;have am:zg aP c ai {D with reads:=0}:=aF.kept k3 (λk a e=>by have:=H.out k a;omega);have aO:Hid _:=am;have aN:Hid _:=(aH.mono fE).trans k3 iL;have bj:=k3.size;obtain⟨aV,aW,aZ,aG,Z⟩:=am;change Hid _ at ab Z;clear k3;refine(qE aP c ai {D with reads:=0} aV aW aZ aG Z).mono ?_;rintro e y ⟨rfl,g⟩;rw [g];clear g y;go_wp2_with fail;refine(cL a7 aK aR L aO (b.could.as rfl rfl) b.fu bf rfl aI).mono ?_;rintro e p ⟨j,q,ar,ay,I,aB,af,aw,Q,o⟩;have aa:∀k,q k->c<=k:=λk a=>(ay k a).elim (H k) (λh=>by omega);have aD:=aN.trans I (λk a=>.inr (by have:=H.out k a;omega));have n:=ab.kept I (λm=>by have:=H.out bo m;omega);have bw:=n.c0;have a9:=I.size;have Y:Hid (zg p c q j):=ar;have aT:Hid (M.Fu j.fuse):=Q;obtain⟨av,az,al,ak,v⟩:=ar;have bq:=v.ok.few;have bg:j.reads<=2*(j.bs.length:Int):=by rw [aw];exact af
 have bl:=n.fz 1;have bk:=n.c1;change Hid _ at aa aD n aw v o;clear Q ay I af;have bm:¬(j.reads>2*(j.bs.length:Int)):=by omega
 rcases o.out with⟨bs,U,rfl,hbs,aL,F⟩|⟨rfl,rfl,aQ,m⟩
 .have bh:Hid (P U):=aL;have x:Hid _:=F;have ba:=M.sto_lt _ _ _ F.sto;clear aL F o
  go_wp2_with (first
   |(go_at_call 86;refine(qE p c q j av az al ak v).mono ?_;rintro e y ⟨rfl,g⟩;rw [g];clear g y)
   |(go_at_call 149;refine(yF p bo {h with d:=qu c} n c rfl q j Y).mono ?_;rintro e y ⟨rfl,g⟩;rw [g];clear g y))
  have r:=za.setCell (S:=λk=>k=bo) p ⟨bo,1,none⟩ (.pointer (some ⟨bs,0,none⟩)) rfl;have u:zp (p.setCell ⟨bo,1,none⟩ (.pointer (some ⟨bs,0,none⟩))) bo {h with d:=qu c,s:=qu bs}:=n.set 1 _ _ rfl;generalize p.setCell ⟨bo,1,none⟩ (.pointer (some ⟨bs,0,none⟩))=C at*;have A:za (λk=>k=bo) w C:=aD.trans r iL;have a8:=r.size;have f:=b.out;have z:∀k,R k->k<w.heap.size:=λk a=>f.xlt k (f.rX k a).1;have l:∀k,R k->¬k=bo:=λk a=>(f.rX k a).2.2;have i:∀k,q k->w.heap.size<=k:=λk a=>by have:=aa.out k a;omega
  have W:Gj M C (λk=>X k\/(w.heap.size<=k/\k<C.heap.size)) bo t {h with d:=qu c,s:=qu bs} c bs j q R ib V U last:=
   ⟨u,rfl,rfl,f.his,⟨x.disk.kept r (λk a e=>by have:=i k a;omega),x.apart,M.sto_kept _ _ _ _ _ x.sto r (λe=>by have bB:=e;omega),x.live,x.fuse,x.reads0,x.reads1,x.few⟩,f.ref.kept A l l,λk a=>.inr ⟨i k a,by have:=x.disk.lt k a;omega⟩,λk a=>⟨.inl (f.rX k a).1,λm=>by have:=i k m;have:=z k a;omega,l k a,λe=>by have:=z k a;omega⟩,.inl f.bX,.inr ⟨by omega,by omega⟩,λm=>by have:=i bo m;omega,by omega,λk a=>by
    rcases a with a|a;.have:=f.xlt k a;have:=A.size;omega
    .exact a.2,f.last0,f.lastv,f.told0,f.died0,f.n0t,f.tt,f.good,by omega⟩
  have aY:Hid _:=(f.torn.head (h':={h with d:=qu c,s:=qu bs }) ⟨rfl,rfl,rfl,rfl,rfl,rfl,rfl⟩).kept A l;have T:Hid (za X w C):=A.mono (λk a=>by rw [show k=bo from a];exact f.bX);change Hid _ at W;clear r u A f z l i;refine(J6 a0 W aY bh a2).mono ?_;rintro e K ac;have aX:Hid _:=ac.before T (λk a=>a.imp id (λh=>h.1));obtain rfl:=ac.ret;clear ac;go_wp2;go_ret;exact aX.out
 .have aU:Hid _:=aQ;have au:Hid (M.Could j P):=m;clear aQ m o
  go_wp2_with (first
   |(go_at_call 86;refine(qE p c q j av az al ak v).mono ?_;rintro e y ⟨rfl,g⟩;rw [g];clear g y)
   |(go_at_call 149;refine(yF p bo {h with d:=qu c} n c rfl q j Y).mono ?_;rintro e y ⟨rfl,g⟩;rw [g];clear g y))
  have r:=za.setCell (S:=λk=>k=bo) p ⟨bo,1,none⟩ (.pointer none) rfl;have u:zp (p.setCell ⟨bo,1,none⟩ (.pointer none)) bo {h with d:=qu c,s:=.pointer none}:=n.set 1 _ _ rfl;generalize p.setCell ⟨bo,1,none⟩ (.pointer none)=C at*;have i:∀k,q k->w.heap.size<=k:=λk a=>by have:=aa.out k a;omega
  have aq:zg C c q j:=Y.kept r (λk a e=>by have:=i k a;omega);have T:Hid _:=aD.trans r iL;have a8:=r.size;change Hid _ at aq u i;clear r;refine(dA C bo _ u c rfl q j aq aU).mono ?_;rintro e K ⟨rfl,⟨aC,an,ax⟩,J⟩;have ap:Hid (zg K c aC j):=an;have ae:Hid (∀k,aC k->w.heap.size<=k):=λk a=>i k (ax k a);have aM:Hid (zp K bo {h with d:=qu c,s:=.pointer none }):=u.kept J (λm=>by have:=i.out bo m;omega);have ad:Hid (za (λk=>k=bo) w K):=T.trans J (λk a=>.inr (i k a));have bA:=J.size;clear an ax J;go_wp2;go_ret;have f:=b.out;have z:∀k,R k->k<w.heap.size:=λk a=>f.xlt k (f.rX k a).1;have l:∀k,R k->¬k=bo:=λk a=>(f.rX k a).2.2;have aJ:ye K R {h with d:=qu c,s:=.pointer none} V last P:=(f.torn.head (h':={h with d:=qu c,s:=.pointer none }) ⟨rfl,rfl,rfl,rfl,rfl,rfl,rfl⟩).kept ad l;refine⟨rfl,⟨λk=>X k\/(w.heap.size<=k/\k<K.heap.size),⟨_,c,j,aC,R,ib,V,last,aM,rfl,f.his,ap,f.ref.kept ad l l,λk a=>.inr ⟨ae k a,ap.lt k a⟩,λk a=>⟨.inl (f.rX k a).1,λm=>by have:=ae.out k m;have:=z k a;omega,l k a⟩,.inl f.bX,λm=>by have:=ae.out bo m;omega,λk a=>?_,f.last0,f.lastv,f.told0,f.died0,f.n0t,f.tt,aB,by omega,aT,f.good,au.big,.gone rfl (aJ.join au)⟩,λk a=>a.imp id (λh=>h.1)⟩,ad.mono (λk a=>by rw [show k=bo from a];exact f.bX)⟩;rcases a with a|a;.have:=f.xlt k a;omega
  .exact a.2
end
end law
end Go.Proofs.YtcoengihaobddaaGreatDoor
