/- Proved: a disk that was filled with any changes and emptied in any order, up to three times, takes as much as a new one (the law Emptied answers true), and what is handed in reads as it did; no condition. The card ties the listed tables to the program's text (a pruned copy of the project: see the seat's page). -/
import Derived.Test.YtcoengihaobddaaGreatDoorJe42
import Derived.Test.YtcoengihaobddaaGreatDoorJe28
import Derived.Test.YtcoengihaobddaaGreatDoorJe34
import Derived.Test.YtcoengihaobddaaGreatDoorCards
import Derived.Test.YtcoengihaobddaaGreatDoorTie
import Derived.Deep.DeepHandedRow
import Derived.Deep.DeepWitnessRowRef
import Derived.Lib.LaidIn
import Derived.Lib.LaidU8
import Derived.WideKeyArgs
set_option maxHeartbeats 8000000
set_option linter.unusedVariables false
set_option linter.unusedSimpArgs false
set_option maxRecDepth 8000
namespace Go.Proofs.YtcoengihaobddaaGreatDoor
namespace keep
open Go.ChangeShapes Go.WideShapes Go.ChangeAt Go.RowKit disk ref book
open law (zP za zL qx yg qr zD xm zJ)
open keys (zg zd zq zl zh)
def KP(w:World)(Q:Nat->Prop)(a:Option Addr)(l:List Int):Prop:=∀j,j<l.length->∃b o,a=some ⟨b,o,none⟩/\Q b/\b<w.heap.size/\w.cell? ⟨b,o+j,none⟩=some (.int .i64 (l.getD j 0))/\zs (l.getD j 0)
theorem KP.kept{w w':World}{Q T:Nat->Prop}{a:Option Addr}{l:List Int}(h:KP w Q a l)(k:Kept T w w')(e:∀i,Q i->¬T i):KP w' Q a l:=λj f=>by
 obtain⟨b,o,m,c,d,g,n⟩:=h j f;exact⟨b,o,m,c,au d k.size,(k.cell (a:=⟨b,o+j,none⟩) d (e b c)).trans g,n⟩
structure DO (M:za) (w2 wr:World) (X1:Nat->Prop) (bp:Nat) (D:Dk) (V:zP):Prop where
 shop:∃X,vi M wr X bp D V/\∀k,X k->X1 k\/w2.heap.size<=k
 kept:Kept (λk=>X1 k) w2 wr
theorem BC:∃e:Array Value,e=(List.replicate 300 (Value.int .u8 0)).toArray/\∀d:World,(Instr.makeSlice 35 (.int .i64 300) (.int .i64 300)).run Tryz.prog d=.ok (.slice (some ⟨d.heap.size,0,none⟩) 300 300) (d.alloc (.cells e 5)):=by
 obtain⟨g,f,b,c,a⟩:=qU Tryz.infoU8;refine⟨madeCells (Value.int .u8 0).cells (300*1),by kernel_rfl,λd=>?_⟩;have:=run_make (P:=Tryz.prog) d 35 5 g _ Tryz.underlying35 f b .i64 .i64 300 300 (by omega) (by omega) (by rw [a];omega) (by omega);rw [c] at this;simpa using this
theorem ZM(vs:List zw)(i:Nat):weight (cut vs i)<=weight vs:=by
 unfold cut weight;have a:vs=vs.take i++vs.drop i:=(aA i vs).symm;have c:(vs.drop (i+1)).map (λv=>qd v.body.length)=((vs.drop i).map (λv=>qd v.body.length)).drop 1:=by rw [<-my,eI]
 conv=>rhs;rw [a,eh,lJ]
 rw [eh,lJ,c];have b:∀l:List Nat,(l.drop 1).sum<=l.sum:=λl=>by cases l<;>simp
 have:=b ((vs.drop i).map (λv=>qd v.body.length));omega
theorem yk.aft{M:za}{w w':World}{X:Nat->Prop}{i bd bs:Nat}{S S':Nat->Prop}{D g:Dk}{V:zP}{a:Option Addr}{cap:Nat}{l:List (List Value)}{r:Nat->Prop}{j:Int}(h:yk M w X i bd bs S D V a cap l r)(c:xm M w w' bd bs S S' D g j (some bd))(m:M.Live g V)(o:g.reads<=2305843009213693952):yk M w' (λk=>X k\/(w.heap.size<=k/\k<w'.heap.size)) i bd bs S' g V a cap l r/\Kept X w w':=by
 have n:∀k,X k->¬S k->¬S' k:=λk q p d=>by
  rcases c.foot k d with f|f;.exact p f
  .have:=h.xlt k q;omega
 have s:=c.kept.size;refine⟨⟨(c.kept.block i h.lt (λd=>d.elim h.pS h.pb)).trans h.head,zD.aft h.fore c m o,c.size.trans h.size,c.kept.owns h.row (λk b d=>d.elim (h.rS k b).1 (h.rS k b).2.1),h.told.kept c.kept (λk b d=>d.elim (h.gS k b).1 (h.gS k b).2.1),λk b=>?_,λk b=>?_,.inl h.xb,.inl h.xp,λk b=>.inl (h.xr k b),λk b=>.inl (h.xG k b),n i h.xp h.pS,h.pb,λk b=>⟨n k (h.xr k b) (h.rS k b).1,(h.rS k b).2⟩,λk b=>⟨n k (h.xG k b) (h.gS k b).1,(h.gS k b).2⟩⟩,c.kept.mono (λk b=>b.elim (h.xS k) (λe=>by rw [e];exact h.xb))⟩
 .rcases b with b|b;.have:=h.xlt k b;omega
  .exact b.2
 .rcases c.foot k b with f|f;.exact .inl (h.xS k f)
  .exact .inr ⟨f,c.disk.lt k b⟩
theorem DO.on{M:za}{c wr a:World}{X d b:Nat->Prop}{i:Nat}{j:Dk}{V':zP}(g:Kept (λk=>d k) c wr)(l:∀k,X k->d k\/c.heap.size<=k)(n:Kept X wr a)(m:vi M a b i j V')(e:∀k,b k->X k\/wr.heap.size<=k):DO M c a d i j V':=
 ⟨⟨b,m,λk f=>(e k f).elim (l k) (λh=>.inr (by have:=g.size;omega))⟩,g.trans n l⟩
set_option maxRecDepth 60000 in
theorem Jv(M:za)(cZ:zL M)(cB:qx M)(cE:qr M)(c9:yg M)(a4:∀f,M.Fu f->f≠0)(w:World)(Q:Nat->Prop)(cJ:∀k,Q k->k<w.heap.size)(a:Option Addr)(cap:Nat)(n:List bn)(h:Qa w Q a n)(cX:n.length<=2000000000000)
 (b9:Option Addr) (cW:Nat) (x:List Int) (ch:KP w Q b9 x) (ds:x.length<=140737488355326) (v:Int) (am:zs v):
 Calls Tryz.prog 11 #[.slice a n.length cap,.slice b9 x.length cW,.int .i64 v] w λe w'=>e=.returned (.bool true)/\Kept (λ_=>False) w w':=by
 have cM:Hid (Qa w Q a n):=h;have bc:Hid (∀k,Q k->k<w.heap.size):=cJ;have cm:Hid (KP w Q b9 x):=ch;have bv:Hid (∀W,Calls Tryz.prog 21 #[.int .i64 v,.int .i64 3] W λe w'=>e=.returned (.int .i64 (qX v 3:Int))/\w'=W):=λW=>yV W v 3 am (by omega) (by omega);have dn:qX v 3<3:=by have:=xy v 3 (by omega);omega
 generalize qX v 3=be at*;clear h cJ ch am;go_enter Tryz.func11,Tryz.ntmps11;go_wp2_with fail;refine(uz M cZ a4 _).mono ?_;rintro e y ⟨I,c,bd,bs,S,D,rfl,A,bH,bM,dl⟩;have cf:Hid (vi M y I c D ⟨[],0⟩):=⟨bd,bs,S,none,0,[],_,A⟩;have aA:Hid (Kept (λ_=>False) w y):=bH;have L:Hid (∀k,I k->w.heap.size<=k/\k<y.heap.size):=λk d=>⟨bM k d,A.xlt k d⟩;have dy:Hid (I c):=A.xp;clear A bH bM;go_wp2_with fail;refine(ux _).mono ?_;rintro e J ⟨rfl,aC,aZ⟩;have bA:Hid (Kept (λ_=>False) y J):=aC;have aY:Hid (J.heap[y.heap.size]? =some (.cells kK 9 (0,0))):=aZ;have bq:Hid (vi M J I c D ⟨[],0⟩):=cf.out.kept aC nF;obtain⟨cy,ca,c6,dd,b5,cH,dg,bk⟩:=bq.out;have c1:=bk.c.2.2.2.2.2.1;have au:Hid (Kept (λk=>w.heap.size<=k) w J):=(aA.out.trans aC iL).mono fE;have di:w.heap.size<=y.heap.size/\y.heap.size<J.heap.size:=⟨aA.out.size,(lT aZ)⟩;clear aC aZ bk cy ca c6 dd b5 cH dg;go_wp2_with fail;go_loopw [9] (λt wr=>∃i:Nat,i<=4/\t=.int .i64 i/\∃D V,DO M J wr I c D V/\V.vs=[]/\V.n0<=473*(i:Int)/\D.reads<=2000+3000000*(i:Int)) (λt _=>10-(intOf t).toNat)
 case atStart=>exact⟨0,by omega,rfl,D,⟨[],0⟩,⟨⟨I,bq.out,λk d=>.inl d⟩,Kept.refl _ _⟩,rfl,by show (0:Int)<=_;omega,by omega⟩
 case round=>
  obtain⟨t,dz,rfl,D,ae,az,ba,bV,b7⟩:=hrel;have aH:Hid (DO M J wr I c D ae):=az;have ad:Hid (ae.vs=[]):=ba;clear az ba;by_cases ci:t<=be
  .have cu:(t:Int)<=(be:Int):=by omega
   have c8:Hid (t<=be):=ci;go_wp2_with (go_at_call 21;refine(bv.out _).mono ?_;rintro e ab ⟨rfl,B⟩;rw [B];clear B ab);go_loopw [10] (λN U=>∃i:Nat,i<=n.length/\N=.int .i64 i/\∃D V,DO M J U I c D V/\weight V.vs<=473/\V.n0<=473*(t:Int)+V.vs.length/\D.reads<=2000+3000000*(t:Int)+40*V.vs.length) (λN _=>n.length-(intOf N).toNat)
   case atStart=>exact⟨0,ai _,rfl,D,ae,aH.out,by rw [ad.out];simp [weight],by rw [ad.out];simpa using bV,by rw [ad.out];simpa using b7⟩
   case round=>
    obtain⟨i,dc,rfl,D,V,ar,cA,bb,cQ⟩:=hrel;obtain⟨⟨X,⟨o,m,S',aq,C,af,G',A⟩,ag⟩,d⟩:=ar;obtain⟨a3,bT,bt,a1,a6,ct,ah⟩:=A.c;have cI:=ah 6;have E:Hid (yk M _ X c o m S' D V aq C af G'):=A;have F:Hid (Kept (λk=>I k) J _):=d;have G:Hid (∀k,X k->I k\/J.heap.size<=k):=ag;have dq:=yM V.vs;have cF:=A.lt;clear A d ag a3 bT bt a1 a6 ah;by_cases bQ:i<n.length/\weight V.vs<470
    .obtain⟨K,bP⟩:=bQ;have aF:(i:Int)<(n.length:Int):=by omega
     have ck:((weight V.vs:Nat):Int)<470:=by omega
     obtain⟨b,ax,rfl,bJ,a2,a7⟩:=cM.out.each i K;have aE:Hid (n[i].Ok w Q):=cM.out.ok i K;have s:Kept (λk=>w.heap.size<=k) w wr:=au.out.trans F.out (λk d=>.inl (L.out k d).1);have aO:b<wr.heap.size:=by have:=s.size;omega
     have de:wr.cell? ⟨b,ax+i*5,none⟩=some (.int .i64 n[i].key):=(s.cell (a:=⟨b,ax+i*5,none⟩) a2 (by show ¬w.heap.size<=b;omega)).trans (a7 0 _ rfl);have cY:wr.cell? ⟨b,ax+i*5+2,none⟩=some (.slice n[i].la n[i].l.length n[i].lc):=(s.cell (a:=⟨b,ax+i*5+2,none⟩) a2 (by show ¬w.heap.size<=b;omega)).trans (a7 2 _ rfl);have cg:Hid (Kept (λk=>w.heap.size<=k) w wr):=s;have aQ:wr.heap[y.heap.size]? =some (.cells kK 9 (0,0)):=(F.out.block y.heap.size (lT aY.out) (λaR=>by have:=(L.out _ aR).2;omega)).trans aY.out;have cr:Hid (wr.heap[y.heap.size]? =some (.cells kK 9 (0,0))):=aQ;clear a7 s;generalize n[i]=u at*;have aW:Hid (∀W,Calls Tryz.prog 21 #[.int .i64 u.key,.int .i64 12] W λe w'=>e=.returned (.int .i64 (qX u.key 12:Int))/\w'=W):=λW=>yV W u.key 12 aE.out.key (by omega) (by omega);have cc:qX u.key 12<12:=by have:=xy u.key 12 (by omega);omega
     generalize qX u.key 12=r at*;obtain⟨aa,bf,aP,cK⟩:=vH r cc;have dp:(r:Int)<12:=by omega
     have c3:(0:Int)<=(r:Int):=by omega
     have cb:Hid (zh aa.data.toList=true):=aP;have cl:wr.cell? ⟨y.heap.size,r,none⟩=some (.string aa):=(ak wr _ r _ _ _ aQ).trans bf;clear aP bf aQ;go_wp2_with (go_at_call 32;refine(yL E.out (by omega)).mono ?_;rintro e ab ⟨rfl,B⟩;rw [B];clear B ab)
     go_region_held3 (λw'=>w'.cell? ⟨b,ax+i*5,none⟩=some (.int .i64 u.key)/\w'.cell? ⟨b,ax+i*5+2,none⟩=some (.slice u.la u.l.length u.lc)/\w'.cell? ⟨c,6,none⟩=some (.bool true)/\w'.cell? ⟨y.heap.size,r,none⟩=some (.string aa)) (first|(exact⟨((Kept.setCell (S:=λk=>k=c) l ⟨c,6,none⟩ (.bool true) rfl).cell (a:=⟨b,ax+i*5,none⟩) bR aU).trans cO,((Kept.setCell (S:=λk=>k=c) l ⟨c,6,none⟩ (.bool true) rfl).cell (a:=⟨b,ax+i*5+2,none⟩) bR aU).trans cS,R.out.again.c.2.2.2.2.2.1,((Kept.setCell (S:=λk=>k=c) l ⟨c,6,none⟩ (.bool true) rfl).cell (a:=⟨y.heap.size,r,none⟩) b3 bW).trans cp⟩)|go_keep) ((first
      |(go_at_call 21;refine(aW.out _).mono ?_;rintro e ab ⟨rfl,rfl⟩)
      |(go_at_call 15;refine(uU cB a4 (w:=wr.drew) (X:=X) (E.out.kept (Kept.drew (λ_=>False) wr) nF) bP (by omega) (by omega) aa cb.out cK (λk=>Q k) (λk d aL=>by have:=bc.out k d;have:=aA.out.size;have:=bA.out.size;rcases G.out k aL with h|h;have:=L.out k h;omega;omega) u.la u.lc u.l ((aE.out.kept cg.out (λk d aR=>by have:=bc.out k d;omega)).l.kept (Kept.drew (λ_=>False) wr) nF) aE.out.len aE.out.cap).mono ?_;rintro e l ⟨rfl,aw,O,aJ,P,al,aT,p,a5,g⟩;have R:Hid (yk M l (λk=>X k\/(wr.heap.size<=k/\k<l.heap.size)) c o m aw O (V.add aa false (u.l.take 300)) aJ P al aT):=p;have H:Hid (Kept X wr l):=⟨g.os,g.tape,g.output,g.size,g.block⟩;have a0:¬X b:=(λaL=>by have:=bc.out b bJ;have:=aA.out.size;have:=bA.out.size;rcases G.out b aL with h|h;have:=L.out b h;omega;omega);have cO:l.cell? ⟨b,ax+i*5,none⟩=some (.int .i64 u.key):=(H.out.cell (a:=⟨b,ax+i*5,none⟩) aO a0).trans de;have cS:l.cell? ⟨b,ax+i*5+2,none⟩=some (.slice u.la u.l.length u.lc):=(H.out.cell (a:=⟨b,ax+i*5+2,none⟩) aO a0).trans cY;have bC:l.cell? ⟨c,6,none⟩=some (.bool true):=p.c.2.2.2.2.2.1;have bp:l.frozen? ⟨c,6,none⟩=false:=p.c.2.2.2.2.2.2 6;have aX:=p.lt;have aU:b≠c:=(λe=>a0 (by rw [e];exact E.out.xp));have bR:b<l.heap.size:=(by have:=g.size;have dC:wr.drew.heap.size=wr.heap.size:=rfl;omega);have br:¬X y.heap.size:=(λaL=>by have dA:=(lT aY.out);rcases G.out _ aL with h|h;have:=L.out _ h;omega;omega);have bY:y.heap.size<wr.heap.size:=(lT cr.out);have cp:l.cell? ⟨y.heap.size,r,none⟩=some (.string aa):=(H.out.cell (a:=⟨y.heap.size,r,none⟩) bY br).trans cl;have bW:y.heap.size≠c:=(λe=>br (by rw [e];exact E.out.xp));have b3:y.heap.size<l.heap.size:=(by have:=H.out.size;omega);clear p g)))
     go_wp2;go_roundw
     case rel=>
      have ce:weight (V.add aa false (u.l.take 300)).vs<=473:=by
       rw [ja];have:(u.l.take 300).length<=300:=by rw [ay];omega
       unfold qd;omega
      have bB:(V.add aa false (u.l.take 300)).vs.length=V.vs.length+1:=by simp [zP.add]
      refine⟨i+1,by omega,by go_num,O,V.add aa false (u.l.take 300),DO.on F.out G.out (H.out.trans (Kept.setCell (S:=λk=>k=c) l ⟨c,6,none⟩ _ rfl) (λk d=>.inl (by rw [show k=c from d];exact E.out.xp))) ⟨_,_,_,_,_,_,_,R.out.again⟩ (λk d=>d.imp id (λh=>h.1)),ce,?_,?_⟩
      .show V.n0+1<=_;rw [bB];push_cast;omega
      .rw [bB];push_cast;omega
     case measure=>simp [intOf];omega
    .have cR:(¬i<n.length/\decide ((i:Int)<(n.length:Int))=false)\/(i<n.length/\(i:Int)<(n.length:Int)/\¬weight V.vs<470/\decide (((weight V.vs:Nat):Int)<470)=false):=by
      by_cases K:i<n.length;.exact .inr ⟨K,by omega,by omega,decide_eq_false (by omega)⟩
      .exact .inl ⟨K,decide_eq_false (by omega)⟩
     clear bQ;rcases cR with⟨K,aF⟩|⟨K,aF,bP,ck⟩
     all_goals
      go_wp2_with (go_at_call 32;refine(yL E.out (by omega)).mono ?_;rintro e ab ⟨rfl,B⟩;rw [B];clear B ab);go_loopw [11] (λN U=>∃i:Nat,i<=473/\N=.int .i64 i/\∃D V,DO M J U I c D V/\V.vs.length+i<=473/\weight V.vs<=473/\V.n0<=473*(t:Int)+473/\D.reads<=30000+3000000*(t:Int)+40*(i:Int)) (λN _=>1000-(intOf N).toNat)
      case atStart=>exact⟨0,by omega,rfl,D,V,⟨⟨X,⟨_,_,_,_,_,_,_,E.out⟩,G.out⟩,F.out⟩,by omega,cA,by omega,by omega⟩
      case round=>
       obtain⟨aj,dj,rfl,D,V,ar,dr,cA,bb,cQ⟩:=hrel;obtain⟨⟨X,⟨o,m,S',aq,C,af,G',A⟩,ag⟩,d⟩:=ar;obtain⟨a3,bT,bt,a1,a6,ct,ah⟩:=A.c;have cI:=ah 6;have E:Hid (yk M wr X c o m S' D V aq C af G'):=A;have F:Hid (Kept (λk=>I k) J wr):=d;have G:Hid (∀k,X k->I k\/J.heap.size<=k):=ag;have cF:=A.lt;clear A d ag a3 a1 a6 ah;by_cases c5:0<V.vs.length
       .have cj:(0:Int)<(V.vs.length:Int):=by omega
        obtain⟨j,ao⟩:∃j,j+1=V.vs.length:=⟨V.vs.length-1,by omega⟩;have dk:IntKind.i64.wrap ((V.vs.length:Int)-1)=(j:Int):=by rw [show (V.vs.length:Int)-1=(j:Int) by omega];exact IntWalk.i64_in _ (by omega)
        have dE:Hid (j+1=V.vs.length):=ao;have bg:j<V.vs.length:=by omega
        clear ao;by_cases ap:0<x.length
        .have cC:(0:Int)<(x.length:Int):=by omega
         have c0:¬x=[]:=λe=>by rw [e] at ap;simp at ap
         have df:¬x.length=0:=by omega
         have db:¬(x.length:Int)=0:=by omega
         have da:(0:Int)<=(aj:Int):=by omega
         obtain⟨q,b4⟩:∃q,q=aj%x.length:=⟨_,rfl⟩;have cG:q<x.length:=by rw [b4];exact mQ _ ap
         have b1:(aj:Int)%(x.length:Int)=(q:Int):=by rw [b4];simp
         have cU:(aj:Int).tmod (x.length:Int)=(q:Int):=by rw [lZ (by omega)];exact b1
         have du:(q:Int)<(x.length:Int):=by omega
         have s:Kept (λk=>w.heap.size<=k) w wr:=au.out.trans F.out (λk d=>.inl (L.out k d).1);obtain⟨b,ax,rfl,bJ,a2,cV,bl⟩:=cm.out.kept s (λk d aR=>by have:=bc.out k d;omega) q cG;have aW:Hid (∀W,Calls Tryz.prog 21 #[.int .i64 (x.getD q 0),.int .i64 (V.vs.length:Int)] W λe w'=>e=.returned (.int .i64 (qX (x.getD q 0) V.vs.length:Int))/\w'=W):=λW=>yV W _ _ bl (by omega) (by omega);have cP:qX (x.getD q 0) V.vs.length<V.vs.length:=by have:=xy (x.getD q 0) V.vs.length (by omega);omega
         generalize qX (x.getD q 0) V.vs.length=r at*;generalize x.getD q 0=dh at*;clear b4 s bl;go_wp2_with fail;go_region_held3 (λw'=>w'.cell? ⟨b,ax+q,none⟩=some (.int .i64 dh)/\w'.cell? ⟨c,2,none⟩=some (.slice aq V.vs.length C)) (go_keep) ((go_at_call 21;refine(aW.out _).mono ?_;rintro e ab ⟨rfl,rfl⟩));go_wp2_with (go_at_call 33;refine(QK cE a4 (E.out.kept (w':=wr.drew) (T:=λ_=>False) kD nF) (by omega) (by omega) (by omega) r cP).mono ?_;rintro e l ⟨rfl,aw,O,aJ,P,al,aT,p,a5,g⟩;have R:Hid (yk M l (λk=>X k\/(wr.heap.size<=k/\k<l.heap.size)) c o m aw O ⟨cut V.vs r,V.n0⟩ aJ P al aT):=p;have H:Hid (Kept X wr l):=⟨g.os,g.tape,g.output,g.size,g.block⟩;have bC:l.cell? ⟨c,6,none⟩=some (.bool true):=p.c.2.2.2.2.2.1;have bp:l.frozen? ⟨c,6,none⟩=false:=p.c.2.2.2.2.2.2 6;have aX:=p.lt;clear p g);go_roundw
         case rel=>
          have cT:=vP V.vs r cP;have cD:=ZM V.vs r;exact⟨aj+1,by omega,by go_num,O,⟨cut V.vs r,V.n0⟩,DO.on F.out G.out (H.out.trans (Kept.setCell (S:=λk=>k=c) l ⟨c,6,none⟩ _ rfl) (λk d=>.inl (by rw [show k=c from d];exact E.out.xp))) ⟨_,_,_,_,_,_,_,R.out.again⟩ (λk d=>d.imp id (λh=>h.1)),by show (cut V.vs r).length+(aj+1)<=473;omega,by show weight (cut V.vs r)<=473;omega,bb,by push_cast;omega⟩
         case measure=>simp [intOf];omega
        .have cC:decide ((x.length:Int)>0)=false:=decide_eq_false (by omega);go_wp2_with (go_at_call 33;refine(QK cE a4 (E.out.kept (w':=wr) (T:=λ_=>False) kD nF) (by omega) (by omega) (by omega) j bg).mono ?_;rintro e l ⟨rfl,aw,O,aJ,P,al,aT,p,a5,g⟩;have R:Hid (yk M l (λk=>X k\/(wr.heap.size<=k/\k<l.heap.size)) c o m aw O ⟨cut V.vs j,V.n0⟩ aJ P al aT):=p;have H:Hid (Kept X wr l):=⟨g.os,g.tape,g.output,g.size,g.block⟩;have bC:l.cell? ⟨c,6,none⟩=some (.bool true):=p.c.2.2.2.2.2.1;have bp:l.frozen? ⟨c,6,none⟩=false:=p.c.2.2.2.2.2.2 6;have aX:=p.lt;clear p g);go_roundw
         case rel=>
          have cT:=vP V.vs j bg;have cD:=ZM V.vs j;exact⟨aj+1,by omega,by go_num,O,⟨cut V.vs j,V.n0⟩,DO.on F.out G.out (H.out.trans (Kept.setCell (S:=λk=>k=c) l ⟨c,6,none⟩ _ rfl) (λk d=>.inl (by rw [show k=c from d];exact E.out.xp))) ⟨_,_,_,_,_,_,_,R.out.again⟩ (λk d=>d.imp id (λh=>h.1)),by show (cut V.vs j).length+(aj+1)<=473;omega,by show weight (cut V.vs j)<=473;omega,bb,by push_cast;omega⟩
         case measure=>simp [intOf];omega
       .have cj:decide ((V.vs.length:Int)>0)=false:=decide_eq_false (by omega);have bO:V.vs=[]:=ed (by omega);have bD:Hid (V.vs=[]):=bO;clear bO;go_wp2_with fail;refine(jC M c9 wr o m S' D V E.out.fore ⟨#[]⟩ (.inl rfl) (by decide) 50 (by omega) (by omega) (by omega) (by omega)).mono ?_;rintro e l ⟨O,aw,aJ,dD,dB,rfl,ac,aD,cz,b2,b6⟩;obtain rfl:dB=[]:=by have a9:=qB.all cz;rw [bD.out] at a9;exact List.perm_nil.1 a9
        have bz:=yk.aft E.out ac aD (by have:=ac.reads1;omega);have bw:Hid (yk M l (λk=>X k\/(wr.heap.size<=k/\k<l.heap.size)) c o m aw O V aq C af G'/\Kept X wr l):=bz;have a5:=ac.reads1;clear ac aD cz b2 b6 bz;go_wp2;go_roundw
        case rel=>exact⟨t+1,by omega,by go_num,O,V,DO.on F.out G.out bw.out.2 ⟨_,_,_,_,_,_,_,bw.out.1⟩ (λk d=>d.imp id (λh=>h.1)),bD.out,by push_cast;omega,by push_cast;omega⟩
        case measure=>simp [intOf];omega
  .have cu:decide ((t:Int)<=(be:Int))=false:=decide_eq_false (by omega);obtain⟨z,aI⟩:∃z,z=wr.heap.size:=⟨_,rfl⟩;obtain⟨⟨X,⟨o,m,S',aq,C,af,G',A⟩,ag⟩,d⟩:=aH.out;have s:Kept (λk=>w.heap.size<=k) w wr:=au.out.trans d (λk d=>.inl (L.out k d).1);have Y:=A.sit (w0:=w) ⟨s.os,s.tape,s.output,s.size,λk d _=>s.block k d (by omega)⟩ (λk d=>(ag k d).elim (λh=>(L.out k h).1) (λh=>by omega));generalize Vt o m (.slice aq ae.vs.length C) ae.n0=bN at*
   have c7:Hid (∀(W:World),W.heap[c]? =some bN->W.cell? ⟨c,1,none⟩=some (.pointer (some ⟨m,0,none⟩))):=λW cL=>by have e:(some bN:Option Obj)=_:=(Y.head).symm.trans A.head;rw [aK e] at cL;exact(ak W c 1 _ _ _ cL).trans rfl
   have bS:Hid (xH M w wr c o m bN S' D ae):=Y;have hbs:=Y.bs_lt;obtain⟨Z,bx,cq⟩:=BC;have cw:Hid (∀j,j<300->Z[j]? =some (.int .u8 0)):=λj ao=>by rw [bx,List.getElem?_toArray,List.getElem?_replicate,aB ao]
   clear bx A d ag s Y;go_wp2_with (go_at_call 21;refine(bv.out _).mono ?_;rintro e ab ⟨rfl,B⟩;rw [B];clear B ab);have bi:=heap_alloc_new wr (.cells Z 5);have bG:Kept (λ_=>False) wr (wr.alloc (.cells Z 5)):=Kept.alloc _ _ _;have c2:(wr.alloc (.cells Z 5)).heap.size=wr.heap.size+1:=by simp
   generalize wr.alloc (.cells Z 5)=cx at*;have cv:Hid (xH M w cx c o m bN S' D ae):=bS.out.keep bG;have bK:Hid (cx.heap[wr.heap.size]? =some (.cells Z 5 (0,0))):=bi;have bE:Hid (¬S' wr.heap.size):=λaR=>by have:=bS.out.fore.disk.lt _ aR;omega
   rw [<-aI] at bK bE;have aM:z≠m:=by omega
   have dm:Hid (z=wr.heap.size):=aI;rw [<-aI];clear cq bi bG aI;go_loopw [16] (λN U=>∃i:Nat,i<=117/\N=.int .i64 i/\∃bF bh aN,xH M w U c o m bN bF bh aN/\weight aN.vs<=4*i/\aN.n0<=2000+(i:Int)/\bh.reads<=15000000+40*(i:Int)/\U.heap[z]? =some (.cells Z 5 (0,0))/\¬bF z) (λN _=>117-(intOf N).toNat)
   case atStart=>exact⟨0,by omega,rfl,S',D,ae,cv.out,by rw [ad.out];simp [weight],by omega,by omega,bK.out,bE.out⟩
   case round=>
    obtain⟨i,dc,rfl,bZ,bU,an,aS,dv,dw,dx,bL,a8⟩:=hrel;have c4:=c7.out _ aS.head;have bu:Hid (xH M w wr c o m bN bZ bU an):=aS;have aG:Hid (wr.heap[z]? =some (.cells Z 5 (0,0))):=bL;have bm:Hid (¬bZ z):=a8;clear aS bL a8;by_cases K:i<117
    .have aF:(i:Int)<117:=by omega
     have cd:Hid (zu wr (λk=>k=z) (some ⟨z,0,none⟩) (List.replicate 300 (0:UInt8))):=.inr ⟨z,0,rfl,rfl,(lT aG.out),λj ao=>by
      rw [iF] at ao;rw [ak wr z _ _ _ _ aG.out,aV,cw.out j ao,List.getElem_replicate]
      rfl⟩
     have b0:Hid (Calls Tryz.prog 27 #[.pointer (some ⟨m,0,none⟩),.string ⟨#[102,117,108,108]⟩,.slice (some ⟨z,0,none⟩) 300 300] wr λe w'=>∃S' b8,e=.returned (.tuple #[.int .i64 (an.n0+1),.int .i64 0])/\xm M wr w' o m bZ S' bU b8 40 (some o)/\xH M w w' c o m bN S' b8 (an.add ⟨#[102,117,108,108]⟩ false (List.replicate 300 (0:UInt8)))/\b8.reads<=bU.reads+40):=by have a9:=Vu cB a4 bu.out (by omega) (by omega) (by omega) ⟨#[102,117,108,108]⟩ (by decide) (λk=>k=z) (some ⟨z,0,none⟩) 300 (List.replicate 300 (0:UInt8)) cd.out (λk d=>by rw [show k=z from d];exact⟨bm.out,aM⟩) (by rw [iF];omega) (by rw [iF];omega) (by omega);rw [iF] at a9;exact a9
     go_wp2_with fail;refine b0.out.mono ?_;rintro e cn ⟨bX,cN,rfl,bI,bj,dt⟩;have av:=xm.far bI (lT aG.out) bm.out aM;have co:Hid (xH M w cn c o m bN bX cN (an.add ⟨#[102,117,108,108]⟩ false (List.replicate 300 (0:UInt8)))):=bj;have bo:Hid (cn.heap[z]? =some (.cells Z 5 (0,0))/\¬bX z):=⟨av.1.trans aG.out,av.2⟩;have cs:Hid (weight (an.add ⟨#[102,117,108,108]⟩ false (List.replicate 300 (0:UInt8))).vs=weight an.vs+qd (List.replicate 300 (0:UInt8)).length):=ja _ _ _ _;clear bI bj av;go_wp2;go_roundw
     case rel=>exact⟨i+1,by omega,by go_num,bX,cN,_,co.out,by rw [cs.out,iF];unfold qd;omega,by show an.n0+1<=_;push_cast;omega,by push_cast;omega,bo.out.1,bo.out.2⟩
     case measure=>simp [intOf];omega
    .have aF:decide ((i:Int)<117)=false:=decide_eq_false (by omega);go_wp2;go_ret;exact⟨rfl,bu.out.end⟩
end keep
namespace keep
open Go.RowKit disk ref book Go.Deep law
theorem DN:Tryz.prog.bytesOf 3=8:=by kernel_rfl
theorem open_ints{I:Type}{enc:TypeId×Value->I}{B:World}{o:Nat}{G:DataW I×List MemPlace}{x:Option Addr}{c cap:Nat}(h:DataW.trod enc Tryz.prog B 0 (λ_=>true) true o 24 [.slice x c cap]=some G)(f:(G.1.weights Tryz.prog 24).all (· <=reachBytes)=true):∃l:List Int,c=l.length/\KP B (λk=>k<B.heap.size) x l/\l.length<=140737488355326:=by
 rcases open_slice1 Tryz.underlying24 jJ h with⟨d,rfl⟩|⟨a,C,A,m,n,V,D,Pl,d,_,E,L,r,rfl,w⟩
 .simp only [ee,Value.slice.injEq,and_true] at d;obtain⟨rfl,rfl,rfl⟩:=d;exact⟨[],rfl,λj q=>by simp at q,by simp⟩
 .simp only [ee,Value.slice.injEq,and_true] at d;obtain⟨rfl,rfl,rfl⟩:=d;have H:c<=m:=by rw [r];simpa using E
  obtain⟨z,u⟩:=choose_lt (α:=Int) (n:=m) (p:=λi k=>V i=.int .i64 k/\zs k) (λi g=>by
   obtain⟨k,t,y⟩:=y9 Tryz.underlying3 (w i g).2;simp only [ee,and_true] at t
   exact⟨k,t,y⟩)
  refine⟨(List.range c).map z,by simp,λj q=>?_,?_⟩
  .have v:j<c:=by simpa using q
   obtain⟨b,K,rfl,s,d⟩:=Zr (λi g=>(w i g).1) (by omega:0<m);have e:((List.range c).map z).getD j 0=z j:=by simp [v]
   rw [e];exact⟨b,K,rfl,s,s,by rw [d j (by omega),(u j (by omega)).1],(u j (by omega)).2⟩
  .unfold DataW.weights at f;rw [Tryz.underlying24] at f;simp only [mA,lH,aS,aO] at f;have F:=f.1;rw [DN,eF,i3] at F;have J:reachBytes=140737488351232:=by decide
   rw [eF,i3];omega
end keep
namespace emptied
open Go.ChangeShapes Go.WideShapes Go.ChangeAt Go.RowKit
open disk ref law keep
theorem own:ownKnob Tryz.prog.godebug=none:=by kernel_rfl
theorem qL:laidOutB Tryz.prog=true:=by kernel_rfl
theorem walk(d:World)(a:Option Addr)(cap:Nat)(b:List bn)(h:Qa d (λk=>k<d.heap.size) a b)(j:b.length<=2000000000000)(g:Option Addr)(n:Nat)(c:List Int)(m:KP d (λk=>k<d.heap.size) g c)(l:c.length<=140737488355326)(i:Int)(p:zs i):
 Calls Tryz.prog 11 #[.slice a b.length cap,.slice g c.length n,.int .i64 i] d λe w'=>e=.returned (.bool true)/\Kept (λ_=>False) d w':=
 Jv prog.GZ prog.kF prog.vM prog.uZ prog.uw (λf o=>by have m:f= -1:=o;omega) d (λk=>k<d.heap.size) (λ_ h=>h) a cap b h j g n c m l i p
set_option maxRecDepth 100000 in
theorem yw(aI:Type)(enc:TypeId×Value->aI)(m:World)(x:Nat)(args:Array Value)(z F:List (DataW aI))(k:List MemPlace)
 (f:∀(j:Nat) t v,Tryz.f11.params[j]? =some t->args[j]? =some v->Value.okWide Tryz.prog m .any x t v)
 (y:DataW.Whole enc Tryz.prog Tryz.f11.params.toList Rows.emptiedSpec.vars false m args.toList z F k)
 (c:(DataW.weightsEach Tryz.prog (Tryz.f11.params.toList++(OpenSpec.ofChange Rows.emptiedSpec).bare.plain.varTypes Tryz.prog) (z++F)).all (· <=reachBytes)=true):
 Calls Tryz.prog 11 args m λe o=>∃v,e=.returned v/\Rows.emptiedSpec.post enc Tryz.prog Tryz.f11 false true false false m args v o:=by
 have r:=y;have g:=λp au=>y.lt p au;obtain⟨p,q,s,am,rfl,aD,aJ⟩:=y;have U:DataW.TrodAll enc Tryz.prog m 0 (λ_=>true) true Tryz.f11.params.toList args.toList z p:=s;rw [Tryz.params11] at U f c;obtain⟨O,aF,J,aB,D,aL,ab,rfl,rfl,H,ag⟩:=trodAll_cons U;obtain⟨G,aA,T,aE,A,aO,rfl,rfl,rfl,K,ap⟩:=trodAll_cons ag;obtain⟨L,aH,ad,aG,u,aK,rfl,rfl,rfl,Q,ax⟩:=trodAll_cons ap;obtain⟨rfl,rfl,rfl⟩:=trodAll_nil ax;obtain rfl:args=#[O,G,L]:=by cases args;simp_all
 obtain⟨rfl,rfl⟩:=trodVars_none am;obtain⟨aj,av,an,rfl⟩:=okWide_slice Tryz.underlying26 (f 0 26 O rfl rfl);obtain⟨ay,aw,ar,rfl⟩:=okWide_slice Tryz.underlying24 (f 1 24 G rfl rfl);obtain⟨X,rfl⟩:=okWide_int Tryz.underlying3 (f 2 3 L rfl rfl);have u0:=H;obtain⟨Y,S⟩:=H;have N:(J.weights Tryz.prog 26).all (· <=reachBytes)=true:=aQ.2 (λn C=>aQ.1 c n (DataW.weights_mem_each (j:=0) rfl rfl n C));obtain⟨I,rfl,B,ai⟩:=uA S N;have u1:=K;obtain⟨aa,W⟩:=K;have M:(T.weights Tryz.prog 24).all (· <=reachBytes)=true:=aQ.2 (λn C=>aQ.1 c n (DataW.weights_mem_each (j:=1) rfl rfl n C));obtain⟨az,ak,ao,ae⟩:=open_ints W M;subst ak;have u2:=Q;obtain⟨Z,V⟩:=Q;obtain⟨k2,ah,R⟩:=y9 Tryz.underlying3 V;obtain rfl:X=k2:=by injection ah with e;injection e
 clear s;simp only [aM] at r g;refine(walk m aj an I B ai ay ar az ao ae X R).mono λe o ⟨al,aq⟩=>?_;subst al;have l:Below m.heap.size m o:=aq.below fE (aC _)
 have d:∀i∈D++(A++(u)),m.sameAt o i:=λi a=>by
  have E:=g i a
  cases i with
  |cell b aP=>exact ik (w:=m) (l.block b E)
  |map b=>exact l.block b E
 refine⟨_,rfl,[J,T,ad],[],D++(A++(u)),[],D++(A++(u)),[],r,?_,?_,rfl,l.frame _,λh=>by cases h⟩;.exact trodAll_mk1 (shut_bool Tryz.underlying4 _)
 .exact trodAll_mk3 (WideElems.Trod_stays (P:=Tryz.prog) qL (by kernel_rfl) (aN (by kernel_rfl)) u0 (λi a=>d i (ac _ a)) (λi a=>by simpa using g i (ac _ a))) (WideElems.Trod_stays (P:=Tryz.prog) qL (by kernel_rfl) (aN (by kernel_rfl)) u1 (λi a=>d i (af _ (ac _ a))) (λi a=>by simpa using g i (af _ (ac _ a)))) (WideElems.Trod_stays (P:=Tryz.prog) qL (by kernel_rfl) (aN (by kernel_rfl)) u2 (λi a=>d i (af _ (af _ a))) (λi a=>by simpa using g i (af _ (af _ a))))
def zy(w0:World):World:=
 let put (h:Array Obj) (g:Nat) (cs:Array Value):Array Obj:=h.modify g fun
  |.cells _ t frozen=>.cells cs t frozen
  |o=>o
 let h1:=put w0.heap 1 (Lib.firstTab.map λz=>Value.int .u8 z).toArray
 let h2:=put h1 2 ((List.range 16).flatMap λi=>[Value.int .u8 (Lib.accLo i),Value.int .u8 (Lib.accHi i)]).toArray
 {w0 with heap:=h2}
theorem yx(a:Os)(args:Array Value):laidMet Tryz.prog Rows.emptiedRow.laid ((zy (World.holding Tryz.prog a ⟨#[],#[],[]⟩)).forCall (λ_ _=>0) ⟨#[],args,[]⟩).memory:=
 (LaidIn.of_run (l:=[("unicode/utf8.acceptRanges",Rows.laid_unicode_utf8_acceptRanges),("unicode/utf8.first",Rows.laid_unicode_utf8_first)]) [2,1] 8 (by kernel_rfl) (by kernel_rfl) (by kernel_rfl) (by kernel_rfl)).met
theorem qJ(b:Os){g:Type}(enc:TypeId×Value->g):
 (OpenSpec.ofChange Rows.emptiedSpec).preRow enc Tryz.prog Tryz.f11 Rows.emptiedRow.domain false Rows.emptiedRow.laid ((zy (World.holding Tryz.prog b ⟨#[],#[],[]⟩)).forCall (λ_ _=>0) ⟨#[],#[.slice none 0 0,.slice none 0 0,.int .i64 0],[]⟩).memory #[.slice none 0 0,.slice none 0 0,.int .i64 0]:=by
 have c:(DataW.whole enc Tryz.prog ((zy (World.holding Tryz.prog b ⟨#[],#[],[]⟩)).forCall (λ_ _=>0) ⟨#[],#[.slice none 0 0,.slice none 0 0,.int .i64 0],[]⟩).memory Tryz.f11.params.toList Rows.emptiedSpec.vars false #[Value.slice none 0 0,Value.slice none 0 0,Value.int .i64 0].toList 8).map (λf=>(f.1,f.2.1))=
  some ([.nil,.nil,.lit (.int .i64 0)],[]):=by kernel_rfl
 obtain⟨⟨h,j,i⟩,e,a⟩:=io.1 c;simp only [eK] at a;obtain⟨rfl,rfl⟩:=a;exact OpenSpec.preRow_of_cond 8 e (by kernel_rfl) (λk d=>by cases d) (by kernel_rfl) (yx b _)
set_option maxRecDepth 100000 in
theorem xZ(d:Os)(a:d.Started)(j:Type)(enc:TypeId×Value->j)(F:Stop.Interp):
 ReturnsInHanded {} Tryz.checked d 11 .any ((OpenSpec.ofChange Rows.emptiedSpec).preRow enc Tryz.prog Tryz.f11 Rows.emptiedRow.domain false Rows.emptiedRow.laid) (((OpenSpec.ofChange Rows.emptiedSpec).at F).post enc Tryz.prog Tryz.f11 false true false false):=by
 refine returnsInHanded_of_row (C:=Tryz.checked) (s:=OpenSpec.ofChange Rows.emptiedSpec) own a (by kernel_rfl) Tryz.func11
  (witness_row_at (enc:=enc) (C:=Tryz.checked) false (zy (World.holding Tryz.prog d ⟨#[],#[],[]⟩)) #[.slice none 0 0,.slice none 0 0,.int .i64 0] rfl (by kernel_rfl) (by kernel_rfl) (by kernel_rfl) (qJ d enc)) ?_
 intro k f args i h c e g _ _ b l _ _;exact yw j enc k f args i h c e g b
theorem gV:Rows.EmptiedSaid:=
 OpenClaim.holds_of_cond 11 Tryz.f11 rfl rfl rfl rfl rfl rfl rfl ⟨rfl,rfl,rfl,rfl,rfl⟩ rfl rfl rfl rfl rfl (by kernel_rfl) Tryz.func11 (by kernel_rfl)
  (aN (by kernel_rfl)) (by unfold Func.isWrapper;first|(rw [aB (by decide+kernel)];kernel_rfl)|(rw [az (by decide+kernel)];exact⟨rfl,rfl⟩))
  (λb a c enc _ F=>by rw [OpenClaim.pre_eq_preRow];exact xZ b a c enc F)
theorem plain(f:FuncId)(fn:Func)(d:Tryz.pinned.checked.prog.funcNamed "cairn/cairnkeep.Emptied" =some f)(b:Tryz.pinned.checked.prog.funcs[f]? =some fn):
 false=Tryz.pinned.checked.prog.looks []/\∀(j:Nat) t,fn.params[j]? =some t->Tryz.pinned.checked.prog.wantsStandIn t=false:=by
 obtain rfl:f= 11:=aK ((show Tryz.prog.funcNamed "cairn/cairnkeep.Emptied" =some 11 by kernel_rfl).symm.trans d) |>.symm;obtain rfl:fn=Tryz.f11:=(aK (Tryz.func11.symm.trans b)).symm;refine⟨by kernel_rfl,λj t c=>?_⟩;rw [Tryz.params11] at c;have a:t= 26\/t= 24\/t= 3:=by simpa using iu c
 rcases a with rfl|rfl|rfl;.exact(show Tryz.prog.wantsStandIn 26=false by kernel_rfl)
 .exact(show Tryz.prog.wantsStandIn 24=false by kernel_rfl)
 .exact(show Tryz.prog.wantsStandIn 3=false by kernel_rfl)
theorem card:Rows.EmptiedCardSaid:=
 Claim7.holds_tied_plain_at .later [] _ _ _ _ gV (λ_ h=>by cases h) (by kernel_rfl) (λ_ h=>by cases h) emptied_row_tie rfl ⟨rfl,rfl⟩ (by kernel_rfl) rfl plain (by kernel_rfl)
end emptied
theorem emptied_holds:Rows.EmptiedCardSaid:=emptied.card
end Go.Proofs.YtcoengihaobddaaGreatDoor
