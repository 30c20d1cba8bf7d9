/- Part 38 of 50 of a proof: Fall4, Fall5 -/
import Derived.Test.YtcoengihaobddaaGreatDoorJe17
set_option maxHeartbeats 8000000
set_option linter.unusedVariables false
set_option linter.unusedSimpArgs false
set_option maxRecDepth 8000
namespace Go.Proofs.YtcoengihaobddaaGreatDoor
namespace prog
open Go.ChangeShapes Go.WideShapes Go.ChangeAt Go.RowKit disk ref
open keys (zg zd zq zl)
theorem dL{i:Array Oper}{rest:List Oper}{o:Oper}{a:Act}{w:World}{Q:Exit->Act->World->Prop}(l:o.guard=none)(s H:Operand)(B:o.op=.call {callee:=.builtin .append,args:=#[s,H],argTypes:=#[156, 156] })
 (e:Option Addr) (n d:Nat) (k:List Value) (F:a.eval s=.slice e n d) (j:w.ownsRow 0 160 129 (.slice e n d) n k) (b:Nat) (f:List Value) (G:a.eval H=.slice (some ⟨b,0,none⟩) 1 1) (v:w.heap[b]? =some (.cells f.toArray 160 (0,0))) (C:f.length=129) (z:∀u∈f,u.oneCell'=true) (I:n<=1000)
 (h:∀g c w',w'.ownsRow 0 160 129 (.slice (some ⟨g,0,none⟩) (n+1) c) (n+1) (k++f)->w.grownBy w' (Value.slice e n d).ownBlock->((Value.slice e n d).ownBlock=some g\/g=w.heap.size)->wpList Tryz.prog i Q rest (a.put o.dst (.slice (some ⟨g,0,none⟩) (n+1) c)) w'):wpList Tryz.prog i Q (o::rest) a w:=by
 refine md l λJ y=>?_;obtain⟨A,r,m,p,q⟩:=info_parts Tryz.infoCw;obtain⟨g,c,w',D,t,E,x,_⟩:=run_append_lies (P:=Tryz.prog) (w:=w) 156 o.type 0 160 A _ 129 136 Tryz.underlying156 r m p q (et (· +1) zI.1) (by omega) (.slice e n d) n k j ⟨b,0,none⟩ 1 1 f (by rw [C]) (World.news_of_block v) z (by omega) (by unfold maxLen;omega) (by omega) (ai _) _ rfl;unfold Oper.wp execOp;simp only [B,resolve,invoke,builtin,il,iI,eM,iQ,aT,im,F,G,D];exact y _ _ (h g c w' t E x)
structure Jq (W wr:World) (bd:Nat) (S:Nat->Prop) (D:Dk) (ws:List (Nat×List Value)) (k:Nat) (a:Option Addr) (c:Nat):Prop where
 disk:ze wr bd S {D with reads:=D.reads+k}
 row:wr.ownsRow 0 160 129 (.slice a k c) k ((ws.take k).map zR).flatten
 fresh:∀j,(Value.slice a k c).ownBlock=some j->W.heap.size<=j
 kept:Kept (λj=>j=bd) W wr
theorem Jq.next{s wr b l:World}{bd:Nat}{S:Nat->Prop}{D:Dk}{ws:List (Nat×List Value)}{k:Nat}{a:Option Addr}{c:Nat}(h:Jq s wr bd S D ws k a c)(t:k<ws.length)(u:∀j,S j->j<s.heap.size)(q:ze b bd S {D with reads:=D.reads+k+1 })(k3:Kept (λj=>j=bd) wr b)(r:Obj){g o:Nat}
 (m:l.ownsRow 0 160 129 (.slice (some ⟨g,0,none⟩) (k+1) o) (k+1) (((ws.take k).map zR).flatten++zR ws[k])) (f:(b.alloc r).grownBy l (Value.slice a k c).ownBlock) (p:(Value.slice a k c).ownBlock=some g\/g=(b.alloc r).heap.size):Jq s l bd S D ws (k+1) (some ⟨g,0,none⟩) o:=by
 have w:Kept (λ_=>False) b (b.alloc r):=Kept.alloc _ _ _;have v:=Kept.grown f h.fresh;have i:=(w.mono fE).trans v iL;refine⟨?_,?_,λj d=>?_,(h.kept.trans k3 iL).trans i (λj d=>.inr d)⟩
 .have:=q.kept i (λj d z=>by have:=u j d;omega);rw [show D.reads+((k+1:Nat):Int)=D.reads+k+1 from by omega];exact this
 .rw [ar t,eh,aY];simpa using m
 .have e:g=j:=by simpa [Value.ownBlock] using d
  subst e;rcases p with n|n;.exact h.fresh g n
  .have x:=h.kept.size;have y:=k3.size;simp at n;omega
theorem Jq.rows{t wr:World}{bd:Nat}{S:Nat->Prop}{D:Dk}{ws:List (Nat×List Value)}{a:Option Addr}{c:Nat}(h:Jq t wr bd S D ws ws.length a c)(f:∀p∈ws,zW p.2/\p.1<65536)(u:ws.length<=18):fC wr (λj=>t.heap.size<=j/\j<wr.heap.size) a ws:=by
 refine⟨f,?_,by omega⟩;rcases mL ws.length with i|i;.exact .inl (ed i)
 .have d:=h.row;rw [eX] at d;rcases d.2 with⟨_,v⟩|⟨g,m,s,r,_,o,_⟩;.omega
  .cases r;have e:=(lT o);refine .inr ⟨g,rfl,⟨h.fresh g rfl,e⟩,e,λk q=>?_⟩;rw [show ws.length=(ws.map zR).length from by simp] at d;have:=q9 d (λb n=>by obtain⟨p,l,rfl⟩:=av.1 n;simp [zR,(f p l).1.1]) k (by simpa using q);simpa [zR] using this
section
attribute [local go_sem ↓] Qk Ql
attribute [local go_sem] cA cB
theorem KA(w:World)(bd:Nat)(S:Nat->Prop)(D:Dk)(h:ze w bd S D)(aa:zs D.fuse)(ad:(D.fuse==0)=false)(an:0<=D.reads)(aT:D.reads<=4611686018427380000)(ws:List (Nat×List Value))(aW:0<ws.length)(ac:ws.length<=18)(o:∀p∈ws,zW p.2/\p.1<65536)(ao:D.flush.look 0=zo (zN ws))(H:∀i (aV:i<ws.length),D.flush.look (3+(i:Int))=ws[i].2):
 Calls Tryz.prog 55 #[.pointer (some ⟨bd,0,none⟩)] w λe w'=>e=.returned (.bool (q8 {D.flush with reads:=D.reads+1+(ws.length:Int)} ws).1)/\yq w w' bd S (q8 {D.flush with reads:=D.reads+1+(ws.length:Int)} ws).2:=by
 obtain⟨J,T,aU⟩:∃J:List Value,J=z9/\∀w,(zeroValue 154).run Tryz.prog w=.ok (.agg J.toArray) w:=⟨z9,rfl,qa Tryz.infoPage⟩;have aB:Hid (zW J):=by rw [T];exact zI
 clear T;have aC:Hid _:=qc Tryz.infoPage;have u:(zN ws).Ok:=dy (by omega);have l:(zN ws).items.length=ws.length:=by simp [zN]
 have aO:Hid _:=h;have E:Hid _:=yv u;have r:D.flush.reads=D.reads:=by unfold Dk.flush;split<;>rfl
 have Z:D.flush.ps=[]:=by unfold Dk.flush;rw [az (by simpa using ad)]
 change Hid _ at l ad ao H o r Z u;clear h;go_enter Tryz.func55,Tryz.ntmps55
 go_wp2_with (first
  |(go_at_call 40;refine(yS _ bd S D aO aa).mono ?_;rintro e aQ ⟨rfl,⟨m,K,v⟩,V⟩;rw [ad.out];have C:Hid (ze aQ bd m D.flush):=K;change Hid _ at v V;clear K)
  |(go_at_call 81;refine(kg _ bd m D.flush C 0 (by constructor<;>omega) (by rw [r.out];exact an) (by rw [r.out];omega)).mono ?_;rintro e b ⟨rfl,O,F⟩;rw [ao.out];have x:Hid (ze b bd m {D.flush with reads:=D.flush.reads+1 }):=O;change Hid _ at F;clear O)
  |(show wpList _ _ _ ({dst:=none,op:=.store _ (.tmp 3) (.tmp 10),type:=_,pos:=_,after:=_,guard:=_}::_) _ _;refine zi rfl 154 (.tmp 3) (.tmp 10) rfl _ _ (zo (zN ws)) (by simp) rfl rfl (by rw [E.1];exact aC) (by rw [aw,aB.1,E.1]) E.2 ?_;have Y:Hid (yd (b.alloc (.cells (zo (zN ws)).toArray 154)) b.heap.size (zN ws)):=⟨⟨heap_alloc_new b _⟩,u⟩)
  |(go_at_call 82;refine(uI _ _ _ Y).mono ?_;rintro e z ⟨rfl,N⟩;rw [N,l.out];clear N z))
 have ak:Hid (ze (b.alloc (.cells (zo (zN ws)).toArray 154)) bd m {D.flush with reads:=D.flush.reads+1 }):=x.kept (Kept.alloc (λ_=>False) b _) nF;have ap:Hid (Kept S w (b.alloc (.cells (zo (zN ws)).toArray 154))):=(V.trans F (λk ar=>.inl (v k (by rw [ar];exact C.bdS)))).trans (Kept.alloc _ _ _) iL;have X:Hid _:=x.lt;have aJ:=x.lt bd x.bdS;have aS:(b.alloc (.cells (zo (zN ws)).toArray 154)).heap.size=b.heap.size+1:=by simp
 have aR:=F.size;generalize (b.alloc (.cells (zo (zN ws)).toArray 154))=aG at*;generalize b.heap.size=I at*;go_loopw [4,14] (λaX t wr=>∃(k:Nat) (a:Option Addr) (c:Nat),k<=ws.length/\t=.int .i64 k/\aX=.slice a k c/\Jq aG wr bd m {D.flush with reads:=D.flush.reads+1} ws k a c) (λ_ t _=>ws.length-(intOf t).toNat)
 case atStart=>
  refine⟨0,none,0,ai _,rfl,rfl,?_,aP _ 0 160 129,λj f=>(by cases f),Kept.refl _ _⟩;have:=ak.out;simpa using this
 case round=>
  obtain⟨k,a,c,ar,rfl,rfl,hfin⟩:=hrel;change Hid _ at hfin;by_cases d:k<ws.length
  .have M:Hid _:=Y.kept hfin.kept (λaf=>by have e:=af;omega);have ay:Hid (YY I (zN ws).kind k=.slice (some ⟨I,4+k*2,none⟩) 2 (124-k*2)):=rfl
   have aq:Hid (numOf (((zN ws).bytes.drop (4+k*2)).take 2)=ws[k].1):=by
    have B:=u.item k (by rw [l.out];exact d);have ab:(zN ws).items[k]'(by rw [l.out];exact d)=bytesOf 2 ws[k].1:=by simp [zN]
    rw [ab] at B;have ae:numOf (((zN ws).bytes.drop (4+k*2)).take 2)=numOf (bytesOf 2 ws[k].1):=et numOf B;show _=_;rw [ae];exact yJ 2 _ (by have:=(o _ (ag d)).2;omega)
   have al:Hid (Dk.look {D.flush with reads:=D.flush.reads+1+(k:Int)} (3+(k:Int))=ws[k].2):=H.out k d;have L:ws[k].2.length=128:=(o _ (ag d)).1.1;have au:Hid (zW ws[k].2):=(o _ (ag d)).1;have aA:ws[k].1<65536:=(o _ (ag d)).2;have ah:Hid (∀(b z:World) (aF:Obj) (g A:Nat),ze b bd m {D.flush with reads:=D.flush.reads+1+(k:Int)+1}->Kept (λj=>j=bd) wr b->z.ownsRow 0 160 129 (.slice (some ⟨g,0,none⟩) (k+1) A) (k+1) (((ws.take k).map zR).flatten++.int .i64 (ws[k].1:Int)::ws[k].2)->(b.alloc aF).grownBy z (Value.slice a k c).ownBlock->((Value.slice a k c).ownBlock=some g\/g=(b.alloc aF).heap.size)->Jq aG z bd m {D.flush with reads:=D.flush.reads+1} ws (k+1) (some ⟨g,0,none⟩) A):=λb z aF g A B ab ae aH aN=>hfin.next d (λj f=>by have:=X.out j f;omega) B ab aF ae aH aN;generalize aM:ws[k]=q at*;obtain⟨ax,aL⟩:=q;clear aM;simp only at L aA
   go_wp2_with (first
    |(go_at_call 84;refine(Y1 _ I (zN ws) M k (by rw [l.out];exact d) (by show 1<=zm 1;decide)).mono ?_;rintro e n ⟨rfl,s⟩;rw [s,ay.out];clear s n)
    |(go_at_call 83;refine(yQ _ I _ _ M.bs (4+k*2) 2 (124-k*2) ax (by rw [u.len];omega) (by omega) aq (by omega)).mono ?_;rintro e n ⟨rfl,s⟩;rw [s];clear s n)
    |(go_at_call 81;refine(kg _ bd m _ hfin.disk (3+(k:Int)) (by constructor<;>omega) (by show 0<=D.flush.reads+1+(k:Int);rw [r.out];omega) (by show D.flush.reads+1+(k:Int)<=_;rw [r.out];omega)).mono ?_;rintro e n ⟨rfl,U,P⟩;rw [al.out];have aE:Hid (ze n bd m {D.flush with reads:=D.flush.reads+1+(k:Int)+1 }):=U;have R:Hid (Kept (λj=>j=bd) wr n):=P;clear U P)
    |(refine dL rfl (.tmp 17) (.tmp 26) rfl a k c ((ws.take k).map zR).flatten (by rfl) (by exact(R.trans (Kept.alloc (λ_=>False) n _) fE).owns hfin.row (λj f af=>by have B:=hfin.fresh j f;omega)) n.heap.size (.int .i64 (ax:Int)::aL) (by rfl) (heap_alloc_new n _) (by simp [L]) (aZ.2 ⟨rfl,au.2⟩) (by omega) ?_;intro g A aK G y W;have aI:Hid (Jq aG aK bd m {D.flush with reads:=D.flush.reads+1} ws (k+1) (some ⟨g,0,none⟩) A):=ah.out _ _ _ _ _ aE R G y W;clear G y W))
   go_roundw
   case rel=>exact⟨k+1,some ⟨g,0,none⟩,A,by omega,by go_num,rfl,aI⟩
   case measure=>simp [intOf];omega
  .have av:k=ws.length:=by omega
   subst av;have aj:Hid _:=hfin.rows o ac;go_wp2_with (go_at_call 85;refine(Zc wr bd m _ _ hfin.disk a c ws aj (λj f af=>by have B:=X.out j f;omega) (λj f=>f.2) (kx aa) (by show D.flush.ps.length<=_;rw [Z.out];simp)).mono ?_;rintro e n ⟨rfl,Q⟩;change Hid _ at Q);go_ret;have aD:=ap.trans hfin.kept (λj f=>.inl (v j (by rw [show j=bd from f];exact C.bdS)));have am:=yq.trans (D1:=D) (λj f=>.inl (v j f)) aD Q.out;simp only [r.out] at am ⊢;exact⟨rfl,am⟩
end
end prog
namespace prog
open Go.RowKit disk ref
open law (zP za zL J6)
variable {Fu:Int->Prop} {Ho:List (List Value)->zP->Prop} {m1:∀f,Fu f->zs f} {m2:Fu (-1)} {m3:∀bs V,yX bs V->Ho bs V} {m4:∀bs V,Ho bs V->law.Good V}
theorem ZF:∀(ps:List (Nat×List Value)) (bs:List (List Value)),(∀b∈bs,zW b)->(∀p∈ps,zW p.2)->∀b∈zk bs ps,zW b
 |[],bs,h,_=>h
 |p::ps,bs,h,hp=>ZF ps (bs.set p.1 p.2) (λb a=>by
  rcases iD a with a|rfl;.exact h b a
  .exact hp p (am ..)) (λq c=>hp q (al _ c))
theorem Vp{D:Dk}(a:D.ps=[]){i:Nat}{b:List Value}(h:D.bs[i]? =some b)(d:Int)(c:d=i):D.look d=b:=by
 subst c;rw [yl a,Ke,aE,h];rfl
theorem UH(af:∀bs V,Ho bs V->vC bs V)(ag:Fu 0->∀bs V,vC bs V->Ho bs V)(I:∀f,Fu f->Fu (qG f)):zL (ui Fu Ho m1 m2 m3 m4) where
 small:=λw bd S D c Z=>(Zg w bd S D c Z).mono (by
  rintro e w' ⟨d,rfl⟩
  exact⟨d,c,Kept.refl _ _⟩)
 big:=λw bd S D P c g H F ak=>by
  have T:Fu D.fuse:=H;have x:=m1 _ T;have h:=g.big;by_cases B:D.fuse=0
  .refine(Zh w bd S D D c h (XK w bd S D c x (by rw [B];rfl))).mono ?_;rintro e w' ⟨d,⟨S',o,r⟩,q⟩;exact⟨D,S',⟨o,r,q,eD _,by omega,rfl,H⟩,.inr ⟨d,B,g⟩⟩
  .have G:(D.fuse==0)=false:=by simpa using B
   obtain⟨V,O,E⟩:=g.all (List.replicate D.ps.length true);rw [Zi] at E;have k:D.flush={D with bs:=zk D.bs D.ps,ps:=[],fuse:=qG D.fuse}:=by unfold Dk.flush;rw [az B]
   have W:(zk D.bs D.ps).length=D.bs.length:=zB _ _;have u:Fu (qG D.fuse):=I _ T;rcases af _ _ E with C|⟨ws,a⟩
   .obtain⟨v,n,m,U,R,bo,j⟩:=C;obtain⟨p,s,ae,y⟩:=j.head;have Q:D.flush.look 0=zo p:=by rw [k,<-ae];rfl
    refine(dA w bd S D {D.flush with reads:=D.reads+1} c h (dX w bd S D c x G F (by omega) p s Q y)).mono ?_;rw [k];rintro e w' ⟨bs,d,o,r,S',q,K,z,J⟩;exact⟨_,S',⟨q,K,J,by show D.reads<=D.reads+1;omega,by show D.reads+1<=_;omega,W,u⟩,.inl ⟨bs,V,d,o,z,r,O,⟨rfl,⟨v,n,m,U,R,bo,j⟩,by show 64<=(zk D.bs D.ps).length;omega⟩⟩⟩
   .have L:=a.ok.few
    have Z:(zk D.bs D.ps).length<=1000:=by obtain⟨v,n,m,U,R,bo,j⟩:=a.rest;have:=j.few;rw [eQ,zB] at this;exact this
    obtain⟨ab,aj,ac,ah,A⟩:=c;have c:ze w bd S D:=⟨ab,aj,ac,ah,A⟩;have N:=ZF D.ps D.bs A.ok.bs (λp s=>(A.ok.ps p s).2)
    have aa:∀p∈ws,zW p.2/\p.1<65536:=λp s=>by obtain⟨i,y,rfl⟩:=ei s;have d:=a.log i y;exact⟨N _ (mD d),by have:=(a.ok.keys _ s).1;omega⟩
    have hfin:=KA w bd S D c x G F (by omega) ws a.ok.some L aa (by rw [k];exact Vp rfl a.head 0 rfl) (λi y=>by rw [k];exact Vp rfl (a.log i y) _ (by omega));rw [k] at hfin;have X:=Zj (D:={D with bs:=zk D.bs D.ps,ps:=[],fuse:=qG D.fuse,reads:=D.reads+1+(ws.length:Int) }) (ws:=ws) (V:=V) rfl a;have l:Fu (q8 {D with bs:=zk D.bs D.ps,ps:=[],fuse:=qG D.fuse,reads:=D.reads+1+(ws.length:Int)} ws).2.fuse:=Zl I (fF I ws _ u) _;generalize q8 {D with bs:=zk D.bs D.ps,ps:=[],fuse:=qG D.fuse,reads:=D.reads+1+(ws.length:Int)} ws=am at*;obtain⟨b,Y⟩:=am
    cases b with
    |true=>
     obtain⟨f,t⟩:=X.1 rfl;simp only at t;subst t;refine(dA w bd S D _ c h hfin).mono ?_;rintro e w' ⟨bs,d,o,r,S',q,K,z,J⟩;refine⟨_,S',⟨q,K,J,by show D.reads<=D.reads+1+(ws.length:Int);omega,by show D.reads+1+(ws.length:Int)<=_;omega,?_,l⟩,.inl ⟨bs,V,d,o,z,r,O,⟨rfl,a.rest,?_⟩⟩⟩
     .show ((zk (zk D.bs D.ps) ws).set 0 jN).length=_;rw [eQ,zB,zB]
     .show 64<=((zk (zk D.bs D.ps) ws).set 0 jN).length;rw [eQ,zB,zB];exact h
    |false=>
     obtain⟨t,ad,ai,M⟩:=X.2 rfl;simp only at t ad ai M;refine(Zh w bd S D Y c h hfin).mono ?_;rintro e w' ⟨d,⟨S',o,r⟩,q⟩;refine⟨Y,S',⟨o,r,q,by omega,by omega,by omega,l⟩,.inr ⟨d,t,⟨by have:=M.1;omega,by omega,λks=>?_⟩⟩⟩;obtain⟨al,rfl,z⟩:=M.2 ks;exact⟨al,O,ag (by rw [<-t];exact l) _ _ z⟩
def Vq(f:Int):Prop:=zs f
theorem bm(f:Int)(h:Vq f):Vq (qG f):=by
 unfold Vq zs at*;unfold qG;split<;>omega
theorem vC.good{bs:List (List Value)}{V:zP}(h:vC bs V):law.Good V:=by
 rcases h with⟨_,_,_,_,_,_,h⟩|⟨ws,h⟩;.exact h.good
 .obtain⟨_,_,_,_,_,_,h⟩:=h.rest;exact h.good
def Wk:za:=ui Vq vC (λ_ h=>h) (by constructor<;>omega) (λ_ _ h=>.inl h) (λ_ _ h=>h.good)
def Wl:za:=ui (λf=>f= -1) vC (λf h=>by rw [h];constructor<;>omega) rfl (λ_ _ h=>.inl h) (λ_ _ h=>h.good)
end prog
end Go.Proofs.YtcoengihaobddaaGreatDoor
