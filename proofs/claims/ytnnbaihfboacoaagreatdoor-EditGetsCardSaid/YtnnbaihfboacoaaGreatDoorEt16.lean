/- The code's counts as they lie within another struct (as CuA . -/
import Derived.Test.YtnnbaihfboacoaaGreatDoorEt5
namespace Go.Proofs.YtnnbaihfboacoaaGreatDoor
open Go Go.RowKit Go.Proofs
set_option maxHeartbeats 4000000
set_option maxRecDepth 10000
def Yt (w:World)(p o:Nat)(S:Nat->Prop)(C:Ct):Prop:=∃(a e b f:Nat) (t:TypeId) (d:Array Value),w.1[p]?=some (.cells d t (0,0))/\(d[o]?=some (.slice (some ⟨a,0,none⟩) C.n e)/\d[o+1]?=some (.slice (some ⟨b,0,none⟩) C.n f)/\d[o+2]?=some (.int .i64 (Qe C.n:Int))/\d[o+3]?=some (.int .i64 (C.first:Int)))/\J6 w a C.n e C.now/\J6 w b C.n f C.done/\(a≠b/\p≠a/\p≠b)/\(S a/\S b)/\C.ok
theorem Rj {w:World}{p k:Nat}{b:Array Value}{t:TypeId}{v:Value}(h:w.1[p]?=some (.cells b t (0,0)))(d:b[k]?=some v):w.cell? ⟨p,k,none⟩=some v:=by rw[cell_of_row _ _ _ _ _ _ h];exact d
theorem Yt.ok {w:World}{p o:Nat}{S:Nat->Prop}{C:Ct}(h:Yt w p o S C):C.ok:=by
 obtain⟨_,_,_,_,_,_,_,_,_,_,_,_,h⟩:=h;exact h
theorem Yt.lt {w:World}{p o:Nat}{S:Nat->Prop}{C:Ct}(h:Yt w p o S C):p<w.1.size:=by
 obtain⟨_,_,_,_,_,_,h,_⟩:=h;exact (Array.getElem?_eq_some_iff.1 h).1
theorem Yt.keep {w w':World}{p o:Nat}{S:Nat->Prop}{C:Ct}(h:Yt w p o S C)(hp:w'.1[p]?=w.1[p]?)(hk:∀k,k<w.1.size->S k->w'.1[k]?=w.1[k]?):Yt w' p o S C:=by
 obtain⟨a,m,b,u,t,d,h1,y,h2,f,B,e,A⟩:=h;exact⟨a,m,b,u,t,d,hp.trans h1,y,h2.keep (hk a h2.lt e.1),f.keep (hk b f.lt e.2),B,e,A⟩
theorem Yt.mono {w:World}{p o:Nat}{S S':Nat->Prop}{C:Ct}(h:Yt w p o S C)(hs:∀k,S k->S' k):Yt w p o S' C:=by
 obtain⟨a,f,b,m,t,d,h1,u,h2,B,A,e,y⟩:=h;exact⟨a,f,b,m,t,d,h1,u,h2,B,A,⟨hs _ e.1,hs _ e.2⟩,y⟩
theorem Yt.below {w w':World}{p o:Nat}{S:Nat->Prop}{C:Ct}(h:Yt w p o S C)(hb:Below w.1.size w w'):Yt w' p o S C:=h.keep (hb.block p h.lt) λk b _=>hb.block k b
theorem Yt.shrink {w:World}{p o:Nat}{S:Nat->Prop}{C:Ct}(h:Yt w p o S C):Yt w p o (λk=>S k/\k<w.1.size) C:=by
 obtain⟨a,m,b,u,t,d,h1,y,h2,f,B,e,A⟩:=h;exact⟨a,m,b,u,t,d,h1,y,h2,f,B,⟨⟨e.1,h2.lt⟩,⟨e.2,f.lt⟩⟩,A⟩
theorem Yt.around {w w':World}{p o p' o':Nat}{S:Nat->Prop}{C:Ct}{cur cur':Array Value}{t t':TypeId}(h:Yt w p o S C)(hp:w.1[p]?=some (.cells cur t (0,0)))(hp':w'.1[p']?=some (.cells cur' t' (0,0)))
  (hc:∀j,j<4->cur'[o'+j]?=cur[o+j]?) (hne:∀k,S k->p'≠k) (hk:∀k,k<w.1.size->S k->w'.1[k]?=w.1[k]?):Yt w' p' o' S C:=by
 obtain⟨a,u,b,y,t,f,h1,e,h2,m,B,d,A⟩:=h;rw[hp] at h1;injection h1 with h1;injection h1 with h1 _ _;subst h1;exact⟨a,u,b,y,t',cur',hp',⟨(hc 0 (by omega)).trans e.1,(hc 1 (by omega)).trans e.2.1,(hc 2 (by omega)).trans e.2.2.1,(hc 3 (by omega)).trans e.2.2.2⟩,h2.keep (hk a h2.lt d.1),m.keep (hk b m.lt d.2),⟨B.1,hne a d.1,hne b d.2⟩,d,A⟩
theorem Yt.open_ {w:World}{p o:Nat}{S:Nat->Prop}{C:Ct}(H:Yt w p o S C):∃g d b m:Nat,w.cell? ⟨p,o,none⟩=some (.slice (some ⟨g,0,none⟩) C.n d)/\w.cell? ⟨p,o+1,none⟩=some (.slice (some ⟨b,0,none⟩) C.n m)/\w.cell? ⟨p,o+2,none⟩=some (.int .i64 (Qe C.n:Int))/\w.cell? ⟨p,o+3,none⟩=some (.int .i64 (C.first:Int))/\
  (C.n<=d/\d<=9223372036854775807)/\(C.n<=m/\m<=9223372036854775807)/\(∀k,k<C.n->w.cell? ⟨g,k,none⟩=some (.int .i64 (nm C.now k))/\w.frozen? ⟨g,k,none⟩=false)/\(∀k,k<C.n->w.cell? ⟨b,k,none⟩=some (.int .i64 (nm C.done k)))/\
  (∀(k:Nat) (x:Int),k<C.n->0<=x->x<=65535->Yt (w.setCell ⟨g,k,none⟩ (.int .i64 x)) p o S (C.put k x)/\Turn S w (w.setCell ⟨g,k,none⟩ (.int .i64 x))/\(w.setCell ⟨g,k,none⟩ (.int .i64 x)).cell? ⟨p,o,none⟩=some (.slice (some ⟨g,0,none⟩) C.n d)/\(w.setCell ⟨g,k,none⟩ (.int .i64 x)).cell? ⟨g,k,none⟩=some (.int .i64 x)):=by
 obtain⟨g,d,b,m,t,A,h1,⟨y,F,J,I⟩,h2,E,D,K,Q⟩:=H;have M:=h2.cap;have P:=E.cap;unfold maxLen at M P;refine⟨g,d,b,m,Rj h1 y,Rj h1 F,Rj h1 J,Rj h1 I,⟨M.1,by omega⟩,⟨P.1,by omega⟩,λk f=>h2.at_ f,λk f=>(E.at_ f).1,λk x f u B=>?_⟩;have e:∀j,j≠g->(w.setCell ⟨g,k,none⟩ (.int .i64 x)).1[j]?=w.1[j]?:=λj R=>Below.heap_setCell _ _ _ _ (by show j≠g;exact R)
 have O:=(e p D.2.1).trans h1;have G:=h2.Vr k x;have T:(C.put k x).first=C.first:=by unfold Ct.first;rw[C.Zi]
 refine⟨⟨g,d,b,m,t,A,O,?_,?_,?_,D,K,C.G9 Q k x u B⟩,Ez (a:=⟨g,k,none⟩) _ K.1,Rj O y,?_⟩
 ·rw[C.Zi,T];exact⟨y,F,J,I⟩
 ·rw[C.Zi];exact G
 ·rw[C.Zi];exact E.keep (e b (Ne.symm D.1))
 ·have:=(G.at_ f).1;rw[q4e _ _ _ (by rw[h2.len];exact f)] at this;exact this
theorem q2p {w:World}{p o:Nat}{S:Nat->Prop}{C:Ct}(H:Yt w p o S C)(a x:Int)(A:C.get a=x) :
  Calls Tryz.prog 71 #[.pointer (some ⟨p,o,none⟩),.int .i64 a] w λe E=>e=.returned (.int .i64 x)/\w=E:=by
 obtain⟨g,I,b,K,c0,c1,c2,c3,G,M,f,m,u⟩:=H.open_;have y:=Lib.hid f;clear f m u c1 c2 c3;by_cases h0:0<=a
 ·obtain⟨k,rfl⟩:=Int.eq_ofNat_of_zero_le h0;by_cases D:k<C.n
  ·have d:=Lib.hid (show x=nm C.now k by rw[<-A];unfold Ct.get;rw[if_pos (by omega)];rfl);obtain⟨O,_⟩:=y.out k D;have B:¬(k:Int)<0:=by omega
   have F:¬(C.n:Int)<=(k:Int):=by omega
   have J:(k:Int)<(C.n:Int):=by omega
   go_enter Tryz.func71,Tryz.ntmps71
   go_wp2;go_ret;exact⟨by rw[d.out];rfl,rfl⟩
  ·have d:=Lib.hid (show x=0 by rw[<-A];unfold Ct.get;rw[if_neg (by omega)]);have B:¬(k:Int)<0:=by omega
   have F:(C.n:Int)<=(k:Int):=by omega
   go_enter Tryz.func71,Tryz.ntmps71
   go_wp2;go_ret;exact⟨by rw[d.out];rfl,rfl⟩
 ·have d:=Lib.hid (show x=0 by rw[<-A];unfold Ct.get;rw[if_neg (by omega)]);have B:a<0:=by omega
  go_enter Tryz.func71,Tryz.ntmps71
  go_wp2;go_ret;exact⟨by rw[d.out];rfl,rfl⟩
def Ct.counted (C:Ct)(a:Nat):Bool:=decide (C.first<=a/\a<C.n)
theorem q2e {w:World}{p o:Nat}{S:Nat->Prop}{C:Ct}(H:Yt w p o S C)(a:Nat)(r:Bool)(D:C.counted a=r) :
  Calls Tryz.prog 136 #[.pointer (some ⟨p,o,none⟩),.int .i64 (a:Int)] w λe F=>e=.returned (.bool r)/\w=F:=by
 obtain⟨g,I,b,K,c0,c1,c2,c3,J,M,y,d,A⟩:=H.open_;clear y d A c1 c2;obtain⟨f,B⟩:∃f,C.first=f:=⟨_,rfl⟩
 have m:=Lib.hid (show r=decide (f<=a/\a<C.n) by rw[<-D,<-B];rfl);rw[B] at c3;clear B D;by_cases h1:f<=a
 ·by_cases h2:a<C.n
  ·have u:=Lib.hid (show r=true by rw[m.out];exact decide_eq_true ⟨h1,h2⟩);have E:(f:Int)<=(a:Int):=by omega
   have G:(a:Int)<(C.n:Int):=by omega
   go_enter Tryz.func136,Tryz.ntmps136
   go_wp2;go_ret;exact⟨by rw[u.out];rfl,rfl⟩
  ·have u:=Lib.hid (show r=false by rw[m.out];exact decide_eq_false λh=>h2 h.2);have E:(f:Int)<=(a:Int):=by omega
   have G:¬(a:Int)<(C.n:Int):=by omega
   go_enter Tryz.func136,Tryz.ntmps136
   go_wp2;go_ret;exact⟨by rw[u.out];rfl,rfl⟩
 ·have u:=Lib.hid (show r=false by rw[m.out];exact decide_eq_false λh=>h1 h.1);have E:¬(f:Int)<=(a:Int):=by omega
  go_enter Tryz.func136,Tryz.ntmps136
  go_wp2;go_ret;exact⟨by rw[u.out];rfl,rfl⟩
theorem qfp {w:World}{p o:Nat}{S:Nat->Prop}{C:Ct}(H:Yt w p o S C)(k:Nat)(E:k<C.n)(r:Bool)(F:C.may k=r) :
  Calls Tryz.prog 101 #[.pointer (some ⟨p,o,none⟩),.int .i64 (k:Int)] w λe J=>e=.returned (.bool r)/\w=J:=by
 obtain⟨g,M,b,R,c0,c1,c2,c3,O,T,u,d,A⟩:=H.open_;obtain⟨I,_⟩:=u k E;have hd:=d k E;clear u d A c2 c3;obtain⟨x,D⟩:∃x,nm C.now k=x:=⟨_,rfl⟩;obtain⟨y,B⟩:∃y,nm C.done k=y:=⟨_,rfl⟩;have hm:=Lib.hid (show r=(decide (C.first<=k)&&decide (x=0/\y=0)) by rw[<-F,<-D,<-B];rfl);rw[D] at I;rw[B] at hd;clear D B F;have P:(k:Int)<(C.n:Int):=by omega
 have Q:¬(C.n:Int)<=(k:Int):=by omega
 by_cases h1:C.first<=k
 ·have m:=Lib.hid (show C.counted k=true from decide_eq_true ⟨h1,E⟩);have hm:=Lib.hid (show r=decide (x=0/\y=0) by rw[hm.out,decide_eq_true h1,Bool.true_and]);clear h1;by_cases f:x=0
  ·have hm:=Lib.hid (show r=decide (y=0) by rw[hm.out];simp[f]);subst f;go_enter Tryz.func101,Tryz.ntmps101
   go_wp2_with fail
   refine (q2e H k true m.out).mono ?_;rintro e G ⟨rfl,rfl⟩;go_wp2;go_ret;exact⟨by rw[hm.out];first|rfl|(refine congrArg (λx=>Ending.returned (Value.bool x)) ?_;rw[Bool.eq_iff_iff];simp),rfl⟩
  ·have hm:=Lib.hid (show r=false by rw[hm.out];exact decide_eq_false λh=>f h.1);have K:(x==0)=false:=by simpa using f
   go_enter Tryz.func101,Tryz.ntmps101
   go_wp2_with fail
   refine (q2e H k true m.out).mono ?_;rintro e G ⟨rfl,rfl⟩;go_wp2;go_ret;exact⟨by rw[hm.out];rfl,rfl⟩
 ·have m:=Lib.hid (show C.counted k=false from decide_eq_false λh=>h1 h.1);have hm:=Lib.hid (show r=false by rw[hm.out,decide_eq_false h1,Bool.false_and]);clear h1;go_enter Tryz.func101,Tryz.ntmps101
  go_wp2_with fail
  refine (q2e H k false m.out).mono ?_;rintro e G ⟨rfl,rfl⟩;go_wp2;go_ret;exact⟨by rw[hm.out];rfl,rfl⟩
theorem J6.whole {w:World}{g n c:Nat}{l:List Int}(h:J6 w g n c l):∃b:Array Value,w.1[g]?=some (.cells b 3 (0,0))/\b.size=c/\b.toList.take n=l.map cv/\n<=c/\c<=maxLen:=by
 rcases h.2 with⟨e,_⟩|⟨y,cap,b,e,A,u,h1,h2,m,f⟩
 ·injection e with d;cases d
 ·injection e with d B p;injection d with d;injection d with d;subst d;subst p;rw[Nat.mul_one] at m f;exact⟨b,u,m,f,h1,h2⟩
theorem J6.of_whole {w:World}{g n c:Nat}{l:List Int}(cur:Array Value)(hg:w.1[g]?=some (.cells cur 3 (0,0)))(h3:cur.size=c)(h4:cur.toList.take n=l.map cv)(hl:l.length=n)(h1:n<=c)(h2:c<=maxLen):J6 w g n c l:=
 ⟨by rw[List.length_map,hl,Nat.mul_one],.inr ⟨g,c,cur,rfl,Nat.zero_le _,hg,h1,h2,by rw[h3,Nat.mul_one],by rw[Nat.mul_one];exact h4⟩⟩
theorem qhq {w:World}{B:Array Oper}{o:Oper}{a:Act}{K:Act->World->Prop}{Q:Exit->Act->World->Prop}{E:Prop}(D:o.guard=none)(d s:Operand)
  (T:o.op=.call { callee:=.builtin .copy,args:=#[d,s],argTypes:=#[36,36] }) (g n c:Nat) (l:List Int) (O:J6 w g n c l) (hd:a.eval d=.slice (some ⟨g,0,none⟩) n c)
  (A c2:Nat) (p:List Int) (u:J6 w A n c2 p) (I:a.eval s=.slice (some ⟨A,0,none⟩) n c2)
  (W:∀y,J6 y g n c p->(∀k,k≠g->y.1[k]?=w.1[k]?)->(∀S:Nat->Prop,S g->Turn S w y)->K (a.put o.dst (goInt n)) y):if Region.wanted o (yielded B a.tmps)=true then Oper.wp Tryz.prog o a w K Q else E:=by
 rw[if_pos (by simp[Region.wanted,D])];obtain⟨i,R,X,F,Y⟩:=info_parts TN.info;obtain⟨f,G,H,Z,h1,h2⟩:=O.whole;have b:=u.len;have m:=run_copy_row (P:=Tryz.prog) w 36 36 o.type 3 g 0 n c ⟨A,0,none⟩ n c2 f 3 (p.map cv) TN.sl (by rw[R];simp[F]) G (by rw[List.length_map,b];exact (Nat.min_self n).symm) u.cells (by rw[List.length_map,b,H];omega) (qy6 _);rw[List.length_map,b] at m;unfold Oper.wp;simp[execOp,T,resolve,invoke,builtin,hd,I,m,Result.andThen];have J:(w.setRow g (p.map cv++f.toList.drop n).toArray).1[g]?=some (.cells (p.map cv++f.toList.drop n).toArray 3 (0,0)):=setRow_heap w g _ _ 3 _ G;have e:∀k,k≠g->(w.setRow g (p.map cv++f.toList.drop n).toArray).1[k]?=w.1[k]?:=λk U=>setRow_other w g k _ U
 have key:=W (w.setRow g (p.map cv++f.toList.drop n).toArray) (J6.of_whole _ J (by rw[List.size_toArray,List.length_append,List.length_map,List.length_drop,b,Array.length_toList,H];omega) (by rw[List.take_left' (by rw[List.length_map,b])]) b h1 h2) e (λS M=>⟨rfl,rfl,rfl,by simp[World.setRow],λk _ hn=>e k λh=>hn (h▸M)⟩);exact key
theorem q9y {w:World}{p o:Nat}{S:Nat->Prop}{C:Ct}(H:Yt w p o S C) :
  Calls Tryz.prog 54 #[.pointer (some ⟨p,o,none⟩)] w λe m=>e=.returned (.tuple #[])/\Yt m p o S C.commit/\Turn S w m:=by
 obtain⟨g,d,b,f,t,E,h1,⟨I,F,P,O⟩,h2,R,u,G,K⟩:=H;have c0:w.drew.cell? ⟨p,o,none⟩=some (.slice (some ⟨g,0,none⟩) C.n d):=Rj (w:=w.drew) h1 I;have c1:w.drew.cell? ⟨p,o+1,none⟩=some (.slice (some ⟨b,0,none⟩) C.n f):=Rj (w:=w.drew) h1 F;have A:J6 w.drew g C.n d C.now:=h2;have D:J6 w.drew b C.n f C.done:=R;go_enter Tryz.func54,Tryz.ntmps54
 go_wp2_with fail
 go_region_held3 (λm=>m.cell? ⟨p,o,none⟩=some (.slice (some ⟨g,0,none⟩) C.n d)/\m.cell? ⟨p,o+1,none⟩=some (.slice (some ⟨b,0,none⟩) C.n f))
  (first|assumption|exact⟨c0,c1⟩|exact B)
  (first
   |(refine qhq rfl (.tmp 5) (.tmp 9) rfl b C.n f C.done D rfl g d C.now A rfl ?_;intro J Q y M;have B:J.cell? ⟨p,o,none⟩=some (.slice (some ⟨g,0,none⟩) C.n d)/\J.cell? ⟨p,o+1,none⟩=some (.slice (some ⟨b,0,none⟩) C.n f):=⟨(World.cell?_of_block (a:=⟨p,o,none⟩) (y p u.2.2)).trans c0,(World.cell?_of_block (a:=⟨p,o+1,none⟩) (y p u.2.2)).trans c1⟩)
   |fail)
 all_goals (
  go_end0
  refine⟨rfl,⟨g,d,b,f,t,E,(y p u.2.2).trans h1,⟨I,F,P,O⟩,h2.keep (y g u.1),Q,u,G,Ct.D5 K⟩,?_⟩;have T:=M S G.2;exact (Turn.refl S w).drew.then T)
theorem qsq (n:Int)(h:n<32\/2048<n)(w:World) :
  Calls Tryz.prog 49 #[.int .i64 n] w λe b=>e=.returned (.tuple #[.pointer none,.int .i64 1])/\w=b:=by
 by_cases h1:n<32
 ·go_enter Tryz.func49,Tryz.ntmps49
  go_wp2;go_ret2;exact⟨rfl,rfl⟩
 ·have h2:2048<n:=by omega
  go_enter Tryz.func49,Tryz.ntmps49
  go_wp2;go_ret2;exact⟨rfl,rfl⟩
section
attribute [local go_sem ↓] qky
theorem qdu (n:Nat)(h1:32<=n)(h2:n<=2048)(w:World) :
  Calls Tryz.prog 49 #[.int .i64 (n:Int)] w λe E=>∃p,e=.returned (.tuple #[.pointer (some ⟨p,0,none⟩),.int .i64 0])/\Yt E p 0 (λk=>w.1.size<=k) (Ct.zero n)/\w.1.size<=p/\Below w.1.size w E:=by
 have I:¬(n:Int)<32:=by omega
 have H:¬(2048:Int)<(n:Int):=by omega
 have hn:n<=1000000:=by omega
 obtain⟨m,hm⟩:∃m,Qe n=m:=⟨_,rfl⟩;have F:=Lib.hid hm;have b:=Lib.hid (show ((Ct.zero n).first:Int)=2+2*(m:Int) by unfold Ct.first;rw[Ct.Q9,hm];omega);clear hm;have D:=qrc n hn w.drew;have A:=qrc n hn (Ua n w.drew);rw[q3w] at A;have z0:w.drew.1.size=w.1.size:=rfl;rw[z0] at D A;go_enter Tryz.func49,Tryz.ntmps49
 go_wp2_with fail
 refine (qcn (n:Int) n rfl (by omega) m F.out w).mono ?_;rintro e G ⟨rfl,rfl⟩;go_wp2_with fail
 go_region
 all_goals (
  have d:J6 (Ua n (Ua n w.drew)) (w.1.size+1) n n (List.replicate n 0):=by
   have:=qkz n hn (Ua n w.drew);rw[q3w,z0] at this;exact this
  have f:J6 (Ua n (Ua n w.drew)) w.1.size n n (List.replicate n 0):=by
   have h:=qkz n hn w.drew;rw[z0] at h;exact h.keep (heap_alloc_old (Ua n w.drew) _ (by rw[q3w,z0];omega))
  have y:Below w.1.size w (Ua n (Ua n w.drew)):=((Below.refl _ _).drew.trans (qd8 n _ _ (Nat.le_refl _))).trans (qd8 n _ _ (by rw[q3w,z0];omega));have u:(Ua n (Ua n w.drew)).1.size=w.1.size+2:=by rw[q3w,q3w,z0]
  clear D A;generalize Ua n (Ua n w.drew)=W at f d y u ⊢;go_wp2_with fail
  go_ret2;rw[u];refine⟨w.1.size+2,rfl,?_,by omega,y.alloc y.size _⟩;have J:=(Ct.Q9 n).symm;have hF:=b.out;have B:=F.out;first
   |exact⟨w.1.size,n,w.1.size+1,n,_,_,by rw[<-u];exact heap_alloc_new W _,⟨by rw[Ct.Q9];rfl,by rw[Ct.Q9];rfl,by rw[Ct.Q9,B];rfl,by rw[hF];rfl⟩,by rw[Ct.Q9];exact f.keep (heap_alloc_old W _ f.lt),by rw[Ct.Q9];exact d.keep (heap_alloc_old W _ d.lt),⟨by omega,by omega,by omega⟩,⟨by dsimp only;omega,by dsimp only;omega⟩,Ct.Ba h1 h2⟩
   |exact⟨w.1.size+1,n,w.1.size,n,_,_,by rw[<-u];exact heap_alloc_new W _,⟨by rw[Ct.Q9];rfl,by rw[Ct.Q9];rfl,by rw[Ct.Q9,B];rfl,by rw[hF];rfl⟩,by rw[Ct.Q9];exact d.keep (heap_alloc_old W _ d.lt),by rw[Ct.Q9];exact f.keep (heap_alloc_old W _ f.lt),⟨by omega,by omega,by omega⟩,⟨by dsimp only;omega,by dsimp only;omega⟩,Ct.Ba h1 h2⟩
   |fail)
end
theorem Qbd (A:Option Addr)(m k c:Nat)(l:List UInt8)(w:World)(h:Sl w A m c l)(E:m=k+2)(hm:m<=100000)(y:Nat)(B:Q8 (l.take 2)=y) :
  Calls Tryz.prog 149 #[.slice A m c,.int .i64 2] w λe f=>∃b d,e=.returned (.tuple #[.int .i64 (y:Int),.slice b k d,.int .i64 0])/\Below w.1.size w f:=by
 subst B;refine (q6w A m c l 2 w h (by omega) (by omega) (by omega) (by omega)).mono ?_;rintro e f ⟨b,p,d,rfl,own,u⟩;have D:=own.len;rw[List.length_drop,h.len] at D;have:p=k:=by have:(2:Int).toNat=2:=rfl;omega
 subst this;exact⟨b,d,rfl,u⟩
theorem q9z {w w':World}{A:Option Addr}{n c:Nat}{l:List UInt8}(h:Sl w A n c l){S:Nat->Prop}(T:Turn S w w')(m:∀b,A=some b->¬S b.block):Sl w' A n c l:=
 ⟨h.1,h.2.1,h.2.2.1,λj u f=>by
  obtain⟨b,e,d,p⟩:=h.2.2.2 j u f;exact⟨b,e,Nat.lt_of_lt_of_le d T.size,(World.cell?_of_block (a:=b.add j) (by rw[q0n];exact T.block _ d (m b e))).trans p⟩⟩
theorem qlt (C:Ct)(k:Nat)(b:k<C.n)(h:nm C.now k=0):C.put k 0=C:=by
 have e:C.now.set k 0=C.now:=by
  have h1:C.now[k]'b=0:=by
   unfold nm at h;rw[List.getD_eq_getElem?_getD,List.getElem?_eq_getElem b] at h;exact h
  rw[<-h1];exact List.set_getElem_self b
 unfold Ct.put;simp only[e]
theorem qog {w:World}{p:Nat}{S:Nat->Prop}{C:Ct}(H:Yt w p 0 S C)(i:Nat)(hi:i<=1000)(A:Option Addr)(c:Nat)(l:List UInt8)(hs:Sl w A 236 c l)(hA:∀ad,A=some ad->¬S ad.block)(hz:∀a,i*118<=a->a<C.n->nm C.now a=0) :
  Calls Tryz.prog 135 #[.pointer (some ⟨p,0,none⟩),.int .i64 (i:Int),.slice A 236 c] w λe w'=>((e=.returned (.bool true)/\(∀k,k<118->Yy C.n C.first i l k=false)/\Yt w' p 0 S (Yo C.n i l C 118))\/(e=.returned (.bool false)/\∃k,k<118/\Yy C.n C.first i l k=true))/\Turn S w w':=by
 have Hs:=Lib.hid hs;have HA:=Lib.hid hA;have Hz:=Lib.hid hz;have b8:=hs.cap;have Y:=hs.max;unfold maxLen at Y;have d4:=H.ok.1;clear hs hA hz;go_enter Tryz.func135,Tryz.ntmps135
 go_wp2_with fail
 go_loopw [7,8,9,10,11,12] (λ_ _ _ _ _ k wr=>∃t:Nat,t<=118/\k=.int .i64 (t:Int)/\Yt wr p 0 S (Yo C.n i l C t)/\(∀q,q<t->Yy C.n C.first i l q=false)/\Turn S w wr) (λ_ _ _ _ _ k _=>118-(intOf k).toNat)
 case atStart=>exact⟨0,Nat.zero_le _,rfl,H,λq hq=>absurd hq (Nat.not_lt_zero _),Turn.refl _ _⟩
 case round=>
  clear H;obtain⟨t,ht,rfl,R,d,T⟩:=hrel;by_cases b6:t<118
  ·have e3:(t:Int)<118:=by omega
   have e0:(0:Int)<=(t:Int):=by omega
   obtain⟨b,hb⟩:∃b,2*t=b:=⟨_,rfl⟩;have d3:(t:Int)*2=(b:Int):=by omega
   have d2:b<=234:=by omega
   have a1:=q9z Hs.out T HA.out;have M:=a1.drop (k:=b) (by omega);obtain⟨A2,b2⟩:∃A2,(if c=b then A else Option.map (λx=>x.add b) A)=A2:=⟨_,rfl⟩;rw[b2] at M;have Q:=M.take (k:=2) (by omega);obtain⟨y,hy⟩:∃y,Q8 (((l.drop b).take 2).take 2)=y:=⟨_,rfl⟩;have hX:=Lib.hid (show F7 l t=(y:Int) by unfold F7;rw[hb,<-hy,List.take_take];rfl);have d5:y<65536:=by
    have h1:=q7g (((l.drop b).take 2).take 2);have h2:(((l.drop b).take 2).take 2).length=2:=by rw[List.length_take,Q.len];rfl
    rw[h2,hy] at h1;exact h1
   have Hy:=Lib.hid hy;have b3:=Lib.hid Q;have Hb:=Lib.hid hb;have P:=Lib.hid d;have B:(Yo C.n i l C t).n=C.n:=qil _ _ _ _ _;have F:(Yo C.n i l C t).first=C.first:=by unfold Ct.first;rw[B]
   obtain⟨a,ha⟩:∃a,i*118+t=a:=⟨_,rfl⟩;have c7:(i:Int)*118+(t:Int)=(a:Int):=by omega
   have b9:a<=200000:=by omega
   have O:a<C.n->nm (Yo C.n i l C t).now a=0:=λh=>by
    rw[qh3 i l C t a h,if_neg (by omega)];exact Hz.out a (by omega) h
   have u:=Lib.hid (show Yy C.n C.first i l t=decide ((y:Int)≠0/\(a<C.first\/C.n<=a)) by unfold Yy;rw[hX.out,ha]);have f:=Lib.hid (show Yo C.n i l C (t+1)=if a<C.n then (Yo C.n i l C t).put a (y:Int) else Yo C.n i l C t by rw[<-hX.out,<-ha];rfl);have a7:=Lib.hid (show (Yy C.n C.first i l t=false)->∀q,q<t+1->Yy C.n C.first i l q=false from λh q hq=>by
    by_cases e:q=t
    ·rw[e];exact h
    ·exact P.out q (by omega))
   obtain⟨D,Z⟩:∃D,Yo C.n i l C t=D:=⟨_,rfl⟩;rw[Z] at R B F O f;have a6:=Lib.hid (show D.counted a=decide (C.first<=a/\a<C.n) by unfold Ct.counted;rw[B,F]);have a8:=Lib.hid B;have c6:=Lib.hid F;have b5:=Lib.hid O;have Ha:=Lib.hid ha;have i1:2<=c-b:=by omega
   have i2:b<=236:=by omega
   have i3:b<=c:=by omega
   clear a1 M Q hy d Z B F O ha hb;go_wp2_with fail
   refine (Qbd A2 2 0 (c-b) _ wr b3.out rfl (by omega) y Hy.out).mono ?_;rintro e w4 ⟨A4,c4,rfl,b1⟩;have R4:=R.below b1;have T4:=T.then (Qv b1 |>.mono (S':=S) λk hk=>hk);clear R T;by_cases a2:y=0
   ·subst a2;have E:=Lib.hid (show Yy C.n C.first i l t=false by rw[u.out];simp);have K:=Lib.hid (show Yo C.n i l C (t+1)=D by
     rw[f.out];split
     ·rename_i h;exact qlt D a (by rw[a8.out];exact h) (b5.out h)
     ·rfl)
    go_wp2;exact⟨⟨t+1,by omega,by go_num,by rw[K.out];exact R4,a7.out E.out,T4⟩,by simp[intOf];omega⟩
   ·have c8:((y:Int)==0)=false:=by simpa using a2
    have b7:¬(y:Int)=0:=by omega
    by_cases m:C.first<=a/\a<C.n
    ·have U:=Lib.hid (show D.counted a=true by rw[a6.out];exact decide_eq_true m);have E:=Lib.hid (show Yy C.n C.first i l t=false by rw[u.out];exact decide_eq_false (by omega));have K:=Lib.hid (show Yo C.n i l C (t+1)=D.put a (y:Int) by rw[f.out,if_pos m.2]);have J:a<D.n:=by rw[a8.out];exact m.2
     obtain⟨g,cg,b0,cb,c0,c1,c2,c3,k1,k2,G,W,I⟩:=R4.open_;obtain⟨hc,c9⟩:=G a J;obtain⟨R5,T5,d0,d1⟩:=I a ((y:Nat):Int) J (by omega) (by omega);rw[<-K.out] at R5;have T6:=T4.then T5;have e8:(a:Int)<(D.n:Int):=by omega
     have e9:(0:Int)<=(a:Int):=by omega
     obtain⟨x0,X⟩:∃x,nm D.now a=x:=⟨_,rfl⟩;rw[X] at hc;clear X G W I c1 c2 c3 m;go_wp2_with fail
     refine (q2e R4 a true U.out).mono ?_;rintro e w5 ⟨rfl,rfl⟩;go_wp2;exact⟨⟨t+1,by omega,by go_num,R5,a7.out E.out,T6⟩,by simp[intOf];omega⟩
    ·have U:=Lib.hid (show D.counted a=false by rw[a6.out];exact decide_eq_false m);have E:=Lib.hid (show Yy C.n C.first i l t=true by rw[u.out];exact decide_eq_true ⟨b7,by omega⟩);clear m;go_wp2_with fail
     refine (q2e R4 a false U.out).mono ?_;rintro e w5 ⟨rfl,rfl⟩;go_wp2;go_ret;exact⟨.inr ⟨rfl,t,b6,E.out⟩,T4⟩
  ·have b4:t=118:=by omega
   subst b4;go_wp2;go_ret;exact⟨.inl ⟨rfl,d,R⟩,T⟩
theorem qsr (n:Nat)(b:List (List UInt8))(h1:32<=n)(h2:n<=2048)(A:Option Addr)(m c:Nat){w:World}(H:Parts w A m c b)(hm:m=Qe n) :
  Calls Tryz.prog 98 #[.int .i64 (n:Int),.slice A m c] w λe w'=>(((∀i,i<Qe n->q57 n (2+2*Qe n) i (nth b i))/\∃p,e=.returned (.tuple #[.pointer (some ⟨p,0,none⟩),.int .i64 0])/\Yt w' p 0 (λk=>w.1.size<=k) (Vu n b)/\w.1.size<=p)\/
   ((¬∀i,i<Qe n->q57 n (2+2*Qe n) i (nth b i))/\e=.returned (.tuple #[.pointer none,.int .i64 3])))/\Below w.1.size w w':=by
 obtain⟨many,G⟩:∃k,Qe n=k:=⟨_,rfl⟩;have c6:many<=1000:=by rw[<-G];unfold Qe;omega
 have J:=Lib.hid G;have b0:m=many:=by omega
 subst b0;rw[G];clear hm G;have b6:m<=c:=H.2.1;have b5:c<=maxLen:=H.2.2.1;unfold maxLen at b5;go_enter Tryz.func98,Tryz.ntmps98
 go_wp2_with fail
 refine (qdu n h1 h2 w).mono ?_;rintro e w1 ⟨p,rfl,R,b4,B⟩;have c2:w1.cell? ⟨p,2,none⟩=some (.int .i64 (m:Int)):=by
  obtain⟨_,_,_,_,_,_,c2,_⟩:=R.open_;rw[Ct.Q9,J.out] at c2;exact c2
 have R:=R.shrink;obtain⟨S,hS⟩:∃S:Nat->Prop,(λk=>w.1.size<=k/\k<w1.1.size)=S:=⟨_,rfl⟩;rw[hS] at R;have W:∀k,S k->w.1.size<=k:=λk f=>by rw[<-hS] at f;exact f.1
 clear hS;have E:=Lib.hid W;clear W;go_wp2_with fail
 clear c2;go_loopw [8,9,27] (λ_ _ i wr=>∃j:Nat,j<=m/\i=.int .i64 (j:Int)/\Yt wr p 0 S (Y2 n b j)/\(∀q,q<j->q57 n (2+2*m) q (nth b q))/\Below w.1.size w wr) (λ_ _ i _=>m-(intOf i).toNat)
 case atStart=>exact⟨0,Nat.zero_le _,rfl,R,λq hq=>absurd hq (Nat.not_lt_zero _),B⟩
 case round=>
  clear R B;obtain⟨j,hj,rfl,R,d,B⟩:=hrel;by_cases O:j<m
  ·obtain⟨U,A1,n1,c1,eA,a8,Q,u⟩:=H.cell O;subst eA;have b9:=(B.cell (p:=U.add j) (by rw[q0n];exact a8)).trans Q;have K:=u.below B;have e3:(j:Int)<(m:Int):=by omega
   have e0:(0:Int)<=(j:Int):=by omega
   have M:=u.len;obtain⟨l,hl⟩:∃l,nth b j=l:=⟨_,rfl⟩;rw[hl] at u K M;have Hl:=Lib.hid hl;have y:=Lib.hid d;have a2:=Lib.hid M;clear hl d Q M;by_cases I:n1=236
   ·subst I;have a7:∀U,A1=some U->¬S U.block:=λU e=>by
     obtain⟨b7,e',hb,_⟩:=u.cell (k:=0) (by omega);rw[e] at e';injection e' with e';subst e';exact λh=>absurd (E.out _ h) (by omega)
    have b1:=Lib.hid a7;have Z:=Lib.hid K;clear a7 K u;have F:(Y2 n b j).n=n:=qb8 _ _ _;have X:(Y2 n b j).first=2+2*m:=by unfold Ct.first;rw[F,J.out]
    have T:∀a,j*118<=a->a<(Y2 n b j).n->nm (Y2 n b j).now a=0:=λa b8 Y=>by
     rw[F] at Y;rw[qb9 n b j a Y,if_neg (by omega)]
    have D:Yo n j l (Y2 n b j) 118=Y2 n b (j+1):=by rw[<-Hl.out];rfl
    have f:=qog R j (by omega) A1 c1 l Z.out b1.out T;rw[F,X,D] at f;have Hk:=Lib.hid f;clear f F X T D;go_wp2_with fail
    refine Hk.out.mono ?_;rintro e w4 ⟨⟨rfl,P,R4⟩|⟨rfl,q,hq,P⟩,T4⟩
    ·have B4:=B.trans (T4.below (λ_ f=>E.out _ f) B.size);have Hg:=Lib.hid P;clear P R;go_wp2;refine⟨⟨j+1,by omega,by go_num,R4,λq hq=>?_,B4⟩,by simp[intOf];omega⟩;by_cases e:q=j
     ·rw[e,Hl.out];exact⟨a2.out,Hg.out⟩
     ·exact y.out q (by omega)
    ·have B4:=B.trans (T4.below (λ_ f=>E.out _ f) B.size);have a6:¬∀i,i<m->q57 n (2+2*m) i (nth b i):=λhh=>by
      have h3:=(hh j O).2 q hq;rw[Hl.out,P] at h3
      cases h3
     have b2:=Lib.hid a6;clear a6 P;go_wp2;go_ret2;exact⟨.inr ⟨b2.out,rfl⟩,B4⟩
   ·have e4:¬(n1:Int)=236:=by omega
    have a1:=Lib.hid (show ¬∀i,i<m->q57 n (2+2*m) i (nth b i) from λhh=>I (by have:=(hh j O).1;rw[Hl.out] at this;exact a2.out.symm.trans this));have hb:((n1:Int)==236)=false:=by simpa using e4
    go_wp2;go_ret2;exact⟨.inr ⟨a1.out,rfl⟩,B⟩
  ·have b3:j=m:=by omega
   subst b3;have y:=Lib.hid d;clear d;go_wp2_with fail
   refine (q9y R).mono ?_;rintro e w5 ⟨rfl,R5,T5⟩;go_wp2;go_ret2;refine⟨.inl ⟨y.out,p,rfl,?_,b4⟩,B.trans (T5.below (λ_ f=>E.out _ f) B.size)⟩;exact (show Vu n b=(Y2 n b j).commit by unfold Vu;rw[J.out])▸R5.mono λk f=>E.out k f
theorem qoh (n:Int)(h:n<32\/2048<n)(A:Option Addr)(m c:Nat)(w:World) :
  Calls Tryz.prog 98 #[.int .i64 n,.slice A m c] w λe b=>e=.returned (.tuple #[.pointer none,.int .i64 1])/\w=b:=by
 have H:=Lib.hid h;clear h;go_enter Tryz.func98,Tryz.ntmps98
 go_wp2_with fail
 refine (qsq n H.out w).mono ?_;rintro e d ⟨rfl,rfl⟩;go_wp2;go_ret2;exact⟨rfl,rfl⟩
theorem qlu (n:Nat)(h1:32<=n)(h2:n<=2048)(A:Option Addr)(m c:Nat)(w:World)(hm:m≠Qe n) :
  Calls Tryz.prog 98 #[.int .i64 (n:Int),.slice A m c] w λe d=>e=.returned (.tuple #[.pointer none,.int .i64 3])/\Below w.1.size w d:=by
 obtain⟨k,b⟩:∃k,Qe n=k:=⟨_,rfl⟩;rw[b] at hm;have f:=Lib.hid b;have y:¬(m:Int)=(k:Int):=by omega
 have D:((m:Int)==(k:Int))=false:=by simpa using y
 clear b;go_enter Tryz.func98,Tryz.ntmps98
 go_wp2_with fail
 refine (qdu n h1 h2 w).mono ?_;rintro e u ⟨p,rfl,R,_,B⟩;have c2:u.cell? ⟨p,2,none⟩=some (.int .i64 (k:Int)):=by
  obtain⟨_,_,_,_,_,_,c2,_⟩:=R.open_;rw[Ct.Q9,f.out] at c2;exact c2
 go_wp2;go_ret2;exact⟨rfl,B⟩
theorem qoi (n:Int)(b:List (List UInt8))(A:Option Addr)(m c:Nat){w:World}(H:Parts w A m c b) :
  Calls Tryz.prog 98 #[.int .i64 n,.slice A m c] w λe f=>((Xf n b=0/\∃p,e=.returned (.tuple #[.pointer (some ⟨p,0,none⟩),.int .i64 0])/\Yt f p 0 (λk=>w.1.size<=k) (Vu n.toNat b)/\w.1.size<=p)\/
   (Xf n b≠0/\e=.returned (.tuple #[.pointer none,.int .i64 (Xf n b)])))/\Below w.1.size w f:=by
 by_cases hn:32<=n/\n<=2048
 ·obtain⟨k,rfl⟩:=Int.eq_ofNat_of_zero_le (show 0<=n by omega);by_cases hm:m=Qe k
  ·refine (qsr k b (by omega) (by omega) A m c H hm).mono ?_;have D:b.length=Qe k:=H.len.trans hm;rintro e f ⟨⟨u,p,rfl,R,y⟩|⟨u,rfl⟩,B⟩
   ·have d:Xf (k:Int) b=0:=by unfold Xf;rw[Int.toNat_natCast,if_neg (λh=>h hn),if_neg (λh=>h.elim (λh=>h D) (λh=>h u))]
    exact⟨.inl ⟨d,p,rfl,R,y⟩,B⟩
   ·have d:Xf (k:Int) b=3:=by unfold Xf;rw[Int.toNat_natCast,if_neg (λh=>h hn),if_pos (.inr u)]
    rw[d];exact⟨.inr ⟨by omega,rfl⟩,B⟩
  ·refine (qlu k (by omega) (by omega) A m c w hm).mono ?_;rintro e f ⟨rfl,B⟩;have d:Xf (k:Int) b=3:=by unfold Xf;rw[Int.toNat_natCast,if_neg (λh=>h hn),if_pos (.inl (by rw[H.len];exact hm))]
   rw[d];exact⟨.inr ⟨by omega,rfl⟩,B⟩
 ·refine (qoh n (by omega) A m c w).mono ?_;rintro e f ⟨rfl,rfl⟩;have d:Xf n b=1:=by unfold Xf;rw[if_pos hn]
  rw[d];exact⟨.inr ⟨by omega,rfl⟩,Below.refl _ _⟩
theorem Qbc (x:Int)(w:World) :
  Calls Tryz.prog 126 #[.slice none 0 0,.int .i64 x,.int .i64 2] w λe f=>∃b d,e=.returned (.slice b 2 d)/\Sl f b 2 d (Zc x 2)/\Below w.1.size w f:=by
 have p:=q9l none 0 0 [] x 2 w (q24 w) (by omega);rw[show Ce [] x 2=Zc x 2 from rfl] at p;refine p.mono ?_;rintro e f ⟨b,y,d,rfl,own,u⟩;have m:=own.len;rw[Yl] at m;subst m;exact⟨b,d,rfl,own.sl,u⟩
theorem qfq {w:World}{p o:Nat}{S:Nat->Prop}{C:Ct}(H:Yt w p o S C)(i:Int) :
  Calls Tryz.prog 86 #[.pointer (some ⟨p,o,none⟩),.int .i64 i] w λe Z=>∃A n c,e=.returned (.slice A n c)/\Sl Z A n c (C.body i)/\Below w.1.size w Z/\∀B,A=some B->w.1.size<=B.block:=by
 obtain⟨many,hm⟩:∃m,Qe C.n=m:=⟨_,rfl⟩;have a1:=H.ok.1;have a6:many<=1000:=by rw[<-hm];unfold Qe;omega
 obtain⟨g,cg,b,cb,c0,c1,c2,c3,k1,k2,K,y,E⟩:=H.open_;clear K y E c1 c0 c3 k1 k2;rw[hm] at c2;have Y:=Lib.hid hm;clear hm;by_cases U:0<=i/\i<(many:Int)
 ·have d:=Lib.hid (show C.body i=C.Zz (i*118) 118 by unfold Ct.body;rw[Y.out,if_pos U]);obtain⟨q,rfl⟩:=Int.eq_ofNat_of_zero_le U.1;have e1:¬(q:Int)<0:=by omega
  have e2:¬(many:Int)<=(q:Int):=by omega
  have hq:q<many:=by omega
  have d1:decide ((q:Int)<0)=false:=by simp
  have d2:decide ((many:Int)<=(q:Int))=false:=by simp;omega
  have d3:decide (many<=q)=false:=by simp;omega
  go_enter Tryz.func86,Tryz.ntmps86
  go_wp2_with (first
   |(at_make;refine qf2 _ Gy rfl _ _ rfl _ _ 236 rfl rfl (by omega) ?_)
   |fail)
  intro w1 Ic G;go_wp2_with fail
  go_loopw [5,6,18] (λb _ k wr=>∃(j:Nat) (P:Option Addr) (O:Nat),j<=118/\k=.int .i64 (j:Int)/\b=.slice P (2*j) O/\Own wr w.1.size 5 P (2*j) O (C.Zz ((q:Int)*118) j)/\Below w.1.size w wr) (λ_ _ k _=>118-(intOf k).toNat)
  case atStart=>exact⟨0,_,_,by omega,rfl,rfl,Ic,G⟩
  case round=>
   clear Ic G;obtain⟨j,P,O,hj,rfl,rfl,own,Q⟩:=hrel;by_cases a2:j<118
   ·have Hr:=H.below Q;have e3:(j:Int)<118:=by omega
    obtain⟨x,T⟩:∃x,C.get ((q:Int)*118+(j:Int))=x:=⟨_,rfl⟩;have u:=Lib.hid (show C.Zz ((q:Int)*118) (j+1)=C.Zz ((q:Int)*118) j++Zc x 2 by rw[<-T];rfl);have Hx:=Lib.hid T;clear T c2;go_wp2_with fail
    refine (q2p Hr _ x Hx.out).mono ?_;rintro e w3 ⟨rfl,rfl⟩;go_wp2_with fail
    refine (Qbc x wr).mono ?_;rintro e w4 ⟨A4,c4,rfl,R,I⟩;have F:=own.below I;have D:=Q.trans (I.mono Q.size);go_wp2_with (at_builtin;refine q9j _ Gy rfl _ _ rfl w.1.size P (2*j) O _ rfl F A4 2 c4 _ rfl R (by omega) D.size ?_)
    intro A5 c5 w5 f X;rw[<-u.out] at f;go_wp2;exact⟨⟨j+1,A5,c5,by omega,by go_num,rfl,f,D.trans X⟩,by simp[intOf];omega⟩
   ·have W:j=118:=by omega
    subst W;have J:=own.sl;have M:=λB e=>(own.block B e).1
    go_wp2;go_ret;rw[d.out];exact⟨_,_,_,rfl,J,Q,M⟩
 ·have d:=Lib.hid (show C.body i=[] by unfold Ct.body;rw[Y.out,if_neg U]);by_cases h0:i<0
  ·go_enter Tryz.func86,Tryz.ntmps86
   go_wp2;go_ret;rw[d.out];exact⟨_,_,_,rfl,q24 _,Below.refl _ _,λB e=>by cases e⟩
  ·have e2:(many:Int)<=i:=by omega
   have e1:¬i<0:=h0;go_enter Tryz.func86,Tryz.ntmps86
   go_wp2;go_ret;rw[d.out];exact⟨_,_,_,rfl,q24 _,Below.refl _ _,λB e=>by cases e⟩
theorem qss {w:World}{p o:Nat}{S:Nat->Prop}{C:Ct}(H:Yt w p o S C)(a:Int) :
  Calls Tryz.prog 47 #[.pointer (some ⟨p,o,none⟩),.int .i64 a] w λe G=>e=.returned (.int .i64 (C.Y8 a))/\Yt G p o S (C.ref a)/\Turn S w G:=by
 obtain⟨x,d⟩:∃x,C.get a=x:=⟨_,rfl⟩;have I:=C.Jc H.ok a;rw[d] at I;by_cases h0:x=0
 ·have f:C.Y8 a=1:=by unfold Ct.Y8;rw[d,if_pos h0]
  have A:C.ref a=C:=by unfold Ct.ref;rw[f,if_neg (by decide)]
  rw[f,A];subst h0;go_enter Tryz.func47,Tryz.ntmps47
  go_wp2_with fail
  refine (q2p H a 0 d).mono ?_;rintro e F ⟨rfl,rfl⟩;go_wp2;go_ret;exact⟨rfl,H,Turn.refl _ _⟩
 ·by_cases h1:x=65535
  ·have f:C.Y8 a=7:=by unfold Ct.Y8;rw[d,if_neg h0,if_pos h1]
   have A:C.ref a=C:=by unfold Ct.ref;rw[f,if_neg (by decide)]
   rw[f,A];subst h1;go_enter Tryz.func47,Tryz.ntmps47
   go_wp2_with fail
   refine (q2p H a 65535 d).mono ?_;rintro e F ⟨rfl,rfl⟩;go_wp2;go_ret;exact⟨rfl,H,Turn.refl _ _⟩
  ·have f:C.Y8 a=0:=by unfold Ct.Y8;rw[d,if_neg h0,if_neg h1]
   have A:C.ref a=C.put a.toNat (x+1):=by unfold Ct.ref;rw[f,if_pos rfl,d]
   have E:=Lib.hid f;have D:=Lib.hid A;obtain⟨Q,T,B⟩:=Ct.Et (C:=C) (a:=a) (by rw[d];exact h0);obtain⟨k,rfl⟩:=Int.eq_ofNat_of_zero_le Q;rw[Int.toNat_natCast] at B;rw[d] at B;obtain⟨g,X,b,Y,c0,c1,c2,c3,W,Z,u,y,m⟩:=H.open_;obtain⟨O,J⟩:=u k (by omega);rw[<-B] at O;obtain⟨K,M,U,R⟩:=m k (x+1) (by omega) (by omega) (by omega);have P:=Lib.hid d;have j1:¬(C.n:Int)<=(k:Int):=by omega
   clear f A B u y m;go_enter Tryz.func47,Tryz.ntmps47
   go_wp2_with fail
   refine (q2p H k x P.out).mono ?_;rintro e F ⟨rfl,rfl⟩;go_wp2;go_ret;rw[E.out,D.out];exact⟨rfl,K,M⟩
theorem qlv {w:World}{p o:Nat}{S:Nat->Prop}{C:Ct}(H:Yt w p o S C)(a:Int) :
  Calls Tryz.prog 190 #[.pointer (some ⟨p,o,none⟩),.int .i64 a] w λe D=>e=.returned (.tuple #[.int .i64 (C.Ju a),.int .i64 (C.Jz a)])/\Yt D p o S (C.Qy a)/\Turn S w D:=by
 obtain⟨x,u⟩:∃x,C.get a=x:=⟨_,rfl⟩;have E:=C.Jc H.ok a;rw[u] at E;by_cases h0:x=0
 ·have A:C.Jz a=1/\C.Ju a=0/\C.Qy a=C:=by unfold Ct.Jz Ct.Ju Ct.Qy;rw[u,if_pos h0,if_pos h0,if_pos h0];exact⟨rfl,rfl,rfl⟩
  rw[A.1,A.2.1,A.2.2];subst h0;go_enter Tryz.func190,Tryz.ntmps190
  go_wp2_with fail
  refine (q2p H a 0 u).mono ?_;rintro e K ⟨rfl,rfl⟩;go_wp2;go_ret2;exact⟨rfl,H,Turn.refl _ _⟩
 ·have A:C.Jz a=0/\C.Ju a=x-1/\C.Qy a=C.put a.toNat (x-1):=by unfold Ct.Jz Ct.Ju Ct.Qy;rw[u,if_neg h0,if_neg h0,if_neg h0];exact⟨rfl,rfl,rfl⟩
  have m:=Lib.hid A;obtain⟨O,Q,B⟩:=Ct.Et (C:=C) (a:=a) (by rw[u];exact h0);obtain⟨k,rfl⟩:=Int.eq_ofNat_of_zero_le O;rw[Int.toNat_natCast] at B;rw[u] at B;obtain⟨g,U,b,W,c0,c1,c2,c3,T,X,f,y,d⟩:=H.open_;obtain⟨J,F⟩:=f k (by omega);rw[<-B] at J;obtain⟨G,I,R,P⟩:=d k (x-1) (by omega) (by omega) (by omega);have M:=Lib.hid u;have j1:¬(C.n:Int)<=(k:Int):=by omega
  clear A B f y d;go_enter Tryz.func190,Tryz.ntmps190
  go_wp2_with fail
  refine (q2p H k x M.out).mono ?_;rintro e K ⟨rfl,rfl⟩;go_wp2;go_ret2;rw[m.out.1,m.out.2.1,m.out.2.2];exact⟨rfl,G,I⟩
theorem qlw {w:World}{p o:Nat}{S:Nat->Prop}{C:Ct}(H:Yt w p o S C)(a:Int)(r:Bool)(E:C.fresh a=r) :
  Calls Tryz.prog 169 #[.pointer (some ⟨p,o,none⟩),.int .i64 a] w λe G=>e=.returned (.bool r)/\w=G:=by
 subst E;obtain⟨x,f⟩:∃x,C.get a=x:=⟨_,rfl⟩;by_cases h0:x=0
 ·have u:C.fresh a=false:=by unfold Ct.fresh;rw[f,if_pos h0]
  rw[u];subst h0;go_enter Tryz.func169,Tryz.ntmps169
  go_wp2_with fail
  refine (q2p H a 0 f).mono ?_;rintro e F ⟨rfl,rfl⟩;go_wp2;go_ret;exact⟨rfl,rfl⟩
 ·have u:=Lib.hid (show C.fresh a=decide (nm C.done a.toNat=0) by unfold Ct.fresh;rw[f,if_neg h0]);obtain⟨J,K,D⟩:=Ct.Et (C:=C) (a:=a) (by rw[f];exact h0);obtain⟨k,rfl⟩:=Int.eq_ofNat_of_zero_le J;rw[Int.toNat_natCast] at u;obtain⟨g,M,b,P,c0,c1,c2,c3,O,Q,A,d,m⟩:=H.open_;have hd:=d k (by omega);obtain⟨y,B⟩:∃y,nm C.done k=y:=⟨_,rfl⟩;rw[B] at hd u;have I:=Lib.hid f;have j1:¬(C.n:Int)<=(k:Int):=by omega
  clear D A d m B f;go_enter Tryz.func169,Tryz.ntmps169
  go_wp2_with fail
  refine (q2p H k x I.out).mono ?_;rintro e F ⟨rfl,rfl⟩;go_wp2;go_ret;exact⟨by rw[u.out];first|rfl|(refine congrArg (λx=>Ending.returned (Value.bool x)) ?_;rw[Bool.eq_iff_iff];simp[h0]),rfl⟩
theorem qc7 {w:World}{p o:Nat}{S:Nat->Prop}{C:Ct}(H:Yt w p o S C) :
  Calls Tryz.prog 167 #[.pointer (some ⟨p,o,none⟩)] w λe M=>e=.returned (.tuple #[.int .i64 C.Uy,.int .i64 C.Uf])/\Yt M p o S C.alloc/\Turn S w M:=by
 have P:=H.ok.1;obtain⟨g,cg,b,cb,c0,c1,c2,c3,k1,U,y,B,m⟩:=H.open_;have E:=Lib.hid m;have F:=Lib.hid y;clear m y B c1 c2 c3 U;go_enter Tryz.func167,Tryz.ntmps167
 go_wp2_with fail
 go_loop [4,10] (λ_ i=>∃k:Nat,k<=C.n/\i=.int .i64 (k:Int)/\∀j,j<k->C.may j=false) (λ_ i=>C.n-(intOf i).toNat)
 case atStart=>exact⟨0,Nat.zero_le _,rfl,λj J=>absurd J (Nat.not_lt_zero _)⟩
 case round=>
  obtain⟨k,hk,rfl,d⟩:=hrel;by_cases f:k<C.n
  ·obtain⟨Z,O⟩:=F.out k f;obtain⟨Q,R,Y,X⟩:=E.out k 1 f (by omega) (by omega);obtain⟨r,K⟩:∃r,C.may k=r:=⟨_,rfl⟩;have G:=Lib.hid K;have u:=Lib.hid d;have T:(k:Int)<(C.n:Int):=by omega
   have W:(0:Int)<=(k:Int):=by omega
   clear K d;go_wp2_with fail
   refine (qfp H k f r G.out).mono ?_;rintro e w1 ⟨rfl,rfl⟩
   cases r with
   |true=>
    have A:=Lib.hid (Ct.Xv (C:=C) (k:=k) (Ct.O0 f G.out u.out));go_wp2;go_ret2;rw[A.out.1,A.out.2.1,A.out.2.2];exact⟨rfl,Q,R⟩
   |false=>
    go_wp2;refine⟨⟨k+1,by omega,by go_num,λj J=>?_⟩,by simp[intOf];omega⟩;by_cases I:j=k
    ·rw[I];exact G.out
    ·exact u.out j (by omega)
  ·have D:k=C.n:=by omega
   have T:¬(k:Int)<(C.n:Int):=by omega
   have A:=Lib.hid (Ct.Vm (Ct.Oz (C:=C) (by rw[<-D];exact d)));clear d D;go_wp2;go_ret2;rw[A.out.1,A.out.2.1,A.out.2.2];exact⟨rfl,H,Turn.refl _ _⟩
theorem qfr {w:World}{p o:Nat}{S:Nat->Prop}{C:Ct}(H:Yt w p o S C)(n:Nat)(hn:C.free=n) :
  Calls Tryz.prog 61 #[.pointer (some ⟨p,o,none⟩)] w λe K=>e=.returned (.int .i64 (n:Int))/\w=K:=by
 have G:=H.ok.1;obtain⟨g,P,b,T,c0,c1,c2,c3,O,M,y,f,_⟩:=H.open_;have I:=Lib.hid hn;clear y f hn c1 c2 c3 M;go_enter Tryz.func61,Tryz.ntmps61
 go_wp2_with fail
 go_loop [3,4,10] (λz _ i=>∃k:Nat,k<=C.n/\i=.int .i64 (k:Int)/\z=.int .i64 (C.Jw k:Int)) (λ_ _ i=>C.n-(intOf i).toNat)
 case atStart=>exact⟨0,Nat.zero_le _,rfl,rfl⟩
 case round=>
  obtain⟨k,R,rfl,rfl⟩:=hrel;have A:=C.Ov k;by_cases D:k<C.n
  ·have d:=Lib.hid (C.Ku k);obtain⟨q,E⟩:∃q,C.Jw k=q:=⟨_,rfl⟩;rw[E] at A d ⊢;obtain⟨r,F⟩:∃r,C.may k=r:=⟨_,rfl⟩;have B:=Lib.hid F;have J:(k:Int)<(C.n:Int):=by omega
   clear E F;go_wp2_with fail
   refine (qfp H k D r B.out).mono ?_;rintro e Q ⟨rfl,rfl⟩
   cases r with
   |true=>
    have u:=Lib.hid (show C.Jw (k+1)=q+1 by rw[d.out,if_pos B.out]);go_wp2;refine⟨⟨k+1,by omega,by go_num,by rw[u.out];go_num⟩,by simp[intOf];omega⟩
   |false=>
    have u:=Lib.hid (show C.Jw (k+1)=q by rw[d.out,if_neg (by rw[B.out];decide),Nat.add_zero]);go_wp2;refine⟨⟨k+1,by omega,by go_num,by rw[u.out]⟩,by simp[intOf];omega⟩
  ·have m:k=C.n:=by omega
   have J:¬(k:Int)<(C.n:Int):=by omega
   have u:=Lib.hid (show C.Jw k=n by rw[m];exact I.out);clear m;go_wp2;go_ret;exact⟨by rw[<-u.out];rfl,rfl⟩
