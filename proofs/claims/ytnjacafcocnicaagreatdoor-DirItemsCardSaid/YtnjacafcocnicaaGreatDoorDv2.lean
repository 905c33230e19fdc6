/- Words for slices whose cells are read, over the kit's library; nothing here speaks of one  -/
import Derived.Test.YtnjacafcocnicaaGreatDoorDv1
namespace Go.Proofs.YtnjacafcocnicaaGreatDoor
open Go Go.RowKit Go.Proofs Tryz
set_option maxHeartbeats 400000
section
variable {w w':WD}{B B' n c:Nat}{A:OA}{xs:LV}
end
section
variable {w w':WD}{n c:Nat}{A:OA}{l:LU}
end
section
variable {w w':WD}{base n c:Nat}{e:TypeId}{A:OA}{l:LU}
end
section
variable {P:Program}{t e:TypeId}(w:WD)
end
section
variable {w w':WD}{k c:Nat}{A:OA}{ls:List (LU)}
end
theorem q3s (w:WD)(e:TypeId):Own (w.alloc (.cells #[] e)) w.1.size e (some ⟨w.1.size,0,none⟩) 0 0 []:=
 World.ownsRow_lit (size:=1) w #[] 0 (AE _) (AW _) rfl
theorem qzy (w:WD)(e:TypeId)(l:LU)(f:Array Value)(h:f.toList=l.map bv)(hm:l.length<=16777216):Own (w.alloc (.cells f e)) w.1.size e (some ⟨w.1.size,0,none⟩) l.length l.length l:=by
 have m:f.size=l.length:=by rw[<-Array.length_toList,h,AF]
 have:=World.ownsRow_lit (e:=e) (size:=1) w f l.length (AE _) (by unfold maxLen;omega) (by omega);rw[h] at this;exact this
theorem Own.alloc {w:WD}{base:Nat}{e:TypeId}{A:OA}{n c:Nat}{l:LU}(h:Own w base e A n c l)(o:Obj):Own (w.alloc o) base e A n c l:=
 h.below ((AI _ _).alloc (AE _) o)
theorem qzz (w:WD)(e:TypeId)(b:UInt8)(v:Value)(h:bv b=v):Own (w.alloc (.cells #[v] e)) w.1.size e (some ⟨w.1.size,0,none⟩) 1 1 [b]:=
 qzy w e [b] #[v] (by rw[<-h];rfl) (by simp)
theorem q72 {w w':WD}(o:Obj){B:Nat}(m:Below B (w.alloc o) w')(f:B<=w.1.size):Below B w w':=((AI _ _).alloc f o).trans m
section
variable {P:Program}{t e:TypeId}(w:WD)
theorem qch (T:Ug P t e)(ty:TypeId)(base g:Nat)(E:Own w base e (some ⟨g,0,none⟩) 0 0 [])
  (B:OA) (m d:Nat) (D:LU) (y:Sl w B m d D) (U:m<=140737488355328) (q:base<=w.1.size) :
  ∃M O w',(Builtin.append_ #[t,t] ty #[.slice (some ⟨g,0,none⟩) 0 0,.slice B m d]).run P w=.ok (.slice M m O) w'/\Own w' base e M m O D/\Below w.1.size w w':=by
 obtain⟨i,hi,I,J,K⟩:=info_parts T.info;rcases Nat.eq_zero_or_pos m with h0|h0
 ·subst h0;have hn:D=[]:=BF y.len;subst hn;refine⟨some ⟨g,0,none⟩,0,w,?_,E,AI _ _⟩;rcases B with _|F
  ·simp[Builtin.append_,run_underlying T.sl,sizeOf,typeInfo,hi,Builtin.lenOf,Builtin.firstCells,storeCells]
  ·simp[Builtin.append_,run_underlying T.sl,sizeOf,typeInfo,hi,Builtin.lenOf,Builtin.firstCells,storeCells,loadCells,loadCellsFrom]
 ·obtain⟨F,rfl,_⟩:=y.cell h0;have f:∀j u,(D.map bv)[j]?=some u->w.cell? (F.add j)=some u:=by
   intro j u V;obtain⟨Q,h,_,R⟩:=y.2.2.2 j u V;injection h with h;subst h;exact R
  have H:(D.map bv).length=m:=by have:=y.len;simpa using this
  have p:=run_append_grow (P:=P) w t ty e i _ T.sl hi I ⟨g,0,none⟩ 0 0 [] (by simp) (by simp) F m d (D.map bv) (by rw[J,H];omega) f (by omega) (by omega) (growslice_fits (by omega) (by rw[K];omega));rw[AT] at p;have G:=grownCap_ge w m 0 e;refine⟨_,_,_,p,⟨by rw[H];omega,.inr ⟨w.1.size,_,_,rfl,q,BE w.drew _,G,grownCap_le_maxLen w m 0 e (by unfold maxLen;omega),?_,?_⟩⟩,(AI _ _).drew.alloc (AE _) _⟩
  ·simp only[Array.size_append,List.size_toArray,size_zeroCells,List.length_nil,H,show (Value.int .u8 0).cells.size=1 from rfl];omega
  ·simp only[Array.toList_append,BG];rw[List.take_append_of_le_length (by simp;have:=y.len;omega)];simp[List.take_of_length_le,y.len]
theorem q65 (T:Ug P t e){o:Oper}{a:Act}{K:Act->WD->Prop}{Q:Exit->Act->WD->Prop}(s x:Operand)
  (G:o.op=.call { callee:=.builtin .append,args:=#[s,x],argTypes:=#[t,t] })
  (base g:Nat) (I:a.eval s=.slice (some ⟨g,0,none⟩) 0 0) (p:Own w base e (some ⟨g,0,none⟩) 0 0 [])
  (B:OA) (m d:Nat) (E:LU) (J:a.eval x=.slice B m d) (H:Sl w B m d E) (D:m<=140737488355328) (f:base<=w.1.size)
  (h:∀u y w',Own w' base e u m y E->Below w.1.size w w'->K (a.put o.dst (.slice u m y)) w'):o.wp P a w K Q:=by
 obtain⟨u,y,w',q,h2,F⟩:=qch (P:=P) w T o.type base g p B m d E H D f;unfold Oper.wp execOp;simp only[G,resolve,invoke,builtin,Sem.run_bind,Sem.run_pure,Result.andThen_ok,List.map_toArray,BJ,List.map_nil,I,J,q];exact h u y w' h2 F
end
section
variable {w w':WD}{n c:Nat}{A:OA}{ss:List ByteArray}
end
theorem qvs (x:Int)(n j:Nat)(h:j<n):(Qx x n).take (j+1)=(Qx x n).take j++[low x (n-1-j)]:=by
 induction n generalizing j with
 |zero=>omega
 |succ n ih=>
  rcases j with _|j
  ·simp[Qx]
  ·have:=ih j (by omega);simp only[Qx,List.take_succ_cons,this,List.cons_append];rw[show n+1-1-(j+1)=n-1-j by omega]
theorem qA0 (x:Int)(k:Nat)(m:k<=7):bv (low x k)=.int .u8 (IntKind.u64.wrap x / 2 ^ (8*k) % 256):=by
 rw[qyh,IntKind.wrap_u64];congr 1
 have f:k=0\/k=1\/k=2\/k=3\/k=4\/k=5\/k=6\/k=7:=by omega
 rcases f with rfl|rfl|rfl|rfl|rfl|rfl|rfl|rfl
 ·rw[show (2:Int) ^ (8*0)=1 by decide];omega
 ·rw[show (2:Int) ^ (8*1)=256 by decide];omega
 ·rw[show (2:Int) ^ (8*2)=65536 by decide];omega
 ·rw[show (2:Int) ^ (8*3)=16777216 by decide];omega
 ·rw[show (2:Int) ^ (8*4)=4294967296 by decide];omega
 ·rw[show (2:Int) ^ (8*5)=1099511627776 by decide];omega
 ·rw[show (2:Int) ^ (8*6)=281474976710656 by decide];omega
 ·rw[show (2:Int) ^ (8*7)=72057594037927936 by decide];omega
def Uj (l:LU)(x:Int)(n j:Nat):LU:=l++(Qx x n).take j
theorem qo3 (l:LU)(x:Int)(n:Nat):Uj l x n 0=l:=by simp[Uj]
theorem qo4 (l:LU)(x:Int)(n j:Nat)(h:j<n):Uj l x n (j+1)=Uj l x n j++[low x (n-1-j)]:=by
 unfold Uj;rw[qvs x n j h,AM]
theorem qo5 (l:LU)(x:Int)(m q:Nat)(h:q+1<=m):Uj l x m (m-(q+1))++[low x q]=Uj l x m (m-q):=by
 rw[show m-q=m-(q+1)+1 by omega,qo4 l x m _ (by omega),show m-1-(m-(q+1))=q by omega]
theorem qqx (l:LU)(x:Int)(n j:Nat)(h:j<=n):(Uj l x n j).length=l.length+j:=by
 unfold Uj;rw[AD,AR,J8];omega
theorem qqy (l:LU)(x:Int)(n:Nat):Uj l x n n=l++Qx x n:=by
 unfold Uj;rw[AN (by rw[J8];omega)]
theorem qd1 (A:OA)(k c:Nat)(l:LU)(x n:Int)(w:WD)(h:Sl w A k c l)(Y:k<=17592186044416) :
  Calls prog 64 #[.slice A k c,.int .i64 x,.int .i64 n] w λe w'=>∃G F H,e=.returned (.slice G F H)/\Own w' w.1.size 5 G F H (Uw l x n)/\Below w.1.size w w':=by
 have R:=HI h.len;have h0:Own (w.alloc (.cells #[] 5)) w.1.size 5 (some ⟨w.1.size,0,none⟩) 0 0 []:=q3s w 5;have O:=h.alloc (.cells #[] 5);by_cases hn:1<=n/\n<=8
 ·have M:=HI (show Uw l x n=l++Qx x n.toNat from AA hn);obtain⟨h1,X⟩:=hn;obtain⟨m,rfl⟩:=Int.eq_ofNat_of_zero_le (show 0<=n by omega);rw[AJ] at M;go_enter func64,ntmps64
  go_wp2_with (at_builtin;refine q1r _ Cb rfl _ _ rfl w.1.size _ 0 0 [] rfl h0 A k c l rfl O (by omega) (by simp) ?_)
  intro Q c1 V p f;have f:=q72 _ f (AE _);go_wp2;go_loopw [7,8] (λo i wr=>∃(t:Nat) (G:OA) (F H:Nat),t<=m/\i=.int .i64 ((t:Int)-1)/\o=.slice G F H/\Own wr w.1.size 5 G F H (Uj l x m (m-t))/\Below w.1.size w wr) (λ_ i _=>(intOf i+1).toNat)
  case atStart=>exact⟨m,_,_,_,AE _,rfl,rfl,by rw[Nat.sub_self,qo3];simpa using p,f⟩
  case round=>
   obtain⟨t,G,F,H,U,rfl,rfl,u,K⟩:=hrel;rcases t with _|q
   ·rw[show m-0=m from rfl,qqy,<-M.out] at u;go_wp2;go_ret;exact⟨_,_,_,rfl,u,K⟩
   ·rw[show (((q+1:Nat):Int)-1)=(q:Int) by omega];have I:=u.len;rw[qqx _ _ _ _ (by omega),R.out] at I;have J:=qzz wr 5 (low x q) _ (qA0 x q (by omega));have E:=u.alloc (.cells #[.int .u8 (IntKind.u64.wrap x / 2 ^ (8*q) % 256)] 5);have T:F<=17592186044424:=by omega
    clear I;go_wp2_with (at_builtin;refine q1r _ Cb rfl _ _ rfl w.1.size _ _ _ _ rfl E _ _ _ _ rfl J.sl (by omega) (by have:=K.size;simp;omega) ?_)
    intro W c2 Z y D;have D:=q72 _ D K.size;rw[qo5 l x m q U] at y;go_wp2;exact⟨⟨q,_,_,_,by omega,rfl,rfl,y,K.trans D⟩,by simp[intOf]⟩
 ·have M:=HI (show Uw l x n=l from AB hn);rcases (by omega:n<1\/8<n) with h1|h1
  all_goals
   go_enter func64,ntmps64
   go_wp2_with (at_builtin;refine q1r _ Cb rfl _ _ rfl w.1.size _ 0 0 [] rfl h0 A k c l rfl O (by omega) (by simp) ?_)
   intro Q c1 V p f;have f:=q72 _ f (AE _);go_wp2;go_ret;rw[M.out];exact⟨_,_,_,rfl,by simpa using p,f⟩
theorem qgr:∀{a b:LU},a.length=b.length->Qq a=Qq b->a=b
 |[],[],_,_=>rfl
 |[],_::_,h,_=>by simp at h
 |_::_,[],h,_=>by simp at h
 |x::a,y::b,h,e=>by
  have f:a.length=b.length:=by simpa using h
  rw[q7v,q7v,f] at e;have h1:=q3m a;have h2:=q3m b;rw[f] at h1;have p:0<256 ^ b.length:=Nat.pow_pos (by omega);have q:(x.toNat*256 ^ b.length+Qq a) / 256 ^ b.length=x.toNat:=by rw[Nat.mul_comm,Nat.mul_add_div p,Nat.div_eq_of_lt h1];omega
  have u:(y.toNat*256 ^ b.length+Qq b) / 256 ^ b.length=y.toNat:=by rw[Nat.mul_comm,Nat.mul_add_div p,Nat.div_eq_of_lt h2];omega
  have m:x.toNat=y.toNat:=by rw[<-q,<-u,e]
  have E:=UInt8.toNat_inj.1 m;subst E;have D:Qq a=Qq b:=by omega
  rw[qgr f D]
