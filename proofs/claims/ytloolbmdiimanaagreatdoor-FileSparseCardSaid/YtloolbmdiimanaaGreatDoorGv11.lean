/- Superblocks: loads, stores and comparisons of this program; the code's within and digit; w -/
import Derived.Test.YtloolbmdiimanaaGreatDoorGv8
import Derived.Test.YtloolbmdiimanaaGreatDoorGv9
namespace Go.Proofs.YtloolbmdiimanaaGreatDoor
open Go Go.RowKit Go.Proofs Tryz
set_option maxHeartbeats 4000000
set_option maxRecDepth 100000
section
variable {w:WD}{b:Nat}{S:Sp}{v:Vl}
theorem Qb5 (H:SB w b S):(Instr.loadAt 61 (.pointer (some ⟨b,0,none⟩))).run prog w=.ok (.agg S.vs.toArray) w:=
 run_loadAt_mid w b 0 61 S.vs _ H.range underlying61 rfl (by rw[S.Jh];kernel_rfl)
theorem Qb6 (H:SB w b S):(Instr.loadAt 59 (.pointer (some ⟨b,3,none⟩))).run prog w=.ok (.agg (S.Jq.flatMap Vl.vs).toArray) w:=
 run_loadAt_mid w b 3 59 (S.Jq.flatMap Vl.vs) _ H.Jq underlying59 rfl (by rw[qs1,S.len];kernel_rfl)
theorem qjj {α:Type}:∀{l:List α},l.length=8->∃a b c d e f g h,l=[a,b,c,d,e,f,g,h]
 |[a,b,c,d,e,f,g,h],_=>⟨a,b,c,d,e,f,g,h,rfl⟩
theorem qy5 (S:Sp){k:Nat}(m:k<8)(w:WD):(Instr.index 59 (.agg (S.Jq.flatMap Vl.vs).toArray) (.int .i64 (k:Int))).run prog w=.ok (.agg #[.string (S.at_ k).name,.bool (S.at_ k).ro,.int .i64 (S.at_ k).root,.int .i64 (S.at_ k).next]) w:=by
 unfold Sp.at_;obtain⟨a,b,c,d,e,f,g,h,p⟩:=qjj S.len;rw[p];match k,m with
 |0,_=>show (Instr.index 59 _ (.int .i64 0)).run prog w=_;kernel_rfl
 |1,_=>show (Instr.index 59 _ (.int .i64 1)).run prog w=_;kernel_rfl
 |2,_=>show (Instr.index 59 _ (.int .i64 2)).run prog w=_;kernel_rfl
 |3,_=>show (Instr.index 59 _ (.int .i64 3)).run prog w=_;kernel_rfl
 |4,_=>show (Instr.index 59 _ (.int .i64 4)).run prog w=_;kernel_rfl
 |5,_=>show (Instr.index 59 _ (.int .i64 5)).run prog w=_;kernel_rfl
 |6,_=>show (Instr.index 59 _ (.int .i64 6)).run prog w=_;kernel_rfl
 |7,_=>show (Instr.index 59 _ (.int .i64 7)).run prog w=_;kernel_rfl
end
theorem qhn {α:Type}(L:List α)(o:Nat)(v:α)(r:List α)(h:o<L.length):splice (L.set o v) (o+1) r=splice L o (v::r):=by
 unfold splice;have d:(L.set o v).take (o+1)=L.take o++[v]:=by
  rw[List.take_succ_eq_append_getElem (by simpa using h),List.take_set_of_le (AE _),List.getElem_set_self]
 have e:(L.set o v).drop (o+1+r.length)=L.drop (o+(v::r).length):=by
  rw[List.drop_set_of_lt (by omega),AX];congr 1
  omega
 rw[d,e,AM];rfl
theorem q0z (b:Nat)(t:TypeId):∀(vs:LV) (o:Nat) (w:WD) (L:LV),w.1[b]?=some (.cells L.toArray t (0,0))->o+vs.length<=L.length->
  (w.setCells b o vs).1[b]?=some (.cells (splice L o vs).toArray t (0,0))
 |[],o,w,L,H,_=>by
  unfold splice;simpa [World.setCells] using H
 |v::r,o,w,L,H,hl=>by
  have d:o+(r.length+1)<=L.length:=by simpa using hl
  have h1:=heap_setCell_same w b o L.toArray t v H;rw[show L.toArray.setIfInBounds o v=(L.set o v).toArray by simp] at h1;have h2:=q0z b t r (o+1) (w.setCell ⟨b,o,none⟩ v) (L.set o v) h1 (by rw[List.length_set];omega);rw[qhn L o v r (by omega)] at h2;exact h2
theorem q3w {α:Type}(L C:List α)(h:L.length=C.length):splice L 0 C=C:=by
 unfold splice;rw[List.take_zero,BG,List.drop_of_length_le (by omega),BM]
theorem Es {f:Array Oper}{d:List Oper}{o:Oper}{a:Act}{w:WD}{Q:Exit->Act->WD->Prop}(D:o.guard=none)(x y:Operand)(p:o.op=Op.store 61 x y)
  (b:Nat) (u:a.eval x=.pointer (some ⟨b,0,none⟩)) (S g:Sp) (F:a.eval y=.agg S.vs.toArray) (H:SB w b g)
  (A:∀m,SB m b S->(∀B,B<=b->Below B w m)->Turn (λk=>k=b) w m->wpList prog f Q d (a.put o.dst undef) m):wpList prog f Q (o::d) a w:=by
 have E:w.there b 0 S.vs.toArray.size:=by rw[List.size_toArray,S.Jh];exact H.there
 refine wpList_store_mid D _ x y p b 0 S.vs.toArray u F E (by rw[List.size_toArray,S.Jh];kernel_rfl) (all_oneCell_toArray S.one) ?_;have T:=Us (S:=λk=>k=b) rfl S.vs 0 w;refine A _ ?_ (λB G=>T.below (λx u=>by omega) (by have:=H.lt;omega)) T;obtain⟨t,H⟩:=H;have e:=q0z b t S.vs 0 w g.vs H (by rw[S.Jh,g.Jh];omega);rw[q3w _ _ (by rw[S.Jh,g.Jh])] at e;exact⟨t,e⟩
theorem qho {f:Array Oper}{d:List Oper}{o:Oper}{a:Act}{w:WD}{Q:Exit->Act->WD->Prop}(A:o.guard=none)(x y:Operand)(m:o.op=Op.store 58 x y)
  (b k:Nat) (E:k<8) (p:a.eval x=.pointer (some ⟨b,3+4*k,none⟩)) (v:Vl) (S:Sp) (G:a.eval y=v.v) (H:SB w b S)
  (u:∀g,SB g b (S.Ph k v)->(∀B,B<=b->Below B w g)->Turn (λk=>k=b) w g->wpList prog f Q d (a.put o.dst undef) g):wpList prog f Q (o::d) a w:=by
 have F:w.there b (3+4*k) v.vs.toArray.size:=λj D=>by
  have:=H.there (3+4*k+j) (by have:j<4:=D;omega);rwa [AT] at this
 refine wpList_store_mid A _ x y m b (3+4*k) v.vs.toArray p G F (by kernel_rfl) (all_oneCell_toArray (by simp[Vl.vs,Value.oneCell'])) ?_;have T:=Us (S:=λk=>k=b) rfl v.vs (3+4*k) w;refine u _ ?_ (λB I=>T.below (λx p=>by omega) (by have:=H.lt;omega)) T;obtain⟨t,H⟩:=H;have e:=q0z b t v.vs (3+4*k) w S.vs H (by rw[S.Jh,Jh];omega);rw[<-S.Qbq E] at e;exact⟨t,e⟩
theorem qhp {f:Array Oper}{d:List Oper}{o:Oper}{a:Act}{w:WD}{Q:Exit->Act->WD->Prop}(D:o.guard=none)(x y:Operand)(m:o.op=Op.store 58 x y)
  (b:Nat) (u:a.eval x=.pointer (some ⟨b,0,none⟩)) (v p:Vl) (E:a.eval y=v.v) (H:VB w b p)
  (A:∀g,VB g b v->(∀B,B<=b->Below B w g)->Turn (λk=>k=b) w g->wpList prog f Q d (a.put o.dst undef) g):wpList prog f Q (o::d) a w:=by
 refine wpList_store_mid D _ x y m b 0 v.vs.toArray u E H.there (by kernel_rfl) (all_oneCell_toArray (by simp[Vl.vs,Value.oneCell'])) ?_;have T:=Us (S:=λk=>k=b) rfl v.vs 0 w;refine A _ ?_ (λB F=>T.below (λx u=>by omega) (by have:=H.lt;omega)) T;obtain⟨t,H⟩:=H;have e:=q0z b t v.vs 0 w p.vs H (by rw[Jh,Jh];omega);rw[q3w p.vs v.vs rfl] at e;exact⟨t,e⟩
theorem qlo {e:Array Oper}{d:List Oper}{o:Oper}{a:Act}{w:WD}{Q:Exit->Act->WD->Prop}(m:o.guard=none)(x:Operand)(f:o.op=Op.load 59 x)
  (b:Nat) (p:a.eval x=.pointer (some ⟨b,3,none⟩)) (S:Sp) (H:SB w b S) (g:wpList prog e Q d (a.put o.dst (.agg (S.Jq.flatMap Vl.vs).toArray)) w):wpList prog e Q (o::d) a w:=
 wpList_load_mid m _ x f b 3 p (S.Jq.flatMap Vl.vs) _ H.Jq underlying59 rfl (by rw[qs1,S.len];kernel_rfl) g
theorem qsp (d:Nat)(a b:Vl)(w:WD):(Op.equalIn (d+2) 58 a.v b.v).run prog w=.ok (a.same b) w:=by
 unfold Vl.v;rw[run_equalIn_agg w (d+1) 58 _ _ (by kernel_rfl) (by kernel_rfl)];unfold Program.fieldsOf;rw[underlying58];simp[go_sem,underlying3,underlying9,underlying4];unfold Vl.same;by_cases h1:a.name.toList=b.name.toList
 ·by_cases h2:a.ro=b.ro
  ·by_cases e:a.root=b.root
   ·by_cases f:a.next=b.next
    ·simp[h1,h2,e,f]
    ·simp[h1,h2,e,f]
   ·simp[h1,h2,e]
  ·simp[h1,h2]
 ·simp[h1]
theorem qy6 (a b:Vl)(r:Bool)(h:a.same b=r)(w:WD):(binOp .neq 58 (.agg #[.string a.name,.bool a.ro,.int .i64 a.root,.int .i64 a.next]) (.agg #[.string b.name,.bool b.ro,.int .i64 b.root,.int .i64 b.next])).run prog w=.ok (.bool (!r)) w:=by
 rw[run_neq_struct];have:=qsp 9998 a b w;unfold Vl.v at this;rw[this,h];rfl
theorem qc6 (l:LU)(k:Nat)(d:k<l.length)(w:WD):(Go.part 5 (l.map bv).toArray (k*1)).run prog w=.ok (bv (l.getD k 0)) w:=by
 refine run_part_plain w (by kernel_rfl) ?_;rw[Nat.mul_one];simp[List.getD,d]
theorem q6l (d:Nat)(l m:LU)(w:WD):∀is:List Nat,(∀i∈is,i<l.length/\i<m.length)->(Op.eqItems (d+1) 5 1 (l.map bv).toArray (m.map bv).toArray is).run prog w=.ok (is.all λi=>l.getD i 0==m.getD i 0) w
 |[],_=>rfl
 |i::is,h=>by
  obtain⟨h1,h2⟩:=h i (AP ..);have g:=q6l d l m w is λj f=>h j (AO _ f)
  have e:(Op.equalIn (d+1) 5 (bv (l.getD i 0)) (bv (m.getD i 0))).run prog w=.ok (l.getD i 0==m.getD i 0) w:=by
   unfold bv;rw[run_equalIn_int w d 5 .u8 .u8 _ _ underlying5];congr 1
   rw[Bool.eq_iff_iff,beq_iff_eq,beq_iff_eq];exact⟨λh=>UInt8.toNat_inj.1 (by omega),λh=>by rw[h]⟩
  simp only[Op.eqItems,Sem.run_bind,qc6 l i h1 w,qc6 m i h2 w,e,Result.andThen_ok,List.all_cons]
  cases l.getD i 0==m.getD i 0
  ·simp
  ·simpa using g
theorem qy7 (l m:LU)(n:Nat)(h1:l.length=n)(h2:m.length=n):((List.range n).all λi=>l.getD i 0==m.getD i 0)=decide (l=m):=by
 rw[Bool.eq_iff_iff,List.all_eq_true,decide_eq_true_eq];constructor
 ·intro h;refine List.ext_getElem (by omega) λi hi d=>?_
  have:=h i (List.mem_range.2 (by omega));simpa [List.getD,hi,d] using this
 ·rintro rfl i _;simp
theorem qo3 (l m:LU)(h1:l.length=256)(h2:m.length=256)(r:Bool)(e:decide (l=m)=r)(w:WD):(binOp .neq 123 (.agg (l.map bv).toArray) (.agg (m.map bv).toArray)).run prog w=.ok (.bool (!r)) w:=by
 have hi:∃i,prog.info? 5=some i/\prog.cellsOf 5=1:=(Option.isSome_iff_exists.1 (show (prog.info? 5).isSome=true by kernel_rfl)).elim λi hi=>⟨i,hi,by kernel_rfl⟩
 obtain⟨i,hi,d⟩:=hi;rw[run_neq_struct,run_equalIn_array w 9999 _ _ underlying123 hi,d,q6l 9998 l m w _ (λi hi=>by have:=List.mem_range.1 hi;omega),qy7 l m 256 h1 h2,e];rfl
theorem Px (x a b:Int)(r:Bool)(h:decide (a<=x/\x<=b)=r)(w:WD) :
  Calls prog 68 #[.int .i64 x,.int .i64 a,.int .i64 b] w λe d=>e=.returned (.bool r)/\w=d:=by
 subst h;go_enter func68,ntmps68
 go_wp2;all_goals
  go_ret;refine⟨congrArg (λx=>Ending.returned (Value.bool x)) ?_,rfl⟩;first
   |exact (AH (by omega)).symm
   |exact decide_eq_decide.2 (by omega)
   |(rw[Bool.eq_iff_iff];simp;omega)
def Nv (b:Bool):Int:=if b=true then 1 else 0
theorem qlp (b:Bool)(w:WD) :
  Calls prog 131 #[.bool b] w λe d=>e=.returned (.int .i64 (Nv b))/\w=d:=by
 cases b;all_goals
  go_enter func131,ntmps131
  go_wp2;go_ret;exact⟨rfl,rfl⟩
def Ov (c:Nat):Bool:=decide ((97<=c/\c<=122)\/(48<=c/\c<=57)\/c=45)
def Tc (s:ByteArray):Bool:=(List.range s.size).all λj=>Ov (Xr s.data.toList j)
def Di (s:ByteArray):Bool:=Tc s&&decide (1<=s.size/\s.size<=10)
theorem qy8 {s:ByteArray}{j:Nat}(d:j<s.size)(h:Ov (Xr s.data.toList j)=false):Di s=false:=by
 have:Tc s=false:=by
  unfold Tc;rw[List.all_eq_false];exact⟨j,List.mem_range.2 d,by rw[h];simp⟩
 unfold Di;rw[this,Bool.false_and]
theorem qw9 {s:ByteArray}(h:∀j,j<s.size->Ov (Xr s.data.toList j)=true):Di s=decide (1<=s.size/\s.size<=10):=by
 have:Tc s=true:=by
  unfold Tc;rw[List.all_eq_true];exact λj d=>h j (List.mem_range.1 d)
 unfold Di;rw[this,Bool.true_and]
theorem qwa (s:ByteArray)(k:Nat)(d:k<s.size)(w:WD):(Instr.index 9 (.string s) (.int .i64 (k:Int))).run prog w=.ok (.int .u8 (Xr s.data.toList k:Int)) w:=by
 rw[run_index_string w 9 s .i64 _ underlying9,dif_pos (by omega)];congr 3
 unfold Xr;rw[AG,AC (by simpa using d)];simp[ByteArray.getElem_eq_getElem_data]
theorem q7h (s:ByteArray)(r:Bool)(O:Di s=r)(w:WD)(hm:s.size<=maxLen) :
  Calls prog 130 #[.string s] w λe Q=>e=.returned (.bool r)/\w=Q:=by
 subst O;unfold maxLen at hm;go_enter func130,ntmps130
 go_wp2_with fail
 go_loop [7] (λi=>∃k:Nat,k<=s.size/\i=.int .i64 (k:Int)/\∀j<k,Ov (Xr s.data.toList j)=true) (λi=>s.size-(intOf i).toNat)
 case atStart=>exact⟨0,AW _,rfl,λj K=>by omega⟩
 case round=>
  obtain⟨k,R,rfl,f⟩:=hrel;by_cases A:k<s.size
  ·have H:=qwa s k A;have m:=λh=>qy8 (s:=s) (j:=k) A h
   obtain⟨c,G⟩:∃c,Xr s.data.toList k=c:=⟨_,rfl⟩;have J:=q8h s.data.toList k;rw[G] at H m J;have g:=HI m;have next:Ov c=true->∀j<k+1,Ov (Xr s.data.toList j)=true:=λh j K=>by
    by_cases I:j=k
    ·rw[I,G];exact h
    ·exact f j (by omega)
   have d:=HI next;have M:(0:Int)<=(k:Int):=by omega
   clear m next f G;rcases (by omega:(97<=c/\c<=122)\/122<c\/(57<c/\c<97)\/(48<=c/\c<=57)\/(c<48/\c≠45)\/c=45) with h|h|h|h|h|h
   ·have B:decide ((c:Int)<97)=false:=AH (by omega);have D:decide (122<(c:Int))=false:=AH (by omega);have E:decide ((c:Int)<48)=false:=AH (by omega);have F:decide (57<(c:Int))=true:=AL (by omega);go_wp2;exact⟨⟨k+1,by omega,by go_num,d.out (AL (by omega))⟩,by simp[intOf];omega⟩
   ·have B:decide ((c:Int)<97)=false:=AH (by omega);have D:decide (122<(c:Int))=true:=AL (by omega);have E:decide ((c:Int)<48)=false:=AH (by omega);have F:decide (57<(c:Int))=true:=AL (by omega);have p:¬(c:Int)=45:=by omega
    go_wp2;go_ret;exact⟨by rw[g.out (AH (by omega))];rfl,rfl⟩
   ·have B:decide ((c:Int)<97)=true:=AL (by omega);have D:decide (122<(c:Int))=false:=AH (by omega);have E:decide ((c:Int)<48)=false:=AH (by omega);have F:decide (57<(c:Int))=true:=AL (by omega);have p:¬(c:Int)=45:=by omega
    go_wp2;go_ret;exact⟨by rw[g.out (AH (by omega))];rfl,rfl⟩
   ·have B:decide ((c:Int)<97)=true:=AL (by omega);have D:decide (122<(c:Int))=false:=AH (by omega);have E:decide ((c:Int)<48)=false:=AH (by omega);have F:decide (57<(c:Int))=false:=AH (by omega);go_wp2;exact⟨⟨k+1,by omega,by go_num,d.out (AL (by omega))⟩,by simp[intOf];omega⟩
   ·have B:decide ((c:Int)<97)=true:=AL (by omega);have D:decide (122<(c:Int))=false:=AH (by omega);have E:decide ((c:Int)<48)=true:=AL (by omega);have F:decide (57<(c:Int))=false:=AH (by omega);have p:¬(c:Int)=45:=by omega
    go_wp2;go_ret;exact⟨by rw[g.out (AH (by omega))];rfl,rfl⟩
   ·subst h;go_wp2;exact⟨⟨k+1,by omega,by go_num,d.out (by decide)⟩,by simp[intOf];omega⟩
  ·have u:k=s.size:=by omega
   have y:=HI (qw9 (s:=s) (by rw[<-u];exact f));clear u f;go_wp2_with fail
   refine (Px (s.size:Int) 1 10 _ rfl w).mono ?_;rintro e T ⟨rfl,rfl⟩;go_wp2;go_ret;exact⟨by rw[y.out];exact congrArg (λx=>Ending.returned (Value.bool x)) (by rw[Bool.eq_iff_iff];simp;omega),rfl⟩
def Vl.ok (v:Vl)(n:Int):Bool:=Di v.name&&(decide (0<=v.root/\v.root<=n-1)&&decide (2<=v.next/\v.next<=2147483647))
def Kv (l:List Vl)(s:ByteArray):Bool:=l.any λu=>u.name.toList==s.toList
def Sp.ok1 (S:Sp)(i:Nat):Bool:=(S.at_ i).same Vl.zero||((S.at_ i).ok S.Qa&&!Kv (S.Jq.take i) (S.at_ i).name)
def Sp.hd (S:Sp):Bool:=decide (1<=S.gen/\S.gen<=1099511627775/\32<=S.Qa/\S.Qa<=2048/\0<=S.log/\S.log<=S.Qa-1)
def Sp.may (S:Sp):Bool:=S.hd&&(List.range 8).all S.ok1
def Sp.fine (S:Sp):Prop:=∀k,k<8->(S.at_ k).name.size<=maxLen
theorem qvj {S:Sp}{j:Nat}(d:j<8)(h:S.ok1 j=false):S.may=false:=by
 have:(List.range 8).all S.ok1=false:=by
  rw[List.all_eq_false];exact⟨j,List.mem_range.2 d,by rw[h];simp⟩
 unfold Sp.may;rw[this,Bool.and_false]
theorem qo4 {S:Sp}(h0:S.hd=true)(h:∀j,j<8->S.ok1 j=true):S.may=true:=by
 have:(List.range 8).all S.ok1=true:=by
  rw[List.all_eq_true];exact λj d=>h j (List.mem_range.1 d)
 unfold Sp.may;rw[this,h0];rfl
theorem qo5 {S:Sp}(h:S.hd=false):S.may=false:=by unfold Sp.may;rw[h,Bool.false_and]
theorem q64 (v:Vl)(n:Int)(h1:32<=n)(h2:n<=2048)(r:Bool)(u:v.ok n=r)(hm:v.name.size<=maxLen)(w:WD) :
  Calls prog 96 #[.agg #[.string v.name,.bool v.ro,.int .i64 v.root,.int .i64 v.next],.int .i64 n] w λe y=>e=.returned (.bool r)/\Below w.1.size w y:=by
 subst u;obtain⟨a,g⟩:∃a,Di v.name=a:=⟨_,rfl⟩;obtain⟨b,m⟩:∃b,decide (0<=v.root/\v.root<=n-1)=b:=⟨_,rfl⟩;obtain⟨c,p⟩:∃c,decide (2<=v.next/\v.next<=2147483647)=c:=⟨_,rfl⟩;have d:=HI (show v.ok n=(a&&(b&&c)) by unfold Vl.ok;rw[g,m,p]);go_enter func96,ntmps96
 cases a
 ·go_wp2_with (first
   |(go_at_call 130;refine (q7h v.name false g _ hm).mono ?_;rintro e f ⟨rfl,rfl⟩)
   |fail)
  go_ret;exact⟨by rw[d.out];rfl,Ql⟩
 ·cases b
  ·go_wp2_with (first
    |(go_at_call 130;refine (q7h v.name true g _ hm).mono ?_;rintro e f ⟨rfl,rfl⟩)
    |(go_at_call 68;refine (Px v.root 0 (n-1) false m _).mono ?_;rintro e f ⟨rfl,rfl⟩)
    |fail)
   go_ret;exact⟨by rw[d.out];rfl,Ql⟩
  ·go_wp2_with (first
    |(go_at_call 130;refine (q7h v.name true g _ hm).mono ?_;rintro e f ⟨rfl,rfl⟩)
    |fail)
   refine (Px v.root 0 (n-1) true m _).mono ?_;rintro e f ⟨rfl,rfl⟩;go_wp2_with fail
   refine (Px v.next 2 2147483647 c p _).mono ?_;rintro e f ⟨rfl,rfl⟩;go_wp2;go_ret;exact⟨by rw[d.out];rfl,Ql⟩
def Bz (l:List Vl)(j:Nat):Vl:=l.getD j Vl.zero
theorem qdx {l:List Vl}{j:Nat}(h:j<l.length):l[j]?=some (Bz l j):=by simp[Bz,List.getD,h]
def Fj (w:WD)(A:OA)(n c:Nat)(l:List Vl):Prop:=Jy w 4 A n c (l.map Vl.vs)
theorem Fj.len {w:WD}{A:OA}{n c:Nat}{l:List Vl}(h:Fj w A n c l):l.length=n:=by simpa using Jy.len h
theorem Fj.cell {w:WD}{A:OA}{n c:Nat}{l:List Vl}(h:Fj w A n c l){j:Nat}(hj:j<n):∃g o,A=some ⟨g,o,none⟩/\g<w.1.size/\w.cell? ⟨g,o+j*4,none⟩=some (.string (Bz l j).name)/\w.cell? ⟨g,o+j*4+1,none⟩=some (.bool (Bz l j).ro)/\
  w.cell? ⟨g,o+j*4+2,none⟩=some (.int .i64 (Bz l j).root)/\w.cell? ⟨g,o+j*4+3,none⟩=some (.int .i64 (Bz l j).next):=by
 have f:=h.len;obtain⟨g,o,rfl,e,_,d⟩:=h.2.2.2 j (Bz l j).vs (by rw[BA,qdx (by omega)];rfl);exact⟨g,o,rfl,e,d 0 _ rfl,d 1 _ rfl,d 2 _ rfl,d 3 _ rfl⟩
theorem qo6 {l:List Vl}{s:ByteArray}{j:Nat}(d:j<l.length)(h:((Bz l j).name.toList==s.toList)=true):Kv l s=true:=by
 unfold Kv;rw[List.any_eq_true];exact⟨_,List.mem_of_getElem? (qdx d),h⟩
theorem qsq {l:List Vl}{s:ByteArray}(h:∀j,j<l.length->((Bz l j).name.toList==s.toList)=false):Kv l s=false:=by
 unfold Kv;rw[List.any_eq_false];intro u f;obtain⟨j,d,rfl⟩:=List.getElem_of_mem f;have:=h j d;have e:=qdx d;rw[AC d] at e;injection e with e;rw[<-e] at this;rw[this];simp
theorem qc7 (l:List Vl)(s:ByteArray)(r:Bool)(F:Kv l s=r)(A:OA)(n c:Nat)(w:WD)(h:Fj w A n c l)(_:n<=100000) :
  Calls prog 97 #[.slice A n c,.string s] w λe Q=>e=.returned (.bool r)/\Below w.1.size w Q:=by
 subst F;have d:=HI h.len;have K:=Jy.cap h;have u:=Jy.max h;unfold maxLen at u;go_enter func97,ntmps97
 go_wp2_with fail
 go_loopw [9] (λi wr=>∃j:Nat,j<=n/\i=.int .i64 (j:Int)/\(∀q,q<j->((Bz l q).name.toList==s.toList)=false)/\Below w.1.size w wr) (λi _=>n-(intOf i).toNat)
 case atStart=>exact⟨0,AW _,rfl,λq D=>by omega,AI _ _⟩
 case round=>
  obtain⟨j,T,rfl,f,m⟩:=hrel;by_cases p:j<n
  ·have F:Fj wr A n c l:=Jy.below h m;obtain⟨g,o,J,R,c0,c1,c2,c3⟩:=F.cell p;subst J;obtain⟨x,G⟩:∃x,Bz l j=x:=⟨_,rfl⟩;rw[G] at c0 c1 c2 c3;have H:=HI G;clear G;have M:(0:Int)<=(j:Int):=by omega
   have I:Below wr.1.size wr (wr.alloc (.cells #[.string x.name,.bool x.ro,.int .i64 x.root,.int .i64 x.next] 58)):=Ql
   cases D:x.name.toList==s.toList
   ·go_wp2;refine⟨⟨j+1,by omega,by go_num,λq O=>?_,m.trans (I.mono m.size)⟩,by simp[intOf];omega⟩;by_cases E:q=j
    ·rw[E,H.out];exact D
    ·exact f q (by omega)
   ·go_wp2;go_ret;exact⟨by rw[qo6 (j:=j) (by rw[d.out];exact p) (by rw[H.out];exact D)];rfl,m.trans (I.mono m.size)⟩
  ·have y:j=n:=by omega
   have B:=HI (qsq (l:=l) (s:=s) (by rw[d.out,<-y];exact f));go_wp2;go_ret;exact⟨by rw[B.out];rfl,m⟩
def Ai (s:ByteArray):LU:=s.data.toList++List.replicate (10-s.size) 0
def Xp (v:Vl):LU:=Q8 (v.name.size:Int) 1++(Ai v.name++(Q8 (Nv v.ro) 1++(Q8 v.root 2++Q8 v.next 4)))
def Zq (S:Sp)(k:Nat):LU:=Q8 S.Qa 2++(Q8 S.log 2++(S.Jq.take k).flatMap Xp)
theorem q92 (s:ByteArray)(h:s.size<=10):(Ai s).length=10:=by unfold Ai;simp;omega
theorem qsr (v:Vl)(h:v.name.size<=10):(Xp v).length=18:=by unfold Xp;simp[q92 _ h,Xz]
theorem qa0 (S:Sp):Zq S 0=Q8 S.Qa 2++Q8 S.log 2:=by unfold Zq;simp
theorem qa1 (S:Sp){k:Nat}(d:k<8):Zq S (k+1)=Zq S k++Xp (S.at_ k):=by
 unfold Zq;have h:=S.get d;have e:k<S.Jq.length:=by rw[S.len];exact d
 rw[AC e] at h;rw[List.take_succ_eq_append_getElem e,List.flatMap_append,OI h];simp
theorem J6 (S:Sp)(k:Nat)(d:k<=8)(h:∀j,j<8->(S.at_ j).name.size<=10):(Zq S k).length=4+18*k:=by
 induction k with
 |zero=>rw[qa0];simp[Xz]
 |succ k ih=>rw[qa1 S (by omega),AD,ih (by omega),qsr _ (h k (by omega))];omega
theorem q7i (A:OA)(k c:Nat)(l:LU)(x n:Int)(w:WD)(h:Sl w A k c l)(u:k<=17592186044416)(h1:1<=n)(h2:n<=8) :
  Calls prog 65 #[.slice A k c,.int .i64 x,.int .i64 n] w λe m=>∃f d g,e=.returned (.slice f d g)/\Own m w.1.size 5 f d g (l++Q8 x n.toNat)/\(d<=k+n.toNat/\k+n.toNat<=d)/\Below w.1.size w m:=by
 refine (q7r A k c l x n w h u).mono ?_;rw[qz7 l x n h1 h2];rintro e m ⟨f,d,g,rfl,own,p⟩;have:=own.len;rw[AD,Xz,h.len] at this;exact⟨f,d,g,rfl,own,⟨by omega,by omega⟩,p⟩
section
variable {P:Program}{w:WD}
theorem qfg (u H ty e:TypeId)(g n:Nat)(l:LU)(A:TypeId)(d:ByteArray)(G:P.underlying u=some (.slice e))(F:(P.info? e).map (·.size)=some 1)
  (E:w.1[g]?=some (.cells (l.map bv).toArray A (0,0))) (hn:l.length=n) (p:d.size<=n) :
  (Builtin.copy_ #[u,H] ty #[.slice (some ⟨g,0,none⟩) n n,.string d]).run P w=.ok (goInt d.size) (w.setRow g ((splice l 0 d.data.toList).map bv).toArray):=by
 have f:(d.data.toList.map bv).length=d.size:=by simp
 have m:=run_storeCells_at P g 0 A (d.data.toList.map bv) 0 (l.map bv).toArray w E (by rw[f];simp;omega) (qf8 _);have hm:Nat.min d.size n=d.size:=Nat.min_eq_left p;have I:(Array.map (λb:UInt8=>Value.int .u8 (b.toNat:Int)) (d.extract 0 d.size).data).toList=d.data.toList.map bv:=by
  have:d.extract 0 d.size=d:=by ext1;simp
  rw[this];simp[bv]
 have B:((l.map bv).toArray.toList.take (0+0)++d.data.toList.map bv++(l.map bv).toArray.toList.drop (0+0+(d.data.toList.map bv).length))=(splice l 0 d.data.toList).map bv:=by
  unfold splice;simp
 rw[B] at m
 cases y:P.info? e with
 |none=>simp[y] at F
 |some i=>
  simp only[Builtin.copy_,Builtin.lenOf,Builtin.firstCells,sizeOf,typeInfo];simp only[List.getElem?_toArray,List.getElem?_cons_zero,List.getElem?_cons_succ,Sem.run_bind];simp[run_underlying G,y,hm];have D:List.take d.size (List.map (λb:UInt8=>Value.int .u8 (b.toNat:Int)) d.data.toList)=d.data.toList.map bv:=by
   rw[AN (by simp)];rfl
  rw[D,m];rfl
theorem qhq {D:Array Oper}{o:Oper}{a:Act}{K:Act->WD->Prop}{Q:Exit->Act->WD->Prop}{E:Prop}(A:o.guard=none)(d s:Operand)(y I f:TypeId)
  (R:o.op=.call { callee:=.builtin .copy,args:=#[d,s],argTypes:=#[y,I] }) (U:P.underlying y=some (.slice f)) (T:(P.info? f).map (·.size)=some 1)
  (base g n:Nat) (l:LU) (u:TypeId) (m:Own w base u (some ⟨g,0,none⟩) n n l) (e:ByteArray) (hd:a.eval d=.slice (some ⟨g,0,none⟩) n n) (W:a.eval s=.string e) (B:e.size<=n)
  (M:∀F,Own F base u (some ⟨g,0,none⟩) n n (splice l 0 e.data.toList)->Below g w F->K (a.put o.dst (goInt e.size)) F):if Region.wanted o (yielded D a.tmps)=true then Oper.wp P o a w K Q else E:=by
 rw[AA (by simp[Region.wanted,A])];obtain⟨O,G,hm⟩:=m.whole;have H:=m.len;have p:=qfg (P:=P) y I o.type f g n l u e U T G H B;have h2:Own (w.setRow g ((splice l 0 e.data.toList).map bv).toArray) base u (some ⟨g,0,none⟩) n n (splice l 0 e.data.toList):=
  Own.of_whole O (setRow_heap w g _ _ u _ G) (by rw[length_splice _ _ _ (by simp;omega),H]) hm
 have J:Below g w (w.setRow g ((splice l 0 e.data.toList).map bv).toArray):=below_setRow (AI _ _) (AE _) _;unfold Oper.wp execOp;simp only[R,resolve,invoke,builtin,Sem.run_bind,Sem.run_pure,Result.andThen_ok,List.map_toArray,BJ,List.map_nil,hd,W,p];exact M _ h2 J
theorem qbu {t e:TypeId}(T:Vx P t e){I:Array Oper}{o:Oper}{a:Act}{K:Act->WD->Prop}{Q:Exit->Act->WD->Prop}{E:Prop}(F:o.guard=none)(s x:Operand)
  (M:o.op=.call { callee:=.builtin .append,args:=#[s,x],argTypes:=#[t,t] })
  (base:Nat) (A:OA) (n c:Nat) (l:LU) (R:a.eval s=.slice A n c) (g:Own w base e A n c l)
  (B:OA) (m d:Nat) (H:LU) (U:a.eval x=.slice B m d) (O:Sl w B m d H) (G:n+m<=140737488355328) (f:base<=w.1.size)
  (h:∀y D u,Own u base e y (n+m) D (l++H)->Below base w u->K (a.put o.dst (.slice y (n+m) D)) u) :
  if Region.wanted o (yielded I a.tmps)=true then Oper.wp P o a w K Q else E:=by
 rw[AA (by simp[Region.wanted,F])];obtain⟨y,D,u,p,h2,J,_⟩:=q6i (P:=P) w T o.type base A n c l g B m d H O G f;unfold Oper.wp execOp;simp only[M,resolve,invoke,builtin,Sem.run_bind,Sem.run_pure,Result.andThen_ok,List.map_toArray,BJ,List.map_nil,R,U,p];exact h y D u h2 J
end
theorem qwb (b:Nat)(w:WD):(Instr.sliceAt 214 (.pointer (some ⟨b,0,none⟩)) none none none).run prog w=.ok (.slice (some ⟨b,0,none⟩) 10 10) w:=by
 have d:prog.arrayLen 214=10:=by kernel_rfl
 have e:(sizeOf (prog.elem 214)).run prog w=.ok 1 w:=by kernel_rfl
 rw[run_sliceAt_array_all w 214 _ (by kernel_rfl),e,d];simp[slicedAt,Result.andThen,Addr.add_mid]
theorem qlq (s:ByteArray)(_:s.size<=10):splice (List.replicate 10 0) 0 s.data.toList=Ai s:=by
 have e:splice (List.replicate 10 (0:UInt8)) 0 s.data.toList=s.data.toList++(List.replicate 10 (0:UInt8)).drop s.data.toList.length:=by unfold splice;rw[List.take_zero,BG,AT]
 rw[e,List.drop_replicate];rfl
theorem qlr (v:Vl)(hv:v.name.size<=10)(A:OA)(n c:Nat)(l:LU)(w:WD)(hs:Sl w A n c l)(hn:n<=100000) :
  Calls prog 98 #[.slice A n c,.agg #[.string v.name,.bool v.ro,.int .i64 v.root,.int .i64 v.next]] w λe d=>
   ∃A' n' c',e=.returned (.slice A' n' c')/\Own d w.1.size 5 A' n' c' (l++Xp v)/\n'=n+18/\Below w.1.size w d:=by
 have b0:=HI hs.len;go_enter func98,ntmps98
 go_wp2_with fail
 generalize H:w.alloc (.cells #[.string v.name,.bool v.ro,.int .i64 v.root,.int .i64 v.next] 58)=m;have V1:VB m w.1.size v:=by rw[<-H];exact VB.new w v _
 have b1:Below w.1.size w m:=by rw[<-H];exact Ql
 have z1:m.1.size=w.1.size+1:=by rw[<-H];simp
 rw[<-z1];clear H;have X:Own (m.alloc (.cells ((List.replicate 10 (0:UInt8)).map bv).toArray 214)) m.1.size 214 (some ⟨m.1.size,0,none⟩) 10 10 (List.replicate 10 0):=
  Own.of_whole (AE _) (BE m _) (by simp) (by unfold maxLen;omega)
 have Y:Below m.1.size m (m.alloc (.cells ((List.replicate 10 (0:UInt8)).map bv).toArray 214)):=Ql;rw[show ((List.replicate 10 (0:UInt8)).map bv).toArray=#[.int .u8 0,.int .u8 0,.int .u8 0,.int .u8 0,.int .u8 0,.int .u8 0,.int .u8 0,.int .u8 0,.int .u8 0,.int .u8 0] from rfl] at X Y;generalize m.alloc (.cells #[.int .u8 0,.int .u8 0,.int .u8 0,.int .u8 0,.int .u8 0,.int .u8 0,.int .u8 0,.int .u8 0,.int .u8 0,.int .u8 0] 214)=I at X Y ⊢;have V2:=V1.below Y V1.lt;have z2:m.1.size<=I.1.size:=Y.size;have K:m.1.size<I.1.size:=(X.block _ rfl).2;have B2:Below w.1.size w I:=b1.trans (Y.mono (by omega));obtain⟨u,a4⟩:∃u,m.1.size=u:=⟨_,rfl⟩;have a9:=λd=>qwb u d
 rw[a4] at X K ⊢;have U:w.1.size<u:=by omega
 have q2:=V2.c0;obtain⟨ps,W⟩:∃ps,splice (List.replicate 10 (0:UInt8)) 0 v.name.data.toList=ps:=⟨_,rfl⟩;have M:=HI (W.symm.trans (qlq v.name hv));have J:∀d:WD,Below u I d->d.cell? ⟨w.1.size,0,none⟩=some (.string v.name)/\Below u I d:=λd hb=>⟨(hb.cell (p:=⟨w.1.size,0,none⟩) U).trans q2,hb⟩
 have R:Below u I I.drew:=(AI _ _).drew;go_region_held3 (λd=>d.cell? ⟨w.1.size,0,none⟩=some (.string v.name)/\Below u I d)
  (first|assumption|exact J _ R|exact J _ F)
  (first
   |(refine qhq rfl (.tmp 6) (.tmp 8) 22 9 5 rfl underlying22 (by kernel_rfl) u u 10 (List.replicate 10 0) 214 (by first|exact X|exact X.drew) v.name rfl rfl hv ?_;intro f g T;rw[W] at g;have F:Below u I f:=(by first|exact R.trans T|exact T))
   |fail)
 have Z:Below w.1.size w f:=B2.trans (F.mono (by omega));have V3:=V2.below F U;have a5:=hs.below Z;have z3:=(g.block _ rfl).2;rw[M.out] at g;clear J R X hs q2 V2 V1 b1 Y B2 F T W;go_wp2_with fail
 have q3:=V3.c0;have J:∀d:WD,Below f.1.size f d->d.cell? ⟨w.1.size,0,none⟩=some (.string v.name)/\Below f.1.size f d:=λd hb=>⟨(hb.cell (p:=⟨w.1.size,0,none⟩) V3.lt).trans q3,hb⟩
 have R:Below f.1.size f f.drew:=(AI _ _).drew;have z4:f.1.size<=f.drew.1.size:=AE _;have p1:(1:Int)<=1:=by omega
 have p2:(1:Int)<=8:=by omega
 have p3:n<=17592186044416:=by omega
 have B:=g.sl;go_region_held3 (λd=>d.cell? ⟨w.1.size,0,none⟩=some (.string v.name)/\Below f.1.size f d)
  (first|assumption|exact J _ R|exact J _ y|exact J _ G)
  (first
   |((refine qbu Cb rfl (.tmp 14) (.tmp 15) rfl f.1.size A5 n5 c5 _ rfl O (some ⟨u,0,none⟩) 10 10 (Ai v.name) rfl (B.below y) p5 y.size ?_);intro A6 c6 w6 E a1;have G:Below f.1.size f w6:=y.trans a1)
   |(go_at_call 65;refine (q7i A n c _ (v.name.size:Int) 1 _ a5.drew p3 p1 p2).mono ?_;rintro e w5 ⟨A5,n5,c5,rfl,D,b3,a0⟩;have O:Own w5 f.1.size 5 A5 n5 c5 _:=D;have y:Below f.1.size f w5:=R.trans (a0.mono z4);have p5:n5+10<=140737488355328:=by omega)
   |fail)
 all_goals
  have V6:=V3.below G V3.lt;have B6:=Z.trans (G.mono Z.size);have E:=E.less Z.size;clear J R O D a0 a1 y G g B a5 V3 Z a9 p5 z4 M z1 a4 K U z2 z3 q3;have q6:=V6.c1;go_wp2_with fail
  refine (qlp v.ro _).mono ?_;rintro e w7 ⟨rfl,rfl⟩;go_wp2_with fail
  refine (q7i A6 (n5+10) c6 _ (Nv v.ro) 1 _ E.sl (by omega) (by omega) (by omega)).mono ?_;rintro e w7 ⟨A7,n7,c7,rfl,a6,b4,a2⟩;have V7:=V6.below a2 V6.lt;have B7:=B6.trans (a2.mono B6.size);have q7:=V7.c2;clear q6;go_wp2_with fail
  refine (q7i A7 n7 c7 _ v.root 2 _ a6.sl (by omega) (by omega) (by omega)).mono ?_;rintro e w8 ⟨A8,n8,c8,rfl,a7,b5,a3⟩;have V8:=V7.below a3 V7.lt;have B8:=B7.trans (a3.mono B7.size);have q8:=V8.c3;clear q7;go_wp2_with fail
  refine (q7i A8 n8 c8 _ v.next 4 _ a7.sl (by omega) (by omega) (by omega)).mono ?_;rintro e w9 ⟨A9,n9,c9,rfl,Q,b6,a8⟩;have B9:=B8.trans (a8.mono B8.size);go_wp2;go_ret;refine⟨A9,n9,c9,rfl,?_,by omega,B9⟩;have e9:l++Q8 (v.name.size:Int) (1:Int).toNat++Ai v.name++Q8 (Nv v.ro) (1:Int).toNat++Q8 v.root (2:Int).toNat++Q8 v.next (4:Int).toNat=l++Xp v:=by
   unfold Xp;simp only[AM];rfl
  rw[e9] at Q;exact Q.less B8.size
theorem qy9 (d:BinOp)(x y:Operand)(xs e:Array Value)(w:WD):(eqGuard d 58 x y (.agg xs) (.agg e)).run prog w=.ok () w:=
 run_eqGuard_agg w d 58 x y xs e (by kernel_rfl)
theorem qya (x:Vl)(r:Bool)(h:x.same Vl.zero=r)(w:WD):(binOp .neq 58 (.agg #[.string x.name,.bool x.ro,.int .i64 x.root,.int .i64 x.next]) (.agg #[.string ⟨#[]⟩,.bool false,.int .i64 0,.int .i64 0])).run prog w=.ok (.bool (!r)) w:=qy6 x Vl.zero r h w
theorem SB.Qa3 {w:WD}{b:Nat}{S:Sp}(H:SB w b S){k:Nat}(hk:k<=8):Fj w (some ⟨b,3,none⟩) k 8 (S.Jq.take k):=by
 have:=H.Um.take hk;unfold Fj;rwa [List.map_take]
theorem Qcf (b k:Nat)(f:k<=8)(w:WD):(Instr.sliceAt 59 (.pointer (some ⟨b,3,none⟩)) none (some (.int .i64 (k:Int))) none).run prog w=.ok (.slice (some ⟨b,3,none⟩) k 8) w:=by
 have d:prog.arrayLen 59=8:=by kernel_rfl
 have e:(sizeOf (prog.elem 59)).run prog w=.ok 4 w:=by kernel_rfl
 rw[run_sliceAt_array_h w 59 _ (by kernel_rfl) .i64 _ (by omega) (by rw[d];omega),e,d];simp[slicedAt,Result.andThen,Addr.add_mid]
theorem qss (S:Sp)(r:Bool)(hr:S.may=r)(hf:S.fine)(w:WD) :
  Calls prog 67 #[.agg S.vs.toArray] w λe w'=>e=.returned (.bool r)/\Below w.1.size w w':=by
 subst hr;have H:=SB.new w S 61;have B:Below w.1.size w (w.alloc (.cells S.vs.toArray 61)):=Ql;have q0:=H.c0;have q1:=H.c1;have q2:=H.c2;go_enter func67,ntmps67
 go_wp2_with fail
 generalize w.alloc (.cells S.vs.toArray 61)=w1 at H B q0 q1 q2 ⊢;by_cases hg:1<=S.gen/\S.gen<=1099511627775
 ·refine (Px S.gen 1 1099511627775 true (AL hg) _).mono ?_;rintro e T ⟨rfl,rfl⟩;go_wp2_with fail
  by_cases G:32<=S.Qa/\S.Qa<=2048
  ·refine (Px S.Qa 32 2048 true (AL G) _).mono ?_;rintro e T ⟨rfl,rfl⟩;go_wp2_with fail
   by_cases hl:0<=S.log/\S.log<=S.Qa-1
   ·refine (Px S.log 0 (S.Qa-1) true (AL hl) _).mono ?_;rintro e T ⟨rfl,rfl⟩;have a0:S.hd=true:=AL (by omega);have O:=HI (λh=>qo4 (S:=S) a0 h);go_wp2_with (first
     |(refine qlo rfl (.tmp 24) rfl w.1.size rfl S H ?_)
     |fail)
    go_loopw [26] (λi wr=>∃k:Nat,k<=8/\i=.int .i64 (k:Int)/\(∀j<k,S.ok1 j=true)/\Below w1.1.size w1 wr) (λi _=>8-(intOf i).toNat)
    case atStart=>exact⟨0,by omega,rfl,λj hj=>by omega,AI _ _⟩
    case round=>
     obtain⟨k,hk,rfl,A,X⟩:=hrel;by_cases D:k<8
     ·have Q:=qy5 S D;have a3:(0:Int)<=(k:Int):=by omega
      obtain⟨x,hx⟩:∃x,S.at_ k=x:=⟨_,rfl⟩;have F:=hf k D;rw[hx] at Q F;have g:=HI (show S.ok1 k=(x.same Vl.zero||(x.ok S.Qa&&!Kv (S.Jq.take k) x.name)) by unfold Sp.ok1;rw[hx]);clear hx;have Hr:=H.below X H.lt;go_wp2_with fail
      have bx:Below wr.1.size wr (wr.alloc (.cells #[.string x.name,.bool x.ro,.int .i64 x.root,.int .i64 x.next] 58)):=Ql;have M:(wr.alloc (.cells #[.string x.name,.bool x.ro,.int .i64 x.root,.int .i64 x.next] 58)).1[wr.1.size]?=some (.cells #[.string x.name,.bool x.ro,.int .i64 x.root,.int .i64 x.next] 58 (0,0)):=BE wr _;have W:wr.1.size<(wr.alloc (.cells #[.string x.name,.bool x.ro,.int .i64 x.root,.int .i64 x.next] 58)).1.size:=by simp
      generalize wr.alloc (.cells #[.string x.name,.bool x.ro,.int .i64 x.root,.int .i64 x.next] 58)=U at bx M W ⊢;have K:=Hr.below bx Hr.lt;have q0:∀u:Grown U,u.to.cell? ⟨wr.1.size,0,none⟩=some (.string x.name):=Grown.cell (by rw[cell_of_row _ _ _ _ _ _ M];rfl) W;have q1:∀u:Grown U,u.to.cell? ⟨wr.1.size,1,none⟩=some (.bool x.ro):=Grown.cell (by rw[cell_of_row _ _ _ _ _ _ M];rfl) W;have q2:∀u:Grown U,u.to.cell? ⟨wr.1.size,2,none⟩=some (.int .i64 x.root):=Grown.cell (by rw[cell_of_row _ _ _ _ _ _ M];rfl) W;have q3:∀u:Grown U,u.to.cell? ⟨wr.1.size,3,none⟩=some (.int .i64 x.next):=Grown.cell (by rw[cell_of_row _ _ _ _ _ _ M];rfl) W;have q4:∀u:Grown U,u.to.cell? ⟨w.1.size,1,none⟩=some (.int .i64 S.Qa):=Grown.cell K.c1 K.lt;have d:=X.trans (bx.mono X.size);have hG:=qy9;have a4:=Qcf w.1.size k (by omega);clear M Q;obtain⟨z,Y⟩:∃z,x.same Vl.zero=z:=⟨_,rfl⟩;have a2:=qya x z Y
      cases z
      ·obtain⟨m,p⟩:∃m,x.ok S.Qa=m:=⟨_,rfl⟩
       cases m
       ·have J:=HI (qvj (S:=S) D (by rw[g.out,Y,p];rfl));refine Ug (by kernel_rfl) (by kernel_rfl) ?_;repeat (go_big_quiet_step (first
         |(go_at_call 96;exact Calls.grown (q64 x S.Qa G.1 G.2 false p F _))
         |fail))
        refine wpQuiet_nil ?_;rintro _ ⟨u,rfl⟩;have f:=d.trans (u.ok.mono d.size);go_wp2;go_ret;exact⟨by rw[J.out];rfl,B.trans (f.mono B.size)⟩
       ·obtain⟨nm,E⟩:∃nm,Kv (S.Jq.take k) x.name=nm:=⟨_,rfl⟩
        cases nm
        ·have Z:=HI (show (x.same Vl.zero||(x.ok S.Qa&&!Kv (S.Jq.take k) x.name))=true by rw[p,E];simp);refine Ug (by kernel_rfl) (by kernel_rfl) ?_;repeat (go_big_quiet_step (first
          |(go_at_call 96;exact Calls.grown (q64 x S.Qa G.1 G.2 true p F _))
          |(go_at_call 97;exact Calls.grown (qc7 (S.Jq.take k) x.name false E _ k 8 _ ((K.below (Grown.ok _) K.lt).Qa3 (by omega)) (by omega)))
          |fail))
         refine wpQuiet_nil ?_;rintro _ ⟨u,rfl⟩;have f:=d.trans (u.ok.mono d.size);go_wp2;refine⟨⟨k+1,by omega,by go_num,λj hj=>?_,f⟩,by simp[intOf];omega⟩;by_cases I:j=k
         ·rw[I,g.out,Z.out]
         ·exact A j (by omega)
        ·have J:=HI (qvj (S:=S) D (by rw[g.out,Y,p,E];rfl));refine Ug (by kernel_rfl) (by kernel_rfl) ?_;repeat (go_big_quiet_step (first
          |(go_at_call 96;exact Calls.grown (q64 x S.Qa G.1 G.2 true p F _))
          |(go_at_call 97;exact Calls.grown (qc7 (S.Jq.take k) x.name true E _ k 8 _ ((K.below (Grown.ok _) K.lt).Qa3 (by omega)) (by omega)))
          |fail))
         refine wpQuiet_nil ?_;rintro _ ⟨u,rfl⟩;have f:=d.trans (u.ok.mono d.size);go_wp2;go_ret;exact⟨by rw[J.out];rfl,B.trans (f.mono B.size)⟩
      ·have Z:=HI (show (x.same Vl.zero||(x.ok S.Qa&&!Kv (S.Jq.take k) x.name))=true by rw[Y];rfl);refine Ug (by kernel_rfl) (by kernel_rfl) ?_;repeat (go_big_quiet_step (first
        |fail))
       refine wpQuiet_nil ?_;rintro _ ⟨u,rfl⟩;have f:=d.trans (u.ok.mono d.size);go_wp2;refine⟨⟨k+1,by omega,by go_num,λj hj=>?_,f⟩,by simp[intOf];omega⟩;by_cases I:j=k
       ·rw[I,g.out,Z.out]
       ·exact A j (by omega)
     ·have a1:k=8:=by omega
      have R:=HI (O.out (by rw[<-a1];exact A));go_wp2;go_ret;exact⟨by rw[R.out];rfl,B.trans (X.mono B.size)⟩
   ·refine (Px S.log 0 (S.Qa-1) false (AH hl) _).mono ?_;rintro e T ⟨rfl,rfl⟩;have y:=HI (qo5 (S:=S) (AH (by omega)));go_wp2;go_ret;exact⟨by rw[y.out];rfl,B⟩
  ·refine (Px S.Qa 32 2048 false (AH G) _).mono ?_;rintro e T ⟨rfl,rfl⟩;have y:=HI (qo5 (S:=S) (AH (by omega)));go_wp2;go_ret;exact⟨by rw[y.out];rfl,B⟩
 ·refine (Px S.gen 1 1099511627775 false (AH hg) _).mono ?_;rintro e T ⟨rfl,rfl⟩;have y:=HI (qo5 (S:=S) (AH (by omega)));go_wp2;go_ret;exact⟨by rw[y.out];rfl,B⟩
