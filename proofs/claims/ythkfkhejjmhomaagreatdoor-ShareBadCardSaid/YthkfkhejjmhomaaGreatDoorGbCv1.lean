/- Rows of numbers: append of a whole row, make. -/
import Derived.Test.YthkfkhejjmhomaaGreatDoorEs21
import Derived.Test.YthkfkhejjmhomaaGreatDoorEs30
namespace Go.Proofs.YthkfkhejjmhomaaGreatDoor
open Go Go.RowKit Go.Proofs
theorem qsi (n:Nat):(madeCells (Value.int .i64 0).cells (n*1)).toList=(List.replicate n (0:Int)).map cv:=by
 rw[show (Value.int .i64 0).cells=#[.int .i64 0] from rfl,Nat.mul_one,toList_madeCells_one];simp[cv]
theorem qjg {P:Program}{w:World}{t e:TypeId}(T:Qb7 P t e){ops:Array Oper}{o:Oper}{a:Act}{K:Act->World->Prop}{Q:Exit->Act->World->Prop}{E:Prop}
  (M:o.guard=none) (l c:Operand) (u:o.op=Op.makeSlice t l c) (G kc:IntKind) (n:Nat) (R:a.eval l=.int G (n:Int)) (J:a.eval c=.int kc (n:Int)) (W:n<=1000000)
  (I:∀d,d.ownsRow w.1.size e 1 (.slice (some ⟨w.1.size,0,none⟩) n n) n ((List.replicate n 0).map cv)->Below w.1.size w d->w.1.size<d.1.size->K (a.put o.dst (.slice (some ⟨w.1.size,0,none⟩) n n)) d) :
  if Region.wanted o (yielded ops a.tmps)=true then Oper.wp P o a w K Q else E:=by
 rw[if_pos (by simp[Region.wanted,M])];obtain⟨i,O,A,B,D⟩:=info_parts T.info;obtain⟨d,f,F,U⟩:=run_make_full (P:=P) w w.1.size t e i _ 1 T.sl O A B G kc n (by rw[D];omega) (by unfold maxLen;omega) (Nat.le_refl _);rw[qsi] at F;have p:w.1.size<d.1.size:=by
  rcases F.2 with⟨y,_⟩|⟨X,cap,H,y,_,m,_⟩
  ·injection y with b;cases b
  ·injection y with b;injection b with b;injection b with b;rw[b];exact (Array.getElem?_eq_some_iff.1 m).1
 unfold Oper.wp;simp[execOp,u,R,J,f,Result.andThen];exact I d F ((Below.refl _ _).grown U (Nat.le_refl _) (by simp)) p
theorem qhg {w:World}{ops:Array Oper}{b:List Oper}{o:Oper}{a:Act}{Q:Exit->Act->World->Prop}
  (f:o.guard=none) (l c:Operand) (m:o.op=Op.makeSlice 67 l c) (n:Nat) (A:a.eval l=.int .i64 (n:Int)) (y:a.eval c=.int .i64 (n:Int)) (p:n<=1000000)
  (u:∀d,Je d w.1.size n n (List.replicate n 0)->Below w.1.size w d->wpList Tryz.prog ops Q b (a.put o.dst (.slice (some ⟨w.1.size,0,none⟩) n n)) d):wpList Tryz.prog ops Q (o::b) a w:=
 wpList_plain f λK e=>by
  have h:=qjg (P:=Tryz.prog) (w:=w) (ops:=ops) (K:=K) (Q:=Q) (E:=True) TN f l c m .i64 .i64 n A y p λd h1 h2 B=>e _ _ (u d (qgr h1 (Nat.zero_le _)) h2)
  rwa [if_pos (by simp[Region.wanted,f])] at h
