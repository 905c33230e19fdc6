/- A drive as plain data, and how it lies in memory -/
import Derived.Test.YtipejjgodnnkaaaGreatDoorPm5
import Derived.Test.YtipejjgodnnkaaaGreatDoorChecked
namespace Go.Proofs.YtipejjgodnnkaaaGreatDoor
open Go Go.RowKit Go.Proofs
set_option maxHeartbeats 1000000
set_option maxRecDepth 100000
section
open Go.ChangeMaps (setBlock)
structure DM where
 n:Nat
 dur:Nat→List UInt8
 cac:Nat→List (List UInt8)
 off:Bool
 fused:Bool
 left:Nat
 steps:Nat
 cap:Nat
def upd {α:Type}(f:Nat→α)(s:Nat)(x:α):Nat→α:=fun k=>if k=s then x else f k
theorem q0a {α:Type}(f:Nat→α)(s:Nat)(x:α):upd f s x s=x:=by simp[upd]
theorem q05 {α:Type}(f:Nat→α){s k:Nat}(x:α)(h:k≠s):upd f s x k=f k:=by simp[upd,h]
def sectors (n:Nat):Prop:=32≤n∧n≤2048
theorem TB:(Tryz.prog.info? 125).map (fun i=>(i.zero,i.size,i.bytes))=some (some (.agg (Array.replicate 256 (.int .u8 0))),256,256):=by kernel_rfl
structure Lay (w:World)(bp bd bm:Nat)(l:List MapEntry)(clock:Nat)(v:Nat→Value)(S:Nat→Prop)(D:DM):Prop where
 me:w.heap[bp]?=some (.cells #[.slice (some ⟨bd,0,none⟩) D.n D.cap,.map (some bm),.bool D.off,.bool D.fused,.int .i64 D.left,.int .i64 D.steps] 129 (0,0))
 dur:∀s,s<D.n→w.rangeAt bd (s*256) (bvs (D.dur s))
 durw:∀s,s<D.n→w.there bd (s*256) 256
 map:w.heap[bm]?=some (.map l.toArray clock)
 ents:Ents l clock
 look:∀s:Nat,getE s l=if D.cac s=[] then none else some (v s)
 keys:∀e∈l,∃s:Nat,s<D.n∧kI e=s
 row:∀s,w.ownsRow 0 125 256 (v s) (D.cac s).length (flat (D.cac s))
 nil:∀s,D.cac s=[]→v s=.slice none 0 0
 dl:∀s,(D.dur s).length=256
 cl:∀s,Secs (D.cac s)
 out:∀s,D.n≤s→D.cac s=[]
 inS:S bp∧S bd∧S bm∧∀s g,(v s).ownBlock=some g→S g
 ne:bp≠bd∧∀s g,(v s).ownBlock=some g→g≠bp∧g≠bd
 sep:∀s s' g,(v s).ownBlock=some g→(v s').ownBlock=some g→s=s'
 n32:sectors D.n
 left:D.left≤9223372036854775807
def Drv (w:World)(bp:Nat)(S:Nat→Prop)(D:DM):Prop:=∃bd bm l clock v,Lay w bp bd bm l clock v S D
section
variable {w w':World}{bp bd bm clock:Nat}{l:List MapEntry}{v:Nat→Value}{S:Nat→Prop}{D:DM}
theorem Lay.pos (L:Lay w bp bd bm l clock v S D):0<D.n:=by have:=L.n32;unfold sectors at this;omega
theorem Lay.bdlt (L:Lay w bp bd bm l clock v S D):∃c t fr,w.heap[bd]?=some (.cells c t fr):=by
 have h:=(L.durw 0 L.pos 0 (by omega)).1
 unfold World.cell? at h
 split at h
 ·rename_i c t fr hb;exact⟨c,t,fr,hb⟩
 ·cases h
theorem Lay.bd_bm (L:Lay w bp bd bm l clock v S D):bd≠bm:=fun e=>by
 obtain⟨c,t,fr,h⟩:=L.bdlt
 rw[e,L.map] at h;cases h
theorem Lay.bp_bm (L:Lay w bp bd bm l clock v S D):bp≠bm:=fun e=>by
 have h:=L.me
 rw[e,L.map] at h;cases h
theorem Lay.rowblock (L:Lay w bp bd bm l clock v S D){s g:Nat}(h:(v s).ownBlock=some g):∃c t,w.heap[g]?=some (.cells c t (0,0)):=by
 rcases (L.row s).2 with⟨hv,_⟩|⟨g',cap,cur,hv,_,hg,_⟩
 ·rw[hv] at h;cases h
 ·rw[hv] at h;cases h;exact⟨_,_,hg⟩
theorem Lay.row_bm (L:Lay w bp bd bm l clock v S D){s g:Nat}(h:(v s).ownBlock=some g):g≠bm:=fun e=>by
 obtain⟨c,t,hg⟩:=L.rowblock h
 rw[e,L.map] at hg;cases hg
theorem Lay.keep (L:Lay w bp bd bm l clock v S D)(hk:∀k,k<w.heap.size→S k→w'.heap[k]?=w.heap[k]?):Lay w' bp bd bm l clock v S D:=by
 obtain⟨c,t,fr,hbd⟩:=L.bdlt
 have e1:=hk bp (q01 L.me) L.inS.1
 have e2:=hk bd (q01 hbd) L.inS.2.1
 have e3:=hk bm (q01 L.map) L.inS.2.2.1
 exact⟨e1.trans L.me,fun s hs=>q22 (L.dur s hs) e2,fun s hs=>q3g (L.durw s hs) e2,e3.trans L.map,L.ents,L.look,L.keys,
  fun s=>q1j (L.row s) fun g hg=>by obtain⟨c,t,h⟩:=L.rowblock hg;exact hk g (q01 h) (L.inS.2.2.2 s g hg),L.nil,L.dl,L.cl,L.out,L.inS,L.ne,L.sep,L.n32,L.left⟩
theorem Lay.mono {S':Nat→Prop}(L:Lay w bp bd bm l clock v S D)(h:∀k,k<w.heap.size→S k→S' k):Lay w bp bd bm l clock v S' D:=by
 obtain⟨c,t,fr,hbd⟩:=L.bdlt
 exact⟨L.me,L.dur,L.durw,L.map,L.ents,L.look,L.keys,L.row,L.nil,L.dl,L.cl,L.out,
  ⟨h _ (q01 L.me) L.inS.1,h _ (q01 hbd) L.inS.2.1,h _ (q01 L.map) L.inS.2.2.1,fun s g hg=>by obtain⟨c,t,h2⟩:=L.rowblock hg;exact h g (q01 h2) (L.inS.2.2.2 s g hg)⟩,L.ne,L.sep,L.n32,L.left⟩
theorem Lay.struct (L:Lay w bp bd bm l clock v S D)(off fused:Bool)(left steps:Nat)(hl:left≤9223372036854775807)
  (h1:w'.heap[bp]?=some (.cells #[.slice (some ⟨bd,0,none⟩) D.n D.cap,.map (some bm),.bool off,.bool fused,.int .i64 left,.int .i64 steps] 129 (0,0)))
  (h2:∀k,k<w.heap.size→k≠bp→w'.heap[k]?=w.heap[k]?):Lay w' bp bd bm l clock v S { D with off:=off,fused:=fused,left:=left,steps:=steps }:=by
 obtain⟨c,t,fr,hbd⟩:=L.bdlt
 have e2:=h2 bd (q01 hbd) (fun e=>L.ne.1 e.symm)
 have e3:=h2 bm (q01 L.map) (fun e=>L.bp_bm e.symm)
 exact⟨h1,fun s hs=>q22 (L.dur s hs) e2,fun s hs=>q3g (L.durw s hs) e2,e3.trans L.map,L.ents,L.look,L.keys,
  fun s=>q1j (L.row s) fun g hg=>by obtain⟨c,t,h⟩:=L.rowblock hg;exact h2 g (q01 h) (L.ne.2 s g hg).1,L.nil,L.dl,L.cl,L.out,L.inS,L.ne,L.sep,L.n32,hl⟩
theorem Lay.setDur (L:Lay w bp bd bm l clock v S D)(s:Nat)(x:List UInt8)(hx:x.length=256)
  (h1:∀k,k<w.heap.size→k≠bd→w'.heap[k]?=w.heap[k]?) (h2:s<D.n→w'.rangeAt bd (s*256) (bvs x)) (h3:∀z,z<D.n→z≠s→w'.rangeAt bd (z*256) (bvs (D.dur z))) (h4:∀z,z<D.n→w'.there bd (z*256) 256) :
  Lay w' bp bd bm l clock v S { D with dur:=upd D.dur s x }:=by
 have e1:=h1 bp (q01 L.me) L.ne.1
 have e3:=h1 bm (q01 L.map) (fun e=>L.bd_bm e.symm)
 refine⟨e1.trans L.me,fun z hz=>?_,h4,e3.trans L.map,L.ents,L.look,L.keys,
  fun s=>q1j (L.row s) fun g hg=>by obtain⟨c,t,h⟩:=L.rowblock hg;exact h1 g (q01 h) (L.ne.2 s g hg).2,L.nil,fun z=>?_,L.cl,L.out,L.inS,L.ne,L.sep,L.n32,L.left⟩
 ·show w'.rangeAt bd (z*256) (bvs (upd D.dur s x z))
  by_cases hzs:z=s
  ·subst hzs;rw[q0a];exact h2 hz
  ·rw[q05 _ _ hzs];exact h3 z hz hzs
 ·show (upd D.dur s x z).length=256
  by_cases hzs:z=s
  ·rw[hzs,q0a];exact hx
  ·rw[q05 _ _ hzs];exact L.dl z
theorem Lay.store (L:Lay w bp bd bm l clock v S D)(s:Nat)(hs:s<D.n)(x:List UInt8)(hx:x.length=256) :
  Lay (w.setCells bd (s*256) (bvs x)) bp bd bm l clock v S { D with dur:=upd D.dur s x }:=by
 have hT:=q0d (S:=fun k=>k=bd) (b:=bd) rfl (bvs x) (s*256) w
 refine L.setDur s x hx (fun k hk hn=>hT.block k hk hn) (fun _=>World.rangeAt_setCells_same _ _ _ _ ?_) (fun z hz hzs=>World.rangeAt_setCells_apart (L.dur z hz) _ _ _ ?_) fun z hz=>World.there_setCells (L.durw z hz) _ _ _
 ·rw[q16,hx];exact L.durw s hs
 ·rw[q16,q16,hx,L.dl z]
  rcases Nat.lt_or_gt_of_ne hzs with h|h
  ·right;left;omega
  ·right;right;omega
theorem Lay.setCac (L:Lay w bp bd bm l clock v S D)(s:Nat)(hs:s<D.n){l':List MapEntry}{clock':Nat}{S':Nat→Prop}(v1:Value)(ls:List (List UInt8))(hls:Secs ls)
  (hS:∀k,k<w.heap.size→S k→S' k) (h1:∀k,k<w.heap.size→k≠bm→some k≠(v s).ownBlock→w'.heap[k]?=w.heap[k]?) (hm:w'.heap[bm]?=some (.map l'.toArray clock')) (hE:Ents l' clock')
  (hlook:∀z:Nat,getE z l'=if z=s then (if ls=[] then none else some v1) else getE z l) (hkeys:∀e∈l',e∈l∨kI e=s)
  (hrow:w'.ownsRow 0 125 256 v1 ls.length (flat ls)) (hnil:ls=[]→v1=.slice none 0 0)
  (hat:v1.ownBlock=none∨v1.ownBlock=(v s).ownBlock∨∃g,v1.ownBlock=some g∧w.heap.size≤g∧S' g) :
  Lay w' bp bd bm l' clock' (upd v s v1) S' { D with cac:=upd D.cac s ls }:=by
 obtain⟨c,t,fr,hbd⟩:=L.bdlt
 have b1:=q01 L.me
 have b2:=q01 hbd
 have b3:=q01 L.map
 have e1:=h1 bp b1 L.bp_bm (fun e=>(L.ne.2 s bp e.symm).1 rfl)
 have e2:=h1 bd b2 L.bd_bm (fun e=>(L.ne.2 s bd e.symm).2 rfl)
 have hown:∀z g,(upd v s v1 z).ownBlock=some g→(z≠s∧(v z).ownBlock=some g)∨(z=s∧((v s).ownBlock=some g∨(w.heap.size≤g∧S' g))):=by
  intro z g hg
  by_cases hz:z=s
  ·subst hz
   rw[q0a] at hg
   rcases hat with h|h|⟨g',h,h2,h3⟩
   ·rw[h] at hg;cases hg
   ·exact .inr ⟨rfl,.inl (h▸hg)⟩
   ·rw[h] at hg;cases hg;exact .inr ⟨rfl,.inr ⟨h2,h3⟩⟩
  ·rw[q05 _ _ hz] at hg;exact .inl ⟨hz,hg⟩
 have hlt:∀z g,(v z).ownBlock=some g→g<w.heap.size:=fun z g hg=>by obtain⟨c,t,h⟩:=L.rowblock hg;exact q01 h
 refine⟨e1.trans L.me,fun z hz=>q22 (L.dur z hz) e2,fun z hz=>q3g (L.durw z hz) e2,hm,hE,fun z=>?_,fun e he=>?_,fun z=>?_,fun z hz=>?_,L.dl,fun z=>?_,fun z hz=>?_,
  ⟨hS _ b1 L.inS.1,hS _ b2 L.inS.2.1,hS _ b3 L.inS.2.2.1,fun z g hg=>?_⟩,⟨L.ne.1,fun z g hg=>?_⟩,fun z z' g hg hg'=>?_,L.n32,L.left⟩
 ·rw[hlook z]
  show _=if upd D.cac s ls z=[] then none else some (upd v s v1 z)
  by_cases hz:z=s
  ·rw[hz,if_pos rfl,q0a,q0a]
  ·rw[if_neg hz,q05 _ _ hz,q05 _ _ hz];exact L.look z
 ·rcases hkeys e he with h|h
  ·exact L.keys e h
  ·exact⟨s,hs,h⟩
 ·show w'.ownsRow 0 _ 256 (upd v s v1 z) (upd D.cac s ls z).length (flat (upd D.cac s ls z))
  by_cases hz:z=s
  ·rw[hz,q0a,q0a];exact hrow
  ·rw[q05 _ _ hz,q05 _ _ hz]
   exact q1j (L.row z) fun g hg=>h1 g (hlt z g hg) (L.row_bm hg) fun e=>hz (L.sep z s g hg e.symm)
 ·show upd v s v1 z=_
  by_cases hzs:z=s
  ·subst hzs
   rw[q0a];exact hnil (by simpa [q0a] using hz)
  ·rw[q05 _ _ hzs];exact L.nil z (by simpa [q05 _ _ hzs] using hz)
 ·show Secs (upd D.cac s ls z)
  by_cases hzs:z=s
  ·rw[hzs,q0a];exact hls
  ·rw[q05 _ _ hzs];exact L.cl z
 ·show upd D.cac s ls z=[]
  have:D.n≤z:=hz
  rw[q05 _ _ (by omega)];exact L.out z hz
 ·rcases hown z g hg with⟨_,h⟩|⟨_,h|h⟩
  ·exact hS _ (hlt z g h) (L.inS.2.2.2 z g h)
  ·exact hS _ (hlt s g h) (L.inS.2.2.2 s g h)
  ·exact h.2
 ·rcases hown z g hg with⟨_,h⟩|⟨_,h|h⟩
  ·exact L.ne.2 z g h
  ·exact L.ne.2 s g h
  ·omega
 ·rcases hown z g hg with⟨h0,h⟩|⟨h0,h⟩<;>rcases hown z' g hg' with⟨k0,k⟩|⟨k0,k⟩
  ·exact L.sep z z' g h k
  ·rcases k with k|k
   ·rw[k0];exact L.sep z s g h k
   ·have:=hlt z g h;omega
  ·rcases h with h|h
   ·rw[h0];exact L.sep s z' g h k
   ·have:=hlt z' g k;omega
  ·rw[h0,k0]
theorem Lay.forget (L:Lay w bp bd bm l clock v S D)(s:Nat)(hs:s<D.n) :
  Lay (setBlock w bm (.map (delE s l).toArray clock)) bp bd bm (delE s l) clock (upd v s (.slice none 0 0)) S { D with cac:=upd D.cac s [] }:=by
 have hT:=q0o (w:=w) (S:=fun k=>k=bm) (b:=bm) (.map (delE s l).toArray clock) rfl
 refine L.setCac s hs _ [] (by simp[Secs]) (fun _ _ h=>h) (fun k hk hn _=>hT.block k hk hn) (q21 (q01 L.map)) (L.ents.del s) (fun z=>?_) (fun e he=>.inl (q5a he)) (World.ownsRow_nil _ _ _ _) (fun _=>rfl) (.inl rfl)
 rw[q7h z L.ents.one,if_pos rfl]
 by_cases h:z=s
 ·subst h;simp
 ·rw[if_neg (by omega),if_neg h]
end
end
section
variable {w:World}{bp bd bm clock:Nat}{l:List MapEntry}{v:Nat→Value}{S:Nat→Prop}{D:DM}
theorem Lay.c0 (L:Lay w bp bd bm l clock v S D):w.cell? ⟨bp,0,none⟩=some (.slice (some ⟨bd,0,none⟩) D.n D.cap):=by rw[cell_of_row w bp 0 _ _ _ L.me];rfl
theorem Lay.c1 (L:Lay w bp bd bm l clock v S D):w.cell? ⟨bp,1,none⟩=some (.map (some bm)):=by rw[cell_of_row w bp 1 _ _ _ L.me];rfl
theorem Lay.c2 (L:Lay w bp bd bm l clock v S D):w.cell? ⟨bp,2,none⟩=some (.bool D.off):=by rw[cell_of_row w bp 2 _ _ _ L.me];rfl
theorem Lay.c3 (L:Lay w bp bd bm l clock v S D):w.cell? ⟨bp,3,none⟩=some (.bool D.fused):=by rw[cell_of_row w bp 3 _ _ _ L.me];rfl
theorem Lay.c4 (L:Lay w bp bd bm l clock v S D):w.cell? ⟨bp,4,none⟩=some (.int .i64 D.left):=by rw[cell_of_row w bp 4 _ _ _ L.me];rfl
theorem Lay.c5 (L:Lay w bp bd bm l clock v S D):w.cell? ⟨bp,5,none⟩=some (.int .i64 D.steps):=by rw[cell_of_row w bp 5 _ _ _ L.me];rfl
theorem Lay.fz (L:Lay w bp bd bm l clock v S D)(j:Nat):w.frozen? ⟨bp,j,none⟩=false:=by simp[World.frozen?,L.me]
end
theorem q6i {w:World}{bp bd bm clock:Nat}{l:List MapEntry}{v:Nat→Value}{S:Nat→Prop}{D:DM}(L:Lay w bp bd bm l clock v S D)(s:Int) :
  Calls Tryz.prog 74 #[.pointer (some ⟨bp,0,none⟩),.int .i64 s] w fun e w'=>e=.returned (.bool (decide (0≤s∧s<(D.n:Int))))∧w=w':=by
 have c0:=L.c0
 go_enter Tryz.func74,Tryz.ntmps74
 by_cases h0:0≤s
 ·by_cases h1:s<(D.n:Int)
  ·go_wp2
   go_ret
   simp[h0,h1]
  ·go_wp2
   go_ret
   simp[h1]
   try omega
 ·go_wp2
  go_ret
  simp
  intro;omega
theorem q7j {w:World}{bp bd bm clock:Nat}{l:List MapEntry}{v:Nat→Value}{S:Nat→Prop}{D:DM}(L:Lay w bp bd bm l clock v S D) :
  Calls Tryz.prog 88 #[.pointer (some ⟨bp,0,none⟩)] w fun e w'=>e=.returned (.int .i64 (D.n:Int))∧w=w':=by
 have c0:=L.c0
 go_enter Tryz.func88,Tryz.ntmps88
 go_wp2
 go_ret
 exact⟨rfl,rfl⟩
theorem qsp {w:World}{bp bd bm clock:Nat}{l:List MapEntry}{v:Nat→Value}{S:Nat→Prop}{D:DM}(L:Lay w bp bd bm l clock v S D) :
  Calls Tryz.prog 59 #[.pointer (some ⟨bp,0,none⟩)] w fun e w'=>e=.returned (.bool (!D.off))∧w=w':=by
 have c0:=L.c2
 go_enter Tryz.func59,Tryz.ntmps59
 go_wp2
 go_ret
 exact⟨rfl,rfl⟩
def DM.cnt (D:DM):Nat:=((List.range D.n).filter fun s=>!(D.cac s).isEmpty).length
theorem Lay.count {w:World}{bp bd bm clock:Nat}{l:List MapEntry}{v:Nat→Value}{S:Nat→Prop}{D:DM}(L:Lay w bp bd bm l clock v S D):l.length=D.cnt:=by
 have hn:(l.map fun e=>(kI e).toNat).Nodup:=by
  have h:=L.ents.one
  rw[List.nodup_iff_pairwise_ne,List.pairwise_map] at h ⊢
  refine h.imp_of_mem fun {a b} ha hb hne he=>hne ?_
  obtain⟨x,_,hx⟩:=L.keys a ha
  obtain⟨y,_,hy⟩:=L.keys b hb
  rw[hx,hy] at he ⊢
  simp at he;omega
 have hp:(l.map fun e=>(kI e).toNat).Perm ((List.range D.n).filter fun s=>!(D.cac s).isEmpty):=by
  rw[List.perm_ext_iff_of_nodup hn (List.nodup_range.filter _)]
  intro s
  constructor
  ·intro h
   obtain⟨e,he,rfl⟩:=List.mem_map.1 h
   obtain⟨x,hx,hk⟩:=L.keys e he
   have hl:=q2q L.ents.one he
   rw[hk,L.look x] at hl
   rw[hk,Int.toNat_natCast]
   rw[List.mem_filter,List.mem_range]
   refine⟨hx,?_⟩
   split at hl
   ·cases hl
   ·rename_i hc
    cases hq:D.cac x with
    |nil=>exact absurd hq hc
    |cons a b=>rfl
  ·intro h
   rw[List.mem_filter] at h
   have hl:=L.look s
   rw[if_neg (by intro hq;rw[hq] at h;simp at h)] at hl
   obtain⟨e,he,hk,_⟩:=q7g hl
   exact List.mem_map.2 ⟨e,he,by rw[hk];simp⟩
 have:=hp.length_eq
 rw[List.length_map] at this
 exact this
def md (x:Int)(m:Nat):Nat:=((if x<0 then -(x+1) else x) % (m:Int)).toNat
theorem qqn (x:Int){m:Nat}(h:0<m):md x m<m:=by
 unfold md
 have h1:=Int.emod_nonneg (if x<0 then -(x+1) else x) (show (m:Int)≠0 by omega)
 have h2:=Int.emod_lt_of_pos (if x<0 then -(x+1) else x) (show (0:Int)<m by omega)
 omega
theorem qpr {x:Int}(m:Nat)(h:0≤x)(hm:0<m):x.tmod (m:Int)=(md x m:Int):=by
 unfold md
 rw[if_neg (by omega),Int.tmod_eq_emod_of_nonneg h]
 have:=Int.emod_nonneg x (show (m:Int)≠0 by omega)
 omega
theorem qsq {x:Int}(m:Nat)(h:x<0)(hm:0<m):(-(x+1)).tmod (m:Int)=(md x m:Int):=by
 unfold md
 rw[if_pos h,Int.tmod_eq_emod_of_nonneg (by omega)]
 have:=Int.emod_nonneg (-(x+1)) (show (m:Int)≠0 by omega)
 omega
def DM.stop (D:DM):Bool:=D.off||(D.fused&&decide (D.left=0))
def DM.stepD (D:DM):DM:={ D with off:=D.stop,left:=if D.stop then D.left else if D.fused then D.left-1 else D.left,steps:=if D.stop then D.steps else D.steps+1 }
def DM.err (D:DM):Int:=if D.stop then 4 else 0
theorem Lay.off1 {w:World}{bp bd bm clock:Nat}{l:List MapEntry}{v:Nat→Value}{S:Nat→Prop}{D:DM}(L:Lay w bp bd bm l clock v S D)(b:Bool) :
  Lay (w.setCell ⟨bp,2,none⟩ (.bool b)) bp bd bm l clock v S { D with off:=b }:=
 L.struct b D.fused D.left D.steps L.left (by rw[q0f _ L.me];rfl) fun k _ hn=>Below.heap_setCell _ _ _ _ hn
theorem Lay.left1 {w:World}{bp bd bm clock:Nat}{l:List MapEntry}{v:Nat→Value}{S:Nat→Prop}{D:DM}(L:Lay w bp bd bm l clock v S D)(n:Nat)(hn:n≤9223372036854775807){x:Int}(hx:x=(n:Int)) :
  Lay (w.setCell ⟨bp,4,none⟩ (.int .i64 x)) bp bd bm l clock v S { D with left:=n }:=by
 subst hx
 exact L.struct D.off D.fused n D.steps hn (by rw[q0f _ L.me];rfl) fun k _ hn=>Below.heap_setCell _ _ _ _ hn
theorem Lay.steps1 {w:World}{bp bd bm clock:Nat}{l:List MapEntry}{v:Nat→Value}{S:Nat→Prop}{D:DM}(L:Lay w bp bd bm l clock v S D)(n:Nat){x:Int}(hx:x=(n:Int)) :
  Lay (w.setCell ⟨bp,5,none⟩ (.int .i64 x)) bp bd bm l clock v S { D with steps:=n }:=by
 subst hx
 exact L.struct D.off D.fused D.left n L.left (by rw[q0f _ L.me];rfl) fun k _ hn=>Below.heap_setCell _ _ _ _ hn
theorem q19 {bp:Nat}(w:World)(j:Nat)(u:Value):Turn (fun k=>k=bp) w (w.setCell ⟨bp,j,none⟩ u):=q0e u rfl
theorem qga {w:World}{bp bd bm clock:Nat}{l:List MapEntry}{v:Nat→Value}{S:Nat→Prop}{D:DM}(L:Lay w bp bd bm l clock v S D)(hst:D.steps≤1000000000) :
  Calls Tryz.prog 100 #[.pointer (some ⟨bp,0,none⟩)] w fun e w'=>e=.returned (.int .i64 D.err)∧Lay w' bp bd bm l clock v S D.stepD∧Turn (fun k=>k=bp) w w':=by
 have c2:=L.c2
 have c3:=L.c3
 have c4:=L.c4
 have c5:=L.c5
 have f2:=L.fz 2
 have f4:=L.fz 4
 have f5:=L.fz 5
 have hle:=L.left
 obtain⟨n,dur,cac,off,fused,left,steps,cap⟩:=D
 simp only at c2 c3 c4 c5 hst hle
 cases off with
 |true=>
  rw[show (DM.stepD ⟨n,dur,cac,true,fused,left,steps,cap⟩)=⟨n,dur,cac,true,fused,left,steps,cap⟩ from rfl,show (DM.err ⟨n,dur,cac,true,fused,left,steps,cap⟩)=4 from rfl]
  cases fused with
  |true=>
   by_cases h0:left=0
   ·subst h0
    go_enter Tryz.func100,Tryz.ntmps100
    go_wp2
    go_ret
    exact⟨rfl,L.off1 true,q19 _ _ _⟩
   ·go_enter Tryz.func100,Tryz.ntmps100
    go_wp2
    go_ret
    exact⟨rfl,L,Turn.refl _ _⟩
  |false=>
   go_enter Tryz.func100,Tryz.ntmps100
   go_wp2
   go_ret
   exact⟨rfl,L,Turn.refl _ _⟩
 |false=>
  cases fused with
  |true=>
   by_cases h0:left=0
   ·subst h0
    rw[show (DM.stepD ⟨n,dur,cac,false,true,0,steps,cap⟩)=⟨n,dur,cac,true,true,0,steps,cap⟩ from rfl,show (DM.err ⟨n,dur,cac,false,true,0,steps,cap⟩)=4 from rfl]
    go_enter Tryz.func100,Tryz.ntmps100
    go_wp2
    go_ret
    exact⟨rfl,L.off1 true,q19 _ _ _⟩
   ·have hs:(DM.stop ⟨n,dur,cac,false,true,left,steps,cap⟩)=false:=by simp[DM.stop,h0]
    have E1:(DM.stepD ⟨n,dur,cac,false,true,left,steps,cap⟩)=⟨n,dur,cac,false,true,left-1,steps+1,cap⟩:=by simp[DM.stepD,hs]
    have E2:(DM.err ⟨n,dur,cac,false,true,left,steps,cap⟩)=0:=by simp[DM.err,hs]
    rw[E1,E2]
    go_enter Tryz.func100,Tryz.ntmps100
    go_wp2
    go_ret
    exact⟨rfl,(L.left1 (left-1) (by omega) (by omega)).steps1 (steps+1) (by omega),(q19 _ _ _).then (q19 _ _ _)⟩
  |false=>
   rw[show (DM.stepD ⟨n,dur,cac,false,false,left,steps,cap⟩)=⟨n,dur,cac,false,false,left,steps+1,cap⟩ from rfl,show (DM.err ⟨n,dur,cac,false,false,left,steps,cap⟩)=0 from rfl]
   go_enter Tryz.func100,Tryz.ntmps100
   go_wp2
   go_ret
   exact⟨rfl,L.steps1 (steps+1) (by omega),q19 _ _ _⟩
theorem q3a (x:Int)(m:Nat)(hx:-9223372036854775808≤x∧x≤9223372036854775807)(hm0:0<m)(hc:m≤1000000)(w:World) :
  Calls Tryz.prog 14 #[.int .i64 x,.int .i64 (m:Int)] w fun e w'=>e=.returned (.int .i64 (md x m:Int))∧w=w':=by
 obtain⟨hx1,hx2⟩:=hx
 go_enter Tryz.func14,Tryz.ntmps14
 have hn:¬((m:Int)=0):=by omega
 by_cases h0:x<0
 ·have hm:=qsq m h0 (by omega)
  go_wp2
  go_ret
  exact⟨q6g (by first|exact hm|simp),rfl⟩
 ·have hm:=qpr m (show 0≤x by omega) (by omega)
  go_wp2
  go_ret
  exact⟨q6g (by first|exact hm|simp),rfl⟩
end Go.Proofs.YtipejjgodnnkaaaGreatDoor
