import Derived.Test.YtgbcklnnbeimhaaMk23
set_option linter.unusedVariables false
set_option linter.unusedSimpArgs false
namespace Go.Proofs.Ytgbcklnnbeimhaa
open Go Go.RowKit
section
def rowsV (n:Nat) (G:Nat→Nat) (k:Nat):List Value:=(List.range k).map fun i => .slice (some ⟨G i,0,none⟩) n n
theorem zu6 (n:Nat) (G:Nat→Nat) (k i:Nat) (h:i<k):(rowsV n G k)[i]?=some (.slice (some ⟨G i,0,none⟩) n n):=by simp[rowsV,h]
theorem zol (n:Nat) (G:Nat→Nat) (k g:Nat):rowsV n (fun i=>if i=k then g else G i) (k+1)=rowsV n G k++[.slice (some ⟨g,0,none⟩) n n]:=by
 unfold rowsV;rw[List.range_succ,List.map_append]
 congr 1
 · refine List.map_congr_left fun i hi=>?_
   rw[List.mem_range] at hi
   show Value.slice (some ⟨if i=k then g else G i,0,none⟩) n n=_
   rw[if_neg (by omega)]
 · simp
def upd2 (L:Nat→Nat→Bool) (s t:Nat) (b:Bool):Nat→Nat→Bool:=fun i j=>if i=s then (if j=t then b else L i j) else L i j
structure MX (w:World) (B:Nat) (v:Value) (n k:Nat) (G:Nat→Nat) (L:Nat→Nat→Bool):Prop where
 row:w.ownsRow B 23 1 v k (rowsV n G k)
 rows:∀ i,i<k→Bools w B (G i) n (L i)
 inj:∀ i j,i<k→j<k→G i=G j→i=j
section
variable {w w':World} {B n k:Nat} {v v':Value} {G:Nat→Nat} {L L':Nat→Nat→Bool}
theorem MX.nil (w:World) (B n:Nat) (G:Nat→Nat) (L:Nat→Nat→Bool):MX w B (.slice none 0 0) n 0 G L:=⟨World.ownsRow_nil w B _ 1,fun i hi=>absurd hi (Nat.not_lt_zero _),fun i j hi=>absurd hi (Nat.not_lt_zero _)⟩
theorem MX.form (h:MX w B v n k G L):∃ A c,v = .slice A k c:=by
 rcases h.row.2 with ⟨rfl,h0⟩|⟨g,cap,cur,rfl,_⟩
 · exact⟨none,0,by rw[h0]⟩
 · exact⟨_,_,rfl⟩
theorem MX.stays (h:MX w B v n k G L) (hb:Below w.heap.size w w'):MX w' B v n k G L:=⟨za7 h.row hb,fun i hi=>(h.rows i hi).stays hb,h.inj⟩
theorem MX.block (h:MX w B v n k G L) {b:Nat} (hb:v.ownBlock=some b):B≤b∧b<w.heap.size:=World.ownsRow.lt h.row b hb
theorem MX.apart (h:MX w B v n k G L) {b:Nat} (hb:v.ownBlock=some b) (i:Nat) (hi:i<k):b≠G i:=by
 obtain⟨c1,h1⟩:=zab h.row hb;obtain⟨c2,h2⟩:=(h.rows i hi).kind;exact za5 h1 h2 (by decide)
theorem MX.at (h:MX w B v n k G L) (i:Nat) (hi:i<k):∃ g c,v = .slice (some ⟨g,0,none⟩) k c∧w.cell? ⟨g,i,none⟩=some (.slice (some ⟨G i,0,none⟩) n n):=by
 rcases h.row.2 with ⟨_,h0⟩|⟨g,cap,cur,rfl,hB,hg,_⟩
 · omega
 · exact⟨g,cap,rfl,(World.ownsRow.cellAt h.row i (by omega)).trans (zu6 n G k i hi)⟩
theorem MX.set (h:MX w B v n k G L) {s t:Nat} (hs:s<k) (ht:t<n) (b:Bool):MX (w.setCell ⟨G s,t,none⟩ (.bool b)) B v n k G (upd2 L s t b):=by
 have ho:∀ c,c≠G s→(w.setCell ⟨G s,t,none⟩ (.bool b)).heap[c]?=w.heap[c]?:=fun c hc=>heap_setCell_other w ⟨G s,t,none⟩ c (.bool b) hc
 refine⟨zaa h.row fun c e _=>ho c (h.apart e s hs),fun i hi=>?_,h.inj⟩
 by_cases e:i=s
 · subst e;refine ((h.rows i hi).set t ht b).congr fun j hj=>?_
   simp[upd2]
 · refine ((h.rows i hi).block (ho _ fun e'=>e (h.inj i s hi hs e'))).congr fun j hj=>?_
   simp[upd2,e]
theorem zw7 {w:World} {B g n:Nat} {M:Array Value} {F:Nat→Bool} (hM:M.toList=boolsV n F) (h:w.heap[g]?=some (.cells M 4 (0,0))) (hB:B≤g) (hn:n≤100000000):Bools w B g n F:=by
 have hl:(boolsV n F).length=n:=(by simp[boolsV]);have hs:M.size=n:=(by rw[←Array.length_toList,hM,hl]);exact⟨by rw[hl,Nat.mul_one],.inr ⟨g,n,M,rfl,hB,h,Nat.le_refl _,by unfold maxLen;omega,by rw[hs,Nat.mul_one],by rw[hM,List.take_of_length_le (by rw[hl];omega)]⟩⟩
theorem MX.push (h:MX w B v n k G L) (hB:B≤w.heap.size) (hn:n≤100000000) {M:Array Value} {o:Obj} {u:World} (hM:M.toList=boolsV n fun _=>false)
   (hr:u.ownsRow B 23 1 v' (k+1) (rowsV n G k++[.slice (some ⟨w.heap.size,0,none⟩) n n])) (hg:((w.alloc (.cells M 4)).alloc o).grownBy u v.ownBlock):
   MX u B v' n (k+1) (fun i=>if i=k then w.heap.size else G i) (fun i=>if i=k then fun _=>false else L i):=by
 have hb:Below w.heap.size w ((w.alloc (.cells M 4)).alloc o):=((Below.refl _ _).alloc (Nat.le_refl _) _).alloc (by simp) _;have hv:∀ b,v.ownBlock=some b→b<w.heap.size:=fun b e=>(h.block e).2
 have hnew:((w.alloc (.cells M 4)).alloc o).heap[w.heap.size]?=some (.cells M 4 (0,0)):=(Below.heap_alloc _ o w.heap.size (by simp)).trans (heap_alloc_new w _);have hN:Bools u B w.heap.size n (fun _=>false):=zw7 hM ((hg.block w.heap.size (by simp;omega) fun e=>by have:=hv _ e.symm;omega).trans hnew) hB hn;refine⟨by rw[zol];exact hr,fun i hi=>?_,fun i j hi hj e=>?_⟩
 · by_cases e:i=k
   · simp only[e,if_true];exact hN
   · simp only[e,if_false];have hi':i<k:=(by omega);refine ((h.rows i hi').stays hb).block (hg.block _ ((h.rows i hi').stays hb).in.2 fun e'=>?_);exact h.apart e'.symm i hi' rfl
 · by_cases e1:i=k <;> by_cases e2:j=k
   · omega
   · simp only[e1,e2,if_true,if_false] at e;have:=(h.rows j (by omega)).in.2;omega
   · simp only[e1,e2,if_true,if_false] at e;have:=(h.rows i (by omega)).in.2;omega
   · simp only[e1,e2,if_false] at e;exact h.inj i j (by omega) (by omega) e
end
theorem Try.infoBoolM:(Try.prog.info? 4).map (fun i=>(i.zero,i.size,i.bytes))=some (some (.bool false),1,1):=by kernel_rfl
theorem Try.infoBoolsM:(Try.prog.info? 23).map (fun i=>(i.zero,i.size,i.bytes))=some (some (.slice none 0 0),1,24):=by kernel_rfl
theorem zoz (n:Nat) (hn:n≤100000000):∃ M:Array Value,M.toList=boolsV n (fun _=>false)∧∀ W:World,(Instr.makeSlice 23 (.int .i64 (n:Int)) (.int .i64 (n:Int))).run Try.prog W = .ok (.slice (some ⟨W.heap.size,0,none⟩) n n) (W.alloc (.cells M 4)):=by
 obtain⟨i1,a1,a2,a3,a4⟩:=info_parts Try.infoBoolM;refine⟨madeCells (Value.bool false).cells (n*1),zi6 n,fun W=>?_⟩;have:=run_make (P:=Try.prog) (w:=W) 23 4 i1 _ Try.underlying23 a1 a2 .i64 .i64 (n:Int) (n:Int) (by omega) (Int.le_refl _) (by rw[a4];omega) (by omega);rw[a3] at this
 simpa using this
def cntM (n:Nat) (L:Nat→Nat→Bool):Nat:=(List.range (n*n)).countP fun k=>L (k / n) (k % n)
theorem zgv {α:Type} {p q:α→Bool}:∀ (l:List α),(∀ x∈l,q x=true→p x=true)→(∃ x∈l,p x=true∧q x=false)→l.countP q<l.countP p
 | [],_,h=>by obtain⟨x,hx,_⟩:=h;simp at hx
 | x::l,hle,h=>by
   have hmono:l.countP q≤l.countP p:=List.countP_mono_left fun y hy=>hle y (by simp[hy])
   rw[List.countP_cons,List.countP_cons]
   by_cases hx:p x=true∧q x=false
   · rw[hx.1,hx.2];simp;omega
   · have h':∃ y∈l,p y=true∧q y=false:=by
       obtain⟨y,hy,e⟩:=h;rcases List.mem_cons.1 hy with rfl|hy
       · exact absurd e hx
       · exact⟨y,hy,e⟩
     have:=zgv l (fun y hy=>hle y (by simp[hy])) h';have hq:=hle x (by simp);cases hqx:q x with
     | false=>simp;omega
     | true=>rw[hq hqx];simp;omega
theorem zw0 {n s t:Nat} {L:Nat→Nat→Bool} (hs:s<n) (ht:t<n) (h:L s t=true):cntM n (upd2 L s t false)<cntM n L:=by
 refine zgv _ (fun k _ hk=>?_) ⟨s*n+t,?_,?_,?_⟩
 · unfold upd2 at hk;split at hk
   · split at hk
     · cases hk
     · exact hk
   · exact hk
 · rw[List.mem_range]
   calc s*n+t<s*n+n:=by omega
     _=(s+1)*n:=by rw[Nat.succ_mul]
     _≤n*n:=Nat.mul_le_mul_right _ hs
 · have h1:(s*n+t) / n=s:=(by rw[Nat.mul_comm,Nat.mul_add_div (by omega),Nat.div_eq_of_lt ht,Nat.add_zero]);have h2:(s*n+t) % n=t:=(by rw[Nat.mul_comm,Nat.mul_add_mod,Nat.mod_eq_of_lt ht]);rw[h1,h2];exact h
 · have h1:(s*n+t) / n=s:=(by rw[Nat.mul_comm,Nat.mul_add_div (by omega),Nat.div_eq_of_lt ht,Nat.add_zero]);have h2:(s*n+t) % n=t:=(by rw[Nat.mul_comm,Nat.mul_add_mod,Nat.mod_eq_of_lt ht]);rw[h1,h2];simp[upd2]
structure AlkM {O:Type} (δ:Nat→Nat→Nat) (o:Nat→O) (N C:Nat) (L:Nat→Nat→Bool):Prop where
 sound:∀ s t,Alk δ o N C s t→L s t=true
 out:∀ s t,s<N→t<N→L s t=true→o s=o t
def ClosedAt (δ:Nat→Nat→Nat) (C:Nat) (L:Nat→Nat→Bool) (s t:Nat):Prop:=L s t=true→∀ c,c<C→L (δ s c) (δ t c)=true
section
variable {O:Type} {δ:Nat→Nat→Nat} {o:Nat→O} {N C:Nat} {L:Nat→Nat→Bool}
theorem AlkM.drop (h:AlkM δ o N C L) (hδ:∀ s c,s<N→c<C→δ s c<N) {s t c:Nat} (hs:s<N) (ht:t<N) (hc:c<C) (hL:L (δ s c) (δ t c)=false):AlkM δ o N C (upd2 L s t false):=by
 refine⟨fun i j ha=>?_,fun i j hi hj hl=>h.out i j hi hj ?_⟩
 · unfold upd2;split
   · split
     · rename_i e1 e2;subst e1 e2;have:=h.sound (δ i c) (δ j c) ⟨hδ i c hs hc,hδ j c ht hc,fun w hw=>by
         have:=ha.2.2 (c::w) (fun d hd=>by
           rcases List.mem_cons.1 hd with rfl|hd
           · exact hc
           · exact hw d hd)
         simpa [goW] using this⟩
       rw[hL] at this;cases this
     · exact h.sound i j ha
   · exact h.sound i j ha
 · unfold upd2 at hl;split at hl
   · split at hl
     · cases hl
     · exact hl
   · exact hl
theorem AlkM.done (h:AlkM δ o N C L) (hδ:∀ s c,s<N→c<C→δ s c<N) (hcl:∀ s t,s<N→t<N→ClosedAt δ C L s t) {s t:Nat} (hs:s<N) (ht:t<N):L s t=true↔Alk δ o N C s t:=by
 refine⟨fun hl=>⟨hs,ht,fun w hw=>?_⟩,fun ha=>h.sound s t ha⟩;have key:∀ (w:List Nat) (s t:Nat),s<N→t<N→L s t=true→(∀ c∈w,c<C)→o (goW δ w s)=o (goW δ w t):=by
   intro w;induction w with
   | nil=>intro s t hs ht hl _;exact h.out s t hs ht hl
   | cons c w ih =>
     intro s t hs ht hl hw;have hc:=hw c (by simp);exact ih (δ s c) (δ t c) (hδ s c hs hc) (hδ t c ht hc) (hcl s t hs ht hl c hc) fun d hd=>hw d (by simp[hd])
 exact key w s t hs ht hl hw
end
end
end Go.Proofs.Ytgbcklnnbeimhaa
