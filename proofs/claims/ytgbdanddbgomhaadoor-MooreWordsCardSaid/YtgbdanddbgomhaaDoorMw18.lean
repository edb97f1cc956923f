import Derived.Test.YtgbdanddbgomhaaDoorMw16
set_option linter.unusedVariables false
set_option linter.unusedSimpArgs false
namespace Go.Proofs.YtgbdanddbgomhaaDoor
open Go Go.RowKit
theorem Tree.kidAt {w:World} {ok:Nat->Prop} {t:T} {k:Value} (h:Tree w ok t k) (i:Nat) (hi:i<t.kids.length):
   ∃ g cap k',k = .slice (some ⟨g,0,none⟩) t.kids.length cap∧g<w.heap.size∧Tree w ok (t.kids[i]'hi) k'∧∀ j u,(nodeC (t.kids[i]'hi) k')[j]?=some u->w.cell? ⟨g,8*i+j,none⟩=some u:=by
 cases h with
 | nil t h=>rw[h] at hi;simp at hi
 | row t g cap cur ks hg hok hn h0 hcap hmax hsize hc hk =>
   have hi':i<ks.length:=(by omega);refine⟨g,cap,ks[i],rfl,za0 hg,hk i _ _ (List.getElem?_eq_getElem hi) (List.getElem?_eq_getElem hi'),fun j u hu=>?_⟩;have hj:j<8:=by
     have:=List.getElem?_eq_some_iff.1 hu
     simpa [nodeC] using this.1
   have e:=zfz t.kids ks i j _ _ (List.getElem?_eq_getElem hi) (List.getElem?_eq_getElem hi') hj;rw[←hc,hu] at e;rw[cell_of_row w g _ cur 29 (0,0) hg,←Array.getElem?_toList];rw[List.getElem?_take] at e;split at e
   . exact e
   . cases e
theorem Tree.bound {w:World} {ok:Nat->Prop} {t:T} {A:Option Addr} {n c:Nat} (h:Tree w ok t (.slice A n c)):n=t.kids.length∧n<=maxLen:=by
 cases h with
 | nil t h=>exact⟨by simp[h],by decide⟩
 | row t g cap cur ks hg hok hn h0 hcap hmax hsize hc hk=>exact⟨rfl,Nat.le_trans hcap hmax⟩
theorem zav (t:T) (i:Nat) (hi:i<t.kids.length):SizeOf.sizeOf (t.kids[i]'hi)<SizeOf.sizeOf t:=by
 obtain⟨op,p,lo,hi',l⟩:=t;have:=List.sizeOf_lt_of_mem (List.getElem_mem hi);simp only[T.kids] at *;simp;omega
theorem kid8 {w:World} {ok:Nat->Prop} {t u:T} {A:Option Addr} {n c:Nat} (h:Tree w ok t (.slice A n c)) (i:Nat) (hu:t.kids[i]?=some u):
   ∃ g B m d,A=some ⟨g,0,none⟩∧g<w.heap.size∧Tree w ok u (.slice B m d)∧∀ q v,(nodeC u (.slice B m d))[q]?=some v->w.cell? ⟨g,8*i+q,none⟩=some v:=by
 obtain⟨hi,e⟩:=List.getElem?_eq_some_iff.1 hu;obtain⟨g,cap,kk,e1,hg1,htk,hcells⟩:=h.kidAt i hi;rw[e] at htk hcells;obtain⟨B,m,d,rfl⟩:=htk.form;exact⟨g,B,m,d,by injection e1,hg1,htk,hcells⟩
def NodeAt (w:World) (g o:Nat) (t:T) (k:Value):Prop:=∀ q v,(nodeC t k)[q]?=some v->w.cell? ⟨g,o+q,none⟩=some v
theorem NodeAt.lt {w:World} {g o:Nat} {t:T} {k:Value} (h:NodeAt w g o t k):g<w.heap.size:=World.block_lt_of_cell? w ⟨g,o+0,none⟩ (h 0 _ rfl)
theorem NodeAt.stays {w w':World} {g o:Nat} {t:T} {k:Value} (h:NodeAt w g o t k) (hb:Below w.heap.size w w'):NodeAt w' g o t k:=fun q v e=>za2 (h q v e) hb
theorem NodeAt.kid {w:World} {ok:Nat->Prop} {t:T} {A:Option Addr} {n c:Nat} (h:Tree w ok t (.slice A n c)) (i:Nat) (hi:i<t.kids.length):
   ∃ g B m d,A=some ⟨g,0,none⟩∧Tree w ok (t.kids[i]'hi) (.slice B m d)∧NodeAt w g (i*8) (t.kids[i]'hi) (.slice B m d):=by
 obtain⟨g,B,m1,m2,e1,hg1,htk,hcells⟩:=kid8 h i (List.getElem?_eq_getElem hi);exact⟨g,B,m1,m2,e1,htk,fun q v e=>by rw[Nat.mul_comm i 8];exact hcells q v e⟩
theorem NodeAt.block {w w':World} {t:T} {g o:Nat} {k:Value} (h:NodeAt w g o t k) (hb:w'.heap[g]?=w.heap[g]?):NodeAt w' g o t k:=fun q v e=>(World.cell?_of_block (w:=w) (a:=⟨g,o+q,none⟩) hb).trans (h q v e)
theorem Box8.nodeAt {w:World} {g:Nat} {t:T} {k:Value} (h:Box8 w g t k):NodeAt w g 0 t k:=by
 obtain⟨c0,c1,c2,c3,c4,c5,c6,c7⟩:=h.cell;intro q v e;rw[Nat.zero_add]
 match q,e with
 | 0,e=>injection e with e;rw[←e];exact c0
 | 1,e=>injection e with e;rw[←e];exact c1
 | 2,e=>injection e with e;rw[←e];exact c2
 | 3,e=>injection e with e;rw[←e];exact c3
 | 4,e=>injection e with e;rw[←e];exact c4
 | 5,e=>injection e with e;rw[←e];exact c5
 | 6,e=>injection e with e;rw[←e];exact c6
 | 7,e=>injection e with e;rw[←e];exact c7
 | q+8,e=>simp[nodeC] at e
end Go.Proofs.YtgbdanddbgomhaaDoor
