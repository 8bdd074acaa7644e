import PyProof.Rows.All
import Wide.All
import OpenK.AllK
import Wide.FinOn
import HandS.ForMost
import HandS.Codes
import HandS.Zip
import HandS.SortKw
import KE.GoesEnum
import KE.GoesZip
import KE.KDictZip
import KE.DataMinMax
import KE.SortData
import PyProof.ListStr
import PyProof.StrBlock2
import HandS.TupAny
import HandS.ExcInit
import HandS.ExcField
import HandS.ExcIs
import HandS.FStr
import HandS.HotCalls
import KE.KExcSuper
import KE.KExcIs
import HandS.IsInst
import HandS.Comp
import KE.KOwnIter
import HandS.MapObj
import HandS.Iter
import KE.KDictPairs
import HandS.Conv
import HandS.Dict
import HandS.Property
import HandS.Style
import PyProof.Rows.StrStep
import PyProof.AutoSeq1
import HandS.DictComp
import HandS.FStrTup
import PyProof.ReprHeads
import PyProof.ReprHeadsEmpty
import PyProof.ReprUnder
import PyProof.ReprNest
import HandS.Lambda
import HandS.Ends
import PyProof.ReprRoads
import HandS.EndTab
import KE.SortKeyHeap
import KE.KNestM
import HandS.DictTup
import HandS.ListItems
import KE.KDictList
import KE.KDictWalk
import HandS.OwnEq
import HandS.Strs
import HandS.ExcValue
import PyProof.CollectStr
import PyProof.Rows.SortStr
import PyProof.Rows.StrComp
import HandS.OwnIter
import HandS.MakeKwOnly
import HandS.Walk
import HandS.Replace
import HandS.Deep
import HandS.More
import PyProof.StrLawsRepr
import PySem.Challenge.RW_rankedjoins_k56_learner_step_by_step
set_option Elab.async false
set_option linter.all false
section
namespace RJ
/-- neighbors of a row -/
def adjs (row : List Nat) : List (Nat × Nat) := row.zip row.tail
theorem adjs_cons2 (a b : Nat) (t : List Nat) : adjs (a :: b :: t) = (a, b) :: adjs (b :: t) := rfl
theorem adjs_one (a : Nat) : adjs [a] = [] := rfl
theorem adjs_nil : adjs [] = [] := rfl
/-- one pass from left to right -/
def pass (l r m : Nat) : List Nat → List Nat
  | [] => []
  | [a] => [a]
  | a :: b :: t => if a = l ∧ b = r then m :: pass l r m t else a :: pass l r m (b :: t)
theorem pass_id {l r m : Nat} : ∀ {row : List Nat}, (l, r) ∉ adjs row → pass l r m row = row
  | [], _ => rfl
  | [a], _ => rfl
  | a :: b :: t, h => by
    rw [adjs_cons2] at h
    have h1 : ¬ (a = l ∧ b = r) := fun q => h (by rw [q.1, q.2]; exact List.mem_cons_self ..)
    rw [pass, if_neg h1, pass_id (row := b :: t) fun q => h (List.mem_cons_of_mem _ q)]
theorem pass_head {l r m : Nat} : ∀ {a : Nat} {t : List Nat}, ∃ x rest, pass l r m (a :: t) = x :: rest ∧ (x = a ∨ x = m)
  | a, [] => ⟨a, [], rfl, .inl rfl⟩
  | a, b :: t => by
    rw [pass]
    split
    · exact ⟨m, _, rfl, .inr rfl⟩
    · exact ⟨a, _, rfl, .inl rfl⟩
theorem mem_adjs_cons {p : Nat × Nat} {a : Nat} {t : List Nat} (h : p ∈ adjs t) : p ∈ adjs (a :: t) := by
  cases t with
  | nil => rw [adjs_nil] at h; cases h
  | cons b t => rw [adjs_cons2]; exact List.mem_cons_of_mem _ h
theorem pass_adj {l r m : Nat} {p : Nat × Nat} : ∀ {row : List Nat}, p ∈ adjs (pass l r m row) → (p ∈ adjs row ∧ p ≠ (l, r)) ∨ p.1 = m ∨ p.2 = m
  | [], h => by cases h
  | [a], h => by cases h
  | a :: b :: t, h => by
    rw [pass] at h
    split at h
    · rename_i hab
      cases e : pass l r m t with
      | nil => rw [e] at h; cases h
      | cons x rest =>
        rw [e, adjs_cons2] at h
        rcases List.mem_cons.mp h with q | q
        · exact .inr (.inl (by rw [q]))
        · rw [← e] at q
          rcases pass_adj q with ⟨q1, q2⟩ | q
          · exact .inl ⟨mem_adjs_cons (mem_adjs_cons q1), q2⟩
          · exact .inr q
    · rename_i hab
      obtain ⟨x, rest, e, hx⟩ := pass_head (l := l) (r := r) (m := m) (a := b) (t := t)
      rw [e, adjs_cons2] at h
      rcases List.mem_cons.mp h with q | q
      · rcases hx with hx | hx
        · refine .inl ⟨?_, ?_⟩
          · rw [q, hx, adjs_cons2]; exact List.mem_cons_self ..
          · rw [q, hx]; intro z; exact hab ⟨(Prod.mk.inj z).1, (Prod.mk.inj z).2⟩
        · exact .inr (.inr (by rw [q]; exact hx))
      · rw [← e] at q
        rcases pass_adj q with ⟨q1, q2⟩ | q
        · exact .inl ⟨mem_adjs_cons q1, q2⟩
        · exact .inr q
theorem pass_len {l r m : Nat} : ∀ {row : List Nat}, (pass l r m row).length ≤ row.length
  | [] => Nat.le_refl _
  | [a] => Nat.le_refl _
  | a :: b :: t => by
    rw [pass]
    split
    · have := pass_len (l := l) (r := r) (m := m) (row := t)
      simp only [List.length_cons]; omega
    · have := pass_len (l := l) (r := r) (m := m) (row := b :: t)
      simp only [List.length_cons] at this ⊢; omega
theorem pass_lt {l r m : Nat} : ∀ {row : List Nat}, (l, r) ∈ adjs row → (pass l r m row).length < row.length
  | [], h => by cases h
  | [a], h => by cases h
  | a :: b :: t, h => by
    rw [pass]
    split
    · have := pass_len (l := l) (r := r) (m := m) (row := t)
      simp only [List.length_cons]; omega
    · rename_i hab
      rw [adjs_cons2] at h
      rcases List.mem_cons.mp h with q | q
      · exact absurd ⟨(Prod.mk.inj q).1.symm, (Prod.mk.inj q).2.symm⟩ hab
      · have := pass_lt (l := l) (r := r) (m := m) (row := b :: t) q
        simp only [List.length_cons] at this ⊢; omega
theorem pass_mem {l r m x : Nat} : ∀ {row : List Nat}, x ∈ pass l r m row → x ∈ row ∨ x = m
  | [], h => by cases h
  | [a], h => .inl h
  | a :: b :: t, h => by
    rw [pass] at h
    split at h
    · rcases List.mem_cons.mp h with q | q
      · exact .inr q
      · rcases pass_mem q with q | q
        · exact .inl (List.mem_cons_of_mem _ (List.mem_cons_of_mem _ q))
        · exact .inr q
    · rcases List.mem_cons.mp h with q | q
      · exact .inl (by rw [q]; exact List.mem_cons_self ..)
      · rcases pass_mem q with q | q
        · exact .inl (List.mem_cons_of_mem _ q)
        · exact .inr q
/-- the passes of these pairs, the first of which makes b + k -/
def run (b : Nat) : List (Nat × Nat) → Nat → List Nat → List Nat
  | [], _, row => row
  | p :: ps, k, row => run b ps (k + 1) (pass p.1 p.2 (b + k) row)
def cutL (b : Nat) (ps : List (Nat × Nat)) (row : List Nat) : List Nat := run b ps 0 row
theorem run_append (b : Nat) : ∀ (ps qs : List (Nat × Nat)) (k : Nat) (row : List Nat), run b (ps ++ qs) k row = run b qs (k + ps.length) (run b ps k row)
  | [], qs, k, row => rfl
  | p :: ps, qs, k, row => by
    show run b (ps ++ qs) (k + 1) _ = run b qs (k + (ps.length + 1)) (run b ps (k + 1) _)
    rw [run_append b ps qs, show k + 1 + ps.length = k + (ps.length + 1) by omega]
theorem run_none {b : Nat} : ∀ {ps : List (Nat × Nat)} {k : Nat} {row : List Nat}, (∀ p ∈ ps, p ∉ adjs row) → run b ps k row = row
  | [], _, _, _ => rfl
  | p :: ps, k, row, h => by
    show run b ps (k + 1) (pass p.1 p.2 (b + k) row) = row
    rw [pass_id (h p (List.mem_cons_self ..))]
    exact run_none fun q hq => h q (List.mem_cons_of_mem _ hq)
/-- the parts of a join are pieces ahead of it -/
def WF (b : Nat) (ps : List (Nat × Nat)) : Prop := ∀ i p, ps[i]? = some p → p.1 < b + i ∧ p.2 < b + i
theorem WF.take {b : Nat} {ps : List (Nat × Nat)} (h : WF b ps) (n : Nat) : WF b (ps.take n) := fun i p e => by
  rw [List.getElem?_take] at e
  split at e
  · exact h i p e
  · cases e
theorem take_succ_of {α : Type} {l : List α} {n : Nat} {x : α} (h : l[n]? = some x) : l.take (n + 1) = l.take n ++ [x] := by
  rw [List.take_add_one, h]; rfl
theorem take_len_of {α : Type} {l : List α} {n : Nat} {x : α} (h : l[n]? = some x) : (l.take n).length = n := by
  obtain ⟨h1, _⟩ := List.getElem?_eq_some_iff.mp h
  rw [List.length_take]; omega
theorem cutL_snoc (b : Nat) (ps : List (Nat × Nat)) (q : Nat × Nat) (row : List Nat) : cutL b (ps ++ [q]) row = pass q.1 q.2 (b + ps.length) (cutL b ps row) := by
  unfold cutL
  rw [run_append, Nat.zero_add]; rfl
theorem mem_take_get {α : Type} {l : List α} {n : Nat} {x : α} (h : x ∈ l.take n) : ∃ i, i < n ∧ l[i]? = some x := by
  obtain ⟨i, hi⟩ := List.mem_iff_getElem?.mp h
  rw [List.getElem?_take] at hi
  split at hi
  · exact ⟨i, by assumption, hi⟩
  · cases hi
theorem cut_clean_take {b : Nat} {ps : List (Nat × Nat)} (hw : WF b ps) (row : List Nat) : ∀ n, ∀ p ∈ ps.take n, p ∉ adjs (cutL b (ps.take n) row)
  | 0, p, hp => by rw [List.take_zero] at hp; cases hp
  | n + 1, p, hp => by
    cases e : ps[n]? with
    | none =>
      have hle : ps.length ≤ n := List.getElem?_eq_none_iff.mp e
      rw [List.take_of_length_le (by omega)] at hp ⊢
      have := cut_clean_take hw row n p (by rw [List.take_of_length_le hle]; exact hp)
      rw [List.take_of_length_le hle] at this
      exact this
    | some q =>
      rw [take_succ_of e] at hp ⊢
      rw [cutL_snoc, take_len_of e]
      have hq := hw n q e
      intro hm
      rcases pass_adj hm with ⟨h1, h2⟩ | h1
      · rcases List.mem_append.mp hp with z | z
        · exact cut_clean_take hw row n p z h1
        · exact h2 (List.mem_singleton.mp z)
      · have hlt : p.1 < b + n ∧ p.2 < b + n := by
          rcases List.mem_append.mp hp with z | z
          · obtain ⟨i, hi, ei⟩ := mem_take_get z
            have := hw i p ei
            omega
          · rw [List.mem_singleton.mp z]; exact hq
        omega
theorem cut_clean {b : Nat} {ps : List (Nat × Nat)} (hw : WF b ps) (row : List Nat) : ∀ p ∈ ps, p ∉ adjs (cutL b ps row) := by
  have h := cut_clean_take hw row ps.length
  rw [List.take_length] at h
  exact h
theorem split_at {α : Type} {l : List α} {n : Nat} {x : α} (h : l[n]? = some x) : l = l.take n ++ x :: l.drop (n + 1) := by
  obtain ⟨h1, h2⟩ := List.getElem?_eq_some_iff.mp h
  rw [← h2, ← List.drop_eq_getElem_cons h1, List.take_append_drop]
theorem cutL_at {b : Nat} {ps : List (Nat × Nat)} {r : Nat} {p : Nat × Nat} (h : ps[r]? = some p) (row : List Nat) (hno : ∀ j q, j < r → ps[j]? = some q → q ∉ adjs row) :
    cutL b ps row = run b (ps.drop (r + 1)) (r + 1) (pass p.1 p.2 (b + r) row) := by
  have e := split_at h
  have hl := take_len_of h
  unfold cutL
  rw [e, run_append, hl, Nat.zero_add]
  rw [← e]
  rw [run_none (ps := ps.take r) (row := row) fun q hq => by
    obtain ⟨j, hj, ej⟩ := mem_take_get hq
    exact hno j q hj ej]
  rfl
/-- the lowest rank that is there may be joined first -/
theorem cut_step {b : Nat} {ps : List (Nat × Nat)} (hw : WF b ps) {r : Nat} {p : Nat × Nat} (h : ps[r]? = some p) (row : List Nat) (hno : ∀ j q, j < r → ps[j]? = some q → q ∉ adjs row) :
    cutL b ps (pass p.1 p.2 (b + r) row) = cutL b ps row := by
  have hp := hw r p h
  have no2 : ∀ j q, j < r → ps[j]? = some q → q ∉ adjs (pass p.1 p.2 (b + r) row) := fun j q hj ej hm => by
    rcases pass_adj hm with ⟨z, _⟩ | z
    · exact hno j q hj ej z
    · have := hw j q ej; omega
  have no3 : (p.1, p.2) ∉ adjs (pass p.1 p.2 (b + r) row) := fun hm => by
    rcases pass_adj hm with ⟨_, z⟩ | z
    · exact z rfl
    · have z' : p.1 = b + r ∨ p.2 = b + r := z
      omega
  rw [cutL_at h row hno, cutL_at h _ no2, pass_id no3]
theorem cut_done {b : Nat} {ps : List (Nat × Nat)} {row : List Nat} (h : ∀ p ∈ ps, p ∉ adjs row) : cutL b ps row = row := run_none h
theorem adjs_append {u v : List Nat} {x : Nat} : adjs (u ++ x :: v) = adjs (u ++ [x]) ++ adjs (x :: v) := by
  induction u with
  | nil => rfl
  | cons a u ih =>
    cases u with
    | nil => rfl
    | cons c u =>
      show (a, c) :: adjs (c :: u ++ x :: v) = ((a, c) :: adjs (c :: u ++ [x])) ++ adjs (x :: v)
      exact congrArg (fun z => (a, c) :: z) ih
theorem pass_left {l r m : Nat} : ∀ {u v : List Nat}, (l, r) ∉ adjs (u ++ [l]) → pass l r m (u ++ l :: r :: v) = u ++ m :: pass l r m v
  | [], v, _ => by
    show pass l r m (l :: r :: v) = m :: pass l r m v
    rw [pass, if_pos ⟨rfl, rfl⟩]
  | [a], v, h => by
    have h1 : ¬ (a = l ∧ l = r) := fun q => h (by show (l, r) ∈ adjs [a, l]; rw [adjs_cons2, q.1, ← q.2]; exact List.mem_cons_self ..)
    show pass l r m (a :: l :: r :: v) = a :: m :: pass l r m v
    rw [pass, if_neg h1, pass, if_pos ⟨rfl, rfl⟩]
  | a :: c :: u, v, h => by
    have h1 : ¬ (a = l ∧ c = r) := fun q => h (by show (l, r) ∈ adjs (a :: c :: (u ++ [l])); rw [adjs_cons2, q.1, q.2]; exact List.mem_cons_self ..)
    have h2 : (l, r) ∉ adjs ((c :: u) ++ [l]) := fun q => h (by show (l, r) ∈ adjs (a :: c :: (u ++ [l])); exact mem_adjs_cons q)
    show pass l r m (a :: c :: (u ++ l :: r :: v)) = a :: (c :: u ++ m :: pass l r m v)
    rw [pass, if_neg h1]
    exact congrArg (a :: ·) (pass_left (u := c :: u) h2)
theorem pass_over {l r m : Nat} (h1 : m ≠ l) (h2 : m ≠ r) : ∀ {u v : List Nat}, (l, r) ∉ adjs u → pass l r m (u ++ m :: v) = u ++ m :: pass l r m v
  | [], v, _ => by
    cases v with
    | nil => rfl
    | cons c v =>
      show pass l r m (m :: c :: v) = m :: pass l r m (c :: v)
      rw [pass, if_neg fun q => h1 q.1]
  | [a], v, h => by
    show pass l r m (a :: m :: v) = a :: m :: pass l r m v
    rw [pass, if_neg fun q => h2 q.2]
    exact congrArg (a :: ·) (pass_over h1 h2 (u := []) (by rw [adjs_nil]; exact List.not_mem_nil))
  | a :: c :: u, v, h => by
    have hn : ¬ (a = l ∧ c = r) := fun q => h (by rw [adjs_cons2, q.1, q.2]; exact List.mem_cons_self ..)
    show pass l r m (a :: c :: (u ++ m :: v)) = a :: (c :: u ++ m :: pass l r m v)
    rw [pass, if_neg hn]
    exact congrArg (a :: ·) (pass_over h1 h2 (u := c :: u) fun q => h (mem_adjs_cons q))
theorem adjs_sub_left {u v : List Nat} {p : Nat × Nat} (h : p ∈ adjs u) : p ∈ adjs (u ++ v) := by
  induction u with
  | nil => cases h
  | cons a u ih =>
    cases u with
    | nil => cases h
    | cons c u =>
      rw [adjs_cons2] at h
      show p ∈ (a, c) :: adjs (c :: u ++ v)
      rcases List.mem_cons.mp h with q | q
      · rw [q]; exact List.mem_cons_self ..
      · exact List.mem_cons_of_mem _ (ih q)
theorem adjs_sub_right {u v : List Nat} {p : Nat × Nat} (h : p ∈ adjs v) : p ∈ adjs (u ++ v) := by
  induction u with
  | nil => exact h
  | cons a u ih => exact mem_adjs_cons ih
/-- the leftmost place of the lowest rank may be joined first -/
theorem cut_first {b : Nat} {ps : List (Nat × Nat)} (hw : WF b ps) {r : Nat} {p : Nat × Nat} (h : ps[r]? = some p) {u v : List Nat} (hu : p ∉ adjs (u ++ [p.1]))
    (hno : ∀ j q, j < r → ps[j]? = some q → q ∉ adjs (u ++ p.1 :: p.2 :: v)) : cutL b ps (u ++ (b + r) :: v) = cutL b ps (u ++ p.1 :: p.2 :: v) := by
  have hp := hw r p h
  have no2 : ∀ j q, j < r → ps[j]? = some q → q ∉ adjs (u ++ (b + r) :: v) := fun j q hj ej hm => by
    have hq := hw j q ej
    have key : q ∈ adjs u ∨ q ∈ adjs v ∨ q.1 = b + r ∨ q.2 = b + r := by
      rw [adjs_append] at hm
      rcases List.mem_append.mp hm with z | z
      · -- adjs (u ++ [b + r])
        clear hm
        revert z
        clear hu hno
        induction u with
        | nil => intro z; cases z
        | cons a u ih =>
          intro z
          cases u with
          | nil =>
            have z' : q ∈ [(a, b + r)] := z
            rw [List.mem_singleton.mp z']
            exact .inr (.inr (.inr rfl))
          | cons c u =>
            have z' : q ∈ (a, c) :: adjs (c :: u ++ [b + r]) := z
            rcases List.mem_cons.mp z' with w | w
            · refine .inl ?_
              rw [w, adjs_cons2]; exact List.mem_cons_self ..
            · rcases ih w with y | y
              · exact .inl (mem_adjs_cons y)
              · exact .inr y
      · cases v with
        | nil => cases z
        | cons c v =>
          rw [adjs_cons2] at z
          rcases List.mem_cons.mp z with w | w
          · rw [w]; exact .inr (.inr (.inl rfl))
          · exact .inr (.inl w)
    rcases key with z | z | z
    · exact hno j q hj ej (adjs_sub_left z)
    · exact hno j q hj ej (adjs_sub_right (mem_adjs_cons (mem_adjs_cons z)))
    · omega
  rw [cutL_at h _ hno, cutL_at h _ no2, pass_left hu, pass_over (by omega) (by omega) fun q => hu (adjs_sub_left q)]
end RJ
end

section
set_option maxRecDepth 100000
namespace RJ
/-- the row of the letters -/
def lets (al t : List Nat) : List Nat := t.map fun c => al.idxOf c
theorem snoc_ind {α : Type} {M : List α → Prop} (h0 : M []) (h1 : ∀ l a, M l → M (l ++ [a])) (l : List α) : M l := by
  have key : ∀ r : List α, M r.reverse := by
    intro r
    induction r with
    | nil => exact h0
    | cons a r ih => rw [List.reverse_cons]; exact h1 _ _ ih
  rw [← l.reverse_reverse]; exact key _
/-- the texts of the pieces -/
def textsOf (al : List Nat) (ps : List (Nat × Nat)) : List (List Nat) := ps.foldl (fun ts p => ts ++ [ts.getD p.1 [] ++ ts.getD p.2 []]) (al.map fun c => [c])
theorem textsOf_snoc (al : List Nat) (ps : List (Nat × Nat)) (p : Nat × Nat) : textsOf al (ps ++ [p]) = textsOf al ps ++ [(textsOf al ps).getD p.1 [] ++ (textsOf al ps).getD p.2 []] := by
  unfold textsOf
  rw [List.foldl_append]; rfl
theorem textsOf_len (al : List Nat) (ps : List (Nat × Nat)) : (textsOf al ps).length = al.length + ps.length := by
  induction ps using snoc_ind with
  | h0 => unfold textsOf; rw [List.foldl_nil, List.length_map]; rfl
  | h1 ps p ih => rw [textsOf_snoc, List.length_append, ih, List.length_append]; rfl
theorem getD_mem_or {ts : List (List Nat)} {i : Nat} : ts.getD i [] ∈ ts ∨ ts.getD i [] = [] := by
  rw [List.getD_eq_getElem?_getD]
  cases h : ts[i]? with
  | none => exact .inr rfl
  | some t => exact .inl (List.mem_of_getElem? h)
theorem textsOf_al {al : List Nat} {ps : List (Nat × Nat)} : ∀ t ∈ textsOf al ps, ∀ c ∈ t, c ∈ al := by
  induction ps using snoc_ind with
  | h0 =>
    intro t ht c hc
    unfold textsOf at ht
    rw [List.foldl_nil] at ht
    obtain ⟨d, hd, rfl⟩ := List.mem_map.mp ht
    rw [List.mem_singleton.mp hc]; exact hd
  | h1 ps p ih =>
    intro t ht c hc
    rw [textsOf_snoc] at ht
    rcases List.mem_append.mp ht with h | h
    · exact ih t h c hc
    · rw [List.mem_singleton.mp h] at hc
      have key : ∀ i, c ∈ (textsOf al ps).getD i [] → c ∈ al := fun i hi => by
        rcases getD_mem_or (ts := textsOf al ps) (i := i) with m | m
        · exact ih _ m c hi
        · rw [m] at hi; cases hi
      rcases List.mem_append.mp hc with z | z
      · exact key _ z
      · exact key _ z
/-- may the pair be the next join -/
def okP (al : List Nat) (ts : List (List Nat)) (ps : List (Nat × Nat)) (p : Nat × Nat) : Prop :=
  p.1 < ts.length ∧ p.2 < ts.length ∧ (ts.getD p.1 [] ++ ts.getD p.2 []).length ≤ 40 ∧ cutL al.length ps (lets al (ts.getD p.1 [] ++ ts.getD p.2 [])) = [p.1, p.2]
instance (al ts ps p) : Decidable (okP al ts ps p) := by unfold okP; infer_instance
def Proper (al : List Nat) (ps : List (Nat × Nat)) : Prop := ∀ i p, ps[i]? = some p → okP al (textsOf al (ps.take i)) (ps.take i) p
theorem Proper.wf {al : List Nat} {ps : List (Nat × Nat)} (h : Proper al ps) : WF al.length ps := fun i p e => by
  obtain ⟨h1, h2, _⟩ := h i p e
  rw [textsOf_len, take_len_of e] at h1 h2
  exact ⟨h1, h2⟩
theorem Proper.take {al : List Nat} {ps : List (Nat × Nat)} (h : Proper al ps) (n : Nat) : Proper al (ps.take n) := fun i p e => by
  rw [List.getElem?_take] at e
  split at e
  · have := h i p e
    rw [List.take_take, Nat.min_eq_left (by omega)]
    exact this
  · cases e
theorem Proper.nil (al : List Nat) : Proper al [] := fun i p e => by simp at e
theorem Proper.snoc {al : List Nat} {ps : List (Nat × Nat)} {p : Nat × Nat} (h : Proper al ps) (hp : okP al (textsOf al ps) ps p) : Proper al (ps ++ [p]) := fun i q e => by
  by_cases hi : i < ps.length
  · rw [List.getElem?_append_left hi] at e
    rw [List.take_append_of_le_length (by omega)]
    exact h i q e
  · rw [List.getElem?_append_right (by omega)] at e
    have hi0 : i - ps.length = 0 := by
      rcases Nat.eq_zero_or_pos (i - ps.length) with z | z
      · exact z
      · rw [List.getElem?_eq_none (by rw [List.length_singleton]; exact z)] at e; cases e
    rw [hi0] at e
    have e' : p = q := by simpa using e
    subst e'
    have hi' : i = ps.length := by omega
    rw [hi', List.take_left]
    exact hp
theorem Proper.front {al : List Nat} {ps : List (Nat × Nat)} {p : Nat × Nat} (h : Proper al (ps ++ [p])) : Proper al ps ∧ okP al (textsOf al ps) ps p := by
  refine ⟨?_, ?_⟩
  · have := h.take ps.length
    rw [List.take_left] at this; exact this
  · have := h ps.length p (by rw [List.getElem?_append_right (Nat.le_refl _), Nat.sub_self]; rfl)
    rw [List.take_left] at this; exact this
theorem Proper.short {al : List Nat} {ps : List (Nat × Nat)} (h : Proper al ps) : ∀ t ∈ textsOf al ps, t.length ≤ 40 := by
  induction ps using snoc_ind with
  | h0 =>
    intro t ht
    unfold textsOf at ht
    rw [List.foldl_nil] at ht
    obtain ⟨d, hd, rfl⟩ := List.mem_map.mp ht
    simp
  | h1 ps p ih =>
    intro t ht
    obtain ⟨h1, h2⟩ := h.front
    rw [textsOf_snoc] at ht
    rcases List.mem_append.mp ht with q | q
    · exact ih h1 t q
    · rw [List.mem_singleton.mp q]; exact h2.2.2.1
/-- the cut of a piece's text is this piece -/
theorem cut_piece {al : List Nat} (hal : al.Nodup) {ps : List (Nat × Nat)} (h : Proper al ps) : ∀ i t, (textsOf al ps)[i]? = some t → cutL al.length ps (lets al t) = [i] := by
  induction ps using snoc_ind with
  | h0 =>
    intro i t ht
    unfold textsOf at ht
    rw [List.foldl_nil, List.getElem?_map] at ht
    cases e : al[i]? with
    | none => rw [e] at ht; cases ht
    | some c =>
      rw [e] at ht
      have : t = [c] := (Option.some.inj ht).symm
      subst this
      obtain ⟨hi, hc⟩ := List.getElem?_eq_some_iff.mp e
      show [al.idxOf c] = [i]
      have h1 : al.idxOf c < al.length := List.idxOf_lt_length_iff.mpr (List.mem_of_getElem? e)
      have h2 : al[al.idxOf c] = al[i] := by rw [List.getElem_idxOf h1, hc]
      rw [(List.getElem_inj hal).mp h2]
  | h1 ps p ih =>
    intro i t ht
    obtain ⟨h1, h2⟩ := h.front
    rw [cutL_snoc]
    rw [textsOf_snoc] at ht
    by_cases hi : i < (textsOf al ps).length
    · rw [List.getElem?_append_left hi] at ht
      rw [ih h1 i t ht]; rfl
    · rw [List.getElem?_append_right (by omega)] at ht
      have hi0 : i - (textsOf al ps).length = 0 := by
        rcases Nat.eq_zero_or_pos (i - (textsOf al ps).length) with z | z
        · exact z
        · rw [List.getElem?_eq_none (by rw [List.length_singleton]; exact z)] at ht; cases ht
      rw [hi0] at ht
      have e' : (textsOf al ps).getD p.1 [] ++ (textsOf al ps).getD p.2 [] = t := by simpa using ht
      rw [← e', h2.2.2.2]
      have hi' : i = al.length + ps.length := by rw [textsOf_len] at hi0 hi; omega
      show pass p.1 p.2 (al.length + ps.length) [p.1, p.2] = [i]
      rw [pass, if_pos ⟨rfl, rfl⟩, hi']; rfl
theorem texts_inj {al : List Nat} (hal : al.Nodup) {ps : List (Nat × Nat)} (h : Proper al ps) {i j : Nat} {t : List Nat} (hi : (textsOf al ps)[i]? = some t) (hj : (textsOf al ps)[j]? = some t) : i = j := by
  have h1 := cut_piece hal h i t hi
  rw [cut_piece hal h j t hj] at h1
  injection h1 with h1; exact h1.symm
theorem texts_nodup {al : List Nat} (hal : al.Nodup) {ps : List (Nat × Nat)} (h : Proper al ps) : (textsOf al ps).Nodup := by
  refine List.pairwise_iff_getElem.mpr fun i j hi hj hij e => ?_
  have := texts_inj hal h (List.getElem?_eq_getElem hi) (by rw [List.getElem?_eq_getElem hj, ← e])
  omega
/-- the text of a row -/
def textR (ts : List (List Nat)) (row : List Nat) : List Nat := (row.map fun i => ts.getD i []).flatten
theorem getD_short {ts : List (List Nat)} (h : ∀ t ∈ ts, t.length ≤ 40) (i : Nat) : (ts.getD i []).length ≤ 40 := by
  rcases getD_mem_or (ts := ts) (i := i) with m | m
  · exact h _ m
  · rw [m]; exact Nat.zero_le _
theorem run_len (b : Nat) : ∀ (ps : List (Nat × Nat)) (k : Nat) (row : List Nat), (run b ps k row).length ≤ row.length
  | [], _, _ => Nat.le_refl _
  | p :: ps, k, row => Nat.le_trans (run_len b ps (k + 1) _) pass_len
theorem cutL_len (b : Nat) (ps : List (Nat × Nat)) (row : List Nat) : (cutL b ps row).length ≤ row.length := run_len b ps 0 row
theorem textR_cons (ts : List (List Nat)) (a : Nat) (row : List Nat) : textR ts (a :: row) = ts.getD a [] ++ textR ts row := rfl
theorem pass_text {ts : List (List Nat)} {l r m : Nat} (h : ts.getD m [] = ts.getD l [] ++ ts.getD r []) : ∀ row : List Nat, textR ts (pass l r m row) = textR ts row
  | [] => rfl
  | [a] => rfl
  | a :: b :: t => by
    rw [pass]
    split
    · rename_i c
      obtain ⟨rfl, rfl⟩ := c
      rw [textR_cons, textR_cons, textR_cons, pass_text h t, h, List.append_assoc]
    · rw [textR_cons, textR_cons ts a, pass_text h (b :: t)]
theorem run_text {ts : List (List Nat)} {b : Nat} : ∀ (qs : List (Nat × Nat)) (k : Nat) (row : List Nat), (∀ (i : Nat) (q : Nat × Nat), qs[i]? = some q → ts.getD (b + k + i) [] = ts.getD q.1 [] ++ ts.getD q.2 []) → textR ts (run b qs k row) = textR ts row
  | [], _, _, _ => rfl
  | q :: qs, k, row, h => by
    have h0 := h 0 q rfl
    show textR ts (run b qs (k + 1) (pass q.1 q.2 (b + k) row)) = _
    rw [run_text qs (k + 1) _ fun i p e => by
      have := h (i + 1) p e
      rw [show b + (k + 1) + i = b + k + (i + 1) by omega]; exact this]
    exact pass_text h0 row
theorem texts_at {al : List Nat} {ps : List (Nat × Nat)} (h : WF al.length ps) : ∀ (i : Nat) (p : Nat × Nat), ps[i]? = some p → (textsOf al ps).getD (al.length + i) [] = (textsOf al ps).getD p.1 [] ++ (textsOf al ps).getD p.2 [] := by
  induction ps using snoc_ind with
  | h0 => intro i p e; cases e
  | h1 ps q ih =>
    intro i p e
    have hw : WF al.length ps := by have := h.take ps.length; rw [List.take_left] at this; exact this
    have key : ∀ j, j < al.length + ps.length → (textsOf al (ps ++ [q])).getD j [] = (textsOf al ps).getD j [] := fun j hj => by
      rw [textsOf_snoc, List.getD_eq_getElem?_getD, List.getElem?_append_left (by rw [textsOf_len]; exact hj), ← List.getD_eq_getElem?_getD]
    have hp := h i p e
    by_cases c : i < ps.length
    · rw [List.getElem?_append_left c] at e
      rw [key _ (by omega), key _ (by omega), key _ (by omega)]
      exact ih hw i p e
    · have hi : i = ps.length := by
        have := (List.getElem?_eq_some_iff.mp e).1
        rw [List.length_append, List.length_singleton] at this
        omega
      subst hi
      rw [List.getElem?_append_right (Nat.le_refl _), Nat.sub_self] at e
      have e' : q = p := Option.some.inj e
      subst e'
      rw [key q.1 hp.1, key q.2 hp.2, textsOf_snoc, List.getD_eq_getElem?_getD, List.getElem?_append_right (by rw [textsOf_len]; exact Nat.le_refl _), textsOf_len, Nat.sub_self]; rfl
theorem texts_letter {al : List Nat} {ps : List (Nat × Nat)} {i c : Nat} (h : al[i]? = some c) : (textsOf al ps).getD i [] = [c] := by
  have hi := (List.getElem?_eq_some_iff.mp h).1
  induction ps using snoc_ind with
  | h0 =>
    unfold textsOf
    rw [List.foldl_nil, List.getD_eq_getElem?_getD, List.getElem?_map, h]; rfl
  | h1 ps q ih =>
    rw [textsOf_snoc, List.getD_eq_getElem?_getD, List.getElem?_append_left (by rw [textsOf_len]; omega), ← List.getD_eq_getElem?_getD]
    exact ih
theorem text_lets {al : List Nat} {ps : List (Nat × Nat)} {t : List Nat} (h : ∀ c ∈ t, c ∈ al) : textR (textsOf al ps) (lets al t) = t := by
  induction t with
  | nil => rfl
  | cons c t ih =>
    show (textsOf al ps).getD (al.idxOf c) [] ++ textR (textsOf al ps) (lets al t) = c :: t
    rw [ih fun d hd => h d (List.mem_cons_of_mem _ hd), texts_letter (by
      have hc := h c (List.mem_cons_self ..)
      rw [List.getElem?_eq_getElem (List.idxOf_lt_length_of_mem hc), List.getElem_idxOf])]
    rfl
theorem text_cut {al : List Nat} {ps : List (Nat × Nat)} (hw : WF al.length ps) {t : List Nat} (h : ∀ c ∈ t, c ∈ al) : textR (textsOf al ps) (cutL al.length ps (lets al t)) = t := by
  unfold cutL
  rw [run_text ps 0 _ fun i q e => by rw [Nat.add_zero]; exact texts_at hw i q e]
  exact text_lets h
theorem run_mem {b x : Nat} : ∀ (qs : List (Nat × Nat)) (k : Nat) (row : List Nat), x ∈ run b qs k row → x ∈ row ∨ (b + k ≤ x ∧ x < b + k + qs.length)
  | [], _, _, h => .inl h
  | q :: qs, k, row, h => by
    rcases run_mem qs (k + 1) _ h with z | z
    · rcases pass_mem z with y | y
      · exact .inl y
      · exact .inr ⟨by omega, by rw [List.length_cons]; omega⟩
    · exact .inr ⟨by omega, by rw [List.length_cons]; omega⟩
theorem lets_lt {al t : List Nat} (h : ∀ c ∈ t, c ∈ al) : ∀ i ∈ lets al t, i < al.length := fun i hi => by
  obtain ⟨c, hc, rfl⟩ := List.mem_map.mp hi
  exact List.idxOf_lt_length_of_mem (h c hc)
theorem cut_lt {al : List Nat} {ps : List (Nat × Nat)} {t : List Nat} (h : ∀ c ∈ t, c ∈ al) : ∀ i ∈ cutL al.length ps (lets al t), i < al.length + ps.length := fun i hi => by
  rcases run_mem ps 0 _ hi with z | z
  · have := lets_lt h i z; omega
  · omega
theorem cut_nil (b : Nat) (ps : List (Nat × Nat)) : cutL b ps [] = [] := List.eq_nil_of_length_eq_zero (Nat.le_zero.mp (cutL_len b ps []))
def apart (m l r : Nat) (row : List Nat) : List Nat := row.flatMap fun x => if x = m then [l, r] else [x]
theorem apart_nil (m l r : Nat) : apart m l r [] = [] := rfl
theorem apart_cons (m l r x : Nat) (t : List Nat) : apart m l r (x :: t) = (if x = m then [l, r] else [x]) ++ apart m l r t := rfl
theorem apart_app (m l r : Nat) (u v : List Nat) : apart m l r (u ++ v) = apart m l r u ++ apart m l r v := List.flatMap_append
theorem apart_pass {m l r : Nat} : ∀ {row : List Nat}, m ∉ row → apart m l r (pass l r m row) = row
  | [], _ => rfl
  | [a], h => by
    have : a ≠ m := fun e => h (by rw [e]; exact List.mem_cons_self ..)
    show (if a = m then [l, r] else [a]) ++ [] = [a]
    rw [if_neg this]; rfl
  | a :: b :: t, h => by
    have ha : a ≠ m := fun e => h (by rw [e]; exact List.mem_cons_self ..)
    have ht : m ∉ b :: t := fun z => h (List.mem_cons_of_mem _ z)
    rw [pass]
    split
    · rename_i c
      obtain ⟨rfl, rfl⟩ := c
      rw [apart_cons, if_pos rfl, apart_pass (fun z => ht (List.mem_cons_of_mem _ z))]; rfl
    · rw [apart_cons, if_neg ha, apart_pass ht]; rfl
def splitD (b : Nat) (ps : List (Nat × Nat)) (n : Nat) : Nat → List Nat → List Nat
  | 0, row => row
  | k + 1, row => if n ≤ k then splitD b ps n k (apart (b + k) (ps.getD k (0, 0)).1 (ps.getD k (0, 0)).2 row) else row
variable {b n : Nat} {ps : List (Nat × Nat)}
theorem splitD_le {k : Nat} (h : k ≤ n) (row : List Nat) : splitD b ps n k row = row := by
  cases k with
  | zero => rfl
  | succ k => rw [splitD, if_neg (by omega)]
theorem splitD_app : ∀ (k : Nat) (u v : List Nat), splitD b ps n k (u ++ v) = splitD b ps n k u ++ splitD b ps n k v
  | 0, _, _ => rfl
  | k + 1, u, v => by
    rw [splitD, splitD, splitD]
    split
    · rw [apart_app, splitD_app k]
    · rfl
theorem splitD_nil (k : Nat) : splitD b ps n k [] = [] := by
  induction k with
  | zero => rfl
  | succ k ih =>
    rw [splitD, apart_nil, ih]
    split <;> rfl
theorem apart_one {m l r x : Nat} (h : x ≠ m) : apart m l r [x] = [x] := by
  show (if x = m then [l, r] else [x]) ++ [] = [x]
  rw [if_neg h]; rfl
theorem splitD_low {j y : Nat} (hy : y < b + j) : ∀ {k : Nat}, j ≤ k → splitD b ps n k [y] = splitD b ps n j [y]
  | 0, h => by rw [Nat.le_zero.mp h]
  | k + 1, h => by
    by_cases c : j = k + 1
    · rw [c]
    · rw [splitD]
      split
      · rw [apart_one (by omega)]; exact splitD_low hy (by omega)
      · rw [splitD_le (by omega)]
theorem splitD_small {x : Nat} (hx : x < b + n) (k : Nat) : splitD b ps n k [x] = [x] := by
  by_cases h : n ≤ k
  · rw [splitD_low hx h, splitD_le (Nat.le_refl _)]
  · exact splitD_le (by omega) _
theorem splitD_big {j : Nat} {p : Nat × Nat} (hp : ps[j]? = some p) (hn : n ≤ j) (hw : p.1 < b + j ∧ p.2 < b + j) : ∀ {k : Nat}, j < k → splitD b ps n k [b + j] = splitD b ps n k [p.1, p.2]
  | 0, h => absurd h (Nat.not_lt_zero _)
  | k + 1, h => by
    have e1 : splitD b ps n (k + 1) [p.1, p.2] = splitD b ps n j [p.1] ++ splitD b ps n j [p.2] := by
      rw [show [p.1, p.2] = [p.1] ++ [p.2] from rfl, splitD_app, splitD_low hw.1 (by omega), splitD_low hw.2 (by omega)]
    by_cases c : j = k
    · subst c
      rw [e1, splitD, if_pos hn]
      have e : ps.getD j (0, 0) = p := by rw [List.getD_eq_getElem?_getD, hp]; rfl
      rw [e]
      show splitD b ps n j ((if b + j = b + j then [p.1, p.2] else [b + j]) ++ []) = _
      rw [if_pos rfl, ← splitD_app]; rfl
    · rw [e1, splitD, if_pos (by omega), apart_one (by omega), splitD_big hp hn hw (show j < k by omega)]
      rw [show [p.1, p.2] = [p.1] ++ [p.2] from rfl, splitD_app, splitD_low hw.1 (by omega), splitD_low hw.2 (by omega)]
theorem splitD_cut {row : List Nat} (hrow : ∀ x ∈ row, x < b) (hn : n ≤ ps.length) : ∀ k, k ≤ ps.length → n ≤ k → splitD b ps n k (cutL b (ps.take k) row) = cutL b (ps.take n) row
  | 0, _, h => by rw [Nat.le_zero.mp h]; rfl
  | k + 1, hk, h => by
    by_cases c : n = k + 1
    · rw [c, splitD_le (Nat.le_refl _)]
    · obtain ⟨p, hp⟩ : ∃ p, ps[k]? = some p := ⟨_, List.getElem?_eq_getElem (by omega)⟩
      have e : ps.getD k (0, 0) = p := by rw [List.getD_eq_getElem?_getD, hp]; rfl
      rw [splitD, if_pos (by omega), e, take_succ_of hp, cutL_snoc, take_len_of hp, apart_pass fun hm => ?_]
      · exact splitD_cut hrow hn k (by omega) (by omega)
      · rcases run_mem _ 0 _ hm with z | z
        · have := hrow _ z; omega
        · rw [take_len_of hp] at z; omega
theorem apart_text {ts : List (List Nat)} {m l r : Nat} (h : ts.getD m [] = ts.getD l [] ++ ts.getD r []) : ∀ row : List Nat, textR ts (apart m l r row) = textR ts row
  | [] => rfl
  | x :: t => by
    have app : ∀ u v : List Nat, textR ts (u ++ v) = textR ts u ++ textR ts v := fun u v => by unfold textR; rw [List.map_append, List.flatten_append]
    rw [apart_cons, app, apart_text h t, textR_cons ts x]
    split
    · rename_i e
      subst e
      rw [h]
      show (ts.getD l [] ++ (ts.getD r [] ++ [])) ++ _ = _
      rw [List.append_nil]
    · show (ts.getD x [] ++ []) ++ _ = _
      rw [List.append_nil]
theorem splitD_text {al : List Nat} (hw : WF al.length ps) : ∀ (k : Nat) (row : List Nat), k ≤ ps.length → textR (textsOf al ps) (splitD al.length ps n k row) = textR (textsOf al ps) row
  | 0, _, _ => rfl
  | k + 1, row, hk => by
    rw [splitD]
    split
    · obtain ⟨p, hp⟩ : ∃ p, ps[k]? = some p := ⟨_, List.getElem?_eq_getElem (by omega)⟩
      have e : ps.getD k (0, 0) = p := by rw [List.getD_eq_getElem?_getD, hp]; rfl
      rw [splitD_text hw k _ (by omega), e]
      exact apart_text (texts_at hw k p hp) row
    · rfl
theorem splitD_mem (hw : WF b ps) : ∀ (k : Nat) (row : List Nat), k ≤ ps.length → (∀ x ∈ row, x < b + ps.length) → ∀ x ∈ splitD b ps n k row, x < b + ps.length
  | 0, _, _, h => h
  | k + 1, row, hk, h => by
    rw [splitD]
    split
    · obtain ⟨p, hp⟩ : ∃ p, ps[k]? = some p := ⟨_, List.getElem?_eq_getElem (by omega)⟩
      have e : ps.getD k (0, 0) = p := by rw [List.getD_eq_getElem?_getD, hp]; rfl
      refine splitD_mem hw k _ (by omega) fun x hx => ?_
      rw [e] at hx
      obtain ⟨y, hy, hxy⟩ := List.mem_flatMap.mp hx
      have hwk := hw k p hp
      split at hxy
      · rcases List.mem_cons.mp hxy with z | z
        · omega
        · rw [List.mem_singleton.mp z]; omega
      · rw [List.mem_singleton.mp hxy]; exact h y hy
    · exact h
end RJ
end

section
set_option maxRecDepth 100000
namespace RJ
/-! ### spines, crossings and cuts -/
section
variable {b n : Nat} {ps : List (Nat × Nat)}
/-- a row taken back to stage n -/
def Dn (b : Nat) (ps : List (Nat × Nat)) (n : Nat) (row : List Nat) : List Nat := splitD b ps n ps.length row
theorem Dn_app (u v : List Nat) : Dn b ps n (u ++ v) = Dn b ps n u ++ Dn b ps n v := splitD_app _ _ _
theorem Dn_cons (x : Nat) (v : List Nat) : Dn b ps n (x :: v) = Dn b ps n [x] ++ Dn b ps n v := splitD_app _ [x] v
theorem Dn_nil : Dn b ps n [] = [] := splitD_nil _
theorem Dn_small {x : Nat} (hx : x < b + n) : Dn b ps n [x] = [x] := splitD_small hx _
theorem Dn_full (row : List Nat) : Dn b ps ps.length row = row := splitD_le (Nat.le_refl _) row
theorem Dn_big (hw : WF b ps) {j : Nat} {p : Nat × Nat} (hp : ps[j]? = some p) (hn : n ≤ j) : Dn b ps n [b + j] = Dn b ps n [p.1] ++ Dn b ps n [p.2] := by
  have hj := (List.getElem?_eq_some_iff.mp hp).1
  show splitD b ps n ps.length [b + j] = _
  rw [splitD_big hp hn (hw j p hp) hj, show [p.1, p.2] = [p.1] ++ [p.2] from rfl, splitD_app]; rfl
theorem Dn_cut {row : List Nat} (hrow : ∀ x ∈ row, x < b) (hn : n ≤ ps.length) : Dn b ps n (cutL b ps row) = cutL b (ps.take n) row := by
  have := splitD_cut (n := n) hrow hn ps.length (Nat.le_refl _) hn
  rw [List.take_length] at this
  exact this
theorem part_of {x : Nat} (h : x < b + ps.length) : x < b ∨ ∃ j p, x = b + j ∧ ps[j]? = some p := by
  by_cases c : x < b
  · exact .inl c
  · exact .inr ⟨x - b, _, by omega, List.getElem?_eq_getElem (by omega)⟩
theorem Dn_ne (hw : WF b ps) : ∀ (x : Nat), x < b + ps.length → ∃ y t, Dn b ps n [x] = y :: t := by
  intro x
  induction x using Nat.strongRecOn with
  | ind x ih =>
    intro hx
    by_cases c : x < b + n
    · exact ⟨x, [], Dn_small c⟩
    · rcases part_of hx with h | ⟨j, p, rfl, hp⟩
      · omega
      · have hj := hw j p hp
        obtain ⟨y, t, e⟩ := ih p.1 hj.1 (by omega)
        exact ⟨y, t ++ Dn b ps n [p.2], by rw [Dn_big hw hp (by omega), e]; rfl⟩
/-- lists in which each piece is the cut of its letters -/
structure Good (b : Nat) (ps : List (Nat × Nat)) : Prop where
  wf : WF b ps
  one : ∀ x, x < b + ps.length → cutL b ps (Dn b ps 0 [x]) = [x]
  low : ∀ x, x < b + ps.length → ∀ y ∈ Dn b ps 0 [x], y < b
theorem Good.st (G : Good b ps) {x : Nat} (hx : x < b + ps.length) (hn : n ≤ ps.length) : cutL b (ps.take n) (Dn b ps 0 [x]) = Dn b ps n [x] := by
  have := Dn_cut (G.low x hx) hn
  rw [G.one x hx] at this
  exact this.symm
theorem Good.lows (G : Good b ps) : ∀ {row : List Nat}, (∀ x ∈ row, x < b + ps.length) → ∀ y ∈ Dn b ps 0 row, y < b
  | [], _, y, h => by rw [Dn_nil] at h; cases h
  | x :: t, hx, y, h => by
    rw [Dn_cons] at h
    rcases List.mem_append.mp h with z | z
    · exact G.low x (hx x (List.mem_cons_self ..)) y z
    · exact G.lows (fun u hu => hx u (List.mem_cons_of_mem _ hu)) y z
theorem Good.next (G : Good b ps) {x : Nat} (hx : x < b + ps.length) {p : Nat × Nat} (hp : ps[n]? = some p) : pass p.1 p.2 (b + n) (Dn b ps n [x]) = Dn b ps (n + 1) [x] := by
  have hn := (List.getElem?_eq_some_iff.mp hp).1
  rw [← G.st hx (by omega), ← G.st hx (show n + 1 ≤ ps.length by omega), take_succ_of hp, cutL_snoc, take_len_of hp]
/-! passes over two rows -/
theorem last_cons {a : Nat} {l : List Nat} {x : Nat} (h : l.getLast? = some x) : (a :: l).getLast? = some x := by
  rw [List.getLast?_cons, h]; rfl
theorem pass_app {l r m : Nat} (v : List Nat) : ∀ (u : List Nat), ¬ ((pass l r m u).getLast? = some l ∧ v.head? = some r) → pass l r m (u ++ v) = pass l r m u ++ pass l r m v
  | [], _ => rfl
  | [a], h => by
    cases v with
    | nil => rfl
    | cons c t =>
      show pass l r m (a :: c :: t) = a :: pass l r m (c :: t)
      rw [pass, if_neg]
      rintro ⟨rfl, rfl⟩
      exact h ⟨rfl, rfl⟩
  | a :: c :: t, h => by
    show pass l r m (a :: c :: (t ++ v)) = pass l r m (a :: c :: t) ++ pass l r m v
    rw [pass] at h
    rw [pass, pass]
    by_cases q : a = l ∧ c = r
    · rw [if_pos q] at h
      rw [if_pos q, if_pos q, pass_app v t fun z => h ⟨last_cons z.1, z.2⟩]; rfl
    · rw [if_neg q] at h
      rw [if_neg q, if_neg q, show c :: (t ++ v) = (c :: t) ++ v from rfl, pass_app v (c :: t) fun z => h ⟨last_cons z.1, z.2⟩]; rfl
theorem last_cons_ne {m l : Nat} {x : List Nat} (hm : m ≠ l) (h : (m :: x).getLast? = some l) : x.getLast? = some l ∧ x ≠ [] := by
  cases x with
  | nil => exact absurd (Option.some.inj h) hm
  | cons y x =>
    rw [List.getLast?_cons_cons] at h
    exact ⟨h, List.cons_ne_nil _ _⟩
theorem pass_cross {l r m : Nat} (hm : m ≠ l) (t : List Nat) : ∀ (u : List Nat), (pass l r m u).getLast? = some l → pass l r m (u ++ r :: t) = (pass l r m u).dropLast ++ m :: pass l r m t
  | [], h => by cases h
  | [a], h => by
    have e : a = l := Option.some.inj h
    subst e
    show pass a r m (a :: r :: t) = m :: pass a r m t
    rw [pass, if_pos ⟨rfl, rfl⟩]
  | a :: c :: u, h => by
    show pass l r m (a :: c :: (u ++ r :: t)) = _
    rw [pass] at h
    rw [pass, pass]
    by_cases q : a = l ∧ c = r
    · rw [if_pos q] at h
      rw [if_pos q, if_pos q]
      obtain ⟨h1, h2⟩ := last_cons_ne hm h
      rw [pass_cross hm t u h1, List.dropLast_cons_of_ne_nil h2]; rfl
    · rw [if_neg q] at h
      rw [if_neg q, if_neg q]
      obtain ⟨y, s, e, _⟩ := pass_head (l := l) (r := r) (m := m) (a := c) (t := u)
      have h2 : pass l r m (c :: u) ≠ [] := by rw [e]; exact List.cons_ne_nil _ _
      have h1 : (pass l r m (c :: u)).getLast? = some l := by
        rw [e] at h ⊢
        rwa [List.getLast?_cons_cons] at h
      rw [show c :: (u ++ r :: t) = (c :: u) ++ r :: t from rfl, pass_cross hm t (c :: u) h1, List.dropLast_cons_of_ne_nil h2]; rfl
/-! spines -/
inductive Spn (b : Nat) (ps : List (Nat × Nat)) (sd : Nat × Nat → Nat) (x : Nat) : Nat → Option Nat → Prop
  | self : Spn b ps sd x x none
  | step {j : Nat} {p : Nat × Nat} {bd : Option Nat} : Spn b ps sd x (b + j) bd → ps[j]? = some p → Spn b ps sd x (sd p) (some j)
/-- n is not beyond the bound -/
def upTo (n : Nat) (bd : Option Nat) : Prop := ∀ k, bd = some k → n ≤ k
def Side (sd : Nat × Nat → Nat) : Prop := ∀ p, sd p = p.1 ∨ sd p = p.2
theorem side1 : Side Prod.fst := fun _ => .inl rfl
theorem side2 : Side Prod.snd := fun _ => .inr rfl
theorem Spn.lt {sd : Nat × Nat → Nat} (hs : Side sd) (hw : WF b ps) {x y k : Nat} (h : Spn b ps sd x y (some k)) : y < b + k ∧ k < ps.length := by
  cases h with
  | step h hp =>
    have := hw _ _ hp
    refine ⟨?_, (List.getElem?_eq_some_iff.mp hp).1⟩
    rcases hs ‹_› with e | e <;> rw [e] <;> omega
theorem Spn.mem {sd : Nat × Nat → Nat} (hs : Side sd) (hw : WF b ps) {x y : Nat} {bd : Option Nat} (hx : x < b + ps.length) (h : Spn b ps sd x y bd) : y < b + ps.length := by
  cases bd with
  | none => cases h; exact hx
  | some k => have := h.lt hs hw; omega
theorem Spn.ahead {sd : Nat × Nat → Nat} {j y : Nat} {p : Nat × Nat} {bd : Option Nat} (hp : ps[j]? = some p) (h : Spn b ps sd (sd p) y bd) : Spn b ps sd (b + j) y (some (bd.getD j)) := by
  induction h with
  | self => exact .step .self hp
  | step h hq ih => exact .step ih hq
theorem Spn.last (hw : WF b ps) {x y : Nat} {bd : Option Nat} (h : Spn b ps Prod.snd x y bd) : upTo n bd → ∃ pre, Dn b ps n [x] = pre ++ Dn b ps n [y] := by
  induction h with
  | self => exact fun _ => ⟨[], rfl⟩
  | step h hp ih =>
    rename_i j p bd
    intro hu
    have hj := hu j rfl
    obtain ⟨pre, e⟩ := ih fun k ek => by
      subst ek
      have := (h.lt side2 hw).1
      omega
    exact ⟨pre ++ Dn b ps n [p.1], by rw [e, Dn_big hw hp hj, List.append_assoc]⟩
theorem Spn.first (hw : WF b ps) {x y : Nat} {bd : Option Nat} (h : Spn b ps Prod.fst x y bd) : upTo n bd → ∃ post, Dn b ps n [x] = Dn b ps n [y] ++ post := by
  induction h with
  | self => exact fun _ => ⟨[], (List.append_nil _).symm⟩
  | step h hp ih =>
    rename_i j p bd
    intro hu
    have hj := hu j rfl
    obtain ⟨post, e⟩ := ih fun k ek => by
      subst ek
      have := (h.lt side1 hw).1
      omega
    exact ⟨Dn b ps n [p.2] ++ post, by rw [e, Dn_big hw hp hj, List.append_assoc]⟩
theorem getLast_app {u v : List Nat} {x : Nat} (h : v.getLast? = some x) : (u ++ v).getLast? = some x := by
  rw [List.getLast?_append, h]; rfl
theorem head_app {u v : List Nat} {x : Nat} (h : u.head? = some x) : (u ++ v).head? = some x := by
  cases u with
  | nil => cases h
  | cons a u => exact h
theorem last_ex (hw : WF b ps) : ∀ (x : Nat), x < b + ps.length → ∃ y bd, Spn b ps Prod.snd x y bd ∧ upTo n bd ∧ (Dn b ps n [x]).getLast? = some y := by
  intro x
  induction x using Nat.strongRecOn with
  | ind x ih =>
    intro hx
    by_cases c : x < b + n
    · exact ⟨x, none, .self, (fun k e => by cases e), by rw [Dn_small c]; rfl⟩
    · rcases part_of hx with h | ⟨j, p, rfl, hp⟩
      · omega
      · have hj := hw j p hp
        obtain ⟨y, bd, h1, h2, h3⟩ := ih p.2 hj.2 (by omega)
        refine ⟨y, _, h1.ahead hp, fun k e => ?_, ?_⟩
        · have e' : bd.getD j = k := Option.some.inj e
          cases bd with
          | none => have : j = k := e'; omega
          | some i => have : i = k := e'; have := h2 i rfl; omega
        · rw [Dn_big hw hp (by omega)]
          exact getLast_app h3
theorem first_ex (hw : WF b ps) : ∀ (x : Nat), x < b + ps.length → ∃ y bd, Spn b ps Prod.fst x y bd ∧ upTo n bd ∧ (Dn b ps n [x]).head? = some y := by
  intro x
  induction x using Nat.strongRecOn with
  | ind x ih =>
    intro hx
    by_cases c : x < b + n
    · exact ⟨x, none, .self, (fun k e => by cases e), by rw [Dn_small c]; rfl⟩
    · rcases part_of hx with h | ⟨j, p, rfl, hp⟩
      · omega
      · have hj := hw j p hp
        obtain ⟨y, bd, h1, h2, h3⟩ := ih p.1 hj.1 (by omega)
        refine ⟨y, _, h1.ahead hp, fun k e => ?_, ?_⟩
        · have e' : bd.getD j = k := Option.some.inj e
          cases bd with
          | none => have : j = k := e'; omega
          | some i => have : i = k := e'; have := h2 i rfl; omega
        · rw [Dn_big hw hp (by omega)]
          exact head_app h3
/-- the join of rank r puts letters of x and y together, where x stands ahead of y -/
def Cross (b : Nat) (ps : List (Nat × Nat)) (x y r : Nat) : Prop := ∃ (p : Nat × Nat) (bx by' : Option Nat), ps[r]? = some p ∧ Spn b ps Prod.snd x p.1 bx ∧ Spn b ps Prod.fst y p.2 by' ∧ upTo (r + 1) bx ∧ upTo r by'
theorem Cross.lt {x y r : Nat} (h : Cross b ps x y r) : r < ps.length := by
  obtain ⟨p, _, _, hp, _⟩ := h
  exact (List.getElem?_eq_some_iff.mp hp).1
theorem cross_iff (hw : WF b ps) {x y r : Nat} (hx : x < b + ps.length) (hy : y < b + ps.length) : Cross b ps x y r ↔ ∃ p, ps[r]? = some p ∧ (Dn b ps (r + 1) [x]).getLast? = some p.1 ∧ (Dn b ps r [y]).head? = some p.2 := by
  constructor
  · rintro ⟨p, bx, by', hp, h1, h2, u1, u2⟩
    have hpw := hw r p hp
    obtain ⟨pre, e1⟩ := h1.last hw u1
    obtain ⟨post, e2⟩ := h2.first hw u2
    refine ⟨p, hp, ?_, ?_⟩
    · rw [e1, Dn_small (by omega)]; exact getLast_app rfl
    · rw [e2, Dn_small (by omega)]; rfl
  · rintro ⟨p, hp, h1, h2⟩
    obtain ⟨u, bx, a1, a2, a3⟩ := last_ex (n := r + 1) hw x hx
    obtain ⟨v, by', b1, b2, b3⟩ := first_ex (n := r) hw y hy
    rw [h1] at a3
    rw [h2] at b3
    cases a3
    cases b3
    exact ⟨p, bx, by', hp, a1, b1, a2, b2⟩
/-- all adjacent pieces stay apart at rank n -/
def Still (b : Nat) (ps : List (Nat × Nat)) (n : Nat) (row : List Nat) : Prop := ∀ q ∈ adjs row, ¬ Cross b ps q.1 q.2 n
theorem Still.tail {x : Nat} {t : List Nat} (h : Still b ps n (x :: t)) : Still b ps n t := fun q hq => h q (mem_adjs_cons hq)
theorem Still.left {u v : List Nat} (h : Still b ps n (u ++ v)) : Still b ps n u := fun q hq => h q (adjs_sub_left hq)
theorem pass_row (G : Good b ps) {p : Nat × Nat} (hp : ps[n]? = some p) : ∀ {row : List Nat}, (∀ x ∈ row, x < b + ps.length) → Still b ps n row → pass p.1 p.2 (b + n) (Dn b ps n row) = Dn b ps (n + 1) row
  | [], _, _ => by rw [Dn_nil, Dn_nil]; rfl
  | [x], hx, _ => G.next (hx x (List.mem_cons_self ..)) hp
  | x :: y :: t, hx, hs => by
    have hx0 := hx x (List.mem_cons_self ..)
    have hy0 := hx y (List.mem_cons_of_mem _ (List.mem_cons_self ..))
    rw [Dn_cons, Dn_cons x (y :: t), pass_app, G.next hx0 hp, pass_row G hp (fun u hu => hx u (List.mem_cons_of_mem _ hu)) hs.tail]
    rw [G.next hx0 hp]
    rintro ⟨h1, h2⟩
    refine hs (x, y) (by rw [adjs_cons2]; exact List.mem_cons_self ..) ((cross_iff G.wf hx0 hy0).mpr ⟨p, hp, h1, ?_⟩)
    obtain ⟨z, s, e⟩ := Dn_ne (n := n) G.wf y hy0
    rw [Dn_cons, e] at h2
    rw [e]; exact h2
/-- as long as nothing crosses, each piece is staged by itself -/
theorem stage_row (G : Good b ps) {row : List Nat} (hx : ∀ x ∈ row, x < b + ps.length) : ∀ n, n ≤ ps.length → (∀ r, r < n → Still b ps r row) → cutL b (ps.take n) (Dn b ps 0 row) = Dn b ps n row
  | 0, _, _ => rfl
  | n + 1, hn, hs => by
    obtain ⟨p, hp⟩ : ∃ p, ps[n]? = some p := ⟨_, List.getElem?_eq_getElem (by omega)⟩
    rw [take_succ_of hp, cutL_snoc, take_len_of hp, stage_row G hx n (by omega) fun r hr => hs r (by omega), pass_row G hp hx (hs n (by omega))]
/-- the first pair of adjacent ones that is not still -/
theorem first_cross {row : List Nat} (h : ¬ Still b ps n row) : ∃ u x y v, row = u ++ x :: y :: v ∧ Cross b ps x y n ∧ Still b ps n (u ++ [x]) := by
  induction row with
  | nil => exact absurd (fun q hq => by cases hq) h
  | cons a t ih =>
    cases t with
    | nil => exact absurd (fun q hq => by cases hq) h
    | cons c t =>
      by_cases k : Cross b ps a c n
      · exact ⟨[], a, c, t, rfl, k, fun q hq => by cases hq⟩
      · have h2 : ¬ Still b ps n (c :: t) := fun hs => h fun q hq => by
          rw [adjs_cons2] at hq
          rcases List.mem_cons.mp hq with z | z
          · rw [z]; exact k
          · exact hs q z
        obtain ⟨u, x, y, v, e, h3, h4⟩ := ih h2
        refine ⟨a :: u, x, y, v, by rw [e]; rfl, h3, ?_⟩
        cases u with
        | nil =>
          injection e with e1 e2
          subst e1
          intro q hq
          have hq' : q ∈ [(a, c)] := hq
          rw [List.mem_singleton.mp hq']; exact k
        | cons d u =>
          injection e with e1 e2
          subst e1
          intro q hq
          have hq' : q ∈ (a, c) :: adjs (c :: u ++ [x]) := hq
          rcases List.mem_cons.mp hq' with z | z
          · rw [z]; exact k
          · exact h4 q z
/-- what the pass at a crossing makes -/
theorem pass_at_cross (G : Good b ps) {p : Nat × Nat} (hp : ps[n]? = some p) {u v : List Nat} {x y : Nat} (hx : ∀ z ∈ u ++ x :: y :: v, z < b + ps.length) (hc : Cross b ps x y n) (hs : Still b ps n (u ++ [x])) :
    ∃ t, (Dn b ps n (y :: v)) = p.2 :: t ∧ (Dn b ps (n + 1) (u ++ [x])).getLast? = some p.1 ∧ pass p.1 p.2 (b + n) (Dn b ps n (u ++ x :: y :: v)) = (Dn b ps (n + 1) (u ++ [x])).dropLast ++ (b + n) :: pass p.1 p.2 (b + n) t := by
  have hx0 : x < b + ps.length := hx x (by simp)
  have hy0 : y < b + ps.length := hx y (by simp)
  obtain ⟨p', hp', h1, h2⟩ := (cross_iff G.wf hx0 hy0).mp hc
  rw [hp] at hp'
  cases hp'
  obtain ⟨z, s, e⟩ := Dn_ne (n := n) G.wf y hy0
  rw [e] at h2
  have ez : z = p.2 := Option.some.inj h2
  subst ez
  have hl : (Dn b ps (n + 1) (u ++ [x])).getLast? = some p.1 := by rw [Dn_app]; exact getLast_app h1
  have hd : Dn b ps n (y :: v) = p.2 :: (s ++ Dn b ps n v) := by rw [Dn_cons, e]; rfl
  refine ⟨_, hd, hl, ?_⟩
  have hpass := pass_row G hp (row := u ++ [x]) (fun z hz => hx z (by
    rcases List.mem_append.mp hz with w | w
    · exact List.mem_append_left _ w
    · rw [List.mem_singleton.mp w]; simp)) hs
  have hm : b + n ≠ p.1 := by have := (G.wf n p hp).1; omega
  rw [show u ++ x :: y :: v = (u ++ [x]) ++ y :: v by simp, Dn_app, hd, pass_cross hm _ _ (by rw [hpass]; exact hl), hpass]
/-- a row of pieces is the cut of its letters if and only if no two neighbors cross -/
theorem cut_row_iff (G : Good b ps) {row : List Nat} (hx : ∀ x ∈ row, x < b + ps.length) : cutL b ps (Dn b ps 0 row) = row ↔ ∀ q ∈ adjs row, ∀ r, ¬ Cross b ps q.1 q.2 r := by
  constructor
  · intro h q hq r hc
    have hr := hc.lt
    obtain ⟨p, hp⟩ : ∃ p, ps[r]? = some p := ⟨_, List.getElem?_eq_getElem hr⟩
    have hns : ¬ Still b ps r row := fun hs => hs q hq hc
    obtain ⟨u, x, y, v, rfl, hc', hs'⟩ := first_cross hns
    obtain ⟨t, h1, h2, h3⟩ := pass_at_cross G hp hx hc' hs'
    have lows := G.lows hx
    have e1 := Dn_cut (n := r) (ps := ps) lows (by omega)
    have e2 := Dn_cut (n := r + 1) (ps := ps) lows (by omega)
    rw [h] at e1 e2
    rw [take_succ_of hp, cutL_snoc, take_len_of hp, ← e1, h3, show u ++ x :: y :: v = (u ++ [x]) ++ y :: v by simp, Dn_app] at e2
    obtain ⟨ys, ey⟩ := List.getLast?_eq_some_iff.mp h2
    rw [ey, List.dropLast_concat, List.append_assoc] at e2
    have e3 := List.append_cancel_left e2
    injection e3 with e4 e5
    have := (G.wf r p hp).1
    omega
  · intro h
    have := stage_row G hx ps.length (Nat.le_refl _) fun r _ q hq => h q hq r
    rwa [List.take_length, Dn_full] at this
/-- and at the first crossing there is no seam left -/
theorem cross_first (G : Good b ps) {x y c : Nat} (hx : x < b + ps.length) (hy : y < b + ps.length) (hc : Cross b ps x y c) (hno : ∀ r, r < c → ¬ Cross b ps x y r) :
    ∃ A B p, ps[c]? = some p ∧ Dn b ps (c + 1) [x] = A ++ [p.1] ∧ cutL b (ps.take (c + 1)) (Dn b ps 0 [x, y]) = A ++ (b + c) :: B := by
  have hcl := hc.lt
  obtain ⟨p, hp⟩ : ∃ p, ps[c]? = some p := ⟨_, List.getElem?_eq_getElem hcl⟩
  have hxy : ∀ z ∈ [x, y], z < b + ps.length := fun z hz => by
    rcases List.mem_cons.mp hz with w | w
    · rw [w]; exact hx
    · rw [List.mem_singleton.mp w]; exact hy
  obtain ⟨t, h1, h2, h3⟩ := pass_at_cross (u := []) (v := []) G hp hxy hc (fun q hq => by cases hq)
  obtain ⟨ys, ey⟩ := List.getLast?_eq_some_iff.mp h2
  refine ⟨ys, pass p.1 p.2 (b + c) t, p, hp, ey, ?_⟩
  rw [take_succ_of hp, cutL_snoc, take_len_of hp, stage_row G hxy c (by omega) fun r hr q hq => by
    have hq' : q ∈ [(x, y)] := hq
    rw [List.mem_singleton.mp hq']; exact hno r hr]
  rw [show [x, y] = [] ++ x :: y :: [] from rfl, h3, ey, List.dropLast_concat]
end
/-- proper lists are good ones -/
theorem Dn_text {al : List Nat} (hal : al.Nodup) {ps : List (Nat × Nat)} (h : Proper al ps) {x : Nat} (hx : x < al.length + ps.length) : Dn al.length ps 0 [x] = lets al ((textsOf al ps).getD x []) := by
  have ht : (textsOf al ps)[x]? = some ((textsOf al ps).getD x []) := by
    rw [List.getD_eq_getElem?_getD, List.getElem?_eq_getElem (by rw [textsOf_len]; exact hx)]; rfl
  have hm : ∀ c ∈ (textsOf al ps).getD x [], c ∈ al := textsOf_al _ (List.mem_of_getElem? ht)
  have := Dn_cut (n := 0) (ps := ps) (lets_lt hm) (Nat.zero_le _)
  rw [cut_piece hal h x _ ht] at this
  exact this
theorem lets_app (al u v : List Nat) : lets al (u ++ v) = lets al u ++ lets al v := List.map_append
theorem Dn_texts {al : List Nat} (hal : al.Nodup) {ps : List (Nat × Nat)} (h : Proper al ps) : ∀ {row : List Nat}, (∀ x ∈ row, x < al.length + ps.length) → Dn al.length ps 0 row = lets al (textR (textsOf al ps) row)
  | [], _ => Dn_nil
  | x :: t, hx => by
    rw [Dn_cons, Dn_text hal h (hx x (List.mem_cons_self ..)), Dn_texts hal h fun u hu => hx u (List.mem_cons_of_mem _ hu), textR_cons, lets_app]
theorem Proper.good {al : List Nat} (hal : al.Nodup) {ps : List (Nat × Nat)} (h : Proper al ps) : Good al.length ps where
  wf := h.wf
  one := fun x hx => by
    rw [Dn_text hal h hx]
    exact cut_piece hal h x _ (by rw [List.getD_eq_getElem?_getD, List.getElem?_eq_getElem (by rw [textsOf_len]; exact hx)]; rfl)
  low := fun x hx => by
    rw [Dn_text hal h hx]
    exact lets_lt (textsOf_al _ (List.mem_of_getElem? (i := x) (by rw [List.getD_eq_getElem?_getD, List.getElem?_eq_getElem (by rw [textsOf_len]; exact hx)]; rfl)))
section
variable {b : Nat} {ps : List (Nat × Nat)} {sd : Nat × Nat → Nat}
theorem Spn.zero {x y : Nat} {bd : Option Nat} (h : Spn b ps sd x y bd) (e : bd = none) : y = x := by
  cases h with
  | self => rfl
  | step h hp => cases e
theorem Spn.up {x y k : Nat} (h : Spn b ps sd x y (some k)) : b ≤ x := by
  have key : ∀ y bd, Spn b ps sd x y bd → bd = none ∨ b ≤ x := by
    intro y bd h
    induction h with
    | self => exact .inl rfl
    | step h hp ih =>
      rcases ih with e | e
      · have := h.zero e
        exact .inr (by omega)
      · exact .inr e
  rcases key _ _ h with e | e
  · cases e
  · exact e
theorem Spn.down {j y : Nat} {p : Nat × Nat} {bd : Option Nat} (hp : ps[j]? = some p) (h : Spn b ps sd (b + j) y bd) : bd = none ∨ (y = sd p ∧ bd = some j) ∨ ∃ k, bd = some k ∧ Spn b ps sd (sd p) y (some k) := by
  generalize e : b + j = x at h
  induction h with
  | self => exact .inl rfl
  | step h hq ih =>
    rename_i j' q bd0
    refine .inr ?_
    rcases ih with e1 | ⟨e1, e2⟩ | ⟨k, e1, e2⟩
    · have e0 := h.zero e1
      have ej : j = j' := by omega
      subst ej
      rw [hp] at hq
      cases hq
      exact .inl ⟨rfl, rfl⟩
    · refine .inr ⟨j', rfl, ?_⟩
      exact .step (by rw [e1]; exact .self) hq
    · exact .inr ⟨j', rfl, .step e2 hq⟩
/-- all of a spine -/
structure IsSpine (b : Nat) (ps : List (Nat × Nat)) (sd : Nat × Nat → Nat) (x : Nat) (es : List (Nat × Option Nat)) : Prop where
  ok : ∀ e ∈ es, Spn b ps sd x e.1 e.2
  all : ∀ y bd, Spn b ps sd x y bd → (y, bd) ∈ es
/-- the spine up to a last one -/
structure IsSpineTo (b : Nat) (ps : List (Nat × Nat)) (sd : Nat × Nat → Nat) (x : Nat) (es : List (Nat × Option Nat)) (last : Nat) : Prop where
  ok : ∀ e ∈ es, Spn b ps sd x e.1 e.2
  all : ∀ y bd, Spn b ps sd x y bd → (y, bd) ∈ es ∨ ∃ k, bd = some k ∧ Spn b ps sd last y (some k)
  at_ : ∃ bd, (last, bd) ∈ es
theorem IsSpineTo.start (x : Nat) : IsSpineTo b ps sd x [(x, none)] x where
  ok := fun e he => by rw [List.mem_singleton.mp he]; exact .self
  all := fun y bd h => by
    cases bd with
    | none => cases h; exact .inl (List.mem_cons_self ..)
    | some k => exact .inr ⟨k, rfl, h⟩
  at_ := ⟨none, List.mem_cons_self ..⟩
theorem IsSpineTo.next {x j : Nat} {p : Nat × Nat} {es : List (Nat × Option Nat)} (h : IsSpineTo b ps sd x es (b + j)) (hp : ps[j]? = some p) : IsSpineTo b ps sd x (es ++ [(sd p, some j)]) (sd p) where
  ok := fun e he => by
    rcases List.mem_append.mp he with z | z
    · exact h.ok e z
    · rw [List.mem_singleton.mp z]
      obtain ⟨bd, hb⟩ := h.at_
      exact .step (h.ok _ hb) hp
  all := fun y bd hy => by
    rcases h.all y bd hy with z | ⟨k, e, z⟩
    · exact .inl (List.mem_append_left _ z)
    · subst e
      rcases z.down hp with e1 | ⟨e1, e2⟩ | ⟨k', e1, e2⟩
      · cases e1
      · cases e2
        subst e1
        exact .inl (List.mem_append_right _ (List.mem_singleton.mpr rfl))
      · cases e1
        exact .inr ⟨k, rfl, e2⟩
  at_ := ⟨some j, List.mem_append_right _ (List.mem_singleton.mpr rfl)⟩
theorem IsSpineTo.done {x last : Nat} {es : List (Nat × Option Nat)} (h : IsSpineTo b ps sd x es last) (hl : last < b) : IsSpine b ps sd x es where
  ok := h.ok
  all := fun y bd hy => by
    rcases h.all y bd hy with z | ⟨k, e, z⟩
    · exact z
    · have := z.up; omega
/-- the first crossing, if any -/
def CrossIs (b : Nat) (ps : List (Nat × Nat)) (x y : Nat) : Option Nat → Prop
  | none => ∀ r, ¬ Cross b ps x y r
  | some c => Cross b ps x y c ∧ ∀ r, r < c → ¬ Cross b ps x y r
theorem CrossIs.uniq {x y : Nat} : ∀ {c d : Option Nat}, CrossIs b ps x y c → CrossIs b ps x y d → c = d
  | none, none, _, _ => rfl
  | none, some d, h, k => absurd k.1 (h d)
  | some c, none, h, k => absurd h.1 (k c)
  | some c, some d, h, k => by
    rcases Nat.lt_trichotomy c d with z | z | z
    · exact absurd h.1 (k.2 c z)
    · rw [z]
    · exact absurd k.1 (h.2 d z)
theorem least_ex {P : Nat → Prop} (h : ∃ n, P n) : ∃ n, P n ∧ ∀ m, m < n → ¬ P m := by
  obtain ⟨n, hn⟩ := h
  induction n using Nat.strongRecOn with
  | ind n ih =>
    by_cases c : ∃ m, m < n ∧ P m
    · obtain ⟨m, hm, hp⟩ := c
      exact ih m hm hp
    · exact ⟨n, hn, fun m hm hp => c ⟨m, hm, hp⟩⟩
theorem CrossIs.ex (b : Nat) (ps : List (Nat × Nat)) (x y : Nat) : ∃ c, CrossIs b ps x y c := by
  by_cases h : ∃ r, Cross b ps x y r
  · obtain ⟨c, h1, h2⟩ := least_ex h
    exact ⟨some c, h1, h2⟩
  · exact ⟨none, fun r hr => h ⟨r, hr⟩⟩
end
theorem Proper.fresh {al : List Nat} {ps : List (Nat × Nat)} (h : Proper al ps) {i : Nat} {p : Nat × Nat} (hp : ps[i]? = some p) : p ∉ ps.take i := fun hm => by
  obtain ⟨h1, h2, h3, h4⟩ := h i p hp
  have := cut_clean (h.take i).wf (lets al ((textsOf al (ps.take i)).getD p.1 [] ++ (textsOf al (ps.take i)).getD p.2 [])) _ hm
  rw [h4] at this
  exact this (by show (p.1, p.2) ∈ [(p.1, p.2)]; exact List.mem_cons_self ..)
theorem Proper.idx {al : List Nat} {ps : List (Nat × Nat)} (h : Proper al ps) {i : Nat} {p : Nat × Nat} (hp : ps[i]? = some p) : ps.idxOf p = i := by
  have hm : p ∈ ps := List.mem_of_getElem? hp
  have h1 : ps.idxOf p < ps.length := List.idxOf_lt_length_iff.mpr hm
  have h2 : ps[ps.idxOf p]? = some p := by rw [List.getElem?_eq_getElem h1, List.getElem_idxOf h1]
  rcases Nat.lt_trichotomy (ps.idxOf p) i with z | z | z
  · refine absurd ?_ (h.fresh hp)
    refine List.mem_of_getElem? (i := ps.idxOf p) ?_
    rw [List.getElem?_take, if_pos z]; exact h2
  · exact z
  · refine absurd ?_ (h.fresh h2)
    refine List.mem_of_getElem? (i := i) ?_
    rw [List.getElem?_take, if_pos z]; exact hp
/-! ### places behind pieces -/
def marks (ts : List (List Nat)) : Nat → List Nat → List Nat
  | _, [] => []
  | a, x :: t => (a + (ts.getD x []).length) :: marks ts (a + (ts.getD x []).length) t
def szR (ts : List (List Nat)) (row : List Nat) : Nat := (textR ts row).length
theorem szR_cons (ts : List (List Nat)) (x : Nat) (t : List Nat) : szR ts (x :: t) = (ts.getD x []).length + szR ts t := by
  unfold szR
  rw [textR_cons, List.length_append]
theorem textR_app (ts : List (List Nat)) (u v : List Nat) : textR ts (u ++ v) = textR ts u ++ textR ts v := by
  unfold textR; rw [List.map_append, List.flatten_append]
theorem szR_app (ts : List (List Nat)) (u v : List Nat) : szR ts (u ++ v) = szR ts u + szR ts v := by
  unfold szR; rw [textR_app, List.length_append]
theorem marks_app (ts : List (List Nat)) : ∀ (u v : List Nat) (a : Nat), marks ts a (u ++ v) = marks ts a u ++ marks ts (a + szR ts u) v
  | [], v, a => by show marks ts a v = marks ts (a + 0) v; rw [Nat.add_zero]
  | x :: u, v, a => by
    show (a + (ts.getD x []).length) :: marks ts (a + (ts.getD x []).length) (u ++ v) = (a + (ts.getD x []).length) :: (marks ts _ u ++ _)
    rw [marks_app ts u v, szR_cons, Nat.add_assoc]
theorem marks_le {ts : List (List Nat)} : ∀ {row : List Nat} {a n : Nat}, n ∈ marks ts a row → a ≤ n ∧ n ≤ a + szR ts row
  | [], _, _, h => by cases h
  | x :: t, a, n, h => by
    rw [szR_cons]
    rcases List.mem_cons.mp h with z | z
    · omega
    · have := marks_le z; omega
theorem marks_end {ts : List (List Nat)} : ∀ {row : List Nat} {a : Nat}, row ≠ [] → a + szR ts row ∈ marks ts a row
  | [], _, h => absurd rfl h
  | [x], a, _ => by
    rw [szR_cons]
    exact List.mem_cons_self ..
  | x :: y :: t, a, _ => by
    rw [szR_cons, ← Nat.add_assoc]
    exact List.mem_cons_of_mem _ (marks_end (row := y :: t) (List.cons_ne_nil _ _))
theorem marks_len (ts : List (List Nat)) : ∀ (row : List Nat) (a : Nat), (marks ts a row).length = row.length
  | [], _ => rfl
  | x :: t, a => congrArg (· + 1) (marks_len ts t _)
theorem texts_pos {al : List Nat} {ps : List (Nat × Nat)} (hw : WF al.length ps) : ∀ (x : Nat), x < al.length + ps.length → 0 < ((textsOf al ps).getD x []).length := by
  intro x
  induction x using Nat.strongRecOn with
  | ind x ih =>
    intro hx
    rcases part_of hx with h | ⟨j, p, rfl, hp⟩
    · rw [texts_letter (List.getElem?_eq_getElem h)]; exact Nat.one_pos
    · have hj := hw j p hp
      rw [texts_at hw j p hp, List.length_append]
      have := ih p.1 hj.1 (by omega)
      omega
theorem Dn_size {al : List Nat} {ps : List (Nat × Nat)} (hw : WF al.length ps) (n x : Nat) : szR (textsOf al ps) (Dn al.length ps n [x]) = ((textsOf al ps).getD x []).length := by
  unfold szR Dn
  rw [splitD_text hw _ _ (Nat.le_refl _)]
  show (((textsOf al ps).getD x []) ++ []).length = _
  rw [List.append_nil]
/-- as long as nothing crosses there is a seam -/
theorem seam_of_still {al : List Nat} {ps : List (Nat × Nat)} (hal : al.Nodup) (h : Proper al ps) {x y n : Nat} (hx : x < al.length + ps.length) (hy : y < al.length + ps.length) (hn : n ≤ ps.length) (hno : ∀ r, r < n → ¬ Cross al.length ps x y r) :
    ((textsOf al ps).getD x []).length ∈ marks (textsOf al ps) 0 (cutL al.length (ps.take n) (Dn al.length ps 0 [x, y])) := by
  rw [stage_row (h.good hal) (row := [x, y]) (fun z hz => by
    rcases List.mem_cons.mp hz with w | w
    · rw [w]; exact hx
    · rw [List.mem_singleton.mp w]; exact hy) n hn fun r hr q hq => by
    have hq' : q ∈ [(x, y)] := hq
    rw [List.mem_singleton.mp hq']; exact hno r hr]
  rw [Dn_cons, marks_app, ← Dn_size h.wf n x, ← Nat.zero_add (szR _ _)]
  refine List.mem_append_left _ (marks_end ?_)
  obtain ⟨z, s, e⟩ := Dn_ne (n := n) h.wf x hx
  rw [e]; exact List.cons_ne_nil _ _
/-- and at the first crossing there is none -/
theorem no_seam {al : List Nat} {ps : List (Nat × Nat)} (hal : al.Nodup) (h : Proper al ps) {x y c : Nat} (hx : x < al.length + ps.length) (hy : y < al.length + ps.length) (hc : Cross al.length ps x y c) (hno : ∀ r, r < c → ¬ Cross al.length ps x y r) :
    ((textsOf al ps).getD x []).length ∉ marks (textsOf al ps) 0 (cutL al.length (ps.take (c + 1)) (Dn al.length ps 0 [x, y])) := by
  obtain ⟨A, B, p, hp, e1, e2⟩ := cross_first (h.good hal) hx hy hc hno
  have hw := h.wf
  have hpw := hw c p hp
  have hcl := (List.getElem?_eq_some_iff.mp hp).1
  have hsz : ((textsOf al ps).getD x []).length = szR (textsOf al ps) A + ((textsOf al ps).getD p.1 []).length := by
    rw [← Dn_size hw (c + 1) x, e1, szR_app, szR_cons]; rfl
  have p1 := texts_pos hw p.1 (by omega)
  have p2 := texts_pos hw p.2 (by omega)
  intro hm
  rw [e2, marks_app] at hm
  rcases List.mem_append.mp hm with z | z
  · have := marks_le z; omega
  · have hlen : ((textsOf al ps).getD (al.length + c) []).length = ((textsOf al ps).getD p.1 []).length + ((textsOf al ps).getD p.2 []).length := by rw [texts_at hw c p hp, List.length_append]
    rcases List.mem_cons.mp z with w | w
    · omega
    · have := marks_le w; omega
/-- the cut of two pieces' text -/
theorem cut_pair_iff {al : List Nat} {ps : List (Nat × Nat)} (hal : al.Nodup) (h : Proper al ps) {x y : Nat} (hx : x < al.length + ps.length) (hy : y < al.length + ps.length) {c : Option Nat} (hc : CrossIs al.length ps x y c) :
    cutL al.length ps (lets al ((textsOf al ps).getD x [] ++ (textsOf al ps).getD y [])) = [x, y] ↔ c = none := by
  have hxy : ∀ z ∈ [x, y], z < al.length + ps.length := fun z hz => by
    rcases List.mem_cons.mp hz with w | w
    · rw [w]; exact hx
    · rw [List.mem_singleton.mp w]; exact hy
  have e : Dn al.length ps 0 [x, y] = lets al ((textsOf al ps).getD x [] ++ (textsOf al ps).getD y []) := by
    rw [Dn_texts hal h hxy, textR_cons, textR_cons]
    show lets al (_ ++ (_ ++ [])) = _
    rw [List.append_nil]
  rw [← e, cut_row_iff (h.good hal) hxy]
  constructor
  · intro hn
    cases c with
    | none => rfl
    | some c => exact absurd hc.1 (hn (x, y) (by show (x, y) ∈ [(x, y)]; exact List.mem_cons_self ..) c)
  · intro e q hq r
    subst e
    have hq' : q ∈ [(x, y)] := hq
    rw [List.mem_singleton.mp hq']; exact hc r
end RJ
end

section
set_option maxRecDepth 100000
namespace RJ
open PySem PySem.Spec PyProof.Rows L2
/-- what an iterator at it draws: n items, the i-th one PV i; G: what must stay tracked -/
structure DrawK (P : Program) (w : World) (K : PySem.W.Frag) (it : Addr) (n : Nat) (tnI : Nat → Heap → Prop) (G : Hp → Prop) (PV : Nat → V → Prop) : Prop where
  obj : ∀ i h, tnI i h → ∃ o, h.get? it = some o ∧ ∀ v, o.data ≠ .cell v
  keep : ∀ i h h', tnI i h → (∀ o, h.get? it = some o → h'.get? it = some o) → tnI i h'
  draws : ∀ (X : Cx), X.prog = P → X.w = w → X.K = K → X.calm = true → ∀ (i : Nat) (pins : List (Addr × Obj)) (s : Shared) (σ : L2.St) (H : Hp), Inv X pins σ H s → G H → H it = none → tnI i s.heap →
    ∃ (fp : List Addr) (PD : Nat → Value → Prop) (StD : Nat → Heap → Prop), Draws P w X.A.in1 it fp n PD StD ∧ StD i s.heap ∧ it ∈ fp ∧ (∀ b ∈ fp, b = it ∨ (∃ o, H b = some o)) ∧
      (∀ j h, StD j h → tnI j h) ∧ ∀ j v, PD j v → ∃ x, PV j x ∧ RelV x v
theorem drawK_str {P : Program} {w : World} {K : PySem.W.Frag} (it : Addr) (x : Str) (t : Tok) :
    DrawK P w K it x.cps.size (fun i h => h.IsStrIter it (strIterType x) x t i) (fun _ => True) (fun i v => ∃ c, x.cps[i]? = some c ∧ v = .str ⟨#[c]⟩) where
  obj := fun i h st => by
    obtain ⟨o, e, c, d⟩ := st
    exact ⟨o, e, fun v z => by rw [d] at z; cases z⟩
  keep := fun i h h' st k => let ⟨o, ho, r⟩ := st; ⟨o, k o ho, r⟩
  draws := fun X hP hw hK hc i pins s σ H I _ _ st => by
    subst hP hw hK
    exact ⟨[it], _, _, Draws.text (A := X.A.in1) (I.ok.hd hc) it x t, st, by simp, fun b hb => .inl (by simpa using hb), fun j h q => q, fun j v ⟨c, u, hx, e⟩ => ⟨_, ⟨c, hx, rfl⟩, by rw [e]; exact ⟨u, rfl⟩⟩⟩
theorem drawK_tup {P : Program} {w : World} {K : PySem.W.Frag} (it a : Addr) (xs : List V) :
    DrawK P w K it xs.length (fun i h => h.IsTupleIter it a i) (fun H => H a = some (.tup xs)) (fun i v => xs[i]? = some v) where
  obj := fun i h st => by
    obtain ⟨o, e, c, d⟩ := st
    exact ⟨o, e, fun v z => by rw [d] at z; cases z⟩
  keep := fun i h h' st k => st.at k
  draws := fun X hP hw hK hc i pins s σ H I hG hn st => by
    subst hP hw hK
    have hne : a ≠ it := ne_of_none hG hn
    obtain ⟨its, rv, p, _⟩ := I.tuple (SqT.of hG)
    have hl := rv.length
    have e : its.toArray.size = xs.length := by simp [hl]
    have D := Draws.tuple (prog := X.prog) (w := X.w) (A := X.A.in1) (I.ok.hd hc) it a hne its.toArray
    rw [e] at D
    refine ⟨[it, a], _, _, D, ⟨st, p⟩, by simp, fun b hb => ?_, fun j h q => q.1, fun j v q => ?_⟩
    · rcases List.mem_cons.mp hb with z | z
      · exact .inl z
      · exact .inr ⟨_, by rw [List.mem_singleton.mp z]; exact hG⟩
    · have q' : its[j]? = some v := by simpa using q
      have hj : j < xs.length := by
        have := (List.getElem?_eq_some_iff.mp q').1
        omega
      obtain ⟨u, hu, ru⟩ := rv.get (List.getElem?_eq_getElem hj)
      rw [q'] at hu
      cases hu
      exact ⟨_, List.getElem?_eq_getElem hj, ru⟩
theorem drawK_list {P : Program} {w : World} {K : PySem.W.Frag} (it a : Addr) (xs : List V) :
    DrawK P w K it xs.length (fun i h => h.IsListIter it a i) (fun H => H a = some (.lst xs)) (fun i v => xs[i]? = some v) where
  obj := fun i h st => by
    obtain ⟨o, e, c, d⟩ := st
    exact ⟨o, e, fun v z => by rw [d] at z; cases z⟩
  keep := fun i h h' st k => st.at k
  draws := fun X hP hw hK hc i pins s σ H I hG hn st => by
    subst hP hw hK
    have hne : a ≠ it := ne_of_none hG hn
    obtain ⟨its, rv, p, _⟩ := I.list (SqL.of hG)
    have hl := rv.length
    have e : its.toArray.size = xs.length := by simp [hl]
    have D := Draws.list (prog := X.prog) (w := X.w) (A := X.A.in1) (I.ok.hd hc) it a hne its.toArray
    rw [e] at D
    refine ⟨[it, a], _, _, D, ⟨st, p.isList⟩, by simp, fun b hb => ?_, fun j h q => q.1, fun j v q => ?_⟩
    · rcases List.mem_cons.mp hb with z | z
      · exact .inl z
      · exact .inr ⟨_, by rw [List.mem_singleton.mp z]; exact hG⟩
    · have q' : its[j]? = some v := by simpa using q
      have hj : j < xs.length := by
        have := (List.getElem?_eq_some_iff.mp q').1
        omega
      obtain ⟨u, hu, ru⟩ := rv.get (List.getElem?_eq_getElem hj)
      rw [q'] at hu
      cases hu
      exact ⟨_, List.getElem?_eq_getElem hj, ru⟩
/-- n turns, each with a new tuple of xs, PX i xs, while G stands -/
def ItG (n : Nat) (G : Hp → Prop) (PX : Nat → List V → Prop) : It :=
  ⟨fun i H => G H ∧ i < n, fun i H v H' => ∃ T xs, v = .ref T ∧ H T = none ∧ H' = upd H T (.tup xs) ∧ PX i xs, fun i H => G H ∧ n ≤ i⟩
theorem two {a b : Addr} {p : Addr → Prop} (h1 : p a) (h2 : p b) : ∀ c ∈ [a, b], p c := fun c hc => by
  simp only [List.mem_cons, List.not_mem_nil, or_false] at hc
  rcases hc with e | e <;> rw [e] <;> assumption
theorem out2 {a b c : Addr} (h : c ∉ [a, b]) : c ≠ a ∧ c ≠ b := by
  simp only [List.mem_cons, List.not_mem_nil, or_false, not_or] at h; exact h
/-- an enumerate between two turns -/
def EnumT (e it : Addr) (n : Nat) (tnI : Nat → Heap → Prop) (i : Nat) (h : Heap) : Prop := i ≤ n ∧ (∃ old, IsEnum h e it ((i : Nat) : Int) old) ∧ tnI i h ∧ e ≠ it
theorem turn_enumG {P : Program} {w : World} {K : PySem.W.Frag} {elts : List Expr} {kk : Nat} {tpos : Pos} {e it : Addr} {n : Nat} {tnI : Nat → Heap → Prop} {G : Hp → Prop} {PV : Nat → V → Prop} (D : DrawK P w K it n tnI G PV) :
    Turn P w K (.Tuple elts kk tpos) (ItG n G fun i xs => ∃ v, PV i v ∧ xs = [.int (i : Nat), v]) [e, it] e (EnumT e it n tnI) where
  mem := List.mem_cons_self ..
  obj := fun i h ⟨_, ⟨_, a⟩, b, _⟩ => two (p := fun c => ∃ o, h.get? c = some o ∧ _) ⟨_, a, fun _ q => nomatch q⟩ (D.obj i h b)
  keep := fun i h h' ⟨l, ⟨old, a⟩, b, n⟩ k => ⟨l, ⟨old, k e (by simp) _ a⟩, D.keep i h h' b fun o => k it (by simp) o, n⟩
  item := by
    rintro X hP hw hK hc i pins s σ H E I hf ⟨hle, ⟨old, he⟩, hit, hne⟩ ⟨hG, hlt⟩
    obtain ⟨fp, PD, StD, DD, c1, m1, q1, back, val⟩ := D.draws X hP hw hK hc i pins s σ H I hG (hf it (by simp)).1 hit
    subst hP hw hK
    have apart : e ∉ fp := fun z => by
      rcases q1 e z with q | ⟨o, q⟩
      · exact hne q
      · rw [(hf e (by simp)).1] at q; cases q
    have lt2 : ∀ c ∈ [e, it], c < s.heap.objs.size := by
      obtain ⟨_, q⟩ := DD.live _ _ c1
      exact two (Heap.lt_size he) (Heap.lt_size q)
    refine wpAny_pyNext_enum_itemC DD he c1 hlt hne apart fun u h' tk hu ho j1 hT _ hk => ⟨_, rfl, ?_⟩
    obtain ⟨x, hx, ru⟩ := val i u hu
    refine wpAny_letOwnedTupleGo_enum (s := { s with heap := h', toks := tk + 1 }) ho fun g zg sg => ?_
    have on : ∀ {c : Addr} {o : Obj}, c ≠ e → h'.get? c = some o → g.get? c = some o := fun n a => (sg.2 _ n).trans a
    have made : ObjOk X.prog X.w (upd H s.heap.objs.size (.tup [.int (i : Nat), x])) g s.heap.objs.size (.tup [.int (i : Nat), x]) := ⟨by show 2 ≤ sizeLine; decide, [.int i tk, u], .cons ⟨_, rfl⟩ (.cons ru .nil), ⟨_, on (Nat.ne_of_gt (lt2 e (by simp))) hT, rfl, _, rfl⟩⟩
    have J : Inv X pins σ (upd H s.heap.objs.size (.tup [.int (i : Nat), x])) { s with heap := g, toks := tk + 1 } := I.turnedNew (ch := [e, it]) (fun c o hb q => on (out2 hb).1 (hk c o (out2 hb).1 (out2 hb).2 q)) hf (Nat.le_refl _) made
    have next : IsEnum g e it ((i + 1 : Nat) : Int) u := by rw [show ((i + 1 : Nat) : Int) = (i : Int) + 1 by omega]; exact zg
    exact ⟨.ref s.heap.objs.size, _, J, rfl, ⟨_, _, rfl, I.hok.fresh (Nat.le_refl _), rfl, x, hx, rfl⟩, ⟨hlt, ⟨u, next⟩, D.keep _ _ _ (back _ _ j1) fun _ => on (Ne.symm hne), hne⟩, fun c hcm => (upd_ne (Nat.ne_of_lt (lt2 c hcm))).trans (hf c hcm).1⟩
  done := by
    rintro X hP hw hK hc i pins s σ H E I hf ⟨hle, ⟨old, he⟩, hit, hne⟩ ⟨hG, hge⟩
    obtain ⟨fp, PD, StD, DD, c1, m1, q1, back, val⟩ := D.draws X hP hw hK hc i pins s σ H I hG (hf it (by simp)).1 hit
    subst hP hw hK
    obtain rfl : i = n := Nat.le_antisymm hle hge
    exact wpAny_pyNext_enum_endD DD he c1 fun h' eb => ⟨rfl, I.turnedL (t' := s.toks) (ch := [e, it]) (fun c o hb q => eb c o (out2 hb).2 q) hf⟩
  self := fun A i s Q E st h => by
    obtain ⟨_, ⟨_, he⟩, _⟩ := st
    exact wpAny_pyIter_enum he h
end RJ
end

section
set_option maxRecDepth 100000
namespace PySem
abbrev enumNew (it : Addr) : Obj := { cls := .type "enumerate", data := .fields #[.none, .bool false, .ref it, rawInt 0, .none, .none] }
set_option maxHeartbeats 1000000 in
/-- enumerate(v): an iterator of v, and the enumerate behind it -/
theorem rj_enum_made {v : Value} {o : Obj} {H : Heap → Prop} (B : Begins v o H) : Meets (Builtin.«enumerate.__new__» ⟨[.type "enumerate", v], []⟩) (fun _ R s => H s.heap ∧ R (.ok (.ret (.ref (s.heap.push o).objs.size))) { s with heap := (s.heap.push o).push (enumNew s.heap.objs.size) }) :=
  .of_wp fun prog w A R s ⟨src, fin⟩ => by
    have sub := sub_enumerate
    have it : ∀ {A' : Around} {E Q : Value → Shared → Prop}, Q (.ref s.heap.objs.size) { s with heap := s.heap.push o } → wpAny (model prog w) A' (pyIter v) Q E s := fun q => B.iter prog w _ _ s _ src q
    wp_walk using it
    refine wpAny_stack_any fun _ => wpAny_pure ?_; split
    · rename_i c _ _ _ _ _
      cases (c == Value.type "enumerate") <;> (wp_walk using it; exact ⟨_, rfl, fin⟩)
    · wp_walk using it; exact ⟨_, rfl, fin⟩
theorem rj_enum_begins {prog : Program} {w : World} {A : Around} {E Q : Value → Shared → Prop} {s : Shared} {v : Value} {o : Obj} {H : Heap → Prop} (B : Begins v o H) (src : H s.heap)
    (fin : ∀ h', IsEnum h' (s.heap.objs.size + 1) s.heap.objs.size 0 .none → h'.get? s.heap.objs.size = some o → h'.objs.size = s.heap.objs.size + 2 → (∀ b u, s.heap.get? b = some u → h'.get? b = some u) → Q (.ref (s.heap.objs.size + 1)) { s with heap := h' }) :
    wpAny (model prog w) A (call (.type "enumerate") [v]) Q E s := by
  have one : (s.heap.push o).objs.size = s.heap.objs.size + 1 := Heap.size_push ..
  have at1 : IsEnum ((s.heap.push o).push (enumNew s.heap.objs.size)) (s.heap.push o).objs.size s.heap.objs.size 0 .none := Heap.get?_push_size _ rfl
  have at0 : ((s.heap.push o).push (enumNew s.heap.objs.size)).get? s.heap.objs.size = some o := Heap.get?_push_of_some _ (Heap.get?_push_size _ B.free)
  have all := callType_new (prog := prog) (w := w) (A := A) (E := E) (Q := Q) F.called_enumerate (by decide) (F.typeCall_enumerate_1 v) (F.newCall_enumerate_1 v) (fun obj => F.args_object_init_2 obj _) F.entry_enumerate_new (rj_enum_made B) (s := s)
  refine all ⟨src, ?_⟩; show _ ∧ _
  rw [one] at at1 ⊢
  exact ⟨⟨_, at1, rfl⟩, fin _ at1 at0 (by rw [Heap.size_push, one]) fun b u e => Heap.get?_push_of_some _ (Heap.get?_push_of_some _ e)⟩
end PySem
namespace RJ
open PySem PySem.Spec PyProof.Rows L2
/-- iter of v begins something that draws -/
structure BegK (X : Cx) (n : Nat) (G : Hp → Prop) (PV : Nat → V → Prop) (H : Hp) (s : Shared) (v : Value) : Prop where
  ex : ∃ (o : Obj) (HH : Heap → Prop), Begins v o HH ∧ HH s.heap ∧ G H ∧ ∀ it, ∃ tnI : Nat → Heap → Prop, DrawK X.prog X.w X.K it n tnI G PV ∧ ∀ h : Heap, h.get? it = some o → tnI 0 h
theorem begK_str {X : Cx} {H : Hp} {s : Shared} (x : Str) (t : Tok) : BegK X x.cps.size (fun _ => True) (fun i v => ∃ c, x.cps[i]? = some c ∧ v = .str ⟨#[c]⟩) H s (.str x t) :=
  ⟨_, _, begins_text x t, trivial, trivial, fun it => ⟨_, drawK_str it x t, fun h e => ⟨_, e, rfl, rfl⟩⟩⟩
theorem begK_tup {X : Cx} {pins : List (Addr × Obj)} {σ : L2.St} {H : Hp} {s : Shared} {a : Addr} {xs : List V} (I : Inv X pins σ H s) (ha : H a = some (.tup xs)) : BegK X xs.length (fun H => H a = some (.tup xs)) (fun i v => xs[i]? = some v) H s (.ref a) := by
  obtain ⟨its, rv, p, _⟩ := I.tuple (SqT.of ha)
  exact ⟨_, _, begins_tuple a its.toArray, p, ha, fun it => ⟨_, drawK_tup it a xs, fun h e => ⟨_, e, rfl, rfl⟩⟩⟩
theorem begK_list {X : Cx} {pins : List (Addr × Obj)} {σ : L2.St} {H : Hp} {s : Shared} {a : Addr} {xs : List V} (I : Inv X pins σ H s) (ha : H a = some (.lst xs)) : BegK X xs.length (fun H => H a = some (.lst xs)) (fun i v => xs[i]? = some v) H s (.ref a) := by
  obtain ⟨its, rv, p, _⟩ := I.list (SqL.of ha)
  exact ⟨_, _, begins_list a its.toArray, p.isList, ha, fun it => ⟨_, drawK_list it a xs, fun h e => ⟨_, e, rfl, rfl⟩⟩⟩
/-- what an iterable value draws -/
def SrcV (H : Hp) (v : V) (n : Nat) (G : Hp → Prop) (PV : Nat → V → Prop) : Prop :=
  (∃ x : Str, v = .str x ∧ n = x.cps.size ∧ G = (fun _ => True) ∧ PV = fun i v => ∃ c, x.cps[i]? = some c ∧ v = .str ⟨#[c]⟩) ∨
  (∃ (a : Addr) (xs : List V), v = .ref a ∧ H a = some (.tup xs) ∧ n = xs.length ∧ G = (fun H => H a = some (.tup xs)) ∧ PV = fun i v => xs[i]? = some v) ∨
  (∃ (a : Addr) (xs : List V), v = .ref a ∧ H a = some (.lst xs) ∧ n = xs.length ∧ G = (fun H => H a = some (.lst xs)) ∧ PV = fun i v => xs[i]? = some v)
theorem SrcV.beg {X : Cx} {pins : List (Addr × Obj)} {σ : L2.St} {H : Hp} {s : Shared} {v : V} {u : Value} {n : Nat} {G : Hp → Prop} {PV : Nat → V → Prop} (I : Inv X pins σ H s) (r : RelV v u) (h : SrcV H v n G PV) : BegK X n G PV H s u := by
  rcases h with ⟨x, rfl, rfl, rfl, rfl⟩ | ⟨a, xs, rfl, ha, rfl, rfl, rfl⟩ | ⟨a, xs, rfl, ha, rfl, rfl, rfl⟩
  · obtain ⟨t, rfl⟩ := r
    exact begK_str x t
  · cases r
    exact begK_tup I ha
  · cases r
    exact begK_list I ha
/-- enumerate(v), v a text, a tuple or a list -/
def iEnumG (ta : TA) : TI := fun σ H R => ta σ H fun vs H1 => ∃ v n G PV, vs = [v] ∧ SrcV H1 v n G PV ∧ R (ItG n G fun i xs => ∃ v, PV i v ∧ xs = [.int (i : Nat), v]) H1
theorem pi_enumG {X : Cx} {e : Expr} {ta : TA} {p pos tpos : Pos} {elts : List Expr} {kk : Nat} (hg : Gl X "enumerate") (hm : X.mg "enumerate" = none) (ha : PA X [e] ta) (hs : starEach [e] X.env = [(false, eval e X.env)] := by rfl) :
    PI X (.Tuple elts kk tpos) (.Call (.Name "enumerate" p) [e] [] pos) (iEnumG ta) := by
  refine ⟨fun pins s σ H R I h => ?_⟩
  refine Call_ (ld_blt I hg hm boot_enumerate (PyProof.Rows.callWith_type1 (thn (ha.run pos pins s σ H _ I h) fun us s1 ⟨vs, H1, I1, r1, q1⟩ => ?_) hs rfl))
  obtain ⟨v, n, G, PV, ex, hsrc, q⟩ := q1
  subst ex
  cases r1 with
  | cons r rr =>
    cases rr
    obtain ⟨o, HH, B, h1, hG, hd⟩ := (hsrc.beg I1 r).ex
    refine rj_enum_begins B h1 fun h' he hit hsz hk => wpAny_pyIter_enum he ?_
    have I2 : Inv X pins σ H1 { s1 with heap := h' } := I1.kept (t' := s1.toks) hk
    obtain ⟨tnI, D, hst⟩ := hd s1.heap.objs.size
    have ge2 : ∀ c ∈ [s1.heap.objs.size + 1, s1.heap.objs.size], s1.heap.objs.size ≤ c := two (p := fun c => s1.heap.objs.size ≤ c) (Nat.le_succ _) (Nat.le_refl _)
    exact ⟨s1.heap.objs.size + 1, [s1.heap.objs.size + 1, s1.heap.objs.size], _, _, H1, rfl, I2, turn_enumG D, ⟨Nat.zero_le _, ⟨.none, he⟩, hst _ hit, Nat.succ_ne_self _⟩, fun c hc => I1.fpOk (ge2 c hc) (I1.hok.fresh (ge2 c hc)), q⟩
/-- the walks of ItG as the loops of HandS take them -/
theorem walk_ItG {n : Nat} {G : Hp → Prop} {PX : Nat → List V → Prop} {g : TG} {tb : TS} {D : Ends} {σ : L2.St} {H : Hp} (Pv : Nat → L2.St → Hp → Prop) (h0 : Pv 0 σ H) (hG : ∀ i σ H, i ≤ n → Pv i σ H → G H)
    (hs : ∀ i xs T σ H, i < n → Pv i σ H → PX i xs → H T = none → g (.ref T) σ (upd H T (.tup xs)) fun σ2 H2 => tb { D with nx := Pv (i + 1), ct := Pv (i + 1), bk := D.nx } σ2 H2) (hd : ∀ σ H, Pv n σ H → D.nx σ H) :
    ∃ W : Nat → Nat → L2.St → Hp → Prop, (∃ m, W 0 m σ H) ∧ ∀ i m σ H, W i m σ H → ((ItG n G PX).stop i H ∧ D.nx σ H) ∨ ((ItG n G PX).go i H ∧ ∃ N : L2.St → Hp → Prop, (∀ σ' H', N σ' H' → ∃ m', m' < m ∧ W (i + 1) m' σ' H') ∧
      ∀ x H', (ItG n G PX).yld i H x H' → g x σ H' fun σ2 H2 => tb { D with nx := N, ct := N, bk := D.nx } σ2 H2) := by
  refine ⟨fun i m σ H => m = n - i ∧ i ≤ n ∧ Pv i σ H, ⟨n, rfl, Nat.zero_le _, h0⟩, ?_⟩
  rintro i m σ H ⟨rfl, hi, p⟩
  by_cases hlt : i < n
  · refine .inr ⟨⟨hG i σ H hi p, hlt⟩, Pv (i + 1), fun σ' H' p' => ⟨n - (i + 1), by omega, rfl, hlt, p'⟩, fun v H' y => ?_⟩
    obtain ⟨T, xs, rfl, hT, rfl, hx⟩ := y
    exact hs i xs T σ H hlt p hx hT
  · have e : i = n := by omega
    subst e
    exact .inl ⟨⟨hG _ σ H hi p, Nat.le_refl _⟩, hd σ H p⟩
end RJ
end

section
set_option maxRecDepth 100000
namespace RJ
open PySem PySem.Spec PyProof.Rows L2
theorem five {z TI TO i1 i2 : Addr} {p : Addr → Prop} (h1 : p z) (h2 : p TI) (h3 : p TO) (h4 : p i1) (h5 : p i2) : ∀ c ∈ [z, TI, TO, i1, i2], p c := fun c hc => by
  simp only [List.mem_cons, List.not_mem_nil, or_false] at hc
  rcases hc with e | e | e | e | e <;> rw [e] <;> assumption
theorem zip_cells {N : Nat} : ∀ c ∈ [N + 4, N + 2, N + 3, N, N + 1], N ≤ c := five (p := fun c => N ≤ c) (Nat.le_add_right N 4) (Nat.le_add_right N 2) (Nat.le_add_right N 3) (Nat.le_refl N) (Nat.le_add_right N 1)
/-- five cells apart -/
structure Ap5 (z TI TO i1 i2 : Addr) : Prop where
  TIz : TI ≠ z
  TOz : TO ≠ z
  TITO : TI ≠ TO
  TIi1 : TI ≠ i1
  TIi2 : TI ≠ i2
  TOi1 : TO ≠ i1
  TOi2 : TO ≠ i2
  zi1 : z ≠ i1
  zi2 : z ≠ i2
  i12 : i1 ≠ i2
theorem ap5 (N : Nat) : Ap5 (N + 4) (N + 2) (N + 3) N (N + 1) :=
  ⟨show (N + 2 : Nat) ≠ N + 4 by omega, show (N + 3 : Nat) ≠ N + 4 by omega, show (N + 2 : Nat) ≠ N + 3 by omega, show (N + 2 : Nat) ≠ N by omega, show (N + 2 : Nat) ≠ N + 1 by omega,
    show (N + 3 : Nat) ≠ N by omega, show (N + 3 : Nat) ≠ N + 1 by omega, show (N + 4 : Nat) ≠ N by omega, show (N + 4 : Nat) ≠ N + 1 by omega, show (N : Nat) ≠ N + 1 by omega⟩
theorem Ap5.sep {z TI TO i1 i2 : Addr} (D : Ap5 z TI TO i1 i2) {H : Hp} {fp1 fp2 : List Addr} (m1 : i1 ∈ fp1) (m2 : i2 ∈ fp2) (f1 : ∀ b ∈ fp1, b = i1 ∨ ∃ o, H b = some o) (f2 : ∀ b ∈ fp2, b = i2 ∨ ∃ o, H b = some o)
    (hz : H z = none) (hTO : H TO = none) (h1 : H i1 = none) (h2 : H i2 = none) : ZipSep2 z TI TO i1 i2 fp1 fp2 where
  TIz := D.TIz
  TOz := D.TOz
  TITO := D.TITO
  TIi1 := D.TIi1
  mem1 := m1
  zf1 := fun q => by
    rcases f1 _ q with e | ⟨o, e⟩
    · exact D.zi1 e
    · rw [hz] at e; cases e
  Tf1 := fun q => by
    rcases f1 _ q with e | ⟨o, e⟩
    · exact D.TOi1 e
    · rw [hTO] at e; cases e
  TIi2 := D.TIi2
  mem2 := m2
  zf2 := fun q => by
    rcases f2 _ q with e | ⟨o, e⟩
    · exact D.zi2 e
    · rw [hz] at e; cases e
  Tf2 := fun q => by
    rcases f2 _ q with e | ⟨o, e⟩
    · exact D.TOi2 e
    · rw [hTO] at e; cases e
  sep1_2 := fun q => by
    rcases f2 _ q with e | ⟨o, e⟩
    · exact D.i12 e
    · rw [h1] at e; cases e
  sep2_1 := fun q => by
    rcases f1 _ q with e | ⟨o, e⟩
    · exact D.i12 e.symm
    · rw [h2] at e; cases e
theorem out5 {z TI TO i1 i2 c : Addr} (h : c ∉ [z, TI, TO, i1, i2]) : c ≠ z ∧ c ≠ TI ∧ c ≠ TO ∧ c ≠ i1 ∧ c ≠ i2 := by
  simp only [List.mem_cons, List.not_mem_nil, or_false, not_or] at h; exact h
/-- a zip whose tuples are taken apart at once -/
def ZipTt (z TI TO i1 i2 : Addr) (n : Nat) (tn1 tn2 : Nat → Heap → Prop) (i : Nat) (h : Heap) : Prop := i ≤ n ∧ IsZip h z TI TO .none ∧ IsTupOf2 h TI (.ref i1) (.ref i2) ∧ (∃ x y, IsTupOf2 h TO x y) ∧ tn1 i h ∧ tn2 i h
section
variable {P : Program} {w : World} {K : PySem.W.Frag} {elts : List Expr} {kk : Nat} {tpos : Pos} {z TI TO i1 i2 : Addr} {n1 n2 : Nat} {tn1 tn2 : Nat → Heap → Prop} {G1 G2 : Hp → Prop} {PV1 PV2 : Nat → V → Prop}
theorem turn_zipG (A5 : Ap5 z TI TO i1 i2) (D1 : DrawK P w K i1 n1 tn1 G1 PV1) (D2 : DrawK P w K i2 n2 tn2 G2 PV2) :
    Turn P w K (.Tuple elts kk tpos) (ItG (min n1 n2) (fun H => G1 H ∧ G2 H) fun i xs => ∃ v1 v2, PV1 i v1 ∧ PV2 i v2 ∧ xs = [v1, v2]) [z, TI, TO, i1, i2] z (ZipTt z TI TO i1 i2 (min n1 n2) tn1 tn2) where
  mem := List.mem_cons_self ..
  obj := fun i h ⟨_, a, b, ⟨_, _, c⟩, d, e⟩ => five (p := fun c => ∃ o, h.get? c = some o ∧ _) ⟨_, a, fun _ q => nomatch q⟩ ⟨_, b, fun _ q => nomatch q⟩ ⟨_, c, fun _ q => nomatch q⟩ (D1.obj i h d) (D2.obj i h e)
  keep := fun i h h' ⟨l, a, b, ⟨_, _, c⟩, d, e⟩ k => ⟨l, k _ (by simp) _ a, k _ (by simp) _ b, ⟨_, _, k _ (by simp) _ c⟩, D1.keep _ _ _ d fun o => k i1 (by simp) o, D2.keep _ _ _ e fun o => k i2 (by simp) o⟩
  item := by
    rintro X hP hw hK hc i pins s σ H E I hf ⟨hl, hz, hTI, ⟨x0, y0, hTO⟩, h1, h2⟩ ⟨⟨hG1, hG2⟩, hlt⟩
    have none4 : H z = none ∧ H TO = none ∧ H i1 = none ∧ H i2 = none := ⟨(hf _ (by simp)).1, (hf _ (by simp)).1, (hf _ (by simp)).1, (hf _ (by simp)).1⟩
    obtain ⟨fp1, PD1, St1, DD1, c1, m1, q1, back1, val1⟩ := D1.draws X hP hw hK hc i pins s σ H I hG1 none4.2.2.1 h1
    obtain ⟨fp2, PD2, St2, DD2, c2, m2, q2, back2, val2⟩ := D2.draws X hP hw hK hc i pins s σ H I hG2 none4.2.2.2 h2
    subst hP hw hK
    have lt5 : ∀ c ∈ [z, TI, TO, i1, i2], c < s.heap.objs.size := by
      obtain ⟨_, e1⟩ := DD1.live _ _ c1
      obtain ⟨_, e2⟩ := DD2.live _ _ c2
      exact five (Heap.lt_size hz) (Heap.lt_size hTI) (Heap.lt_size hTO) (Heap.lt_size e1) (Heap.lt_size e2)
    refine wpAny_pyNext_zipD2_item (A5.sep m1 m2 q1 q2 none4.1 none4.2.1 none4.2.2.1 none4.2.2.2) DD1 DD2 hz hTI hTO c1 c2 (by omega) (by omega) fun u u2 h' tk p1 p2 z' TO' j1 j2 hT _ hk => ⟨_, rfl, ?_⟩
    obtain ⟨v, hv, rv⟩ := val1 i u p1
    obtain ⟨v2, hv2, rv2⟩ := val2 i u2 p2
    refine wpAny_letOwnedTupleGo_zip (s := { s with heap := h', toks := tk }) z' fun g zg sg => ?_
    have on : ∀ {c : Addr} {o : Obj}, c ≠ z → h'.get? c = some o → g.get? c = some o := fun n e => (sg.2 _ n).trans e
    have made : ObjOk X.prog X.w (upd H s.heap.objs.size (.tup [v, v2])) g s.heap.objs.size (.tup [v, v2]) := ⟨by show 2 ≤ sizeLine; decide, [u, u2], .cons rv (.cons rv2 .nil), ⟨_, on (Nat.ne_of_gt (lt5 z (by simp))) hT, rfl, _, rfl⟩⟩
    have J : Inv X pins σ (upd H s.heap.objs.size (.tup [v, v2])) { s with heap := g, toks := tk } := I.turnedNew (ch := [z, TI, TO, i1, i2]) (fun c o hb q => by
      obtain ⟨a, _, b, d, e⟩ := out5 hb
      exact on a (hk c o a b d e q)) hf (Nat.le_refl _) made
    exact ⟨.ref s.heap.objs.size, _, J, rfl, ⟨_, _, rfl, I.hok.fresh (Nat.le_refl _), rfl, v, v2, hv, hv2, rfl⟩, ⟨hlt, zg, on A5.TIz (hk _ _ A5.TIz A5.TITO A5.TIi1 A5.TIi2 hTI), ⟨u, u2, on A5.TOz TO'⟩, D1.keep _ _ _ (back1 _ _ j1) fun _ => on A5.zi1.symm, D2.keep _ _ _ (back2 _ _ j2) fun _ => on A5.zi2.symm⟩,
      fun c hcm => (upd_ne (Nat.ne_of_lt (lt5 c hcm))).trans (hf c hcm).1⟩
  done := by
    rintro X hP hw hK hc i pins s σ H E I hf ⟨hl, hz, hTI, ⟨x0, y0, hTO⟩, h1, h2⟩ ⟨⟨hG1, hG2⟩, hge⟩
    have none4 : H z = none ∧ H TO = none ∧ H i1 = none ∧ H i2 = none := ⟨(hf _ (by simp)).1, (hf _ (by simp)).1, (hf _ (by simp)).1, (hf _ (by simp)).1⟩
    obtain ⟨fp1, PD1, St1, DD1, c1, m1, q1, back1, val1⟩ := D1.draws X hP hw hK hc i pins s σ H I hG1 none4.2.2.1 h1
    obtain ⟨fp2, PD2, St2, DD2, c2, m2, q2, back2, val2⟩ := D2.draws X hP hw hK hc i pins s σ H I hG2 none4.2.2.2 h2
    subst hP hw hK
    exact wpAny_pyNext_zipD2_end (A5.sep m1 m2 q1 q2 none4.1 none4.2.1 none4.2.2.1 none4.2.2.2) DD1 DD2 hz hTI hTO c1 c2 (by omega) (by omega) (by omega) fun h' tk hk => ⟨rfl, I.turnedL (t' := tk) (ch := [z, TI, TO, i1, i2]) (fun c o hb q => by
      obtain ⟨a, _, b, d, e⟩ := out5 hb
      exact hk c o a b d e q) hf⟩
  self := fun A i s Q E st h => wpAny_pyIter_zip st.2.1 h
end
def iZipG (ta : TA) : TI := fun σ H R => ta σ H fun vs H1 => ∃ v1 v2 n1 n2 G1 G2 PV1 PV2, vs = [v1, v2] ∧ SrcV H1 v1 n1 G1 PV1 ∧ SrcV H1 v2 n2 G2 PV2 ∧ R (ItG (min n1 n2) (fun H => G1 H ∧ G2 H) fun i xs => ∃ v1 v2, PV1 i v1 ∧ PV2 i v2 ∧ xs = [v1, v2]) H1
theorem pi_zipGen {X : Cx} {tg e e2 : Expr} {ta : TA} {p pos : Pos} (hg : Gl X "zip") (hm : X.mg "zip" = none) (ha : PA X [e, e2] ta)
    (ht : ∀ {z TI TO i1 i2 : Addr} {n1 n2 : Nat} {tn1 tn2 : Nat → Heap → Prop} {G1 G2 : Hp → Prop} {PV1 PV2 : Nat → V → Prop} (A5 : Ap5 z TI TO i1 i2) (D1 : DrawK X.prog X.w X.K i1 n1 tn1 G1 PV1) (D2 : DrawK X.prog X.w X.K i2 n2 tn2 G2 PV2),
      ∃ tn : Nat → Heap → Prop, Turn X.prog X.w X.K tg (ItG (min n1 n2) (fun H => G1 H ∧ G2 H) fun i xs => ∃ v1 v2, PV1 i v1 ∧ PV2 i v2 ∧ xs = [v1, v2]) [z, TI, TO, i1, i2] z tn ∧
        ∀ h, IsZip h z TI TO .none → IsTupOf2 h TI (.ref i1) (.ref i2) → IsTupOf2 h TO .none .none → tn1 0 h → tn2 0 h → tn 0 h)
    (hs : starEach [e, e2] X.env = (false, eval e X.env) :: starEach [e2] X.env := by rfl) (hpl : (backTo pos (starEach [e2] X.env)).any (·.1) = false := by rfl) :
    PI X tg (.Call (.Name "zip" p) [e, e2] [] pos) (iZipG ta) := by
  refine ⟨fun pins s σ H R I h => ?_⟩
  refine Call_ (ld_blt I hg hm PyProof.Rows.boot_zip (PyProof.Rows.callWith_type1 (thn (ha.run pos pins s σ H _ I h) fun us s1 ⟨vs, H1, I1, r1, q1⟩ => ?_) hs hpl))
  obtain ⟨v1, v2, n1, n2, G1, G2, PV1, PV2, ex, hs1, hs2, q⟩ := q1
  subst ex
  cases r1 with
  | cons r rr =>
    cases rr with
    | cons r' rr =>
      cases rr
      obtain ⟨o1, HH1, B1, b1, hG1, hd1⟩ := (hs1.beg I1 r).ex
      obtain ⟨o2, HH2, B2, b2, hG2, hd2⟩ := (hs2.beg I1 r').ex
      refine zip_begins2 B1 B2 b1 b2 fun h' hz hTI hTO g1 g2 hsz hk => wpAny_pyIter_zip hz ?_
      have I2 : Inv X pins σ H1 { s1 with heap := h' } := I1.kept (t' := s1.toks) hk
      obtain ⟨tn1, D1, st1⟩ := hd1 s1.heap.objs.size
      obtain ⟨tn2, D2, st2⟩ := hd2 (s1.heap.objs.size + 1)
      obtain ⟨tn, T, h0⟩ := ht (ap5 s1.heap.objs.size) D1 D2
      exact ⟨s1.heap.objs.size + 4, [s1.heap.objs.size + 4, s1.heap.objs.size + 2, s1.heap.objs.size + 3, s1.heap.objs.size, s1.heap.objs.size + 1], tn, _, H1, rfl, I2, T, h0 _ hz hTI hTO (st1 _ g1) (st2 _ g2),
        fun c hcm => I1.fpOk (zip_cells c hcm) (I1.hok.fresh (zip_cells c hcm)), q⟩
/-- for a, b in zip(v1, v2): texts, tuples, lists -/
theorem pi_zipT2 {X : Cx} {e e2 : Expr} {ta : TA} {p pos tpos : Pos} {elts : List Expr} {kk : Nat} (hg : Gl X "zip") (hm : X.mg "zip" = none) (ha : PA X [e, e2] ta)
    (hs : starEach [e, e2] X.env = (false, eval e X.env) :: starEach [e2] X.env := by rfl) (hpl : (backTo pos (starEach [e2] X.env)).any (·.1) = false := by rfl) :
    PI X (.Tuple elts kk tpos) (.Call (.Name "zip" p) [e, e2] [] pos) (iZipG ta) :=
  pi_zipGen hg hm ha (fun A5 D1 D2 => ⟨_, turn_zipG A5 D1 D2, fun h hz hTI hTO h1 h2 => ⟨Nat.zero_le _, hz, hTI, ⟨_, _, hTO⟩, h1, h2⟩⟩) hs hpl
end RJ
end

section
set_option maxRecDepth 100000
namespace PySem
/-- nothing but these four cells has changed -/
def Beside (z TO i1 i2 : Addr) (h h' : Heap) : Prop := ∀ c o, c ≠ z → c ≠ TO → c ≠ i1 → c ≠ i2 → h.get? c = some o → h'.get? c = some o
/-- a zip, whatever tuple it holds to be out -/
abbrev RjZ (h : Heap) (z TI TO : Addr) (f0 : Value) (f1 : Bool) : Prop := h.get? z = some { cls := .type "zip", dict := none, data := .fields #[f0, .bool f1, .bool false, .ref TI, .ref TO], slots := #[] }
/-- .. between two turns -/
def ZipIdle (h : Heap) (z TI TO : Addr) : Prop := ∃ f0 f1, RjZ h z TI TO f0 f1 ∧ (f0 = .none ∨ ∃ T : Addr, f0 = rawInt T)
/-- the tuple it keeps -/
def KeepsPair (h : Heap) (TO : Addr) : Prop := ∃ x y, IsTupOf2 h TO x y
section
variable {prog : Program} {w : World} {A : Around} {E : Value → Shared → Prop} {s : Shared} {z TI TO i1 i2 : Addr} {fp1 fp2 : List Addr} {n1 n2 i : Nat} {P1 P2 : Nat → Value → Prop} {St1 St2 : Nat → Heap → Prop}
theorem rj_alive {a : Addr} {Q : Option Obj → Shared → Prop} (h : Q (s.heap.get? a) s) : wpAny (model prog w) A (loadIfAlive a) Q E s := fun _ _ _ => h
/-- is the tuple that went out free? both answers -/
theorem rj_isFree {f0 : Value} {f1 : Bool} {Q : Bool → Shared → Prop} (hz : RjZ s.heap z TI TO f0 f1) (hf : f0 = .none ∨ ∃ T : Addr, f0 = rawInt T) (yes : Q true s)
    (no : ∀ h', RjZ h' z TI TO f0 true → Heap.SameBut z s.heap h' → Q false { s with heap := h' }) : wpAny (model prog w) A (Builtin.SmallTypes.ownedTupleIsFree (.ref z)) Q E s := by
  have last : wpAny (model prog w) A (field (.ref z) 1) (fun v s' => v = .bool f1 ∧ s' = s) E s := wpAny_field hz rfl (x := .bool f1) rfl ⟨rfl, rfl⟩
  unfold Builtin.SmallTypes.ownedTupleIsFree; refine wpAny_bind (wpAny_field hz rfl (x := f0) rfl ?_)
  rcases hf with e | ⟨T, e⟩ <;> subst e
  · exact wpAny_pure yes
  show wpAny _ _ (loadIfAlive ((T : Int).toNat) >>= _) _ _ _
  refine wpAny_bind (rj_alive ?_)
  cases s.heap.get? ((T : Int).toNat)
  · simp only [Option.isNone_none, if_true]; exact wpAny_pure yes
  simp only [Option.isNone_some, Bool.false_eq_true, if_false]
  refine wpAny_bind (wpAny_mono last ?_ fun _ _ e => e); rintro _ _ ⟨rfl, rfl⟩
  cases f1
  · rw [if_pos (by rfl)]; exact wpAny_bind (wpAny_setField_rec hz (by simp) fun k hk sk => wpAny_pure (no k hk sk))
  · rw [if_neg (by decide)]; exact wpAny_pure (no _ hz (Heap.SameBut.refl _ _))
/-- one call of next: an item of each, or the end of one -/
theorem rj_next {Q : Value → Shared → Prop} (S : ZipSep2 z TI TO i1 i2 fp1 fp2) (D1 : Draws prog w A i1 fp1 n1 P1 St1) (D2 : Draws prog w A i2 fp2 n2 P2 St2) (hz : ZipIdle s.heap z TI TO)
    (hTI : IsTupOf2 s.heap TI (.ref i1) (.ref i2)) (hTO : KeepsPair s.heap TO) (st1 : St1 i s.heap) (st2 : St2 i s.heap) (le1 : i ≤ n1) (le2 : i ≤ n2)
    (got : ∀ x y h' tk, i < n1 → i < n2 → P1 i x → P2 i y → ZipIdle h' z TI TO → KeepsPair h' TO → St1 (i + 1) h' → St2 (i + 1) h' → IsTupOf2 h' s.heap.objs.size x y → Beside z TO i1 i2 s.heap h' → Q (.ref s.heap.objs.size) { s with heap := h', toks := tk })
    (out : ∀ h' tk e, i = n1 ∨ i = n2 → Beside z TO i1 i2 s.heap h' → (∃ o, h'.get? e = some o ∧ o.cls = .type "StopIteration") → E (.ref e) { s with heap := h', toks := tk }) :
    wpAny (model prog w) A (Builtin.«zip.__next__» ⟨[.ref z], []⟩) (fun fin s' => ∃ v, fin = .done (.ret v) ∧ Q v s') E s := by
  obtain ⟨f0, f1, zz, hf⟩ := hz
  obtain ⟨p, q, hTO⟩ := hTO
  obtain ⟨hp, g, d, k0, os⟩ := s
  have zl : z < hp.objs.size := Heap.lt_size zz
  show wpAny _ _ (field (.ref z) 2 >>= _) _ _ _; refine wpAny_bind (wpAny_field zz rfl (x := .bool false) rfl ?_)
  show wpAny _ _ (field (.ref z) 3 >>= _) _ _ _; refine wpAny_bind (wpAny_field zz rfl (x := .ref TI) rfl (wpAny_bind (wpAny_seqItems hTI rfl ?_)))
  show wpAny _ _ (Builtin.SmallTypes.ownedTupleIsFree (.ref z) >>= _) _ _ _; refine wpAny_bind (rj_isFree zz hf ?_ fun a za sa => ?_)
  · -- the kept tuple is filled anew
    simp only [if_true]; refine wpAny_bind (wpAny_rule (wpAny_bind (wpAny_field zz rfl (x := .ref TO) rfl (wpAny_bind (wpAny_setField_rec zz (by simp) fun a za sa => ?_)))))
    replace za : RjZ a z TI TO .ellipsis f1 := za
    replace sa : Heap.SameBut z hp a := sa
    have stop : ∀ (tk : Nat) (h h' : Heap) (e : Addr) (o : Obj), (i = n1 ∨ i = n2) → RjZ h z TI TO .ellipsis f1 → Beside z TO i1 i2 hp h → h.get? e = some o → o.cls = .type "StopIteration" → Heap.SameBut z h h' → E (.ref e) ⟨h', g, d, tk, os⟩ := fun tk h h' e o c zh b he ho sh =>
      out h' tk e c (fun c o cz cT c1 c2 x => sh.extBut _ _ cz (b c o cz cT c1 c2 x)) ⟨o, sh.extBut _ _ (fun x => by subst x; rw [zh] at he; cases he; simp at ho) he, ho⟩
    refine wpAny_bind ?_; simp only [List.zipIdx_cons, List.zipIdx_nil, List.forIn_cons, List.forIn_nil]; refine wpAny_bind (wpAny_bind (wpAny_onRaise ?_))
    show wpAny _ _ (Builtin.SmallTypes.nextOf (.ref i1) >>= _) _ _ ⟨a, g, d, k0, os⟩
    have ta := D1.over st1 sa S.zf1
    by_cases l1 : i < n1
    · refine wpAny_bind (D1.item i _ _ _ l1 ta fun x b k1 hx tb sb => wpAny_pure ?_)
      replace sb : Heap.SameBut i1 a b := sb
      have ub : IsTupOf2 b TO p q := sb.extBut _ _ S.Ti1 (sa.extBut _ _ S.TOz hTO)
      refine wpAny_bind (wpAny_seqItems (s := ⟨b, g, d, k1, os⟩) ub rfl (wpAny_bind (updateSeq_IsTupOf2 (s := ⟨b, g, d, k1, os⟩) ub fun c uc sc => wpAny_bind (wpAny_letGo (wpAny_pure ?_)))))
      replace uc : IsTupOf2 c TO x q := uc
      replace sc : Heap.SameBut TO b c := sc
      have zc : RjZ c z TI TO .ellipsis f1 := sc.extBut _ _ S.TOz.symm (sb.extBut _ _ S.zi1 za)
      have bc : Beside z TO i1 i2 hp c := fun c o cz cT c1 c2 e => sc.extBut _ _ cT (sb.extBut _ _ c1 (sa.extBut _ _ cz e))
      have tc := D2.over (D2.over (D2.over st2 sa S.zf2) sb S.sep1_2) sc S.Tf2
      refine wpAny_bind (wpAny_bind (wpAny_onRaise ?_)); show wpAny _ _ (Builtin.SmallTypes.nextOf (.ref i2) >>= _) _ _ ⟨c, g, d, k1, os⟩
      by_cases l2 : i < n2
      · refine wpAny_bind (D2.item i _ _ _ l2 tc fun y e k2 hy te se => wpAny_pure ?_)
        replace se : Heap.SameBut i2 c e := se
        have ue : IsTupOf2 e TO x q := se.extBut _ _ S.Ti2 uc
        refine wpAny_bind (wpAny_seqItems (s := ⟨e, g, d, k2, os⟩) ue rfl (wpAny_bind (updateSeq_IsTupOf2 (s := ⟨e, g, d, k2, os⟩) ue fun r ur sr => wpAny_bind (wpAny_letGo (wpAny_pure (wpAny_pure ?_))))))
        replace ur : IsTupOf2 r TO x y := ur
        replace sr : Heap.SameBut TO e r := sr
        have zr : RjZ r z TI TO .ellipsis f1 := sr.extBut _ _ S.TOz.symm (se.extBut _ _ S.zi2 zc)
        have size : r.objs.size = hp.objs.size := by rw [sr.1, se.1, sc.1, sb.1, sa.1]
        have j1 : St1 (i + 1) r := D1.over (D1.over (D1.over tb sc S.Tf1) se S.sep2_1) sr S.Tf1
        have j2 : St2 (i + 1) r := D2.over te sr S.Tf2
        refine wpAny_bind (wpAny_seqItems (s := ⟨r, g, d, k2, os⟩) ur rfl (wpAny_bind (wpAny_newTuple ?_)))
        show wpAny _ _ (Builtin.SmallTypes.ownedTupleHandOut (.ref z) (.ref r.objs.size) >>= _) _ _ ⟨r.push { cls := .type "tuple", data := .seq #[x, y] }, g, d, k2, os⟩
        generalize hv : r.push { cls := .type "tuple", data := .seq #[x, y] } = v
        have up : ∀ c o, r.get? c = some o → v.get? c = some o := fun c o e => hv ▸ Heap.get?_push_of_some _ e
        have tv : IsTupOf2 v r.objs.size x y := hv ▸ Heap.get?_push_size _ rfl
        unfold Builtin.SmallTypes.ownedTupleHandOut; refine wpAny_bind ?_
        refine wpAny_bind (wpAny_setField_rec (s := ⟨v, g, d, k2, os⟩) (up _ _ zr) (by simp) fun m zm sm => wpAny_setField_rec (s := ⟨m, g, d, k2, os⟩) zm (by simp) fun t zt stt => ?_)
        replace zt : RjZ t z TI TO (rawInt r.objs.size) false := zt
        replace sm : Heap.SameBut z v m := sm
        replace stt : Heap.SameBut z m t := stt
        have on : ∀ c o, c ≠ z → r.get? c = some o → t.get? c = some o := fun c o n e => stt.extBut _ _ n (sm.extBut _ _ n (up _ _ e))
        refine wpAny_pure ⟨_, rfl, ?_⟩
        show Q (.ref r.objs.size) ⟨t, g, d, k2, os⟩; rw [size]
        refine got x y t k2 l1 l2 hx hy ⟨_, _, zt, .inr ⟨_, rfl⟩⟩ ⟨_, _, on _ _ S.TOz ur⟩ (D1.frame _ _ _ j1 fun b hb o e => on b o (fun q => S.zf1 (q ▸ hb)) e) (D2.frame _ _ _ j2 fun b hb o e => on b o (fun q => S.zf2 (q ▸ hb)) e) ?_
          fun c o cz cT c1 c2 e => on c o cz (sr.extBut _ _ cT (se.extBut _ _ c2 (bc c o cz cT c1 c2 e)))
        have away : r.objs.size ≠ z := by rw [size]; exact Nat.ne_of_gt zl
        have := stt.extBut _ _ away (sm.extBut _ _ away tv); rwa [size] at this
      · have c2 : i = n2 := by omega
        refine wpAny_bind (D2.done ⟨c, g, d, k1, os⟩ _ _ (c2 ▸ tc) fun e x he hx => ?_); obtain ⟨o, ho, oc⟩ := hx
        have ze : RjZ e z TI TO .ellipsis f1 := he _ _ S.zi2 zc
        exact wpAny_setField_rec (s := ⟨e, g, d, k1, os⟩) ze (by simp) fun e' _ se => stop k1 e e' x o (.inr c2) ze (fun c o cz cT c1 c2 y => he _ _ c2 (bc c o cz cT c1 c2 y)) ho oc se
    · have c1 : i = n1 := by omega
      refine wpAny_bind (D1.done ⟨a, g, d, k0, os⟩ _ _ (c1 ▸ ta) fun e x he hx => ?_); obtain ⟨o, ho, oc⟩ := hx
      have ze : RjZ e z TI TO .ellipsis f1 := he _ _ S.zi1 za
      exact wpAny_setField_rec (s := ⟨e, g, d, k0, os⟩) ze (by simp) fun e' _ se => stop k0 e e' x o (.inl c1) ze (fun c o cz cT c1 c2 y => he _ _ c1 (sa.extBut _ _ cz y)) ho oc se
  · -- a tuple of its own
    replace za : RjZ a z TI TO f0 true := za
    replace sa : Heap.SameBut z hp a := sa
    have ta := D1.over st1 sa S.zf1
    simp only [Bool.false_eq_true, if_false]; refine wpAny_bind ?_; rw [← Array.forIn_toList]; simp only [List.forIn_cons, List.forIn_nil]; refine wpAny_bind (wpAny_bind (wpAny_holding ?_))
    show wpAny _ _ (Builtin.SmallTypes.nextOf (.ref i1) >>= _) _ _ ⟨a, g, d, k0, os⟩
    by_cases l1 : i < n1
    · refine wpAny_bind (D1.item i _ _ _ l1 ta fun x b k1 hx tb sb => wpAny_pure (wpAny_pure (wpAny_bind (wpAny_bind (wpAny_holding ?_)))))
      replace sb : Heap.SameBut i1 a b := sb
      have bb : Beside z TO i1 i2 hp b := fun c o cz _ c1 _ e => sb.extBut _ _ c1 (sa.extBut _ _ cz e)
      have tc := D2.over (D2.over st2 sa S.zf2) sb S.sep1_2
      show wpAny _ _ (Builtin.SmallTypes.nextOf (.ref i2) >>= _) _ _ ⟨b, g, d, k1, os⟩
      by_cases l2 : i < n2
      · refine wpAny_bind (D2.item i _ _ _ l2 tc fun y e k2 hy te se => wpAny_pure (wpAny_pure (wpAny_pure ?_)))
        replace se : Heap.SameBut i2 b e := se
        have size : e.objs.size = hp.objs.size := by rw [se.1, sb.1, sa.1]
        have ze : RjZ e z TI TO f0 true := se.extBut _ _ S.zi2 (sb.extBut _ _ S.zi1 za)
        have ue : IsTupOf2 e TO p q := se.extBut _ _ S.Ti2 (sb.extBut _ _ S.Ti1 (sa.extBut _ _ S.TOz hTO))
        have j1 : St1 (i + 1) e := D1.over tb se S.sep2_1
        show wpAny _ _ (newTuple [x, y] >>= _) _ _ ⟨e, g, d, k2, os⟩; refine wpAny_bind (wpAny_newTuple (wpAny_pure ⟨_, rfl, ?_⟩))
        show Q (.ref e.objs.size) ⟨e.push { cls := .type "tuple", data := .seq #[x, y] }, g, d, k2, os⟩
        have tv : IsTupOf2 (e.push { cls := .type "tuple", data := .seq #[x, y] }) e.objs.size x y := Heap.get?_push_size _ rfl
        rw [size] at tv ⊢
        exact got x y _ k2 l1 l2 hx hy ⟨_, _, Heap.get?_push_of_some _ ze, hf⟩ ⟨_, _, Heap.get?_push_of_some _ ue⟩ (D1.frame _ _ _ j1 fun _ _ _ e => Heap.get?_push_of_some _ e) (D2.frame _ _ _ te fun _ _ _ e => Heap.get?_push_of_some _ e) tv
          fun c o cz cT c1 c2 e => Heap.get?_push_of_some _ (se.extBut _ _ c2 (bb c o cz cT c1 c2 e))
      · have c2 : i = n2 := by omega
        exact wpAny_bind (D2.done ⟨b, g, d, k1, os⟩ _ _ (c2 ▸ tc) fun e x he hx => out e k1 x (.inr c2) (fun c o cz cT c1 c2 y => he _ _ c2 (bb c o cz cT c1 c2 y)) hx)
    · have c1 : i = n1 := by omega
      exact wpAny_bind (D1.done ⟨a, g, d, k0, os⟩ _ _ (c1 ▸ ta) fun e x he hx => out e k0 x (.inl c1) (fun c o cz _ c1 _ y => he _ _ c1 (sa.extBut _ _ cz y)) hx)
theorem rj_pyNext {Q : Option Value → Shared → Prop} (S : ZipSep2 z TI TO i1 i2 fp1 fp2) (D1 : Draws prog w A.in1 i1 fp1 n1 P1 St1) (D2 : Draws prog w A.in1 i2 fp2 n2 P2 St2) (hz : ZipIdle s.heap z TI TO)
    (hTI : IsTupOf2 s.heap TI (.ref i1) (.ref i2)) (hTO : KeepsPair s.heap TO) (st1 : St1 i s.heap) (st2 : St2 i s.heap) (le1 : i ≤ n1) (le2 : i ≤ n2)
    (got : ∀ x y h' tk, i < n1 → i < n2 → P1 i x → P2 i y → ZipIdle h' z TI TO → KeepsPair h' TO → St1 (i + 1) h' → St2 (i + 1) h' → IsTupOf2 h' s.heap.objs.size x y → Beside z TO i1 i2 s.heap h' → Q (some (.ref s.heap.objs.size)) { s with heap := h', toks := tk })
    (out : ∀ h' tk, i = n1 ∨ i = n2 → Beside z TO i1 i2 s.heap h' → Q none { s with heap := h', toks := tk }) : wpAny (model prog w) A (pyNext (.ref z)) Q E s := by
  have ty : s.TypeIs (.ref z) "zip" := by obtain ⟨_, _, e, _⟩ := hz; exact ⟨_, e, rfl⟩
  unfold pyNext; refine wpAny_bind (wpAny_attempt (wpAny_callSpecial?_slot (name := Str.ofString "__next__") ty F.slot_zip_next (wpAny_call_entry F.slot_zip_next ty F.entry_zip_next ?_ (F.args_zip_next_1 _))))
  refine rj_next S D1 D2 hz hTI hTO st1 st2 le1 le2 (fun x y h' tk a b c e f g j k l m => wpAny_pure (got x y h' tk a b c e f g j k l m)) fun h' tk e c b he => ?_
  obtain ⟨o, ho, hc⟩ := he
  exact wpAny_bind (wpAny_isInstance (T := "StopIteration") (b := true) ⟨o, ho, hc⟩ isSubtype_stop (wpAny_pure (out _ _ c b)))
end
end PySem
namespace RJ
open PySem PySem.Spec PyProof.Rows L2
theorem Beside.out {z TI TO i1 i2 : Addr} {h h' : Heap} (b : Beside z TO i1 i2 h h') {c : Addr} {o : Obj} (hc : c ∉ [z, TI, TO, i1, i2]) : h.get? c = some o → h'.get? c = some o := by
  simp only [List.mem_cons, List.not_mem_nil, or_false, not_or] at hc
  exact b c o hc.1 hc.2.2.1 hc.2.2.2.1 hc.2.2.2.2
section
variable {P : Program} {w : World} {K : PySem.W.Frag} {x : Str} {tpos : Pos} {z TI TO i1 i2 : Addr} {n1 n2 : Nat} {tn1 tn2 : Nat → Heap → Prop} {G1 G2 : Hp → Prop} {PV1 PV2 : Nat → V → Prop}
/-- a zip whose tuples go out under a name -/
def ZipTn (z TI TO i1 i2 : Addr) (n : Nat) (tn1 tn2 : Nat → Heap → Prop) (i : Nat) (h : Heap) : Prop := i ≤ n ∧ ZipIdle h z TI TO ∧ IsTupOf2 h TI (.ref i1) (.ref i2) ∧ KeepsPair h TO ∧ tn1 i h ∧ tn2 i h
theorem turn_zipN (A5 : Ap5 z TI TO i1 i2) (D1 : DrawK P w K i1 n1 tn1 G1 PV1) (D2 : DrawK P w K i2 n2 tn2 G2 PV2) :
    Turn P w K (.Name x tpos) (ItG (min n1 n2) (fun H => G1 H ∧ G2 H) fun i xs => ∃ v1 v2, PV1 i v1 ∧ PV2 i v2 ∧ xs = [v1, v2]) [z, TI, TO, i1, i2] z (ZipTn z TI TO i1 i2 (min n1 n2) tn1 tn2) where
  mem := List.mem_cons_self ..
  obj := fun i h ⟨_, ⟨_, _, a, _⟩, b, ⟨_, _, c⟩, d, e⟩ => five (p := fun c => ∃ o, h.get? c = some o ∧ _) ⟨_, a, fun _ q => nomatch q⟩ ⟨_, b, fun _ q => nomatch q⟩ ⟨_, c, fun _ q => nomatch q⟩ (D1.obj i h d) (D2.obj i h e)
  keep := fun i h h' ⟨l, ⟨_, _, a, f⟩, b, ⟨_, _, c⟩, d, e⟩ k => ⟨l, ⟨_, _, k _ (by simp) _ a, f⟩, k _ (by simp) _ b, ⟨_, _, k _ (by simp) _ c⟩, D1.keep _ _ _ d fun o => k i1 (by simp) o, D2.keep _ _ _ e fun o => k i2 (by simp) o⟩
  item := by
    rintro X hP hw hK hc i pins s σ H E I hf ⟨hl, hz, hTI, hTO, h1, h2⟩ ⟨⟨hG1, hG2⟩, hlt⟩
    have none5 : H z = none ∧ H TI = none ∧ H TO = none ∧ H i1 = none ∧ H i2 = none := ⟨(hf _ (by simp)).1, (hf _ (by simp)).1, (hf _ (by simp)).1, (hf _ (by simp)).1, (hf _ (by simp)).1⟩
    obtain ⟨fp1, PD1, St1, DD1, c1, m1, q1, back1, val1⟩ := D1.draws X hP hw hK hc i pins s σ H I hG1 none5.2.2.2.1 h1
    obtain ⟨fp2, PD2, St2, DD2, c2, m2, q2, back2, val2⟩ := D2.draws X hP hw hK hc i pins s σ H I hG2 none5.2.2.2.2 h2
    subst hP hw hK
    refine rj_pyNext (A5.sep m1 m2 q1 q2 none5.1 none5.2.2.1 none5.2.2.2.1 none5.2.2.2.2) DD1 DD2 hz hTI hTO c1 c2 (by omega) (by omega) (fun u u2 h' tk _ _ p1 p2 z' TO' j1 j2 hT hk => ?_) fun h' tk e => absurd e (by omega)
    obtain ⟨v, hv, rv⟩ := val1 i u p1
    obtain ⟨v2, hv2, rv2⟩ := val2 i u2 p2
    have made : ObjOk X.prog X.w (upd H s.heap.objs.size (.tup [v, v2])) h' s.heap.objs.size (.tup [v, v2]) := ⟨by show 2 ≤ sizeLine; decide, [u, u2], .cons rv (.cons rv2 .nil), ⟨_, hT, rfl, _, rfl⟩⟩
    have J : Inv X pins σ (upd H s.heap.objs.size (.tup [v, v2])) { s with heap := h', toks := tk } := I.turnedNew (ch := [z, TI, TO, i1, i2]) (fun c o hb q => Beside.out hk hb q) hf (Nat.le_refl _) made
    have lt5 : ∀ c ∈ [z, TI, TO, i1, i2], c < s.heap.objs.size := by
      obtain ⟨_, _, a, _⟩ := hz
      obtain ⟨_, _, b⟩ := hTO
      obtain ⟨_, e1⟩ := DD1.live _ _ c1
      obtain ⟨_, e2⟩ := DD2.live _ _ c2
      exact five (Heap.lt_size a) (Heap.lt_size hTI) (Heap.lt_size b) (Heap.lt_size e1) (Heap.lt_size e2)
    exact ⟨_, rfl, wpAny_pure ⟨.ref s.heap.objs.size, _, J, rfl, ⟨_, _, rfl, I.hok.fresh (Nat.le_refl _), rfl, v, v2, hv, hv2, rfl⟩, ⟨hlt, z', hk _ _ A5.TIz A5.TITO A5.TIi1 A5.TIi2 hTI, TO', back1 _ _ j1, back2 _ _ j2⟩,
      fun c hcm => (upd_ne (Nat.ne_of_lt (lt5 c hcm))).trans (hf c hcm).1⟩⟩
  done := by
    rintro X hP hw hK hc i pins s σ H E I hf ⟨hl, hz, hTI, hTO, h1, h2⟩ ⟨⟨hG1, hG2⟩, hge⟩
    have none5 : H z = none ∧ H TO = none ∧ H i1 = none ∧ H i2 = none := ⟨(hf _ (by simp)).1, (hf _ (by simp)).1, (hf _ (by simp)).1, (hf _ (by simp)).1⟩
    obtain ⟨fp1, PD1, St1, DD1, c1, m1, q1, back1, val1⟩ := D1.draws X hP hw hK hc i pins s σ H I hG1 none5.2.2.1 h1
    obtain ⟨fp2, PD2, St2, DD2, c2, m2, q2, back2, val2⟩ := D2.draws X hP hw hK hc i pins s σ H I hG2 none5.2.2.2 h2
    subst hP hw hK
    exact rj_pyNext (A5.sep m1 m2 q1 q2 none5.1 none5.2.1 none5.2.2.1 none5.2.2.2) DD1 DD2 hz hTI hTO c1 c2 (by omega) (by omega) (fun _ _ _ _ a b => absurd a (by omega)) fun h' tk _ hk => ⟨rfl, I.turnedL (t' := tk) (ch := [z, TI, TO, i1, i2]) (fun c o hb q => Beside.out hk hb q) hf⟩
  self := fun A i s Q E st h => by
    obtain ⟨_, ⟨_, _, a, _⟩, _⟩ := st
    exact wpAny_pyIter_slot ⟨_, a, rfl⟩ F.slot_zip_iter (wpAny_call_entry F.slot_zip_iter ⟨_, a, rfl⟩ F.entry_zip_iter (show wpAny _ _ (ret (.ref z)) _ _ s from wpAny_pure ⟨_, rfl, "zip", _, ⟨_, a, rfl⟩, F.slot_zip_next.lookup, h⟩) (F.args_zip_iter_1 _))
end
/-- for p in zip(v1, v2) -/
theorem pi_zipN {X : Cx} {x : Str} {e e2 : Expr} {ta : TA} {p pos tpos : Pos} (hg : Gl X "zip") (hm : X.mg "zip" = none) (ha : PA X [e, e2] ta)
    (hs : starEach [e, e2] X.env = (false, eval e X.env) :: starEach [e2] X.env := by rfl) (hpl : (backTo pos (starEach [e2] X.env)).any (·.1) = false := by rfl) :
    PI X (.Name x tpos) (.Call (.Name "zip" p) [e, e2] [] pos) (iZipG ta) :=
  pi_zipGen hg hm ha (fun A5 D1 D2 => ⟨_, turn_zipN A5 D1 D2, fun h hz hTI hTO h1 h2 => ⟨Nat.zero_le _, ⟨_, _, hz, .inl rfl⟩, hTI, ⟨_, _, hTO⟩, h1, h2⟩⟩) hs hpl
end RJ
end

section
set_option maxRecDepth 100000
namespace RJ
open PySem PySem.Spec PyProof.Rows L2
open PySem.W (minD AlikeAll alike alikeAll dataLt)
theorem minD_mem : ∀ (ys : List PyData) (y : PyData), minD y ys ∈ y :: ys
  | [], y => List.mem_cons_self ..
  | z :: zs, y => by
    show zs.foldl _ (if dataLt z y = true then z else y) ∈ y :: z :: zs
    have h := minD_mem zs (if dataLt z y = true then z else y)
    have h' : minD (if dataLt z y = true then z else y) zs ∈ (if dataLt z y = true then z else y) :: zs := h
    rcases List.mem_cons.mp h' with e | e
    · show minD (if dataLt z y = true then z else y) zs ∈ _
      rw [e]
      by_cases c : dataLt z y = true
      · rw [if_pos c]; exact List.mem_cons_of_mem _ (List.mem_cons_self ..)
      · rw [if_neg c]; exact List.mem_cons_self ..
    · exact List.mem_cons_of_mem _ (List.mem_cons_of_mem _ e)
/-- a measure that < respects falls to its least value -/
theorem minD_le {rk : PyData → Int} {Ok : PyData → Prop} (h1 : ∀ x y, Ok x → Ok y → dataLt x y = true → rk x ≤ rk y) (h2 : ∀ x y, Ok x → Ok y → dataLt x y = false → rk y ≤ rk x) :
    ∀ (ys : List PyData) (y : PyData), (∀ z ∈ y :: ys, Ok z) → ∀ z ∈ y :: ys, rk (minD y ys) ≤ rk z
  | [], y, _, z, hz => by
    rw [List.mem_singleton.mp hz]; exact Int.le_refl _
  | w :: ws, y, hok, z, hz => by
    have oky := hok y (List.mem_cons_self ..)
    have okw := hok w (List.mem_cons_of_mem _ (List.mem_cons_self ..))
    have step : rk (if dataLt w y = true then w else y) ≤ rk y ∧ rk (if dataLt w y = true then w else y) ≤ rk w := by
      cases c : dataLt w y with
      | true => exact ⟨h1 w y okw oky c, Int.le_refl _⟩
      | false => exact ⟨Int.le_refl _, h2 w y okw oky c⟩
    have ih := minD_le h1 h2 ws (if dataLt w y = true then w else y) (fun v hv => by
      rcases List.mem_cons.mp hv with e | e
      · rw [e]; split
        · exact okw
        · exact oky
      · exact hok v (List.mem_cons_of_mem _ (List.mem_cons_of_mem _ e)))
    show rk (minD (if dataLt w y = true then w else y) ws) ≤ rk z
    rcases List.mem_cons.mp hz with e | e
    · rw [e]; exact Int.le_trans (ih _ (List.mem_cons_self ..)) step.1
    · rcases List.mem_cons.mp e with e | e
      · rw [e]; exact Int.le_trans (ih _ (List.mem_cons_self ..)) step.2
      · exact ih z (List.mem_cons_of_mem _ e)
/-- min(l, default=None) of alike data -/
def rMinD (K : PySem.W.Frag) : List V → List V → Hp → VK → Prop := fun vs zs H Q => ∃ (a : Addr) (xs : List V) (ds : List PyData), vs = [V.ref a] ∧ zs = [V.non] ∧ H a = some (.lst xs) ∧ DpAll K H xs ds ∧ AlikeAll ds ∧ PyData.depthAll ds ≤ 60 ∧
  (ds = [] → Q .non H) ∧ ∀ (d : PyData) (ds' : List PyData) (i : Nat) (x : V), ds = d :: ds' → xs[i]? = some x → ds[i]? = some (minD d ds') → Q x H
theorem readsAll_ix {h : Heap} : ∀ {us : List Value} {ds : List PyData} {as : List Addr} {i : Nat} {u : Value}, ReadsAll h us ds as → us[i]? = some u → ∃ d bs, ds[i]? = some d ∧ Reads h u d bs
  | _, _, _, 0, u, .cons (d := d) (as := as) r _, e => by
    cases e
    exact ⟨d, as, rfl, r⟩
  | _, _, _, i + 1, u, .cons _ t, e => by
    obtain ⟨d, bs, h1, h2⟩ := readsAll_ix (i := i) t e
    exact ⟨d, bs, h1, h2⟩
theorem cr_minD {X : Cx} (hc : X.calm = true) (hu : X.A.units + 64 < cLine) : CallRK X (.builtin "min") [Str.ofString "default"] (rMinD X.K) := by
  intro pins s σ H xs0 zs us ws Q I r rz h
  obtain ⟨a, xs, ds, rfl, rfl, ha, hd, hal, hdep, q0, q1⟩ := h
  obtain ⟨its, rv, hl, _⟩ := I.list (SqL.of ha)
  rw [Vals.ref1 r]
  obtain ⟨u, rfl, ru⟩ := vals1 rz
  cases ru
  obtain ⟨as, hr⟩ := Dp.readsAll I ds xs its hd rv
  show wpAny _ _ (call (.builtin "min") [.ref a] [(Str.ofString "default", Value.none)]) _ _ s
  refine PySem.W.min_list_default (I.ok.hd hc) hl.isList hr hal (by omega) (fun e h' tk hk => ⟨.non, H, I.kept hk, rfl, q0 e⟩) fun y ys i v h' tk bs e hv hrd hk => ?_
  have hv' : its[i]? = some v := by simpa using hv
  have hl2 := rv.length
  have hi : i < xs.length := by
    have := (List.getElem?_eq_some_iff.mp hv').1
    omega
  obtain ⟨u2, hu2, ru2⟩ := rv.get (List.getElem?_eq_getElem hi)
  rw [hv'] at hu2
  cases hu2
  obtain ⟨d2, bs2, hd2, hr2⟩ := readsAll_ix hr hv'
  have heq : d2 = minD y ys := ((PyProof.Rows.reads_det (h := s.heap) (h' := h') (fun b o e _ => hk b o e) hr2 hrd).1).symm
  exact ⟨xs[i], H, I.kept hk, ru2, q1 y ys i _ e (List.getElem?_eq_getElem hi) (by rw [hd2, heq])⟩
end RJ
end

section
set_option maxRecDepth 100000
namespace RJ
open PySem PySem.Spec PyProof.Rows L2
/-- the signs of a text, each a text -/
def signsV (x : Str) : List V := x.cps.toList.map fun c => V.str ⟨#[c]⟩
theorem call_list_text {X : Cx} (hc : X.calm = true) : CallR X (.type "list") (fun xs H Q => ∃ x : Str, xs = [.str x] ∧ x.cps.size ≤ sizeLine ∧ ∀ l, H l = none → Q (.ref l) (upd H l (.lst (signsV x)))) := by
  intro pins s σ H xs us Q I r h
  obtain ⟨x, rfl, hz, q⟩ := h
  obtain ⟨u, rfl, rx⟩ := vals1 r
  obtain ⟨t, rfl⟩ := rx
  refine PySem.call_list_str (I.ok.hd hc) x t (hn := hz) fun h' tk acc c' hk hS hacc => ?_
  have hv : Vals (signsV x) acc.toList := by
    have hl : (signsV x).length = acc.toList.length := by
      rw [signsV, List.length_map, Array.length_toList, Array.length_toList]; exact hacc.1.symm
    have key : ∀ j u, acc.toList[j]? = some u → ∃ v, (signsV x)[j]? = some v ∧ RelV v u := fun j u hu => by
      obtain ⟨c, t', hcx, rfl⟩ := hacc.2 j u (by rw [← Array.getElem?_toList]; exact hu)
      exact ⟨.str ⟨#[c]⟩, by rw [signsV, List.getElem?_map]; simp [hcx], ⟨t', rfl⟩⟩
    clear hacc hS hk
    revert hl key
    generalize signsV x = vs
    generalize acc.toList = ws
    intro hl key
    induction vs generalizing ws with
    | nil =>
      cases ws with
      | nil => exact .nil
      | cons _ _ => cases hl
    | cons v vs ih =>
      cases ws with
      | nil => cases hl
      | cons w ws =>
        obtain ⟨v', e, r⟩ := key 0 w rfl
        cases e
        exact .cons r (ih ws (Nat.succ.inj hl) fun j u hu => key (j + 1) u hu)
  refine ⟨.ref s.heap.objs.size, _, I.laid (t' := tk) hk (Nat.le_refl _) (show ObjOk X.prog X.w _ h' _ (.lst (signsV x)) from ⟨?_, acc.toList, c', hv, by simpa using hS⟩), rfl, q _ (I.hok.fresh (Nat.le_refl _))⟩
  rw [signsV, List.length_map, Array.length_toList]; exact hz
theorem op_mul_text {X : Cx} : OpR X (binaryOp .Mult) (fun x y H Q => ∃ (a : Str) (n : Int), x = .str a ∧ y = .int n ∧ MulOk a n ∧ Q (.str (Txt.mul a n)) H) := by
  intro pins s σ H x y v u Q I rx ry h
  obtain ⟨a, n, rfl, rfl, hok, q⟩ := h
  obtain ⟨t, rfl⟩ := rx
  obtain ⟨t2, rfl⟩ := ry
  exact PySem.SB.mul hok fun t' k => ⟨.str _, H, I.kept (t' := k) fun _ _ z => z, ⟨_, rfl⟩, q⟩
end RJ
end

section
set_option maxRecDepth 100000
namespace RJ
open PySem PySem.Spec PyProof.Rows L2
/-! ### rules that name the written part: within a comprehension it can't be found -/
section
variable {X : Cx} {K : PySem.W.Frag}
theorem ix_listK (h : X.K = K) : IxR X (rIxL K) := h ▸ ix_list
theorem ix_tupK (h : X.K = K) : IxR X (rIxT K) := h ▸ ix_tup
theorem sl_listK (h : X.K = K) : SlR X (rSlL K) := h ▸ sl_list
theorem sl_tupAK (h : X.K = K) : SlR X (rSlA K) := h ▸ sl_tupA
theorem call_len_seqK (h : X.K = K) : CallR X (.builtin "len") (fun xs H Q => ∃ p ys, xs = [V.ref p] ∧ (SqL K H p ys ∨ SqT K H p ys) ∧ Q (.int (ys.length : Int)) H) := by subst h; exact call_len_seq
theorem call_list_ofK (h : X.K = K) : CallR X (.type "list") (fun xs H Q => ∃ p ys, xs = [V.ref p] ∧ (SqL K H p ys ∨ SqT K H p ys) ∧ ∀ l, H l = none → Q (.ref l) (upd H l (.lst ys))) := by subst h; exact call_list_of
theorem op_in_seqK (h : X.K = K) : OpR X (compareOp .In) (rIn K false) := h ▸ op_in_seq
theorem op_notIn_seqK (h : X.K = K) : OpR X (compareOp .NotIn) (rIn K true) := h ▸ op_notIn_seq
theorem pe_fldK {e : Expr} {f : Str} {pos : Pos} {ta : TE} (h : X.K = K) (he : PE X e ta) (hb : attributeBase e f X.env (eval e X.env) = eval e X.env) : PE X (.Attribute e f pos) (tFld K ta f) := by subst h; exact pe_fld he hb
theorem pe_bmK {T id : String} {name : Str} {r : V → List V → Hp → VK → Prop} {o e : Expr} {es : List Expr} {apos cpos : Pos} {to : TE} {t : TA} (h : X.K = K) (pa : PlainAttrs T) (slot : Slot T name id) (hty : typeOf (.builtin id) = pure (.type "method_descriptor")) (hm : MtR X id r) (ho : PE X o to) (ha : PA X (e :: es) t)
    (hbase : attributeBase o name X.env (eval o X.env) = eval o X.env := by rfl)
    (hfew : ((backTo cpos (starEach (e :: es) X.env)).all (fun x => !x.1) && (backToKw cpos (keywordEach [] X.env)).all (fun x => x.1.isSome)
      && decide ((e :: es).length + ([] : List Keyword).length + (if ([] : List Keyword).isEmpty then 0 else 1) < 30)) = true := by rfl)
    (hline : (apos.endLine == cpos.line) = true := by rfl) (hs : starEach (e :: es) X.env = (false, eval e X.env) :: starEach es X.env := by rfl) (hplain : (backTo cpos (starEach es X.env)).any (·.1) = false := by rfl) :
    PE X (.Call (.Attribute o name apos) (e :: es) [] cpos) (tBM K T r to t) := by subst h; exact pe_bm pa slot hty hm ho ha hbase hfew hline hs hplain
end
end RJ
end

section
set_option maxRecDepth 100000
set_option maxHeartbeats 2000000
namespace RJ
open PySem PySem.Spec PyProof.Rows L2

/-- an error's own __init__, that calls the one above it by super() -/
structure SupF (P : Program) (K : PySem.W.Frag) (C : Addr) (qual : Str) (st : Stmt) (f : Addr) (fd : FuncData) : Prop where
  ex : ∃ (oc : Value) (od : Option Addr) (dV kV doc pm : Value) (an : Option Addr) (cda : Addr) (ct : Value) (osl : Array (Option Value)) (cc : Addr),
    fd = PySem.W.ksFn "__init__" qual (C8.fnArgs st) (C8.fnBody st) (C8.fnScope st) dV kV doc pm an (.ref cda) ct cc ∧ K.lookup f = some ⟨oc, od, .func fd, osl⟩ ∧ PySem.W.codeIn K (.ref cda) qual = true ∧
    (∃ (ccl : Value) (cdd : Option Addr) (vs : Array Value) (ccs : Array (Option Value)) (file : Str) (tf : Tok), K.lookup cda = some ⟨ccl, cdd, .fields vs, ccs⟩ ∧ vs[2]? = some (.str file tf) ∧ ((P.main.file : Str) == file) = true) ∧
    ∃ (cl : Value) (cld : Option Addr) (csl : Array (Option Value)), K.lookup cc = some ⟨cl, cld, .cell (some (.ref C)), csl⟩
  top : (P.main.scope.names.lookup ("super" : Str)).isSome = false
  sup : PySem.W.ks_superIn K C C "__init__" = some (some (.builtin "ValueError.__init__"))
  sub : PySem.W.subIn K (.ref C) (.type "ValueError") = some true
  mro : PySem.W.mroIn K C (.ref C) = some true
  opq : PySem.W.nsIn K PySem.cStatics "thirdparty.any" = some none
  oex : OexC K C

/-- a look at the names of such a def -/
def supB (N ps : List Str) (sc : Scope) : Bool :=
  decide (sc.kind = .function) && (!sc.isCoroutine && (!sc.isGenerator && (decide N.Nodup && (decide (N.take ps.length = ps) && (ps.all (fun x => decide (sc.names.lookup x = some .local)) && (sc.names.all (fun y => !decide (y.2 = .cell)) &&
    (sc.names.all (fun y => !decide (y.2 = .free) || decide (y.1 = "__class__")) && (decide (sc.names.lookup ("__class__" : Str) = some .free) && decide (sc.names.lookup ("super" : Str) = some .globalImplicit)))))))))
structure SupS (N ps : List Str) (sc : Scope) : Prop where
  kind : sc.kind = .function
  co : sc.isCoroutine = false
  gen : sc.isGenerator = false
  nd : N.Nodup
  pre : N.take ps.length = ps
  par : ∀ x ∈ ps, sc.names.lookup x = some .local
  nocell : ∀ y ∈ sc.names, y.2 ≠ .cell
  only : ∀ y ∈ sc.names, y.2 = .free → y.1 = "__class__"
  cls : sc.names.lookup ("__class__" : Str) = some .free
  sup : sc.names.lookup ("super" : Str) = some .globalImplicit
theorem supS_of {N ps : List Str} {sc : Scope} (h : supB N ps sc = true) : SupS N ps sc := by
  unfold supB at h
  simp only [Bool.and_eq_true, Bool.not_eq_true', decide_eq_true_eq, List.all_eq_true, Bool.or_eq_true, decide_eq_false_iff_not] at h
  obtain ⟨h1, h2, h3, h4, h5, h6, h7, h8, h9, h10⟩ := h
  exact ⟨h1, h2, h3, h4, h5, h6, h7, fun y hy e => (h8 y hy).elim (fun z => absurd e z) id, h9, h10⟩

theorem lookup_one {y : Str} {u : Value} : ∀ {l : List (Str × Value)}, (y, u) ∈ l → (∀ u', (y, u') ∈ l → u' = u) → l.lookup y = some u
  | [], h, _ => absurd h (by simp)
  | (a, b) :: l, h, hu => by
    by_cases e : y = a
    · subst e
      have := hu b (by simp)
      subst this
      simp [List.lookup]
    · have hb : (y == a) = false := by simpa using e
      have h' : (y, u) ∈ l := by
        rcases List.mem_cons.mp h with z | z
        · exact absurd (congrArg Prod.fst z) e
        · exact z
      show (match y == a with | true => some b | false => l.lookup y) = some u
      rw [hb]
      exact lookup_one h' fun u' z => hu u' (List.mem_cons_of_mem _ z)
theorem zip_lookup {ps : List Str} {us : List Value} {i : Nat} {y : Str} {u : Value} (nd : ps.Nodup) (h1 : ps[i]? = some y) (h2 : us[i]? = some u) : (ps.zip us).reverse.lookup y = some u := by
  refine lookup_one ?_ fun u' z => ?_
  · rw [List.mem_reverse]
    have : (ps.zip us)[i]? = some (y, u) := by rw [List.getElem?_zip_eq_some]; exact ⟨h1, h2⟩
    exact List.mem_of_getElem? this
  · rw [List.mem_reverse] at z
    obtain ⟨j, hj⟩ := List.mem_iff_getElem?.mp z
    rw [List.getElem?_zip_eq_some] at hj
    have e := nodup_ix nd h1 hj.1
    subst e
    exact Option.some.inj (hj.2.symm.trans h2)

/-- the body's context -/
def cxS (P : Program) (w : World) (K : PySem.W.Frag) (mg : Str → Option Value) (base : Heap) (N : List Str) (qual : Str) (sc : Scope) (f cda cc : Addr) (A : Around) (outer : List Env) (s : Shared) (H : Hp) : Cx where
  prog := P
  w := w
  K := K
  mg := mg
  base := base
  A := A.deeper (PySem.W.ksEnv qual sc s.heap.objs.size f (.ref cda) cc)
  N := N
  s_0 := s
  H_0 := H
  env := PySem.W.ksEnv qual sc s.heap.objs.size f (.ref cda) cc
  outer := outer
  stack := PySem.W.ksEnv qual sc s.heap.objs.size f (.ref cda) cc :: outer
  ex := []
  calm := true
  fn := fun _ => false
  pn := []
  xe := fun _ _ => False

section
variable {P : Program} {w : World} {K : PySem.W.Frag} {mg : Str → Option Value} {base : Heap} {N ps : List Str} {qual : Str} {sc : Scope} {f cda cc : Addr} {A : Around} {outer : List Env} {s : Shared} {H : Hp} {us : List Value} {vs : List V}
theorem inv_startS {cv : Value} (S : SupS N ps sc) (hd : A.handled = none) (e0 : Env0 P w K mg base A outer s H) (hl : vs.length = ps.length) (r : Vals vs us) {h1 : Heap} {tk : Nat}
    (hns : h1.Ns s.heap.objs.size fun x => (ps.zip us).reverse.lookup x) (hk : ∀ b o, s.heap.get? b = some o → h1.get? b = some o) (hcc : base.IsCell cc (some cv)) :
    Inv (cxS P w K mg base N qual sc f cda cc A outer s H) [] (L2.start N vs) H { s with heap := h1, toks := tk } := by
  have hpl : ps.length ≤ N.length := by have := congrArg List.length S.pre; rw [List.length_take] at this; omega
  have noA : ∀ b : Addr, b ∉ (cxS P w K mg base N qual sc f cda cc A outer s H).ex := fun b z => absurd (show b ∈ ([] : List Addr) from z) (by simp)
  obtain ⟨oc, hoc, hdc⟩ := hcc
  have cl : ∀ (y : Str) (c : Addr), (cxS P w K mg base N qual sc f cda cc A outer s H).env.cells.lookup y = some c → c = cc ∧ y = "__class__" := fun y c h => by
    have h' : ([("__class__", cc)] : List (Str × Addr)).lookup y = some c := h
    by_cases e : y = "__class__"
    · subst e; exact ⟨(Option.some.inj h').symm, rfl⟩
    · have hb : (y == ("__class__" : Str)) = false := by simpa using e
      have : (match y == ("__class__" : Str) with | true => some cc | false => none) = some c := h'
      rw [hb] at this; cases this
  refine ⟨⟨e0.mod, S.kind, rfl, rfl, Nat.le_refl _, fun y z c p q => (cl y c p).2.trans (cl z c q).2.symm, fun y hy => ?_, fun y c z _ => Bool.noConfusion (show false = true from z), fun _ => hd, Around.frames_deeper e0.frames, .inr ⟨rfl, rfl⟩,
    fun b z => absurd z (noA b), e0.bs, e0.bsz, fun b _ _ => noA b, fun b z => absurd z (noA b), e0.funs, e0.frf⟩, rfl, e0.bare, Un.kept hk, ⟨_, hns, fun i y v p q z => ?_⟩, fun y c p => ?_, e0.hok.fresh (Nat.le_refl _), fun y c p => ?_,
    fun p hp => absurd (show p ∈ ([] : List (Addr × Obj)) from hp) (by simp), e0.hok.kept hk, ?_⟩
  · have hy : sc.names.lookup y = some .cell ∨ sc.names.lookup y = some .free := hy
    rcases hy with hy | hy
    · exact absurd rfl (S.nocell _ (PySem.mem_of_lookup hy))
    · have := S.only _ (PySem.mem_of_lookup hy) rfl
      subst this
      exact ⟨cc, rfl⟩
  · have hi : i < vs.length := by
      unfold L2.start at q
      by_cases hi : i < vs.length
      · exact hi
      · rw [List.getElem?_append_right (by simpa using hi), List.getElem?_replicate] at q
        split at q <;> cases q
    have ha : vs[i]? = some v := by
      unfold L2.start at q
      rw [List.getElem?_append_left (by simpa using hi), List.getElem?_map] at q
      cases e : vs[i]? with
      | none => rw [e] at q; cases q
      | some a => rw [e] at q; cases q; rfl
    obtain ⟨u, hu, rv⟩ := r.get ha
    have hp : ps[i]? = some y := by rw [← S.pre, List.getElem?_take_of_lt (by omega)]; exact p
    exact ⟨u, rv, .inl ⟨S.par y (List.mem_of_getElem? hp), zip_lookup (by rw [← S.pre]; exact S.nd.sublist (List.take_sublist _ _)) hp hu⟩⟩
  · obtain ⟨rfl, _⟩ := cl y c p
    exact ⟨some cv, oc, hk _ _ (e0.bs _ _ hoc).1, hdc⟩
  · obtain ⟨rfl, _⟩ := cl y c p
    exact (e0.bs _ _ hoc).2
  · unfold L2.start
    show _ = N.length
    rw [List.length_append, List.length_map, List.length_replicate]
    omega
end

section
variable {X : Cx} {pins : List (Addr × Obj)} {σ : L2.St} {H : Hp} {s : Shared} {a C u : Addr} {us : List Value} {Q : Value → Shared → Prop} {E : Value → Shared → Prop} {A : Around}
/-- the bound __init__ of ValueError called: what it lays down is not told -/
theorem call_mw (T : OexC X.K C) (I : Inv X pins σ H s) (e : H a = some (exo a C none)) (hu : s.heap.get? u = some (PySem.W.kxs_mw "ValueError.__init__" a)) (hl : us.length ≤ sizeLine) (h : ∀ s', Inv X pins σ H s' → Q .none s') :
    wpAny (model X.prog X.w) A (call (.ref u) us) Q E s := by
  obtain ⟨nm, q, N, bs, bm, sn, sub, ab, col, dd, k0, k1, k2, k3, k5, hC, hbm⟩ := T.cls
  obtain ⟨t1, ho⟩ := exo_at I.hok e
  have hCs := I.kIn _ _ hC
  obtain ⟨hp, g, d, t, os⟩ := s
  refine wpAny_call (codeAny_of_tree ?_)
  show wpAny _ A.in1 (callAny (.ref u) _) _ _ _
  unfold callAny
  refine wpAny_bind (wpAny_load hu ?_)
  simp only [PySem.W.kxs_mw, (by decide : (Value.type "method-wrapper" == Value.type "method" || Value.type "method-wrapper" == Value.type "builtin_function_or_method" || Value.type "method-wrapper" == Value.type "method-wrapper") = true), if_true]
  refine PySem.W.KFB.if_so (by decide) (wpAny_bind (PySem.W.check_bound_init F.excBase_ValueError.toExcCallFacts hCs ho rfl (wpAny_bind (wpAny_pure (wpAny_pure ⟨plainId_quiet F.excBase_ValueError.init.plain _, codeAny_builtin F.excBase_ValueError.initEntry ?_⟩)))))
  refine PySem.W.exc_init_tree (cls := .ref C) (t0 := t1) (dv := none) (c2 := .none) (c3 := .none) (b4 := .bool false) ho hl fun h' k hx _ => ?_
  have J := I.write (t' := t) (x := a) (e := a) (o := exo a C none) (by rw [e]; exact True.intro) (.inl rfl) k ⟨_, hx⟩ (exo_ok hx)
  have eu : upd H a (exo a C none) = H := funext fun b => by
    by_cases hb : b = a
    · subst hb; rw [upd_same, e]
    · rw [upd_ne hb]
  rw [eu] at J
  exact h _ J
end

section
variable {X : Cx} {σ : L2.St} {H : Hp} {s : Shared} {a C f cda cc : Addr} {qual : Str} {st : Stmt} {fd : FuncData} {e : Expr} {ta : TA} {p0 p1 p2 p3 p4 : Pos} {ar : Arg} {body : List Stmt} {pl : Sem Bool}
/-- super().__init__(e), where C is the class around the def and the object's own -/
theorem super_expr (F : SupF X.prog X.K C qual st f fd) (hm : X.mg "super" = none) (hc1 : X.env.kindOf "super" = some .globalImplicit) (hc2 : X.env.kindOf "__class__" = some .free) (hc3 : X.env.kindOf ar.arg = some .local) (hfu : X.env.func = some f)
    (hcl : ∀ cc', (∃ cl cld csl, X.K.lookup cc' = some ⟨cl, cld, .cell (some (.ref C)), csl⟩) → cc' = cc → X.env.cells.lookup ("__class__" : Str) = some cc') (hcc : ∃ (cl : Value) (cld : Option Addr) (csl : Array (Option Value)), X.K.lookup cc = some ⟨cl, cld, .cell (some (.ref C)), csl⟩) (hco : X.env.code = .ref cda)
    (hcd : ∃ (ccl : Value) (cdd : Option Addr) (vs : Array Value) (ccs : Array (Option Value)) (file : Str) (tf : Tok), X.K.lookup cda = some ⟨ccl, cdd, .fields vs, ccs⟩ ∧ vs[2]? = some (.str file tf) ∧ ((X.prog.main.file : Str) == file) = true)
    (hp : (fd.params.posonlyargs ++ fd.params.args).head? = some ar) (hi : interactive X.env = false) (hs : swapsWith (.Call (.Attribute (.Call (.Name "super" p0) [] [] p1) "__init__" p2) [e] [] p3) none p4.line X.env = pure false)
    (hev : eval (.Call (.Attribute (.Call (.Name "super" p0) [] [] p1) "__init__" p2) [e] [] p3) X.env = (do
      let ov ← attributeBase (.Call (.Name "super" p0) [] [] p1) "__init__" X.env (eval (.Call (.Name "super" p0) [] [] p1) X.env)
      standAt p2.atName
      let (g, first) ← holding [ov] (getMethod ov "__init__" pl)
      callWith p3 g first (backTo p3 (starEach [e] X.env)) []))
    (hst : starEach [e] X.env = (false, eval e X.env) :: starEach [] X.env) (hN : X.N[0]? = some ar.arg) (hσ : σ[0]? = some (some (.ref a))) (I : Inv X [] σ H s) (ea : H a = some (exo a C none)) (hta : PA X [e] ta) (q : ta σ H fun xs H1 => H1 = H ∧ xs.length ≤ 1000) :
    _root_.PySem.wpAt (model X.prog X.w) X.A (.func body X.env) (exec (.Expr (.Call (.Attribute (.Call (.Name "super" p0) [] [] p1) "__init__" p2) [e] [] p3) p4) X.env) (fun fl s' => fl = .next ∧ Inv X [] σ H s') X.xe s := by
  obtain ⟨oc, od, dV, kV, doc, pm, an, cda', ct, osl, cc', hfd, lk, -⟩ := F.ex
  obtain ⟨ccl, cdd, vc, ccs, file, tf, hcode, hvc, hfile⟩ := hcd
  obtain ⟨cl, cld, csl, hcell⟩ := hcc
  obtain ⟨mb, hb1, hb2⟩ := I.mod.blt
  obtain ⟨m, hns, hlk⟩ := id I.loc
  obtain ⟨u, ru, hu⟩ := hlk 0 ar.arg (.ref a) hN hσ (.inl hc3)
  obtain rfl : u = Value.ref a := ru
  have hma : m ar.arg = some (.ref a) := by
    rcases hu with ⟨_, z⟩ | ⟨z, _⟩
    · exact z
    · rcases z with z | z <;> (rw [hc3] at z; cases z)
  obtain ⟨nm, qn, N0, bs, bm, sn, sub, ab, col, dd, k0, k1, k2, k3, k5, hC, hbm⟩ := F.oex.cls
  obtain ⟨t1, ho⟩ := exo_at I.hok ea
  have KX := I.kIn
  have hCs := KX _ _ hC
  have hsc : ∃ cd, PySem.W.clsIn X.K C = some cd := by unfold PySem.W.clsIn; rw [hC]; exact ⟨_, rfl⟩
  obtain ⟨cdC, hcdC⟩ := hsc
  have hal : PySem.W.alongIn X.K "__init__" ((cdC.mro.dropWhile (· != .ref C)).drop 1) = some (some (.builtin "ValueError.__init__")) := by
    have z := F.sup
    unfold PySem.W.ks_superIn at z
    rw [hcdC] at z
    exact z
  have hxC : a ≠ C := fun z => by
    rw [z, hCs] at ho
    cases ho
  refine ks_wpAt_Expr_any (ks_wpAt_MethodCall (pl := pl) (ks_wpAt_super_base (of := ⟨oc, od, .func fd, osl⟩) hc1 hc2 (by decide) hfu (KX _ _ lk) rfl hp hco (KX _ _ hcode) rfl hvc hfile F.top ?_) hev) hi hs
  · refine PySem.W.ks_loadName_global I.ok.kind hc1 (Calls.loadGlobal_builtin (by rw [I.ok.glob]; exact I.mod.glob.keeps I.bk) hm (by rw [I.ok.blt]; exact hb1.keeps I.bk) ((hb2 "super" (by decide)).trans (by decide +kernel : bootBuiltins "super" = some (.type "super"))) ⟨rfl, ?_⟩)
    refine wpAny_loadName_free I.ok.kind hc2 (hcl cc ⟨_, _, _, hcell⟩ rfl) ⟨_, KX _ _ hcell, rfl⟩ (wpAny_loadName_local I.ok.kind hc3 hns hma (ks_wpAny_isType_cls hCs rfl ⟨rfl, ?_⟩))
    obtain ⟨hp, g, d, t, os⟩ := s
    refine ks_wpAny_call_super hCs rfl ho rfl (fun c z => by cases z) (PySem.W.looks_mroIn KX F.mro) fun h' e1 k => ?_
    have I1 : Inv X [] σ H ⟨h', g, d, t, os⟩ := I.kept (t' := t) k
    have I2 : W.InstAt h' a { cls := .ref C, dict := none, data := .fields #[.ref t1, .none, .none, .none, .bool false, .none] } C none := ⟨k _ _ ho, rfl, rfl, trivial⟩
    have hmr : W.Looks (model X.prog X.w) h' (mroOf (.ref C)) cdC.mro := (W.looks_clsIn I1.kIn hcdC).andThen .now
    refine PySem.W.kxs_getMethod PySem.W.kxs_ValueError e1 (PySem.W.looks_opaque I1.kIn F.opq) hmr rfl I1.kIn hal (I2.type.andThen (PySem.W.looks_subIn I1.kIn F.sub)) hxC (by decide) ?_
    have I3 : Inv X [] σ H ⟨h'.push (PySem.W.kxs_mw "ValueError.__init__" a), g, d, t + 1, os⟩ := I1.kept (t' := t + 1) fun b o z => Heap.get?_push_of_some _ z
    have hu3 : (h'.push (PySem.W.kxs_mw "ValueError.__init__" a)).get? h'.objs.size = some (PySem.W.kxs_mw "ValueError.__init__" a) := Heap.get?_push_at rfl rfl
    have I4 : Inv X [(h'.objs.size, PySem.W.kxs_mw "ValueError.__init__" a)] σ H ⟨h'.push (PySem.W.kxs_mw "ValueError.__init__" a), g, d, t + 1, os⟩ := I3.pins_of fun p hp => by
      obtain rfl : p = (h'.objs.size, PySem.W.kxs_mw "ValueError.__init__" a) := by simpa using hp
      exact ⟨hu3, I1.hok.fresh (Nat.le_refl _), Nat.ne_of_gt I1.lt, I1.nofs (Nat.le_refl _), fun v z => by cases z⟩
    show wpAny _ _ (callWith p3 (.ref h'.objs.size) [] (backTo p3 (starEach [e] X.env)) []) _ _ _
    have hrun := hta.run p3 [(h'.objs.size, PySem.W.kxs_mw "ValueError.__init__" a)] _ σ H _ I4 q
    rw [hst] at hrun ⊢
    refine PySem.W.kxs_callWith (i := "ValueError.__init__") (x := a) rfl (Calls.evalArgs_plain (thn hrun fun us s1 hh => ?_))
    obtain ⟨vs, H1, I5, r5, e5, hl5⟩ := hh
    subst e5
    have hlu : us.length ≤ sizeLine := by
      rw [← Paired.length r5, sizeLine_eq]
      omega
    refine ⟨(I5.pin (h'.objs.size, PySem.W.kxs_mw "ValueError.__init__" a) (List.mem_append_right _ List.mem_cons_self)).1, ?_⟩
    exact call_mw F.oex I5 ea (I5.pin (h'.objs.size, PySem.W.kxs_mw "ValueError.__init__" a) (List.mem_append_right _ List.mem_cons_self)).1 hlu fun s' J => ⟨rfl, J.pins_of fun p hp => absurd hp (by simp)⟩
end

section
variable {P : Program} {w : World} {K : PySem.W.Frag} {mg : Str → Option Value} {base : Heap}
/-- the def by its body: super().__init__(e), then the fields -/
theorem fn_super {C : Addr} {qual : Str} {st : Stmt} {f : Addr} {fd : FuncData} {N ps : List Str} {k : Nat} {sp : Sp} {e : Expr} {rest : List Stmt} {p0 p1 p2 p3 p4 : Pos} {ar : Arg} {p' : List Str} (F : SupF P K C qual st f fd) (hm : mg "super" = none)
    (S : SupS N ps (C8.fnScope st)) (hb : C8.fnBody st = .Expr (.Call (.Attribute (.Call (.Name "super" p0) [] [] p1) "__init__" p2) [e] [] p3) p4 :: rest) (hp : ((C8.fnArgs st).posonlyargs ++ (C8.fnArgs st).args).head? = some ar) (hps : ps = ar.arg :: p')
    (len : ∀ vs H Q E, sp vs H Q E → vs.length = ps.length) (self0 : ∀ vs H Q E, sp vs H Q E → ∃ a vs', vs = .ref a :: vs' ∧ H a = some (exo a C none))
    {pl : Env → Sem Bool} (hev : ∀ env : Env, eval (.Call (.Attribute (.Call (.Name "super" p0) [] [] p1) "__init__" p2) [e] [] p3) env = (do
      let ov ← attributeBase (.Call (.Name "super" p0) [] [] p1) "__init__" env (eval (.Call (.Name "super" p0) [] [] p1) env)
      standAt p2.atName
      let (g, first) ← holding [ov] (getMethod ov "__init__" (pl env))
      callWith p3 g first (backTo p3 (starEach [e] env)) []))
    (he : ∀ env : Env, starEach [e] env = (false, eval e env) :: starEach [] env) (hs : ∀ (env : Env) o, swapsWith (.Call (.Attribute (.Call (.Name "super" p0) [] [] p1) "__init__" p2) [e] [] p3) none o env = pure false)
    (hbody : ∀ (cda cc : Addr) (A : Around) (outer : List Env) (s : Shared) (H : Hp) (vs : List V) (Q : VK) (E : XK), Room k (A.deeper (PySem.W.ksEnv qual (C8.fnScope st) s.heap.objs.size f (.ref cda) cc)) → sp vs H Q E →
      ∃ ta t, PA (cxS P w K mg base N qual (C8.fnScope st) f cda cc A outer s H) [e] ta ∧ PSs (cxS P w K mg base N qual (C8.fnScope st) f cda cc A outer s H) rest t ∧
        (ta (L2.start N vs) H fun xs H1 => H1 = H ∧ xs.length ≤ 1000) ∧ t { nx := fun _ H' => Q .non H', rt := Q } (L2.start N vs) H) : FnOk P w K mg base C8.CX0 (k + 1) f fd ps sp := by
  refine ⟨len, fun A outer s H args us vs Q E hr e0 hbd r hsp => ?_⟩
  have hl := len _ _ _ _ hsp
  obtain ⟨a, vs', rfl, ea⟩ := self0 _ _ _ _ hsp
  obtain ⟨oc, od, dV, kV, doc, pm, an, cda, ct, osl, cc, rfl, lk, hcd, ⟨ccl, cdd, vc, ccs, file, tf, hcode, hvc, hfile⟩, cl, cld, csl, hcell⟩ := F.ex
  have KX : K.In s.heap := e0.mod.kin.keeps fun b o e => (e0.bs b o e).1
  have lim : s.heap.NoLimit := e0.mod.nolimit.keeps fun b o e => (e0.bs b o e).1
  refine PySem.ks_codeAny_call_defAt (body := C8.fnBody st) hr.depth (KX _ _ lk) rfl lim (PySem.W.codeRec_of KX hcd) rfl hbd S.nocell (fun y hy => S.par _ (List.of_mem_zip (a := y.1) (b := y.2) hy).1) (fun h1 hns hk => ?_) S.co S.gen S.kind
  have I : Inv (cxS P w K mg base N qual (C8.fnScope st) f cda cc A outer s H) [] (L2.start N (.ref a :: vs')) H { s with heap := h1, toks := s.toks + (ps.zip us).length } := inv_startS (cv := .ref C) S hr.hd e0 hl r hns hk ⟨_, e0.mod.kin _ _ hcell, rfl⟩
  obtain ⟨ta, t, hta, ht, hq, hq2⟩ := hbody cda cc A outer s H _ Q E (hr.deeper _) hsp
  rw [hb]
  have hN0 : N[0]? = some ar.arg := by
    have : (N.take ps.length)[0]? = some ar.arg := by rw [S.pre, hps]; rfl
    rwa [List.getElem?_take_of_lt (by rw [hps]; simp)] at this
  refine ks_wpAt_execs_cons (ks_wpAt_mono (super_expr (X := cxS P w K mg base N qual (C8.fnScope st) f cda cc A outer s H) (cc := cc) (cda := cda) (ar := ar) F hm S.sup S.cls (S.par _ (by rw [hps]; simp)) rfl (fun cc' _ z => by rw [z]; rfl) ⟨cl, cld, csl, hcell⟩ rfl ⟨ccl, cdd, vc, ccs, file, tf, hcode, hvc, hfile⟩ hp (by show (decide _ && _) = false; first | rfl | simp [cxS, S.kind]) (hs _ _) (hev _) (he _) hN0 rfl I ea hta hq) (fun fl s' hh => ?_) fun _ _ z => z.elim)
  obtain ⟨rfl, J⟩ := hh
  refine wpAt_of_wpAny (wpAny_mono (ht.run [] s' (L2.start N (.ref a :: vs')) H _ J hq2) (fun fl s2 h2 => ?_) fun _ _ z => z.elim)
  have fin : ∀ {σ' : L2.St} {H' : Hp} {v : V} {u : Value}, L2.Inv (cxS P w K mg base N qual (C8.fnScope st) f cda cc A outer s H) [] σ' H' s2 → L2.RelV v u → Q v H' → CE outer P w H s Q u s2 := fun {σ' H' v u} J rv q => ⟨v, H', J.os, J.bare, J.base, J.hok, rv, q⟩
  cases fl with
  | next =>
    obtain ⟨_, _, J2, q2⟩ := h2
    exact fin (v := V.non) J2 rfl q2
  | ret u =>
    obtain ⟨_, _, _, J2, rv, q2⟩ := h2
    exact fin J2 rv q2
  | brk => exact h2.elim fun _ z => z.elim fun _ y => y.2.elim
  | cont => exact h2.elim fun _ z => z.elim fun _ y => y.2.elim
end
end RJ
end

section
set_option maxRecDepth 100000
set_option maxHeartbeats 2000000
namespace RJ
open PySem PySem.Spec PyProof.Rows L2

/-! ### defs that may raise -/
/-- what lets errors out -/
abbrev CXN (P : Program) (w : World) : CXT := L2N.CX P w
structure CalX (P : Program) (w : World) (K : PySem.W.Frag) (mg : Str → Option Value) (base : Heap) (k : Nat) (x : Str) (sp : Sp) : Prop where
  ex : ∃ (f : Addr) (fd : FuncData) (ps : List Str), FnOk P w K mg base (CXN P w) k f fd ps sp ∧ mg x = some (.ref f) ∧ PySem.W.keepIn K (.ref f) = true ∧ Binds K fd ps []
structure MetX (P : Program) (w : World) (K : PySem.W.Frag) (mg : Str → Option Value) (base : Heap) (k : Nat) (C : Addr) (m : Str) (sp : Sp) : Prop where
  ex : ∃ (f : Addr) (fd : FuncData) (ps : List Str), Cls K C ∧ Meth K C m f ∧ FnOk P w K mg base (CXN P w) k f fd ps sp ∧ Binds K fd ps []
section
variable {P : Program} {w : World} {K : PySem.W.Frag} {mg : Str → Option Value} {base : Heap}
theorem fnX {x qual : Str} {st : Stmt} {f : Addr} {fd : FuncData} {N ps : List Str} {k : Nat} {sp : Sp} (F : C8.Fun K x qual st f fd) (S : FnScope N ps (C8.fnScope st)) (len : ∀ vs H Q E, sp vs H Q E → vs.length = ps.length)
    (hb : ∀ (cdv : Value) (A : Around) (outer : List Env) (s : Shared) (H : Hp) (vs : List V) (Q : VK) (E : XK), Room k (A.deeper (envOfC qual (C8.fnScope st) s.heap.objs.size f cdv)) → sp vs H Q E →
      L2N.Takes (cxOf (CXN P w) P w K mg base N qual (C8.fnScope st) f cdv A outer s H E) (fun cls d _ H' => E cls d H') →
      ∃ t, PSs (cxOf (CXN P w) P w K mg base N qual (C8.fnScope st) f cdv A outer s H E) (C8.fnBody st) t ∧ t { nx := fun _ H' => Q .non H', rt := Q } (start N vs) H) : FnOk P w K mg base (CXN P w) (k + 1) f fd ps sp := by
  obtain ⟨oc, od, dV, kV, doc, pm, an, cdv, ct, osl, rfl, lk, hcd⟩ := F.ex
  exact fn_of lk hcd S len fun A outer s H vs Q E hr hsp => hb cdv A outer s H vs Q E hr hsp (L2N.takes_of rfl rfl rfl rfl)
end
section
variable {X : Cx} {k j : Nat} {C : Addr} {x m : Str} {sp : Sp} {p pos apos : Pos} {e o : Expr} {es : List Expr} {ta : TE} {t : TA} {W : WX}
theorem pe_cx (c : CalX X.prog X.w X.K X.mg X.base k x sp) (hr : Room j X.A) (hk : k ≤ j) (tk : L2N.Takes X W) (hg : Gl X x) (ha : PA X (e :: es) t)
    (hdb : (x == ("__debug__" : Str)) = false := by decide) (he : starEach (e :: es) X.env = (false, eval e X.env) :: starEach es X.env := by rfl) (hpl : (backTo pos (starEach es X.env)).any (·.1) = false := by rfl) :
    PE X (.Call (.Name x p) (e :: es) [] pos) (tCallS sp (WE W) t) := by
  obtain ⟨f, fd, ps, F, hm, kp, b⟩ := c.ex
  exact pe_callS F (hr.mono hk) hg hm kp b (L2N.passAt tk) ha hdb he hpl
/-- an error's class, whose __init__ keeps sp -/
structure ErrC (P : Program) (w : World) (K : PySem.W.Frag) (mg : Str → Option Value) (base : Heap) (x : Str) (C : Addr) (sp : Sp) : Prop where
  oex : OexC K C
  mgc : mg x = some (.ref C)
  ini : ∃ (f : Addr) (fd : FuncData) (ps : List Str), PySem.W.findIn K (.ref C) "__init__" = some (some (.ref f)) ∧ PySem.W.typeIn K (.ref f) = some (.type "function") ∧ FnOk P w K mg base C8.CX0 1 f fd ps sp ∧ Binds K fd ps []
/-- C(e, ..), an error over ValueError -/
theorem pmk_err {e : Expr} {es : List Expr} {ta : TA} (T : ErrC X.prog X.w X.K X.mg X.base x C sp) (hr : Room j X.A) (hj : 2 ≤ j) (hg : Gl X x) (ha : PA X (e :: es) ta)
    (hdb : (x == ("__debug__" : Str)) = false := by decide) (he : starEach (e :: es) X.env = (false, eval e X.env) :: starEach es X.env := by rfl) (hpl : (backTo pos (starEach es X.env)).any (·.1) = false := by rfl) :
    L2N.PMk X (.Call (.Name x p) (e :: es) [] pos) (tMkO C sp [] ta) := by
  intro pins s σ H Q I h
  obtain ⟨fI, fd, ps, iC, tI, F1, hb⟩ := T.ini
  obtain ⟨nm, q, N, bs, bm, sn, sub, ab, col, dd, k0, k1, k2, k3, k5, hC, hbm⟩ := T.oex.cls
  refine wpAny_Call_Name_kw (ld_glob I hg T.mgc (PySem.W.callWith_K (h₀ := X.base) I.ok.mod.kin T.oex.kC (thn (ha.run pos pins s σ H _ I h) fun us s1 hh => ?_) he hpl) hdb)
  obtain ⟨vs, H1, I1, r1, hz, q1⟩ := hh
  refine ⟨I1.kIn, (show wpAny _ _ (call (.ref C) us) _ _ _ from ?_)⟩
  obtain ⟨hp, g, dr, tk, os⟩ := s1
  have hsz : hp.objs.size ≤ hp.objs.size + 1 := by omega
  have hq := q1 _ (I1.hok.fresh hsz)
  have kk : ∀ b o, hp.get? b = some o → ((hp.push (PySem.W.kdv_tup us)).push (PySem.HandSPX.excO C hp.objs.size)).get? b = some o := fun b o z => Heap.get?_push_of_some _ (Heap.get?_push_of_some _ z)
  have hnew : ((hp.push (PySem.W.kdv_tup us)).push (PySem.HandSPX.excO C hp.objs.size)).get? (hp.objs.size + 1) = some (PySem.HandSPX.excO C hp.objs.size) := by heap_get
  have I2 : Inv X pins σ (upd H1 (hp.objs.size + 1) (exo (hp.objs.size + 1) C none)) ⟨_, g, dr, tk, os⟩ := I1.laid (t' := tk) (a := hp.objs.size + 1) (o := exo (hp.objs.size + 1) C none) (h' := (hp.push (PySem.W.kdv_tup us)).push (PySem.HandSPX.excO C hp.objs.size)) kk hsz (exo_ok hnew)
  have r2 : Vals (V.ref (hp.objs.size + 1) :: (vs ++ [])) (Value.ref (hp.objs.size + 1) :: us) := by rw [List.append_nil]; exact .cons rfl r1
  have hl : (Value.ref (hp.objs.size + 1) :: us).length = ps.length := by rw [← r2.length]; exact F1.len _ _ _ _ hq
  have hbb := hb _ (Value.ref (hp.objs.size + 1) :: us) I2.kIn (by rw [List.append_nil]; exact hl)
  rw [List.append_nil] at hbb
  have hus : us.length ≤ sizeLine := by rw [← Paired.length r1, sizeLine_eq]; omega
  have hr2 : Room (1 + 1) X.A := hr.mono hj
  refine wpAny_call (PySem.HandSPX.call_own F.excBase_ValueError (fun Y => PySem.HandSPX.refsVE_contains Y bm hbm) (I1.kIn _ _ hC) (PySem.W.looks_findIn I1.kIn iC) (fun self => PySem.W.bind_fn I1.kIn self tI) hus
    (codeAny_mono (F1.run _ X.stack _ _ ⟨Value.ref (hp.objs.size + 1) :: us, []⟩ (Value.ref (hp.objs.size + 1) :: us) _ _ (fun _ _ _ => False) (hr2.make C us []) (I2.env0.make C us []) hbb r2 hq) fun r s' hq' => ?_))
  cases r with
  | error er => exact hq'.elim
  | ok fl =>
    cases fl with
    | next => exact hq'.elim
    | brk => exact hq'.elim
    | cont => exact hq'.elim
    | ret u =>
      obtain ⟨v, H2, os2, bare2, un2, hok2, rv, ev, d, fs, ea, ed, hd1, q2⟩ := hq'
      subst ev
      obtain ⟨h2, g2, d2, t2, os'⟩ := s'
      obtain ⟨t0, G, J, kG, ge, hoe, na⟩ := mk_end0 (d2 := d2) (t2 := t2) I1 hsz kk un2 hok2 os2 bare2 ea ed hd1
      exact ⟨rv, _, _, _, ⟨G, g2, d2, t2, os'⟩, _, .ref C, some d, rfl, J, kG, ge, hoe, ⟨rfl, rfl, fun vs' z => by cases z; rfl⟩, rfl, rfl, na, rfl, bare2, raises_own T.oex.exC T.oex.tyC, q2⟩
theorem takes0 : L2N.Takes X (fun _ _ _ _ => False) := fun u s' ⟨_, _, _, _, _, _, _, _, _, _, _, _, _, _, _, _, z⟩ => z.elim
end

/-! ### isinstance of the caught error, its fields -/
/-- what an error's class must say -/
structure ErrI (K : PySem.W.Frag) (D : Addr) : Prop where
  cl : (PySem.W.clsIn K D).isSome = true
  hg : PySem.W.findIn K (.ref D) "__getattribute__" = some (some (.builtin "BaseException.__getattribute__"))
  hk : PySem.W.findIn K (.ref D) "__getattr__" = some none
  hs : PySem.W.subIn K (.ref D) (.type "BaseException") = some true
  ha : PySem.W.findIn K (.ref D) "__class__" = some (some (.builtin "object.__class__"))
  hn : PySem.W.specialIn K (.builtin "object.__class__") "__get__" = some (some (.builtin "getset_descriptor.__get__"))
  ht : PySem.W.takesIn K (.builtin "object.__class__") = some true
  hm : PySem.W.mroIn K D (.type "object") = some true
  hd : PySem.W.hasDictIn K D = true
theorem ErrI.xf {K : PySem.W.Frag} {D : Addr} (h : ErrI K D) : XfC K D := ⟨h.hg, h.hk, h.hs, h.hd⟩
def rIsD (K : PySem.W.Frag) (a : Addr) (cls : Value) (d : Option Addr) : List V → Hp → VK → Prop := fun xs H Q => ∃ (D dd : Addr) (fs : List (Str × V)) (c : V) (cv : Value) (b : Bool), cls = .ref D ∧ d = some dd ∧ ErrI K D ∧ H dd = some (.xd fs) ∧ xs = [.ref a, c] ∧ (∀ u, RelV c u → u = cv) ∧ PySem.W.kitOne K (.ref D) cv = some b ∧ Q (.bl b) H
theorem call_isD {X : Cx} {a : Addr} {oe : Obj} {cls : Value} {d : Option Addr} {pn : List (Addr × Obj)} (hz : Zc cls d oe) (hf : ∃ vs, oe.data = .fields vs) : CallR (X.suite a ((a, oe) :: pn)) (.builtin "isinstance") (rIsD X.K a cls d) := by
  intro pins s σ H xs us Q I r h
  obtain ⟨D, dd, fs, c, cv, b, rfl, rfl, T, ed, rfl, hcv, e, q⟩ := h
  cases r with
  | cons rx rr =>
    cases rr with
    | cons rt rr =>
      cases rr
      cases rx
      have ec := hcv _ rt
      subst ec
      obtain ⟨hget, _⟩ := I.pin (a, oe) (List.mem_append.mpr (.inl List.mem_cons_self))
      obtain ⟨vs, hv⟩ := hf
      have hx : ObjOk X.prog X.w H s.heap dd (.xd fs) := I.hok dd _ ed
      obtain ⟨mA, hns, _⟩ := hx
      obtain ⟨od, ho, _⟩ := lookIn_ns hns
      have J : PySem.W.InstAt s.heap a oe D (some od) := ⟨hget, hz.1, by unfold PySem.W.notCls; rw [hv] <;> rfl, by rw [hz.2]; exact ho⟩
      exact PySem.W.kia_one (PySem.W.kitx_exc T.cl T.hg T.hk T.hs T.ha T.hn T.ht T.hm) I.kIn J e (fun z => nomatch z) fun tk => ⟨.bl b, H, I.kept (t' := tk) fun _ _ z => z, rfl, q⟩
/-- .. both for a class of the program and a built-in one -/
theorem rel_ref {a : Addr} : ∀ u, RelV (.ref a) u → u = .ref a := fun _ h => h
theorem rel_ty {n : String} : ∀ u, RelV (.ty n) u → u = .type n := fun _ h => h

/-! ### defs called where an error is handled -/
structure CalH (P : Program) (w : World) (K : PySem.W.Frag) (mg : Str → Option Value) (base : Heap) (k : Nat) (x : Str) (sp : Sp) : Prop where
  ex : ∃ (f : Addr) (fd : FuncData) (ps : List Str), L2H.FnH P w K mg base C8.CX0 k f fd ps sp ∧ mg x = some (.ref f) ∧ PySem.W.keepIn K (.ref f) = true ∧ Binds K fd ps []
section
variable {P : Program} {w : World} {K : PySem.W.Frag} {mg : Str → Option Value} {base : Heap}
theorem fnH0 {x qual : Str} {st : Stmt} {f : Addr} {fd : FuncData} {N ps : List Str} {k : Nat} {sp : Sp} (F : C8.Fun K x qual st f fd) (S : FnScope N ps (C8.fnScope st)) (len : ∀ vs H Q E, sp vs H Q E → vs.length = ps.length)
    (hb : ∀ (cdv : Value) (A : Around) (outer : List Env) (s : Shared) (H : Hp) (vs : List V) (Q : VK) (E : XK) (p : Addr × Obj), L2H.RoomH k (A.deeper (envOfC qual (C8.fnScope st) s.heap.objs.size f cdv)) → sp vs H Q E →
      L2H.HotC (L2H.cxH C8.CX0 P w K mg base N qual (C8.fnScope st) f cdv A outer s H E p).nox →
      ∃ t, PSs (L2H.cxH C8.CX0 P w K mg base N qual (C8.fnScope st) f cdv A outer s H E p).nox (C8.fnBody st) t ∧ t { nx := fun _ H' => Q .non H', rt := Q } (start N vs) H) : L2H.FnH P w K mg base C8.CX0 (k + 1) f fd ps sp := by
  obtain ⟨oc, od, dV, kV, doc, pm, an, cdv, ct, osl, rfl, lk, hcd⟩ := F.ex
  refine L2H.fn_ofH lk hcd S len fun A outer s H vs Q E p hot hr hsp => ?_
  obtain ⟨t, h, q⟩ := hb cdv A outer s H vs Q E p hr hsp ⟨p, hot, List.mem_singleton.mpr rfl⟩
  exact ⟨t, h.nox, q⟩
end
section
variable {X : Cx} {k j : Nat} {x : Str} {sp : Sp} {p pos : Pos} {e : Expr} {es : List Expr} {t : TA}
theorem pe_ch (c : CalH X.prog X.w X.K X.mg X.base k x sp) (hr : L2H.RoomH j X.A) (hk : k ≤ j) (hc : L2H.HotC X) (hg : Gl X x) (ha : PA X (e :: es) t)
    (hdb : (x == ("__debug__" : Str)) = false := by decide) (he : starEach (e :: es) X.env = (false, eval e X.env) :: starEach es X.env := by rfl) (hpl : (backTo pos (starEach es X.env)).any (·.1) = false := by rfl) :
    PE X (.Call (.Name x p) (e :: es) [] pos) (tCallS sp (fun _ => C8.E0) t) := by
  obtain ⟨f, fd, ps, F, hm, kp, b⟩ := c.ex
  exact L2H.pe_callH F (hr.mono hk) hc hg hm kp b (fun σ pins H s e s' I z => z.elim) ha hdb he hpl
theorem hotS {a : Addr} {oe : Obj} {cls : Value} {d : Option Addr} {pn : List (Addr × Obj)} (hz : L2N.Zn cls d oe) (hf : ∃ vs, oe.data = .fields vs) : L2H.HotC (X.suite a ((a, oe) :: pn)) := by
  obtain ⟨vs, hv⟩ := hf
  exact ⟨(a, oe), ⟨rfl, vs, hv, hz.2.2 vs hv⟩, List.mem_cons_self⟩
theorem roomS {a : Addr} {pn : List (Addr × Obj)} (hr : Room j X.A) : L2H.RoomH j (X.suite a pn).A := ⟨hr.dp, hr.un⟩
end
end RJ
end

section
set_option maxRecDepth 100000
set_option maxHeartbeats 2000000
namespace RJ
open PySem PySem.Spec PyProof.Rows L2
section
variable {P : Program} {w : World} {K : PySem.W.Frag} {mg : Str → Option Value} {base : Heap} {CX : CXT} {k : Nat} {f : Addr} {fd : FuncData} {ps : List Str} {sp sp' : Sp}
/-- a def that raises nothing, where errors are let out -/
theorem FnOk.lift (F : FnOk P w K mg base C8.CX0 k f fd ps sp) : FnOk P w K mg base CX k f fd ps sp :=
  ⟨F.len, fun A outer s H args us vs Q E hr e0 hb r h => codeAny_mono (F.run A outer s H args us vs Q E hr e0 hb r h) fun r s' hq => by
    cases r with
    | error e => exact hq.elim
    | ok fl => cases fl <;> exact hq⟩
/-- two promises of one def -/
theorem FnOk.or (F : FnOk P w K mg base CX k f fd ps sp) (G : FnOk P w K mg base CX k f fd ps sp') : FnOk P w K mg base CX k f fd ps (fun vs H Q E => sp vs H Q E ∨ sp' vs H Q E) :=
  ⟨fun vs H Q E h => h.elim (F.len vs H Q E) (G.len vs H Q E), fun A outer s H args us vs Q E hr e0 hb r h => h.elim (F.run A outer s H args us vs Q E hr e0 hb r) (G.run A outer s H args us vs Q E hr e0 hb r)⟩
end
/-- a class that is made by its name, whose __init__ may raise -/
structure MakX (P : Program) (w : World) (K : PySem.W.Frag) (mg : Str → Option Value) (base : Heap) (k : Nat) (x : Str) (C : Addr) (sp : Sp) : Prop where
  ex : ∃ (f : Addr) (fd : FuncData) (ps : List Str), Mk K C f ∧ FnOk P w K mg base (CXN P w) k f fd ps sp ∧ mg x = some (.ref C) ∧ Binds K fd ps []
section
variable {X : Cx} {k j : Nat} {C f : Addr} {fd : FuncData} {ps : List Str} {x : Str} {sp : Sp} {p pos : Pos} {e : Expr} {es : List Expr} {t : TA} {W : WX}
def tMakeS (C : Addr) (sp : Sp) (E : L2.St → XK) (t : TA) : TE := fun σ H Q => t σ H fun vs H1 => ∀ x dx, H1 x = none → H1 dx = none → dx ≠ x → sp (.ref x :: vs) (upd (upd H1 dx (.own x)) x (.ins C dx [])) (fun v H2 => v = .non ∧ Q (.ref x) H2) (E σ)
theorem run_makeS {pins : List (Addr × Obj)} {σ : L2.St} {H : Hp} {s : Shared} {Q : VK} {us : List Value} {vs : List V} {E : L2.St → XK} (M : Mk X.K C f) (F : FnOk X.prog X.w X.K X.mg X.base (CXN X.prog X.w) k f fd ps sp) (hr : Room (k + 1) X.A) (hb : Binds X.K fd ps [])
    (hx : PassesAt (CXN X.prog X.w) X σ (E σ)) (I : Inv X pins σ H s) (r : Vals vs us)
    (h : ∀ x dx, H x = none → H dx = none → dx ≠ x → sp (.ref x :: vs) (upd (upd H dx (.own x)) x (.ins C dx [])) (fun v H2 => v = .non ∧ Q (.ref x) H2) (E σ)) :
    wpAny (model X.prog X.w) X.A (call (.ref C) us) (EP X pins σ Q) X.xe s := by
  have hq := h (s.heap.objs.size + 1) s.heap.objs.size (I.hok.fresh (Nat.le_succ _)) (I.hok.fresh (Nat.le_refl _)) (Nat.ne_of_lt (Nat.lt_succ_self _))
  have I2 := Inv.made (C := C) I
  have r2 : Vals (V.ref (s.heap.objs.size + 1) :: vs) (Value.ref (s.heap.objs.size + 1) :: us) := .cons rfl r
  have hl : (Value.ref (s.heap.objs.size + 1) :: us).length = ps.length := by rw [← r2.length]; exact F.len _ _ _ _ hq
  have hbb := hb _ (Value.ref (s.heap.objs.size + 1) :: us) I2.kIn (by rw [List.append_nil]; exact hl)
  rw [List.append_nil] at hbb
  refine wpAny_call (make_map (f := f) I.kIn M.makes M.init (beq_iff_eq.mp M.fn) (codeAny_mono (F.run _ X.stack _ _ ⟨Value.ref (s.heap.objs.size + 1) :: us, []⟩ (Value.ref (s.heap.objs.size + 1) :: us) _ _ (E σ) (hr.make C us []) (I2.env0.make C us []) hbb r2 hq) fun r s' hq' => ?_))
  cases r with
  | error e => exact hx pins _ _ e s' I2 hq'
  | ok fl =>
    cases fl with
    | next => exact hq'.elim
    | brk => exact hq'.elim
    | cont => exact hq'.elim
    | ret u =>
      obtain ⟨v, H', I3, rv, ev, q3⟩ := I2.after hq'
      subst ev
      exact ⟨rv, ⟨V.ref (s.heap.objs.size + 1), H', I3, rfl, q3⟩⟩
theorem pe_makeS (c : MakX X.prog X.w X.K X.mg X.base k x C sp) (hr : Room j X.A) (hk : k + 1 ≤ j) (tk : L2N.Takes X W) (hg : Gl X x) (ha : PA X (e :: es) t)
    (hdb : (x == ("__debug__" : Str)) = false := by decide) (he : starEach (e :: es) X.env = (false, eval e X.env) :: starEach es X.env := by rfl) (hpl : (backTo pos (starEach es X.env)).any (·.1) = false := by rfl) :
    PE X (.Call (.Name x p) (e :: es) [] pos) (tMakeS C sp (WE W) t) := by
  obtain ⟨f, fd, ps, M, F, hm, b⟩ := c.ex
  refine ⟨fun pins s σ H Q I h => wpAny_Call_Name_kw (ld_glob I hg hm (PySem.W.callWith_K (h₀ := X.base) I.ok.mod.kin M.kp (thn (ha.run pos pins s σ H _ I h) fun us s1 hh => ?_) he hpl) hdb)⟩
  obtain ⟨vs, H1, I1, r, q⟩ := hh
  exact ⟨I1.kIn, run_makeS M F (hr.mono hk) b (L2N.passAt tk σ) I1 r q⟩
end
/-- isinstance of the caught error against a tuple of classes -/
def rIsDT (K : PySem.W.Frag) (a : Addr) (cls : Value) (d : Option Addr) : List V → Hp → VK → Prop := fun xs H Q => ∃ (D dd tp : Addr) (fs : List (Str × V)) (cs : List V) (ws : List Value) (b : Bool), cls = .ref D ∧ d = some dd ∧ ErrI K D ∧ H dd = some (.xd fs) ∧ xs = [.ref a, .ref tp] ∧ H tp = some (.tup cs) ∧ (∀ us, Vals cs us → us = ws) ∧ PySem.W.kitAny K (.ref D) ws = some b ∧ Q (.bl b) H
theorem call_isDT {X : Cx} {a : Addr} {oe : Obj} {cls : Value} {d : Option Addr} {pn : List (Addr × Obj)} (hz : Zc cls d oe) (hf : ∃ vs, oe.data = .fields vs) : CallR (X.suite a ((a, oe) :: pn)) (.builtin "isinstance") (rIsDT X.K a cls d) := by
  intro pins s σ H xs us Q I r h
  obtain ⟨D, dd, tp, fs, cs, ws, b, rfl, rfl, T, ed, rfl, htp, hws, e, q⟩ := h
  obtain ⟨u1, u2, rfl, r1, r2⟩ := vals2 r
  cases (show u1 = Value.ref a from r1)
  cases (show u2 = Value.ref tp from r2)
  obtain ⟨hget, _⟩ := I.pin (a, oe) (List.mem_append.mpr (.inl List.mem_cons_self))
  obtain ⟨vs, hv⟩ := hf
  have hx : ObjOk X.prog X.w H s.heap dd (.xd fs) := I.hok dd _ ed
  obtain ⟨mA, hns, _⟩ := hx
  obtain ⟨od, ho, _⟩ := lookIn_ns hns
  have J : PySem.W.InstAt s.heap a oe D (some od) := ⟨hget, hz.1, by unfold PySem.W.notCls; rw [hv] <;> rfl, by rw [hz.2]; exact ho⟩
  have hT : ObjOk X.prog X.w H s.heap tp (.tup cs) := I.hok tp _ htp
  obtain ⟨_, its, rv, o, g1, g2, n, g3⟩ := hT
  have e3 := hws its rv
  subst e3
  obtain ⟨oc, od2, dt, sl⟩ := o
  simp only at g2 g3
  subst g2 g3
  exact PySem.W.kia_tup (PySem.W.kitx_exc T.cl T.hg T.hk T.hs T.ha T.hn T.ht T.hm) I.kIn J g1 e (fun z => nomatch z) fun tk => ⟨.bl b, H, I.kept (t' := tk) fun _ _ z => z, rfl, q⟩
theorem vals_refs : ∀ {as : List Addr} {us : List Value}, Vals (as.map V.ref) us → us = as.map Value.ref
  | [], _, .nil => rfl
  | a :: as, _, .cons r t => by rw [vals_refs t, show _ = Value.ref a from r]; rfl
end RJ
end

section
set_option maxRecDepth 100000
set_option maxHeartbeats 2000000
namespace RJ
open PySem PySem.Spec PyProof.Rows L2
/-! ### methods that may raise -/
def tMethX (C : Addr) (m : Str) (sp : Sp) (E : L2.St → XK) (ta : TE) (t : TA) : TE := fun σ H Q => ta σ H fun x H1 => ∃ a dx fs, x = .ref a ∧ H1 a = some (.ins C dx fs) ∧ fs.lookup m = none ∧ t σ H1 fun vs H2 => sp (x :: vs) H2 Q (E σ)
section
variable {X : Cx} {k j : Nat} {C : Addr} {m : Str} {sp : Sp} {p pos apos : Pos} {e o : Expr} {es : List Expr} {ta : TE} {t : TA} {W : WX}
theorem pe_mx {pl : Sem Bool} (c : MetX X.prog X.w X.K X.mg X.base k C m sp) (hr : Room j X.A) (hk : k ≤ j) (tk : L2N.Takes X W) (he : PE X o ta) (ha : PA X (e :: es) t)
    (hst : starEach (e :: es) X.env = (false, eval e X.env) :: starEach es X.env := by rfl) (hpl : (backTo pos (starEach es X.env)).any (·.1) = false := by rfl)
    (ht : eval (.Call (.Attribute o m apos) (e :: es) [] pos) X.env = (do
      let ov ← eval o X.env
      standAt apos.atName
      let (f, first) ← holding [ov] (getMethod ov m pl)
      callWith pos f first (backTo pos (starEach (e :: es) X.env)) (backToKw pos (keywordEach [] X.env))) := by rfl) :
    PE X (.Call (.Attribute o m apos) (e :: es) [] pos) (tMethX C m sp (WE W) ta t) := by
  obtain ⟨f, fd, ps, hc, hm, F, b⟩ := c.ex
  refine ⟨fun pins s σ H Q I h => ?_⟩
  refine PySem.W.methodCall_KW (pl := pl) (thn (he.run pins s σ H _ I h) fun u s1 ⟨x, H1, I1, rx, a, dx, fs, ex, ea, l, q⟩ => ?_) ht
  subst ex
  obtain rfl : u = Value.ref a := rx
  refine getmeth_ok I1 ea hc hm l ?_
  refine PySem.W.callWith_K (first := [.ref a]) (h₀ := X.base) I.ok.mod.kin hm.kp (thn (ha.run pos pins s1 σ H1 _ I1 q) fun us s2 ⟨vs, H2, I2, r, q2⟩ => ⟨I2.kIn, ?_⟩) hst hpl
  exact run_fnS (us := .ref a :: us) (vs := .ref a :: vs) F (hr.mono hk) b (L2N.passAt tk σ) I2 (.cons rfl r) q2
end
end RJ
end

section
set_option maxRecDepth 100000
set_option maxHeartbeats 2000000
namespace RJ
open PySem PySem.Spec PyProof.Rows L2
/-! ### comprehensions whose elements may raise -/
/-- what is due when the block of a comprehension with the frame ce has run -/
def postX (M : Model) (A : Around) (E : Value → Shared → Prop) (use : Option (Value → Sem Unit)) (Q : Value → Shared → Prop) (acc : Value) (ce : Env) (r : Result) (s' : Shared) : Prop :=
  match r with
  | .ok f => compPost M A E use Q acc ce.locals (.ok f) s'
  | .error x => ∃ m, s'.heap.Ns ce.locals m ∧ ∀ h', Heap.SameBut ce.locals s'.heap h' → wpAny M A (passOn "comprehension.variables-let-go" x ce : Sem Value) (fun _ _ => False) E { s' with heap := h' }
theorem noteFrame_eq {x : Value} {e1 e2 : Env} (h : e1.frame = e2.frame) : noteFrame x e1 = noteFrame x e2 := by
  unfold noteFrame PySem.frameOf
  rw [h]
theorem passOn_eq {α : Type} {w : String} {x : Value} {e1 e2 : Env} (h : e1.frame = e2.frame) : (passOn w x e1 : Sem α) = passOn w x e2 := by
  unfold PySem.passOn
  rw [h]
section
variable {M : Model} {A : Around} {E : Value → Shared → Prop} {s : Shared} {env : Env}
theorem comp_run {e : Expr} {scope : Scope} {pos : Pos} {newAcc first : Sem Value} {g : Comprehension} {gs : List Comprehension} {cl : List (Str × Addr)} {use : Option (Value → Sem Unit)} {Q : Value → Shared → Prop}
    (hcl : clausesOf e = g :: gs) (hs : ∀ x, foldedSetIterable g.iter env x = pure x) (hclos : closureFor scope env = pure cl) (hkind : scope.kind = .function)
    (hnames : ∀ x ∈ scope.names, x.2 = .local → scope.names.lookup x.1 = some .local)
    (h : wpAny M A first (fun x s₁ => wpAny M A (pyIter x) (fun it s₂ => wpAny M A newAcc (fun acc s₃ =>
      wpAny M A (newFunctionEnv scope env.globals cl [] env.qual none .none (some env)) (fun cenv s₄ =>
        codeAny M A (.compStart e 0 it acc { cenv with scope := relabel scope env }) (postX M A E use Q acc { cenv with scope := relabel scope env }) s₄) E s₃) E s₂) E s₁) E s) :
    wpAny M A (comprehension e scope env pos newAcc false first use) Q E s := by
  have err : ∀ {α : Type} {t : Sem α} {P P' : α → Shared → Prop} {s : Shared}, wpAny M A t P E s → (∀ a s, P a s → P' a s) → wpAny M A t P' E s := fun x y => wpAny_mono x y fun _ _ z => z
  unfold comprehension
  rw [hclos, hcl]
  refine wpAny_bind (err h fun x s₁ h₁ => wpAny_bind (wpAny_standAt (wpAny_bind (wpAny_of_eq (hs x) (wpAny_bind (wpAny_holding (err h₁ fun it s₂ h₂ => ?_)))))))
  refine wpAny_standIf (wpAny_bind (err h₂ fun acc s₃ h₃ => wpAny_bind (wpAny_pure (wpAny_bind (err h₃ fun cenv s₄ h₄ => ?_)))))
  dsimp only
  have loc : ∀ x ∈ (scope.names.filter fun x => (x.2 == .local || x.2 == .cell) && x.1 != (".0" : Str)).reverse, x.2 = .local →
      Env.kindOf { cenv with scope := relabel scope env } x.1 = some .local := fun x hx hl => lookup_relabel_local (hnames x (List.mem_filter.mp (List.mem_reverse.mp hx)).1 hl)
  have loc' : ∀ x ∈ (scope.names.filter fun x => (x.2 == .local || x.2 == .cell) && x.1 != (".0" : Str)).reverse.drop 1 ++ (scope.names.filter fun x => (x.2 == .local || x.2 == .cell) && x.1 != (".0" : Str)).reverse.take 1,
      x.2 = .local → Env.kindOf { cenv with scope := relabel scope env } x.1 = some .local := fun x hx => (List.mem_append.mp hx).elim (fun z => loc x (List.mem_of_mem_drop z)) fun z => loc x (List.mem_of_mem_take z)
  refine wpAny_holding (wpAny_bind (wpAny_attempt (wpAny_holding (wpAny_run (codeAny_mono h₄ fun r s' hr => ?_)))))
  cases r with
  | error x =>
    obtain ⟨m, hn, k⟩ := hr
    exact wpAny_bind (wpAny_holding (wpAny_comp_letGo (cenv := { cenv with scope := relabel scope env }) hkind _ s' m loc hn fun h' _ _ sb => err (k h' sb) fun _ _ z => z.elim))
  | ok f =>
    cases use with
    | none =>
      obtain ⟨m, hn, k⟩ := hr
      exact wpAny_bind (wpAny_holding (wpAny_comp_letGo (cenv := { cenv with scope := relabel scope env }) hkind _ s' m loc hn fun h' _ _ sb => wpAny_pure (k h' sb)))
    | some u =>
      refine wpAny_bind (wpAny_rule (wpAny_bind (wpAny_holding (err hr fun _ s'' hr' => ?_))))
      obtain ⟨m, hn, k⟩ := hr'
      exact wpAny_bind (wpAny_comp_letGo (cenv := { cenv with scope := relabel scope env }) hkind _ s'' m loc' hn fun h' _ _ sb => wpAny_pure (k h' sb))
end

/-! ### an object of the block is let go -/
theorem hide_ne {h : Heap} {C b : Addr} {o : Obj} (e : (PySem.W.hideAll h [C]).get? b = some o) : b ≠ C ∧ h.get? b = some o := by
  refine ⟨fun z => ?_, PySem.W.of_hideAll _ e⟩
  rw [PySem.W.hideAll_none [C] (by simp [z])] at e
  cases e
theorem hide_get {h : Heap} {C b : Addr} {o : Obj} (e : h.get? b = some o) (n : b ≠ C) : (PySem.W.hideAll h [C]).get? b = some o := PySem.W.hideAll_get _ e (by simpa using n)
theorem hide_non {h : Heap} {C b : Addr} (e : h.get? b = none) : (PySem.W.hideAll h [C]).get? b = none := by
  cases q : (PySem.W.hideAll h [C]).get? b with
  | none => rfl
  | some o => rw [(hide_ne q).2] at e; cases e
theorem frames_hide {B h h' : Heap} {C : Addr} (k : ∀ b o, b ≠ C → h.get? b = some o → h'.get? b = some o) : ∀ {l : List Env}, h.FunFrames B l → C ∉ frs l → h'.FunFrames (PySem.W.hideAll B [C]) l
  | [], _, _ => trivial
  | env :: l, x, n => by
    obtain ⟨hk, ⟨L, o, hf, hn, ho, hd⟩, hr⟩ := x
    have m : ∀ b, b ∈ frs l → b ∈ frs (env :: l) := fun b hb => by
      obtain ⟨e, he, q⟩ := List.mem_filterMap.mp hb
      exact List.mem_filterMap.mpr ⟨e, List.mem_cons_of_mem _ he, q⟩
    exact ⟨hk, ⟨L, o, hf, hide_non hn, k L o (fun z => n (z ▸ List.mem_filterMap.mpr ⟨env, List.mem_cons_self, hf⟩)) ho, hd⟩, frames_hide k hr fun z => n (m C z)⟩
theorem held_hide {B h h' : Heap} {l : List Env} {a C L : Addr} {Z : Obj → Prop} {oC : Obj} (x : PySem.HandSPX.HeldZ B l a Z L h) (hC : B.get? C = some oC) (nC : C ∉ frs l) (k : ∀ b o, b ≠ C → h.get? b = some o → h'.get? b = some o) :
    PySem.HandSPX.HeldZ (PySem.W.hideAll B [C]) l a Z L h' := by
  obtain ⟨st, na, ff, oe, vs, T, oT, ts, he, hz, hd, h1, hnT, hTe, hT, hdT, h3⟩ := x
  have ne : ∀ {b : Addr}, B.get? b = none → b ≠ C := fun {b} e z => by rw [z, hC] at e; cases e
  exact ⟨fun b o e => k b o (hide_ne e).1 (st b o (hide_ne e).2), hide_non na, frames_hide k ff nC, oe, vs, T, oT, ts, k a oe (ne na) he, hz, hd, h1, hide_non hnT, hTe, k T oT (ne hnT) hT, hdT, h3⟩
theorem held_pass {M : Model} {A : Around} {E : Value → Shared → Prop} {s : Shared} {B : Heap} {l : List Env} {a L : Addr} {Z : Obj → Prop} {env : Env} {w : String} {Q : Value → Shared → Prop} (x : PySem.HandSPX.HeldZ B l a Z L s.heap) (hf : env.frame = some L)
    (hE : ∀ h', PySem.HandSPX.HeldZ B l a Z L h' → s.heap.UpToSlots h' → E (.ref a) { s with heap := h' }) : wpAny M A (passOn w (.ref a) env : Sem Value) Q E s := by
  obtain ⟨oe, vs, T, oT, ts, he, hz, hd, h1, hnT, hTe, hT, hdT, h3⟩ := x.2.2.2
  unfold PySem.passOn
  refine wpAny_bind (wpAny_field he hd h1 ?_)
  rw [if_neg (show ¬ ((Value.ref T == Value.none) = true) from by simp)]
  rw [hf]
  exact wpAny_bind (PySem.HandSPX.setFlight_onZ x fun h' hh up => wpAny_throw (hE h' hh up))
section
variable {X : Cx} {pins : List (Addr × Obj)} {σ : L2.St} {H : Hp} {s s' : Shared} {W : WX}
/-- an exception over a ground that keeps what is tracked is in our air -/
theorem xe_over (I : Inv X pins σ H s) {a : Addr} {B : Heap} {H' : Hp} {cls : Value} {d : Option Addr} (st : B.StaysIn s'.heap) (sk : L2.Sky B X.stack a (L2N.Zn cls d) X.env.locals s'.heap) (hok : HOk X.prog X.w H' B)
    (ub : UB (frs X.stack) H H' s.heap B s'.heap) (na : H' a = none) (os : s'.os = s.os) (ag : AllBare s'.gens) (w : W cls d σ H') : L2N.XE X W (.ref a) s' := by
  obtain ⟨G, g1, g2⟩ := restrict s'.heap fun b => (B.get? b).isSome || decide (b ∈ frs X.stack)
  have inB : ∀ b o, B.get? b = some o → G.get? b = some o := fun b o e => (g1 b (by simp [e])).trans (st b o e)
  have inF : ∀ b, b ∈ frs X.stack → G.get? b = s'.heap.get? b := fun b hb => g1 b (by simp [hb])
  have out : ∀ b o, G.get? b = some o → s'.heap.get? b = some o ∧ (b ∉ frs X.stack → B.get? b = some o) := fun b o e => by
    by_cases q : ((B.get? b).isSome || decide (b ∈ frs X.stack)) = true
    · rw [g1 b q] at e
      refine ⟨e, fun hb => ?_⟩
      have z : (B.get? b).isSome = true := by simpa [hb] using q
      obtain ⟨o', q'⟩ := Option.isSome_iff_exists.mp z
      rw [st b o' q'] at e
      cases e
      exact q'
    · rw [g2 b (by simpa using q)] at e
      cases e
  have slot : ∀ b o, s.heap.get? b = some o → b ∈ frs X.stack → ∃ sl, G.get? b = some { o with slots := sl } := fun b o e hb => by
    obtain ⟨sl, q⟩ := ub.slot b o e hb
    exact ⟨sl, (inF b hb).trans q⟩
  have J : Inv X pins σ H' { s with heap := G, gens := s'.gens, drawn := s'.drawn, toks := s'.toks } := I.call (ch := []) ⟨fun b o e n hb _ => inB b o (ub.keep b o e n hb), fun b o e _ hb _ => slot b o e hb, fun b o e n _ => ub.free b o e n, fun b o e _ => by
    by_cases hb : b ∈ frs X.stack
    · obtain ⟨sl, q⟩ := slot b o e hb
      exact ⟨_, q⟩
    · obtain ⟨o', q⟩ := ub.there b o e hb
      exact ⟨o', inB b o' q⟩, ub.tups, ub.frzs, ub.tbls⟩ (hok.kept inB) ag (fun _ z => nomatch z)
  exact ⟨a, B, _, pins, σ, H', cls, d, rfl, J, fun b o e hb => (out b o e).2 hb, Heap.UpToSlots.of_keeps fun b o e => (out b o e).1, sk, na, os, ag, w⟩
end
section
variable {X : Cx} {pins : List (Addr × Obj)} {σ : L2.St} {H3 : Hp} {s3 : Shared} {E : XK}
/-- what a call within a comprehension's block lets out goes out of the comprehension -/
theorem blk_out {scope : Scope} {ce : Env} {fp : List Addr} {xe : Value → Shared → Prop} {use : Option (Value → Sem Unit)} {Qf : Value → Shared → Prop} {acc : Value} (hs : X.stack = X.env :: X.outer) (hf : X.env.frame = some X.env.locals)
    (cf : ce.frame = X.env.frame) (cL : ce.locals = s3.heap.objs.size) (I3 : Inv X pins σ H3 s3) (ffp : ∀ b ∈ fp, FpOk X pins H3 b) (tk : L2N.Takes X (fun cls d _ H => E cls d H))
    (hxe : xe = notedBy (model X.prog X.w) X.A ce (fun e s' => postX (model X.prog X.w) X.A X.xe use Qf acc ce (.error e) s')) : ∀ σB : L2.St, PassesAt (CXN X.prog X.w) ((X.blk s3 H3 scope ce fp).tr [] xe) σB E := by
  intro σB pinsB H s u s' IB c
  obtain ⟨a, B, H', cls, d, rfl, fl, hok, ub, na, os, ag, hE⟩ := c
  obtain ⟨m, ⟨oC, es, ep, hoC, rC⟩, _⟩ := IB.loc
  have hoC : s.heap.get? ce.locals = some oC := hoC
  have nC : H ce.locals = none := IB.free
  have hfr : X.A.frames = some (X.env :: X.outer) := by rw [I3.ok.frames, hs]
  have nF : ce.locals ∉ frs X.stack := fun hm => by
    have z := I3.stkSub _ hm
    rw [cL] at z
    rcases List.mem_cons.mp z with z | z
    · exact absurd I3.lt (by rw [← z]; exact Nat.lt_irrefl _)
    · exact I3.nofs (Nat.le_refl _) z
  have kB : B.get? ce.locals = some oC := ub.keep _ oC hoC nC nF
  have nC' : H' ce.locals = none := ub.free _ oC hoC nC
  have J : Inv X pins σ H s := I3.call' (ch := fp) IB.os IB.base IB.hok IB.bare fun b hb => ⟨(ffp b hb).2.2.2.1, (ffp b hb).2.1, (ffp b hb).2.2.2.2.1, (ffp b hb).2.2.2.2.2⟩
  have fC : FpOk X pins H ce.locals := I3.fpOk (by rw [cL]; exact Nat.le_refl _) nC
  have JX : Inv X pins σ H { s with heap := PySem.W.hideAll s.heap [ce.locals] } := J.turned (t' := s.toks) (fun b o hb e => hide_get e hb) fC.1 fC.2.1 fC.2.2.2.1 fC.2.2.2.2.1 fC.2.2.2.2.2
  have flX : PySem.HandSPX.FlyingZ B (X.env :: X.outer) a (L2N.Zn cls d) s'.heap := by
    have z : PySem.HandSPX.FlyingZ B X.stack a (L2N.Zn cls d) s'.heap := fl
    rw [hs] at z
    exact z
  show xe (.ref a) s'
  rw [hxe]
  show wpAny (model X.prog X.w) X.A (noteFrame (.ref a) ce) _ _ s'
  rw [noteFrame_eq cf]
  refine PXN.looks_onZ L2N.Zn.steady hfr hf flX fun h1 hh1 up1 => ?_
  refine ⟨m, ⟨oC, es, ep, hh1.1 _ oC kB, rC⟩, fun h2 sb => ?_⟩
  have k12 : ∀ b o, b ≠ ce.locals → h1.get? b = some o → h2.get? b = some o := fun b o hb e => (sb.2 b hb).trans e
  have nF1 : ce.locals ∉ frs (X.env :: X.outer) := by rw [← hs]; exact nF
  refine held_pass (held_hide hh1 kB nF1 k12) (cf.trans hf) fun h3 hh3 up3 => ?_
  refine tk _ _ (xe_over JX (B := PySem.W.hideAll B [ce.locals]) hh3.1 (.inr (.inr (by rw [hs]; exact hh3))) (fun b u e => (hok b u e).stay (fun c v hc q => hide_get q fun z => ?_) (fun _ q => q) fun _ _ q => q)
    ⟨fun b o e n hb => hide_get (ub.keep b o (hide_ne e).2 n hb) (hide_ne e).1, fun b o e hb => ?_, fun b o e n => ub.free b o (hide_ne e).2 n, fun b o e hb => ?_, ub.tups, ub.frzs, ub.tbls⟩ na os ag hE)
  · rcases hc with hc | hc
    · rw [← hc, z, nC'] at e; cases e
    · rw [z, nC'] at hc; cases hc
  · obtain ⟨_, o₀, e₀, hnf⟩ := J.stack.mem hb
    rw [(hide_ne e).2] at e₀
    cases e₀
    obtain ⟨sl1, q1⟩ := ub.slot b o (hide_ne e).2 hb
    obtain ⟨sl2, q2⟩ := up1 b _ q1 hnf
    obtain ⟨sl3, q3⟩ := up3 b _ (k12 b _ (hide_ne e).1 q2) hnf
    exact ⟨sl3, q3⟩
  · obtain ⟨o', q⟩ := ub.there b o (hide_ne e).2 hb
    exact ⟨o', hide_get q (hide_ne e).1⟩
end
section
variable {X : Cx} {E : XK} {elt tg iter : Expr} {ifs : List Expr} {scope : Scope} {own : List (Str × Nat)} {pos pos' : Pos} {wi : TI} {g : TG} {tt : TT} {te : TE}
/-- a block whose iterator's objects have moved and whose locals are as before -/
structure Turns (X : Cx) (s3 : Shared) (H3 : Hp) (scope : Scope) (ce : Env) (fp : List Addr) (xe : Value → Shared → Prop) (τ : L2.St) (tn : Nat → Heap → Prop) (W : Nat → Nat → Hp → Prop) (n i : Nat) (H : Hp) (s : Shared) : Prop where
  inv : Inv ((X.blk s3 H3 scope ce fp).tr [] xe) [] τ H s
  at_ : tn i s.heap
  non : ∀ b ∈ fp, H b = none
  has : W i n H
theorem lc_coreX {pins : List (Addr × Obj)} {s : Shared} {σ : L2.St} {H : Hp} {Q : VK} {use : Option (Value → Sem Unit)} {Qf : Value → Shared → Prop} (hst : X.stack = X.env :: X.outer) (hf : X.env.frame = some X.env.locals) (tk : L2N.Takes X (fun cls d _ H => E cls d H))
    (hc : X.calm = true) (hN : X.N.Nodup) (I : Inv X pins σ H s) (hi : PI X tg iter wi) (ok : BlkOk X.N X.env.scope scope own)
    (hg : ∀ (s : Shared) (H : Hp) (C : Addr) (cl : List (Str × Addr)) (fp : List Addr) (xe : Value → Shared → Prop), PG ((X.blk s H scope (compEnvC scope cl C X.env) fp).tr [] xe) tg g)
    (ht : ∀ (s : Shared) (H : Hp) (C : Addr) (cl : List (Str × Addr)) (fp : List Addr) (xe : Value → Shared → Prop), (∀ σ : L2.St, PassesAt (CXN X.prog X.w) ((X.blk s H scope (compEnvC scope cl C X.env) fp).tr [] xe) σ E) →
      PTs ((X.blk s H scope (compEnvC scope cl C X.env) fp).tr [] xe) ifs tt)
    (he : ∀ (s : Shared) (H : Hp) (C : Addr) (cl : List (Str × Addr)) (fp : List Addr) (xe : Value → Shared → Prop), (∀ σ : L2.St, PassesAt (CXN X.prog X.w) ((X.blk s H scope (compEnvC scope cl C X.env) fp).tr [] xe) σ E) →
      PE ((X.blk s H scope (compEnvC scope cl C X.env) fp).tr [] xe) elt te)
    (hs : ∀ x, foldedSetIterable iter X.env x = pure x) (h : tLc wi g tt te (own.map (·.2)) σ H Q)
    (hRR : ∀ D C s' m H', Inv X pins σ H' s' → Q (.ref D) H' → s'.heap.Ns C m → FpOk X pins H' C → compPost (model X.prog X.w) X.A X.xe use Qf (.ref D) C (.ok .next) s') :
    wpAny (model X.prog X.w) X.A (comprehension (.ListComp elt [⟨tg, iter, ifs, 0⟩] scope pos) scope X.env pos' (newList []) false (eval iter X.env) use) Qf X.xe s := by
  have hfree : ∀ y ∈ scope.names, y.2 = .free → ∃ c, X.env.cells.lookup y.1 = some c := fun y hy e => I.ok.has _ (ok.free y hy e)
  refine comp_run (use := use) rfl hs (closure_ok hfree) ok.kind (fun y hy e => by rw [ok.uniq y hy, e]) (thn (hi.run pins s σ H _ I h) fun xv s1 hx => thn hx fun itv s2 h2 => ?_)
  obtain ⟨it, fp, tn, J, H2, e, I2, T, st2, f2, q⟩ := h2
  subst e
  refine wpAny_newObj_type (newEnv_comp ?_) (by show 0 ≤ sizeLine; decide)
  generalize hD : s2.heap.objs.size = D
  obtain ⟨W, ⟨m0, w0⟩, turn⟩ := q D (I2.hok.fresh (Nat.le_of_eq hD))
  generalize hs3 : ({ s2 with heap := s2.heap.push { cls := .type "list", data := .seq ([] : List Value).toArray } } : Shared) = s3
  have h3 : s3.heap = s2.heap.push { cls := .type "list", data := .seq ([] : List Value).toArray } := by rw [← hs3]
  have k23 : ∀ b o, s2.heap.get? b = some o → s3.heap.get? b = some o := fun b o e => by rw [h3]; exact Heap.get?_push_of_some _ e
  have I3 : Inv X pins σ (upd H2 D (.lst [])) s3 := by
    rw [← hs3]
    refine I2.laid (t' := s2.toks) (fun b o e => Heap.get?_push_of_some _ e) (Nat.le_of_eq hD) ⟨Nat.zero_le _, [], 0, .nil, ?_⟩
    rw [← hD]
    exact Heap.get?_push_size _ rfl
  have f3 : ∀ b ∈ fp, FpOk X pins (upd H2 D (.lst [])) b ∧ b < s3.heap.objs.size := fun b hb => by
    obtain ⟨o, e, _⟩ := T.obj _ _ st2 b hb
    have lt := Heap.lt_size e
    refine ⟨⟨?_, (f2 b hb).2⟩, Heap.lt_size (k23 b o e)⟩
    rw [upd_ne (by rw [← hD]; exact Nat.ne_of_lt lt)]
    exact (f2 b hb).1
  generalize hce : compEnvC scope (cellsFrom (s3.heap.objs.size + 1) scope.names (cloFrom X.env.cells scope.names [])) s3.heap.objs.size X.env = ce
  have cL : ce.locals = s3.heap.objs.size := by subst hce; rfl
  have cf : ce.frame = X.env.frame := by subst hce; rfl
  have I4 := block_start I3 ok hN f3
  rw [hce] at I4
  show codeAny _ _ (.compStart (.ListComp elt [⟨tg, iter, ifs, 0⟩] scope pos) 0 (.ref it) (.ref D) (compEnvC scope (cellsFrom (s3.heap.objs.size + 1) scope.names (cloFrom X.env.cells scope.names [])) s3.heap.objs.size X.env))
    (postX (model X.prog X.w) X.A X.xe use Qf (.ref D) (compEnvC scope (cellsFrom (s3.heap.objs.size + 1) scope.names (cloFrom X.env.cells scope.names [])) s3.heap.objs.size X.env)) { s3 with heap := pushCells (s3.heap.push { cls := .type "dict", data := .dict #[] }) scope.names }
  rw [hce]
  generalize hxe : notedBy (model X.prog X.w) X.A ce (fun e s' => postX (model X.prog X.w) X.A X.xe use Qf (.ref D) ce (.error e) s') = xe
  generalize hH3 : upd H2 D (.lst []) = H3 at I3 I4 w0 f3
  have pass := blk_out (scope := scope) (ce := ce) (fp := fp) (use := use) (Qf := Qf) (acc := .ref D) hst hf cf cL I3 (fun b hb => (f3 b hb).1) tk hxe.symm
  have pg := hg s3 H3 s3.heap.objs.size (cellsFrom (s3.heap.objs.size + 1) scope.names (cloFrom X.env.cells scope.names [])) fp xe
  have pt := ht s3 H3 s3.heap.objs.size (cellsFrom (s3.heap.objs.size + 1) scope.names (cloFrom X.env.cells scope.names [])) fp xe
  have pe := he s3 H3 s3.heap.objs.size (cellsFrom (s3.heap.objs.size + 1) scope.names (cloFrom X.env.cells scope.names [])) fp xe
  rw [hce] at pg pt pe
  have pe := pe pass
  have pt := pt pass
  have I5 : Inv ((X.blk s3 H3 scope ce fp).tr [] xe) [] (wipe σ (own.map (·.2))) H3 { s3 with heap := pushCells (s3.heap.push { cls := .type "dict", data := .dict #[] }) scope.names } := I4.toTry xe
  have st5 : tn 0 (pushCells (s3.heap.push { cls := .type "dict", data := .dict #[] }) scope.names) := T.keep _ _ _ st2 fun b _ o e => pushCells_keeps _ _ _ _ (Heap.get?_push_of_some _ (k23 b o e))
  have fps : ∀ {σ' : L2.St} {H' : Hp} {s' : Shared}, Inv ((X.blk s3 H3 scope ce fp).tr [] xe) [] σ' H' s' → (∀ b ∈ fp, H' b = none) → ∀ b ∈ fp, FpOk ((X.blk s3 H3 scope ce fp).tr [] xe) [] H' b := fun {σ' H' s'} I' hn b hb =>
    ⟨hn b hb, (I'.ok.exf b hb).1, I'.ok.exfs b hb, .inl hb, (I'.ok.exf b hb).2, fun p hp => absurd (show p ∈ ([] : List (Addr × Obj)) ++ [] from hp) (by simp)⟩
  have loop : codeAny (model X.prog X.w) X.A (.compLoop (.ListComp elt [⟨tg, iter, ifs, 0⟩] scope pos) 0 (.ref it) (.ref D) ce) (postX (model X.prog X.w) X.A X.xe use Qf (.ref D) ce)
      { s3 with heap := pushCells (s3.heap.push { cls := .type "dict", data := .dict #[] }) scope.names } := by
    refine compLoop_any (fun n s' => ∃ i H', Turns X s3 H3 scope ce fp xe (wipe σ (own.map (·.2))) tn W n i H' s') ?_ m0 ⟨0, H3, I5, st5, fun b hb => (f3 b hb).1.1, w0⟩
    rw [hxe]
    rintro n s6 ⟨i, H6, t6⟩
    rcases turn i n H6 t6.has with ⟨stop, qq⟩ | ⟨go, Nx, hNx, step⟩
    · refine thn (T.done ((X.blk s3 H3 scope ce fp).tr [] xe) rfl rfl rfl hc i [] s6 _ H6 xe t6.inv (fps t6.inv t6.non) t6.at_ stop) fun r s7 ⟨hr, I7⟩ => ?_
      subst hr
      have back : Inv X pins σ H6 s7 := I3.call' (ch := fp) I7.os I7.base I7.hok I7.bare fun b hb => ⟨(f3 b hb).1.2.2.2.1, (f3 b hb).1.2.1, (f3 b hb).1.2.2.2.2.1, (f3 b hb).1.2.2.2.2.2⟩
      obtain ⟨m, hn, _⟩ := I7.loc
      exact hRR D ce.locals s7 m H6 back qq hn (I3.fpOk (by rw [cL]; exact Nat.le_refl _) I7.free)
    · refine thn (T.item ((X.blk s3 H3 scope ce fp).tr [] xe) rfl rfl rfl hc i [] s6 _ H6 xe t6.inv (fps t6.inv t6.non) t6.at_ go) fun r s7 ⟨u, hr, h7⟩ => ?_
      subst hr
      refine thn h7 fun _ s8 ⟨x, H8, I8, r8, y8, st8, n8⟩ => ?_
      have I8' := I8.pinned (fps I8 n8) (T.obj _ _ st8)
      refine thn (pg.run _ s8 _ H8 x u _ I8' r8 (step x H8 y8)) fun _ s9 ⟨σ9, H9, I9, hw, q9⟩ => ?_
      refine thn (pt.run _ s9 σ9 H9 _ I9 q9) fun b s10 ⟨H10, I10, q10⟩ => ?_
      have next : ∀ {s' : Shared} {H' : Hp}, Inv ((X.blk s3 H3 scope ce fp).tr [] xe) ([] ++ pinsAt fp s8.heap) σ9 H' s' → Nx H' → ∃ m, m < n ∧ ∃ i H', Turns X s3 H3 scope ce fp xe (wipe σ (own.map (·.2))) tn W m i H' s' := fun {s' H'} I' nx => by
        obtain ⟨m', hm, w'⟩ := hNx H' nx
        have kept : ∀ b ∈ fp, ∀ o, s8.heap.get? b = some o → s'.heap.get? b = some o ∧ H' b = none := fun b hb o e =>
          have z := I'.pin (b, o) (List.mem_append_right _ (List.mem_append_right _ (mem_pinsAt hb e)))
          ⟨z.1, z.2.1⟩
        refine ⟨m', hm, i + 1, H', (I'.unpinned (pins := [])).weak (by rw [← hw, wipe_length]) (fun j v e => (wipe_some (by rw [hw]; exact e)).1), T.keep _ _ _ st8 fun b hb o e => (kept b hb o e).1, fun b hb => ?_, w'⟩
        obtain ⟨o, e, _⟩ := T.obj _ _ st8 b hb
        exact (kept b hb o e).2
      cases b with
      | false =>
        simp only [Bool.false_eq_true, if_false] at q10 ⊢
        exact next I10 q10
      | true =>
        simp only [if_true] at q10 ⊢
        refine thn (pe.run _ s10 σ9 H10 _ I10 q10) fun z s11 ⟨yv, H11, I11, r11, acc, hD11, hz, nx⟩ => ?_
        exact app_ok (X := (X.blk s3 H3 scope ce fp).tr [] xe) I11 hD11 hz r11 fun s12 I12 => next I12 nx
  exact codeAny_compStart_list loop (T.self X.A 0 _ _ _ st5 loop)
theorem pe_lcX (hst : X.stack = X.env :: X.outer) (hf : X.env.frame = some X.env.locals) (tk : L2N.Takes X (fun cls d _ H => E cls d H)) (hc : X.calm = true) (hN : X.N.Nodup) (hi : PI X tg iter wi) (ok : BlkOk X.N X.env.scope scope own)
    (hg : ∀ (s : Shared) (H : Hp) (C : Addr) (cl : List (Str × Addr)) (fp : List Addr) (xe : Value → Shared → Prop), PG ((X.blk s H scope (compEnvC scope cl C X.env) fp).tr [] xe) tg g)
    (ht : ∀ (s : Shared) (H : Hp) (C : Addr) (cl : List (Str × Addr)) (fp : List Addr) (xe : Value → Shared → Prop), (∀ σ : L2.St, PassesAt (CXN X.prog X.w) ((X.blk s H scope (compEnvC scope cl C X.env) fp).tr [] xe) σ E) →
      PTs ((X.blk s H scope (compEnvC scope cl C X.env) fp).tr [] xe) ifs tt)
    (he : ∀ (s : Shared) (H : Hp) (C : Addr) (cl : List (Str × Addr)) (fp : List Addr) (xe : Value → Shared → Prop), (∀ σ : L2.St, PassesAt (CXN X.prog X.w) ((X.blk s H scope (compEnvC scope cl C X.env) fp).tr [] xe) σ E) →
      PE ((X.blk s H scope (compEnvC scope cl C X.env) fp).tr [] xe) elt te)
    (hs : ∀ x, foldedSetIterable iter X.env x = pure x := by intro _; rfl) : PE X (.ListComp elt [⟨tg, iter, ifs, 0⟩] scope pos) (tLc wi g tt te (own.map (·.2))) := by
  refine ⟨fun pins s σ H Q I h => ?_⟩
  rw [eval_ListComp]
  refine lc_coreX hst hf tk hc hN I hi ok hg ht he hs h fun D C s' m H' J q hn f => ⟨m, hn, fun h' sb => ?_⟩
  exact ⟨.ref D, H', J.turned (t' := s'.toks) (fun b o hb e => (sb.2 b hb).trans e) f.1 f.2.1 f.2.2.2.1 f.2.2.2.2.1 f.2.2.2.2.2, rfl, q⟩
/-- name = [..] on one line, the name a local -/
theorem ps_setLcX {i : Nat} {y : Str} {py spos : Pos} (hst : X.stack = X.env :: X.outer) (hf : X.env.frame = some X.env.locals) (tk : L2N.Takes X (fun cls d _ H => E cls d H)) (hc : X.calm = true) (hN : X.N.Nodup) (hy : X.N[i]? = some y) (hyl : X.env.scope.names.lookup y = some .local)
    (hsw : swapsWith (.ListComp elt [⟨tg, iter, ifs, 0⟩] scope pos) (some (.Name y py)) spos.line X.env = pure true) (hi : PI X tg iter wi) (ok : BlkOk X.N X.env.scope scope own)
    (hg : ∀ (s : Shared) (H : Hp) (C : Addr) (cl : List (Str × Addr)) (fp : List Addr) (xe : Value → Shared → Prop), PG ((X.blk s H scope (compEnvC scope cl C X.env) fp).tr [] xe) tg g)
    (ht : ∀ (s : Shared) (H : Hp) (C : Addr) (cl : List (Str × Addr)) (fp : List Addr) (xe : Value → Shared → Prop), (∀ σ : L2.St, PassesAt (CXN X.prog X.w) ((X.blk s H scope (compEnvC scope cl C X.env) fp).tr [] xe) σ E) →
      PTs ((X.blk s H scope (compEnvC scope cl C X.env) fp).tr [] xe) ifs tt)
    (he : ∀ (s : Shared) (H : Hp) (C : Addr) (cl : List (Str × Addr)) (fp : List Addr) (xe : Value → Shared → Prop), (∀ σ : L2.St, PassesAt (CXN X.prog X.w) ((X.blk s H scope (compEnvC scope cl C X.env) fp).tr [] xe) σ E) →
      PE ((X.blk s H scope (compEnvC scope cl C X.env) fp).tr [] xe) elt te)
    (hs : ∀ x, foldedSetIterable iter X.env x = pure x := by intro _; rfl) : PS X (.Assign [.Name y py] (.ListComp elt [⟨tg, iter, ifs, 0⟩] scope pos) spos) (tAsg (tLc wi g tt te (own.map (·.2))) (gName i)) := by
  refine ⟨fun pins s σ H D I h => ?_⟩
  rw [exec_Assign_Name_used _ _ _ _ hsw]
  refine wpAny_bind (wpAny_standAt (wpAny_bind ?_))
  show wpAny _ X.A (do let _ ← comprehension (.ListComp elt [⟨tg, iter, ifs, 0⟩] scope pos) scope X.env (firstIterPos [⟨tg, iter, ifs, 0⟩] pos) (newList []) false (eval iter X.env) (some (assign (.Name y py) X.env))) _ _ s
  have h : tLc wi g tt te (own.map (·.2)) σ H (fun x H1 => gName i x σ H1 D.nx) := h
  refine wpAny_bind (thn (lc_coreX (Qf := fun _ s' => SP X pins D .next s') hst hf tk hc hN I hi ok hg ht he hs h fun L C s' m H' J q hn f => ?_) fun _ _ hq => wpAny_pure (wpAny_pure hq))
  show wpAny _ _ (assign (.Name y py) X.env (.ref L)) _ _ _
  refine wpAny_assign_Name (store_ok2 (v := V.ref L) J hN hy (.inl hyl) rfl (fun s2 J2 ⟨a, sb, ha⟩ => ?_) (.inr hyl))
  have away : C ≠ a := ha.elim (fun z => z ▸ f.2.1) fun z e => f.2.2.2.2.1 y a z e.symm
  exact ⟨m, hn.sameBut sb away, fun h' sb' => ⟨_, H', J2.turned (t' := s2.toks) (fun b o hb e => (sb'.2 b hb).trans e) f.1 f.2.1 f.2.2.2.1 f.2.2.2.2.1 f.2.2.2.2.2, q⟩⟩
end
/-! ### calls within such a block -/
section
variable {X : Cx} {E : XK} {k j : Nat} {C : Addr} {x m : Str} {sp : Sp} {p pos apos : Pos} {e o : Expr} {es : List Expr} {ta : TE} {t : TA}
theorem pe_cxB (c : CalX X.prog X.w X.K X.mg X.base k x sp) (hr : Room j X.A) (hk : k ≤ j) (hx : ∀ σ : L2.St, PassesAt (CXN X.prog X.w) X σ E) (hg : Gl X x) (ha : PA X (e :: es) t)
    (hdb : (x == ("__debug__" : Str)) = false := by decide) (he : starEach (e :: es) X.env = (false, eval e X.env) :: starEach es X.env := by rfl) (hpl : (backTo pos (starEach es X.env)).any (·.1) = false := by rfl) :
    PE X (.Call (.Name x p) (e :: es) [] pos) (tCallS sp (fun _ => E) t) := by
  obtain ⟨f, fd, ps, F, hm, kp, b⟩ := c.ex
  exact pe_callS F (hr.mono hk) hg hm kp b hx ha hdb he hpl
end
end RJ
end

section
set_option maxRecDepth 100000
set_option maxHeartbeats 2000000
namespace RJ
open PySem PySem.Spec PyProof.Rows L2
section
variable {X : Cx} {E : XK} {k j : Nat} {C : Addr} {m : Str} {sp : Sp} {p pos apos : Pos} {e o : Expr} {es : List Expr} {ta : TE} {t : TA}
/-- a method that may raise, within a comprehension's block -/
theorem pe_mxB {pl : Sem Bool} (c : MetX X.prog X.w X.K X.mg X.base k C m sp) (hr : Room j X.A) (hk : k ≤ j) (hx : ∀ σ : L2.St, PassesAt (CXN X.prog X.w) X σ E) (he : PE X o ta) (ha : PA X (e :: es) t)
    (hst : starEach (e :: es) X.env = (false, eval e X.env) :: starEach es X.env := by rfl) (hpl : (backTo pos (starEach es X.env)).any (·.1) = false := by rfl)
    (ht : eval (.Call (.Attribute o m apos) (e :: es) [] pos) X.env = (do
      let ov ← eval o X.env
      standAt apos.atName
      let (f, first) ← holding [ov] (getMethod ov m pl)
      callWith pos f first (backTo pos (starEach (e :: es) X.env)) (backToKw pos (keywordEach [] X.env))) := by rfl) :
    PE X (.Call (.Attribute o m apos) (e :: es) [] pos) (tMethX C m sp (fun _ => E) ta t) := by
  obtain ⟨f, fd, ps, hc, hm, F, b⟩ := c.ex
  refine ⟨fun pins s σ H Q I h => ?_⟩
  refine PySem.W.methodCall_KW (pl := pl) (thn (he.run pins s σ H _ I h) fun u s1 ⟨x, H1, I1, rx, a, dx, fs, ex, ea, l, q⟩ => ?_) ht
  subst ex
  obtain rfl : u = Value.ref a := rx
  refine getmeth_ok I1 ea hc hm l ?_
  refine PySem.W.callWith_K (first := [.ref a]) (h₀ := X.base) I.ok.mod.kin hm.kp (thn (ha.run pos pins s1 σ H1 _ I1 q) fun us s2 ⟨vs, H2, I2, r, q2⟩ => ⟨I2.kIn, ?_⟩) hst hpl
  exact run_fnS (E := fun _ => E) (us := .ref a :: us) (vs := .ref a :: vs) F (hr.mono hk) b (hx σ) I2 (.cons rfl r) q2
end
end RJ
end

section
set_option maxRecDepth 100000
set_option maxHeartbeats 4000000
namespace PySem
/-- enumerate(v), whatever the iterator of v is -/
theorem rj_new_en {prog : Program} {w : World} (v : Value) : MeetsIn prog w (Builtin.«enumerate.__new__» ⟨[.type "enumerate", v], []⟩)
    (fun A R s => wpAny (model prog w) A.in1 (pyIter v) (fun itv s1 => R (.ok (.ret (.ref s1.heap.objs.size))) { s1 with heap := s1.heap.push { cls := .type "enumerate", data := .fields #[.none, .bool false, itv, rawInt 0, .none, .none] } }) (fun e s1 => R (.error e) s1) s) :=
  .of_wp fun A R s h => by
    have sub := sub_enumerate
    have it : ∀ {Q : Value → Shared → Prop}, (∀ itv s1, R (.ok (.ret (.ref s1.heap.objs.size))) { s1 with heap := s1.heap.push { cls := .type "enumerate", data := .fields #[.none, .bool false, itv, rawInt 0, .none, .none] } } → Q itv s1) → wpAny (model prog w) A.in1 (pyIter v) Q (fun e s1 => R (.error e) s1) s := fun q => wpAny_mono h q fun _ _ z => z
    wp_walk using it
    refine wpAny_stack_any fun _ => wpAny_pure ?_
    split
    · rename_i c _ _ _ _ _
      cases (c == Value.type "enumerate") <;> (wp_walk using it; intro itv s1 hR; wp_walk; exact ⟨_, rfl, hR⟩)
    · wp_walk using it
      intro itv s1 hR
      wp_walk
      exact ⟨_, rfl, hR⟩
end PySem
namespace PySem
section
variable {prog : Program} {w : World} {A : Around} {E : Value → Shared → Prop} {s : Shared}
theorem rj_call_en {v : Value} {Q : Value → Shared → Prop}
    (hx : wpAny (model prog w) A.in1.in1 (pyIter v) (fun itv s1 => ∀ h', h'.get? s1.heap.objs.size = some { cls := .type "enumerate", data := .fields #[.none, .bool false, itv, rawInt 0, .none, .none] } → h'.objs.size = s1.heap.objs.size + 1 →
      (∀ c o, s1.heap.get? c = some o → h'.get? c = some o) → Q (.ref s1.heap.objs.size) { s1 with heap := h' }) E s) : wpAny (model prog w) A (call (.type "enumerate") [v]) Q E s := by
  refine callType_newIn F.called_enumerate (by decide) (F.typeCall_enumerate_1 v) (F.newCall_enumerate_1 v) (fun obj => F.args_object_init_2 obj _) F.entry_enumerate_new (rj_new_en v) ?_
  show wpAny (model prog w) A.in1.in1 (pyIter v) _ _ _
  refine wpAny_mono hx (fun itv s1 h => ?_) fun _ _ z => z
  have gm : (s1.heap.push { cls := .type "enumerate", data := .fields #[.none, .bool false, itv, rawInt 0, .none, .none] }).get? s1.heap.objs.size = some { cls := .type "enumerate", data := .fields #[.none, .bool false, itv, rawInt 0, .none, .none] } := Heap.get?_push_size _ rfl
  show _ ∧ _
  exact ⟨⟨_, gm, rfl⟩, h _ gm (Heap.size_push ..) fun c o e => Heap.get?_push_of_some _ e⟩
/-- a tuple's iterator that has ended -/
def EndedT (h : Heap) (a : Addr) (i : Nat) : Prop := ∃ o, h.get? a = some o ∧ o.cls = .type "tuple_iterator" ∧ o.data = .fields #[.none, .int i 0]
theorem rj_tuple_end {it t : Addr} {i : Nat} {items : Array Value} {Q : Value → Shared → Prop} (hh : A.handled = none) (hit : s.heap.IsTupleIter it t i) (ht : s.heap.IsTuple t items) (hx : items[i]? = none)
    (hE : ∀ h' e, Heap.ExtBut it s.heap h' → EndedT h' it i → (∃ o, h'.get? e = some o ∧ o.cls = .type "StopIteration") → E (.ref e) { s with heap := h' }) : wpAny (model prog w) A (Builtin.SmallTypes.nextOf (.ref it)) Q E s := by
  obtain ⟨o, ho, hc, hd⟩ := id hit
  obtain ⟨ol, hol, _, nl, hdl⟩ := ht
  unfold Builtin.SmallTypes.nextOf
  refine wpAny_bind (wpAny_callSpecial?_slot (name := Str.ofString "__next__") hit.typeIs F.slot_tuple_iterator_next
    (wpAny_call_entry F.slot_tuple_iterator_next hit.typeIs F.entry_tuple_iterator_next ?_ (F.args_tuple_iterator_next_1 _)))
  show wpAny _ _ (field (.ref it) 0 >>= _) _ _ s
  refine wpAny_bind (wpAny_field ho hd (x := .ref t) rfl ?_)
  show wpAny _ _ (if (Value.ref t == Value.none) = true then _ else _) _ _ s
  rw [if_neg (show ¬ ((Value.ref t == Value.none) = true) from Bool.false_ne_true)]
  show wpAny _ _ (field (.ref it) 1 >>= _) _ _ s
  refine wpAny_bind (wpAny_field ho hd (x := .int i 0) rfl ?_)
  show wpAny _ _ (seqItems? (.ref t) >>= _) _ _ s
  refine wpAny_bind (wpAny_seqItems hol hdl ?_)
  simp only [Int.toNat_natCast, hx]
  refine wpAny_bind (wpAny_rule (wpAny_bind (wpAny_setField ho hd (by simp) ?_)))
  show wpAny _ _ (newExc (.type "StopIteration") [] >>= _) _ _ _
  refine wpAny_bind ?_
  simp only [newExc, newTuple]
  refine wpAny_bind (wpAny_newObj_type ?_ (by size_fits))
  refine wpAny_bind (m := firstArgMember _ _) (wpAny_of_eq (a := Value.none) (by first | rfl | (simp only [firstArgMember]; rfl)) ?_)
  refine wpAny_newObj_type ?_ (by size_fits)
  simp only [raiseNew]
  refine wpAny_bind (wpAny_handled ?_)
  first | rw [show A.in1.handled = none from hh] | rw [hh]
  refine wpAny_bind (wpAny_pure (wpAny_throw ?_))
  exact hE _ _ (((Heap.SameBut.update ..).extBut.push _).push _) ⟨_, Heap.get?_push_of_some _ (Heap.get?_push_of_some _ (Heap.get?_update_self _ ho (Obj.isFreed_of_fields (Obj.data_mapFields hd _)))), (Obj.cls_mapFields ..).trans hc, by
    rw [Obj.data_mapFields hd]; simp⟩ ⟨_, Heap.get?_push_size _ rfl, rfl⟩
theorem rj_tuple_ended {it : Addr} {i : Nat} {Q : Value → Shared → Prop} (hh : A.handled = none) (hit : EndedT s.heap it i)
    (hE : ∀ h' e, (∀ b o, s.heap.get? b = some o → h'.get? b = some o) → (∃ o, h'.get? e = some o ∧ o.cls = .type "StopIteration") → E (.ref e) { s with heap := h' }) : wpAny (model prog w) A (Builtin.SmallTypes.nextOf (.ref it)) Q E s := by
  obtain ⟨o, ho, hc, hd⟩ := id hit
  have hT : s.TypeIs (.ref it) "tuple_iterator" := ⟨o, ho, hc⟩
  unfold Builtin.SmallTypes.nextOf
  refine wpAny_bind (wpAny_callSpecial?_slot (name := Str.ofString "__next__") hT F.slot_tuple_iterator_next
    (wpAny_call_entry F.slot_tuple_iterator_next hT F.entry_tuple_iterator_next ?_ (F.args_tuple_iterator_next_1 _)))
  show wpAny _ _ (field (.ref it) 0 >>= _) _ _ s
  refine wpAny_bind (wpAny_field ho hd (x := .none) rfl ?_)
  show wpAny _ _ (if (Value.none == Value.none) = true then _ else _) _ _ s
  rw [if_pos (show ((Value.none == Value.none) = true) from rfl)]
  refine wpAny_bind (wpAny_rule (wpAny_bind ?_))
  show wpAny _ _ (newExc (.type "StopIteration") [] >>= _) _ _ _
  refine wpAny_bind ?_
  simp only [newExc, newTuple]
  refine wpAny_bind (wpAny_newObj_type ?_ (by size_fits))
  refine wpAny_bind (m := firstArgMember _ _) (wpAny_of_eq (a := Value.none) (by first | rfl | (simp only [firstArgMember]; rfl)) ?_)
  refine wpAny_newObj_type ?_ (by size_fits)
  simp only [raiseNew]
  refine wpAny_bind (wpAny_handled ?_)
  first | rw [show A.in1.handled = none from hh] | rw [hh]
  refine wpAny_bind (wpAny_pure (wpAny_throw ?_))
  exact hE _ _ (fun b o e => Heap.get?_push_of_some _ (Heap.get?_push_of_some _ e)) ⟨_, Heap.get?_push_size _ rfl, rfl⟩
theorem rj_enum_end {e it : Addr} {i : Int} {old : Value} {G : Heap → Prop} {Q : Option Value → Shared → Prop} (he : IsEnum s.heap e it i old)
    (hn : ∀ (Q E : Value → Shared → Prop), (∀ h' x, G h' → (∃ o, h'.get? x = some o ∧ o.cls = .type "StopIteration") → E (.ref x) { s with heap := h' }) → wpAny (model prog w) A.in1 (Builtin.SmallTypes.nextOf (.ref it)) Q E s)
    (hQ : ∀ h', G h' → Q none { s with heap := h' }) : wpAny (model prog w) A (pyNext (.ref e)) Q E s := by
  have hT : s.TypeIs (.ref e) "enumerate" := ⟨_, he, rfl⟩
  unfold pyNext
  refine wpAny_bind (wpAny_attempt (wpAny_callSpecial?_slot (name := Str.ofString "__next__") hT F.slot_enumerate_next
    (wpAny_call_entry F.slot_enumerate_next hT F.entry_enumerate_next ?_ (F.args_enumerate_next_1 _))))
  show wpAny _ _ (field (.ref e) 2 >>= _) _ _ _
  refine wpAny_bind (wpAny_field he rfl (x := .ref it) rfl ?_)
  refine wpAny_bind (hn _ _ fun h' x he' hx' => ?_)
  obtain ⟨o, ho, hc⟩ := hx'
  refine wpAny_bind (wpAny_isInstance (T := "StopIteration") (b := true) ⟨o, ho, hc⟩ isSubtype_stop ?_)
  exact wpAny_pure (hQ _ he')
end
end PySem
namespace PySem
section
variable {prog : Program} {w : World} {A : Around} {E : Value → Shared → Prop} {s : Shared}
theorem rj_call_iterT {l : Addr} {items : Array Value} {Q : Value → Shared → Prop} (hl : s.heap.IsTuple l items) (h : Q (.ref s.heap.objs.size) { s with heap := s.heap.push { cls := .type "tuple_iterator", data := .fields #[.ref l, .int 0 0] } }) : wpAny (model prog w) A (call (.builtin "iter") [.ref l]) Q E s := by
  refine Calls.call_function_entry (by decide +kernel) (by decide +kernel) PySem.W.kdk_entry_iter (PySem.W.kdk_args_iter _) ?_
  unfold Builtin.«iter»
  refine wpAny_bind (m := someArgs "iter" 1 2 _) (wpAny_of_eq (a := [Value.ref l]) (by first | rfl | kernel_rfl!) ?_)
  show wpAny _ _ (pyIter (.ref l) >>= _) _ _ _
  refine wpAny_bind (wpAny_pyIter_tuple hl ?_)
  exact wpAny_pure ⟨_, rfl, h⟩
end
end PySem
namespace RJ
open PySem PySem.Spec PyProof.Rows L2
/-! ### the walk over an own object that gives a tuple's iterator, by enumerate -/
/-- an iterator of the tuple at t, of n items, that has given i -/
def TupI (it t : Addr) (n i : Nat) : HO := .ext fun h => h.IsTupleIter it t i ∨ (n ≤ i ∧ EndedT h it i)
theorem tupI_ok {P : Program} {w : World} {H : Hp} {h : Heap} {it t : Addr} {n i : Nat} (e : h.IsTupleIter it t i ∨ (n ≤ i ∧ EndedT h it i)) : ObjOk P w H h it (TupI it t n i) := by
  refine ⟨e, ?_, fun h1 h2 q k => ?_⟩
  · rcases e with ⟨o, ho, _⟩ | ⟨_, o, ho, _⟩
    · exact ⟨o, ho⟩
    · exact ⟨o, ho⟩
  · rcases q with ⟨o, ho, r⟩ | ⟨l, o, ho, r⟩
    · exact .inl ⟨o, k _ ho, r⟩
    · exact .inr ⟨l, o, k _ ho, r⟩
/-- iter(t), t a tuple -/
def rIterT : List V → Hp → VK → Prop := fun xs H Q => ∃ (l : Addr) (zs : List V), xs = [.ref l] ∧ H l = some (.tup zs) ∧ ∀ it, H it = none → Q (.ref it) (upd H it (TupI it l zs.length 0))
theorem call_iterT {X : Cx} : CallR X (.builtin "iter") rIterT := by
  intro pins s σ H xs us Q I r h
  obtain ⟨l, zs, rfl, hq, q⟩ := h
  obtain rfl := Vals.ref1 r
  obtain ⟨its, rv, pl, hz⟩ := I.tuple (SqT.of hq)
  refine rj_call_iterT pl ?_
  exact ⟨.ref s.heap.objs.size, _, I.laid (t' := s.toks) (fun b u e => Heap.get?_push_of_some _ e) (Nat.le_refl _) (tupI_ok (.inl ⟨_, Heap.get?_push_size _ rfl, rfl, rfl⟩)), rfl, q _ (I.hok.fresh (Nat.le_refl _))⟩
/-- each turn gives a new tuple (its number, the item) -/
def ItEO (it0 pa : Addr) (xs : List V) : It :=
  ⟨fun i H => H pa = some (.tup xs) ∧ H it0 = some (TupI it0 pa xs.length i) ∧ i < xs.length,
   fun i H v H' => ∃ T x, v = .ref T ∧ H T = none ∧ xs[i]? = some x ∧ H' = upd (upd H it0 (TupI it0 pa xs.length (i + 1))) T (.tup [.int (i : Nat), x]),
   fun i H => H pa = some (.tup xs) ∧ H it0 = some (TupI it0 pa xs.length i) ∧ i = xs.length⟩
def EnumO (e it0 : Addr) (i : Nat) (h : Heap) : Prop := (∃ old, IsEnum h e it0 ((i : Nat) : Int) old) ∧ e ≠ it0
theorem turn_enumO {P : Program} {w : World} {K : PySem.W.Frag} {elts : List Expr} {kk : Nat} {tpos : Pos} {e it0 pa : Addr} {xs : List V} : Turn P w K (.Tuple elts kk tpos) (ItEO it0 pa xs) [e] e (EnumO e it0) where
  mem := List.mem_cons_self ..
  obj := fun i h ⟨⟨_, a⟩, _⟩ b hb => by rw [List.mem_singleton.mp hb]; exact ⟨_, a, fun _ q => nomatch q⟩
  keep := fun i h h' ⟨⟨old, a⟩, n⟩ k => ⟨⟨old, k e (by simp) _ a⟩, n⟩
  item := by
    rintro X hP hw hK hc i pins s σ H E I hf ⟨⟨old, he⟩, hne⟩ ⟨hpa, hit, hlt⟩
    subst hP hw hK
    have hfe := hf e (by simp)
    have hne2 : pa ≠ it0 := fun z => by rw [z, hit] at hpa; cases hpa
    obtain ⟨its, rv, p, _⟩ := I.tuple (SqT.of hpa)
    have hl := rv.length
    have esz : its.toArray.size = xs.length := by simp [hl]
    have DD := Draws.tuple (prog := X.prog) (w := X.w) (A := X.A.in1) (I.ok.hd hc) it0 pa hne2 its.toArray
    rw [esz] at DD
    have hex : s.heap.IsTupleIter it0 pa i := by
      rcases (I.hok it0 _ hit).1 with q | ⟨q, _⟩
      · exact q
      · omega
    have apart : e ∉ [it0, pa] := fun z => by
      rcases List.mem_cons.mp z with z | z
      · exact hne z
      · rw [← List.mem_singleton.mp z, hfe.1] at hpa; cases hpa
    refine wpAny_pyNext_enum_itemC DD he ⟨hex, p⟩ hlt hne apart fun u h' tk hu ho j1 hT _ hk => ⟨_, rfl, ?_⟩
    obtain ⟨x, hx, ru⟩ : ∃ x, xs[i]? = some x ∧ RelV x u := by
      have q' : its[i]? = some u := by simpa using hu
      obtain ⟨u', hu', ru⟩ := rv.get (List.getElem?_eq_getElem hlt)
      rw [q'] at hu'
      cases hu'
      exact ⟨_, List.getElem?_eq_getElem hlt, ru⟩
    refine wpAny_letOwnedTupleGo_enum (s := { s with heap := h', toks := tk + 1 }) ho fun g zg sg => ?_
    have on : ∀ {c : Addr} {o : Obj}, c ≠ e → h'.get? c = some o → g.get? c = some o := fun n a => (sg.2 _ n).trans a
    have elt : e < s.heap.objs.size := Heap.lt_size he
    have ilt : it0 < s.heap.objs.size := by obtain ⟨o, ho, _⟩ := hex; exact Heap.lt_size ho
    have hgT := on (Nat.ne_of_gt elt) hT
    have hgi : g.IsTupleIter it0 pa (i + 1) := by
      obtain ⟨o, ho, r⟩ := j1.1
      exact ⟨o, on (Ne.symm hne) ho, r⟩
    have next : IsEnum g e it0 ((i + 1 : Nat) : Int) u := by rw [show ((i + 1 : Nat) : Int) = (i : Int) + 1 by omega]; exact zg
    have fT : H s.heap.objs.size = none := I.hok.fresh (Nat.le_refl _)
    have kk : ∀ b o, b ≠ e → b ≠ it0 → s.heap.get? b = some o → g.get? b = some o := fun b o h1 h2 q => on h1 (hk b o h1 h2 q)
    generalize hT0 : s.heap.objs.size = T at hgT fT
    have nT : ∀ b o, s.heap.get? b = some o → b ≠ T := fun b o q => by rw [← hT0]; exact Nat.ne_of_lt (Heap.lt_size q)
    obtain ⟨H2, hH2⟩ : ∃ H2, H2 = upd (upd H it0 (TupI it0 pa xs.length (i + 1))) T (.tup [.int (i : Nat), x]) := ⟨_, rfl⟩
    have h2T : H2 T = some (.tup [.int (i : Nat), x]) := by rw [hH2]; exact upd_same
    have h2i : H2 it0 = some (TupI it0 pa xs.length (i + 1)) := by rw [hH2, upd_ne (fun z => by rw [z, fT] at hit; cases hit)]; exact upd_same
    have h2o : ∀ b, b ≠ it0 → b ≠ T → H2 b = H b := fun b h1 h2 => by rw [hH2, upd_ne h2, upd_ne h1]
    have nob : ∀ b u, H b = some u → b ≠ T := fun b u q z => by rw [z, fT] at q; cases q
    have J : Inv X pins σ H2 { s with heap := g, gens := s.gens, drawn := s.drawn, toks := tk + 1 } := by
      refine I.call (ch := [e]) ⟨fun b o q n hb hc => ?_, fun b o q n hb hc => ?_, fun b o q n hc => ?_, fun b o q hc => ?_, fun b ys q => ?_, fun b o u q => ?_, fun b ps q => ?_⟩ (fun b u q => ?_) I.bare (fun b hb => ?_)
      · exact kk b o (fun z => hc (by simp [z])) (fun z => by rw [z, hit] at n; cases n) q
      · exact ⟨o.slots, kk b o (fun z => hc (by simp [z])) (fun z => by rw [z, hit] at n; cases n) q⟩
      · rw [h2o b (fun z => by rw [z, hit] at n; cases n) (nT b o q)]; exact n
      · by_cases z : b = it0
        · obtain ⟨o', q', _⟩ := hgi
          exact ⟨o', by rw [z]; exact q'⟩
        · exact ⟨o, kk b o (fun z => hc (by simp [z])) z q⟩
      · rw [h2o b (fun z => by rw [z, hit] at q; cases q) (nob b _ q)]; exact q
      · rw [h2o b (fun z => by rw [z, hit] at q; cases q) (nob b _ q)]; exact q
      · exact ⟨#[], by rw [h2o b (fun z => by rw [z, hit] at q; cases q) (nob b _ q), q]; simp⟩
      · by_cases z1 : b = T
        · subst z1
          rw [h2T] at q
          cases q
          exact ⟨by show 2 ≤ sizeLine; decide, [.int i tk, u], .cons ⟨_, rfl⟩ (.cons ru .nil), ⟨_, hgT, rfl, _, rfl⟩⟩
        · by_cases z2 : b = it0
          · subst z2
            rw [h2i] at q
            cases q
            exact tupI_ok (.inl hgi)
          · rw [h2o b z2 z1] at q
            refine (I.hok b u q).stay (fun c v hc q' => ?_) (fun c q' => ?_) fun c ys q' => ?_
            · rcases hc with hc | hc
              · subst hc
                exact kk c v (fun z => by rw [z, hfe.1] at q; cases q) z2 q'
              · exact kk c v (fun z => by rw [z, hfe.1] at hc; cases hc) (fun z => by rw [z, hit] at hc; cases hc) q'
            · rw [h2o c (fun z => by rw [z, hit] at q'; cases q') (nob c _ q')]; exact q'
            · rw [h2o c (fun z => by rw [z, hit] at q'; cases q') (nob c _ q')]; exact q'
      · rw [List.mem_singleton.mp hb]
        exact ⟨hfe.2.2.2.1, hfe.2.1, hfe.2.2.2.2.1, hfe.2.2.2.2.2⟩
    have hH3 : H2 e = none := by rw [h2o e hne (nT e _ he)]; exact hfe.1
    rw [hH2] at J hH3
    exact ⟨.ref T, _, J, rfl, ⟨T, x, rfl, fT, hx, rfl⟩, ⟨⟨u, next⟩, hne⟩, fun c hcm => by rw [List.mem_singleton.mp hcm]; exact hH3⟩
  done := by
    rintro X hP hw hK hc i pins s σ H E I hf ⟨⟨old, he⟩, hne⟩ ⟨hpa, hit, hge⟩
    subst hP hw hK
    have hfe := hf e (by simp)
    have hne2 : pa ≠ it0 := fun z => by rw [z, hit] at hpa; cases hpa
    obtain ⟨its, rv, p, _⟩ := I.tuple (SqT.of hpa)
    have hl := rv.length
    have back : ∀ h' : Heap, (∀ b o, b ≠ it0 → s.heap.get? b = some o → h'.get? b = some o) → EndedT h' it0 i → Inv X pins σ H { s with heap := h', gens := s.gens, drawn := s.drawn, toks := s.toks } := by
      intro h' kk en
      refine I.call (ch := []) ⟨fun b o q n hb _ => kk b o (fun z => by rw [z, hit] at n; cases n) q, fun b o q n hb _ => ⟨o.slots, kk b o (fun z => by rw [z, hit] at n; cases n) q⟩, fun b o q n _ => n, fun b o q _ => ?_, fun b ys q => q, fun b o u q => q, fun b ps q => ⟨#[], by rw [q]; simp⟩⟩ (fun b u q => ?_) I.bare (fun b hb => nomatch hb)
      · by_cases z : b = it0
        · obtain ⟨o', q', _⟩ := en
          exact ⟨o', by rw [z]; exact q'⟩
        · exact ⟨o, kk b o z q⟩
      · by_cases z2 : b = it0
        · subst z2
          rw [hit] at q
          cases q
          exact tupI_ok (.inr ⟨Nat.le_of_eq hge.symm, en⟩)
        · refine (I.hok b u q).stay (fun c v hc q' => ?_) (fun c q' => q') fun c ys q' => q'
          rcases hc with hc | hc
          · subst hc; exact kk c v z2 q'
          · exact kk c v (fun z => by rw [z, hit] at hc; cases hc) q'
    refine rj_enum_end (G := fun h' => (∀ b o, b ≠ it0 → s.heap.get? b = some o → h'.get? b = some o) ∧ EndedT h' it0 i) he (fun Q E hE => ?_) fun h' ⟨g1, g2⟩ => ⟨rfl, back h' g1 g2⟩
    rcases (I.hok it0 _ hit).1 with q | ⟨_, q⟩
    · exact rj_tuple_end (A := X.A.in1) (I.ok.hd hc) q p (by rw [List.getElem?_toArray]; exact List.getElem?_eq_none (by omega)) fun h' x eb en st => hE h' x ⟨fun b o nb qq => eb b o nb qq, en⟩ st
    · refine rj_tuple_ended (A := X.A.in1) (I.ok.hd hc) q fun h' x kk st => hE h' x ⟨fun b o _ qq => kk b o qq, ?_⟩ st
      obtain ⟨o, ho, r⟩ := q
      exact ⟨o, kk _ _ ho, r⟩
  self := fun A i s Q E st h => by
    obtain ⟨⟨_, he⟩, _⟩ := st
    exact wpAny_pyIter_enum he h
/-- enumerate(o), o an instance whose __iter__ gives a tuple's iterator -/
def iEnumO (C : Addr) (sp : Sp) (ta : TA) : TI := fun σ H R => ta σ H fun vs H1 => ∃ a dx fs, vs = [.ref a] ∧ H1 a = some (.ins C dx fs) ∧ sp [.ref a] H1 (fun v H2 => ∃ it0 pa xs, v = .ref it0 ∧ H2 it0 = some (TupI it0 pa xs.length 0) ∧ R (ItEO it0 pa xs) H2) C8.E0
theorem pi_enumO {X : Cx} {e : Expr} {ta : TA} {p pos tpos : Pos} {elts : List Expr} {kk k j : Nat} {C : Addr} {sp : Sp} (hg : Gl X "enumerate") (hm : X.mg "enumerate" = none) (c : C8.Met X.prog X.w X.K X.mg X.base k C "__iter__" sp []) (hr : Room j X.A) (hk : k + 2 ≤ j) (ha : PA X [e] ta) (hs : starEach [e] X.env = [(false, eval e X.env)] := by rfl) :
    PI X (.Tuple elts kk tpos) (.Call (.Name "enumerate" p) [e] [] pos) (iEnumO C sp ta) := by
  obtain ⟨f, fd, ps, ds, hc, hmt, F, b, d⟩ := c.ex
  cases d
  refine ⟨fun pins s σ H R I h => ?_⟩
  refine Call_ (ld_blt I hg hm boot_enumerate (PyProof.Rows.callWith_type1 (thn (ha.run pos pins s σ H _ I h) fun us s1 ⟨vs, H1, I1, r1, q1⟩ => ?_) hs rfl))
  obtain ⟨a, dx, fs, ex, ea, q⟩ := q1
  subst ex
  obtain rfl := Vals.ref1 r1
  refine rj_call_en ?_
  obtain ⟨mA, J, _⟩ := ins_get I1.hok ea
  obtain ⟨od, J, _⟩ := J.look
  obtain ⟨m, hF⟩ := I1.fr
  refine PySem.W.owit_iter hF I1.ok.mod.kin J hmt.at_ hmt.fn ?_
  have rm : Room k X.A.in1.in1 := (hr.mono hk).in1.in1
  have e0 : Env0 X.prog X.w X.K X.mg X.base X.A.in1.in1 X.stack s1 H1 := by
    have e := I1.env0
    exact ⟨e.frames, e.mod, e.bs, e.bsz, e.funs, e.frf, e.hok, e.bare⟩
  have hl := F.len _ _ _ _ q
  have r2 : Vals [V.ref a] [Value.ref a] := .cons rfl .nil
  refine wpAny_call (codeAny_mono (F.run X.A.in1.in1 X.stack s1 H1 ⟨[.ref a], []⟩ [.ref a] [.ref a] _ C8.E0 rm e0 (by
    have := b s1 [.ref a] I1.kIn (by simpa using hl)
    simpa using this) r2 q) fun r s' hq' => ?_)
  cases r with
  | error e => exact hq'.elim
  | ok fl =>
    cases fl with
    | next => exact False.elim hq'
    | brk => exact False.elim hq'
    | cont => exact False.elim hq'
    | ret u =>
      obtain ⟨v, H2, I2, rv, it0, pa, xs, ev, ei, hR⟩ := I1.after hq'
      subst ev
      cases rv
      have hT : s'.TypeIs (.ref it0) "tuple_iterator" := by
        rcases (I2.hok it0 _ ei).1 with ⟨o, ho, hc, _⟩ | ⟨_, o, ho, hc, _⟩
        · exact ⟨o, ho, hc⟩
        · exact ⟨o, ho, hc⟩
      unfold PySem.W.OwitIt
      refine wpAny_specialOf (name := Str.ofString "__next__") hT PySem.F.slot_tuple_iterator_next.lookup ?_
      intro h' he hsz hk'
      have he' : IsEnum h' s'.heap.objs.size it0 0 .none := he
      refine wpAny_pyIter_enum (s := { s' with heap := h' }) he' ?_
      have I3 : Inv X pins σ H2 { s' with heap := h' } := I2.kept (t' := s'.toks) hk'
      have ilt : it0 < s'.heap.objs.size := by obtain ⟨o, ho, _⟩ := hT; exact Heap.lt_size ho
      refine ⟨s'.heap.objs.size, [s'.heap.objs.size], _, _, H2, rfl, I3, turn_enumO, ⟨⟨.none, he'⟩, Nat.ne_of_gt ilt⟩, fun c hc => ?_, hR⟩
      rw [List.mem_singleton.mp hc]
      exact I2.fpOk (Nat.le_refl _) (I2.hok.fresh (Nat.le_refl _))
end RJ
end

section
set_option maxRecDepth 100000
set_option maxHeartbeats 4000000
namespace RJ
open PySem PySem.Spec PyProof.Rows L2
/-! ### a tuple whose object is known, and the dict of its pairs -/
def kTupF (K : PySem.W.Frag) (x : V) (H : Hp) (Q : VK) : Prop := ∃ p xs, x = .ref p ∧ SqL K H p xs ∧ ∀ (q : Addr) (o : Obj), H q = none → o.dict = none → Q (.ref q) (upd H q (.frz o (.tup xs)))
section
variable {X : Cx}
theorem rl_tupleF (pins : List (Addr × Obj)) (s : Shared) (σ : L2.St) (H : Hp) (x : V) (v : Value) (Q : VK) (I : Inv X pins σ H s) (r : RelV x v) (h : kTupF X.K x H Q) :
    wpAny (model X.prog X.w) X.A (call (.type "tuple") [v]) (EP X pins σ Q) X.xe s := by
  obtain ⟨p, xs, rfl, hs, q⟩ := h
  obtain rfl : v = .ref p := r
  obtain ⟨its, rv, pl, hz⟩ := I.list hs
  refine call_tuple_list pl.isList (fun h' hk => ?_) (by rw [List.size_toArray, ← rv.length]; exact hz)
  have I1 : Inv X pins σ H { s with heap := h' } := I.kept (t' := s.toks) hk
  have e0 : (h'.push { cls := .type "tuple", data := .seq its.toArray }).get? h'.objs.size = some { cls := .type "tuple", data := .seq its.toArray } := Heap.get?_push_size _ rfl
  have I2 : Inv X pins σ (upd H h'.objs.size (.frz { cls := .type "tuple", data := .seq its.toArray } (.tup xs))) { s with heap := h'.push { cls := .type "tuple", data := .seq its.toArray } } :=
    I1.laid (t' := s.toks) (fun b o e => Heap.get?_push_of_some _ e) (Nat.le_refl _) (show ObjOk X.prog X.w _ _ _ (.frz _ (.tup xs)) from ⟨e0, hz, its, rv, IsTup.new _ _⟩)
  exact ⟨.ref h'.objs.size, _, I2, rfl, q _ _ (I1.hok.fresh (Nat.le_refl _)) rfl⟩
theorem pe_tupleOfF {a : Expr} {ta : TE} {p pos : Pos} (hg : Gl X "tuple") (hm : X.mg "tuple" = none) (ha : PE X a ta) (na : starEach [a] X.env = (false, eval a X.env) :: starEach [] X.env := by rfl) :
    PE X (.Call (.Name "tuple" p) [a] [] pos) (tThen ta (kTupF X.K)) := by
  refine ⟨fun pins s σ H Q I h => ?_⟩
  exact Call_ (ld_blt I hg hm boot_tuple (PyProof.Rows.callWith_type1 (one_arg ha I h (fun v s2 x H2 I2 r q => rl_tupleF pins s2 σ H2 x v Q I2 r q) na) na))
theorem pairs_vals {pins : List (Addr × Obj)} {σ : L2.St} {H : Hp} {s : Shared} (I : Inv X pins σ H s) : ∀ {ps : List Addr} {kvs : List (Key × V)}, Paired (fun p kv => SqT X.K H p [kV kv.1, kv.2]) ps kvs →
    ∃ (prs : List (Key × Value)) (vps : List (Value × Value)), KV kvs prs ∧ prs.length = ps.length ∧ vps.length = ps.length ∧ ∀ (j : Nat) (q : Key × Value), prs[j]? = some q → ∃ (b : Addr) (u : Value), ps[j]? = some b ∧ vps[j]? = some (u, q.2) ∧ IsTup s.heap b #[u, q.2] ∧ (mixKind X.prog X.w).is q.1 u = true
  | _, _, .nil => ⟨[], [], .nil, rfl, rfl, fun j q e => by simp at e⟩
  | _, _, .cons (a := p) (b := kv) h t => by
    obtain ⟨prs, vps, r, hl, hl2, hp⟩ := pairs_vals I t
    obtain ⟨its, rv, ht, _⟩ := I.tuple h
    obtain ⟨u, y, ei, ru, ry⟩ := vals2 rv
    subst ei
    refine ⟨(kv.1, y) :: prs, (u, y) :: vps, .cons ⟨rfl, ry⟩ r, by rw [List.length_cons, List.length_cons, hl], by rw [List.length_cons, List.length_cons, hl2], fun j q e => ?_⟩
    cases j with
    | zero =>
      have e' : (kv.1, y) = q := Option.some.inj e
      subst e'
      exact ⟨p, u, rfl, rfl, ht, kV_is (P := X.prog) (w := X.w) ru⟩
    | succ j =>
      obtain ⟨b, u', e1, e2, e3, e4⟩ := hp j q (by simpa using e)
      exact ⟨b, u', by simpa using e1, by simpa using e2, e3, e4⟩
/-- dict(t), t a known tuple of pairs -/
def rDictT (K : PySem.W.Frag) : List V → Hp → VK → Prop := fun xs H Q => ∃ (a : Addr) (o : Obj) (ps : List Addr) (kvs : List (Key × V)), xs = [.ref a] ∧ H a = some (.frz o (.tup (ps.map V.ref))) ∧ o.dict = none ∧ Paired (fun p kv => SqT K H p [kV kv.1, kv.2]) ps kvs ∧
  ∀ p, H p = none → Q (.ref p) (upd H p (.dK (mergeK [] kvs)))
theorem call_dictT (hcalm : X.calm = true) : CallR X (.type "dict") (rDictT X.K) := by
  intro pins s σ H xs us Q I r q
  obtain ⟨a, o, ps, kvs, ex, ha, hd, hp, q⟩ := q
  subst ex
  obtain ⟨u, eu, rx⟩ := vals1 r
  subst eu
  cases rx
  obtain ⟨he, hz, its, rv, o', ho', hc, n, hdat⟩ : s.heap.get? a = some o ∧ ObjOk X.prog X.w H s.heap a (.tup (ps.map V.ref)) := I.hok a _ ha
  rw [he] at ho'
  cases ho'
  have ei := refs_at rv
  subst ei
  rw [List.length_map] at hz
  obtain ⟨prs, vps, rel, hl, hl2, hpr⟩ := pairs_vals I hp
  have hitem : ∀ j k v, vps[j]? = some (k, v) → ∃ q : Key × Value, prs[j]? = some q ∧ q.2 = v ∧ (mixKind X.prog X.w).is q.1 k = true ∧ ∃ b, ps[j]? = some b ∧ IsTup s.heap b #[k, v] := fun j k v e => by
    have hj : j < prs.length := by rw [hl, ← hl2]; exact (List.getElem?_eq_some_iff.mp e).1
    obtain ⟨b, u, e1, e2, e3, e4⟩ := hpr j prs[j] (List.getElem?_eq_getElem hj)
    rw [e] at e2
    obtain ⟨rfl, rfl⟩ := Prod.mk.inj (Option.some.inj e2)
    exact ⟨_, List.getElem?_eq_getElem hj, rfl, e4, b, e1, e3⟩
  refine PySem.call_dict_pairs (knd := mixKind X.prog X.w) (kvs := prs) (PairArg.tuple a (ps.map Value.ref).toArray (fun j => (ps[j]?).getD 0) vps) (I.ok.hd hcalm) ⟨⟨o, n, he, hc, hd, hdat⟩, by simp [hl2], fun j k v e => ?_⟩ ⟨by rw [hl, hl2], fun i key v e => ?_⟩ (by rw [hl2]; exact hz) fun h' tk hd' k => ?_
  · obtain ⟨_, _, _, _, b, eb, et⟩ := hitem j k v e
    exact ⟨by simp [eb], .inl (by have et' : s.heap.IsTuple b #[k, v] := et; simpa [eb] using et')⟩
  · obtain ⟨q', e1, e2, e3, _⟩ := hitem i key v e
    exact ⟨q'.1, by rw [e1, ← e2], e3⟩
  · have hm : (s.heap.objs.size == sysModules) = false := beq_eq_false_iff_ne.mpr (Nat.ne_of_gt I.big)
    have hlen : (mergeK [] kvs).length ≤ sizeLine := by
      refine Nat.le_trans (length_mergeK kvs []) ?_
      rw [List.length_nil, Nat.zero_add, rel.length, hl]
      exact hz
    exact ⟨.ref s.heap.objs.size, upd H s.heap.objs.size (.dK (mergeK [] kvs)), I.laid (t' := tk) (fun b o e => k b o (by simp) e) (Nat.le_refl _) (show ObjOk X.prog X.w _ _ _ (.dK (mergeK [] kvs)) from ⟨hlen, hm, merged [] prs, KV.merge rel .nil, hd'⟩), rfl, q _ (I.hok.fresh (Nat.le_refl _))⟩
end
end RJ
namespace RJ
open PySem PySem.Spec PyProof.Rows L2
/-! ### a property -/
structure PrpC (P : Program) (w : World) (K : PySem.W.Frag) (mg : Str → Option Value) (base : Heap) (k : Nat) (C : Addr) (m : Str) (sp : Sp) : Prop where
  ex : ∃ (p g : Addr) (fd : FuncData) (ps : List Str), Cls K C ∧ PropOf K C m p g ∧ FnOk P w K mg base C8.CX0 k g fd ps sp ∧ Binds K fd ps []
theorem pe_prp {X : Cx} {k j : Nat} {C : Addr} {m : Str} {sp : Sp} {e : Expr} {ta : TE} {pos : Pos} (c : PrpC X.prog X.w X.K X.mg X.base k C m sp) (hr : Room j X.A) (hk : k + 1 ≤ j) (he : PE X e ta)
    (hab : attributeBase e m X.env (eval e X.env) = eval e X.env := by rfl) : PE X (.Attribute e m pos) (tProp C sp [] C8.E0 ta) := by
  obtain ⟨p, g, fd, ps, hc, hp, F, b⟩ := c.ex
  exact pe_prop he hc hp F (hr.mono hk) b .nil C8.pass0 hab
end RJ
namespace RJ
open PySem PySem.Spec PyProof.Rows L2
theorem call_dictTK {X : Cx} {K : PySem.W.Frag} (h : X.K = K) (hc : X.calm = true) : CallR X (.type "dict") (rDictT K) := h ▸ call_dictT hc
/-- an item of a list, ahead of a store -/
def rGetL : V → V → Hp → VK → Prop := fun x y H Q => ∃ (p : Addr) (xs : List V) (k : Nat) (v : V), x = .ref p ∧ y = .int (k : Int) ∧ H p = some (.lst xs) ∧ xs[k]? = some v ∧ Q v H
theorem get_listN {X : Cx} : PGet X rGetL := by
  intro pins s σ H o i ov iv Q I ro ri h
  obtain ⟨p, xs, k, z, rfl, rfl, hp, he, q⟩ := h
  cases ro
  obtain ⟨t, rfl⟩ := ri
  obtain ⟨its, r, pl, hz⟩ := I.list (SqL.of hp)
  obtain ⟨w, ew, rw'⟩ := r.get he
  have hl := r.length
  have hn := line63
  have hk : k < xs.length := (List.getElem?_eq_some_iff.mp he).1
  exact wpAny_getItem_list pl.isList (Int.natCast_nonneg _) (by omega) (by rw [Int.toNat_natCast]; simpa using ew) ⟨z, H, I, rw', q⟩
end RJ
end

section
set_option maxRecDepth 100000
set_option maxHeartbeats 4000000
namespace PySem
open HotX
section
variable {prog : Program} {w : World} {A : Around} {E : Value → Shared → Prop} {s : Shared}
/-- a list's iterator ends where an exception is handled -/
theorem rj_list_end_hot {it l x1 : Addr} {i : Nat} {items : Array Value} {Q : Option Value → Shared → Prop} (hot : HotAt A x1 s.heap) (nx : x1 ≠ it)
    (hit : s.heap.IsListIter it l i) (hl : s.heap.IsList l items) (hx : items[i]? = none)
    (hQ : ∀ h', Heap.ExtBut it s.heap h' → Q none { s with heap := h' }) : wpAny (model prog w) A (pyNext (.ref it)) Q E s := by
  obtain ⟨o, ho, hc, hd⟩ := id hit
  obtain ⟨ol, hol, _, nl, hdl⟩ := hl
  obtain ⟨hh, o1, vs1, h1, d1, c1⟩ := hot
  unfold pyNext
  refine wpAny_bind (wpAny_attempt (wpAny_callSpecial?_slot (name := Str.ofString "__next__") hit.typeIs slot_listiter_next
    (wpAny_call_entry slot_listiter_next hit.typeIs entry_listiter_next ?_ (args_listiter_next _))))
  show wpAny _ _ (field (.ref it) 0 >>= _) _ _ s
  refine wpAny_bind (wpAny_field ho hd (x := .ref l) rfl ?_)
  show wpAny _ _ (if (Value.ref l == Value.none) = true then _ else _) _ _ s
  rw [if_neg (show ¬ ((Value.ref l == Value.none) = true) from Bool.false_ne_true)]
  show wpAny _ _ (field (.ref it) 1 >>= _) _ _ s
  refine wpAny_bind (wpAny_field ho hd (x := .int i 0) rfl ?_)
  show wpAny _ _ (seqItems? (.ref l) >>= _) _ _ s
  refine wpAny_bind (wpAny_seqItems hol hdl ?_)
  simp only [Int.toNat_natCast, hx]
  refine wpAny_bind (wpAny_rule (wpAny_bind (wpAny_setField ho hd (by simp) ?_)))
  have h1' : (s.heap.update it (Obj.mapFields fun x => x.setIfInBounds 0 Value.none)).get? x1 = some o1 := (Heap.get?_update_other _ _ (Ne.symm nx)).trans h1
  have ext : Heap.ExtBut it s.heap (s.heap.update it (Obj.mapFields fun x => x.setIfInBounds 0 Value.none)) := (Heap.SameBut.update ..).extBut
  generalize s.heap.update it (Obj.mapFields fun x => x.setIfInBounds 0 Value.none) = h2 at h1' ext
  show wpAny _ _ (newExc (.type "StopIteration") [] >>= _) _ _ _
  refine wpAny_bind ?_
  simp only [newExc, newTuple]
  refine wpAny_bind (wpAny_newObj_type ?_ (by size_fits))
  refine wpAny_bind (m := firstArgMember _ _) (wpAny_of_eq (a := Value.none) (by first | rfl | (simp only [firstArgMember]; rfl)) ?_)
  refine wpAny_newObj_type ?_ (by size_fits)
  refine raiseNew_hot ⟨hh, o1, vs1, Heap.get?_push_of_some _ (Heap.get?_push_of_some _ h1'), d1, c1⟩ (Nat.ne_of_lt (Heap.lt_size (Heap.get?_push_of_some _ h1'))) (Heap.get?_push_size _ rfl) rfl (by first | (simp; done) | (simp; omega) | (simp only [Array.size_append]; simp; omega)) ?_
  refine wpAny_bind (wpAny_isInstance (T := "StopIteration") (b := true) ⟨_, Heap.get?_update_self _ (Heap.get?_push_size _ rfl) rfl, rfl⟩ isSubtype_stop ?_)
  refine wpAny_pure (hQ _ fun b o' nb e => ?_)
  have e' := ext b o' nb e
  rw [Heap.get?_update_other _ _ (Nat.ne_of_gt (Heap.lt_size (Heap.get?_push_of_some _ e')))]
  exact Heap.get?_push_of_some _ (Heap.get?_push_of_some _ e')
end
end PySem
namespace RJ
open PySem PySem.Spec PyProof.Rows L2 HotX
/-! ### a comprehension where an exception is handled -/
structure TurnHL (P : Program) (w : World) (K : PySem.W.Frag) (tg : Expr) (J : It) (fp : List Addr) (it : Addr) (tn : Nat → Heap → Prop) : Prop where
  mem : it ∈ fp
  obj : ∀ i h, tn i h → ∀ b ∈ fp, ∃ o, h.get? b = some o ∧ ∀ v, o.data ≠ .cell v
  keep : ∀ i h h', tn i h → (∀ b ∈ fp, ∀ o, h.get? b = some o → h'.get? b = some o) → tn i h'
  item : ∀ (X : Cx), X.prog = P → X.w = w → X.K = K → ∀ (i : Nat) (pins : List (Addr × Obj)) (s : Shared) (σ : L2.St) (H : Hp) (E : Value → Shared → Prop), Inv X pins σ H s → (∀ b ∈ fp, FpOk X pins H b) → tn i s.heap → J.go i H →
    wpAny (model P w) X.A (pyNext (.ref it)) (fun r s1 => ∃ u, r = some u ∧
      wpAny (model P w) X.A (letOwnedTupleGo tg (.ref it) u) (fun _ s2 => ∃ x H', Inv X pins σ H' s2 ∧ RelV x u ∧ J.yld i H x H' ∧ tn (i + 1) s2.heap ∧ ∀ b ∈ fp, H' b = none) E s1) E s
  done : ∀ (X : Cx), X.prog = P → X.w = w → X.K = K → ∀ (i : Nat) (pins : List (Addr × Obj)) (s : Shared) (σ : L2.St) (H : Hp) (E : Value → Shared → Prop), Inv X pins σ H s → (∃ x1, HotAt X.A x1 s.heap ∧ ∀ b ∈ fp, x1 ≠ b) → (∀ b ∈ fp, FpOk X pins H b) → tn i s.heap → J.stop i H →
    wpAny (model P w) X.A (pyNext (.ref it)) (fun r s1 => r = none ∧ Inv X pins σ H s1) E s
  self : ∀ (A : Around) (i : Nat) (s : Shared) (Q : Value → Shared → Prop) (E : Value → Shared → Prop), tn i s.heap → Q (.ref it) s → wpAny (model P w) A (pyIter (.ref it)) Q E s
def PIEHL (X : Cx) (pins : List (Addr × Obj)) (σ : L2.St) (tg : Expr) (R : It → Hp → Prop) (itv : Value) (s2 : Shared) : Prop :=
  ∃ (it : Addr) (fp : List Addr) (tn : Nat → Heap → Prop) (J : It) (H' : Hp), itv = .ref it ∧ Inv X pins σ H' s2 ∧ TurnHL X.prog X.w X.K tg J fp it tn ∧ tn 0 s2.heap ∧ (∀ b ∈ fp, FpOk X pins H' b) ∧ R J H'
structure PIHL (X : Cx) (tg iter : Expr) (wi : TI) : Prop where
  run : ∀ (pins : List (Addr × Obj)) (s : Shared) (σ : L2.St) (H : Hp) (R : It → Hp → Prop), Inv X pins σ H s → wi σ H R →
    wpAny (model X.prog X.w) X.A (eval iter X.env) (fun v s1 => wpAny (model X.prog X.w) X.A (pyIter v) (PIEHL X pins σ tg R) X.xe s1) X.xe s
theorem turn_listHL {P : Program} {w : World} {K : PySem.W.Frag} {tg : Expr} (a it : Addr) : TurnHL P w K tg (Itl K a) [it] it (fun i h => h.IsListIter it a i) where
  mem := (turn_list (P := P) (w := w) (K := K) (tg := tg) a it).mem
  obj := (turn_list (P := P) (w := w) (K := K) (tg := tg) a it).obj
  keep := (turn_list (P := P) (w := w) (K := K) (tg := tg) a it).keep
  item := by
    intro X hP hw hK i pins s σ H E I hf st hg
    subst hP hw hK
    obtain ⟨xs, x, hq, hx⟩ := hg
    obtain ⟨its, rv, p, hz⟩ := I.list hq
    obtain ⟨u, hu, ru⟩ := rv.get hx
    obtain ⟨f0, f1, f2, f3, f4, f5⟩ := hf it (by simp)
    refine wpAny_pyNext_list_item st p.isList (x := u) (by simpa using hu) fun h' st' sb => ?_
    have I1 : Inv X pins σ H { s with heap := h' } := I.turned (t' := s.toks) (fun b o hb e => (sb.2 b hb).trans e) f0 f1 f3 f4 f5
    obtain ⟨o, e, c, d⟩ := id st'
    exact ⟨u, rfl, go_of (s := { s with heap := h' }) e c d (by decide) ⟨x, H, I1, ru, ⟨rfl, fun ys hy => by rw [I.list_inj hy hq]; exact hx⟩, st', fun b hb => (hf b hb).1⟩⟩
  done := by
    intro X hP hw hK i pins s σ H E I ⟨x1, hot, hne⟩ hf st hg
    subst hP hw hK
    obtain ⟨xs, hq, hx⟩ := hg
    obtain ⟨its, rv, p, hz⟩ := I.list hq
    have hl := rv.length
    obtain ⟨f0, f1, f2, f3, f4, f5⟩ := hf it (by simp)
    exact rj_list_end_hot hot (hne it (by simp)) st p.isList (by simp; omega) fun h' eb => ⟨rfl, I.turned (t' := s.toks) (fun b o hb e => eb b o hb e) f0 f1 f3 f4 f5⟩
  self := (turn_list (P := P) (w := w) (K := K) (tg := tg) a it).self
theorem pi_listHL {X : Cx} {tg l : Expr} {tl : TE} (hl : PE X l tl) : PIHL X tg l (iList X.K tl) := by
  refine ⟨fun pins s σ H R I h => ?_⟩
  refine thn (hl.run pins s σ H _ I h) fun v s1 ⟨x, H1, I1, r1, q1⟩ => ?_
  obtain ⟨a, e, ⟨xs, hq⟩, q⟩ := q1
  subst e
  cases r1
  obtain ⟨its, rv, p, hz⟩ := I1.list hq
  refine wpAny_pyIter_list p.isList ?_
  refine ⟨s1.heap.objs.size, [s1.heap.objs.size], _, _, H1, rfl, I1.kept (t' := s1.toks) fun b o e => Heap.get?_push_of_some _ e, turn_listHL a _, ⟨_, Heap.get?_push_size _ rfl, rfl, rfl⟩, fun b hb => ?_, q⟩
  have e : b = s1.heap.objs.size := by simpa using hb
  subst e
  exact I1.fpOk (Nat.le_refl _) (I1.hok.fresh (Nat.le_refl _))
section
variable {X : Cx} {E : XK} {elt tg iter : Expr} {ifs : List Expr} {scope : Scope} {own : List (Str × Nat)} {pos pos' : Pos} {wi : TI} {g : TG} {tt : TT} {te : TE}
theorem lc_coreH {pins : List (Addr × Obj)} {s : Shared} {σ : L2.St} {H : Hp} {Q : VK} {use : Option (Value → Sem Unit)} {Qf : Value → Shared → Prop} (hst : X.stack = X.env :: X.outer) (hf : X.env.frame = some X.env.locals) (tk : L2N.Takes X (fun cls d _ H => E cls d H))
    (hot : L2H.HotC X) (hN : X.N.Nodup) (I : Inv X pins σ H s) (hi : PIHL X tg iter wi) (ok : BlkOk X.N X.env.scope scope own)
    (hg : ∀ (s : Shared) (H : Hp) (C : Addr) (cl : List (Str × Addr)) (fp : List Addr) (xe : Value → Shared → Prop), PG ((X.blk s H scope (compEnvC scope cl C X.env) fp).tr [] xe) tg g)
    (ht : ∀ (s : Shared) (H : Hp) (C : Addr) (cl : List (Str × Addr)) (fp : List Addr) (xe : Value → Shared → Prop), (∀ σ : L2.St, PassesAt (CXN X.prog X.w) ((X.blk s H scope (compEnvC scope cl C X.env) fp).tr [] xe) σ E) →
      PTs ((X.blk s H scope (compEnvC scope cl C X.env) fp).tr [] xe) ifs tt)
    (he : ∀ (s : Shared) (H : Hp) (C : Addr) (cl : List (Str × Addr)) (fp : List Addr) (xe : Value → Shared → Prop), (∀ σ : L2.St, PassesAt (CXN X.prog X.w) ((X.blk s H scope (compEnvC scope cl C X.env) fp).tr [] xe) σ E) →
      PE ((X.blk s H scope (compEnvC scope cl C X.env) fp).tr [] xe) elt te)
    (hs : ∀ x, foldedSetIterable iter X.env x = pure x) (h : tLc wi g tt te (own.map (·.2)) σ H Q)
    (hRR : ∀ D C s' m H', Inv X pins σ H' s' → Q (.ref D) H' → s'.heap.Ns C m → FpOk X pins H' C → compPost (model X.prog X.w) X.A X.xe use Qf (.ref D) C (.ok .next) s') :
    wpAny (model X.prog X.w) X.A (comprehension (.ListComp elt [⟨tg, iter, ifs, 0⟩] scope pos) scope X.env pos' (newList []) false (eval iter X.env) use) Qf X.xe s := by
  have hfree : ∀ y ∈ scope.names, y.2 = .free → ∃ c, X.env.cells.lookup y.1 = some c := fun y hy e => I.ok.has _ (ok.free y hy e)
  refine comp_run (use := use) rfl hs (closure_ok hfree) ok.kind (fun y hy e => by rw [ok.uniq y hy, e]) (thn (hi.run pins s σ H _ I h) fun xv s1 hx => thn hx fun itv s2 h2 => ?_)
  obtain ⟨it, fp, tn, J, H2, e, I2, T, st2, f2, q⟩ := h2
  subst e
  refine wpAny_newObj_type (newEnv_comp ?_) (by show 0 ≤ sizeLine; decide)
  generalize hD : s2.heap.objs.size = D
  obtain ⟨W, ⟨m0, w0⟩, turn⟩ := q D (I2.hok.fresh (Nat.le_of_eq hD))
  generalize hs3 : ({ s2 with heap := s2.heap.push { cls := .type "list", data := .seq ([] : List Value).toArray } } : Shared) = s3
  have h3 : s3.heap = s2.heap.push { cls := .type "list", data := .seq ([] : List Value).toArray } := by rw [← hs3]
  have k23 : ∀ b o, s2.heap.get? b = some o → s3.heap.get? b = some o := fun b o e => by rw [h3]; exact Heap.get?_push_of_some _ e
  have I3 : Inv X pins σ (upd H2 D (.lst [])) s3 := by
    rw [← hs3]
    refine I2.laid (t' := s2.toks) (fun b o e => Heap.get?_push_of_some _ e) (Nat.le_of_eq hD) ⟨Nat.zero_le _, [], 0, .nil, ?_⟩
    rw [← hD]
    exact Heap.get?_push_size _ rfl
  have f3 : ∀ b ∈ fp, FpOk X pins (upd H2 D (.lst [])) b ∧ b < s3.heap.objs.size := fun b hb => by
    obtain ⟨o, e, _⟩ := T.obj _ _ st2 b hb
    have lt := Heap.lt_size e
    refine ⟨⟨?_, (f2 b hb).2⟩, Heap.lt_size (k23 b o e)⟩
    rw [upd_ne (by rw [← hD]; exact Nat.ne_of_lt lt)]
    exact (f2 b hb).1
  generalize hce : compEnvC scope (cellsFrom (s3.heap.objs.size + 1) scope.names (cloFrom X.env.cells scope.names [])) s3.heap.objs.size X.env = ce
  have cL : ce.locals = s3.heap.objs.size := by subst hce; rfl
  have cf : ce.frame = X.env.frame := by subst hce; rfl
  have I4 := block_start I3 ok hN f3
  rw [hce] at I4
  show codeAny _ _ (.compStart (.ListComp elt [⟨tg, iter, ifs, 0⟩] scope pos) 0 (.ref it) (.ref D) (compEnvC scope (cellsFrom (s3.heap.objs.size + 1) scope.names (cloFrom X.env.cells scope.names [])) s3.heap.objs.size X.env))
    (postX (model X.prog X.w) X.A X.xe use Qf (.ref D) (compEnvC scope (cellsFrom (s3.heap.objs.size + 1) scope.names (cloFrom X.env.cells scope.names [])) s3.heap.objs.size X.env)) { s3 with heap := pushCells (s3.heap.push { cls := .type "dict", data := .dict #[] }) scope.names }
  rw [hce]
  generalize hxe : notedBy (model X.prog X.w) X.A ce (fun e s' => postX (model X.prog X.w) X.A X.xe use Qf (.ref D) ce (.error e) s') = xe
  generalize hH3 : upd H2 D (.lst []) = H3 at I3 I4 w0 f3
  have pass := blk_out (scope := scope) (ce := ce) (fp := fp) (use := use) (Qf := Qf) (acc := .ref D) hst hf cf cL I3 (fun b hb => (f3 b hb).1) tk hxe.symm
  have pg := hg s3 H3 s3.heap.objs.size (cellsFrom (s3.heap.objs.size + 1) scope.names (cloFrom X.env.cells scope.names [])) fp xe
  have pt := ht s3 H3 s3.heap.objs.size (cellsFrom (s3.heap.objs.size + 1) scope.names (cloFrom X.env.cells scope.names [])) fp xe
  have pe := he s3 H3 s3.heap.objs.size (cellsFrom (s3.heap.objs.size + 1) scope.names (cloFrom X.env.cells scope.names [])) fp xe
  rw [hce] at pg pt pe
  have pe := pe pass
  have pt := pt pass
  have I5 : Inv ((X.blk s3 H3 scope ce fp).tr [] xe) [] (wipe σ (own.map (·.2))) H3 { s3 with heap := pushCells (s3.heap.push { cls := .type "dict", data := .dict #[] }) scope.names } := I4.toTry xe
  have st5 : tn 0 (pushCells (s3.heap.push { cls := .type "dict", data := .dict #[] }) scope.names) := T.keep _ _ _ st2 fun b _ o e => pushCells_keeps _ _ _ _ (Heap.get?_push_of_some _ (k23 b o e))
  have fps : ∀ {σ' : L2.St} {H' : Hp} {s' : Shared}, Inv ((X.blk s3 H3 scope ce fp).tr [] xe) [] σ' H' s' → (∀ b ∈ fp, H' b = none) → ∀ b ∈ fp, FpOk ((X.blk s3 H3 scope ce fp).tr [] xe) [] H' b := fun {σ' H' s'} I' hn b hb =>
    ⟨hn b hb, (I'.ok.exf b hb).1, I'.ok.exfs b hb, .inl hb, (I'.ok.exf b hb).2, fun p hp => absurd (show p ∈ ([] : List (Addr × Obj)) ++ [] from hp) (by simp)⟩
  have hotB : ∀ {σ' : L2.St} {H' : Hp} {s' : Shared}, Inv ((X.blk s3 H3 scope ce fp).tr [] xe) [] σ' H' s' → ∃ x1, HotAt X.A x1 s'.heap ∧ ∀ b ∈ fp, x1 ≠ b := fun {σ' H' s'} I' => by
    obtain ⟨p, ⟨hh, v1, e1, c1⟩, hp⟩ := hot
    obtain ⟨g1, g2, g3, g4, _⟩ := I3.pin p (List.mem_append_left _ hp)
    refine ⟨p.1, ⟨hh, p.2, v1, I'.base.keep p.1 p.2 g1 g2 ?_ ?_, e1, c1⟩, fun b hb => (f3 b hb).1.2.2.2.2.2 p (List.mem_append_left _ hp)⟩
    · intro z
      rcases List.mem_cons.mp (I3.stkSub _ z) with z | z
      · exact g3 z
      · exact g4 z
    · intro z
      exact (f3 _ z).1.2.2.2.2.2 p (List.mem_append_left _ hp) rfl
  have loop : codeAny (model X.prog X.w) X.A (.compLoop (.ListComp elt [⟨tg, iter, ifs, 0⟩] scope pos) 0 (.ref it) (.ref D) ce) (postX (model X.prog X.w) X.A X.xe use Qf (.ref D) ce)
      { s3 with heap := pushCells (s3.heap.push { cls := .type "dict", data := .dict #[] }) scope.names } := by
    refine compLoop_any (fun n s' => ∃ i H', Turns X s3 H3 scope ce fp xe (wipe σ (own.map (·.2))) tn W n i H' s') ?_ m0 ⟨0, H3, I5, st5, fun b hb => (f3 b hb).1.1, w0⟩
    rw [hxe]
    rintro n s6 ⟨i, H6, t6⟩
    rcases turn i n H6 t6.has with ⟨stop, qq⟩ | ⟨go, Nx, hNx, step⟩
    · refine thn (T.done ((X.blk s3 H3 scope ce fp).tr [] xe) rfl rfl rfl i [] s6 _ H6 xe t6.inv (hotB t6.inv) (fps t6.inv t6.non) t6.at_ stop) fun r s7 ⟨hr, I7⟩ => ?_
      subst hr
      have back : Inv X pins σ H6 s7 := I3.call' (ch := fp) I7.os I7.base I7.hok I7.bare fun b hb => ⟨(f3 b hb).1.2.2.2.1, (f3 b hb).1.2.1, (f3 b hb).1.2.2.2.2.1, (f3 b hb).1.2.2.2.2.2⟩
      obtain ⟨m, hn, _⟩ := I7.loc
      exact hRR D ce.locals s7 m H6 back qq hn (I3.fpOk (by rw [cL]; exact Nat.le_refl _) I7.free)
    · refine thn (T.item ((X.blk s3 H3 scope ce fp).tr [] xe) rfl rfl rfl i [] s6 _ H6 xe t6.inv (fps t6.inv t6.non) t6.at_ go) fun r s7 ⟨u, hr, h7⟩ => ?_
      subst hr
      refine thn h7 fun _ s8 ⟨x, H8, I8, r8, y8, st8, n8⟩ => ?_
      have I8' := I8.pinned (fps I8 n8) (T.obj _ _ st8)
      refine thn (pg.run _ s8 _ H8 x u _ I8' r8 (step x H8 y8)) fun _ s9 ⟨σ9, H9, I9, hw, q9⟩ => ?_
      refine thn (pt.run _ s9 σ9 H9 _ I9 q9) fun b s10 ⟨H10, I10, q10⟩ => ?_
      have next : ∀ {s' : Shared} {H' : Hp}, Inv ((X.blk s3 H3 scope ce fp).tr [] xe) ([] ++ pinsAt fp s8.heap) σ9 H' s' → Nx H' → ∃ m, m < n ∧ ∃ i H', Turns X s3 H3 scope ce fp xe (wipe σ (own.map (·.2))) tn W m i H' s' := fun {s' H'} I' nx => by
        obtain ⟨m', hm, w'⟩ := hNx H' nx
        have kept : ∀ b ∈ fp, ∀ o, s8.heap.get? b = some o → s'.heap.get? b = some o ∧ H' b = none := fun b hb o e =>
          have z := I'.pin (b, o) (List.mem_append_right _ (List.mem_append_right _ (mem_pinsAt hb e)))
          ⟨z.1, z.2.1⟩
        refine ⟨m', hm, i + 1, H', (I'.unpinned (pins := [])).weak (by rw [← hw, wipe_length]) (fun j v e => (wipe_some (by rw [hw]; exact e)).1), T.keep _ _ _ st8 fun b hb o e => (kept b hb o e).1, fun b hb => ?_, w'⟩
        obtain ⟨o, e, _⟩ := T.obj _ _ st8 b hb
        exact (kept b hb o e).2
      cases b with
      | false =>
        simp only [Bool.false_eq_true, if_false] at q10 ⊢
        exact next I10 q10
      | true =>
        simp only [if_true] at q10 ⊢
        refine thn (pe.run _ s10 σ9 H10 _ I10 q10) fun z s11 ⟨yv, H11, I11, r11, acc, hD11, hz, nx⟩ => ?_
        exact app_ok (X := (X.blk s3 H3 scope ce fp).tr [] xe) I11 hD11 hz r11 fun s12 I12 => next I12 nx
  exact codeAny_compStart_list loop (T.self X.A 0 _ _ _ st5 loop)
theorem pe_lcH (hst : X.stack = X.env :: X.outer) (hf : X.env.frame = some X.env.locals) (tk : L2N.Takes X (fun cls d _ H => E cls d H)) (hot : L2H.HotC X) (hN : X.N.Nodup) (hi : PIHL X tg iter wi) (ok : BlkOk X.N X.env.scope scope own)
    (hg : ∀ (s : Shared) (H : Hp) (C : Addr) (cl : List (Str × Addr)) (fp : List Addr) (xe : Value → Shared → Prop), PG ((X.blk s H scope (compEnvC scope cl C X.env) fp).tr [] xe) tg g)
    (ht : ∀ (s : Shared) (H : Hp) (C : Addr) (cl : List (Str × Addr)) (fp : List Addr) (xe : Value → Shared → Prop), (∀ σ : L2.St, PassesAt (CXN X.prog X.w) ((X.blk s H scope (compEnvC scope cl C X.env) fp).tr [] xe) σ E) →
      PTs ((X.blk s H scope (compEnvC scope cl C X.env) fp).tr [] xe) ifs tt)
    (he : ∀ (s : Shared) (H : Hp) (C : Addr) (cl : List (Str × Addr)) (fp : List Addr) (xe : Value → Shared → Prop), (∀ σ : L2.St, PassesAt (CXN X.prog X.w) ((X.blk s H scope (compEnvC scope cl C X.env) fp).tr [] xe) σ E) →
      PE ((X.blk s H scope (compEnvC scope cl C X.env) fp).tr [] xe) elt te)
    (hs : ∀ x, foldedSetIterable iter X.env x = pure x := by intro _; rfl) : PE X (.ListComp elt [⟨tg, iter, ifs, 0⟩] scope pos) (tLc wi g tt te (own.map (·.2))) := by
  refine ⟨fun pins s σ H Q I h => ?_⟩
  rw [eval_ListComp]
  refine lc_coreH hst hf tk hot hN I hi ok hg ht he hs h fun D C s' m H' J q hn f => ⟨m, hn, fun h' sb => ?_⟩
  exact ⟨.ref D, H', J.turned (t' := s'.toks) (fun b o hb e => (sb.2 b hb).trans e) f.1 f.2.1 f.2.2.2.1 f.2.2.2.2.1 f.2.2.2.2.2, rfl, q⟩
end
end RJ
namespace RJ
open PySem PySem.Spec PyProof.Rows L2 HotX
/-! ### defs that are given the error that is handled -/
structure FnE (P : Program) (w : World) (K : PySem.W.Frag) (mg : Str → Option Value) (base : Heap) (k : Nat) (f : Addr) (fd : FuncData) (ps : List Str) (p : Addr × Obj) (sp : Sp) : Prop where
  len : ∀ vs H Q E, sp vs H Q E → vs.length = ps.length
  run : ∀ (A : Around) (outer : List Env) (s : Shared) (H : Hp) (args : Args) (us : List Value) (vs : List V) (Q : VK) (E : XK), L2H.RoomH k A → L2H.Hot1 A p → L2H.PinOk outer H s p → Env0 P w K mg base A outer s H → BindsTo s fd args (ps.zip us) → Vals vs us → sp vs H Q E →
    codeAny (model P w) A (.call (.ref f) args) (CR C8.CX0 outer P w H s Q E) s
structure CalE (P : Program) (w : World) (K : PySem.W.Frag) (mg : Str → Option Value) (base : Heap) (k : Nat) (x : Str) (sp : Addr → Value → Option Addr → Sp) : Prop where
  ex : ∃ (f : Addr) (fd : FuncData) (ps : List Str), mg x = some (.ref f) ∧ PySem.W.keepIn K (.ref f) = true ∧ Binds K fd ps [] ∧ ∀ (p : Addr × Obj) (cls : Value) (d : Option Addr), Zc cls d p.2 → (∃ vs, p.2.data = .fields vs) → FnE P w K mg base k f fd ps p (sp p.1 cls d)
/-- isinstance of an error that is pinned -/
theorem call_isP {X : Cx} {p : Addr × Obj} {cls : Value} {d : Option Addr} (hp : p ∈ X.pn) (hz : Zc cls d p.2) (hf : ∃ vs, p.2.data = .fields vs) : CallR X (.builtin "isinstance") (rIsD X.K p.1 cls d) := by
  intro pins s σ H xs us Q I r h
  obtain ⟨D, dd, fs, c, cv, b, rfl, rfl, T, ed, rfl, hcv, e, q⟩ := h
  obtain ⟨u1, u2, rfl, r1, r2⟩ := vals2 r
  cases (show u1 = Value.ref p.1 from r1)
  have ec := hcv _ r2
  subst ec
  obtain ⟨hget, _⟩ := I.pin p (List.mem_append.mpr (.inl hp))
  obtain ⟨vs, hv⟩ := hf
  have hx : ObjOk X.prog X.w H s.heap dd (.xd fs) := I.hok dd _ ed
  obtain ⟨mA, hns, _⟩ := hx
  obtain ⟨od, ho, _⟩ := lookIn_ns hns
  have J : PySem.W.InstAt s.heap p.1 p.2 D (some od) := ⟨hget, hz.1, by unfold PySem.W.notCls; rw [hv] <;> rfl, by rw [hz.2]; exact ho⟩
  exact PySem.W.kia_one (PySem.W.kitx_exc T.cl T.hg T.hk T.hs T.ha T.hn T.ht T.hm) I.kIn J e (fun z => nomatch z) fun tk => ⟨.bl b, H, I.kept (t' := tk) fun _ _ z => z, rfl, q⟩
theorem call_isPT {X : Cx} {p : Addr × Obj} {cls : Value} {d : Option Addr} (hp : p ∈ X.pn) (hz : Zc cls d p.2) (hf : ∃ vs, p.2.data = .fields vs) : CallR X (.builtin "isinstance") (rIsDT X.K p.1 cls d) := by
  intro pins s σ H xs us Q I r h
  obtain ⟨D, dd, tp, fs, cs, ws, b, rfl, rfl, T, ed, rfl, htp, hws, e, q⟩ := h
  obtain ⟨u1, u2, rfl, r1, r2⟩ := vals2 r
  cases (show u1 = Value.ref p.1 from r1)
  cases (show u2 = Value.ref tp from r2)
  obtain ⟨hget, _⟩ := I.pin p (List.mem_append.mpr (.inl hp))
  obtain ⟨vs, hv⟩ := hf
  have hx : ObjOk X.prog X.w H s.heap dd (.xd fs) := I.hok dd _ ed
  obtain ⟨mA, hns, _⟩ := hx
  obtain ⟨od, ho, _⟩ := lookIn_ns hns
  have J : PySem.W.InstAt s.heap p.1 p.2 D (some od) := ⟨hget, hz.1, by unfold PySem.W.notCls; rw [hv] <;> rfl, by rw [hz.2]; exact ho⟩
  have hT : ObjOk X.prog X.w H s.heap tp (.tup cs) := I.hok tp _ htp
  obtain ⟨_, its, rv, o, g1, g2, n, g3⟩ := hT
  have e3 := hws its rv
  subst e3
  obtain ⟨oc, od2, dt, sl⟩ := o
  simp only at g2 g3
  subst g2 g3
  exact PySem.W.kia_tup (PySem.W.kitx_exc T.cl T.hg T.hk T.hs T.ha T.hn T.ht T.hm) I.kIn J g1 e (fun z => nomatch z) fun tk => ⟨.bl b, H, I.kept (t' := tk) fun _ _ z => z, rfl, q⟩
section
variable {P : Program} {w : World} {K : PySem.W.Frag} {mg : Str → Option Value} {base : Heap}
theorem fn_ofE {k : Nat} {f : Addr} {name qual : Str} {params : Arguments} {body : List Stmt} {scope : Scope} {dV kV doc pm cdv ct oc : Value} {an od : Option Addr} {p : Addr × Obj}
    {osl : Array (Option Value)} {N ps : List Str} {sp : Sp} (lk : K.lookup f = some ⟨oc, od, .func (PySem.W.fnOf name qual params body scope dV kV doc pm an cdv ct), osl⟩) (hcd : PySem.W.codeIn K cdv qual = true) (S : FnScope N ps scope)
    (len : ∀ vs H Q E, sp vs H Q E → vs.length = ps.length)
    (hbody : ∀ (A : Around) (outer : List Env) (s : Shared) (H : Hp) (vs : List V) (Q : VK) (E : XK), L2H.Hot1 A p → L2H.RoomH k (A.deeper (envOfC qual scope s.heap.objs.size f cdv)) → sp vs H Q E →
      ∃ t, PSs (L2H.cxH C8.CX0 P w K mg base N qual scope f cdv A outer s H E p) body t ∧ t { nx := fun _ H' => Q .non H', rt := Q } (L2.start N vs) H) :
    FnE P w K mg base (k + 1) f (PySem.W.fnOf name qual params body scope dV kV doc pm an cdv ct) ps p sp := by
  refine ⟨len, fun A outer s H args us vs Q E hr hot hpin e0 hb r hsp => ?_⟩
  have hl := len _ _ _ _ hsp
  have KX : K.In s.heap := e0.mod.kin.keeps fun b o e => (e0.bs b o e).1
  have lim : s.heap.NoLimit := e0.mod.nolimit.keeps fun b o e => (e0.bs b o e).1
  have hkind : ∀ y ∈ ps.zip us, scope.names.lookup y.1 = some .local ∨ (scope.names.lookup y.1 = some .cell ∧ ((cellsFrom (s.heap.objs.size + 1) scope.names []).lookup y.1).isSome = true) := fun ⟨n, v⟩ hy => by
    rcases S.par n (List.of_mem_zip hy).1 with q | q
    · exact .inl q
    · exact .inr ⟨q, PySem.W.cellsFrom_some _ _ _ (.inl q)⟩
  refine codeAny_call_function hr.depth (KX _ _ lk) rfl S.co S.gen rfl (PySem.W.codeRec_of KX hcd) (hb _ _ _ _ ?_)
  refine wpAny_newFunctionEnv_cells S.kind hkind fun env he s1 x => ?_
  subst he
  refine ⟨lim.keeps x.toInCall.keep, codeAny_func ?_⟩
  obtain ⟨t, ht, hq⟩ := hbody A outer s H vs Q E hot (hr.deeper _) hsp
  have I : Inv (L2H.cxH C8.CX0 P w K mg base N qual scope f cdv A outer s H E p) [] (L2.start N vs) H s1 := L2H.inv_startH S hpin e0 hl r x
  refine wpAny_mono (ht.run [] s1 (L2.start N vs) H _ I hq) (fun fl s' hs => ?_) fun e s' hs => hs
  have fin : ∀ {σ' : L2.St} {H' : Hp} {v : V} {u : Value}, Inv (L2H.cxH C8.CX0 P w K mg base N qual scope f cdv A outer s H E p) [] σ' H' s' → RelV v u → Q v H' → CE outer P w H s Q u s' :=
    fun {σ' H' v u} J rv q => ⟨v, H', J.os, J.bare, J.base, J.hok, rv, q⟩
  cases fl with
  | ret u =>
    obtain ⟨v, σ', H', J, rv, q⟩ := hs
    exact fin J rv q
  | next =>
    obtain ⟨σ', H', J, q⟩ := hs
    exact fin (v := V.non) (u := Value.none) J rfl q
  | brk =>
    obtain ⟨_, _, _, q⟩ := hs
    exact False.elim q
  | cont =>
    obtain ⟨_, _, _, q⟩ := hs
    exact False.elim q

theorem fnE0 {x qual : Str} {st : Stmt} {f : Addr} {fd : FuncData} {N ps : List Str} {k : Nat} {p : Addr × Obj} {sp : Sp} (F : C8.Fun K x qual st f fd) (S : FnScope N ps (C8.fnScope st)) (len : ∀ vs H Q E, sp vs H Q E → vs.length = ps.length)
    (hb : ∀ (cdv : Value) (A : Around) (outer : List Env) (s : Shared) (H : Hp) (vs : List V) (Q : VK) (E : XK), L2H.RoomH k (A.deeper (envOfC qual (C8.fnScope st) s.heap.objs.size f cdv)) → sp vs H Q E →
      L2H.HotC (L2H.cxH C8.CX0 P w K mg base N qual (C8.fnScope st) f cdv A outer s H E p).nox → p ∈ (L2H.cxH C8.CX0 P w K mg base N qual (C8.fnScope st) f cdv A outer s H E p).nox.pn →
      ∃ t, PSs (L2H.cxH C8.CX0 P w K mg base N qual (C8.fnScope st) f cdv A outer s H E p).nox (C8.fnBody st) t ∧ t { nx := fun _ H' => Q .non H', rt := Q } (start N vs) H) : FnE P w K mg base (k + 1) f fd ps p sp := by
  obtain ⟨oc, od, dV, kV, doc, pm, an, cdv, ct, osl, rfl, lk, hcd⟩ := F.ex
  refine fn_ofE lk hcd S len fun A outer s H vs Q E hot hr hsp => ?_
  obtain ⟨t, h, q⟩ := hb cdv A outer s H vs Q E hr hsp ⟨p, hot, List.mem_singleton.mpr rfl⟩ (List.mem_singleton.mpr rfl)
  exact ⟨t, h.nox, q⟩
end
section
variable {X : Cx} {k j : Nat} {x : Str} {sp : Addr → Value → Option Addr → Sp} {q pos : Pos} {e : Expr} {es : List Expr} {t : TA} {a : Addr} {oe : Obj} {cls : Value} {d : Option Addr} {pn : List (Addr × Obj)}
/-- such a def called in the except suite -/
theorem pe_ce (c : CalE X.prog X.w X.K X.mg X.base k x sp) (hr : L2H.RoomH j (X.suite a ((a, oe) :: pn)).A) (hk : k ≤ j) (hz : L2N.Zn cls d oe) (hf : ∃ vs, oe.data = .fields vs) (hg : Gl (X.suite a ((a, oe) :: pn)) x) (ha : PA (X.suite a ((a, oe) :: pn)) (e :: es) t)
    (hdb : (x == ("__debug__" : Str)) = false := by decide) (he : starEach (e :: es) X.env = (false, eval e X.env) :: starEach es X.env := by rfl) (hpl : (backTo pos (starEach es X.env)).any (·.1) = false := by rfl) :
    PE (X.suite a ((a, oe) :: pn)) (.Call (.Name x q) (e :: es) [] pos) (tCallS (sp a cls d) (fun _ => C8.E0) t) := by
  obtain ⟨f, fd, ps, hm, kp, hb, F⟩ := c.ex
  have F := F (a, oe) cls d hz.zc hf
  obtain ⟨vs0, hv⟩ := hf
  refine ⟨fun pins s σ H Q I h => ?_⟩
  refine wpAny_Call_Name_kw (ld_glob I hg hm ?_ hdb)
  refine PySem.W.callWith_K (h₀ := X.base) I.ok.mod.kin kp (thn (ha.run pos pins s σ H _ I h) fun us s1 ⟨vs, H1, I1, r, h⟩ => ⟨I1.kIn, ?_⟩) he hpl
  have hl : us.length = ps.length := by rw [← r.length]; exact F.len _ _ _ _ h
  have b := hb s1 us I1.kIn (by rw [List.append_nil]; exact hl)
  rw [List.append_nil] at b
  have P1 := I1.pin (a, oe) (List.mem_append_left _ List.mem_cons_self)
  have hpin : L2H.PinOk X.stack H1 s1 (a, oe) := ⟨P1.1, P1.2.1, fun hm => (List.mem_cons.mp (I1.stkSub a hm)).elim P1.2.2.1 P1.2.2.2.1, P1.2.2.2.2⟩
  refine wpAny_call (codeAny_mono (F.run (X.suite a ((a, oe) :: pn)).A X.stack s1 H1 ⟨us, []⟩ us vs Q C8.E0 (hr.mono hk) ⟨rfl, vs0, hv, hz.2.2 vs0 hv⟩ hpin I1.env0 b r h) fun r s' hq => ?_)
  cases r with
  | error e => exact hq.elim
  | ok fl =>
    cases fl with
    | ret u => exact I1.after hq
    | next => exact False.elim hq
    | brk => exact False.elim hq
    | cont => exact False.elim hq
end
end RJ
end

section
set_option maxRecDepth 100000
set_option maxHeartbeats 4000000
namespace RJ
open PySem PySem.Spec PyProof.Rows L2
/-! ### a text turned about -/
def tRevS (te : TE) : TE := fun σ H Q => te σ H fun x H1 => ∃ z, x = .str z ∧ z.length ≤ sizeLine ∧ Q (.str ⟨z.cps.toList.reverse.toArray⟩) H1
section
variable {X : Cx}
theorem pe_revS {e : Expr} {te : TE} {k : Nat} {p1 p2 p3 pos : Pos} (he : PE X e te) : PE X (.Subscript e (.Slice none none (some (.UnaryOp .USub (.Constant (.int 1) k p1) p2)) p3) pos) (tRevS te) := by
  refine ⟨fun pins s σ H Q I h => ?_⟩
  refine Subscript_ (thn (he.run pins s σ H _ I h) fun v s1 ⟨x, H1, I1, r1, q1⟩ => ?_)
  obtain ⟨z, ex, hz, q⟩ := q1
  subst ex
  obtain ⟨t, rfl⟩ := r1
  have hst : PO X (some (.UnaryOp .USub (.Constant (.int 1) k p1) p2)) (tPart (tUn (rU fun i => .int (-i)) (tC (.int 1)))) := po_some (pe_un un_neg pe_int)
  refine wpAny_Slice (thn (po_none.run pins s1 σ H1 (fun o H2 => o = none ∧ H2 = H1) I1 ⟨rfl, rfl⟩) fun vl s2 ⟨l, H2, I2, pl, el, e2⟩ => ?_)
  subst el e2
  refine thn (po_none.run pins s2 σ H2 (fun o H3 => o = none ∧ H3 = H2) I2 ⟨rfl, rfl⟩) fun vu s3 ⟨u, H3, I3, pu, eu, e3⟩ => ?_
  subst eu e3
  refine thn (hst.run pins s3 σ H3 (fun o H4 => o = some (-1) ∧ H4 = H3) I3 ⟨1, rfl, -1, rfl, rfl, rfl⟩) fun vs s4 ⟨o, H4, I4, ps, eo, e4⟩ => ?_
  subst eo e4
  have I5 : Inv X pins σ H4 { s4 with heap := s4.heap.push { cls := .type "slice", data := .fields #[vl, vu, vs] } } := I4.kept (t' := s4.toks) fun b ob q => Heap.get?_push_of_some _ q
  cases pl
  cases pu
  obtain ⟨st, rfl, hst1⟩ := IsPart.raw ps
  cases st with
  | none => cases hst1
  | some st =>
  obtain ⟨si, stk⟩ := st
  cases hst1
  show wpAny (model X.prog X.w) X.A (subscriptTail e (.Slice none none (some (.UnaryOp .USub (.Constant (.int 1) k p1) p2)) p3) (.str z t) (.ref s4.heap.objs.size)) (EP X pins σ Q) X.xe { s4 with heap := s4.heap.push { cls := .type "slice", data := .fields #[.none, .none, .int (-1) stk] } }
  refine tail_any (ops := [.ref s4.heap.objs.size, .str z t]) (typeIs_str _ _ _) F.slot_str_getitem.lookup ?_ (by with_unfolding_all rfl)
  refine wpAny_getItem_str_slice (l := none) (u := none) (st := some (-1, stk)) ⟨_, Heap.get?_push_size _ rfl, rfl, rfl⟩ rfl ?_
  have e : (Builtin.Str.strSliceIndices none none (-1) z.length).filterMap (z.cps[·]?) = z.cps.toList.reverse := by
    show (sliceRange ((z.length : Int) - 1) (-1) (-1)).filterMap (z.cps[·]?) = _
    rw [PySem.W.krv_sliceRange, PySem.W.krv_range, List.filterMap_reverse]
    exact congrArg List.reverse (PySem.W.krv_all z.cps)
  show Made.post (if (((-1 : Int) == 1) && (Builtin.Str.strSliceIndices none none (-1) z.length).length == z.length) = true then Made.val (.str z t)
    else Made.str ⟨((Builtin.Str.strSliceIndices none none (-1) z.length).filterMap (z.cps[·]?)).toArray⟩) (EP X pins σ Q) _
  rw [if_neg (by simp), e]
  refine ⟨?_, .str _, H4, I5.tok _, ⟨_, rfl⟩, q⟩
  show (z.cps.toList.reverse.toArray).size ≤ sizeLine
  rw [List.size_toArray, List.length_reverse]
  exact hz
end
end RJ
end

section
set_option maxRecDepth 100000
namespace RJ
open PySem PySem.Spec PyProof.Rows L2
set_option maxRecDepth 8000 in
theorem extend_tuple (l : Addr) (items : Array Value) (n : Nat) (b : Addr) (o : Obj) (items2 : Array Value) (n2 : Nat) (ho1 : o.cls = .type "tuple") (ho2 : o.data = .seq items2 n2) (hs0 : ¬(!items.isEmpty && Builtin.List.listTooLong (items.size + items2.size)) = true) (hs1 : items.size ≤ sizeLine) (hs2 : items.size + items2.size ≤ sizeLine + 1) :
    Meets (Builtin.«list.extend» ⟨[.ref l, .ref b], []⟩) (fun _ R s => s.heap.get? l = some { cls := .type "list", dict := none, data := .seq items n, slots := #[] } ∧ s.heap.get? b = some o ∧ R (.ok (.ret Value.none)) { s with heap := s.heap.update l (Obj.mapSeq fun x => x ++ items2), toks := s.toks }) :=
  .of_wp fun prog w A R s h => by
    obtain ⟨hp, g, d, tk, os⟩ := s; obtain ⟨hl, hb, h⟩ := h; obtain ⟨c, dd, da, sl⟩ := o; dsimp only at ho1 ho2; subst ho1 ho2; have f1 := PySem.AutoSeq1.idx_int; have f2 := PySem.AutoSeq1.sub_tuple_tuple; have f3 := PySem.AutoSeq1.sub_list_list; have f4 := PySem.AutoSeq1.sub_tuple_list; have f5 := PySem.AutoSeq1.sub_list_tuple;
    have hz' : (items ++ items2).size ≤ sizeLine + 1 := by rw [Array.size_append]; exact hs2
    wp_walk using (wpAny_updateSeq hl rfl (hz := hs1) (_hz' := hz')), wpAny_loadPart' hl, wpAny_loadPart' hb; exact ⟨_, rfl, h⟩
def rExtendA (K : PySem.W.Frag) : V → List V → Hp → VK → Prop := fun x vs H Q => ∃ l b xs zs, x = .ref l ∧ vs = [.ref b] ∧ H l = some (.lst xs) ∧ SqT K H b zs ∧ xs.length + zs.length ≤ sizeLine ∧ Q .non (upd H l (.lst (xs ++ zs)))
section
variable {X : Cx}
/-- l.extend(a tuple) -/
theorem mt_extendT : MtM X "list.extend" (rExtendA X.K) := by
  intro pins s σ H x vs v us Q I rx rv h
  obtain ⟨l, b, xs, zs, rfl, rfl, hH, hB, hz, q⟩ := h
  cases rx
  obtain ⟨u, rfl, ru⟩ := rv.one
  cases ru
  obtain ⟨z, its, n, r, hl, e⟩ := I.lstM hH
  obtain ⟨its2, r2, ⟨o, e2, ho, n2, hd⟩, z2⟩ := I.tuple hB
  have hl2 := r2.length
  have hsz : its.toArray.size + its2.toArray.size ≤ sizeLine := by rw [List.size_toArray, List.size_toArray]; omega
  have hlong : ¬ (!its.toArray.isEmpty && Builtin.List.listTooLong (its.toArray.size + its2.toArray.size)) = true := by
    rw [notLongL hsz, Bool.and_false]
    exact Bool.false_ne_true
  refine call_meets F.slot_list_extend ⟨_, e, rfl⟩ F.entry_list_extend (F.args_list_extend_2 _ _)
    (extend_tuple l its.toArray n b o its2.toArray n2 ho hd hlong (by rw [List.size_toArray]; omega) (by omega)) ⟨e, e2, ?_⟩
  refine ⟨.non, _, I.lset (its' := its ++ its2) hH e (by simp) (r.append r2) ?_, rfl, q⟩
  rw [List.length_append]
  omega
end
open PySem.W (minD AlikeAll alike alikeAll dataLt)
/-- min(l, default=x) of alike data -/
def rMinDV (K : PySem.W.Frag) : List V → List V → Hp → VK → Prop := fun vs zs H Q => ∃ (a : Addr) (xs : List V) (ds : List PyData) (z : V), vs = [V.ref a] ∧ zs = [z] ∧ H a = some (.lst xs) ∧ DpAll K H xs ds ∧ AlikeAll ds ∧ PyData.depthAll ds ≤ 60 ∧
  (ds = [] → Q z H) ∧ ∀ (d : PyData) (ds' : List PyData) (i : Nat) (x : V), ds = d :: ds' → xs[i]? = some x → ds[i]? = some (minD d ds') → Q x H
theorem cr_minDV {X : Cx} (hc : X.calm = true) (hu : X.A.units + 64 < cLine) : CallRK X (.builtin "min") [Str.ofString "default"] (rMinDV X.K) := by
  intro pins s σ H xs0 zs us ws Q I r rz h
  obtain ⟨a, xs, ds, zv, rfl, rfl, ha, hd, hal, hdep, q0, q1⟩ := h
  obtain ⟨its, rv, hl, _⟩ := I.list (SqL.of ha)
  rw [Vals.ref1 r]
  obtain ⟨u, rfl, ru⟩ := vals1 rz
  obtain ⟨as, hr⟩ := Dp.readsAll I ds xs its hd rv
  show wpAny _ _ (call (.builtin "min") [.ref a] [(Str.ofString "default", u)]) _ _ s
  refine PySem.W.min_list_default (I.ok.hd hc) hl.isList hr hal (by omega) (fun e h' tk hk => ⟨zv, H, I.kept hk, ru, q0 e⟩) fun y ys i v h' tk bs e hv hrd hk => ?_
  have hv' : its[i]? = some v := by simpa using hv
  have hl2 := rv.length
  have hi : i < xs.length := by
    have := (List.getElem?_eq_some_iff.mp hv').1
    omega
  obtain ⟨u2, hu2, ru2⟩ := rv.get (List.getElem?_eq_getElem hi)
  rw [hv'] at hu2
  cases hu2
  obtain ⟨d2, bs2, hd2, hr2⟩ := readsAll_ix hr hv'
  have heq : d2 = minD y ys := ((PyProof.Rows.reads_det (h := s.heap) (h' := h') (fun b o e _ => hk b o e) hr2 hrd).1).symm
  exact ⟨xs[i], H, I.kept hk, ru2, q1 y ys i _ e (List.getElem?_eq_getElem hi) (by rw [hd2, heq])⟩
end RJ
namespace RJ
open PySem PySem.Spec PyProof.Rows L2
section
variable {X : Cx}
/-- name = {..} on one line, the name a local -/
theorem ps_setDc {i : Nat} {y : Str} {py : Pos} {kx vx tg iter : Expr} {ifs : List Expr} {scope : Scope} {own : List (Str × Nat)} {pos spos : Pos} {wi : TI} {g : TG} {tt : TT} {tk tv : TE} (hc : X.calm = true) (hN : X.N.Nodup) (hy : X.N[i]? = some y) (hyl : X.env.scope.names.lookup y = some .local)
    (hsw : swapsWith (.DictComp kx vx [⟨tg, iter, ifs, 0⟩] scope pos) (some (.Name y py)) spos.line X.env = pure true) (hi : PI X tg iter wi) (ok : BlkOk X.N X.env.scope scope own)
    (hg : ∀ (s : Shared) (H : Hp) (C : Addr) (cl : List (Str × Addr)) (fp : List Addr), PG (X.blk s H scope (compEnvC scope cl C X.env) fp) tg g) (ht : ∀ (s : Shared) (H : Hp) (C : Addr) (cl : List (Str × Addr)) (fp : List Addr), PTs (X.blk s H scope (compEnvC scope cl C X.env) fp) ifs tt)
    (hk : ∀ (s : Shared) (H : Hp) (C : Addr) (cl : List (Str × Addr)) (fp : List Addr), PE (X.blk s H scope (compEnvC scope cl C X.env) fp) kx tk)
    (he : ∀ (s : Shared) (H : Hp) (C : Addr) (cl : List (Str × Addr)) (fp : List Addr), PE (X.blk s H scope (compEnvC scope cl C X.env) fp) vx tv) (hs : ∀ x, foldedSetIterable iter X.env x = pure x := by intro _; rfl) :
    PS X (.Assign [.Name y py] (.DictComp kx vx [⟨tg, iter, ifs, 0⟩] scope pos) spos) (tAsg (tDc wi g tt tk tv (own.map (·.2))) (gName i)) := by
  refine ⟨fun pins s σ H D I h => ?_⟩
  rw [exec_Assign_Name_used _ _ _ _ hsw]
  refine wpAny_bind (wpAny_standAt (wpAny_bind ?_))
  show wpAny _ X.A (do let _ ← comprehension (.DictComp kx vx [⟨tg, iter, ifs, 0⟩] scope pos) scope X.env (firstIterPos [⟨tg, iter, ifs, 0⟩] pos) newDict false (eval iter X.env) (some (assign (.Name y py) X.env))) _ _ s
  have h : tDc wi g tt tk tv (own.map (·.2)) σ H (fun x H1 => gName i x σ H1 D.nx) := h
  refine wpAny_bind (thn (dc_core (Qf := fun _ s' => SP X pins D .next s') hc hN I hi ok hg ht hk he hs h fun L C s' m H' I' q hn f => ?_) fun _ s' hq => wpAny_pure (wpAny_pure hq))
  show wpAny _ _ (assign (.Name y py) X.env (.ref L)) _ _ _
  refine wpAny_assign_Name (store_ok2 (v := V.ref L) I' hN hy (.inl hyl) rfl (fun s2 I2 ⟨a, sb, ha⟩ => ?_) (.inr hyl))
  obtain ⟨f0, f1, f2, f3, f4, f5⟩ := f
  have haC : C ≠ a := by
    rcases ha with z | z
    · rw [z]; exact f1
    · exact fun e => f4 y a z e.symm
  refine ⟨m, hn.sameBut sb haC, fun h3 sb3 => ?_⟩
  exact ⟨_, H', I2.turned (t' := s2.toks) (fun b o hb e => (sb3.2 b hb).trans e) f0 f1 f3 f4 f5, q⟩
theorem sw_trueD {kx vx : Expr} {gs : List Comprehension} {scope : Scope} {pos py : Pos} {y : Str} {l : Nat} {env : Env} (hk : env.scope.kind = .function) (hy : env.scope.names.lookup y = some .local) (hl : (py.line == pos.line) = true)
    (ha : (scope.names.any fun (n, k) => n == y && (k == .local || k == .cell)) = false) : swapsWith (.DictComp kx vx gs scope pos) (some (.Name y py)) l env = pure true := by
  have ky : env.kindOf y = some .local := hy
  have hb : env.blockKind = .function := by unfold Env.blockKind; rw [hk]; rfl
  unfold swapsWith
  simp only [hb, ky, ha, Expr.pos, hl]
  rfl
end
end RJ
end

section
set_option maxRecDepth 100000
set_option maxHeartbeats 2000000
namespace RJ
open PySem PySem.Spec PyProof.Rows L2
/-! ### a property that is read where an error is handled -/
structure PrpH (P : Program) (w : World) (K : PySem.W.Frag) (mg : Str → Option Value) (base : Heap) (k : Nat) (C : Addr) (m : Str) (sp : Sp) : Prop where
  ex : ∃ (p g : Addr) (fd : FuncData) (ps : List Str), Cls K C ∧ PropOf K C m p g ∧ L2H.FnH P w K mg base C8.CX0 k g fd ps sp ∧ Binds K fd ps []
theorem roomH_in1 {k : Nat} {A : Around} (r : L2H.RoomH (k + 1) A) : L2H.RoomH k A.in1 := by
  have h1 := r.dp
  have h2 := r.un
  exact ⟨by show A.depth + 3 * k + 5 < _; omega, by show A.units + 1 + 16 * k + 200 < _; omega⟩
section
variable {X : Cx} {k j : Nat} {C p g a dx : Addr} {fs : List (Str × V)} {f m : Str} {fd : FuncData} {ps : List Str} {sp : Sp} {e : Expr} {pos : Pos} {ta : TE}
theorem getprop_okH {pins : List (Addr × Obj)} {σ : L2.St} {H : Hp} {s : Shared} {Q : VK} {b : Bool} {E' : Value → Shared → Prop} (I : Inv X pins σ H s) (ea : H a = some (.ins C dx fs)) (c : Cls X.K C) (hp : PropOf X.K C f p g)
    (F : L2H.FnH X.prog X.w X.K X.mg X.base C8.CX0 k g fd ps sp) (hr : L2H.RoomH (k + 1) X.A) (hot : L2H.HotC X) (hb : Binds X.K fd ps []) (h : sp [.ref a] H Q C8.E0) :
    wpAny (model X.prog X.w) X.A (getAttr (.ref a) f b) (EP X pins σ Q) E' s := by
  obtain ⟨mA, O, _, _, _, _⟩ := ins_get I.hok ea
  obtain ⟨od, J, _⟩ := O.look
  obtain ⟨rest, hrec⟩ := hp.rec_
  have I1 := I.tok (s.toks + 1)
  obtain ⟨pp, hot1, hpn⟩ := hot
  have hl : ([Value.ref a] ++ []).length = ps.length := by
    rw [← F.len _ _ _ _ h]; rfl
  have hc : (PySem.W.clsIn X.K C).isSome = true := by
    obtain ⟨cd, hc, _⟩ := PySem.W.any_some c.hd
    rw [hc]
    rfl
  have P1 := I1.pin pp (List.mem_append_left _ hpn)
  have hpin : L2H.PinOk X.stack H { s with toks := s.toks + 1 } pp := ⟨P1.1, P1.2.1, fun hm => (List.mem_cons.mp (I1.stkSub pp.1 hm)).elim P1.2.2.1 P1.2.2.2.1, P1.2.2.2.2⟩
  refine PySem.W.get_bind I.kIn J (PySem.W.plainGet_of (c.get f)).1 (PySem.W.findObj_data hc hp.at_ hp.get hp.tak) (PySem.W.plainGet_of (c.get f)).2 (wpAny_call (PySem.W.prop_get (s := { s with toks := s.toks + 1 }) I.kIn hrec ?_))
  refine codeAny_mono (F.run X.A.in1 X.stack { s with toks := s.toks + 1 } H ⟨[.ref a], []⟩ [.ref a] [.ref a] Q C8.E0 pp (roomH_in1 hr) hot1 hpin I1.env0.in1 (hb _ [.ref a] I1.kIn hl) (.cons rfl .nil) h) fun r s' hq => ?_
  cases r with
  | error er => exact False.elim hq
  | ok fl =>
    cases fl with
    | ret u =>
      obtain ⟨v, H', I3, rv, q3⟩ := I1.after hq
      show wpAny _ _ (handedOut u) _ _ _
      rw [PySem.W.handedOut_of (handed_of rv)]
      exact wpAny_pure ⟨v, H', I3, rv, q3⟩
    | next => exact False.elim hq
    | brk => exact False.elim hq
    | cont => exact False.elim hq
theorem walks_listHot {prog : Program} {w : World} {A : Around} (I ax x1 : Addr) (hne : ax ≠ I) (hx : x1 ≠ I) (items : Array Value) :
    Walks prog w A I [I, ax, x1] [I] items.size (fun i v => items[i]? = some v) (fun i h => h.IsListIter I ax i ∧ h.IsList ax items ∧ HotX.HotAt A x1 h) where
  sub := fun b hb => by simp at hb; simp [hb]
  frame := fun _ _ _ st hk => by
    obtain ⟨s1, s2, hh, o, vs, e1, e2, e3⟩ := st
    exact ⟨s1.at fun o e => hk I (by simp) o e, s2.at fun o e => hk ax (by simp) o e, hh, o, vs, hk x1 (by simp) o e1, e2, e3⟩
  item := fun i s Q E hi st hQ => by
    obtain ⟨s1, s2, hh, o, vs, e1, e2, e3⟩ := st
    refine wpAny_pyNext_list_item s1 s2 (x := items[i]) (by simp [hi]) fun h' hit' hs' => ?_
    exact hQ _ h' s.toks (by simp [hi]) ⟨hit', s2.extBut hs'.extBut hne, hh, o, vs, hs'.extBut x1 o hx e1, e2, e3⟩ fun b o hb e => hs'.extBut b o (fun h => hb (by simp [h])) e
  done := fun s Q E st hQ => by
    obtain ⟨s1, s2, hot⟩ := st
    exact rj_list_end_hot hot hx s1 s2 (by simp) fun h' he' => hQ h' s.toks fun b o hb e => he' b o (fun h => hb (by simp [h])) e
  self := fun _ _ _ _ st hQ => wpAny_pyIter_listiter st.1 hQ
theorem sum_hot {prog : Program} {w : World} {A : Around} {E : Value → Shared → Prop} {s : Shared} {l x1 : Addr} {its : List Value} {ns : List Int} {Q : Value → Shared → Prop} (hot : HotX.HotAt A x1 s.heap) (hl : s.heap.IsList l its.toArray) (hi : IntsAre its ns)
    (h : ∀ h' tk t', (∀ b o, s.heap.get? b = some o → h'.get? b = some o) → Q (.int ns.sum t') { s with heap := h', toks := tk }) : wpAny (model prog w) A (call (.builtin "sum") [.ref l]) Q E s := by
  obtain ⟨xs, e⟩ := hi.allInts.items
  have hn : numsOf (intItems xs).toList = ns := by rw [← e]; exact hi.numsOf
  rw [nums_intItems] at hn
  rw [e] at hl
  obtain ⟨hh, o, vs, e1, e2, e3⟩ := hot
  have hlt := Heap.lt_size e1
  refine call_sum_walkG (iter_intList hl fun s₂ es st hfp hlI => ?_)
  subst es
  refine ⟨_, _, _, _, _, _, numAt xs, rfl, walks_listHot (A := A.in1) _ l x1 hlI (Nat.ne_of_lt hlt) (intItems xs), ⟨st.1, st.2, hh, o, vs, Heap.get?_push_of_some _ e1, e2, e3⟩, fun b hb => ?_, (fun _ _ => intItems_at), fun h' tk t' hk => ?_⟩
  · rcases List.mem_cons.mp hb with r | hb
    · exact hfp b (by simp [r])
    rcases List.mem_cons.mp hb with r | hb
    · exact hfp b (by simp [r])
    · rw [List.mem_singleton.mp hb]
      show x1 < (s.heap.push _).objs.size
      rw [Heap.size_push]; exact Nat.lt_succ_of_lt hlt
  · have := h h' tk t' (old_kept hk)
    rw [← hn] at this
    rw [show (intItems xs).size = xs.size by simp [intItems], preSum_eq, List.take_of_length_le (by simp)]; exact this
theorem cr_sumH (hot : L2H.HotC X) : CallR X (.builtin "sum") (rSum X.K) := by
  intro pins s σ H vs us Q I r h
  obtain ⟨a, ns, rfl, hs, q⟩ := h
  obtain ⟨its, rv, hl, _⟩ := I.list hs
  obtain ⟨x1, ht⟩ := hot.at I
  rw [Vals.ref1 r]
  exact sum_hot ht hl.isList rv.ints fun h' tk t' hk => ⟨.int _, H, I.kept hk, ⟨_, rfl⟩, q⟩
theorem pe_prpH (c : PrpH X.prog X.w X.K X.mg X.base k C m sp) (hr : L2H.RoomH j X.A) (hk : k + 1 ≤ j) (hot : L2H.HotC X) (he : PE X e ta)
    (hab : attributeBase e m X.env (eval e X.env) = eval e X.env := by rfl) : PE X (.Attribute e m pos) (tProp C sp [] C8.E0 ta) := by
  obtain ⟨p, g, fd, ps, hc, hp, F, b⟩ := c.ex
  refine ⟨fun pins s σ H Q I h => ?_⟩
  refine attr_of hab (thn (he.run pins s σ H _ I h) fun u s1 ⟨x, H1, I1, rx, a, dx, fs, ex, ea, q⟩ => ?_)
  subst ex
  obtain rfl : u = Value.ref a := rx
  exact getprop_okH I1 ea hc hp F (hr.mono hk) hot b q
end
end RJ
end

section
set_option maxRecDepth 100000
set_option maxHeartbeats 2000000
namespace PySem
open PySem.Spec PyProof.Rows
section
variable {prog : Program} {w : World} {A : Around} {E : Value → Shared → Prop} {s : Shared}
/-- repr of a tuple, whatever is under way -/
theorem rj_repr_tuple {a : Addr} {o : Obj} {items : Array Value} {n : Nat} {ts : List Str} {Q : Value → Shared → Prop} (hu : A.units + 2 < cLine) (ha : s.heap.get? a = some o) (hc : o.cls = .type "tuple") (hd : o.data = .seq items n) (hT : ReprAll prog w items.toList ts) (hsz : (tupleText ts).length ≤ sizeLine)
    (h : ∀ (m : Str) (u tk : Tok), m.length ≤ (tupleText ts).length + 5 → Q (.str m u) { s with toks := tk }) : wpAny (model prog w) A (pyReprObj (.ref a)) Q E s := by
  have hTy : s.TypeIs (.ref a) "tuple" := ⟨o, ha, hc⟩
  unfold pyReprObj
  refine wpAny_bind (wpAny_cRoomFor (by omega) ?_)
  refine wpAny_bind (wpAny_specialOf (name := Str.ofString "__repr__") hTy F.slot_tuple_repr.lookup ?_)
  refine wpAny_bind (m := callSpecialIfBound? (.ref a) (Str.ofString "__repr__")) (wpAny_callSpecialIfBound?_slotG (name := Str.ofString "__repr__") hTy F.slot_tuple_repr
    (fmt_tuple_repr ha hc hd hT hsz fun m u tk hm => ?_))
  exact wpAny_bind (wpAny_isInstance (T := "str") (b := true) rfl isSubtype_str_str (wpAny_pure (h m u tk hm)))
end
end PySem
namespace RJ
open PySem PySem.Spec PyProof.Rows L2
theorem reprI_all {prog : Program} {w : World} : ∀ {l : List Int} {its : List Value}, Vals (l.map V.int) its → (∀ i ∈ l, i.natAbs.log2 < 1920) → ReprAll prog w its (l.map fun i => Str.ofString (toString i))
  | [], _, r, _ => by
    cases r
    exact .nil
  | i :: l, _, r, h => by
    cases r with
    | cons r1 r2 =>
      obtain ⟨t, rfl⟩ := r1
      exact .cons (ReprIs.int t (h i List.mem_cons_self)) (reprI_all r2 fun z hz => h z (List.mem_cons_of_mem _ hz))
theorem piledI : ∀ l : List Int, (∀ i ∈ l, (Str.ofString (toString i)).length ≤ 100) → piled (l.map fun i => Str.ofString (toString i)) ≤ 102 * l.length
  | [], _ => Nat.le_refl _
  | i :: l, h => by
    rw [List.map_cons, piled_cons, List.length_cons]
    have h1 := h i List.mem_cons_self
    have h2 := piledI l fun z hz => h z (List.mem_cons_of_mem _ hz)
    omega
/-- {t!r}, t a tuple of ints: some text -/
def tFmtRT (K : PySem.W.Frag) (te : TE) : TE := fun σ H Q => te σ H fun x H1 => ∃ (a : Addr) (l : List Int), x = .ref a ∧ SqT K H1 a (l.map V.int) ∧ (∀ i ∈ l, i.natAbs.log2 < 1920 ∧ (Str.ofString (toString i)).length ≤ 100) ∧ l.length ≤ 10000 ∧ ∀ m : Str, m.length ≤ 102 * l.length + 7 → Q (.str m) H1
theorem pe_fmtRT {X : Cx} {e : Expr} {te : TE} {pos : Pos} {k : Nat} (hr : Room k X.A) (he : PE X e te) : PE X (.FormattedValue e 114 none pos) (tFmtRT X.K te) := by
  refine ⟨fun pins s σ H Q I h => ?_⟩
  refine wpAny_FormattedValue_repr (thn (he.run pins s σ H _ I h) fun v s1 hv => ?_)
  obtain ⟨x, H1, I1, r1, a, l, rfl, ht, hc, hz, q⟩ := hv
  cases r1
  obtain ⟨its, rv, ⟨o, ho, hcl, n, hd⟩, _⟩ := I1.tuple ht
  have hp := piledI l fun i hi => (hc i hi).2
  have htx := fmt_text (l.map fun i => Str.ofString (toString i))
  have hu := hr.units
  have hsl : sizeLine = 16777216 := sizeLine_eq
  refine rj_repr_tuple (ts := l.map fun i => Str.ofString (toString i)) (by omega) ho hcl hd (reprI_all rv fun i hi => (hc i hi).1) (by omega) fun m u tk hm => ?_
  have hm' : m.length ≤ 102 * l.length + 7 := by omega
  exact wpAny_formatField_str ⟨.str m, H1, I1.tok _, ⟨_, rfl⟩, q m hm'⟩ ⟨.str m, H1, I1.tok _, ⟨_, rfl⟩, q m hm'⟩ (by omega)
theorem pe_tupleOfK {X : Cx} {K : PySem.W.Frag} {a : Expr} {ta : TE} {p pos : Pos} (h : X.K = K) (hg : Gl X "tuple") (hm : X.mg "tuple" = none) (ha : PE X a ta) (na : starEach [a] X.env = (false, eval a X.env) :: starEach [] X.env := by rfl) :
    PE X (.Call (.Name "tuple" p) [a] [] pos) (tThen ta (kTup K)) := by subst h; exact pe_tupleOf hg hm ha na
end RJ
end

section
set_option maxRecDepth 100000
set_option maxHeartbeats 2000000
namespace PySem
open PySem.Spec PyProof.Rows Sem
section
/-- repr of a list, whatever is under way -/
theorem rj_list_head {M : Model} {A : Around} {E : Value → Shared → Prop} {s : Shared} {Q : Fin → Shared → Prop} {a : Addr} {o : Obj} {x : Value} {l : List Value} {n} {b : Nat}
    (hget : s.heap.get? a = some o) (hd : o.data = .seq (x :: l).toArray n)
    (h : wpAny M A (do again (.builtin "list.__repr__.loop" ⟨[.ref a, rawInt 0, ← newList [], rawInt b], []⟩)) Q E s)
    (h2 : wpAny M A (do rule "list.__repr__.in-itself"; retStr "[...]") Q E s) : wpAny M A (Builtin.listReprAt b ⟨[.ref a], []⟩) Q E s := by
  intro Γ p hΓ
  have h1 := h Γ p hΓ
  have h3 := h2 Γ p hΓ
  unfold Builtin.listReprAt
  simp [slotArgs, Builtin.List.listItems, seqItems?, wp_load_of (h := hget), hd, stack]
  show wp M Γ (if (Γ.below.any _) = true then _ else _) _ _ p s
  split
  · exact h3
  · exact h1
variable {prog : Program} {w : World} {A : Around} {E : Value → Shared → Prop} {s : Shared}
theorem rj_lway : ("[...]" : Str).length ≤ 5 := by decide +kernel
theorem rj_repr_list {Q : Value → Shared → Prop} {a : Addr} {oa : Obj} {x : Value} {l : List Value} {na : Nat} {ts : List Str} (hTy : s.TypeIs (.ref a) "list") (hu : A.units < cLine)
    (ha : s.heap.get? a = some oa) (hda : oa.data = .seq (x :: l).toArray na) (hlen : ts.length = (x :: l).toArray.size)
    (hT : ∀ (i : Nat) (y : Value), (x :: l).toArray[i]? = some y → ∃ t, ts[i]? = some t ∧ ReprIs prog w y t)
    (hQ : ∀ (m : Str) h' u tk, m.length ≤ (listText ts).length + 5 → (∀ b o, s.heap.get? b = some o → h'.get? b = some o) → Q (.str m u) { s with heap := h', toks := tk })
    (hsz : (listText ts).length ≤ sizeLine) :
    wpAny (model prog w) A (pyReprObj (.ref a)) Q E s := by
  unfold pyReprObj
  refine wpAny_bind (wpAny_cRoomFor hu ?_)
  refine wpAny_bind (wpAny_specialOf (name := Str.ofString "__repr__") hTy F.slot_list_repr.lookup ?_)
  refine wpAny_bind (m := callSpecialIfBound? (.ref a) (Str.ofString "__repr__")) (wpAny_callSpecialIfBound?_slot (name := Str.ofString "__repr__") hTy F.slot_list_repr ?_)
  refine wpAny_call (codeAny_call_builtin F.slot_list_repr.plain F.entry_list_repr (F.slot_list_repr.check _ _ _ _ _ _ _ _ hTy (F.args_list_repr_1 _) ?_))
  refine rj_list_head (A := A.in1) ha hda ?_ ?_
  · refine wpAny_bind (m := newList []) (wpAny_newObj_type ?_)
    refine wpAny_pure ⟨F.quiet_list_repr_loop _, ?_⟩
    refine codeAny_list_repr_start (P := s.heap.objs.size) (b := 0) (Nat.ne_of_lt (Heap.lt_size ha)) hlen hT (Heap.get?_push_of_some _ ha) hda (Heap.get?_push_size _ rfl) (fun h' u tk hk => ?_) (by omega)
    exact wpAny_bind (wpAny_isInstance (T := "str") (b := true) rfl isSubtype_str_str (wpAny_pure (hQ _ h' u tk (Nat.le_add_right _ _) fun b o e => hk b o (Nat.ne_of_lt (Heap.lt_size e)) (Heap.get?_push_of_some _ e))))
  · refine wpAny_bind (wpAny_rule ?_)
    refine wpAny_bind (wpAny_mkStr (wpAny_pure ?_) (by decide +kernel))
    exact wpAny_bind (wpAny_isInstance (T := "str") (b := true) rfl isSubtype_str_str (wpAny_pure (hQ _ s.heap _ _ (Nat.le_trans rj_lway (Nat.le_add_left _ _)) fun _ _ e => e)))
end
end PySem
namespace RJ
open PySem PySem.Spec PyProof.Rows L2
/-- a plain value whose repr is short -/
def ScR (x : V) : Prop := x = .non ∨ (∃ b, x = .bl b) ∨ (∃ i : Int, x = .int i ∧ i.natAbs.log2 < 1920 ∧ (Str.ofString (toString i)).length ≤ 200) ∨ (∃ z : Str, x = .str z ∧ z.length ≤ 19 ∧ ∀ c ∈ z.cps.toList, c < 16 ^ 8)
/-- a plain value, or a tuple or list of such -/
def RepV (K : PySem.W.Frag) (H : Hp) (x : V) : Prop := ScR x ∨ ∃ a xs, x = .ref a ∧ (SqT K H a xs ∨ SqL K H a xs) ∧ (∀ y ∈ xs, ScR y) ∧ xs.length ≤ 1000
theorem sc_repr {prog : Program} {w : World} {x : V} {v : Value} (r : RelV x v) (h : ScR x) : ∃ t, ReprIs prog w v t ∧ t.length ≤ 200 := by
  have hsl : sizeLine = 16777216 := sizeLine_eq
  rcases h with rfl | ⟨b, rfl⟩ | ⟨i, rfl, h1, h2⟩ | ⟨z, rfl, h1, h2⟩
  · cases r
    exact ⟨_, ReprIs.none, by decide +kernel⟩
  · cases r
    exact ⟨_, ReprIs.bool b, by cases b <;> decide +kernel⟩
  · obtain ⟨t, rfl⟩ := r
    exact ⟨_, ReprIs.int t h1, h2⟩
  · obtain ⟨t, rfl⟩ := r
    have := PySem.StrLaws.reprText_len z h2
    exact ⟨_, ReprIs.str z t (by omega), by omega⟩
theorem sc_all {prog : Program} {w : World} : ∀ {xs : List V} {its : List Value}, Vals xs its → (∀ y ∈ xs, ScR y) → ∃ ts, ReprAll prog w its ts ∧ piled ts ≤ 202 * xs.length
  | [], _, r, _ => by
    cases r
    exact ⟨[], .nil, Nat.zero_le _⟩
  | x :: xs, _, r, h => by
    cases r with
    | cons r1 r2 =>
      obtain ⟨t, h1, h2⟩ := sc_repr r1 (h x List.mem_cons_self)
      obtain ⟨ts, h3, h4⟩ := sc_all r2 fun y hy => h y (List.mem_cons_of_mem _ hy)
      refine ⟨t :: ts, .cons h1 h3, ?_⟩
      rw [piled_cons, List.length_cons]; omega
theorem reprAll_at {prog : Program} {w : World} : ∀ {its : List Value} {ts : List Str}, ReprAll prog w its ts → ∀ (i : Nat) (y : Value), its[i]? = some y → ∃ t, ts[i]? = some t ∧ ReprIs prog w y t
  | _, _, .nil, i, y, h => by cases h
  | _, _, .cons h1 h2, 0, y, h => by cases h; exact ⟨_, rfl, h1⟩
  | _, _, .cons h1 h2, i + 1, y, h => reprAll_at h2 i y h
theorem listText_len : ∀ ts : List Str, (listText ts).length ≤ piled ts + 2
  | [] => by decide +kernel
  | t :: r => by
    have h := textFrom_length_pos r 1 (("[" : Str) ++ (if (0 : Nat) > 0 then ", " else "" : String) ++ t) (Nat.succ_pos 0)
    have e : ((("[" : Str) ++ (if (0 : Nat) > 0 then ", " else "" : String) ++ t)).length = 1 + t.length := by
      rw [strLen_append, strLen_append]; rfl
    have hX : (listText (t :: r)).length = (textFrom 0 "[" (t :: r)).length + 1 := by
      show (textFrom 0 "[" (t :: r) ++ "]").length = _
      rw [strLen_append]; rfl
    have hY : (textFrom 0 "[" (t :: r)).length = (textFrom 1 (("[" : Str) ++ (if (0 : Nat) > 0 then ", " else "" : String) ++ t) r).length := rfl
    rw [hX, hY, h, e, piled_cons]; omega
/-- {x!r}: some text -/
def tFmtRV (K : PySem.W.Frag) (te : TE) : TE := fun σ H Q => te σ H fun x H1 => RepV K H1 x ∧ ∀ m : Str, m.length ≤ 300000 → Q (.str m) H1
theorem pe_fmtRV {X : Cx} {e : Expr} {te : TE} {pos : Pos} {k : Nat} (hr : Room k X.A) (he : PE X e te) : PE X (.FormattedValue e 114 none pos) (tFmtRV X.K te) := by
  refine ⟨fun pins s σ H Q I h => ?_⟩
  refine wpAny_FormattedValue_repr (thn (he.run pins s σ H _ I h) fun v s1 hv => ?_)
  obtain ⟨x, H1, I1, r1, hx, q⟩ := hv
  have hu := hr.units
  have hsl : sizeLine = 16777216 := sizeLine_eq
  have fin : ∀ (m : Str) (u : Tok) (s2 : Shared), m.length ≤ 300000 → Inv X pins σ H1 s2 → wpAny (model X.prog X.w) X.A (formatField (.str m u) Str.empty) (EP X pins σ Q) X.xe s2 := fun m u s2 hm I2 =>
    wpAny_formatField_str ⟨.str m, H1, I2, ⟨_, rfl⟩, q m hm⟩ ⟨.str m, H1, I2.tok _, ⟨_, rfl⟩, q m hm⟩ (by omega)
  rcases hx with hx | ⟨a, xs, rfl, hs, hsc, hl⟩
  · rcases hx with rfl | ⟨b, rfl⟩ | ⟨i, rfl, h1, h2⟩ | ⟨z, rfl, h1, h2⟩
    · cases r1
      exact pyReprObj_none (fin _ _ _ (by decide +kernel) (I1.tok _))
    · cases r1
      exact pyReprObj_bool (fin _ _ _ (by cases b <;> decide +kernel) (I1.tok _))
    · obtain ⟨t, rfl⟩ := r1
      exact pyReprObj_int h1 (fin _ _ _ (Nat.le_trans h2 (by decide)) (I1.tok _))
    · obtain ⟨t, rfl⟩ := r1
      have := PySem.StrLaws.reprText_len z h2
      exact pyReprObj_str (fin _ _ _ (by omega) (I1.tok _)) (by omega)
  · cases r1
    rcases hs with ht | ht
    · obtain ⟨its, rv, ⟨o, ho, hcl, n, hd⟩, _⟩ := I1.tuple ht
      obtain ⟨ts, hT, hp⟩ := sc_all (prog := X.prog) (w := X.w) rv hsc
      have htx := fmt_text ts
      refine rj_repr_tuple (ts := ts) (by omega) ho hcl hd hT (by omega) fun m u tk hm => ?_
      exact fin _ _ _ (by omega) (I1.tok _)
    · obtain ⟨its, rv, p, _⟩ := I1.list ht
      obtain ⟨ts, hT, hp⟩ := sc_all (prog := X.prog) (w := X.w) rv hsc
      have htx := listText_len ts
      obtain ⟨o, ho, hcl, n, hd⟩ := p.isList
      cases its with
      | nil => exact wpAny_pyReprObj_list_empty ⟨o, ho, hcl⟩ (by omega) ho hd (fin _ _ _ (by decide +kernel) (I1.tok _))
      | cons y ys =>
        refine rj_repr_list ⟨o, ho, hcl⟩ (by omega) ho hd (by rw [hT.length_eq]; rfl) (fun i z hz => reprAll_at hT i z (by simpa using hz)) (fun m h' u tk hm hk => ?_) (by omega)
        exact fin _ _ _ (by omega) (I1.kept (t' := tk) hk)
end RJ
end

section
set_option maxRecDepth 100000
set_option maxHeartbeats 2000000
namespace PySem
open PySem.Spec PyProof.Rows Sem Builtin Builtin.List
/-- some text for x, of at most L signs, whatever repr is under way -/
def RjSome (prog : Program) (w : World) (h0 : Heap) (x : Value) (L : Nat) : Prop :=
  ∀ (b : Nat), b + L ≤ sizeLine → ∀ (A : Around) (E : Value → Shared → Prop) (s : Shared) (Q : Str → Shared → Prop), A.units + 8 < cLine → (∀ c o, h0.get? c = some o → s.heap.get? c = some o) →
    (∀ (t : Str) h' tk, t.length ≤ L → (∀ c o, s.heap.get? c = some o → h'.get? c = some o) → Q t { s with heap := h', toks := tk }) → wpAny (model prog w) A (pyReprUnder b x) Q E s
theorem RjSome.of {prog : Program} {w : World} {h0 : Heap} {x : Value} {t : Str} {L : Nat} (h : ReprIs prog w x t) (hL : t.length ≤ L) : RjSome prog w h0 x L :=
  fun b hb A E s Q _ _ q => h b (by omega) A E s Q fun tk => q t s.heap tk hL fun _ _ e => e
section
variable {prog : Program} {w : World} {A : Around} {R : Result → Shared → Prop} {E : Value → Shared → Prop} {s : Shared}
theorem rj_loopS {a P : Addr} (hne : a ≠ P) {items : Array Value} {h0 : Heap} {L b : Nat} (hu : A.units + 12 < cLine) (hPf : h0.get? P = none) (hT : ∀ (i : Nat) (x : Value), items[i]? = some x → RjSome prog w h0 x L) (hsz : b + items.size * (L + 2) + 8 ≤ sizeLine) :
    ∀ (k i : Nat) (s : Shared) (oa : Obj) (na : Nat) (acc : Array Value) (c : Nat) (done : List (Str × Tok)), items.size = i + k → (∀ c o, h0.get? c = some o → s.heap.get? c = some o) → s.heap.get? a = some oa → oa.data = .seq items na →
      s.heap.get? P = some { cls := .type "list", dict := none, data := .seq acc c, slots := #[] } → acc.toList = strValues done → done.length = i → piled (done.map (·.1)) ≤ i * (L + 2) →
      (∀ (m : Str) h' u tk, m.length ≤ items.size * (L + 2) + 2 → (∀ b o, b ≠ P → s.heap.get? b = some o → h'.get? b = some o) → R (.ok (.ret (.str m u))) { s with heap := h', toks := tk }) →
      codeAny (model prog w) A (.builtin "list.__repr__.loop" ⟨[.ref a, rawInt i, .ref P, rawInt ((b + piled (done.map (·.1)) : Nat) : Int)], []⟩) R s := by
  intro k
  induction k with
  | zero =>
    intro i s oa na acc c done hk hk0 ha hda hP hacc hdl hpl hR
    have hin : items[(i : Int).toNat]? = none := by simp; omega
    have hll := RJ.listText_len (done.map (·.1))
    have hi : i * (L + 2) = items.size * (L + 2) := by rw [hk]; rfl
    refine codeAny_builtin F.entry_list_repr_loop (show wpAny _ _ («list.__repr__.loop» ⟨[.ref a, .int i 0, .ref P, .int ((b + piled (done.map (·.1)) : Nat) : Int) 0], []⟩) _ _ s by
      rw [repr_loop_tree]
      refine wpAny_bind (wpAny_listItems ha hda ?_)
      simp only [hin]
      exact wpAny_bind (wpAny_listItems hP rfl (by rw [hacc, repr_fold]; exact wpAny_bind (wpAny_pure (wpAny_bind (wpAny_mkStr (wpAny_pure (hR _ s.heap _ _ (by show (listText (done.map (·.1))).length ≤ _; omega) fun _ _ _ e => e)) (by show (listText (done.map (·.1))).length ≤ _; omega)))))))
  | succ k ih =>
    intro i s oa na acc c done hk hk0 ha hda hP hacc hdl hpl hR
    have hlt : i < items.size := by omega
    have hsome : items[(i : Int).toNat]? = some items[i] := by simp [hlt]
    have hm : (i + 1) * (L + 2) ≤ items.size * (L + 2) := Nat.mul_le_mul_right _ hlt
    rw [Nat.succ_mul] at hm
    have hrep := hT i items[i] (by simp [hlt])
    have hasz : acc.size ≤ sizeLine := by
      have e1 : acc.toList.length = acc.size := by simp
      have e2 : (strValues done).length = done.length := by simp [strValues]
      have e3 : i ≤ items.size * (L + 2) := Nat.le_trans (Nat.le_of_lt hlt) (Nat.le_mul_of_pos_right _ (by omega))
      rw [hacc] at e1; omega
    refine codeAny_builtin F.entry_list_repr_loop (show wpAny _ _ («list.__repr__.loop» ⟨[.ref a, .int i 0, .ref P, .int ((b + piled (done.map (·.1)) : Nat) : Int) 0], []⟩) _ _ s by
      rw [repr_loop_tree]
      refine wpAny_bind (wpAny_listItems ha hda ?_)
      simp only [hsome]
      rw [Int.toNat_natCast]
      refine wpAny_bind (wpAny_holding (hrep (b + piled (done.map (·.1)) + 1) (by omega) _ _ _ _ (by rw [units_under_list_loop]; omega) hk0 fun t h' tk ht hkp => ?_))
      refine wpAny_bind (wpAny_mkStr (wpAny_bind (show wpAny _ _ (updateSeq P _) _ _ _ from wpAny_updateSeq (hkp _ _ hP) rfl (wpAny_pure ⟨F.quiet_list_repr_loop _, ?_⟩) hasz)) (by omega))
      have e1 : ((i : Int) + 1) = ((i + 1 : Nat) : Int) := by omega
      have e2 : b + piled (done.map (·.1)) + (t.length + 2) = b + piled ((done ++ [(t, tk)]).map (·.1)) := by
        rw [List.map_append, piled_append]
        show _ = b + (_ + piled [t])
        rw [piled_cons, piled_nil]; omega
      have e3 : piled ((done ++ [(t, tk)]).map (·.1)) = piled (done.map (·.1)) + (t.length + 2) := by omega
      rw [e1, e2]
      refine ih (i + 1) _ oa na (acc.push (.str t tk)) _ (done ++ [(t, tk)]) (by omega) (fun c o e => (Heap.get?_update_other _ _ (fun h : P = c => by rw [← h, hPf] at e; cases e)).trans (hkp _ _ (hk0 _ _ e))) ((Heap.get?_update_other _ _ (fun h : P = a => hne h.symm)).trans (hkp _ _ ha)) hda (Heap.get?_update_self _ (hkp _ _ hP) rfl) (by simp [hacc, strValues]) (by simp [hdl]) (by rw [e3, Nat.succ_mul]; omega) fun m h'' u tk' hm' hh => ?_
      exact hR m h'' u tk' hm' fun d o hb e => hh d o hb ((Heap.get?_update_other _ _ (fun h : P = d => hb h.symm)).trans (hkp _ _ e)))
/-- a list of plain values within another one -/
theorem RjSome.list {h0 : Heap} {a : Addr} {oa : Obj} {x : Value} {l : List Value} {na : Nat} {ts : List Str} (ha : h0.get? a = some oa) (hc : oa.cls = .type "list") (hda : oa.data = .seq (x :: l).toArray na) (hlen : ts.length = (x :: l).toArray.size)
    (hT : ∀ (i : Nat) (y : Value), (x :: l).toArray[i]? = some y → ∃ t, ts[i]? = some t ∧ ReprIs prog w y t) : RjSome prog w h0 (.ref a) ((listText ts).length + 5) := fun b hb A E s Q hu hk q => by
  have hTy : s.TypeIs (.ref a) "list" := ⟨oa, hk _ _ ha, hc⟩
  refine wpAny_pyReprUnder_ref (by omega) (wpAny_pyReprObjUnder_twin (twin := "list.__repr__.under") hTy F.slot_list_repr.toG rfl (by omega) (call_twin_plain F.plain_list_repr_under F.entry_list_repr_under F.check_list_repr_under hTy F.slot_list_repr.toG (F.args_list_repr_1 _) ?_))
  refine rj_list_head (b := b) (hk _ _ ha) hda ?_ ?_
  · refine wpAny_bind (m := newList []) (wpAny_newObj_type (wpAny_pure ⟨F.quiet_list_repr_loop _, ?_⟩))
    refine codeAny_list_repr_start (P := s.heap.objs.size) (b := b) (Nat.ne_of_lt (Heap.lt_size (hk _ _ ha))) hlen hT (Heap.get?_push_of_some _ (hk _ _ ha)) hda (Heap.get?_push_size _ rfl) (fun h' u tk hk' => ?_) (by omega)
    exact ⟨⟨_, _, rfl⟩, _, _, rfl, q _ h' tk (Nat.le_add_right _ _) fun c o e => hk' c o (Nat.ne_of_lt (Heap.lt_size e)) (Heap.get?_push_of_some _ e)⟩
  · refine wpAny_bind (wpAny_rule (wpAny_bind (wpAny_mkStr (wpAny_pure ?_) (by decide +kernel))))
    exact ⟨⟨_, _, rfl⟩, _, _, rfl, q _ s.heap _ (Nat.le_trans rj_lway (Nat.le_add_left _ _)) fun _ _ e => e⟩
/-- repr of a list, its items of any such kind -/
theorem rj_repr_listS {Q : Value → Shared → Prop} {a : Addr} {oa : Obj} {x : Value} {l : List Value} {na L : Nat} (hTy : s.TypeIs (.ref a) "list") (hu : A.units + 40 < cLine) (ha : s.heap.get? a = some oa) (hda : oa.data = .seq (x :: l).toArray na)
    (hT : ∀ (i : Nat) (y : Value), (x :: l).toArray[i]? = some y → RjSome prog w s.heap y L)
    (hQ : ∀ (m : Str) h' u tk, m.length ≤ (x :: l).toArray.size * (L + 2) + 8 → (∀ b o, s.heap.get? b = some o → h'.get? b = some o) → Q (.str m u) { s with heap := h', toks := tk })
    (hsz : (x :: l).toArray.size * (L + 2) + 8 ≤ sizeLine) : wpAny (model prog w) A (pyReprObj (.ref a)) Q E s := by
  unfold pyReprObj
  refine wpAny_bind (wpAny_cRoomFor (by omega) (wpAny_bind (wpAny_specialOf (name := Str.ofString "__repr__") hTy F.slot_list_repr.lookup ?_)))
  refine wpAny_bind (m := callSpecialIfBound? (.ref a) (Str.ofString "__repr__")) (wpAny_callSpecialIfBound?_slot (name := Str.ofString "__repr__") hTy F.slot_list_repr (wpAny_call (codeAny_call_builtin F.slot_list_repr.plain F.entry_list_repr (F.slot_list_repr.check _ _ _ _ _ _ _ _ hTy (F.args_list_repr_1 _) ?_))))
  refine rj_list_head (A := A.in1) ha hda ?_ ?_
  · refine wpAny_bind (m := newList []) (wpAny_newObj_type (wpAny_pure ⟨F.quiet_list_repr_loop _, ?_⟩))
    refine rj_loopS (h0 := s.heap) (P := s.heap.objs.size) (b := 0) (L := L) (Nat.ne_of_lt (Heap.lt_size ha)) (by omega) (Heap.get?_none_of_le (Nat.le_refl _)) hT (by omega) _ 0 _ oa na #[] _ [] (by rw [Nat.zero_add]) (fun c o e => Heap.get?_push_of_some _ e) (Heap.get?_push_of_some _ ha) hda (Heap.get?_push_size _ rfl) rfl rfl (Nat.zero_le _) fun m h' u tk hm hk' => ?_
    exact wpAny_bind (wpAny_isInstance (T := "str") (b := true) rfl isSubtype_str_str (wpAny_pure (hQ _ h' u tk (by omega) fun b o e => hk' b o (Nat.ne_of_lt (Heap.lt_size e)) (Heap.get?_push_of_some _ e))))
  · refine wpAny_bind (wpAny_rule (wpAny_bind (wpAny_mkStr (wpAny_pure ?_) (by decide +kernel))))
    exact wpAny_bind (wpAny_isInstance (T := "str") (b := true) rfl isSubtype_str_str (wpAny_pure (hQ _ s.heap _ _ (Nat.le_trans rj_lway (by omega)) fun _ _ e => e)))
end
end PySem
end

section
set_option maxRecDepth 100000
set_option maxHeartbeats 2000000
namespace RJ
open PySem PySem.Spec PyProof.Rows L2
/-! ### defs that are called while no repr is under way -/
structure FnG (P : Program) (w : World) (K : PySem.W.Frag) (mg : Str → Option Value) (base : Heap) (k : Nat) (f : Addr) (fd : FuncData) (ps : List Str) (sp : Sp) : Prop where
  ln : ∀ vs H Q E, sp vs H Q E → vs.length = ps.length
  go : ∀ (A : Around) (outer : List Env) (s : Shared) (H : Hp) (args : Args) (us : List Value) (vs : List V) (Q : VK) (E : XK), A.guards = some [] → Room k A → Env0 P w K mg base A outer s H → BindsTo s fd args (ps.zip us) → Vals vs us → sp vs H Q E →
    codeAny (model P w) A (.call (.ref f) args) (CR C8.CX0 outer P w H s Q E) s
structure CalG (P : Program) (w : World) (K : PySem.W.Frag) (mg : Str → Option Value) (base : Heap) (k : Nat) (x : Str) (sp : Sp) : Prop where
  ex : ∃ (f : Addr) (fd : FuncData) (ps : List Str), FnG P w K mg base k f fd ps sp ∧ mg x = some (.ref f) ∧ PySem.W.keepIn K (.ref f) = true ∧ Binds K fd ps []
section
variable {P : Program} {w : World} {K : PySem.W.Frag} {mg : Str → Option Value} {base : Heap}
theorem fnG0 {x qual : Str} {st : Stmt} {f : Addr} {fd : FuncData} {N ps : List Str} {k : Nat} {sp : Sp} (F : C8.Fun K x qual st f fd) (S : FnScope N ps (C8.fnScope st)) (len : ∀ vs H Q E, sp vs H Q E → vs.length = ps.length)
    (hb : ∀ (cdv : Value) (A : Around) (outer : List Env) (s : Shared) (H : Hp) (vs : List V) (Q : VK) (E : XK), (A.deeper (envOfC qual (C8.fnScope st) s.heap.objs.size f cdv)).guards = some [] → Room k (A.deeper (envOfC qual (C8.fnScope st) s.heap.objs.size f cdv)) → sp vs H Q E →
      ∃ t, PSs (cxOf C8.CX0 P w K mg base N qual (C8.fnScope st) f cdv A outer s H E).nox (C8.fnBody st) t ∧ t { nx := fun _ H' => Q .non H', rt := Q } (start N vs) H) : FnG P w K mg base (k + 1) f fd ps sp := by
  obtain ⟨oc, od, dV, kV, doc, pm, an, cdv, ct, osl, rfl, lk, hcd⟩ := F.ex
  refine ⟨len, fun A outer s H args us vs Q E hg hr e0 hbn r hsp => LamX.run_ofS lk hcd S hr e0 hbn r (len _ _ _ _ hsp) fun hr' => ?_⟩
  obtain ⟨t, h, q⟩ := hb cdv A outer s H vs Q E hg hr' hsp
  exact ⟨t, h.nox, q⟩
theorem FnG.of {k : Nat} {f : Addr} {fd : FuncData} {ps : List Str} {sp : Sp} (F : FnOk P w K mg base C8.CX0 k f fd ps sp) : FnG P w K mg base k f fd ps sp :=
  ⟨F.len, fun A outer s H args us vs Q E _ => F.run A outer s H args us vs Q E⟩
end
section
variable {X : Cx} {k j : Nat} {x : Str} {sp : Sp} {p pos : Pos} {e : Expr} {es : List Expr} {t : TA}
theorem run_fnG {f : Addr} {fd : FuncData} {ps : List Str} {pins : List (Addr × Obj)} {σ : L2.St} {H : Hp} {s : Shared} {Q : VK} {us : List Value} {vs : List V} (F : FnG X.prog X.w X.K X.mg X.base k f fd ps sp) (gd : X.A.guards = some []) (hr : Room k X.A) (hb : Binds X.K fd ps [])
    (I : Inv X pins σ H s) (r : Vals vs us) (h : sp vs H Q C8.E0) : wpAny (model X.prog X.w) X.A (call (.ref f) us) (EP X pins σ Q) X.xe s := by
  have b := hb s us I.kIn (by rw [List.append_nil]; exact r.length.symm.trans (F.ln _ _ _ _ h))
  rw [List.append_nil] at b
  refine wpAny_call (codeAny_mono (F.go X.A X.stack s H ⟨us, []⟩ us vs Q C8.E0 gd hr I.env0 b r h) fun r' s' hq => ?_)
  match r', hq with
  | .ok (.ret u), hq => exact I.after hq
  | .ok .next, hq => exact hq.elim
  | .ok .brk, hq => exact hq.elim
  | .ok .cont, hq => exact hq.elim
  | .error e, hq => exact hq.elim
theorem pe_cg (c : CalG X.prog X.w X.K X.mg X.base k x sp) (gd : X.A.guards = some []) (hr : Room j X.A) (hk : k ≤ j) (hg : Gl X x) (ha : PA X (e :: es) t)
    (hdb : (x == ("__debug__" : Str)) = false := by decide) (he : starEach (e :: es) X.env = (false, eval e X.env) :: starEach es X.env := by rfl) (hpl : (backTo pos (starEach es X.env)).any (·.1) = false := by rfl) :
    PE X (.Call (.Name x p) (e :: es) [] pos) (tCallS sp (fun _ => C8.E0) t) := by
  obtain ⟨f, fd, ps, F, hm, kp, b⟩ := c.ex
  refine ⟨fun pins s σ H Q I h => wpAny_Call_Name_kw (ld_glob I hg hm (PySem.W.callWith_K (h₀ := X.base) I.ok.mod.kin kp (thn (ha.run pos pins s σ H _ I h) fun us s1 ⟨vs, H1, I1, r, q⟩ => ⟨I1.kIn, run_fnG F gd (hr.mono hk) b I1 r q⟩) he hpl) hdb)⟩
/-- repr(x), x a plain value or data, no repr under way -/
def rReprG (K : PySem.W.Frag) : List V → Hp → VK → Prop := fun vs H Q => ∃ (x : V) (d : PyData), vs = [x] ∧ Dp K H x d ∧ d.showable = true ∧ d.hasDict = false ∧ d.depth ≤ 60 ∧ d.shown.length ≤ 1000000 ∧ Q (.str d.shown) H
theorem call_reprG (gd : X.A.guards = some []) (hu : X.A.units + 64 < cLine) : CallR X (.builtin "repr") (rReprG X.K) := by
  intro pins s σ H vs us Q I r h
  obtain ⟨x, d, rfl, hd, hs, hnd, hdep, hl, q⟩ := h
  obtain ⟨u, rfl, ru⟩ := vals1 r
  have hsl : sizeLine = 16777216 := sizeLine_eq
  have hsl2 : d.shown.length ≤ sizeLine := by omega
  cases hd with
  | non => cases ru; exact PySem.P.repr_of_none ⟨.str _, H, I.tok _, ⟨_, rfl⟩, q⟩
  | bl b => cases ru; exact PySem.P.repr_of_bool ⟨.str _, H, I.tok _, ⟨_, rfl⟩, q⟩
  | int i => obtain ⟨t, rfl⟩ := ru; exact PySem.P.repr_of_int (by simpa [PyData.showable] using hs) ⟨.str _, H, I.tok _, ⟨_, rfl⟩, q⟩
  | str z => obtain ⟨t, rfl⟩ := ru; exact PySem.P.repr_of_str ⟨.str _, H, I.tok _, ⟨_, rfl⟩, q⟩ hsl2
  | lst h1 h2 =>
    obtain ⟨as, hrd⟩ := Dp.reads I _ _ _ (.lst h1 h2) ru
    cases ru
    exact repr_of_reads' hrd hs (fun z => by rw [hnd] at z; cases z) gd (by omega) (fun _ _ e => e) (fun h' v tk hk => ⟨.str _, H, I.kept (t' := tk) hk, ⟨_, rfl⟩, q⟩) hsl2
  | tup h1 h2 =>
    obtain ⟨as, hrd⟩ := Dp.reads I _ _ _ (.tup h1 h2) ru
    cases ru
    exact repr_of_reads' hrd hs (fun z => by rw [hnd] at z; cases z) gd (by omega) (fun _ _ e => e) (fun h' v tk hk => ⟨.str _, H, I.kept (t' := tk) hk, ⟨_, rfl⟩, q⟩) hsl2
theorem call_reprGK {K : PySem.W.Frag} (hK : X.K = K) (gd : X.A.guards = some []) (hu : X.A.units + 64 < cLine) : CallR X (.builtin "repr") (rReprG K) := by
  subst hK; exact call_reprG gd hu
end
/-! ### the end of a law whose promise asks that -/
theorem law_callG {P : Program} {w : World} {K : PySem.W.Frag} {mg mb : Str → Option Value} {k : Nat} {fa a : Addr} {fd : FuncData} {x : Str} {sp : Sp} {s1 : Shared} {us : List Value} {zs : List Int}
    (kx : K.In s1.heap) (hG : s1.heap.Ns mainGlobals mg) (hB : s1.heap.Ns builtinsNs mb) (hB2 : ∀ y : Str, y ≠ "__name__" → mb y = bootBuiltins y) (hlm : s1.heap.NoLimit) (hgn : s1.gens = #[]) (hda : s1.heap.get? a = some { cls := .type "list", data := .seq us.toArray }) (hin : IntsAre us zs) (hzl : zs.length ≤ sizeLine)
    (hr : Room k callerA) (F : ∀ base : Heap, K.In base → base.Ns mainGlobals mg → FnG P w K mg base k fa fd [x] sp) (hbd : ∀ (s : Shared) (u : Value), BindsTo s fd ⟨[u], []⟩ [(x, u)]) (hsp : ∀ H : Hp, Only H → SqL K H a (zs.map V.int) → sp [.ref a] H (fun v _ => v = .bl true) fun _ _ _ => False) :
    codeAny (model P w) callerA (.call (.ref fa) ⟨[.ref a], []⟩) (fun r s' => r = .ok (.ret (.bool true)) ∧ OldK s1.heap s'.heap ∧ s'.os = s1.os ∧ AllBare s'.gens) s1 := by
  have rv := vals_ints hin
  have ln := hin.length
  have main : ∀ H : Hp, Only H → SqL K H a (zs.map V.int) → HOk P w H s1.heap → (∀ b u, H b = some u → b = a) → (K.lookup a = none ∨ H a = none) →
      codeAny (model P w) callerA (.call (.ref fa) ⟨[.ref a], []⟩) (fun r s' => r = .ok (.ret (.bool true)) ∧ OldK s1.heap s'.heap ∧ s'.os = s1.os ∧ AllBare s'.gens) s1 := by
    intro H hO hS hok hA hK
    have free : ∀ b, b ≠ a → H b = none := fun b hb => by
      cases e : H b with
      | none => rfl
      | some u => exact absurd (hA b u e) hb
    have up : ∀ {b : Addr} {o : Obj}, s1.heap.get? b = some o → H b = none → (hidT s1.heap H).get? b = some o := hidT_get
    have ns : ∀ {b : Addr} {m : Str → Option Value}, s1.heap.Ns b m → (hidT s1.heap H).Ns b m := by
      rintro b m ⟨o, es, ep, e, d, r⟩
      refine ⟨o, es, ep, up e (free b fun z => ?_), d, r⟩
      rw [z, hda] at e
      obtain rfl := Option.some.inj e
      exact nomatch (show Data.seq us.toArray _ = Data.dict es ep from d)
    have hKb : K.In (hidT s1.heap H) := fun b o e => up (kx b o e) (by
      by_cases z : b = a
      · rcases hK with h | h
        · rw [z, h] at e; cases e
        · rw [z]; exact h
      · exact free b z)
    obtain ⟨mc, l1, l2⟩ := hlm
    have env : Env0 P w K mg (hidT s1.heap H) callerA [] s1 H := ⟨rfl, ⟨hKb, ns hG, ⟨mb, ns hB, hB2⟩, ⟨mc, ns l1, l2⟩⟩, fun b o e => of_hidT e, Nat.le_of_eq (hidT_size _ _), trivial, fun b hb => absurd (show b ∈ ([] : List Addr) from hb) List.not_mem_nil, hok, AllBare.of_eq hgn⟩
    refine codeAny_mono ((F _ hKb (ns hG)).go callerA [] s1 H ⟨[.ref a], []⟩ [.ref a] [.ref a] _ _ rfl hr env (hbd s1 (.ref a)) (.cons rfl .nil) (hsp H hO hS)) fun r s' h => ?_
    match r, h with
    | .ok (.ret u), ⟨v, H', os, bare, un, hok', rr, qv⟩ =>
      obtain rfl : v = .bl true := qv
      obtain rfl : u = Value.bool true := rr
      refine ⟨rfl, OldK.of_keep fun b o e => ?_, os, bare⟩
      cases c : H b with
      | none => exact un.keep b o e c (fun z => absurd (show b ∈ ([] : List Addr) from z) List.not_mem_nil) List.not_mem_nil
      | some u =>
        rcases hO b with z | ⟨ob, xs, z⟩
        · rw [c] at z; cases z
        · have g1 := (hok b _ z).1
          have g2 := (hok' b _ (un.frzs b ob _ z)).1
          rw [e] at g1
          rw [Option.some.inj g1]; exact g2
    | .ok .next, h => exact h.elim
    | .ok .brk, h => exact h.elim
    | .ok .cont, h => exact h.elim
    | .error e, h => exact h.elim
  cases hk : K.lookup a with
  | some o =>
    have e := (kx a o hk).symm.trans hda
    obtain rfl := Option.some.inj e
    exact main (fun _ => none) (fun _ => .inl rfl) (.inr ⟨_, us.toArray, _, hk, rfl, rfl, rfl, by rw [List.size_toArray, ln]; exact hzl, by simpa using rv⟩) (fun b u z => nomatch z) (fun b u z => nomatch z) (.inr rfl)
  | none =>
    obtain ⟨H0, hH0⟩ : ∃ H0 : Hp, ∀ b, H0 b = if b = a then some (.frz { cls := .type "list", data := .seq us.toArray } (.lst (zs.map V.int))) else none := ⟨_, fun _ => rfl⟩
    have at0 : H0 a = some (.frz { cls := .type "list", data := .seq us.toArray } (.lst (zs.map V.int))) := by rw [hH0, if_pos rfl]
    refine main H0 (fun b => ?_) (.inl (.inr ⟨_, at0⟩)) (fun b u z => ?_) (fun b u z => ?_) (.inl hk)
    · by_cases hb : b = a
      · rw [hb]; exact .inr ⟨_, _, at0⟩
      · exact .inl (by rw [hH0, if_neg hb])
    · rw [hH0] at z
      split at z
      · rename_i hb
        obtain rfl := Option.some.inj z
        rw [hb]
        exact ⟨hda, by rw [List.length_map]; exact hzl, us, _, rv, hda⟩
      · cases z
    · rw [hH0] at z
      split at z
      · assumption
      · cases z
theorem walkGd {l : PySem.W.OpenLaw} {n k : Nat} {q : Program} {loose : List Str} {XP : (Str → Option Value) → Heap → Prop} {YP : World → Heap → Prop} {d : DefRec} {K : Params → PySem.W.Frag} {sp : World → Sp} {x : Str}
    (hn : l.most = some n) (hn2 : n ≤ sizeLine) (hdf : d.params.defaults = []) (hr : Room k callerA) (hY : ∀ (w : World) (h : Heap), YP w h → (K w.params).In h)
    (F : ∀ (w : World) (mg : Str → Option Value) (fa : Addr) (h : Heap), (K w.params).In h → h.Ns mainGlobals mg → mg d.name = some (.ref fa) → ∃ fd : FuncData, (∀ (s : Shared) (u : Value), BindsTo s fd ⟨[u], []⟩ [(x, u)]) ∧ ∀ base : Heap, (K w.params).In base → base.Ns mainGlobals mg → FnG l.prog w (K w.params) mg base k fa fd [x] (sp w))
    (hsp : ∀ (w : World) (H : Hp) (a : Addr) (ns : List Int), ns.length ≤ n → Only H → SqL (K w.params) H a (ns.map V.int) → sp w [.ref a] H (fun v _ => v = .bl true) fun _ _ _ => False) :
    PySem.W.WalkO q loose XP YP l.row.toRowW d [] (fun f vs => PySem.call f vs) :=
  Att.attach_call hn hdf fun w _ s1 mg mb fa o pm cd doc a us zs G Y _ _ _ hmg hobj hints hlen hg => by
    obtain ⟨fd, hb, hF⟩ := F w mg fa _ (hY w _ Y) G.T.g hmg
    exact law_callG (hY w _ Y) G.T.g G.T.b G.T.builtins G.T.nolimit hg hobj hints (Nat.le_trans hlen hn2) hr hF hb fun H hO hS => hsp w H a zs hlen hO hS
/-! ### data that stands -/
mutual
inductive DpH (H : Hp) : V → PyData → Prop
  | non : DpH H .non .none
  | bl (b : Bool) : DpH H (.bl b) (.bool b)
  | int (i : Int) : DpH H (.int i) (.int i)
  | str (x : Str) : DpH H (.str x) (.str x)
  | lst {a : Addr} {xs : List V} {ds : List PyData} : H a = some (.lst xs) → DpHs H xs ds → DpH H (.ref a) (.list ds)
  | tup {a : Addr} {xs : List V} {ds : List PyData} : H a = some (.tup xs) → DpHs H xs ds → DpH H (.ref a) (.tuple ds)
inductive DpHs (H : Hp) : List V → List PyData → Prop
  | nil : DpHs H [] []
  | cons {v : V} {vs : List V} {d : PyData} {ds : List PyData} : DpH H v d → DpHs H vs ds → DpHs H (v :: vs) (d :: ds)
end
mutual
theorem DpH.same {H H' : Hp} (s : Same H H') : ∀ (d : PyData) (x : V), DpH H x d → DpH H' x d
  | .none, _, h => by cases h; exact .non
  | .bool _, _, h => by cases h; exact .bl _
  | .int _, _, h => by cases h; exact .int _
  | .str _, _, h => by cases h; exact .str _
  | .list ds, _, h => by
    cases h with
    | lst e t => exact .lst (s _ _ e) (DpHs.same s ds _ t)
  | .tuple ds, _, h => by
    cases h with
    | tup e t => exact .tup (s _ _ e) (DpHs.same s ds _ t)
  | .dict _, _, h => nomatch h
theorem DpHs.same {H H' : Hp} (s : Same H H') : ∀ (ds : List PyData) (xs : List V), DpHs H xs ds → DpHs H' xs ds
  | [], _, h => by cases h; exact .nil
  | d :: ds, _, h => by
    cases h with
    | cons h1 h2 => exact .cons (DpH.same s d _ h1) (DpHs.same s ds _ h2)
end
mutual
theorem DpH.dp {K : PySem.W.Frag} {H : Hp} : ∀ (d : PyData) (x : V), DpH H x d → Dp K H x d
  | .none, _, h => by cases h; exact .non
  | .bool _, _, h => by cases h; exact .bl _
  | .int _, _, h => by cases h; exact .int _
  | .str _, _, h => by cases h; exact .str _
  | .list ds, _, h => by
    cases h with
    | lst e t => exact .lst (SqL.of e) (DpHs.dp ds _ t)
  | .tuple ds, _, h => by
    cases h with
    | tup e t => exact .tup (SqT.of e) (DpHs.dp ds _ t)
  | .dict _, _, h => nomatch h
theorem DpHs.dp {K : PySem.W.Frag} {H : Hp} : ∀ (ds : List PyData) (xs : List V), DpHs H xs ds → DpAll K H xs ds
  | [], _, h => by cases h; exact .nil
  | d :: ds, _, h => by
    cases h with
    | cons h1 h2 => exact .cons (DpH.dp d _ h1) (DpHs.dp ds _ h2)
end
/-- a list of plain values and lists of such -/
def NestV (K : PySem.W.Frag) (H : Hp) (x : V) : Prop := ∃ a xs, x = .ref a ∧ SqL K H a xs ∧ xs ≠ [] ∧ xs.length ≤ 10 ∧ ∀ y ∈ xs, ScR y ∨ ∃ b ys, y = .ref b ∧ SqL K H b ys ∧ ys ≠ [] ∧ ys.length ≤ 10 ∧ ∀ z ∈ ys, ScR z
def tFmtRN (K : PySem.W.Frag) (te : TE) : TE := fun σ H Q => te σ H fun x H1 => (RepV K H1 x ∨ NestV K H1 x) ∧ ∀ m : Str, m.length ≤ 300000 → Q (.str m) H1
theorem pe_fmtRN {X : Cx} {e : Expr} {te : TE} {pos : Pos} {k : Nat} (hr : Room k X.A) (he : PE X e te) : PE X (.FormattedValue e 114 none pos) (tFmtRN X.K te) := by
  refine ⟨fun pins s σ H Q I h => wpAny_FormattedValue_repr (thn (he.run pins s σ H _ I h) fun v s1 ⟨x, H1, I1, r1, hx, q⟩ => ?_)⟩
  have hu := hr.un
  have hsl : sizeLine = 16777216 := sizeLine_eq
  have fin : ∀ (m : Str) (u : Tok) (s2 : Shared), m.length ≤ 300000 → Inv X pins σ H1 s2 → wpAny (model X.prog X.w) X.A (formatField (.str m u) Str.empty) (EP X pins σ Q) X.xe s2 := fun m u s2 hm I2 =>
    wpAny_formatField_str ⟨.str m, H1, I2, ⟨_, rfl⟩, q m hm⟩ ⟨.str m, H1, I2.tok _, ⟨_, rfl⟩, q m hm⟩ (by omega)
  rcases hx with (hx | ⟨a, xs, rfl, hs, hsc, hl⟩) | ⟨a, xs, rfl, hs, hne, hl, hit⟩
  · rcases hx with rfl | ⟨b, rfl⟩ | ⟨i, rfl, h1, h2⟩ | ⟨z, rfl, h1, h2⟩
    · cases r1; exact pyReprObj_none (fin _ _ _ (by decide +kernel) (I1.tok _))
    · cases r1; exact pyReprObj_bool (fin _ _ _ (by cases b <;> decide +kernel) (I1.tok _))
    · obtain ⟨t, rfl⟩ := r1; exact pyReprObj_int h1 (fin _ _ _ (Nat.le_trans h2 (by decide)) (I1.tok _))
    · obtain ⟨t, rfl⟩ := r1
      have := PySem.StrLaws.reprText_len z h2
      exact pyReprObj_str (fin _ _ _ (by omega) (I1.tok _)) (by omega)
  · cases r1
    rcases hs with ht | ht
    · obtain ⟨its, rv, ⟨o, ho, hcl, n, hd⟩, _⟩ := I1.tuple ht
      obtain ⟨ts, hT, hp⟩ := sc_all (prog := X.prog) (w := X.w) rv hsc
      have htx := fmt_text ts
      exact rj_repr_tuple (ts := ts) (by omega) ho hcl hd hT (by omega) fun m u tk hm => fin _ _ _ (by omega) (I1.tok _)
    · obtain ⟨its, rv, p, _⟩ := I1.list ht
      obtain ⟨ts, hT, hp⟩ := sc_all (prog := X.prog) (w := X.w) rv hsc
      have htx := listText_len ts
      obtain ⟨o, ho, hcl, n, hd⟩ := p.isList
      match its, hT, rv, hd with
      | [], _, _, hd => exact wpAny_pyReprObj_list_empty ⟨o, ho, hcl⟩ (by omega) ho hd (fin _ _ _ (by decide +kernel) (I1.tok _))
      | y :: ys, hT, rv, hd => exact rj_repr_list ⟨o, ho, hcl⟩ (by omega) ho hd (by rw [hT.length_eq]; rfl) (fun i z hz => reprAll_at hT i z (by simpa using hz)) (fun m h' u tk hm hk => fin _ _ _ (by omega) (I1.kept (t' := tk) hk)) (by omega)
  · cases r1
    obtain ⟨its, rv, p, _⟩ := I1.list hs
    obtain ⟨o, ho, hcl, n, hd⟩ := p.isList
    have hlen := rv.length
    match its, rv, hd, hlen with
    | [], rv, _, _ => cases rv; exact absurd rfl hne
    | y :: ys, rv, hd, hlen =>
      have hs10 : (y :: ys).toArray.size ≤ 10 := by rw [List.size_toArray]; omega
      have hm : (y :: ys).toArray.size * (2200 + 2) ≤ 10 * (2200 + 2) := Nat.mul_le_mul_right _ hs10
      refine rj_repr_listS (L := 2200) ⟨o, ho, hcl⟩ (by omega) ho hd (fun i z hz => ?_) (fun m h' u tk hm' hk => fin _ _ _ (by omega) (I1.kept (t' := tk) hk)) (by omega)
      have hz' : (y :: ys)[i]? = some z := by simpa using hz
      have hi : i < xs.length := by have := (List.getElem?_eq_some_iff.mp hz').1; omega
      obtain ⟨u2, hu2, ru2⟩ := rv.get (List.getElem?_eq_getElem hi)
      rw [hz'] at hu2
      obtain rfl := Option.some.inj hu2
      rcases hit _ (List.getElem_mem hi) with hsc | ⟨b, zs, eb, hb, hbn, hbl, hbs⟩
      · obtain ⟨t, h1, h2⟩ := sc_repr (prog := X.prog) (w := X.w) ru2 hsc
        exact RjSome.of h1 (by omega)
      · rw [eb] at ru2
        cases ru2
        obtain ⟨its2, rv2, p2, _⟩ := I1.list hb
        obtain ⟨o2, ho2, hcl2, n2, hd2⟩ := p2.isList
        obtain ⟨ts, hT, hp⟩ := sc_all (prog := X.prog) (w := X.w) rv2 hbs
        have htx := listText_len ts
        match its2, hT, rv2, hd2 with
        | [], _, rv2, _ => cases rv2; exact absurd rfl hbn
        | y2 :: ys2, hT, rv2, hd2 =>
          have g := RjSome.list (prog := X.prog) (w := X.w) ho2 hcl2 hd2 (by rw [hT.length_eq]; rfl) fun i z hz => reprAll_at hT i z (by simpa using hz)
          exact fun b hb A E s Q hu hk q => g b (by omega) A E s Q hu hk fun t h' tk ht => q t h' tk (by omega)
end RJ
end

section
set_option maxRecDepth 100000
set_option maxHeartbeats 4000000
/-! sorted(xs, key=lambda entry: (-entry[1], entry[0])), xs a list of ((left, right), total) -/
namespace RJ
open PySem PySem.Spec PyProof.Rows L2
section raw
variable {prog : Program} {w : World} {A : Around} {E : Value → Shared → Prop} {s : Shared} {env : Env}
theorem isTup_of {h : Heap} {t : Addr} {o : Obj} {vs : Array Value} {n : Nat} (e : h.get? t = some o) (c : o.cls = .type "tuple") (d : o.data = .seq vs n) : IsTup h t vs := ⟨o, e, c, n, d⟩
theorem sub_const {x : Str} {k : Int} {j : Nat} {a : Addr} {vs : Array Value} {v : Value} {m : Str → Option Value} {p1 p2 p3 : Pos} {kd : Nat} {Q : Value → Shared → Prop} (hk : env.scope.kind = .function) (hl : env.kindOf x = some .local) (hn : s.heap.Ns env.locals m) (hm : m x = some (.ref a))
    (ht : IsTup s.heap a vs) (h0 : 0 ≤ k) (h1 : k < 100) (hj : seqIndex? k vs.size = some j) (hv : vs[j]? = some v) (hd : (x == ("__debug__" : Str)) = false) (q : Q v { s with toks := s.toks + 1 }) : wpAny (model prog w) A (eval (.Subscript (.Name x p1) (.Constant (.int k) kd p2) p3) env) Q E s := by
  refine wpAny_Subscript_Constant_late (wpAny_Name (wpAny_loadName_local hk hl hn hm ?_) hd)
  refine wpAny_Constant_int ⟨"tuple", _, slot_tuple_getitem.lookup, IsTup.typeIs (s := { s with toks := s.toks + 1 }) ht, ?_⟩
  exact getItem_tuple (s := { s with toks := s.toks + 1 }) ht (by omega) (by omega) hj hv q
/-- the key, as it is written -/
def keyBody (p1 p2 p3 p4 p5 p6 p7 p8 : Pos) : Expr := .Tuple [.UnaryOp .USub (.Subscript (.Name "entry" p1) (.Constant (.int 1) 0 p2) p3) p4, .Subscript (.Name "entry" p5) (.Constant (.int 0) 0 p6) p7] 0 p8
def keyParams (p0 : Pos) : Arguments := { posonlyargs := [], args := [{ arg := "entry", annotation := none, pos := p0 }], vararg := none, kwonlyargs := [], kw_defaults := [], kwarg := none, defaults := [] }
def keyScope : Scope := { kind := .function, names := [(Str.ofString "entry", .local)], isGenerator := false, isCoroutine := false, more := [] }
def keyD (x : (Int × Int) × Int) : PyData := .tuple [.int (-x.2), .tuple [.int x.1.1, .int x.1.2]]
theorem key_call {f c' a g : Addr} {q : Str} {p0 p1 p2 p3 p4 p5 p6 p7 p8 : Pos} {pm ctv : Value} {l r t : Int} {tk t1 t2 : Tok} (ho : s.heap.get? f = some (PySem.W.kla_obj "<lambda>" q (keyParams p0) (keyBody p1 p2 p3 p4 p5 p6 p7 p8) keyScope [] pm c' ctv)) (hcd : s.heap.CodeRec (.ref c') q) (nl : s.heap.NoLimit)
    (hroom : A.depth < recursionLimit) (ha : IsTup s.heap a #[.ref g, .int t tk]) (hg : IsTup s.heap g #[.int l t1, .int r t2]) :
    wpAny (model prog w) A (call (.ref f) [.ref a]) (PySem.W.KeyPure (keyD ((l, r), t)) s) (fun _ _ => False) s := by
  refine wpAny_call (PySem.W.kla_callFunE hroom ho rfl rfl rfl rfl hcd ?_)
  have hb : bindArgs (PySem.W.kla_fn "<lambda>" q (keyParams p0) (keyBody p1 p2 p3 p4 p5 p6 p7 p8) keyScope [] pm (.ref c') ctv) ⟨[.ref a], []⟩ = pure [(Str.ofString "entry", Value.ref a)] := by rfl
  rw [hb]
  refine wpAny_pure (wpAny_newFunctionEnv (fun x hx => ?_) (fun x hx => ?_) (fun h1 hns hsb => ⟨nl.fresh _ hsb, ?_⟩) rfl)
  · obtain rfl := List.mem_singleton.mp (show x ∈ [(Str.ofString "entry", NameKind.local)] from hx)
    exact fun z => by cases z
  · obtain rfl := List.mem_singleton.mp hx
    rfl
  have k1 : ∀ b o, s.heap.get? b = some o → h1.get? b = some o := fun b o e => hsb.extBut b o (Nat.ne_of_lt (Heap.lt_size e)) (Heap.get?_push_of_some _ e)
  have tup : ∀ {b : Addr} {vs : Array Value}, IsTup s.heap b vs → IsTup h1 b vs := fun ⟨o, e, c, n, d⟩ => ⟨o, k1 _ _ e, c, n, d⟩
  refine PySem.W.kla_codeExpr ?_
  refine wpAny_Tuple (wpAny_items_cons (wpAny_UnaryOp (sub_const rfl rfl hns rfl (tup ha) (by decide) (by decide) rfl rfl (by decide) (neg_int ?_))) (by rfl))
  refine wpAny_items_cons (sub_const rfl rfl hns rfl (tup ha) (by decide) (by decide) rfl rfl (by decide) ?_) (by rfl)
  refine wpAny_items_nil ⟨by show 2 ≤ sizeLine; decide, ?_⟩
  refine ⟨_, _, rfl, fun b o e => Heap.get?_push_of_some _ (k1 b o e), ?_⟩
  obtain ⟨o, e, c, n, d⟩ := tup hg
  exact .tuple (Heap.get?_push_size _ rfl) rfl rfl (.cons (.int _ _) (.cons (.tuple (Heap.get?_push_of_some _ e) c d (.cons (.int _ _) (.cons (.int _ _) .nil))) .nil))
end raw
/-! ### the order of the keys -/
abbrev Ent := (Int × Int) × Int
def keyLe (a b : Ent) : Prop := b.2 < a.2 ∨ (a.2 = b.2 ∧ (a.1.1 < b.1.1 ∨ (a.1.1 = b.1.1 ∧ a.1.2 ≤ b.1.2)))
instance (a b : Ent) : Decidable (keyLe a b) := inferInstanceAs (Decidable (_ ∨ _))
theorem keyLe_trans {a b c : Ent} (h : keyLe a b) (k : keyLe b c) : keyLe a c := by unfold keyLe at *; omega
theorem keyLe_total (a b : Ent) : keyLe a b ∨ keyLe b a := by unfold keyLe; omega
theorem keyLe_anti {a b : Ent} (h : keyLe a b) (k : keyLe b a) : a = b := by
  obtain ⟨⟨a1, a2⟩, a3⟩ := a
  obtain ⟨⟨b1, b2⟩, b3⟩ := b
  unfold keyLe at h k
  have h1 : a3 = b3 := by simp only at h k; omega
  have h2 : a1 = b1 := by simp only at h k; omega
  have h3 : a2 = b2 := by simp only at h k; omega
  rw [h1, h2, h3]
theorem lexC (x y : Int) (r t : List (Int ⊕ List Nat)) : PyProof.Rows.lexLt PyProof.Rows.itemOrd (.inl x :: r) (.inl y :: t) = (decide (x < y) || (!decide (y < x) && PyProof.Rows.lexLt PyProof.Rows.itemOrd r t)) := rfl
theorem dataLt_key (a b : Ent) : PySem.W.dataLt (keyD a) (keyD b) = decide (¬ keyLe b a) := by
  unfold PySem.W.dataLt keyD
  simp only [PySem.W.keyToks, PySem.W.keyToksAll, List.append_nil, List.nil_append, List.cons_append]
  rw [lexC, lexC, lexC, lexC, lexC, lexC, lexC, lexC, lexC, show PyProof.Rows.lexLt PyProof.Rows.itemOrd [] [] = false from rfl]
  unfold keyLe
  rw [Bool.eq_iff_iff]
  simp
  omega
theorem dataLe_key : PySem.W.dataLe false keyD = fun a b => decide (keyLe a b) := by
  funext a b
  show (!PySem.W.dataLt (keyD b) (keyD a)) = _
  rw [dataLt_key]
  simp
theorem key_sorted (es : List Ent) : (es.mergeSort fun a b => decide (keyLe a b)).Perm es ∧ (es.mergeSort fun a b => decide (keyLe a b)).Pairwise keyLe := by
  refine ⟨List.mergeSort_perm _ _, ?_⟩
  have h := List.pairwise_mergeSort (le := fun a b => decide (keyLe a b)) (fun a b c h1 h2 => decide_eq_true (keyLe_trans (of_decide_eq_true h1) (of_decide_eq_true h2))) (fun a b => by
    rw [Bool.or_eq_true, decide_eq_true_eq, decide_eq_true_eq]; exact keyLe_total a b) es
  exact h.imp fun h => of_decide_eq_true h
/-! ### all as it was but the table of a def's code objects -/
structure LSame (P : Addr) (q : Str) (H H' : Hp) : Prop where
  x : ∀ b o, b ≠ P → H b = some o → H' b = some o
  t0 : LamX.TabS H P q
  t1 : LamX.TabS H' P q
section lsame
variable {P : Addr} {q : Str}
theorem LSame.refl {H : Hp} (h : LamX.TabS H P q) : LSame P q H H := ⟨fun _ _ _ e => e, h, h⟩
theorem TabS.ne {H : Hp} {b : Addr} {o : HO} (h : LamX.TabS H P q) (e : H b = some o) (hn : ∀ ps, o ≠ .tbl ps) : b ≠ P := by
  obtain ⟨ps, h1, _⟩ := h
  rintro rfl
  rw [h1] at e
  exact hn _ (Option.some.inj e).symm
theorem LSame.o {b : Addr} {H H' : Hp} {o : HO} (s : LSame P q H H') (e : H b = some o) (hn : ∀ ps, o ≠ .tbl ps) : H' b = some o := s.x b o (TabS.ne s.t0 e hn) e
theorem LSame.lst {b : Addr} {H H' : Hp} {xs : List V} (s : LSame P q H H') (e : H b = some (.lst xs)) : H' b = some (.lst xs) := s.o e (fun _ z => by cases z)
theorem LSame.tup {b : Addr} {H H' : Hp} {xs : List V} (s : LSame P q H H') (e : H b = some (.tup xs)) : H' b = some (.tup xs) := s.o e (fun _ z => by cases z)
theorem LSame.dK {b : Addr} {H H' : Hp} {xs : List (Key × V)} (s : LSame P q H H') (e : H b = some (.dK xs)) : H' b = some (.dK xs) := s.o e (fun _ z => by cases z)
theorem LSame.dT {b : Addr} {H H' : Hp} {xs : List (List Key × V)} (s : LSame P q H H') (e : H b = some (.dT xs)) : H' b = some (.dT xs) := s.o e (fun _ z => by cases z)
theorem LSame.trans {H H1 H2 : Hp} (s : LSame P q H H1) (u : LSame P q H1 H2) : LSame P q H H2 := ⟨fun b o h e => u.x b o h (s.x b o h e), s.t0, u.t1⟩
theorem LSame.of {H H' : Hp} (h : LamX.TabS H P q) (s : ∀ b o, H b = some o → H' b = some o) : LSame P q H H' := ⟨fun b o _ e => s b o e, h, h.ext s⟩
theorem LSame.then {H H1 H2 : Hp} (s : LSame P q H H1) (u : ∀ b o, H1 b = some o → H2 b = some o) : LSame P q H H2 := s.trans (LSame.of s.t1 u)
theorem LSame.free {p : Addr} {H H1 : Hp} (s : LSame P q H H1) (h : H1 p = none) : H p = none := by
  cases e : H p with
  | none => rfl
  | some o =>
    by_cases c : p = P
    · obtain ⟨ps, h1, _⟩ := s.t1
      rw [c, h1] at h; cases h
    · rw [s.x p o c e] at h; cases h
theorem keep_new {H : Hp} {p : Addr} {o : HO} (h : H p = none) : ∀ b u, H b = some u → (upd H p o) b = some u := fun b u e => by
  rw [upd_ne (ne_of_none e h)]; exact e
theorem LSame.new {p : Addr} {H H1 : Hp} {o : HO} (s : LSame P q H H1) (h : H1 p = none) : LSame P q H (upd H1 p o) := s.then (keep_new h)
theorem TabS.put {H : Hp} {p : Addr} {o o' : HO} (h : LamX.TabS H P q) (hp : H p = some o') (hn : ∀ ps, o' ≠ .tbl ps) (hx : ∀ φ, o' ≠ .ext φ) : LamX.TabS (upd H p o) P q := by
  have np := TabS.ne h hp hn
  obtain ⟨ps, h1, h2, h3⟩ := h
  refine ⟨ps, (upd_ne (Ne.symm np)).trans h1, h2, fun pos cv hc => ?_⟩
  obtain ⟨c, e1, e2⟩ := h3 pos cv hc
  exact ⟨c, e1, (upd_ne (fun z => by rw [z, hp] at e2; exact hx _ (Option.some.inj e2))).trans e2⟩
/-- what is written where nothing stood, is kept out -/
theorem LSame.put {p : Addr} {H H1 : Hp} {o o' : HO} (s : LSame P q H H1) (h : H p = none) (hp : H1 p = some o') (hn : ∀ ps, o' ≠ .tbl ps) (hx : ∀ φ, o' ≠ .ext φ) : LSame P q H (upd H1 p o) :=
  ⟨fun b u hb e => by rw [upd_ne (ne_of_none e h)]; exact s.x b u hb e, s.t0, TabS.put s.t1 hp hn hx⟩
theorem LSame.putL {p : Addr} {H H1 : Hp} {o : HO} {xs : List V} (s : LSame P q H H1) (h : H p = none) (hp : H1 p = some (.lst xs)) : LSame P q H (upd H1 p o) := s.put h hp (fun _ z => by cases z) (fun _ z => by cases z)
end lsame
/-! ### the lambda is made -/
def LamO (f c' : Addr) (q : Str) (params : Arguments) (body : Expr) : HO := .ext fun h => ∃ (pm ctv : Value), h.get? f = some (PySem.W.kla_obj "<lambda>" q params body keyScope [] pm c' ctv)
def tLamK (q : Str) (P : Addr) (params : Arguments) (body : Expr) : TE := fun _ H Q => LamX.TabS H P q ∧ ∀ (f c' : Addr) (H1 : Hp), LSame P q H H1 → H1 c' = some (LamX.CodeO c' q) → H1 f = some (LamO f c' q params body) → Q (.ref f) H1
section made
variable {X : Cx} {c P : Addr} {params : Arguments} {body : Expr} {pos : Pos}
theorem pe_lamK {q : Str} (TB : LamX.TabB X.base X.mg c P) (hcode : X.env.code = .ref c) (hq : X.env.qual ++ "<lambda>" = q) (hdef : defaultsOf params X.env = ([], []) := by rfl) : PE X (.Lambda params body keyScope pos) (tLamK q P params body) := by
  subst hq
  refine ⟨fun pins s σ H Q I h => ?_⟩
  obtain ⟨hT, h⟩ := h
  obtain ⟨ps, hP, ht, ha⟩ := id hT
  have hcl : closureFor keyScope X.env = pure [] := by
    rw [closure_ok (fun y hy e => ?_)]
    · rfl
    · obtain rfl := List.mem_singleton.mp (show y ∈ [(Str.ofString "entry", NameKind.local)] from hy)
      cases e
  refine PySem.W.kla_eval hdef ?_
  have bP : s.heap.BuiltinsAt X.mg P := TB.bm.keeps I.bk
  have hP' : s.heap.get? P = some { cls := .none, data := .fields ps } := I.hok P _ hP
  cases hc : codeAmong pos ps.toList with
  | some cv =>
    obtain ⟨c', e, hco⟩ := ha pos cv hc
    subst e
    refine PySem.W.kla_makeFunctionHit (mg := X.mg) (c := c) (P := P) (ps := ps) hcl I.ok.glob (I.mod.glob.keeps I.bk) hcode (TB.code.keeps I.bk) hP' ht hc bP fun ctv h' tk hx hsz => ?_
    have I1 : Inv X pins σ (upd H h'.objs.size (LamO h'.objs.size c' (X.env.qual ++ "<lambda>") params body)) { s with heap := h'.push (PySem.W.kla_obj "<lambda>" (X.env.qual ++ "<lambda>") params body keyScope [] ((X.mg "__name__").getD .none) c' ctv), toks := tk } :=
      I.laid (fun b o e => Heap.get?_push_of_some _ (hx b o e)) hsz ⟨⟨_, _, Heap.get?_push_size _ rfl⟩, ⟨_, Heap.get?_push_size _ rfl⟩, fun h1 h2 ⟨pm, ct, e⟩ st => ⟨pm, ct, st _ e⟩⟩
    have hf : H h'.objs.size = none := I.hok.fresh hsz
    exact ⟨.ref h'.objs.size, _, I1, rfl, h _ c' _ ((LSame.refl hT).new hf) (keep_new hf _ _ hco) upd_same⟩
  | none =>
    refine PySem.W.kla_makeFunction (mg := X.mg) (c := c) (P := P) (ps := ps) hcl I.ok.glob (I.mod.glob.keeps I.bk) hcode (TB.code.keeps I.bk) hP' ht hc TB.gP bP fun c' ctv h' tk hx hge hlt hrec htb => ?_
    obtain ⟨c2, oc, vs, t, e2, hoc, hd, hv⟩ := hrec
    cases e2
    have nC : H c' = none := I.hok.fresh hge
    have nPc : P ≠ c' := ne_of_none hP nC
    have hsz : s.heap.objs.size ≤ h'.objs.size := Nat.le_trans hge (Nat.le_of_lt hlt)
    have I0 := LamX.inv_table (t' := tk) (more := #[rawInt pos.line, rawInt pos.col, .ref c']) I hP (fun b o hb e => hx b o hb e) htb hge ⟨oc, vs, t, hoc, hd, hv⟩
    have hH0 : ∀ b o, b ≠ P → H b = some o → (upd (upd H P (.tbl (ps ++ #[rawInt pos.line, rawInt pos.col, .ref c']))) c' (LamX.CodeO c' (X.env.qual ++ "<lambda>"))) b = some o := fun b o hb e => by
      rw [upd_ne (ne_of_none e nC), upd_ne hb]; exact e
    have hT0 : LamX.TabS (upd (upd H P (.tbl (ps ++ #[rawInt pos.line, rawInt pos.col, .ref c']))) c' (LamX.CodeO c' (X.env.qual ++ "<lambda>"))) P (X.env.qual ++ "<lambda>") := by
      have eL : (ps ++ #[rawInt pos.line, rawInt pos.col, .ref c']).toList = ps.toList ++ [rawInt pos.line, rawInt pos.col, .ref c'] := by simp
      refine ⟨_, by rw [upd_ne nPc, upd_same], by rw [eL]; exact PySem.TriplesOk_snoc _ _ _ _ ht, fun p' cv hcv => ?_⟩
      rw [eL] at hcv
      rcases LamX.among_app _ ht hcv with z | z
      · obtain ⟨c0, e1, e2⟩ := ha p' cv z
        refine ⟨c0, e1, hH0 c0 _ (fun w => ?_) e2⟩
        rw [w, hP] at e2
        exact LamX.codeO_ne _ (Option.some.inj e2).symm
      · exact ⟨c', z, upd_same⟩
    have s0 : LSame P (X.env.qual ++ "<lambda>") H (upd (upd H P (.tbl (ps ++ #[rawInt pos.line, rawInt pos.col, .ref c']))) c' (LamX.CodeO c' (X.env.qual ++ "<lambda>"))) := ⟨hH0, hT, hT0⟩
    have I1 := I0.laid (a := h'.objs.size) (o := LamO h'.objs.size c' (X.env.qual ++ "<lambda>") params body) (t' := tk) (h' := h'.push (PySem.W.kla_obj "<lambda>" (X.env.qual ++ "<lambda>") params body keyScope [] ((X.mg "__name__").getD .none) c' ctv)) (fun b o e => Heap.get?_push_of_some _ e) (Nat.le_refl _) ⟨⟨_, _, Heap.get?_push_size _ rfl⟩, ⟨_, Heap.get?_push_size _ rfl⟩, fun h1 h2 ⟨pm, ct, e⟩ st => ⟨pm, ct, st _ e⟩⟩
    have hf := I0.hok.fresh (Nat.le_refl h'.objs.size)
    exact ⟨.ref h'.objs.size, _, I1, rfl, h _ c' _ (s0.new hf) (keep_new hf _ _ upd_same) upd_same⟩
end made
/-! ### sorted by the lambda -/
/-- an entry of a dict with pairs as keys: a tuple of the pair's own tuple and the number -/
def EntV (H : Hp) (u : V) (x : Ent) : Prop := ∃ a g, u = .ref a ∧ H a = some (.tup [.ref g, .int x.2]) ∧ H g = some (.tup [.int x.1.1, .int x.1.2])
def rSortK (q : Str) : List V → List V → Hp → VK → Prop := fun vs zs H Q => ∃ (l f c' : Addr) (p0 p1 p2 p3 p4 p5 p6 p7 p8 : Pos) (us : List V) (es : List Ent), vs = [.ref l] ∧ zs = [.ref f] ∧ H f = some (LamO f c' q (keyParams p0) (keyBody p1 p2 p3 p4 p5 p6 p7 p8)) ∧ H c' = some (LamX.CodeO c' q) ∧
  H l = some (.lst us) ∧ Paired (EntV H) us es ∧ ∀ (us' : List V) (es' : List Ent) (D : Addr), Paired (EntV H) us' es' → es'.Perm es → es'.Pairwise keyLe → H D = none → Q (.ref D) (upd H D (.lst us'))
section sorts
variable {X : Cx} {j : Nat}
theorem paired_zip {α β : Type} {F : α → β → Prop} : ∀ {xs : List α} {ys : List β}, Paired F xs ys → ∀ p ∈ xs.zip ys, F p.1 p.2
  | _, _, .nil, _, hp => nomatch hp
  | _, _, .cons h t, p, hp => by
    rcases List.mem_cons.mp hp with e | e
    · rw [e]; exact h
    · exact paired_zip t p e
theorem paired_of {α β : Type} {F : α → β → Prop} : ∀ {l : List (α × β)}, (∀ p ∈ l, F p.1 p.2) → Paired F (l.map (·.1)) (l.map (·.2))
  | [], _ => .nil
  | p :: l, h => .cons (h p (List.mem_cons_self ..)) (paired_of fun r hr => h r (List.mem_cons_of_mem _ hr))
theorem zip_snd {α β : Type} {F : α → β → Prop} : ∀ {xs : List α} {ys : List β}, Paired F xs ys → (xs.zip ys).map (·.2) = ys ∧ (xs.zip ys).map (·.1) = xs
  | _, _, .nil => ⟨rfl, rfl⟩
  | _, _, .cons _ t => ⟨congrArg _ (zip_snd t).1, congrArg _ (zip_snd t).2⟩
theorem each_vals {α : Type} : ∀ {us : List V} {es : List α} {its : List Value}, us.length = es.length → Vals us its → PySem.W.EachIs (fun v (b : V × α) => RelV b.1 v) its (us.zip es)
  | [], _, _, _, .nil => .nil
  | _ :: _, [], _, e, _ => by simp at e
  | u :: us, x :: es, _, e, .cons r t => .cons r (each_vals (by simpa using e) t)
theorem vals_each {α : Type} : ∀ {out : List Value} {B : List (V × α)}, PySem.W.EachIs (fun v (b : V × α) => RelV b.1 v) out B → Vals (B.map (·.1)) out
  | _, _, .nil => .nil
  | _, _, .cons h t => .cons h (vals_each t)
/-- sorted pairs of a value and an entry: both parts apart -/
theorem split_sorted {F : V → Ent → Prop} {vs : List V} {es : List Ent} (hP : Paired F vs es) : Paired F (((vs.zip es).mergeSort (PySem.W.dataLe false fun x : V × Ent => keyD x.2)).map (·.1)) (((vs.zip es).mergeSort (PySem.W.dataLe false fun x : V × Ent => keyD x.2)).map (·.2)) ∧
    (((vs.zip es).mergeSort (PySem.W.dataLe false fun x : V × Ent => keyD x.2)).map (·.2)).Perm es ∧ (((vs.zip es).mergeSort (PySem.W.dataLe false fun x : V × Ent => keyD x.2)).map (·.2)).Pairwise keyLe := by
  have el : (PySem.W.dataLe false fun x : V × Ent => keyD x.2) = fun a b => decide (keyLe a.2 b.2) := by
    funext a b
    show (!PySem.W.dataLt (keyD b.2) (keyD a.2)) = _
    rw [dataLt_key]
    simp
  rw [el]
  have hp : ((vs.zip es).mergeSort fun a b => decide (keyLe a.2 b.2)).Perm (vs.zip es) := List.mergeSort_perm _ _
  refine ⟨paired_of fun p h => paired_zip hP p (hp.mem_iff.mp h), ?_, ?_⟩
  · have := hp.map (·.2)
    rw [(zip_snd hP).1] at this
    exact this
  · have h := List.pairwise_mergeSort (le := fun a b : V × Ent => decide (keyLe a.2 b.2)) (fun a b c h1 h2 => decide_eq_true (keyLe_trans (of_decide_eq_true h1) (of_decide_eq_true h2))) (fun a b => by
      rw [Bool.or_eq_true, decide_eq_true_eq, decide_eq_true_eq]; exact keyLe_total a.2 b.2) (vs.zip es)
    rw [List.pairwise_map]
    exact h.imp fun h => of_decide_eq_true h
theorem cr_sortedKey {q : Str} (hr : Room j X.A) : CallRK X (.builtin "sorted") [Str.ofString "key"] (rSortK q) := by
  intro pins s σ H xs zs us ws Q I r rz h
  obtain ⟨l, f, c', p0, p1, p2, p3, p4, p5, p6, p7, p8, vs, es, rfl, rfl, hf, hc, hl, hP, qq⟩ := h
  obtain rfl := Vals.ref1 r
  obtain rfl := Vals.ref1 rz
  obtain ⟨z, its, n, rv, hlen, e⟩ := I.lstM hl
  have hbl : (vs.zip es).length = its.length := by rw [List.length_zip, ← hP.length, Nat.min_self, hlen]
  have hE := each_vals (es := es) hP.length rv
  have hmem : ∀ p ∈ vs.zip es, EntV H p.1 p.2 := paired_zip hP
  have hdp : ∀ x : V × Ent, (keyD x.2).depth = 2 := fun x => by simp [keyD, PyData.depth, PyData.depthAll]
  have hR : ∀ x : Ent, ∃ y t, keyD x = .tuple (y :: t) := fun x => ⟨_, _, rfl⟩
  refine PySem.W.sorted_key_data (b := false) (fun x : V × Ent => keyD x.2) (vs := its) (bs := vs.zip es) (R := fun v (b : V × Ent) => RelV b.1 v) ⟨_, e, rfl, n, rfl⟩ hE (PySem.W.AllAlike.of fun _ _ => by simp [keyD, PySem.W.alike, PySem.W.alikeAll]) (PySem.W.Sortable.tuples fun x => hR x.2) (by rw [hbl, ← hlen]; exact z) (fun x _ => by rw [hdp]; have := hr.un; omega) (PyProof.Rows.ksk_s1 _ _) (fun _ => PyProof.Rows.ksk_l1 _ _) (fun _ => PyProof.Rows.ksk_t1 _ _) (fun v x hv hx h tk kp => ?_) (fun out cc h' tk kp hfr hD hlo eo => ?_)
  · obtain ⟨u, l0, t0⟩ := x
    obtain ⟨a, g, rfl, ha, hg⟩ := hmem _ hx
    cases hv
    obtain ⟨ia, ra, ta, _⟩ := I.tuple (SqT.of ha)
    obtain ⟨ig, rg, tg, _⟩ := I.tuple (SqT.of hg)
    obtain ⟨u1, u2, rfl, q1, ⟨tk2, rfl⟩⟩ := vals2 ra
    cases q1
    obtain ⟨w1, w2, rfl, ⟨tk3, rfl⟩, ⟨tk4, rfl⟩⟩ := vals2 rg
    have up : ∀ {b : Addr} {xs : Array Value}, IsTup s.heap b xs → IsTup h b xs := fun ⟨o, e, c, n, d⟩ => ⟨o, kp _ _ e, c, n, d⟩
    obtain ⟨⟨pm, ctv, hfo⟩, _⟩ := I.hok f _ hf
    obtain ⟨⟨oc, ov, ot, ho1, ho2, ho3⟩, _⟩ := I.hok c' _ hc
    have hd1 : X.A.in1.in1.depth < recursionLimit := by have := hr.dp; show X.A.depth < _; omega
    exact key_call (s := { s with heap := h, toks := tk }) (kp _ _ hfo) ⟨c', oc, ov, ot, rfl, kp _ _ ho1, ho2, ho3⟩ (I.nolimit.keeps kp) hd1 (up ta) (up tg)
  · obtain ⟨h1, h2, h3⟩ := split_sorted hP
    have hB : ((vs.zip es).mergeSort (PySem.W.dataLe false fun x : V × Ent => keyD x.2)).length = (vs.zip es).length := (List.mergeSort_perm _ _).length_eq
    have hz : (((vs.zip es).mergeSort (PySem.W.dataLe false fun x : V × Ent => keyD x.2)).map (·.1)).length ≤ sizeLine := by rw [List.length_map, hB, hbl, ← hlen]; exact z
    have I1 := I.laid (o := .lst (((vs.zip es).mergeSort (PySem.W.dataLe false fun x : V × Ent => keyD x.2)).map (·.1))) (t' := tk) kp (Nat.le_succ _) (show ObjOk X.prog X.w _ _ _ (.lst _) from ⟨hz, out, cc, vals_each eo, hD⟩)
    exact ⟨.ref _, _, I1, rfl, qq _ _ _ h1 h2 h3 (I.hok.fresh (Nat.le_succ _))⟩
/-- the key itself, with its entry's pair -/
def EntW (H : Hp) (u : V) (x : Ent) : Prop := ∃ a g, u = .ref a ∧ H a = some (.tup [.int (-x.2), .ref g]) ∧ H g = some (.tup [.int x.1.1, .int x.1.2])
def rSortE : List V → Hp → VK → Prop := fun vs H Q => ∃ (l : Addr) (us : List V) (es : List Ent), vs = [.ref l] ∧ H l = some (.lst us) ∧ Paired (EntW H) us es ∧
  ∀ (us' : List V) (es' : List Ent) (D : Addr), Paired (EntW H) us' es' → es'.Perm es → es'.Pairwise keyLe → H D = none → Q (.ref D) (upd H D (.lst us'))
theorem cr_sortedE (hr : Room j X.A) : CallR X (.builtin "sorted") rSortE := by
  intro pins s σ H xs us Q I r h
  obtain ⟨l, vs, es, rfl, hl, hP, qq⟩ := h
  obtain rfl := Vals.ref1 r
  obtain ⟨z, its, n, rv, hlen, e⟩ := I.lstM hl
  have hbl : (vs.zip es).length = its.length := by rw [List.length_zip, ← hP.length, Nat.min_self, hlen]
  have hE := each_vals (es := es) hP.length rv
  have hmem : ∀ p ∈ vs.zip es, EntW H p.1 p.2 := paired_zip hP
  have hdp : ∀ x : V × Ent, (keyD x.2).depth = 2 := fun x => by simp [keyD, PyData.depth, PyData.depthAll]
  have hR : ∀ x : Ent, ∃ y t, keyD x = .tuple (y :: t) := fun x => ⟨_, _, rfl⟩
  have er : PySem.W.EachIs (fun v (b : V × Ent) => ∃ as, PySem.Reads s.heap v (keyD b.2) as) its (vs.zip es) := PySem.W.EachIs.of_zip hbl.symm fun p hp => by
    obtain ⟨v, u, x⟩ := p
    have hv : RelV u v := hE.zip _ hp
    obtain ⟨a, g, rfl, ha, hg⟩ := hmem _ (List.of_mem_zip hp).2
    cases hv
    obtain ⟨ia, ra, ⟨oa, ea, ca, na, da⟩, _⟩ := I.tuple (SqT.of ha)
    obtain ⟨ig, rg, ⟨og, eg, cg, ng, dg⟩, _⟩ := I.tuple (SqT.of hg)
    obtain ⟨u1, u2, rfl, ⟨tk2, rfl⟩, q1⟩ := vals2 ra
    cases q1
    obtain ⟨w1, w2, rfl, ⟨tk3, rfl⟩, ⟨tk4, rfl⟩⟩ := vals2 rg
    exact ⟨_, .tuple ea ca da (.cons (.int _ _) (.cons (.tuple eg cg dg (.cons (.int _ _) (.cons (.int _ _) .nil))) .nil))⟩
  refine PySem.W.sorted_data (vs := its) (bs := vs.zip es) (R := fun v (b : V × Ent) => RelV b.1 v) (enc := fun b : V × Ent => keyD b.2) ⟨_, e, rfl, n, rfl⟩ hE er (PySem.W.AllAlike.of fun _ _ => by simp [keyD, PySem.W.alike, PySem.W.alikeAll]) (PySem.W.Sortable.tuples fun x => hR x.2) (by rw [hbl, ← hlen]; exact z) (fun x _ => by rw [hdp]; have := hr.un; omega) (fun out hlo eo => ?_)
  obtain ⟨h1, h2, h3⟩ := split_sorted hP
  have hB : ((vs.zip es).mergeSort (PySem.W.dataLe false fun x : V × Ent => keyD x.2)).length = (vs.zip es).length := (List.mergeSort_perm _ _).length_eq
  have hz : (((vs.zip es).mergeSort (PySem.W.dataLe false fun x : V × Ent => keyD x.2)).map (·.1)).length ≤ sizeLine := by rw [List.length_map, hB, hbl, ← hlen]; exact z
  obtain ⟨cc, hD⟩ := sortedAll_at s.heap its (List.toArray out)
  have I1 := I.laid (h' := sortedAll s.heap its (List.toArray out)) (o := .lst (((vs.zip es).mergeSort (PySem.W.dataLe false fun x : V × Ent => keyD x.2)).map (·.1))) (t' := s.toks) (fun b o e => sortedAll_old e) (Nat.le_succ _) (show ObjOk X.prog X.w _ _ _ (.lst _) from ⟨hz, out, cc, vals_each eo, hD⟩)
  exact ⟨.ref _, _, I1, rfl, qq _ _ _ h1 h2 h3 (I.hok.fresh (Nat.le_succ _))⟩
end sorts
theorem key_uniq : ∀ {a b : List Ent}, a.Perm b → a.Pairwise keyLe → b.Pairwise keyLe → a = b
  | [], b, h, _, _ => h.nil_eq
  | x :: a, [], h, _, _ => by have := h.length_eq; simp at this
  | x :: a, y :: b, h, h1, h2 => by
    obtain ⟨p1, q1⟩ := List.pairwise_cons.mp h1
    obtain ⟨p2, q2⟩ := List.pairwise_cons.mp h2
    have e : x = y := by
      have hx : x ∈ y :: b := h.mem_iff.mp (List.mem_cons_self ..)
      have hy : y ∈ x :: a := h.mem_iff.mpr (List.mem_cons_self ..)
      rcases List.mem_cons.mp hx with e | hx
      · exact e
      · rcases List.mem_cons.mp hy with e | hy
        · exact e.symm
        · exact keyLe_anti (p1 _ hy) (p2 _ hx)
    subst e
    rw [key_uniq h.cons_inv q1 q2]
/-! ### a def whose code object is known -/
structure FunC (K : PySem.W.Frag) (x qual : Str) (st : Stmt) (f c : Addr) (fd : FuncData) : Prop where
  ex : ∃ (oc : Value) (od : Option Addr) (dV kV doc pm : Value) (an : Option Addr) (ct : Value) (osl : Array (Option Value)),
    fd = PySem.W.fnOf x qual (C8.fnArgs st) (C8.fnBody st) (C8.fnScope st) dV kV doc pm an (.ref c) ct ∧ K.lookup f = some ⟨oc, od, .func fd, osl⟩ ∧ PySem.W.codeIn K (.ref c) qual = true
section fnc
variable {P : Program} {w : World} {K : PySem.W.Frag} {mg : Str → Option Value} {base : Heap}
theorem fnC {x qual : Str} {st : Stmt} {f c : Addr} {fd : FuncData} {N ps : List Str} {k : Nat} {sp : Sp} (F : FunC K x qual st f c fd) (S : FnScope N ps (C8.fnScope st)) (len : ∀ vs H Q E, sp vs H Q E → vs.length = ps.length)
    (hbody : ∀ (A : Around) (outer : List Env) (s : Shared) (H : Hp) (vs : List V) (Q : VK) (E : XK), Room k (A.deeper (envOfC qual (C8.fnScope st) s.heap.objs.size f (.ref c))) → sp vs H Q E →
      ∃ t, PSs (cxOf C8.CX0 P w K mg base N qual (C8.fnScope st) f (.ref c) A outer s H E).nox (C8.fnBody st) t ∧ t { nx := fun _ H' => Q .non H', rt := Q } (start N vs) H) : FnOk P w K mg base C8.CX0 (k + 1) f fd ps sp := by
  obtain ⟨oc, od, dV, kV, doc, pm, an, ct, osl, rfl, lk, hcd⟩ := F.ex
  refine fn_of lk hcd S len fun A outer s H vs Q E hr hsp => ?_
  obtain ⟨t, h, q⟩ := hbody A outer s H vs Q E hr hsp
  exact ⟨t, h.nox, q⟩
end fnc
/-! ### the end with one table -/
theorem walkT {l : PySem.W.OpenLaw} {n k : Nat} {q : Program} {loose : List Str} {XP : (Str → Option Value) → Heap → Prop} {YP : World → Heap → Prop} {d : DefRec} {K : Params → PySem.W.Frag} {x : Str} {c P : Addr} {sp : World → Sp}
    (hn : l.most = some n) (hn2 : n ≤ sizeLine) (hdf : d.params.defaults = []) (hr : Room k callerA) (hY : ∀ (w : World) (h : Heap), YP w h → (K w.params).In h) (hT : ∀ (w : World) (h : Heap), YP w h → h.get? P = some (PySem.W.tabObj #[]))
    (hN : ∀ w : World, PySem.W.codeHdIn (K w.params) c P = true ∧ (K w.params).lookup P = none)
    (hsp : ∀ (w : World) (H : Hp) (a : Addr) (ns : List Int), ns.length ≤ n → H P = some (.tbl #[]) → SqL (K w.params) H a (ns.map V.int) → sp w [.ref a] H (fun v _ => v = .bl true) fun _ _ _ => False)
    (F : ∀ (w : World) (mg : Str → Option Value) (fa : Addr) (h : Heap), (K w.params).In h → h.Ns mainGlobals mg → mg d.name = some (.ref fa) →
      ∃ fd : FuncData, (∀ (s : Shared) (u : Value), BindsTo s fd ⟨[u], []⟩ [(x, u)]) ∧ ∀ base : Heap, (K w.params).In base → base.Ns mainGlobals mg → LamX.TabB base mg c P → FnOk l.prog w (K w.params) mg base C8.CX0 k fa fd [x] (sp w)) :
    PySem.W.WalkO q loose XP YP l.row.toRowW d [] (fun f vs => PySem.call f vs) :=
  LamX.walk_ofTs (CX := fun _ => C8.CX0) hn hn2 hdf hr hY (fun w mg fa h Y KX G hmg => by
    obtain ⟨fd, hb, hF⟩ := F w mg fa h KX G hmg
    refine ⟨fd, [(c, P)], sp w, fun p hp => ?_, fun p hp => ?_, fun p hp => ?_, hb, fun H a ns hl _ hH hS => hsp w H a ns hl (hH (c, P) (List.mem_singleton.mpr rfl)) hS, fun base hK hG hTB => hF base hK hG (hTB (c, P) (List.mem_singleton.mpr rfl))⟩
    · obtain rfl := List.mem_singleton.mp hp; exact hT w h Y
    · obtain rfl := List.mem_singleton.mp hp; exact (hN w).2
    · obtain rfl := List.mem_singleton.mp hp; exact PySem.W.codeHd_of_K KX (hN w).1) fun _ _ _ _ _ z => z
end RJ
end

section
set_option maxRecDepth 100000
set_option maxHeartbeats 4000000
/-! list(d.items()), d a dict whose keys are tuples -/
namespace RJ
open PySem PySem.Spec PyProof.Rows L2
section
variable {prog : Program} {w : World} {A : Around} {E : Value → Shared → Prop} {s : Shared} {v d : Addr} {es : Array DictEntry} {ep : Nat}
theorem list_of_view {Q : Value → Shared → Prop} (hh : A.handled = none) (hv : s.heap.IsItemsView v d) (hm : DT.Raw s.heap d es ep) (hn : es.size ≤ sizeLine)
    (h : ∀ (g : Heap) (tk : Nat) (acc : Array Value) (c : Nat) (ts : List Addr), (∀ b o, s.heap.get? b = some o → g.get? b = some o) → g.get? s.heap.objs.size = some { cls := .type "list", dict := none, data := .seq acc c, slots := #[] } → ts.length = es.size → DT.Made es s.heap.objs.size g ts → acc.toList = ts.map Value.ref → Q (.ref s.heap.objs.size) { s with heap := g, toks := tk }) :
    wpAny (model prog w) A (call (.type "list") [.ref v]) Q E s := by
  refine callType_codes (Q₁ := fun obj t => obj = .ref s.heap.objs.size ∧ t = { s with heap := s.heap.push { cls := .type "list", data := .seq #[] } }) PySem.F.called_list (PySem.F.typeCall_list_1 _) PySem.F.entry_list_init (code_list_new _ ⟨rfl, rfl⟩) fun obj t ht => ?_
  obtain ⟨rfl, rfl⟩ := ht
  have new : (s.heap.push { cls := .type "list", data := .seq #[] }).get? s.heap.objs.size = some { cls := .type "list", data := .seq #[] } := Heap.get?_push_size _ rfl
  have vlt : v < s.heap.objs.size := let ⟨_, e, _⟩ := hv; Heap.lt_size e
  refine ⟨⟨_, new, rfl⟩, PySem.F.args_list_init_2 _ _, ?_⟩
  show wpAny _ _ (do let old ← Builtin.List.listItems (.ref s.heap.objs.size); Builtin.List.listUpdate (.ref s.heap.objs.size) (fun _ => #[]); letGo old.toList.reverse; Builtin.List.listExtendWith (.ref s.heap.objs.size) (.ref v) .none) _ _ _
  refine wpAny_bind ?_
  unfold Builtin.List.listItems
  refine wpAny_bind (wpAny_seqItems new rfl (wpAny_pure ?_))
  show wpAny _ _ (updateSeq s.heap.objs.size (fun _ => #[]) >>= fun _ => letGo (#[] : Array Value).toList.reverse >>= fun _ => Builtin.List.listExtendWith (.ref s.heap.objs.size) (.ref v) .none) _ _ _
  refine wpAny_bind (wpAny_updateSeq new rfl ?_)
  have new2 := Heap.get?_update_self (Obj.mapSeq (fun _ => (#[] : Array Value))) new rfl
  have off : ∀ b o, s.heap.get? b = some o → ((s.heap.push { cls := .type "list", data := .seq #[] }).update s.heap.objs.size (Obj.mapSeq (fun _ => (#[] : Array Value)))).get? b = some o := fun b o e =>
    (Heap.get?_update_other _ _ (Nat.ne_of_gt (Heap.lt_size e))).trans (Heap.get?_push_of_some _ e)
  have szE : ((s.heap.push { cls := .type "list", data := .seq #[] }).update s.heap.objs.size (Obj.mapSeq (fun _ => (#[] : Array Value)))).objs.size = s.heap.objs.size + 1 := by rw [Heap.size_update, Heap.size_push]
  refine wpAny_bind (wpAny_letGo ?_)
  refine DT.extI (A := A.in1) (s := { s with heap := (s.heap.push { cls := .type "list", data := .seq #[] }).update s.heap.objs.size (Obj.mapSeq (fun _ => (#[] : Array Value))) }) (es := es) (ep := ep) hh (let ⟨o, e, r⟩ := hv; ⟨o, off _ _ e, r⟩) (hm.at' fun o e => off _ _ e) s.heap.objs.size (Nat.ne_of_gt vlt) (Nat.ne_of_lt hm.lt) .none _ new2 (fun g tk acc c ts hk hS hl hM ha => ?_) hn
  exact ⟨rfl, h g tk acc c ts (fun b o e => hk b o (Nat.ne_of_lt (Heap.lt_size e)) (off b o e)) hS hl (hM.low (by show s.heap.objs.size ≤ _; rw [szE]; exact Nat.le_succ _)) ha⟩
end
/-- an entry, its key's own tuple and its value -/
def EntOf (H : Hp) (u : V) (e : List Key × V) : Prop := ∃ a g, u = .ref a ∧ H a = some (.tup [.ref g, e.2]) ∧ H g = some (.tup (e.1.map kV))
def rListIt : List V → Hp → VK → Prop := fun vs H Q => ∃ (p d : Addr) (kvs : List (List Key × V)), vs = [.ref p] ∧ H p = some (DX.itemsO p d) ∧ H d = some (.dT kvs) ∧
  ∀ (H' : Hp) (D : Addr) (us : List V), (∀ b o, H b = some o → H' b = some o) → H D = none → H' D = some (.lst us) → Paired (EntOf H') us kvs → Q (.ref D) H'
theorem call_listItT {X : Cx} (hc : X.calm = true) : CallR X (.type "list") rListIt := by
  intro pins s σ H xs us Q I r h
  obtain ⟨p, d, kvs, rfl, hp, hd, q⟩ := h
  obtain rfl := Vals.ref1 r
  have view : s.heap.IsItemsView p d := (show ObjOk X.prog X.w H s.heap p (DX.itemsO p d) from I.hok p _ hp).1
  obtain ⟨z, hsys, xs', rel, o, es, ep, ho, hx, hdat, hes, his, hn⟩ := dt_of I.hok hd
  have l1 : kvs.length = xs'.length := Paired.length rel
  have l2 : es.size = xs'.length := size_of_entries hes
  refine list_of_view (es := es) (ep := ep) (I.ok.hd hc) view ⟨o, ho, hx, hdat⟩ (by omega) fun g tk acc c ts hk hS hl hM ha => ?_
  have nd : ts.Nodup := hM.rise.imp fun h => Nat.ne_of_lt h
  have hD : H s.heap.objs.size = none := I.hok.fresh (Nat.le_refl _)
  have hlen : (ts.map V.ref).length ≤ sizeLine := by rw [List.length_map]; omega
  have I1 : Inv X pins σ (upd H s.heap.objs.size (.lst (ts.map V.ref))) { s with heap := g, toks := tk } := I.laid (t' := tk) hk (Nat.le_refl _) (show ObjOk X.prog X.w _ _ _ (.lst _) from ⟨hlen, acc.toList, c, by rw [ha]; exact LiI.vals_refs ts, by rw [Array.toArray_toList]; exact hS⟩)
  have ent : ∀ (j : Nat) (b : Addr), ts[j]? = some b → ∃ (e : List Key × V) (x : List Key × Addr × Value), kvs[j]? = some e ∧ H x.2.1 = some (.tup (e.1.map kV)) ∧ RelV e.2 x.2.2 ∧ g.get? b = some { cls := .type "tuple", data := .seq #[Value.ref x.2.1, x.2.2] } := by
    intro j b hj
    obtain ⟨en, he, hg⟩ := hM.pairs j b hj
    rw [entry_at hes j] at he
    cases hxj : xs'[j]? with
    | none => rw [hxj] at he; exact nomatch (show (none : Option DictEntry) = some en from he)
    | some x =>
      rw [hxj] at he
      have een : entryOfKey (tupleKind (mixKind X.prog X.w)) x = en := Option.some.inj he
      obtain ⟨e, hek, r1, r2, r3⟩ := DX.pget rel hxj
      exact ⟨e, x, hek, r2, r3, by rw [hg, ← een]; rfl⟩
  have hDt : s.heap.objs.size ∉ ts := fun z => Nat.lt_irrefl _ (hM.above _ z)
  obtain ⟨H2, I2, k2, t2⟩ := DX.takeT (P := fun a vs => ∃ (j : Nat) (e : List Key × V) (b : Addr), ts[j]? = some a ∧ kvs[j]? = some e ∧ vs = [V.ref b, e.2] ∧ H b = some (.tup (e.1.map kV))) I ts _ I1 nd fun b hb => by
    obtain ⟨j, hj⟩ := List.mem_iff_getElem?.mp hb
    obtain ⟨e, x, he, hx1, hx2, hg⟩ := ent j b hj
    have hbs : s.heap.objs.size < b := hM.above b hb
    refine ⟨Nat.le_of_lt hbs, ?_, [.ref x.2.1, e.2], ⟨j, e, x.2.1, hj, he, rfl, hx1⟩, fun H2 => ⟨by show 2 ≤ sizeLine; decide, [.ref x.2.1, x.2.2], .cons rfl (.cons hx2 .nil), ⟨_, hg, rfl, _, rfl⟩⟩⟩
    rw [upd_ne (fun z => hDt (by rw [← z]; exact hb))]
    exact I.hok.fresh (Nat.le_of_lt hbs)
  have kH : ∀ b o, H b = some o → H2 b = some o := fun b o e => k2 b o (keep_new hD b o e)
  refine ⟨.ref s.heap.objs.size, H2, I2, rfl, q H2 _ (ts.map V.ref) kH hD (k2 _ _ upd_same) ?_⟩
  have lts : ts.length = kvs.length := by omega
  have gen : ∀ (as : List Addr) (ls : List (List Key × V)) (n : Nat), as.length = ls.length → (∀ (j : Nat) (b : Addr), as[j]? = some b → ts[n + j]? = some b) → (∀ (j : Nat) (e : List Key × V), ls[j]? = some e → kvs[n + j]? = some e) → Paired (EntOf H2) (as.map V.ref) ls := by
    intro as
    induction as with
    | nil => intro ls n h _ _; cases ls with
      | nil => exact .nil
      | cons _ _ => simp at h
    | cons a as ih => intro ls n h h1 h2; cases ls with
      | nil => simp at h
      | cons e ls =>
        have ha1 := h1 0 a rfl
        obtain ⟨vs, ⟨j, e', b, hj, he', rfl, hb⟩, hv⟩ := t2 a (List.mem_of_getElem? ha1)
        have hjn : j = n := (List.getElem?_inj (List.getElem?_eq_some_iff.mp hj).1 nd).mp (hj.trans (show ts[n]? = some a from ha1).symm)
        subst hjn
        have he2 := h2 0 e rfl
        rw [Nat.add_zero, he'] at he2
        obtain rfl := Option.some.inj he2
        refine .cons ⟨a, b, rfl, hv, kH _ _ hb⟩ (ih ls (j + 1) (by simpa using h) (fun i b hi => ?_) fun i e hi => ?_)
        · have := h1 (i + 1) b hi; rw [show j + 1 + i = j + (i + 1) by omega]; exact this
        · have := h2 (i + 1) e hi; rw [show j + 1 + i = j + (i + 1) by omega]; exact this
  exact gen ts kvs 0 lts (fun j b h => by rw [Nat.zero_add]; exact h) (fun j e h => by rw [Nat.zero_add]; exact h)
end RJ
end

section
set_option maxRecDepth 100000
set_option maxHeartbeats 4000000
/-! list(d), d a dict whose keys are tuples -/
namespace RJ
open PySem PySem.Spec PyProof.Rows L2
section
variable {prog : Program} {w : World} {d : Addr} {es : Array DictEntry} {ep : Nat}
theorem kdl_dictRaw (lo : (d == sysModules) = false) : PySem.W.KdlSrc prog w "dict" d d es.size (fun i v => ∃ hi : i < es.size, v = es[i].key) (fun h => h.DictRaw d es ep) where
  type := fun _ hm => hm.typeIs
  there := fun _ hm => ⟨let ⟨_, ho, _⟩ := hm; Heap.lt_size ho, let ⟨_, ho, _⟩ := hm; Heap.lt_size ho⟩
  keep := fun _ _ hm hk => hm.at fun o e => hk d (.inl rfl) o e
  notList := by decide
  notTuple := by decide
  hint := fun _ _ _ _ hm hq => PySem.W.kdl_hint_dict hm.typeIs hq
  iter := fun _ s hh hm => ⟨_, _, (fun _ _ hq => wpAny_pyIter_dict_raw lo hm hq), Walks.rawKeys hh _ d (let ⟨_, ho, _⟩ := hm; Nat.ne_of_lt (Heap.lt_size ho)) es ep, ⟨⟨_, Heap.get?_push_size _ rfl, rfl, rfl⟩, hm.at fun o e => Heap.get?_push_of_some _ e⟩⟩
end
/-- a key's own tuple -/
def KeyOf (H : Hp) (u : V) (e : List Key × V) : Prop := ∃ g, u = .ref g ∧ H g = some (.tup (e.1.map kV))
theorem KeyOf.same {H H' : Hp} {u : V} {e : List Key × V} (s : ∀ b xs, H b = some (.tup xs) → H' b = some (.tup xs)) (h : KeyOf H u e) : KeyOf H' u e := by
  obtain ⟨g, h1, h2⟩ := h
  exact ⟨g, h1, s _ _ h2⟩
def rListDT : List V → Hp → VK → Prop := fun vs H Q => ∃ (d : Addr) (kvs : List (List Key × V)), vs = [.ref d] ∧ H d = some (.dT kvs) ∧
  ∀ (D : Addr) (us : List V), H D = none → Paired (KeyOf H) us kvs → Q (.ref D) (upd H D (.lst us))
theorem call_listDT {X : Cx} (hc : X.calm = true) : CallR X (.type "list") rListDT := by
  intro pins s σ H xs us Q I r h
  obtain ⟨d, kvs, rfl, hd, q⟩ := h
  obtain rfl := Vals.ref1 r
  obtain ⟨z, hsys, xs', rel, o, es, ep, ho, hx, hdat, hes, his, hn⟩ := dt_of I.hok hd
  have l1 : kvs.length = xs'.length := Paired.length rel
  have l2 : es.size = xs'.length := size_of_entries hes
  refine PySem.W.kdl_call (kdl_dictRaw (es := es) (ep := ep) hsys) (I.ok.hd hc) ⟨o, ho, hx, hdat⟩ (by omega) fun h' tk acc c' hk hD hacc => ?_
  have ent : ∀ (j : Nat) (b : Value), acc.toList[j]? = some b → ∃ (e : List Key × V) (x : List Key × Addr × Value), kvs[j]? = some e ∧ H x.2.1 = some (.tup (e.1.map kV)) ∧ b = .ref x.2.1 := by
    intro j b hj
    obtain ⟨hi, e⟩ := hacc.2 j b (by rw [← Array.getElem?_toList]; exact hj)
    have he : es[j]? = some es[j] := Array.getElem?_eq_getElem hi
    rw [entry_at hes j] at he
    cases hxj : xs'[j]? with
    | none => rw [hxj] at he; exact nomatch (show (none : Option DictEntry) = some es[j] from he)
    | some x =>
      rw [hxj] at he
      have een : entryOfKey (tupleKind (mixKind X.prog X.w)) x = es[j] := Option.some.inj he
      obtain ⟨e', hek, r1, r2, r3⟩ := DX.pget rel hxj
      exact ⟨e', x, hek, r2, by rw [e, ← een]; rfl⟩
  have hal : acc.toList.length = kvs.length := by rw [Array.length_toList, hacc.1]; omega
  have gen : ∀ (as : List Value) (ls : List (List Key × V)) (n : Nat), as.length = ls.length → (∀ (j : Nat) (b : Value), as[j]? = some b → acc.toList[n + j]? = some b) → (∀ (j : Nat) (e : List Key × V), ls[j]? = some e → kvs[n + j]? = some e) →
      ∃ us, Vals us as ∧ Paired (KeyOf H) us ls := by
    intro as
    induction as with
    | nil => intro ls n h _ _; cases ls with
      | nil => exact ⟨[], .nil, .nil⟩
      | cons _ _ => simp at h
    | cons a as ih => intro ls n h h1 h2; cases ls with
      | nil => simp at h
      | cons e ls =>
        obtain ⟨e', x, he, hx, rfl⟩ := ent _ _ (h1 0 a rfl)
        have he2 := h2 0 e rfl
        rw [he] at he2
        obtain rfl := Option.some.inj he2
        obtain ⟨us, r, p⟩ := ih ls (n + 1) (by simpa using h) (fun i b hi => by
          have := h1 (i + 1) b hi; rw [show n + 1 + i = n + (i + 1) by omega]; exact this) fun i e hi => by
          have := h2 (i + 1) e hi; rw [show n + 1 + i = n + (i + 1) by omega]; exact this
        exact ⟨.ref x.2.1 :: us, .cons rfl r, .cons ⟨x.2.1, rfl, hx⟩ p⟩
  obtain ⟨us, hv, hp⟩ := gen acc.toList kvs 0 hal (fun j b h => by rw [Nat.zero_add]; exact h) fun j e h => by rw [Nat.zero_add]; exact h
  have hlen : us.length ≤ sizeLine := by rw [Paired.length hp]; exact z
  exact ⟨.ref s.heap.objs.size, upd H s.heap.objs.size (.lst us), I.laid (t' := tk) hk (Nat.le_refl _)
    (show ObjOk X.prog X.w _ _ _ (.lst us) from ⟨hlen, acc.toList, c', hv, by rw [Array.toArray_toList]; exact hD⟩), rfl, q _ us (I.hok.fresh (Nat.le_refl _)) hp⟩
end RJ
end

section
set_option maxRecDepth 100000
set_option maxHeartbeats 2000000
namespace RJ
open PySem PySem.Spec PyProof.Rows L2
/-! ### == of two objects of an own class by its own __eq__, either answer -/
def rOwn (C : Addr) (sp : Sp) : R2 := fun x y H Q => ∃ (a b dx dy : Addr) (fs gs : List (Str × V)), x = .ref a ∧ y = .ref b ∧ H a = some (.ins C dx fs) ∧ H b = some (.ins C dy gs) ∧ sp [.ref a, .ref b] H (fun v H' => ∃ k, v = .bl k ∧ Q (.bl k) H') C8.E0
theorem op_own {X : Cx} {C : Addr} {sp : Sp} {k j : Nat} (c : C8.Met X.prog X.w X.K X.mg X.base k C "__eq__" sp []) (hr : Room j X.A) (hk : k ≤ j) : OpR X (compareOp .Eq) (rOwn C sp) := by
  obtain ⟨f, fd, ps, ds, hc, hm, F, hbd, d⟩ := c.ex
  cases d
  intro pins s σ H x y v u Q I rx ry hq
  obtain ⟨a, b, dx, dy, fs, gs, rfl, rfl, ha, hb', hsp⟩ := hq
  cases rx
  cases ry
  show wpAny (model X.prog X.w) X.A (richCompare .Eq (.ref a) (.ref b)) (EP X pins σ Q) X.xe s
  have sb : Sub X k X.A := ⟨hr.mono hk, rfl⟩
  obtain ⟨mA, J, _⟩ := ins_get I.hok ha
  obtain ⟨mB, J', _⟩ := ins_get I.hok hb'
  obtain ⟨od, J, _⟩ := J.look
  obtain ⟨od', J', _⟩ := J'.look
  obtain ⟨m, hF⟩ := I.fr
  refine PySem.W.cmp_K (op := .Eq) (tb := .ref C) sb.room.units0 hF I.ok.mod.kin J J'.type (by simp [PySem.W.notFirst]) hm.at_ hm.fn ?_
  have e0 : Env0 X.prog X.w X.K X.mg X.base X.A X.stack s H := by
    have e := I.env0
    exact ⟨e.frames, e.mod, e.bs, e.bsz, e.funs, e.frf, e.hok, e.bare⟩
  have hl := F.len _ _ _ _ hsp
  have r2 : Vals [V.ref a, V.ref b] [Value.ref a, Value.ref b] := .cons rfl (.cons rfl .nil)
  refine wpAny_call (codeAny_mono (F.run X.A X.stack s H ⟨[.ref a, .ref b], []⟩ [.ref a, .ref b] [.ref a, .ref b] _ C8.E0 sb.room e0 (by
    have := hbd s [.ref a, .ref b] I.kIn (by simpa using hl)
    simpa using this) r2 hsp) fun r s' hq => ?_)
  cases r with
  | error e => exact C8.pass0 (X := X) (E := C8.E0) pins σ H s e s' I hq
  | ok fl =>
    cases fl with
    | ret w =>
      obtain ⟨z, H', I', rz, kk, ez, q⟩ := I.after hq
      subst ez
      cases rz
      exact ⟨.bl kk, H', I', rfl, q⟩
    | next => exact False.elim hq
    | brk => exact False.elim hq
    | cont => exact False.elim hq
end RJ
end

section
set_option maxRecDepth 100000
set_option maxHeartbeats 2000000
namespace RJ
open PySem PySem.Spec PyProof.Rows L2
/-! ### sorted(text), fewer than 64 signs -/
theorem strsAre_of : ∀ {vs : List Value} {xs : List Str}, AreOf .str vs xs → StrsAre vs xs
  | _, _, .nil => .nil
  | _, _, .cons ⟨u, h⟩ r => by rw [h]; exact .cons _ u (strsAre_of r)
def rSortStr : List V → Hp → VK → Prop := fun vs H Q => ∃ (x : Str), vs = [V.str x] ∧ x.length < 64 ∧
  ∀ (ys : List Str) (p : Addr), ys.Perm (PyProof.Rows.signs x) → sortedS ys = true → H p = none → Q (.ref p) (upd H p (.lst (ys.map V.str)))
theorem cr_sortedStr {X : Cx} (hc : X.calm = true) : CallR X (.builtin "sorted") rSortStr := by
  intro pins s σ H vs us Q I r h
  obtain ⟨x, rfl, h64, q⟩ := h
  cases r with
  | cons rx rr =>
  cases rr
  obtain ⟨t, rfl⟩ := rx
  have hx64 : x.cps.size < 64 := h64
  refine Calls.call_function_entry kind_sorted plain_sorted entry_sorted (args_sorted1 _) ?_
  unfold Builtin.«sorted»
  refine wpAny_bind (m := checkCount "sorted" 1 1 _) (wpAny_pure ?_)
  refine wpAny_bind (wpAny_collect_str (A := X.A.in1) (I.ok.hd hc) x t (fun s1 acc k1 g1 d1 o1 hacc => ?_) (by rw [sizeLine_eq]; omega))
  have hvl : acc.toList.length = x.cps.size := by rw [Array.length_toList]; exact hacc.1
  have hS : StrsAre acc.toList (signs x) := strsAre_of (areOf_signs hvl fun j v hv => hacc.2 j v (by rw [← Array.getElem?_toList]; exact hv))
  refine wpAny_bind (wpAny_newList ?_ (by rw [hvl, sizeLine_eq]; omega))
  have hoL : (s1.heap.push (seqObj "list" acc.toList.toArray 0)).get? s1.heap.objs.size = some (seqObj "list" acc.toList.toArray 0) := Heap.get?_push_size _ rfl
  refine wpAny_bind (wpAny_holding (wpAny_call_entry slot_list_sort ⟨_, hoL, rfl⟩ entry_list_sort (list_sort_treeK strKind_oneLt hoL hS.keysOf (fun v₁ v₂ rest e => keyKind_strs (by rw [← e]; exact hS)) (by rw [hvl]; exact hx64) fun st' a1 a2 => ⟨_, rfl, ?_⟩) (args_list_sort _)))
  obtain ⟨ys, h1, h2, h3⟩ := sorted_out_str hS a1 a2
  obtain ⟨c, hcL⟩ := sortedHeap_at (vs := acc.toList) (out := (arrOf st').map (·.2)) hoL
  have hn : H s1.heap.objs.size = none := (I.hok.kept k1).fresh (Nat.le_refl _)
  have hp : s.heap.get? s1.heap.objs.size = none := by
    cases e : s.heap.get? s1.heap.objs.size with
    | none => rfl
    | some u => exact absurd (Heap.lt_size (k1 _ _ e)) (Nat.lt_irrefl _)
  have hlen : (ys.map V.str).length ≤ sizeLine := by rw [List.length_map, h2.length_eq, signs_length, sizeLine_eq]; omega
  have k : ∀ b u, s.heap.get? b = some u → (sortedHeap (s1.heap.push (seqObj "list" acc.toList.toArray 0)) s1.heap.objs.size acc.toList ((arrOf st').map (·.2))).get? b = some u := fun b u e => by
    have q := k1 b u e
    have hlt := Heap.lt_size q
    rw [sortedHeap_old (Nat.ne_of_lt hlt) (by rw [size_push']; exact Nat.lt_succ_of_lt hlt)]
    exact Heap.get?_push_of_some _ q
  have J : Inv X pins σ (upd H s1.heap.objs.size (.lst (ys.map V.str))) { s with heap := sortedHeap (s1.heap.push (seqObj "list" acc.toList.toArray 0)) s1.heap.objs.size acc.toList ((arrOf st').map (·.2)), gens := s1.gens, drawn := s1.drawn, toks := s1.toks } :=
    I.call (ch := []) (Un.laidN k hp hn) (I.hok.laidN k hn ⟨hlen, ((arrOf st').map (·.2)).toList, c, vals_of_strs h1, hcL⟩) (by rw [g1]; exact I.bare) (fun _ z => nomatch z)
  refine wpAny_pure ⟨_, rfl, ?_⟩
  have e : ({ s1 with heap := sortedHeap (s1.heap.push (seqObj "list" acc.toList.toArray 0)) s1.heap.objs.size acc.toList ((arrOf st').map (·.2)) } : Shared) = { s with heap := sortedHeap (s1.heap.push (seqObj "list" acc.toList.toArray 0)) s1.heap.objs.size acc.toList ((arrOf st').map (·.2)), gens := s1.gens, drawn := s1.drawn, toks := s1.toks } := by
    cases s1
    cases s
    cases o1
    rfl
  show EP X pins σ Q (.ref s1.heap.objs.size) _
  rw [e]
  exact ⟨.ref _, _, J, rfl, q ys _ h2 h3 hn⟩
end RJ
end

section
set_option maxRecDepth 100000
set_option maxHeartbeats 4000000
namespace RJ
open PySem PySem.Spec PyProof.Rows L2
/-! ### a walk over an own object whose __iter__ gives a tuple's iterator -/
/-- a def whose promise may speak of how many places the heap had -/
structure FnS (P : Program) (w : World) (K : PySem.W.Frag) (mg : Str → Option Value) (base : Heap) (k : Nat) (f : Addr) (fd : FuncData) (ps : List Str) (sp : Nat → Sp) : Prop where
  ln : ∀ n vs H Q E, sp n vs H Q E → vs.length = ps.length
  go : ∀ (A : Around) (outer : List Env) (s : Shared) (H : Hp) (args : Args) (us : List Value) (vs : List V) (Q : VK) (E : XK), Room k A → Env0 P w K mg base A outer s H → BindsTo s fd args (ps.zip us) → Vals vs us → sp s.heap.objs.size vs H Q E →
    codeAny (model P w) A (.call (.ref f) args) (CR C8.CX0 outer P w H s Q E) s
structure MetS (P : Program) (w : World) (K : PySem.W.Frag) (mg : Str → Option Value) (base : Heap) (k : Nat) (C : Addr) (m : Str) (sp : Nat → Sp) : Prop where
  ex : ∃ (f : Addr) (fd : FuncData) (ps : List Str), Cls K C ∧ Meth K C m f ∧ FnS P w K mg base k f fd ps sp ∧ Binds K fd ps []
section
variable {P : Program} {w : World} {K : PySem.W.Frag} {mg : Str → Option Value} {base : Heap}
theorem fnS0 {x qual : Str} {st : Stmt} {f : Addr} {fd : FuncData} {N ps : List Str} {k : Nat} {sp : Nat → Sp} (F : C8.Fun K x qual st f fd) (S : FnScope N ps (C8.fnScope st)) (len : ∀ n vs H Q E, sp n vs H Q E → vs.length = ps.length)
    (hb : ∀ (cdv : Value) (A : Around) (outer : List Env) (s : Shared) (H : Hp) (vs : List V) (Q : VK) (E : XK), Room k (A.deeper (envOfC qual (C8.fnScope st) s.heap.objs.size f cdv)) → sp s.heap.objs.size vs H Q E →
      ∃ t, PSs (cxOf C8.CX0 P w K mg base N qual (C8.fnScope st) f cdv A outer s H E).nox (C8.fnBody st) t ∧ t { nx := fun _ H' => Q .non H', rt := Q } (start N vs) H) : FnS P w K mg base (k + 1) f fd ps sp := by
  obtain ⟨oc, od, dV, kV, doc, pm, an, cdv, ct, osl, rfl, lk, hcd⟩ := F.ex
  refine ⟨len, fun A outer s H args us vs Q E hr e0 hbn r hsp => LamX.run_ofS lk hcd S hr e0 hbn r (len _ _ _ _ _ hsp) fun hr' => ?_⟩
  obtain ⟨t, h, q⟩ := hb cdv A outer s H vs Q E hr' hsp
  exact ⟨t, h.nox, q⟩
end
/-- a tuple's iterator at its begin -/
def TupS (it t : Addr) : HO := .ext fun h => h.IsTupleIter it t 0
theorem tupS_ok {P : Program} {w : World} {H : Hp} {h : Heap} {it t : Addr} (e : h.IsTupleIter it t 0) : ObjOk P w H h it (TupS it t) := by
  refine ⟨e, ?_, fun h1 h2 q k => ?_⟩
  · obtain ⟨o, ho, _⟩ := e
    exact ⟨o, ho⟩
  · obtain ⟨o, ho, r⟩ := q
    exact ⟨o, k _ ho, r⟩
def rIterN (n0 : Nat) : List V → Hp → VK → Prop := fun xs H Q => ∃ (l : Addr) (zs : List V), xs = [.ref l] ∧ H l = some (.tup zs) ∧ ∀ it, H it = none → n0 ≤ it → Q (.ref it) (upd H it (TupS it l))
theorem call_iterN {X : Cx} {n0 : Nat} (hn0 : n0 ≤ X.s_0.heap.objs.size) : CallR X (.builtin "iter") (rIterN n0) := by
  intro pins s σ H xs us Q I r h
  obtain ⟨l, zs, rfl, hq, q⟩ := h
  obtain rfl := Vals.ref1 r
  obtain ⟨its, rv, pl, hz⟩ := I.tuple (SqT.of hq)
  refine rj_call_iterT pl ?_
  exact ⟨.ref s.heap.objs.size, _, I.laid (t' := s.toks) (fun b u e => Heap.get?_push_of_some _ e) (Nat.le_refl _) (tupS_ok ⟨_, Heap.get?_push_size _ rfl, rfl, rfl⟩), rfl, q _ (I.hok.fresh (Nat.le_refl _)) (Nat.le_trans hn0 I.sz)⟩
def iIterS (K : PySem.W.Frag) (C : Addr) (sp : Nat → Sp) (ta : TE) : TI := fun σ H R => ta σ H fun x H1 => ∃ (a dx : Addr) (fs : List (Str × V)), x = .ref a ∧ H1 a = some (.ins C dx fs) ∧ ∀ n0, sp n0 [.ref a] H1 (fun v H2 => ∃ (it pa : Addr), v = .ref it ∧ H1 it = none ∧ n0 ≤ it ∧ H2 = upd H1 it (TupS it pa) ∧ R (Itt K pa) H1) C8.E0
theorem pi_iterS {X : Cx} {tg e : Expr} {ta : TE} {k j : Nat} {C : Addr} {sp : Nat → Sp} (c : MetS X.prog X.w X.K X.mg X.base k C "__iter__" sp) (hr : Room j X.A) (hk : k + 2 ≤ j) (he : PE X e ta) : PI X tg e (iIterS X.K C sp ta) := by
  obtain ⟨f, fd, ps, hc, hmt, F, b⟩ := c.ex
  refine ⟨fun pins s σ H R I h => ?_⟩
  refine thn (he.run pins s σ H _ I h) fun v s1 ⟨x, H1, I1, r1, q1⟩ => ?_
  obtain ⟨a, dx, fs, ex, ea, q⟩ := q1
  subst ex
  cases r1
  obtain ⟨mA, J, _⟩ := ins_get I1.hok ea
  obtain ⟨od, J, _⟩ := J.look
  obtain ⟨m, hF⟩ := I1.fr
  refine PySem.W.owit_iter hF I1.ok.mod.kin J hmt.at_ hmt.fn ?_
  have rm : Room k X.A := hr.mono (by omega)
  have e0 : Env0 X.prog X.w X.K X.mg X.base X.A X.stack s1 H1 := by
    have e := I1.env0
    exact ⟨e.frames, e.mod, e.bs, e.bsz, e.funs, e.frf, e.hok, e.bare⟩
  have hq := q s1.heap.objs.size
  have hl := F.ln _ _ _ _ _ hq
  have r2 : Vals [V.ref a] [Value.ref a] := .cons rfl .nil
  refine wpAny_call (codeAny_mono (F.go X.A X.stack s1 H1 ⟨[.ref a], []⟩ [.ref a] [.ref a] _ C8.E0 rm e0 (by
    have := b s1 [.ref a] I1.kIn (by simpa using hl)
    simpa using this) r2 hq) fun r s' hq' => ?_)
  cases r with
  | error e => exact hq'.elim
  | ok fl =>
    cases fl with
    | next => exact False.elim hq'
    | brk => exact False.elim hq'
    | cont => exact False.elim hq'
    | ret u =>
      obtain ⟨v, H', os, bare, un, hok, rv, it, pa, ev, hn1, hle, eH, hR⟩ := hq'
      subst ev
      subst eH
      cases rv
      obtain ⟨hh, g, d, t, os'⟩ := s'
      obtain rfl : os' = s1.os := os
      have hok2 : HOk X.prog X.w H1 hh := fun b u e => (hok b u (by rw [upd_ne (ne_of_none e hn1)]; exact e)).stay (fun c v _ q => q) (fun c q => by
        by_cases z : c = it
        · rw [z, upd_same] at q; cases q
        · rw [upd_ne z] at q; exact q) fun c ys q => by
        by_cases z : c = it
        · rw [z, upd_same] at q; cases q
        · rw [upd_ne z] at q; exact q
      have I3 : Inv X pins σ H1 { heap := hh, gens := g, drawn := d, toks := t, os := s1.os } := I1.call (h' := hh) (g' := g) (d' := d) (t' := t) (ch := [])
        ⟨fun b o e n f x => un.keep b o e n f x, fun b o e n f x => un.slot b o e n f x, fun b o e n x => n, fun b o e x => un.there b o e x, fun b xs e => e, fun b o u e => e, fun b ps e => ⟨#[], by rw [e]; simp⟩⟩ hok2 bare (fun b z => absurd z (by simp))
      have hit : hh.IsTupleIter it pa 0 := (hok it _ upd_same).1
      have hT : ({ heap := hh, gens := g, drawn := d, toks := t, os := s1.os } : Shared).TypeIs (.ref it) "tuple_iterator" := by
        obtain ⟨o, ho, hc, _⟩ := hit
        exact ⟨o, ho, hc⟩
      unfold PySem.W.OwitIt
      refine wpAny_specialOf (name := Str.ofString "__next__") hT PySem.F.slot_tuple_iterator_next.lookup ?_
      refine ⟨it, [it], _, _, H1, rfl, I3, turn_tuple pa it, hit, fun c hc => ?_, hR⟩
      rw [List.mem_singleton.mp hc]
      exact I1.fpOk hle hn1
end RJ
end

section
set_option maxRecDepth 100000
set_option maxHeartbeats 4000000
namespace RJ
open PySem PySem.Spec PyProof.Rows L2
/-! ### list(o), o an own object whose __iter__ gives a tuple's iterator and that has a __len__ -/
/-- the walk fills the list -/
theorem lo_loop {X : Cx} {A1 : Around} {pins : List (Addr × Obj)} {σ : L2.St} {H0 : Hp} {q it pa : Addr} {zs : List V} {Rs : Result → Shared → Prop} (hh : A1.in1.handled = none) (hpa : H0 pa = some (.tup zs)) (hqp : pa ≠ q)
    (hfp : ∀ acc, FpOk X pins (upd H0 q (.lst acc)) it) (hdone : ∀ s, Inv X pins σ (upd H0 q (.lst zs)) s → Rs (.ok (.ret .none)) s) :
    ∀ (m i : Nat) (s : Shared), i + m = zs.length → Inv X pins σ (upd H0 q (.lst (zs.take i))) s → s.heap.IsTupleIter it pa i → codeAny (model X.prog X.w) A1 (.builtin "list.extend.loop" ⟨[.ref q, .ref it, .none], []⟩) Rs s := by
  intro m
  induction m with
  | zero =>
    intro i s e I hit
    refine codeAny_builtin PySem.F.entry_extend_loop ?_
    rw [Around.under_plainId PySem.F.plain_extend_loop _]
    show wpAny _ A1.in1 (pyNext (.ref it) >>= _) _ _ s
    obtain ⟨its, rv, p, hz⟩ := I.tuple (SqT.of ((upd_ne hqp).trans hpa))
    have hl := rv.length
    obtain ⟨f0, f1, f2, f3, f4, f5⟩ := hfp (zs.take i)
    refine wpAny_bind (wpAny_pyNext_tuple_end hh hit (show s.heap.IsTuple pa its.toArray from p) (by simp; omega) fun h' eb => ?_)
    have I1 := I.turned (h' := h') (t' := s.toks) (fun b o hb e => eb b o hb e) f0 f1 f3 f4 f5
    rw [List.take_of_length_le (by omega)] at I1
    exact wpAny_pure (hdone _ I1)
  | succ m ih =>
    intro i s e I hit
    refine codeAny_builtin PySem.F.entry_extend_loop ?_
    rw [Around.under_plainId PySem.F.plain_extend_loop _]
    show wpAny _ A1.in1 (pyNext (.ref it) >>= _) _ _ s
    obtain ⟨its, rv, p, hz⟩ := I.tuple (SqT.of ((upd_ne hqp).trans hpa))
    have hl := rv.length
    have hi : i < zs.length := by omega
    have hzi : zs[i]? = some zs[i] := List.getElem?_eq_getElem hi
    obtain ⟨u, hu, ru⟩ := rv.get hzi
    obtain ⟨f0, f1, f2, f3, f4, f5⟩ := hfp (zs.take i)
    have hqi : q ≠ it := fun z => by rw [← z, upd_same] at f0; cases f0
    refine wpAny_bind (wpAny_pyNext_tuple_item hit (show s.heap.IsTuple pa its.toArray from p) (x := u) (by simpa using hu) fun h' hit' sb => ?_)
    have I1 : Inv X pins σ (upd H0 q (.lst (zs.take i))) { s with heap := h' } := I.turned (t' := s.toks) (fun b o hb e => (sb.2 b hb).trans e) f0 f1 f3 f4 f5
    show wpAny _ A1.in1 (updateSeq q (·.push u) >>= _) _ _ _
    obtain ⟨z, its2, k, r2, hl2, e2⟩ := I1.lstM upd_same
    have hzs : zs.length ≤ sizeLine := hz
    have hl3 : its2.length = i := by rw [← hl2, List.length_take]; omega
    refine wpAny_bind (wpAny_updateSeq e2 rfl (wpAny_pure ⟨plainId_quiet PySem.F.plain_extend_loop _, ?_⟩) (by rw [List.size_toArray]; omega) (by show (its2.toArray.push u).size ≤ sizeLine + 1; rw [Array.size_push, List.size_toArray]; omega))
    have et : zs.take (i + 1) = zs.take i ++ [zs[i]] := by rw [List.take_succ, hzi]; rfl
    have I2 := I1.lset (its' := its2 ++ [u]) (f := (·.push u)) (t' := s.toks) (ys := zs.take (i + 1)) upd_same e2 (by simp) (by rw [et]; exact r2.append (.cons ru .nil)) (by rw [List.length_take]; omega)
    rw [upd_upd] at I2
    exact ih (i + 1) _ (by omega) I2 (hit'.at fun o e => (Heap.get?_update_other _ _ hqi).trans e)
/-- the same state under another roof -/
def atA (X : Cx) (A : Around) : Cx := { X with A := A }
theorem inv_atA {X : Cx} {pins : List (Addr × Obj)} {σ : L2.St} {H : Hp} {s : Shared} {A : Around} (I : Inv X pins σ H s) (hh : X.calm = true → A.handled = none) (hf : A.frames = X.A.frames) : Inv (atA X A) pins σ H s :=
  ⟨⟨I.ok.mod, I.ok.kind, I.ok.glob, I.ok.blt, I.ok.above, I.ok.inj, I.ok.has, I.ok.cab, hh, hf.trans I.ok.frames, I.ok.stk, I.ok.exf, I.ok.bs, I.ok.bsz, I.ok.noex, I.ok.exfs, I.ok.funs, I.ok.frf⟩, I.os, I.bare, I.base, I.loc, I.cell, I.free, I.freeC, I.pin, I.hok, I.len⟩
theorem inv_ofA {X : Cx} {pins : List (Addr × Obj)} {σ : L2.St} {H : Hp} {s : Shared} {A : Around} (I : Inv (RJ.atA X A) pins σ H s) (ok : X.Ok) : Inv X pins σ H s :=
  ⟨ok, I.os, I.bare, I.base, I.loc, I.cell, I.free, I.freeC, I.pin, I.hok, I.len⟩
/-- one more place that is kept -/
theorem pinO {X : Cx} {pins : List (Addr × Obj)} {σ : L2.St} {H : Hp} {s : Shared} {a : Addr} {o : Obj} (I : Inv X pins σ H s) (ho : s.heap.get? a = some o) (hn : H a = none) (hl : a ≠ X.env.locals) (hf : a ∉ X.fs) (hc : ∀ v, o.data ≠ .cell v) : Inv X (pins ++ [(a, o)]) σ H s :=
  ⟨I.ok, I.os, I.bare, I.base, I.loc, I.cell, I.free, I.freeC, fun p hp => by
    rcases List.mem_append.mp hp with hp | hp
    · exact I.pin p (List.mem_append.mpr (.inl hp))
    · rcases List.mem_append.mp hp with hp | hp
      · exact I.pin p (List.mem_append.mpr (.inr hp))
      · rw [List.mem_singleton.mp hp]; exact ⟨ho, hn, hl, hf, hc⟩, I.hok, I.len⟩
theorem unpinO {X : Cx} {pins pins' : List (Addr × Obj)} {σ : L2.St} {H : Hp} {s : Shared} (I : Inv X (pins ++ pins') σ H s) : Inv X pins σ H s :=
  ⟨I.ok, I.os, I.bare, I.base, I.loc, I.cell, I.free, I.freeC, fun p hp => I.pin p (by
    rcases List.mem_append.mp hp with hp | hp
    · exact List.mem_append.mpr (.inl hp)
    · exact List.mem_append.mpr (.inr (List.mem_append.mpr (.inl hp)))), I.hok, I.len⟩
/-- a small length, and nothing else -/
def lenQ (H : Hp) : VK := fun v H1 => ∃ n : Nat, v = .int (n : Int) ∧ n < 2 ^ 62 ∧ (∃ n' : Nat, V.int (n : Int) = V.int (n' : Int) ∧ n' ≤ 1000 ∧ H1 = H)
def rListO (C : Addr) (sp : Nat → Sp) (spl : Sp) : List V → Hp → VK → Prop := fun xs H Q => ∃ (a dx : Addr) (fs : List (Str × V)), xs = [.ref a] ∧ H a = some (.ins C dx fs) ∧
  ∀ (q : Addr) (n0 : Nat), H q = none → spl [.ref a] (upd H q (.lst [])) (lenQ (upd H q (.lst []))) C8.E0 ∧
    sp n0 [.ref a] (upd H q (.lst [])) (fun v H2 => ∃ (it pa : Addr) (zs : List V), v = .ref it ∧ upd H q (.lst []) it = none ∧ n0 ≤ it ∧ H2 = upd (upd H q (.lst [])) it (TupS it pa) ∧ H pa = some (.tup zs) ∧ Q (.ref q) (upd H q (.lst zs))) C8.E0
/-- what stands of len(o) -/
def LenR (X : Cx) (A : Around) (C : Addr) (spl : Sp) : Prop := ∀ (pins : List (Addr × Obj)) (s : Shared) (σ : L2.St) (H : Hp) (a dx : Addr) (fs : List (Str × V)) (Q : VK), Inv X pins σ H s → H a = some (.ins C dx fs) →
  spl [.ref a] H (fun v H1 => ∃ n : Nat, v = .int (n : Int) ∧ n < 2 ^ 62 ∧ Q (.int (n : Int)) H1) C8.E0 → wpAny (model X.prog X.w) A (call (.builtin "len") [.ref a]) (EP X pins σ Q) (fun _ _ => False) s
theorem lenR {X : Cx} {k : Nat} {C : Addr} {sp : Sp} {A : Around} (m : C8.Met X.prog X.w X.K X.mg X.base k C "__len__" sp []) (hr : Room (k + 1) A) (hf : A.frames = X.A.frames) : LenR X A C sp := by
  intro pins s σ H a dx fs Q I ha q
  obtain ⟨f, fd, ps, ds, hc, hm, F, b, d⟩ := m.ex
  obtain ⟨mA, O, _⟩ := ins_get I.hok ha
  obtain ⟨od, inst, _⟩ := O.look
  obtain ⟨mm, fr⟩ := I.fr
  refine PySem.W.len_K fr I.ok.mod.kin inst hm.at_ hm.fn ?_
  have vals : Vals ([V.ref a] ++ []) ([Value.ref a] ++ ds) := Vals.append (.cons rfl .nil) d
  have hl : ([Value.ref a] ++ ds).length = ps.length := by rw [← vals.length]; exact F.len _ _ _ _ q
  have e0 : Env0 X.prog X.w X.K X.mg X.base A.in1 X.stack s H := by
    have e := I.env0
    exact ⟨hf.trans e.frames, e.mod, e.bs, e.bsz, e.funs, e.frf, e.hok, e.bare⟩
  refine wpAny_call (codeAny_mono (F.run A.in1 X.stack s H ⟨[.ref a], []⟩ ([.ref a] ++ ds) ([.ref a] ++ []) _ C8.E0 hr.in1 e0 (b s [.ref a] I.kIn hl) vals q) fun r s' hq => ?_)
  cases r with
  | error e => exact False.elim hq
  | ok fl =>
    cases fl with
    | ret u =>
      obtain ⟨v, H', J, rv, n, rfl, hn, qn⟩ := I.after hq
      obtain ⟨t, rfl⟩ := rv
      exact ⟨⟨by omega, by omega⟩, .int (n : Int), H', J.tok _, ⟨_, rfl⟩, qn⟩
    | next => exact False.elim hq
    | brk => exact False.elim hq
    | cont => exact False.elim hq
/-- the length is asked: some room or none -/
theorem lo_hint {X : Cx} {A : Around} {k : Nat} {pins : List (Addr × Obj)} {σ : L2.St} {H : Hp} {s : Shared} {C a dx : Addr} {fs : List (Str × V)} {spl : Sp} {E : Value → Shared → Prop} {Qb : Bool → Shared → Prop} (m : C8.Met X.prog X.w X.K X.mg X.base k C "__len__" spl []) (L : LenR X A C spl) (I : Inv X pins σ H s) (ha : H a = some (.ins C dx fs))
    (hl : spl [.ref a] H (lenQ H) C8.E0) (hq : ∀ b s', Inv X pins σ H s' → Qb b s') :
    wpAny (model X.prog X.w) A (Builtin.List.listLengthHint (.ref a)) Qb E s := by
  obtain ⟨f, fd, ps, ds, hc, hm, F, b, d⟩ := m.ex
  obtain ⟨mA, J, _⟩ := ins_get I.hok ha
  obtain ⟨od, J, _⟩ := J.look
  unfold Builtin.List.listLengthHint
  refine wpAny_bind (wpAny_bind (J.type.here ((PySem.W.looks_findIn I.kIn hm.at_).here ?_)))
  refine PySem.W.KFB.if_not rfl ?_
  show wpAny _ _ (rule "list.length-hint.len" >>= _) _ _ _
  refine wpAny_bind (wpAny_rule ?_)
  refine wpAny_bind (wpAny_attempt (wpAny_mono (L pins s σ H a dx fs (fun v H1 => ∃ n' : Nat, v = V.int (n' : Int) ∧ n' ≤ 1000 ∧ H1 = H) I ha hl) (fun u s' hu => ?_) fun e s' he => ?_))
  · obtain ⟨v, H', I', rv, n, rfl, hn, rfl⟩ := hu
    obtain ⟨t, rfl⟩ := rv
    show wpAny _ _ (asInt? (Value.int (n : Int) t) >>= _) _ _ _
    refine wpAny_bind (m := asInt? (Value.int (n : Int) t)) (wpAny_of_eq (a := some (n : Int)) (by first | rfl | kernel_rfl!) ?_)
    show wpAny _ _ (if Builtin.List.listTooLong (n : Int).toNat = true then _ else _) _ _ _
    rw [if_neg (by rw [Int.toNat_natCast, notLongL (Nat.le_trans hn (by rw [sizeLine_eq]; decide))]; decide)]
    exact wpAny_pure (hq _ _ I')
  · exact he.elim
theorem call_listO {X : Cx} {k kl : Nat} {C : Addr} {sp : Nat → Sp} {spl : Sp} (hcm : X.calm = true) (c : MetS X.prog X.w X.K X.mg X.base k C "__iter__" sp) (m : C8.Met X.prog X.w X.K X.mg X.base kl C "__len__" spl []) (hr : Room (k + kl + 3) X.A) : CallR X (.type "list") (rListO C sp spl) := by
  intro pins s σ H xs us Q I rv h
  obtain ⟨a, dx, fs, rfl, ha, hq⟩ := h
  obtain ⟨u, rfl, ru⟩ := rv.one
  cases ru
  refine callType_codes (Q₁ := fun obj s₁ => obj = .ref s.heap.objs.size ∧ s₁ = { s with heap := s.heap.push { cls := .type "list", data := .seq #[] } }) PySem.F.called_list (PySem.F.typeCall_list_1 _) PySem.F.entry_list_init
    (code_list_new _ ⟨rfl, rfl⟩) fun obj s₁ h₁ => ?_
  obtain ⟨rfl, rfl⟩ := h₁
  have hS : (s.heap.push { cls := .type "list", data := .seq #[] }).get? s.heap.objs.size = some { cls := .type "list", data := .seq #[] } := Heap.get?_push_size _ rfl
  refine ⟨⟨_, hS, rfl⟩, PySem.F.args_list_init_2 _ _, ?_⟩
  have fr : H s.heap.objs.size = none := I.hok.fresh (Nat.le_refl _)
  have I1 : Inv X pins σ (upd H s.heap.objs.size (.lst [])) { s with heap := s.heap.push { cls := .type "list", data := .seq #[] } } := I.lnew (its := []) (t' := s.toks) .nil (Nat.zero_le _)
  show wpAny _ _ (do let old ← Builtin.List.listItems (.ref s.heap.objs.size); Builtin.List.listUpdate (.ref s.heap.objs.size) (fun _ => #[]); letGo old.toList.reverse; Builtin.List.listExtendWith (.ref s.heap.objs.size) (.ref a) .none) _ _ _
  refine wpAny_bind ?_
  unfold Builtin.List.listItems
  refine wpAny_bind (wpAny_seqItems hS rfl (wpAny_pure ?_))
  show wpAny _ _ (updateSeq s.heap.objs.size (fun _ => #[]) >>= fun _ => letGo (#[] : Array Value).toList.reverse >>= fun _ => Builtin.List.listExtendWith (.ref s.heap.objs.size) (.ref a) .none) _ _ _
  refine wpAny_bind (wpAny_updateSeq hS rfl ?_)
  have I2 := I1.lset (f := fun _ => #[]) (its := []) (its' := []) (ys := []) (t' := s.toks) upd_same hS rfl .nil (Nat.zero_le _)
  rw [upd_upd] at I2
  refine wpAny_bind (wpAny_letGo ?_)
  have ha2 : upd H s.heap.objs.size (.lst []) a = some (.ins C dx fs) := by rw [upd_ne (ne_of_none ha fr)]; exact ha
  obtain ⟨hl, _⟩ := hq s.heap.objs.size 0 fr
  replace hq := fun n0 => (hq s.heap.objs.size n0 fr).2
  generalize hqe : s.heap.objs.size = q at I2 ha2 hl hq fr ⊢
  generalize hs2 : ({ s with heap := _, toks := s.toks } : Shared) = s2 at I2
  show wpAny _ _ _ _ _ s2
  obtain ⟨f, fd, ps, hc, hmt, F, b⟩ := c.ex
  obtain ⟨mA, J, _⟩ := ins_get I2.hok ha2
  obtain ⟨od, J, _⟩ := J.look
  obtain ⟨m0, hF⟩ := I2.fr
  have hqa : q ≠ a := ne_of upd_same ha2 (fun z => nomatch z)
  unfold Builtin.List.listExtendWith
  refine wpAny_bind (J.type.here ?_)
  have h1 : Builtin.List.listSameRef (.ref q) (.ref a) = false := by simp [Builtin.List.listSameRef, hqa]
  have h2 : (Value.ref C == Value.type "list") = false := rfl
  have h3 : (Value.ref C == Value.type "tuple") = false := rfl
  simp only [h1, h2, h3, Bool.or_false, Bool.false_eq_true, if_false]
  refine wpAny_bind (PySem.W.owit_iter hF I2.ok.mod.kin J hmt.at_ hmt.fn ?_)
  have rr : Room (k + kl + 1) X.A.in1.in1 := hr.in1.in1
  have e0 : Env0 X.prog X.w X.K X.mg X.base X.A.in1.in1 X.stack s2 (upd H q (.lst [])) := by
    have e := I2.env0
    exact ⟨e.frames, e.mod, e.bs, e.bsz, e.funs, e.frf, e.hok, e.bare⟩
  have hq2 := hq s2.heap.objs.size
  have hln := F.ln _ _ _ _ _ hq2
  have r2 : Vals [V.ref a] [Value.ref a] := .cons rfl .nil
  refine wpAny_call (codeAny_mono (F.go X.A.in1.in1 X.stack s2 (upd H q (.lst [])) ⟨[.ref a], []⟩ [.ref a] [.ref a] _ C8.E0 (rr.mono (by omega)) e0 (by
    have := b s2 [.ref a] I2.kIn (by simpa using hln)
    simpa using this) r2 hq2) fun r s' hq' => ?_)
  cases r with
  | error e => exact hq'.elim
  | ok fl =>
    cases fl with
    | next => exact False.elim hq'
    | brk => exact False.elim hq'
    | cont => exact False.elim hq'
    | ret u =>
      obtain ⟨v, H', os, bare, un, hok, rv, it, pa, zs, ev, hn1, hle, eH, hpa, hR⟩ := hq'
      subst ev
      subst eH
      cases rv
      obtain ⟨hh, g, d, t, os'⟩ := s'
      obtain rfl : os' = s2.os := os
      generalize hH1 : upd H q (.lst []) = H1 at *
      have hok2 : HOk X.prog X.w H1 hh := fun b u e => (hok b u (by rw [upd_ne (ne_of_none e hn1)]; exact e)).stay (fun c v _ q => q) (fun c q => by
        by_cases z : c = it
        · rw [z, upd_same] at q; cases q
        · rw [upd_ne z] at q; exact q) fun c ys q => by
        by_cases z : c = it
        · rw [z, upd_same] at q; cases q
        · rw [upd_ne z] at q; exact q
      have I3 : Inv X pins σ H1 { heap := hh, gens := g, drawn := d, toks := t, os := s2.os } := I2.call (h' := hh) (g' := g) (d' := d) (t' := t) (ch := [])
        ⟨fun b o e n f x => un.keep b o e n f x, fun b o e n f x => un.slot b o e n f x, fun b o e n x => n, fun b o e x => un.there b o e x, fun b xs e => e, fun b o u e => e, fun b ps e => ⟨#[], by rw [e]; simp⟩⟩ hok2 bare (fun b z => absurd z (by simp))
      have hit : hh.IsTupleIter it pa 0 := (hok it _ upd_same).1
      have fp : FpOk X pins H1 it := I2.fpOk hle hn1
      obtain ⟨oit, hoit, hoc, hod⟩ := id hit
      obtain ⟨f0, f1, f2, f3, f4, f5⟩ := id fp
      have ip : Inv X (pins ++ [(it, oit)]) σ H1 { heap := hh, gens := g, drawn := d, toks := t, os := s2.os } := pinO I3 hoit hn1 f1 f2 (fun v z => by rw [hod] at z; cases z)
      have hT : ({ heap := hh, gens := g, drawn := d, toks := t, os := s2.os } : Shared).TypeIs (.ref it) "tuple_iterator" := ⟨oit, hoit, hoc⟩
      unfold PySem.W.OwitIt
      refine wpAny_specialOf (name := Str.ofString "__next__") hT PySem.F.slot_tuple_iterator_next.lookup ?_
      refine wpAny_bind (wpAny_holding (lo_hint m (lenR m (A := X.A.in1.in1) (rr.mono (by omega)) rfl) ip ha2 hl fun bb s4 I4 => ?_))
      have hit4 : s4.heap.IsTupleIter it pa 0 := ⟨oit, (I4.pin (it, oit) (List.mem_append.mpr (.inr (List.mem_append.mpr (.inr (List.mem_singleton.mpr rfl)))))).1, hoc, hod⟩
      have I5 := unpinO I4
      subst hH1
      have hpq : pa ≠ q := ne_of_none hpa fr
      have hqi : q ≠ it := fun z => by rw [← z, upd_same] at hn1; cases hn1
      have hni : H it = none := by rw [upd_ne (Ne.symm hqi)] at hn1; exact hn1
      have fp' : ∀ acc, FpOk X pins (upd H q (.lst acc)) it := fun acc => ⟨by rw [upd_ne (Ne.symm hqi)]; exact hni, f1, f2, f3, f4, f5⟩
      have fin : ∀ s, Inv X pins σ (upd H q (.lst [])) s → s.heap.IsTupleIter it pa 0 → codeAny (model X.prog X.w) X.A.in1 (.builtin "list.extend.loop" ⟨[.ref q, .ref it, .none], []⟩) (wants (fun r s₂ => r = .none ∧ EP X pins σ Q (.ref q) s₂) X.xe) s := fun s I hi =>
        lo_loop (A1 := X.A.in1) (I.ok.hd hcm) hpa hpq fp' (fun s' I' => ⟨rfl, .ref q, _, I', rfl, hR⟩) zs.length 0 s (Nat.zero_add _) I hi
      refine wpAny_ite_split (fun _ => ?_) (fun _ => wpAny_pure ⟨plainId_quiet PySem.F.plain_extend_loop _, fin _ I5 hit4⟩)
      refine wpAny_bind (wpAny_rule ?_)
      refine wpAny_bind ?_
      show wpAny _ _ (updateSeq q (·.push .none) >>= fun _ => updateSeq q (·.pop)) _ _ _
      obtain ⟨z, its, k3, r3, hl3, e3⟩ := I5.lstM upd_same
      cases r3
      refine wpAny_bind (wpAny_updateSeq e3 rfl ?_)
      have I6 := I5.lset (f := (·.push Value.none)) (its' := [Value.none]) (ys := [.non]) (t' := s4.toks) upd_same e3 (by simp) (.cons rfl .nil) (by rw [List.length_singleton, sizeLine_eq]; decide)
      obtain ⟨z4, its4, k4, r4, hl4, e4⟩ := I6.lstM upd_same
      obtain ⟨u4, rfl, ru4⟩ := r4.one
      refine wpAny_updateSeq e4 rfl ?_ (by show 1 ≤ sizeLine; rw [sizeLine_eq]; decide) (by show 0 ≤ sizeLine + 1; exact Nat.zero_le _)
      have I7 := I6.lset (f := (·.pop)) (its := [u4]) (its' := []) (ys := []) (t' := s4.toks) upd_same e4 (by rfl) .nil (Nat.zero_le _)
      rw [upd_upd, upd_upd] at I7
      refine wpAny_pure ⟨plainId_quiet PySem.F.plain_extend_loop _, fin _ I7 ?_⟩
      exact (hit4.at fun o e => (Heap.get?_update_other _ _ hqi).trans ((Heap.get?_update_other _ _ hqi).trans e))
end RJ
end

section
set_option maxRecDepth 100000
set_option maxHeartbeats 4000000
namespace RJ
open PySem PySem.Spec PyProof.Rows L2
/-! ### C(k = v, ..): an own class made by keywords alone, no defaults -/
structure MakK (P : Program) (w : World) (K : PySem.W.Frag) (mg : Str → Option Value) (base : Heap) (k : Nat) (x : Str) (C : Addr) (ks : List Str) (gV : List V → List V → List V) (sp : Sp) : Prop where
  ex : ∃ (f : Addr) (fd : FuncData) (ps : List Str) (g : List Value → List Value → List Value), Mk K C f ∧ FnOk P w K mg base C8.CX0 k f fd ps sp ∧ mg x = some (.ref C) ∧ KBn K fd ps 1 ks g gV
section
variable {X : Cx} {k j : Nat} {C : Addr} {x : Str} {ks : List Str} {gV : List V → List V → List V} {sp : Sp} {p pos : Pos} {kws : List Keyword} {tk : TA}
theorem pe_mkK (c : MakK X.prog X.w X.K X.mg X.base k x C ks gV sp) (hr : Room j X.A) (hk : k + 1 ≤ j) (hg : Gl X x) (hkw : PK X kws tk)
    (hall : (backToKw pos (keywordEach kws X.env)).all (·.1.isSome) = true := by rfl) (hks : (backToKw pos (keywordEach kws X.env)).filterMap (·.1) = ks := by rfl) (hdb : (x == ("__debug__" : Str)) = false := by decide)
    (hpl : ((backTo pos (starEach [] X.env)).any (·.1) || (backToKw pos (keywordEach kws X.env)).any (·.1.isNone)) = false := by rfl) :
    PE X (.Call (.Name x p) [] kws pos) (tMakeK C 0 ks.length sp gV C8.E0 tNil tk) := by
  obtain ⟨f, fd, ps, g, M, F, hm, hb⟩ := c.ex
  exact pe_makeK0 M F (hr.mono hk) hg hm hb C8.pass0 hkw hall hks hdb hpl
end
/-- the keywords' values, the last one first -/
def swp {α : Type} (us ws : List α) : List α := us ++ ws.reverse
theorem vals_rev : ∀ {vs : List V} {us : List Value}, Vals vs us → Vals vs.reverse us.reverse
  | _, _, .nil => .nil
  | _, _, .cons h t => by
    rw [List.reverse_cons, List.reverse_cons]
    exact (vals_rev t).append (.cons h .nil)
theorem kbn_swp {K : PySem.W.Frag} {x qual : Str} {st : Stmt} {f : Addr} {fd : FuncData} {n : Nat} {ps ks : List Str} (F : C8.Fun K x qual st f fd) (df : fd.defaults = .none)
    (h : ∀ (kV doc pm : Value) (an : Option Addr) (cdv ct : Value) (us ws : List Value), us.length = n → ws.length = ks.length → bindArgs (PySem.W.fnOf x qual (C8.fnArgs st) (C8.fnBody st) (C8.fnScope st) .none kV doc pm an cdv ct) ⟨us, ks.zip ws⟩ = pure (ps.zip (swp us ws))) :
    KBn K fd ps n ks swp swp := by
  obtain ⟨oc, od, dV, kV, doc, pm, an, cdv, ct, osl, rfl, lk, hcd⟩ := F.ex
  have e : dV = .none := df
  subst e
  exact ⟨fun s us ws _ l1 l2 => .of_eq (h kV doc pm an cdv ct us ws l1 l2), fun r1 r2 => r1.append (vals_rev r2)⟩
end RJ
end

section
set_option maxRecDepth 100000
namespace RJ
open PySem PySem.Spec PyProof.Rows L2
def top (i : Nat) : Stmt := PySem.Challenge.pw_rankedjoins_k56_learner_step_by_step.main.body.getD i (.Pass ⟨0, 0, 0, 0⟩)
/-- what the top leaves of the built-in names and of the module's constants -/
structure Txt (K : PySem.W.Frag) (mg : Str → Option Value) : Prop where
  b_isinstance : mg "isinstance" = none
  b_len : mg "len" = none
  b_min : mg "min" = none
  b_all : mg "all" = none
  b_int : mg "int" = none
  b_bool : mg "bool" = none
  b_str : mg "str" = none
  b_tuple : mg "tuple" = none
  b_list : mg "list" = none
  b_zip : mg "zip" = none
  b_enumerate : mg "enumerate" = none
  b_range : mg "range" = none
  b_sorted : mg "sorted" = none
  b_ValueError : mg "ValueError" = none
  b_iter : mg "iter" = none
  c_MOST_LETTERS : ∃ u, mg "MOST_LETTERS" = some u ∧ RelV (.int 30) u
  c_MOST_JOINS : ∃ u, mg "MOST_JOINS" = some u ∧ RelV (.int 60) u
  c_MOST_SIGNS_OF_PIECE : ∃ u, mg "MOST_SIGNS_OF_PIECE" = some u ∧ RelV (.int 40) u
  c_LOWEST_TOTAL : ∃ u, mg "LOWEST_TOTAL" = some u ∧ RelV (.int 2) u
theorem hu64_of {A : Around} {k : Nat} (hr : Room k A) : A.units + 64 < cLine := hr.units
/-! ### heaps -/
theorem Same.new {H H' : Hp} {p : Addr} {o : HO} (s : Same H H') (h : H' p = none) : Same H (upd H' p o) := fun b u e => by
  have := s b u e
  rw [upd_ne (ne_of_none this h)]; exact this
theorem Same.put {H H' : Hp} {p : Addr} {o : HO} (s : Same H H') (h : H p = none) : Same H (upd H' p o) := fun b u e => by
  rw [upd_ne (ne_of_none e h)]; exact s b u e
theorem same_new {H : Hp} {p : Addr} {o : HO} (h : H p = none) : Same H (upd H p o) := Same.new (Same.refl H) h
/-! ### values -/
/-- a row of pieces -/
def iv (l : List Nat) : List V := l.map fun (n : Nat) => V.int (n : Int)
theorem iv_len (l : List Nat) : (iv l).length = l.length := by rw [iv, List.length_map]
theorem iv_get {l : List Nat} {i : Nat} {v : V} (h : (iv l)[i]? = some v) : ∃ n : Nat, l[i]? = some n ∧ v = V.int (n : Int) := by
  rw [iv, List.getElem?_map] at h
  cases e : l[i]? with
  | none => rw [e] at h; cases h
  | some n => rw [e] at h; exact ⟨n, rfl, (Option.some.inj h).symm⟩
theorem iv_at {l : List Nat} {i n : Nat} (h : l[i]? = some n) : (iv l)[i]? = some (V.int (n : Int)) := by
  rw [iv, List.getElem?_map, h]; rfl
theorem iv_snoc (l : List Nat) (n : Nat) : iv l ++ [V.int (n : Int)] = iv (l ++ [n]) := by rw [iv, iv, List.map_append]; rfl
/-- a list or a tuple at p -/
def SeqAt (b : Bool) (H : Hp) (p : Addr) (xs : List V) : Prop := H p = some (match b with | true => .lst xs | false => .tup xs)
theorem SeqAt.same {b : Bool} {H H' : Hp} {p : Addr} {xs : List V} (h : SeqAt b H p xs) (s : Same H H') : SeqAt b H' p xs := s _ _ h
/-- a row at p: a list or a tuple -/
abbrev RowAt (b : Bool) (H : Hp) (p : Addr) (l : List Nat) : Prop := SeqAt b H p (iv l)
abbrev S (l : List Nat) : Str := SX.S l
theorem S_len (l : List Nat) : (S l).length = l.length := SX.S_len l
end RJ
end

section
set_option maxRecDepth 100000
set_option maxHeartbeats 2000000
namespace RJ
open PySem PySem.Spec PyProof.Rows L2
abbrev s_is_integer : Stmt := top 11
abbrev N_is_integer : List Str := ["value"]
theorem sc_is_integer : FnScope N_is_integer ["value"] (C8.fnScope s_is_integer) := C8.fnScope_by (by decide +kernel)
abbrev s_is_number_below : Stmt := top 12
abbrev N_is_number_below : List Str := ["value", "end"]
theorem sc_is_number_below : FnScope N_is_number_below ["value", "end"] (C8.fnScope s_is_number_below) := C8.fnScope_by (by decide +kernel)
abbrev s_is_sign : Stmt := top 13
abbrev N_is_sign : List Str := ["sign"]
theorem sc_is_sign : FnScope N_is_sign ["sign"] (C8.fnScope s_is_sign) := C8.fnScope_by (by decide +kernel)
abbrev s_is_alphabet : Stmt := top 14
abbrev N_is_alphabet : List Str := ["text", "ascending", "first", "second", "sign"]
theorem sc_is_alphabet : FnScope N_is_alphabet ["text"] (C8.fnScope s_is_alphabet) := C8.fnScope_by (by decide +kernel)
/-- is the value an integer that is no bool -/
def isIntV : V → Bool
  | .int _ => true
  | _ => false
/-- values whose kind isinstance knows -/
inductive Kind (H : Hp) : V → Prop
  | int (i : Int) : Kind H (.int i)
  | bl (b : Bool) : Kind H (.bl b)
  | non : Kind H .non
  | str (x : Str) : Kind H (.str x)
  | lst {a : Addr} {xs : List V} (e : H a = some (.lst xs)) : Kind H (.ref a)
  | tup {a : Addr} {xs : List V} (e : H a = some (.tup xs)) : Kind H (.ref a)
theorem Kind.isi {K : PySem.W.Frag} {H : Hp} {x : V} (k : Kind H x) : ∃ t, TyX K H x t ∧ ∃ b, PySem.W.kitOne K t (.type "bool") = some b ∧ ∃ c, PySem.W.kitOne K t (.type "int") = some c ∧ (c && !b) = isIntV x := by
  cases k with
  | int i => exact ⟨_, .base (.int i), false, kit_ty (by decide +kernel), true, kit_ty (by decide +kernel), rfl⟩
  | bl b => exact ⟨_, .base (.bl b), true, kit_ty (by decide +kernel), true, kit_ty (by decide +kernel), rfl⟩
  | non => exact ⟨_, .base .non, false, kit_ty (by decide +kernel), false, kit_ty (by decide +kernel), rfl⟩
  | str x => exact ⟨_, .base (.str x), false, kit_ty (by decide +kernel), false, kit_ty (by decide +kernel), rfl⟩
  | lst e => exact ⟨_, .base (.lst e), false, kit_ty (by decide +kernel), false, kit_ty (by decide +kernel), rfl⟩
  | tup e => exact ⟨_, .base (.tup e), false, kit_ty (by decide +kernel), false, kit_ty (by decide +kernel), rfl⟩
def numBelow (x : V) (n : Int) : Bool := match x with
  | .int i => decide (0 ≤ i) && decide (i < n)
  | _ => false
def sp_is_integer : Sp := fun vs H Q _ => ∃ x, vs = [x] ∧ Kind H x ∧ Q (.bl (isIntV x)) H
def sp_is_number_below : Sp := fun vs H Q _ => ∃ x n, vs = [x, .int n] ∧ Kind H x ∧ Q (.bl (numBelow x n)) H
def sp_is_sign : Sp := fun vs H Q _ => ∃ c, vs = [.str (S [c])] ∧ Q (.bl (decide (32 ≤ c ∧ c ≤ 126))) H
section
variable {P : Program} {w : World} {K : PySem.W.Frag} {mg : Str → Option Value} {base : Heap}
theorem ok_is_integer {f : Addr} {fd : FuncData} (F : C8.Fun K "is_integer" "is_integer" s_is_integer f fd) (T : Txt K mg) : FnOk P w K mg base C8.CX0 1 f fd ["value"] sp_is_integer := by
  refine C8.fn0 F sc_is_integer (fun vs H Q E h => ?_) (fun cdv A outer s H vs Q E hr h => ?_)
  · obtain ⟨x, rfl, _⟩ := h; rfl
  · obtain ⟨x, rfl, k, q⟩ := h
    refine ⟨_, (pss_one (ps_ret (pe_and (pe_callB call_isi (by rfl) T.b_isinstance (by decide +kernel) (pa_cons (pv 0) (pa_cons (pe_bltn (v := .ty "int") (u := .type "int") rfl T.b_int (by decide +kernel) rfl) pa_nil))) (pe_one (pe_not (pe_callB call_isi (by rfl) T.b_isinstance (by decide +kernel) (pa_cons (pv 0) (pa_cons (pe_bltn (v := .ty "bool") (u := .type "bool") rfl T.b_bool (by decide +kernel) rfl) pa_nil)))))))), ?_⟩
    obtain ⟨t, ty, b, hb, c, hc, e⟩ := k.isi (K := K)
    refine ⟨_, rfl, x, .ty "int", t, .type "int", c, rfl, .ty _, ty, hc, c, rfl, ?_⟩
    cases c with
    | false => 
      have e' : false = isIntV x := e
      refine iteF ?_
      rw [e']; exact q
    | true =>
      refine iteT ⟨_, rfl, x, .ty "bool", t, .type "bool", b, rfl, .ty _, ty, hb, b, rfl, ?_⟩
      have e' : (!b) = isIntV x := by rw [← e]; simp
      show Q (.bl (!b)) H
      rw [e']; exact q
end
end RJ
end

section
set_option maxRecDepth 100000
set_option maxHeartbeats 2000000
namespace RJ
open PySem PySem.Spec PyProof.Rows L2
theorem walkG {n : Nat} {G : Hp → Prop} {PX : Nat → List V → Prop} : Walk (ItG n G PX) n G (fun i H v H' => ∃ T xs, v = .ref T ∧ H T = none ∧ H' = upd H T (.tup xs) ∧ PX i xs) :=
  ⟨fun _ _ hi h => ⟨h, hi⟩, fun _ h => ⟨h, Nat.le_refl _⟩, fun _ _ _ _ _ _ y => y⟩
theorem cutS_from (l : List Nat) (k : Nat) : cutS (S l) (some (k : Int)) none = S (l.drop k) := by
  show (⟨(((S l).cps.toList.drop (HT.sIx (S l).length 0 (some (k : Int)))).take (HT.sIx (S l).length (S l).length none - HT.sIx (S l).length 0 (some (k : Int)))).toArray⟩ : Str) = ⟨(l.drop k).toArray⟩
  rw [HT.sIx_nat, HT.sIx_none, S_len]
  have e : (l.drop (min k l.length)).take (l.length - min k l.length) = l.drop k := by
    by_cases h : k ≤ l.length
    · rw [Nat.min_eq_left h, List.take_of_length_le (by rw [List.length_drop]; omega)]
    · rw [Nat.min_eq_right (by omega), List.drop_eq_nil_of_le (by omega : l.length ≤ k), List.drop_length, List.take_nil]
  exact congrArg (fun z : List Nat => (⟨z.toArray⟩ : Str)) e
theorem S_get (l : List Nat) (i : Nat) : (S l).cps[i]? = l[i]? := by
  show l.toArray[i]? = l[i]?
  rw [List.getElem?_toArray]
theorem S_size (l : List Nat) : (S l).cps.size = l.length := List.size_toArray
theorem str1 (c : Nat) : (⟨#[c]⟩ : Str) = S [c] := rfl
/-- the source that a text is -/
theorem src_text (H : Hp) (l : List Nat) : SrcV H (.str (S l)) l.length (fun _ => True) (fun i v => ∃ c, (S l).cps[i]? = some c ∧ v = .str ⟨#[c]⟩) :=
  .inl ⟨S l, rfl, (S_size l).symm, rfl, rfl⟩
abbrev s_check_alphabet : Stmt := top 15
abbrev N_check_alphabet : List Str := ["text"]
theorem sc_check_alphabet : FnScope N_check_alphabet ["text"] (C8.fnScope s_check_alphabet) := C8.fnScope_by (by decide +kernel)
/-- neighbors ascend -/
def ascL (l : List Nat) : List Bool := (l.zip (l.drop 1)).map fun p => decide (p.1 < p.2)
def alOk (l : List Nat) : Bool := decide (1 ≤ l.length ∧ l.length ≤ 30) && ((ascL l).all id && (l.map fun c => decide (32 ≤ c ∧ c ≤ 126)).all id)
def sp_is_alphabet : Sp := fun vs H Q _ => ∃ l : List Nat, vs = [.str (S l)] ∧ l.length ≤ 1000 ∧ ∀ H', Same H H' → Q (.bl (alOk l)) H'
def sp_check_alphabet : Sp := fun vs H Q _ => ∃ l : List Nat, vs = [.str (S l)] ∧ l.length ≤ 1000 ∧ alOk l = true ∧ ∀ H', Same H H' → Q .non H'
theorem small_le {n : Nat} (h : n ≤ 1000) : n ≤ sizeLine := Nat.le_of_lt (small1000 h)
theorem map_take_succ {α β : Type} {f : α → β} {l : List α} {i : Nat} {x : α} (h : l[i]? = some x) : (l.take (i + 1)).map f = (l.take i).map f ++ [f x] := by
  rw [List.take_add_one, h, List.map_append]; rfl
theorem lt_cps (a b : Nat) : decide ((S [a]).cps.toList < (S [b]).cps.toList) = decide (a < b) := by
  apply decide_eq_decide.mpr
  show ([a] < [b]) ↔ a < b
  rw [List.cons_lt_cons_iff]
  constructor
  · rintro (h | ⟨_, h⟩)
    · exact h
    · exact absurd h (by simp)
  · exact .inl
section
variable {P : Program} {w : World} {K : PySem.W.Frag} {mg : Str → Option Value} {base : Heap}
theorem ok_is_number_below {f : Addr} {fd : FuncData} (F : C8.Fun K "is_number_below" "is_number_below" s_is_number_below f fd) (T : Txt K mg) (c_is_integer : C8.Cal P w K mg base 1 "is_integer" sp_is_integer []) : FnOk P w K mg base C8.CX0 2 f fd ["value", "end"] sp_is_number_below := by
  refine C8.fn0 F sc_is_number_below (fun vs H Q E h => ?_) (fun cdv A outer s H vs Q E hr h => ?_)
  · obtain ⟨x, n, rfl, _⟩ := h; rfl
  · obtain ⟨x, n, rfl, k, q⟩ := h
    refine ⟨_, (pss_one (ps_ret (pe_and (C8.pe_c c_is_integer hr (by first | decide | omega) (by rfl) (pa_cons (pv 0) pa_nil)) (pe_one (pe_chain op_le op_lt pe_int (pv 0) (pv 1)))))), ?_⟩
    refine ⟨_, rfl, x, rfl, k, _, rfl, ?_⟩
    cases k with
    | int i =>
      refine iteT ⟨_, rfl, _, _, rfl, rfl, _, rfl, ?_⟩
      have q' : Q (.bl (decide (0 ≤ i) && decide (i < n))) H := q
      by_cases c : 0 ≤ i
      · rw [decide_eq_true c] at q' ⊢
        exact iteT ⟨_, rfl, _, _, rfl, rfl, q'⟩
      · rw [decide_eq_false c] at q' ⊢
        exact iteF q'
    | bl b => exact iteF q
    | non => exact iteF q
    | str x => exact iteF q
    | lst e => exact iteF q
    | tup e => exact iteF q
theorem ok_is_sign {f : Addr} {fd : FuncData} (F : C8.Fun K "is_sign" "is_sign" s_is_sign f fd) (T : Txt K mg) : FnOk P w K mg base C8.CX0 1 f fd ["sign"] sp_is_sign := by
  refine C8.fn0 F sc_is_sign (fun vs H Q E h => ?_) (fun cdv A outer s H vs Q E hr h => ?_)
  · obtain ⟨c, rfl, _⟩ := h; rfl
  · obtain ⟨c, rfl, q⟩ := h
    refine ⟨_, (pss_one (ps_ret (pe_chain op_le_str op_le_str pe_str (pv 0) pe_str))), ?_⟩
    refine ⟨_, rfl, S [32], S [c], rfl, rfl, _, rfl, ?_⟩
    rw [lt_cps]
    by_cases h1 : c < 32
    · rw [decide_eq_true h1]
      refine iteF ?_
      rw [decide_eq_false (by omega)] at q; exact q
    · rw [decide_eq_false h1]
      refine iteT ⟨S [c], S [126], rfl, rfl, ?_⟩
      rw [lt_cps]
      have e : (!decide (126 < c)) = decide (32 ≤ c ∧ c ≤ 126) := by
        by_cases h2 : 126 < c
        · rw [decide_eq_true h2, decide_eq_false (by omega)]; rfl
        · rw [decide_eq_false h2, decide_eq_true (by omega)]; rfl
      rw [e]; exact q
theorem ok_is_alphabet {f : Addr} {fd : FuncData} (F : C8.Fun K "is_alphabet" "is_alphabet" s_is_alphabet f fd) (T : Txt K mg) (c_is_sign : C8.Cal P w K mg base 1 "is_sign" sp_is_sign []) : FnOk P w K mg base C8.CX0 2 f fd ["text"] sp_is_alphabet := by
  refine C8.fn0 F sc_is_alphabet (fun vs H Q E h => ?_) (fun cdv A outer s H vs Q E hr h => ?_)
  · obtain ⟨l, rfl, _⟩ := h; rfl
  · obtain ⟨l, rfl, hl, q⟩ := h
    refine ⟨_, (pss_cons (ps_set (i := 1) sc_is_alphabet.nd rfl (Or.inl rfl) (pe_callB (cr_all rfl) (by rfl) T.b_all (by decide +kernel) (pa_cons (pe_lc (own := [("first", 2), ("second", 3)]) (g := gTup K 2 (gCons (gName 2) (gCons (gName 3) (gNil)))) (tt := tYes) rfl sc_is_alphabet.nd (pi_zipT2 rfl T.b_zip (pa_cons (pv 0) (pa_cons (pe_slice sl_str (pv 0) (po_some pe_int) po_none) pa_nil))) (blkOk_by (N := N_is_alphabet) (sc := C8.fnScope s_is_alphabet) (by decide +kernel)) (fun _ _ _ _ _ => (pg_tup rfl (pgs_cons (pg_name (i := 2) sc_is_alphabet.nd rfl (Or.inl rfl)) (pgs_cons (pg_name (i := 3) sc_is_alphabet.nd rfl (Or.inl rfl)) pgs_nil)))) (fun _ _ _ _ _ => pts_nil) (fun _ _ _ _ _ => (pe_cmpR op_lt_str (pv 2) (pv 3) (nomark _)))) pa_nil)))
      (pss_one (ps_ret (pe_and (pe_chain op_le op_le pe_int (pe_callB call_len_str (by rfl) T.b_len PySem.boot_len (pa_cons (pv 0) pa_nil)) (C8.pe_gc rfl T.c_MOST_LETTERS)) (pe_and (pv 1) (pe_one (pe_callB (cr_all rfl) (by rfl) T.b_all (by decide +kernel) (pa_cons (pe_lc (own := [("sign", 4)]) (g := gName 4) (tt := tYes) rfl sc_is_alphabet.nd (pi_str (pv 0)) (blkOk_by (N := N_is_alphabet) (sc := C8.fnScope s_is_alphabet) (by decide +kernel)) (fun _ _ _ _ _ => (pg_name (i := 4) sc_is_alphabet.nd rfl (Or.inl rfl))) (fun _ _ _ _ _ => pts_nil) (fun _ _ _ _ _ => (C8.pe_c c_is_sign hr (by first | decide | omega) (by rfl) (pa_cons (pv 4) pa_nil)))) pa_nil)))))))), ?_⟩
    refine ⟨_, rfl, _, rfl, 1, rfl, S l, rfl, by rw [S_len]; exact small_le hl, ?_⟩
    have e1 : cutS (S l) (some 1) none = S (l.drop 1) := cutS_from l 1
    rw [e1]
    refine ⟨_, _, _, _, _, _, _, _, rfl, src_text H l, src_text H (l.drop 1), fun D hD => lc_it walkG (fun i H' => Same H H' ∧ H' D = some (.lst (((ascL l).take i).map V.bl))) ⟨same_new hD, upd_same⟩ (fun _ _ _ _ => ⟨trivial, trivial⟩) ?_ ?_⟩
    · rintro i x H1 H2 hi ⟨s1, hd⟩ ⟨Tt, xs, rfl, hT, rfl, v1, v2, ⟨c1, h1, rfl⟩, ⟨c2, h2, rfl⟩, rfl⟩
      refine ⟨Tt, _, rfl, SqT.of upd_same, rfl, _, _, rfl, _, _, rfl, rfl, rfl, _, rfl, _, rfl, S [c1], S [c2], rfl, rfl, ?_⟩
      rw [S_get] at h1 h2
      have hz : (l.zip (l.drop 1))[i]? = some (c1, c2) := by
        rw [List.getElem?_zip_eq_some]; exact ⟨h1, h2⟩
      have hb : (ascL l)[i]? = some (decide (c1 < c2)) := by rw [ascL, List.getElem?_map, hz]; rfl
      have hne : D ≠ Tt := ne_of_none hd hT
      refine ⟨_, (upd_ne hne).trans hd, ?_, ?_, ?_⟩
      · rw [List.length_map, List.length_take]
        exact small1000 (by have := List.length_drop (i := 1) (l := l); omega)
      · exact Same.put (Same.new s1 hT) hD
      · rw [upd_same, lt_cps, map_take_succ hb]
    · rintro H1 ⟨s1, hd⟩
      have hn : min l.length (l.drop 1).length = (ascL l).length := by rw [ascL, List.length_map, List.length_zip]
      rw [hn, List.take_length] at hd
      refine ⟨D, _, rfl, SqL.of hd, ?_⟩
      have q2 := q
      refine ⟨_, rfl, S l, rfl, by rw [S_len]; exact small_le hl, 1, _, rfl, rfl, _, rfl, ?_⟩
      rw [S_len]
      by_cases c1 : 1 ≤ l.length ∧ l.length ≤ 30
      · rw [decide_eq_true (by omega : (1 : Int) ≤ (l.length : Int))]
        refine iteT ⟨_, _, rfl, rfl, _, rfl, ?_⟩
        rw [decide_eq_true (by omega : (l.length : Int) ≤ 30)]
        refine iteT ⟨_, rfl, _, rfl, ?_⟩
        have q3 : ∀ H', Same H H' → Q (.bl ((ascL l).all id && (l.map fun c => decide (32 ≤ c ∧ c ≤ 126)).all id)) H' := fun H' sm => by
          have := q H' sm
          rw [alOk, decide_eq_true c1] at this
          exact this
        cases hb : (ascL l).all id with
        | false =>
          rw [hb] at q3
          exact iteF (q3 _ s1)
        | true =>
          rw [hb] at q3
          refine iteT ?_
          refine ⟨_, rfl, S l, rfl, fun D2 hD2 => lc_it walk_str (fun i H' => Same H H' ∧ H' D2 = some (.lst (((l.map fun c => decide (32 ≤ c ∧ c ≤ 126)).take i).map V.bl))) ⟨Same.new s1 hD2, upd_same⟩ (fun _ _ _ _ => trivial) ?_ ?_⟩
          · rintro i x H2 H3 hi ⟨s2, hd2⟩ ⟨rfl, c, hc, rfl⟩
            rw [S_get] at hc
            refine ⟨rfl, _, rfl, c, rfl, ?_⟩
            have hb2 : (l.map fun c => decide (32 ≤ c ∧ c ≤ 126))[i]? = some (decide (32 ≤ c ∧ c ≤ 126)) := by rw [List.getElem?_map, hc]; rfl
            refine ⟨_, hd2, ?_, Same.put s2 (s1.free hD2), ?_⟩
            · rw [List.length_map, List.length_take, List.length_map]
              exact small1000 (by omega)
            · rw [upd_same, map_take_succ hb2]
          · rintro H2 ⟨s2, hd2⟩
            have hn2 : (S l).cps.size = (l.map fun c => decide (32 ≤ c ∧ c ≤ 126)).length := by rw [S_size, List.length_map]
            rw [hn2, List.take_length] at hd2
            exact ⟨D2, _, rfl, SqL.of hd2, q3 H2 s2⟩
      · have q3 : ∀ H', Same H H' → Q (.bl false) H' := fun H' sm => by
          have := q H' sm
          rw [alOk, decide_eq_false c1] at this
          exact this
        by_cases c2 : 1 ≤ l.length
        · rw [decide_eq_true (by omega : (1 : Int) ≤ (l.length : Int))]
          refine iteT ⟨_, _, rfl, rfl, _, rfl, ?_⟩
          rw [decide_eq_false (by omega : ¬ (l.length : Int) ≤ 30)]
          exact iteF (q3 _ s1)
        · rw [decide_eq_false (by omega : ¬ (1 : Int) ≤ (l.length : Int))]
          exact iteF ⟨_, rfl, iteF (q3 _ s1)⟩
theorem ok_check_alphabet {f : Addr} {fd : FuncData} (F : C8.Fun K "check_alphabet" "check_alphabet" s_check_alphabet f fd) (T : Txt K mg) (c_is_alphabet : C8.Cal P w K mg base 2 "is_alphabet" sp_is_alphabet []) : FnOk P w K mg base C8.CX0 3 f fd ["text"] sp_check_alphabet := by
  refine C8.fn0 F sc_check_alphabet (fun vs H Q E h => ?_) (fun cdv A outer s H vs Q E hr h => ?_)
  · obtain ⟨l, rfl, _⟩ := h; rfl
  · obtain ⟨l, rfl, hl, hok, q⟩ := h
    refine ⟨_, (pss_one (ps_if (pt_not (pt_val (C8.pe_c c_is_alphabet hr (by first | decide | omega) (by rfl) (pa_cons (pv 0) pa_nil)))) (pss_one ps_never) pss_nil)), ?_⟩
    refine ⟨_, rfl, l, rfl, hl, fun H' s1 => ⟨_, rfl, ?_⟩⟩
    rw [hok]
    exact iteF (q H' s1)
end
end RJ
end

section
set_option maxRecDepth 100000
set_option maxHeartbeats 2000000
namespace RJ
open PySem PySem.Spec PyProof.Rows L2
abbrev s_letter_row : Stmt := top 18
abbrev N_letter_row : List Str := ["alphabet", "text", "row", "at", "sign", "piece"]
theorem sc_letter_row : FnScope N_letter_row ["alphabet", "text"] (C8.fnScope s_letter_row) := C8.fnScope_by (by decide +kernel)
abbrev s_join_neighbors : Stmt := top 19
abbrev N_join_neighbors : List Str := ["row", "pair", "piece", "left", "right", "joined", "following"]
theorem sc_join_neighbors : FnScope N_join_neighbors ["row", "pair", "piece"] (C8.fnScope s_join_neighbors) := C8.fnScope_by (by decide +kernel)
abbrev s_lowest_join : Stmt := top 20
abbrev N_lowest_join : List Str := ["ranks", "row", "pair"]
theorem sc_lowest_join : FnScope N_lowest_join ["ranks", "row"] (C8.fnScope s_lowest_join) := C8.fnScope_by (by decide +kernel)
abbrev s_join_down : Stmt := top 21
abbrev N_join_down : List Str := ["ranks", "letters", "row", "lowest", "rank", "pair"]
theorem sc_join_down : FnScope N_join_down ["ranks", "letters", "row"] (C8.fnScope s_join_down) := C8.fnScope_by (by decide +kernel)
/-- a list or a tuple walked -/
def ItSeq (K : PySem.W.Frag) (b : Bool) (a : Addr) : It := match b with | true => Itl K a | false => Itt K a
def iSeq (K : PySem.W.Frag) (tl : TE) : TI := fun σ H R => tl σ H fun x H1 => ∃ b a xs, x = .ref a ∧ SeqAt b H1 a xs ∧ R (ItSeq K b a) H1
theorem walk_seq {K : PySem.W.Frag} {b : Bool} {a : Addr} {xs : List V} : Walk (ItSeq K b a) xs.length (fun H => SeqAt b H a xs) (YAt xs) := by
  cases b with
  | true => exact walk_list.mono (fun H h => SqL.of h) fun _ _ _ _ _ _ y => y
  | false => exact walk_tup.mono (fun H h => SqT.of h) fun _ _ _ _ _ _ y => y
theorem pi_seq {X : Cx} {tg l : Expr} {tl : TE} (hl : PE X l tl) : PI X tg l (iSeq X.K tl) := by
  refine ⟨fun pins s σ H R I h => ?_⟩
  refine thn (hl.run pins s σ H _ I h) fun v s1 ⟨x, H1, I1, r1, q1⟩ => ?_
  obtain ⟨b, a, xs, e, hq, q⟩ := q1
  subst e
  cases r1
  cases b with
  | true =>
    obtain ⟨its, rv, p, hz⟩ := I1.list (SqL.of hq)
    refine wpAny_pyIter_list p.isList ?_
    refine ⟨s1.heap.objs.size, [s1.heap.objs.size], _, _, H1, rfl, I1.kept (t' := s1.toks) fun b o e => Heap.get?_push_of_some _ e, turn_list a _, ⟨_, Heap.get?_push_size _ rfl, rfl, rfl⟩, fun b hb => ?_, q⟩
    have e : b = s1.heap.objs.size := by simpa using hb
    subst e
    exact I1.fpOk (Nat.le_refl _) (I1.hok.fresh (Nat.le_refl _))
  | false =>
    obtain ⟨its, rv, p, hz⟩ := I1.tuple (SqT.of hq)
    refine wpAny_pyIter_tuple (show s1.heap.IsTuple a its.toArray from p) ?_
    refine ⟨s1.heap.objs.size, [s1.heap.objs.size], _, _, H1, rfl, I1.kept (t' := s1.toks) fun b o e => Heap.get?_push_of_some _ e, turn_tuple a _, ⟨_, Heap.get?_push_size _ rfl, rfl, rfl⟩, fun b hb => ?_, q⟩
    have e : b = s1.heap.objs.size := by simpa using hb
    subst e
    exact I1.fpOk (Nat.le_refl _) (I1.hok.fresh (Nat.le_refl _))
/-- a slice of a list or a tuple -/
def rSlSeq (K : PySem.W.Frag) : V → Option Int → Option Int → Hp → VK → Prop := fun x lo hi H Q => rSlL K x lo hi H Q ∨ rSlA K x lo hi H Q
theorem sl_seq {X : Cx} : SlR X (rSlSeq X.K) := SlR.or sl_list sl_tupA
/-! ### signs and their places -/
theorem at_one (al : List Nat) (c i : Nat) : PySem.StrLaws.At (S al) ⟨#[c]⟩ (S al).length i ↔ al[i]? = some c := by
  have h := PySem.StrLaws.subAt_one (S al) c i
  exact h
theorem find_sign {al : List Nat} {c : Nat} (h : c ∈ al) : ∃ r, Builtin.Str.occurrences (S al) ⟨#[c]⟩ 0 (S al).length 1 = al.idxOf c :: r := by
  rcases PySem.StrLaws.occ_head (S al) ⟨#[c]⟩ 1 (Nat.le_refl _) with ⟨_, hn⟩ | ⟨i, r, e, hi, hn⟩
  · obtain ⟨i, hi⟩ := List.mem_iff_getElem?.mp h
    exact absurd ((at_one al c i).mpr hi) (hn i)
  · refine ⟨r, ?_⟩
    rw [e]
    have hi' := (at_one al c i).mp hi
    obtain ⟨hil, hie⟩ := List.getElem?_eq_some_iff.mp hi'
    have key : al.idxOf c = i := by
      have h1 : al.idxOf c < al.length := List.idxOf_lt_length_iff.mpr h
      have h2 : al[al.idxOf c] = c := List.getElem_idxOf h1
      rcases Nat.lt_trichotomy (al.idxOf c) i with q | q | q
      · exact absurd ((at_one al c _).mpr (by rw [List.getElem?_eq_getElem h1, h2])) (hn _ q)
      · exact q
      · exact absurd hie (by
          have := List.not_of_lt_findIdx (p := (· == c)) (xs := al) (i := i) (by exact q)
          intro z
          simp [z] at this)
    rw [key]
def sp_letter_row : Sp := fun vs H Q _ => ∃ al t : List Nat, vs = [.str (S al), .str (S t)] ∧ (∀ c ∈ t, c ∈ al) ∧ t.length ≤ 1000 ∧ ∀ H' p, Same H H' → H p = none → H' p = some (.lst (iv (lets al t))) → Q (.ref p) H'
def sp_join_neighbors : Sp := fun vs H Q _ => ∃ (b : Bool) (a p : Addr) (row : List Nat) (l r m : Nat), vs = [.ref a, .ref p, .int (m : Int)] ∧ RowAt b H a row ∧ H p = some (.tup [.int (l : Int), .int (r : Int)]) ∧ m ≠ l ∧ row.length ≤ 1000 ∧
  ∀ H' q, Same H H' → H q = none → H' q = some (.lst (iv (pass l r m row))) → Q (.ref q) H'
/-- the pass as the program does it -/
def stepJ (l r m : Nat) (acc : List Nat) (x : Nat) : List Nat := if acc.getLast? = some l ∧ x = r then acc.dropLast ++ [m] else acc ++ [x]
theorem pass_m {l r m : Nat} (hm : m ≠ l) (t : List Nat) : pass l r m (m :: t) = m :: pass l r m t := by
  cases t with
  | nil => rfl
  | cons c t => rw [pass, if_neg fun q => hm q.1]
theorem stepJ_pass {l r m : Nat} (hm : m ≠ l) : ∀ (t : List Nat) (acc : List Nat) (a : Nat), t.foldl (stepJ l r m) (acc ++ [a]) = acc ++ pass l r m (a :: t)
  | [], acc, a => rfl
  | b :: t, acc, a => by
    rw [List.foldl_cons, pass]
    have hl : (acc ++ [a]).getLast? = some a := by rw [List.getLast?_append]; rfl
    by_cases c : a = l ∧ b = r
    · rw [if_pos c, stepJ, if_pos ⟨by rw [hl, c.1], c.2⟩, List.dropLast_concat, stepJ_pass hm t acc m, pass_m hm]
    · rw [if_neg c, stepJ, if_neg fun q => c ⟨Option.some.inj (hl.symm.trans q.1), q.2⟩, stepJ_pass hm t (acc ++ [a]) b, List.append_assoc]; rfl
theorem stepJ_all {l r m : Nat} (hm : m ≠ l) (row : List Nat) : row.foldl (stepJ l r m) [] = pass l r m row := by
  cases row with
  | nil => rfl
  | cons a t => exact stepJ_pass hm t [] a
theorem foldl_take_succ {α β : Type} {f : β → α → β} {l : List α} {i : Nat} {x : α} (h : l[i]? = some x) (b : β) : (l.take (i + 1)).foldl f b = f ((l.take i).foldl f b) x := by
  rw [List.take_add_one, h, List.foldl_append]; rfl
theorem stepJ_len (l r m : Nat) (acc : List Nat) (x : Nat) : (stepJ l r m acc x).length ≤ acc.length + 1 := by
  unfold stepJ
  split
  · rw [List.length_append, List.length_dropLast]; simp only [List.length_cons, List.length_nil]; omega
  · rw [List.length_append]; exact Nat.le_refl _
theorem foldJ_len (l r m : Nat) : ∀ (row acc : List Nat), (row.foldl (stepJ l r m) acc).length ≤ acc.length + row.length
  | [], acc => Nat.le_refl _
  | x :: row, acc => by
    rw [List.foldl_cons]
    have h1 := foldJ_len l r m row (stepJ l r m acc x)
    have h2 := stepJ_len l r m acc x
    rw [List.length_cons]; omega
theorem atI_neg1 {xs : List V} {v : V} (h : xs.getLast? = some v) : atI xs (-1) = some v := by
  obtain ⟨ys, rfl⟩ := List.getLast?_eq_some_iff.mp h
  exact atI_last ys v
theorem iv_last {l : List Nat} {n : Nat} (h : l.getLast? = some n) : (iv l).getLast? = some (V.int (n : Int)) := by
  obtain ⟨ys, rfl⟩ := List.getLast?_eq_some_iff.mp h
  rw [← iv_snoc, List.getLast?_append]; rfl
theorem ixN_neg1 {n : Nat} (h : 0 < n) : ixN n (-1) = some (n - 1) := by
  unfold ixN
  rw [if_neg (by omega), if_pos (by omega)]
  exact congrArg some (by omega)
theorem iv_set_last {l : List Nat} (m : Nat) (h : l ≠ []) : (iv l).set (l.length - 1) (V.int (m : Int)) = iv (l.dropLast ++ [m]) := by
  obtain ⟨ys, y, rfl⟩ : ∃ ys y, l = ys ++ [y] := ⟨l.dropLast, l.getLast h, (List.dropLast_concat_getLast h).symm⟩
  rw [List.dropLast_concat, ← iv_snoc, ← iv_snoc]
  have e : (ys ++ [y]).length - 1 = (iv ys).length := by rw [iv_len, List.length_append]; simp
  rw [e, List.set_append_right _ _ (Nat.le_refl _), Nat.sub_self]; rfl
theorem nat_eq_int (a b : Nat) : decide ((V.int (a : Int)) = V.int (b : Int)) = decide (a = b) := by
  apply decide_eq_decide.mpr
  constructor
  · intro h; injection h with h; omega
  · intro h; rw [h]
section
variable {P : Program} {w : World} {K : PySem.W.Frag} {mg : Str → Option Value} {base : Heap}
theorem ok_letter_row {f : Addr} {fd : FuncData} (F : C8.Fun K "letter_row" "letter_row" s_letter_row f fd) (T : Txt K mg) : FnOk P w K mg base C8.CX0 1 f fd ["alphabet", "text"] sp_letter_row := by
  refine C8.fn0 F sc_letter_row (fun vs H Q E h => ?_) (fun cdv A outer s H vs Q E hr h => ?_)
  · obtain ⟨al, t, rfl, _⟩ := h; rfl
  · obtain ⟨al, t, rfl, hm, hl, q⟩ := h
    refine ⟨_, (pss_cons (ps_set (i := 2) sc_letter_row.nd rfl (Or.inl rfl) (pe_lst pa_nil))
      (pss_cons (ps_for PassesOwn.never rfl (pi_enumG rfl T.b_enumerate (pa_cons (pv 1) pa_nil)) (pg_tup rfl (pgs_cons (pg_name (i := 3) sc_letter_row.nd rfl (Or.inl rfl)) (pgs_cons (pg_name (i := 4) sc_letter_row.nd rfl (Or.inl rfl)) pgs_nil))) (pss_cons (ps_set (i := 5) sc_letter_row.nd rfl (Or.inl rfl) (pe_bm PySem.F.plainAttrs_str PySem.F.slot_str_find PySem.F.type_str_find mt_find (pv 0) (pa_cons (pv 4) pa_nil)))
      (pss_cons (ps_if (pt_cmpR op_lt (pv 5) pe_int (nomark _)) (pss_one ps_never) pss_nil)
      (pss_one (ps_expr (pe_bm PySem.F.plainAttrs_list PySem.F.slot_list_append PySem.F.type_list_append mt_append (pv 2) (pa_cons (pv 5) pa_nil)))))))
      (pss_one (ps_ret (pv 2))))), ?_⟩
    refine ⟨by show (0 : Nat) ≤ sizeLine; exact Nat.zero_le _, fun p hp => ?_⟩
    refine ⟨_, rfl, _, _, _, _, rfl, src_text _ t, for_it walkG (fun i σ H' => ∃ v3 v4 v5 : Option V, σ = [some (.str (S al)), some (.str (S t)), some (.ref p), v3, v4, v5] ∧ Same H H' ∧ H' p = some (.lst (iv (lets al (t.take i))))) ⟨none, none, none, rfl, same_new hp, upd_same⟩ (fun _ _ _ _ _ => trivial) ?_ ?_⟩
    · rintro i x σ H1 H2 hi ⟨v3, v4, v5, rfl, s1, hd⟩ ⟨Tt, xs, rfl, hT, rfl, v, ⟨c, hc, rfl⟩, rfl⟩
      rw [S_get] at hc
      obtain ⟨r, hfind⟩ := find_sign (hm c (List.mem_of_getElem? hc))
      refine ⟨Tt, _, rfl, SqT.of upd_same, rfl, _, _, rfl, _, _, rfl, rfl, ?_⟩
      refine ⟨_, rfl, rfl, _, rfl, S al, ⟨#[c]⟩, rfl, rfl, ?_⟩
      have hf : Txt.find (S al) ⟨#[c]⟩ = (al.idxOf c : Int) := by unfold Txt.find; rw [hfind]
      rw [hf]
      refine ⟨_, rfl, _, _, rfl, rfl, _, rfl, ?_⟩
      rw [decide_eq_false (by omega : ¬ (al.idxOf c : Int) < 0)]
      refine iteF ?_
      have hne : p ≠ Tt := ne_of_none hd hT
      have hd2 : upd H1 Tt (.tup [.int (i : Int), .str ⟨#[c]⟩]) p = some (.lst (iv (lets al (t.take i)))) := (upd_ne hne).trans hd
      refine ⟨_, rfl, .inl ⟨rfl, _, SqL.of hd2⟩, _, rfl, p, _, _, rfl, rfl, hd2, ?_, ?_⟩
      · rw [iv_len, lets, List.length_map, List.length_take]
        exact small1000 (by omega)
      · refine ⟨_, _, _, rfl, Same.put (Same.new s1 hT) hp, ?_⟩
        rw [upd_same, iv_snoc, lets, lets, map_take_succ hc]
    · rintro σ H1 ⟨v3, v4, v5, rfl, s1, hd⟩
      rw [List.take_length] at hd
      exact ⟨_, rfl, q H1 p s1 hp hd⟩
theorem ok_join_neighbors {f : Addr} {fd : FuncData} (F : C8.Fun K "join_neighbors" "join_neighbors" s_join_neighbors f fd) (T : Txt K mg) : FnOk P w K mg base C8.CX0 1 f fd ["row", "pair", "piece"] sp_join_neighbors := by
  refine C8.fn0 F sc_join_neighbors (fun vs H Q E h => ?_) (fun cdv A outer s H vs Q E hr h => ?_)
  · obtain ⟨b, a, p, row, l, r, m, rfl, _⟩ := h; rfl
  · obtain ⟨b, a, p, row, l, r, m, rfl, hrow, hpair, hm, hl, q⟩ := h
    refine ⟨_, (pss_cons (ps_asg (pv 1) (pg_tup rfl (pgs_cons (pg_name (i := 3) sc_join_neighbors.nd rfl (Or.inl rfl)) (pgs_cons (pg_name (i := 4) sc_join_neighbors.nd rfl (Or.inl rfl)) pgs_nil))))
      (pss_cons (ps_set (i := 5) sc_join_neighbors.nd rfl (Or.inl rfl) (pe_lst pa_nil))
      (pss_cons (ps_for PassesOwn.never rfl (pi_seq (pv 0)) (pg_name (i := 6) sc_join_neighbors.nd rfl (Or.inl rfl)) (pss_one (ps_if (PW.pt (pw_and (pt_truth (pv 5) (fun _ => rfl)) (pw_and (pt_cmpR op_eq (pe_ix ix_list (pv 5) (pe_un un_neg pe_int) (fun _ _ => rfl)) (pv 3) (nomark _)) (pw_and1 (pt_cmpR op_eq (pv 6) (pv 4) (nomark _)))))) (pss_one (ps_asg (pv 2) (pg_sub (pv 5) (pe_un un_neg pe_int) set_list))) (pss_one (ps_expr (pe_bm PySem.F.plainAttrs_list PySem.F.slot_list_append PySem.F.type_list_append mt_append (pv 5) (pa_cons (pv 6) pa_nil)))))))
      (pss_one (ps_ret (pv 5)))))), ?_⟩
    refine ⟨_, rfl, p, _, rfl, SqT.of hpair, rfl, _, _, rfl, _, _, rfl, rfl, ?_⟩
    refine ⟨by show (0 : Nat) ≤ sizeLine; exact Nat.zero_le _, fun J hJ => ?_⟩
    refine ⟨_, rfl, b, a, iv row, rfl, hrow.same (same_new hJ), for_it walk_seq (fun i σ H' => ∃ v6 : Option V, σ = [some (.ref a), some (.ref p), some (.int (m : Int)), some (.int (l : Int)), some (.int (r : Int)), some (.ref J), v6] ∧ Same H H' ∧ H' J = some (.lst (iv ((row.take i).foldl (stepJ l r m) []))))
        ⟨none, rfl, same_new hJ, upd_same⟩ (fun _ _ _ _ ⟨_, _, s1, _⟩ => hrow.same s1) ?_ ?_⟩
    · rintro i x σ H1 H2 hi ⟨v6, rfl, s1, hd⟩ ⟨rfl, hx⟩
      obtain ⟨n, hn, rfl⟩ := iv_get hx
      have hfold := foldl_take_succ (f := stepJ l r m) hn []
      have hlen : ((row.take i).foldl (stepJ l r m) []).length < sizeLine := small1000 (by
        have h1 := foldJ_len l r m (row.take i) []
        rw [List.length_take] at h1
        simp only [List.length_nil] at h1; omega)
      generalize hacc : (row.take i).foldl (stepJ l r m) [] = acc at hd hfold hlen
      refine ⟨_, rfl, _, .inl ⟨_, SqL.of hd, rfl⟩, ?_⟩
      have fin : ∀ (acc' : List Nat), acc' = stepJ l r m acc n → ∃ v6 : Option V, [some (V.ref a), some (.ref p), some (.int (m : Int)), some (.int (l : Int)), some (.int (r : Int)), some (.ref J), some (.int (n : Int))] = [some (V.ref a), some (.ref p), some (.int (m : Int)), some (.int (l : Int)), some (.int (r : Int)), some (.ref J), v6] ∧ Same H (upd H2 J (.lst (iv acc'))) ∧ (upd H2 J (.lst (iv acc'))) J = some (.lst (iv ((row.take (i + 1)).foldl (stepJ l r m) []))) := fun acc' e =>
        ⟨_, rfl, Same.put s1 hJ, by rw [upd_same, hfold, e]⟩
      cases hq : acc.getLast? with
      | none =>
        have e : acc = [] := List.getLast?_eq_none_iff.mp hq
        have hc : ¬ (acc.getLast? = some l ∧ n = r) := by rw [hq]; rintro ⟨q, _⟩; cases q
        have e2 : (!(iv acc).isEmpty) = false := by rw [e]; rfl
        rw [e2]
        refine iteF (iteF ?_)
        refine ⟨_, rfl, .inl ⟨rfl, _, SqL.of hd⟩, _, rfl, J, _, _, rfl, rfl, hd, by rw [iv_len]; exact hlen, ?_⟩
        rw [iv_snoc]
        exact fin _ (by rw [stepJ, if_neg hc])
      | some z =>
        have e2 : (!(iv acc).isEmpty) = true := by
          obtain ⟨ys, e⟩ := List.getLast?_eq_some_iff.mp hq
          rw [e, ← iv_snoc]; simp
        rw [e2]
        refine iteT ⟨_, rfl, _, rfl, J, iv acc, _, _, rfl, rfl, SqL.of hd, atI_neg1 (iv_last hq), _, rfl, rfl, _, rfl, ?_⟩
        rw [nat_eq_int]
        by_cases c1 : z = l
        · rw [decide_eq_true c1]
          refine iteT ⟨_, rfl, _, rfl, rfl, _, rfl, ?_⟩
          rw [nat_eq_int]
          by_cases c2 : n = r
          · rw [decide_eq_true c2]
            have hne : acc ≠ [] := by intro e; rw [e] at hq; cases hq
            have hpos : 0 < acc.length := List.length_pos_iff.mpr hne
            refine iteT ⟨_, rfl, _, rfl, _, rfl, J, iv acc, _, acc.length - 1, rfl, rfl, hd, by rw [iv_len]; exact ixN_neg1 hpos, ?_⟩
            rw [iv_set_last m hne]
            exact fin _ (by rw [stepJ, if_pos ⟨by rw [hq, c1], c2⟩])
          · rw [decide_eq_false c2]
            have hc : ¬ (acc.getLast? = some l ∧ n = r) := fun q => c2 q.2
            refine iteF ?_
            refine ⟨_, rfl, .inl ⟨rfl, _, SqL.of hd⟩, _, rfl, J, _, _, rfl, rfl, hd, by rw [iv_len]; exact hlen, ?_⟩
            rw [iv_snoc]
            exact fin _ (by rw [stepJ, if_neg hc])
        · rw [decide_eq_false c1]
          have hc : ¬ (acc.getLast? = some l ∧ n = r) := by rw [hq]; rintro ⟨q, _⟩; exact c1 (Option.some.inj q)
          refine iteF (iteF ?_)
          refine ⟨_, rfl, .inl ⟨rfl, _, SqL.of hd⟩, _, rfl, J, _, _, rfl, rfl, hd, by rw [iv_len]; exact hlen, ?_⟩
          rw [iv_snoc]
          exact fin _ (by rw [stepJ, if_neg hc])
    · rintro σ H1 ⟨v6, rfl, s1, hd⟩
      rw [iv_len, List.take_length, stepJ_all hm] at hd
      exact ⟨_, rfl, q H1 J s1 hJ hd⟩
end
end RJ
end

section
set_option maxRecDepth 100000
set_option maxHeartbeats 2000000
namespace RJ
open PySem PySem.Spec PyProof.Rows L2
open PySem.W (minD AlikeAll alike alikeAll dataLt)
/-! ### the dict of ranks -/
def pkey (p : Nat × Nat) : List Key := [.inl (p.1 : Int), .inl (p.2 : Int)]
theorem pkey_inj {p q : Nat × Nat} (h : pkey p = pkey q) : p = q := by
  obtain ⟨a, b⟩ := p
  obtain ⟨c, d⟩ := q
  have h' : ([.inl (a : Int), .inl (b : Int)] : List Key) = [.inl (c : Int), .inl (d : Int)] := h
  injection h' with h1 h2
  injection h2 with h2 h3
  injection h1 with h1
  injection h2 with h2
  have e1 : a = c := by omega
  have e2 : b = d := by omega
  rw [e1, e2]
def kvsF : Nat → List (Nat × Nat) → List (List Key × V)
  | _, [] => []
  | k, p :: ps => (pkey p, V.int (k : Int)) :: kvsF (k + 1) ps
theorem kvsF_len : ∀ (k : Nat) (ps : List (Nat × Nat)), (kvsF k ps).length = ps.length
  | _, [] => rfl
  | k, p :: ps => congrArg (· + 1) (kvsF_len (k + 1) ps)
theorem kvsF_snoc : ∀ (k : Nat) (ps : List (Nat × Nat)) (p : Nat × Nat), kvsF k (ps ++ [p]) = kvsF k ps ++ [(pkey p, V.int ((k + ps.length : Nat) : Int))]
  | k, [], p => rfl
  | k, q :: ps, p => by
    show (pkey q, V.int (k : Int)) :: kvsF (k + 1) (ps ++ [p]) = (pkey q, V.int (k : Int)) :: (kvsF (k + 1) ps ++ _)
    rw [kvsF_snoc (k + 1) ps p, show k + 1 + ps.length = k + (q :: ps).length by rw [List.length_cons]; omega]
theorem idxOf_ne {p q : Nat × Nat} (ps : List (Nat × Nat)) (h : ¬ q = p) : (q :: ps).idxOf p = ps.idxOf p + 1 := by
  rw [List.idxOf_cons]
  have : (q == p) = false := beq_eq_false_iff_ne.mpr h
  rw [this]; rfl
theorem kvsF_get (p : Nat × Nat) : ∀ (k : Nat) (ps : List (Nat × Nat)), valV (kvsF k ps) (pkey p) = if p ∈ ps then some (V.int ((k + ps.idxOf p : Nat) : Int)) else none
  | k, [] => by rw [if_neg List.not_mem_nil]; exact valV_nil
  | k, q :: ps => by
    show valV ((pkey q, V.int (k : Int)) :: kvsF (k + 1) ps) (pkey p) = _
    by_cases h : q = p
    · subst h
      rw [valV_pos (p := (pkey q, V.int (k : Int))) rfl, if_pos (List.mem_cons_self ..), List.idxOf_cons_self]; rfl
    · rw [valV_neg (p := (pkey q, V.int (k : Int))) fun z => h (pkey_inj z), kvsF_get p (k + 1) ps]
      by_cases hm : p ∈ ps
      · have e : List.idxOf p (q :: ps) = ps.idxOf p + 1 := idxOf_ne _ h
        rw [if_pos hm, if_pos (List.mem_cons_of_mem _ hm), e, show k + 1 + ps.idxOf p = k + (ps.idxOf p + 1) by omega]
      · rw [if_neg hm, if_neg fun z => by
          rcases List.mem_cons.mp z with e | e
          · exact h e.symm
          · exact hm e]
theorem idxOf_get {p : Nat × Nat} {ps : List (Nat × Nat)} (h : p ∈ ps) : ps[ps.idxOf p]? = some p := by
  have h1 : ps.idxOf p < ps.length := List.idxOf_lt_length_iff.mpr h
  rw [List.getElem?_eq_getElem h1, List.getElem_idxOf h1]
theorem idxOf_le {p : Nat × Nat} : ∀ {ps : List (Nat × Nat)} {j : Nat}, ps[j]? = some p → ps.idxOf p ≤ j
  | [], j, h => by cases h
  | q :: ps, j, h => by
    by_cases e : q = p
    · subst e; rw [List.idxOf_cons_self]; exact Nat.zero_le _
    · cases j with
      | zero => exact absurd (Option.some.inj h) e
      | succ j =>
        rw [idxOf_ne _ e]
        exact Nat.succ_le_succ (idxOf_le h)
/-! ### tuples stay -/
def SameT (H H' : Hp) : Prop := ∀ b xs, H b = some (.tup xs) → H' b = some (.tup xs)
theorem Same.t {H H' : Hp} (s : Same H H') : SameT H H' := fun b xs e => s b _ e
theorem SameT.put {H : Hp} {p : Addr} {o : HO} {xs : List V} (h : H p = some (.lst xs)) : SameT H (upd H p o) := fun b ys e => by
  rw [upd_ne (ne_of e h (by intro z; cases z))]; exact e
/-- a rank and its pair, as a tuple -/
def TripAt (H : Hp) (v : V) (x : Nat × (Nat × Nat)) : Prop := ∃ t q, v = .ref t ∧ H t = some (.tup [.int (x.1 : Int), .ref q]) ∧ H q = some (.tup [.int (x.2.1 : Int), .int (x.2.2 : Int)])
theorem TripAt.same {H H' : Hp} {v : V} {x : Nat × (Nat × Nat)} (h : TripAt H v x) (s : SameT H H') : TripAt H' v x := by
  obtain ⟨t, q, e, h1, h2⟩ := h
  exact ⟨t, q, e, s _ _ h1, s _ _ h2⟩
theorem Paired.snoc {α β : Type} {F : α → β → Prop} {x : α} {y : β} (r : F x y) : ∀ {xs : List α} {ys : List β}, Paired F xs ys → Paired F (xs ++ [x]) (ys ++ [y])
  | _, _, .nil => .cons r .nil
  | _, _, .cons a t => .cons a (Paired.snoc r t)
theorem Paired.at {α β : Type} {F : α → β → Prop} : ∀ {xs : List α} {ys : List β} {i : Nat} {x : α}, Paired F xs ys → xs[i]? = some x → ∃ y, ys[i]? = some y ∧ F x y
  | _, _, _, _, .nil, e => by simp at e
  | _, _, 0, _, .cons r _, e => by simp at e; subst e; exact ⟨_, rfl, r⟩
  | _, _, i + 1, x, .cons _ t, e => by
    obtain ⟨y, h1, h2⟩ := Paired.at (i := i) (x := x) t (by simpa using e)
    exact ⟨y, by simpa using h1, h2⟩
theorem Paired.at2 {α β : Type} {F : α → β → Prop} : ∀ {xs : List α} {ys : List β} {i : Nat} {y : β}, Paired F xs ys → ys[i]? = some y → ∃ x, xs[i]? = some x ∧ F x y
  | _, _, _, _, .nil, e => by simp at e
  | _, _, 0, _, .cons r _, e => by simp at e; subst e; exact ⟨_, rfl, r⟩
  | _, _, i + 1, y, .cons _ t, e => by
    obtain ⟨x, h1, h2⟩ := Paired.at2 (i := i) (y := y) t (by simpa using e)
    exact ⟨x, by simpa using h1, h2⟩
def tripD (x : Nat × (Nat × Nat)) : PyData := .tuple [.int (x.1 : Int), .tuple [.int (x.2.1 : Int), .int (x.2.2 : Int)]]
theorem tripD_inj {x y : Nat × (Nat × Nat)} (h : tripD x = tripD y) : x = y := by
  obtain ⟨a, b, c⟩ := x
  obtain ⟨a', b', c'⟩ := y
  injection h with h
  injection h with h1 h
  injection h with h2 h3
  injection h2 with h2
  injection h2 with h4 h5
  injection h5 with h5 h6
  injection h1 with h1
  injection h4 with h4
  injection h5 with h5
  have e1 : a = a' := by exact Int.ofNat.inj h1
  have e2 : b = b' := by exact Int.ofNat.inj h4
  have e3 : c = c' := by exact Int.ofNat.inj h5
  rw [e1, e2, e3]
theorem trips_dp {K : PySem.W.Frag} {H : Hp} : ∀ {xs : List V} {ts : List (Nat × (Nat × Nat))}, Paired (TripAt H) xs ts → DpAll K H xs (ts.map tripD)
  | _, _, .nil => .nil
  | _, _, .cons ⟨t, q, e, h1, h2⟩ r => by
    subst e
    exact .cons (.tup (SqT.of h1) (.cons (.int _) (.cons (.tup (SqT.of h2) (.cons (.int _) (.cons (.int _) .nil))) .nil))) (trips_dp r)
theorem trips_alike (ts : List (Nat × (Nat × Nat))) : AlikeAll (ts.map tripD) := by
  refine ⟨fun x hx y hy => ?_, fun x hx e => ?_⟩
  · obtain ⟨a, _, rfl⟩ := List.mem_map.mp hx
    obtain ⟨b, _, rfl⟩ := List.mem_map.mp hy
    simp [tripD, alike, alikeAll]
  · obtain ⟨a, _, rfl⟩ := List.mem_map.mp hx
    cases e
theorem trips_depth : ∀ ts : List (Nat × (Nat × Nat)), PyData.depthAll (ts.map tripD) ≤ 60
  | [] => by simp [PyData.depthAll]
  | t :: ts => by
    have ih := trips_depth ts
    rw [List.map_cons, PyData.depthAll]
    refine Nat.max_le.mpr ⟨?_, ih⟩
    simp [tripD, PyData.depth, PyData.depthAll]
def rkD : PyData → Int
  | .tuple (.int r :: _) => r
  | _ => 0
theorem trip_lt {x y : Nat × (Nat × Nat)} : (dataLt (tripD x) (tripD y) = true → rkD (tripD x) ≤ rkD (tripD y)) ∧ (dataLt (tripD x) (tripD y) = false → rkD (tripD y) ≤ rkD (tripD x)) := by
  have h := PySem.W.dataLt_pair (x := .int (x.1 : Int)) (y := .tuple [.int (x.2.1 : Int), .int (x.2.2 : Int)]) (x' := .int (y.1 : Int)) (y' := .tuple [.int (y.2.1 : Int), .int (y.2.2 : Int)]) (by simp [alike]) (by simp [alike, alikeAll])
  have h' : dataLt (tripD x) (tripD y) = _ := h
  show (dataLt (tripD x) (tripD y) = true → (x.1 : Int) ≤ (y.1 : Int)) ∧ (dataLt (tripD x) (tripD y) = false → (y.1 : Int) ≤ (x.1 : Int))
  rw [h']
  by_cases e : (x.1 : Int) = (y.1 : Int)
  · exact ⟨fun _ => Int.le_of_eq e, fun _ => Int.le_of_eq e.symm⟩
  · have e2 : PyData.eqv (.int (x.1 : Int)) (.int (y.1 : Int)) = false := by
      rw [PyData.eqv]; exact beq_eq_false_iff_ne.mpr e
    rw [e2, if_neg Bool.false_ne_true, PySem.W.dataLt_int]
    refine ⟨fun z => ?_, fun z => ?_⟩
    · have := of_decide_eq_true z; omega
    · have := of_decide_eq_false z; omega
theorem slSeq_from1 {K : PySem.W.Frag} {b : Bool} {a : Addr} {xs : List V} {H : Hp} {Q : VK} (h : SeqAt b H a xs) (k : ∀ H1 q, Same H H1 → SeqAt b H1 q (xs.drop 1) → Q (.ref q) H1) : rSlSeq K (.ref a) (some 1) none H Q := by
  have ecut : cutV xs (some 1) none = xs.drop 1 := by
    unfold cutV
    rw [show (some (1 : Int)) = some ((1 : Nat) : Int) from rfl, HT.sIx_nat, HT.sIx_none]
    by_cases hl : 1 ≤ xs.length
    · rw [Nat.min_eq_left hl, List.take_of_length_le (by rw [List.length_drop]; exact Nat.le_refl _)]
    · have : xs = [] := List.eq_nil_of_length_eq_zero (by omega)
      subst this; rfl
  cases b with
  | true => exact .inl ⟨a, xs, rfl, SqL.of h, fun p hp => k _ p (same_new hp) (by rw [ecut]; exact upd_same)⟩
  | false =>
    refine .inr ⟨a, xs, rfl, SqT.of h, fun hw => k _ a (Same.refl H) ?_, fun _ p hp => k _ p (same_new hp) (by rw [ecut]; exact upd_same)⟩
    have hz := hw.1
    rw [show (some (1 : Int)) = some ((1 : Nat) : Int) from rfl, HT.sIx_nat] at hz
    have : xs = [] := List.eq_nil_of_length_eq_zero (by omega)
    subst this
    exact h
theorem src_seq {b : Bool} {H : Hp} {a : Addr} {xs : List V} (h : SeqAt b H a xs) : SrcV H (.ref a) xs.length (fun H => SeqAt b H a xs) (fun i v => xs[i]? = some v) := by
  cases b with
  | true => exact .inr (.inr ⟨a, xs, rfl, h, rfl, rfl, rfl⟩)
  | false => exact .inr (.inl ⟨a, xs, rfl, h, rfl, rfl, rfl⟩)
/-- the joins that are there, by places -/
def found (ps : List (Nat × Nat)) (row : List Nat) : List (Nat × (Nat × Nat)) := ((adjs row).filter fun p => decide (p ∈ ps)).map fun p => (ps.idxOf p, p)
def foundTo (ps : List (Nat × Nat)) (l : List (Nat × Nat)) : List (Nat × (Nat × Nat)) := (l.filter fun p => decide (p ∈ ps)).map fun p => (ps.idxOf p, p)
theorem foundTo_snoc (ps l : List (Nat × Nat)) (p : Nat × Nat) : foundTo ps (l ++ [p]) = if p ∈ ps then foundTo ps l ++ [(ps.idxOf p, p)] else foundTo ps l := by
  unfold foundTo
  rw [List.filter_append, List.map_append]
  by_cases h : p ∈ ps
  · rw [if_pos h, List.filter_cons_of_pos (by simpa using h)]; rfl
  · rw [if_neg h, List.filter_cons_of_neg (by simpa using h)]
    exact List.append_nil _
theorem foundTo_len (ps l : List (Nat × Nat)) : (foundTo ps l).length ≤ l.length := by
  unfold foundTo
  rw [List.length_map]; exact List.length_filter_le _ _
/-- what lowest holds -/
def LowAt (H : Hp) (ps : List (Nat × Nat)) (row : List Nat) (v : V) : Prop :=
  (v = .non ∧ ∀ p ∈ ps, p ∉ adjs row) ∨ ∃ (p : Nat × Nat) (r : Nat) (t q : Addr), v = .ref t ∧ H t = some (.tup [.int (r : Int), .ref q]) ∧ H q = some (.tup [.int (p.1 : Int), .int (p.2 : Int)]) ∧ ps[r]? = some p ∧ p ∈ adjs row ∧ ∀ (j : Nat) q, j < r → ps[j]? = some q → q ∉ adjs row
def sp_lowest_join : Sp := fun vs H Q _ => ∃ (d a : Addr) (b : Bool) (ps : List (Nat × Nat)) (row : List Nat), vs = [.ref d, .ref a] ∧ H d = some (.dT (kvsF 0 ps)) ∧ RowAt b H a row ∧ row.length ≤ 1000 ∧
  ∀ H' v, Same H H' → LowAt H' ps row v → Q v H'
section
variable {P : Program} {w : World} {K : PySem.W.Frag} {mg : Str → Option Value} {base : Heap}
theorem ok_lowest_join {f : Addr} {fd : FuncData} (F : C8.Fun K "lowest_join" "lowest_join" s_lowest_join f fd) (T : Txt K mg) : FnOk P w K mg base C8.CX0 1 f fd ["ranks", "row"] sp_lowest_join := by
  refine C8.fn0 F sc_lowest_join (fun vs H Q E h => ?_) (fun cdv A outer s H vs Q E hr h => ?_)
  · obtain ⟨d, a, b, ps, row, rfl, _⟩ := h; rfl
  · obtain ⟨d, a, b, ps, row, rfl, hd, hrow, hl, q⟩ := h
    have q0 : (∀ p ∈ ps, p ∉ adjs row) → ∀ H', Same H H' → Q .non H' := fun hno H' s1 => q H' .non s1 (.inl ⟨rfl, hno⟩)
    have q1 : ∀ (p : Nat × Nat) (r : Nat), ps[r]? = some p → p ∈ adjs row → (∀ (j : Nat) q, j < r → ps[j]? = some q → q ∉ adjs row) → ∀ H' t q, Same H H' → H' t = some (.tup [.int (r : Int), .ref q]) → H' q = some (.tup [.int (p.1 : Int), .int (p.2 : Int)]) → Q (.ref t) H' :=
      fun p r hp ha hlo H' t q' s1 h1 h2 => q H' (.ref t) s1 (.inr ⟨p, r, t, q', rfl, h1, h2, hp, ha, hlo⟩)
    have hu := hu_of hr
    have hu64 := hu64_of hr
    refine ⟨_, (pss_one (ps_ret (pe_callBK (cr_minD rfl hu64) (by rfl) T.b_min (by decide +kernel) (pa_cons (pe_lc (own := [("pair", 2)]) (g := gName 2)  rfl sc_lowest_join.nd (pi_zipN rfl T.b_zip (pa_cons (pv 1) (pa_cons (pe_slice sl_seq (pv 1) (po_some pe_int) po_none) pa_nil))) (blkOk_by (N := N_lowest_join) (sc := C8.fnScope s_lowest_join) (by decide +kernel)) (fun _ _ _ _ _ => (pg_name (i := 2) sc_lowest_join.nd rfl (Or.inl rfl))) (fun _ _ _ _ _ => pts_one (pt_cmp (pc_din hu (pv 2) (pv 0)))) (fun _ _ _ _ _ => (pe_tup (pa_cons (pe_dget hu (pv 0) (pv 2) (fun _ _ => rfl)) (pa_cons (pv 2) pa_nil))))) pa_nil) (pk_cons pe_non pk_nil)))), ?_⟩
    refine ⟨_, rfl, _, rfl, 1, rfl, slSeq_from1 hrow fun H1 qa s1 hq => ?_⟩
    have hrow1 := hrow.same s1
    refine ⟨_, _, _, _, _, _, _, _, rfl, src_seq hrow1, src_seq hq, fun D hD => ?_⟩
    have hD0 : H D = none := s1.free hD
    have hn : min (iv row).length ((iv row).drop 1).length = (adjs row).length := by
      unfold adjs
      rw [List.length_zip, iv_len, List.length_drop, iv_len, List.length_tail]
    rw [hn]
    refine lc_it walkG (fun i H' => Same H1 H' ∧ ∃ xs, H' D = some (.lst xs) ∧ Paired (TripAt H') xs (foundTo ps ((adjs row).take i))) ⟨same_new hD, [], upd_same, .nil⟩ (fun i H' _ ⟨s2, _⟩ => ⟨hrow1.same s2, hq.same s2⟩) ?_ ?_
    · rintro i x H2 H3 hi ⟨s2, xs, hxs, hP⟩ ⟨Tt, ys, rfl, hT, rfl, v1, v2, h1, h2, rfl⟩
      obtain ⟨n1, hn1, rfl⟩ := iv_get h1
      have h2' : (iv row)[i + 1]? = some v2 := by rw [List.getElem?_drop] at h2; rw [Nat.add_comm]; exact h2
      obtain ⟨n2, hn2, rfl⟩ := iv_get h2'
      have hadj : (adjs row)[i]? = some (n1, n2) := by
        unfold adjs
        rw [List.getElem?_zip_eq_some]; exact ⟨hn1, by rw [List.getElem?_tail]; exact hn2⟩
      have hne : D ≠ Tt := ne_of_none hxs hT
      have hd3 : upd H2 Tt (.tup [.int (n1 : Int), .int (n2 : Int)]) d = some (.dT (kvsF 0 ps)) := (Same.new s2 hT) _ _ (s1 _ _ hd)
      have hg : DGet (upd H2 Tt (.tup [.int (n1 : Int), .int (n2 : Int)])) d (.ref Tt) (if (n1, n2) ∈ ps then some (V.int ((0 + ps.idxOf (n1, n2) : Nat) : Int)) else none) := by
        rw [← kvsF_get]
        exact DGet.t (k := pkey (n1, n2)) hd3 upd_same
      have hxs3 : upd H2 Tt (.tup [.int (n1 : Int), .int (n2 : Int)]) D = some (.lst xs) := (upd_ne hne).trans hxs
      have htk : (adjs row).take (i + 1) = (adjs row).take i ++ [(n1, n2)] := take_succ_of hadj
      have hlen : xs.length < sizeLine := small1000 (by
        have e1 := hP.length
        have e2 := foundTo_len ps ((adjs row).take i)
        rw [List.length_take] at e2
        have e3 : (adjs row).length ≤ row.length := by unfold adjs; rw [List.length_zip]; exact Nat.min_le_left _ _
        omega)
      refine ⟨rfl, _, rfl, _, rfl, d, _, rfl, hg, _, rfl, ?_⟩
      by_cases hm : (n1, n2) ∈ ps
      · rw [if_pos hm] at hg ⊢
        refine iteT ⟨_, rfl, _, rfl, d, _, rfl, hg, _, rfl, by show 2 ≤ sizeLine; decide, fun p hp => ?_⟩
        have hpD : D ≠ p := ne_of_none hxs3 hp
        have s4 : Same H2 (upd (upd H2 Tt (.tup [.int (n1 : Int), .int (n2 : Int)])) p (.tup [.int ((0 + ps.idxOf (n1, n2) : Nat) : Int), .ref Tt])) := Same.new (same_new hT) hp
        have hxs4 : (upd (upd H2 Tt (.tup [.int (n1 : Int), .int (n2 : Int)])) p (.tup [.int ((0 + ps.idxOf (n1, n2) : Nat) : Int), .ref Tt])) D = some (.lst xs) := (upd_ne hpD).trans hxs3
        refine ⟨xs, hxs4, hlen, Same.put (s2.trans s4) hD, _, upd_same, ?_⟩
        rw [htk, foundTo_snoc, if_pos hm]
        refine Paired.snoc ⟨p, Tt, rfl, SameT.put hxs4 _ _ (by rw [upd_same, Nat.zero_add]), SameT.put hxs4 _ _ ((upd_ne (ne_of_none upd_same hp)).trans upd_same)⟩ ?_
        exact Paired.mapP hP fun v t ht => ht.same fun b ys e => SameT.put hxs4 _ _ (s4 _ _ e)
      · rw [if_neg hm]
        refine iteF ⟨s2.trans (same_new hT), xs, hxs3, ?_⟩
        rw [htk, foundTo_snoc, if_neg hm]
        exact Paired.mapP hP fun v t ht => ht.same fun b ys e => same_new hT _ _ e
    · rintro H2 ⟨s2, xs, hxs, hP⟩
      rw [List.take_length] at hP
      refine ⟨D, xs, _, rfl, rfl, hxs, trips_dp hP, trips_alike _, trips_depth _, fun e => ?_, fun y ys i x e hx hmin => ?_⟩
      · refine q0 (fun p hp hadj => ?_) H2 (s1.trans s2)
        have e' : foundTo ps (adjs row) = [] := List.map_eq_nil_iff.mp e
        have e'' : (adjs row).filter (fun p => decide (p ∈ ps)) = [] := List.map_eq_nil_iff.mp e'
        have : p ∈ (adjs row).filter (fun p => decide (p ∈ ps)) := List.mem_filter.mpr ⟨hadj, by simpa using hp⟩
        rw [e''] at this; cases this
      · obtain ⟨t, ht, t1, q, rfl, h1, h2⟩ := Paired.at hP hx
        have hmem := List.mem_of_getElem? ht
        obtain ⟨p, hp, rfl⟩ := List.mem_map.mp hmem
        obtain ⟨hpa, hpp⟩ := List.mem_filter.mp hp
        have hpp' : p ∈ ps := by simpa using hpp
        have hget : ((foundTo ps (adjs row)).map tripD)[i]? = some (tripD (ps.idxOf p, p)) := by rw [List.getElem?_map, ht]; rfl
        rw [hget] at hmin
        have hmin' := (Option.some.inj hmin).symm
        refine q1 p (ps.idxOf p) (idxOf_get hpp') hpa (fun j q' hj ej hq' => ?_) H2 t1 q (s1.trans s2) h1 h2
        have hle := minD_le (rk := rkD) (Ok := fun d => ∃ x, d = tripD x) (fun x y ⟨a, ha⟩ ⟨b, hb⟩ => by rw [ha, hb]; exact trip_lt.1) (fun x y ⟨a, ha⟩ ⟨b, hb⟩ => by rw [ha, hb]; exact trip_lt.2) ys y
          (fun z hz => by rw [← e] at hz; obtain ⟨a, _, rfl⟩ := List.mem_map.mp hz; exact ⟨a, rfl⟩)
          (tripD (ps.idxOf q', q')) (by
            rw [← e]
            exact List.mem_map.mpr ⟨_, List.mem_map.mpr ⟨q', List.mem_filter.mpr ⟨hq', by simpa using List.mem_of_getElem? ej⟩, rfl⟩, rfl⟩)
        rw [hmin'] at hle
        have hle' : ((ps.idxOf p : Nat) : Int) ≤ ((ps.idxOf q' : Nat) : Int) := hle
        have := idxOf_le ej
        omega
end
end RJ
end

section
set_option maxRecDepth 100000
set_option maxHeartbeats 2000000
namespace RJ
open PySem PySem.Spec PyProof.Rows L2
def sp_join_down : Sp := fun vs H Q _ => ∃ (d a : Addr) (k : Bool) (b : Nat) (ps : List (Nat × Nat)) (row : List Nat), vs = [.ref d, .int (b : Int), .ref a] ∧ H d = some (.dT (kvsF 0 ps)) ∧ WF b ps ∧ RowAt k H a row ∧ row.length ≤ 1000 ∧
  ∀ H' q k', Same H H' → (k = true → k' = true) → RowAt k' H' q (cutL b ps row) → Q (.ref q) H'
section
variable {P : Program} {w : World} {K : PySem.W.Frag} {mg : Str → Option Value} {base : Heap}
theorem ok_join_down {f : Addr} {fd : FuncData} (F : C8.Fun K "join_down" "join_down" s_join_down f fd) (T : Txt K mg) (c_lowest_join : C8.Cal P w K mg base 1 "lowest_join" sp_lowest_join []) (c_join_neighbors : C8.Cal P w K mg base 1 "join_neighbors" sp_join_neighbors []) :
    FnOk P w K mg base C8.CX0 2 f fd ["ranks", "letters", "row"] sp_join_down := by
  refine C8.fn0 F sc_join_down (fun vs H Q E h => ?_) (fun cdv A outer s H vs Q E hr h => ?_)
  · obtain ⟨d, a, k, b, ps, row, rfl, _⟩ := h; rfl
  · obtain ⟨d, a, k, b, ps, row, rfl, hd, hw, hrow, hl, q⟩ := h
    refine ⟨_, (pss_cons (ps_set (i := 3) sc_join_down.nd rfl (Or.inl rfl) (C8.pe_c c_lowest_join hr (by first | decide | omega) (by rfl) (pa_cons (pv 0) (pa_cons (pv 2) pa_nil))))
      (pss_cons (ps_while PassesOwn.never (pt_cmpR op_notN (pv 3) pe_non (nomark _)) (pss_cons (ps_asg (pv 3) (pg_tup rfl (pgs_cons (pg_name (i := 4) sc_join_down.nd rfl (Or.inl rfl)) (pgs_cons (pg_name (i := 5) sc_join_down.nd rfl (Or.inl rfl)) pgs_nil))))
      (pss_cons (ps_set (i := 2) sc_join_down.nd rfl (Or.inl rfl) (C8.pe_c c_join_neighbors hr (by first | decide | omega) (by rfl) (pa_cons (pv 2) (pa_cons (pv 5) (pa_cons (pe_op op_add (pv 1) (pv 4)) pa_nil)))))
      (pss_one (ps_set (i := 3) sc_join_down.nd rfl (Or.inl rfl) (C8.pe_c c_lowest_join hr (by first | decide | omega) (by rfl) (pa_cons (pv 0) (pa_cons (pv 2) pa_nil))))))))
      (pss_one (ps_ret (pv 2))))), ?_⟩
    refine ⟨_, rfl, _, rfl, d, a, k, ps, row, rfl, hd, hrow, hl, fun H1 v s1 lo => ?_⟩
    refine ⟨fun m σ H' => ∃ (v4 v5 : Option V) (a' : Addr) (k' : Bool) (row' : List Nat) (lv : V), σ = [some (V.ref d), some (.int (b : Int)), some (.ref a'), some lv, v4, v5] ∧ Same H H' ∧ (k = true → k' = true) ∧ RowAt k' H' a' row' ∧ cutL b ps row' = cutL b ps row ∧ m = row'.length ∧ row'.length ≤ 1000 ∧ LowAt H' ps row' lv,
        ⟨row.length, none, none, a, k, row, v, rfl, s1, fun h => h, hrow.same s1, rfl, rfl, hl, lo⟩, ?_⟩
    rintro m σ H2 ⟨v4, v5, a', k', row', lv, rfl, s2, hk, hr2, he, rfl, hl2, lo2⟩
    refine ⟨_, rfl, rfl, _, rfl, ?_⟩
    rcases lo2 with ⟨rfl, hno⟩ | ⟨p, r, t, q1, rfl, ht, hq, hp, hadj, hlow⟩
    · refine iteF ⟨_, rfl, q H2 a' k' s2 hk ?_⟩
      rw [← he, cut_done hno]; exact hr2
    · refine iteT ?_
      have hpw := hw r p hp
      refine ⟨fun σ' H' => ∃ m', m' < row'.length ∧ ∃ (v4 v5 : Option V) (a' : Addr) (k' : Bool) (row' : List Nat) (lv : V), σ' = [some (V.ref d), some (.int (b : Int)), some (.ref a'), some lv, v4, v5] ∧ Same H H' ∧ (k = true → k' = true) ∧ RowAt k' H' a' row' ∧ cutL b ps row' = cutL b ps row ∧ m' = row'.length ∧ row'.length ≤ 1000 ∧ LowAt H' ps row' lv, fun σ' H' z => z, ?_⟩
      refine ⟨_, rfl, t, _, rfl, SqT.of ht, rfl, _, _, rfl, _, _, rfl, rfl, ?_⟩
      refine ⟨_, rfl, _, rfl, _, rfl, _, rfl, _, _, rfl, rfl, k', a', q1, row', p.1, p.2, b + r, rfl, hr2, hq, by omega, hl2, fun H3 J s3 hJ hJ3 => ?_⟩
      have hlt := pass_lt (m := b + r) hadj
      refine ⟨_, rfl, _, rfl, d, J, true, ps, pass p.1 p.2 (b + r) row', rfl, s3 _ _ (s2 _ _ hd), hJ3, by omega, fun H4 v s4 lo4 => ?_⟩
      exact ⟨_, hlt, _, _, J, true, _, v, rfl, (s2.trans s3).trans s4, fun _ => rfl, s4 _ _ hJ3, by rw [← he]; exact cut_step hw hp row' hlow, rfl, by omega, lo4⟩
end
end RJ
end

section
set_option maxRecDepth 100000
set_option maxHeartbeats 2000000
namespace RJ
open PySem PySem.Spec PyProof.Rows L2
/-! ### data on the heap -/
def strV (ts : List (List Nat)) : List V := ts.map fun t => V.str (S t)
theorem strV_len (ts : List (List Nat)) : (strV ts).length = ts.length := by rw [strV, List.length_map]
theorem strV_snoc (ts : List (List Nat)) (t : List Nat) : strV ts ++ [V.str (S t)] = strV (ts ++ [t]) := by rw [strV, strV, List.map_append]; rfl
theorem strV_at {ts : List (List Nat)} {i : Nat} (h : i < ts.length) : (strV ts)[i]? = some (V.str (S (ts.getD i []))) := by
  rw [strV, List.getElem?_map, List.getD_eq_getElem?_getD, List.getElem?_eq_getElem h]; rfl
def PairAt (H : Hp) (v : V) (p : Nat × Nat) : Prop := ∃ q, v = .ref q ∧ H q = some (.tup [.int (p.1 : Int), .int (p.2 : Int)])
theorem PairAt.same {H H' : Hp} {v : V} {p : Nat × Nat} (h : PairAt H v p) (s : SameT H H') : PairAt H' v p := by
  obtain ⟨q, e, h1⟩ := h
  exact ⟨q, e, s _ _ h1⟩
abbrev PairsAt (H : Hp) (vs : List V) (ps : List (Nat × Nat)) : Prop := Paired (PairAt H) vs ps
theorem PairsAt.same {H H' : Hp} {vs : List V} {ps : List (Nat × Nat)} (h : PairsAt H vs ps) (s : SameT H H') : PairsAt H' vs ps := Paired.mapP h fun _ _ q => q.same s
theorem S_inj {a b : List Nat} (h : S a = S b) : a = b := SX.S_inj h
theorem S_cat (a b : List Nat) : S a ++ S b = S (a ++ b) := SX.S_cat a b
abbrev s_may_follow : Stmt := top 25
abbrev N_may_follow : List Str := ["alphabet", "texts", "ranks", "pair", "left", "right", "text"]
theorem sc_may_follow : FnScope N_may_follow ["alphabet", "texts", "ranks", "pair"] (C8.fnScope s_may_follow) := C8.fnScope_by (by decide +kernel)
def sp_may_follow : Sp := fun vs H Q _ => ∃ (al : List Nat) (ts : List (List Nat)) (ps : List (Nat × Nat)) (l r : Int) (tx d pr : Addr), vs = [.str (S al), .ref tx, .ref d, .ref pr] ∧ H tx = some (.lst (strV ts)) ∧ H d = some (.dT (kvsF 0 ps)) ∧ H pr = some (.tup [.int l, .int r]) ∧
  WF al.length ps ∧ (∀ t ∈ ts, ∀ c ∈ t, c ∈ al) ∧ (∀ t ∈ ts, t.length ≤ 40) ∧ al.length ≤ 1000 ∧ ts.length ≤ 1000 ∧
  (∀ p : Nat × Nat, l = (p.1 : Int) → r = (p.2 : Int) → okP al ts ps p → ∀ H', Same H H' → Q (.bl true) H') ∧ ((∀ p : Nat × Nat, l = (p.1 : Int) → r = (p.2 : Int) → ¬ okP al ts ps p) → ∀ H', Same H H' → Q (.bl false) H')
theorem numBelow_yes {i n : Nat} (h : i < n) : numBelow (.int (i : Int)) (n : Int) = true := by
  show (decide (0 ≤ (i : Int)) && decide ((i : Int) < (n : Int))) = true
  rw [decide_eq_true (by omega), decide_eq_true (by omega)]; rfl
theorem numBelow_int {l : Int} {n : Nat} (h : numBelow (.int l) (n : Int) = true) : ∃ a : Nat, l = (a : Int) ∧ a < n := by
  unfold numBelow at h
  rw [Bool.and_eq_true, decide_eq_true_eq, decide_eq_true_eq] at h
  exact ⟨l.toNat, by omega, by omega⟩
theorem iv_dp {K : PySem.W.Frag} {H : Hp} : ∀ l : List Nat, DpAll K H (iv l) (l.map fun (n : Nat) => PyData.int (n : Int))
  | [] => .nil
  | n :: l => .cons (.int _) (iv_dp l)
theorem eqv_iv : ∀ a b : List Nat, PyData.eqvAll (a.map fun (n : Nat) => PyData.int (n : Int)) (b.map fun (n : Nat) => PyData.int (n : Int)) = decide (a = b)
  | [], [] => by simp [PyData.eqvAll]
  | [], _ :: _ => by simp [PyData.eqvAll]
  | _ :: _, [] => by simp [PyData.eqvAll]
  | x :: a, y :: b => by
    rw [List.map_cons, List.map_cons, PyData.eqvAll, eqv_iv a b, PyData.eqv]
    by_cases h : x = y
    · subst h; simp
    · have : ((x : Int) == (y : Int)) = false := beq_eq_false_iff_ne.mpr (by omega)
      rw [this]
      simp [h]
theorem shaped_iv (l : List Nat) : SeqAt.shaped (.list (l.map fun (n : Nat) => PyData.int (n : Int))) = true := by
  have h1 : PyData.canLayAll0 (l.map fun (n : Nat) => PyData.int (n : Int)) = true := by
    induction l with
    | nil => simp [PyData.canLayAll0]
    | cons n l ih => rw [List.map_cons, PyData.canLayAll0, ih]; simp [PyData.canLay0]
  have h2 : PyData.depthAll (l.map fun (n : Nat) => PyData.int (n : Int)) = 0 := by
    clear h1
    induction l with
    | nil => simp [PyData.depthAll]
    | cons n l ih => rw [List.map_cons, PyData.depthAll, ih]; simp [PyData.depth]
  unfold SeqAt.shaped
  rw [PyData.canLay0, h1, PyData.depth, h2]; rfl
section
variable {P : Program} {w : World} {K : PySem.W.Frag} {mg : Str → Option Value} {base : Heap}
theorem ok_may_follow {f : Addr} {fd : FuncData} (F : C8.Fun K "may_follow" "may_follow" s_may_follow f fd) (T : Txt K mg) (c_is_number_below : C8.Cal P w K mg base 2 "is_number_below" sp_is_number_below []) (c_join_down : C8.Cal P w K mg base 2 "join_down" sp_join_down []) (c_letter_row : C8.Cal P w K mg base 1 "letter_row" sp_letter_row []) :
    FnOk P w K mg base C8.CX0 3 f fd ["alphabet", "texts", "ranks", "pair"] sp_may_follow := by
  refine C8.fn0 F sc_may_follow (fun vs H Q E h => ?_) (fun cdv A outer s H vs Q E hr h => ?_)
  · obtain ⟨al, ts, ps, l, r, tx, d, pr, rfl, _⟩ := h; rfl
  · obtain ⟨al, ts, ps, l, r, tx, d, pr, rfl, htx, hd, hpr, hw, hin, hsh, hal, hts, qT, qF⟩ := h
    have hu64 := hu64_of hr
    have qF' : (∀ p : Nat × Nat, l = (p.1 : Int) → r = (p.2 : Int) → ¬ okP al ts ps p) → ∀ H', Same H H' → Q (.bl false) H' := qF
    refine ⟨_, (pss_cons (ps_asg (pv 3) (pg_tup rfl (pgs_cons (pg_name (i := 4) sc_may_follow.nd rfl (Or.inl rfl)) (pgs_cons (pg_name (i := 5) sc_may_follow.nd rfl (Or.inl rfl)) pgs_nil))))
      (pss_cons (ps_if (pt_not (PW.pt (pw_and (pt_val (C8.pe_c c_is_number_below hr (by first | decide | omega) (by rfl) (pa_cons (pv 4) (pa_cons (pe_callB call_len_seq (by rfl) T.b_len PySem.boot_len (pa_cons (pv 1) pa_nil)) pa_nil)))) (pw_and1 (pt_val (C8.pe_c c_is_number_below hr (by first | decide | omega) (by rfl) (pa_cons (pv 5) (pa_cons (pe_callB call_len_seq (by rfl) T.b_len PySem.boot_len (pa_cons (pv 1) pa_nil)) pa_nil)))))))) (pss_one (ps_ret pe_bl)) pss_nil)
      (pss_cons (ps_set (i := 6) sc_may_follow.nd rfl (Or.inl rfl) (pe_op op_add_str (pe_ix ix_list (pv 1) (pv 4) (fun _ _ => rfl)) (pe_ix ix_list (pv 1) (pv 5) (fun _ _ => rfl))))
      (pss_cons (ps_if (pt_cmpR op_gt (pe_callB call_len_str (by rfl) T.b_len PySem.boot_len (pa_cons (pv 6) pa_nil)) (C8.pe_gc rfl T.c_MOST_SIGNS_OF_PIECE) (nomark _)) (pss_one (ps_ret pe_bl)) pss_nil)
      (pss_one (ps_ret (pe_cmpR (op_eqD hu64) (C8.pe_c c_join_down hr (by first | decide | omega) (by rfl) (pa_cons (pv 2) (pa_cons (pe_callB call_len_str (by rfl) T.b_len PySem.boot_len (pa_cons (pv 0) pa_nil)) (pa_cons (C8.pe_c c_letter_row hr (by first | decide | omega) (by rfl) (pa_cons (pv 0) (pa_cons (pv 6) pa_nil))) pa_nil)))) (pe_lst (pa_cons (pv 4) (pa_cons (pv 5) pa_nil))) (nomark _)))))))), ?_⟩
    refine ⟨_, rfl, pr, _, rfl, SqT.of hpr, rfl, _, _, rfl, _, _, rfl, rfl, ?_⟩
    refine ⟨_, rfl, _, rfl, tx, _, rfl, .inl (SqL.of htx), _, _, rfl, .int l, _, rfl, ?_⟩
    rw [strV_len]
    cases h1 : numBelow (.int l) (ts.length : Int) with
    | false =>
      refine iteF (iteT (qF' (fun p e1 e2 ok => ?_) H (Same.refl H)))
      rw [e1, numBelow_yes ok.1] at h1; cases h1
    | true =>
      obtain ⟨a, rfl, ha⟩ := numBelow_int h1
      refine iteT ⟨_, rfl, _, rfl, tx, _, rfl, .inl (SqL.of htx), _, _, rfl, .int r, _, rfl, ?_⟩
      rw [strV_len]
      cases h2 : numBelow (.int r) (ts.length : Int) with
      | false =>
        refine iteT (qF' (fun p e1 e2 ok => ?_) H (Same.refl H))
        rw [e2, numBelow_yes ok.2.1] at h2; cases h2
      | true =>
        obtain ⟨b, rfl, hb⟩ := numBelow_int h2
        refine iteF ?_
        have uniq : ¬ okP al ts ps (a, b) → ∀ p : Nat × Nat, (a : Int) = (p.1 : Int) → (b : Int) = (p.2 : Int) → ¬ okP al ts ps p := fun hn p e1 e2 ok => by
          obtain ⟨p1, p2⟩ := p
          have z1 : a = p1 := by have e1' : (a : Int) = (p1 : Int) := e1; omega
          have z2 : b = p2 := by have e2' : (b : Int) = (p2 : Int) := e2; omega
          subst z1 z2
          exact hn ok
        have hla : (ts.getD a []).length ≤ 40 := by
          rcases getD_mem_or (ts := ts) (i := a) with m | m
          · exact hsh _ m
          · rw [m]; exact Nat.zero_le _
        have hlb : (ts.getD b []).length ≤ 40 := by
          rcases getD_mem_or (ts := ts) (i := b) with m | m
          · exact hsh _ m
          · rw [m]; exact Nat.zero_le _
        refine ⟨_, rfl, _, rfl, tx, _, _, _, rfl, rfl, SqL.of htx, atI_nat (strV_at ha), _, rfl, _, rfl, tx, _, _, _, rfl, rfl, SqL.of htx, atI_nat (strV_at hb), S _, S _, rfl, rfl, by rw [S_len, S_len]; exact small_le (by omega), ?_⟩
        rw [S_cat]
        have hlab : (ts.getD a [] ++ ts.getD b []).length ≤ 1000 := by rw [List.length_append]; omega
        refine ⟨_, rfl, S _, rfl, by rw [S_len]; exact small_le hlab, _, _, rfl, rfl, _, rfl, ?_⟩
        rw [S_len]
        by_cases hl : (ts.getD a [] ++ ts.getD b []).length ≤ 40
        · rw [decide_eq_false (by omega : ¬ (40 : Int) < ((ts.getD a [] ++ ts.getD b []).length : Int))]
          refine iteF ?_
          refine ⟨_, rfl, _, rfl, S al, rfl, by rw [S_len]; exact small_le hal, _, rfl, _, rfl, al, _, rfl, fun c hc => ?_, hlab, fun H1 p s1 hp0 hp => ?_⟩
          · rcases List.mem_append.mp hc with z | z
            · rcases getD_mem_or (ts := ts) (i := a) with m | m
              · exact hin _ m c z
              · rw [m] at z; cases z
            · rcases getD_mem_or (ts := ts) (i := b) with m | m
              · exact hin _ m c z
              · rw [m] at z; cases z
          · refine ⟨d, p, true, al.length, ps, _, by rw [S_len]; rfl, s1 _ _ hd, hw, hp, by rw [lets, List.length_map]; exact hlab, fun H2 q k' s2 hk hq => ?_⟩
            have hk' : k' = true := hk rfl
            subst hk'
            refine ⟨_, rfl, _, rfl, by show 2 ≤ sizeLine; decide, fun z hz => ?_⟩
            have hqz : upd H2 z (.lst [.int (a : Int), .int (b : Int)]) q = some (.lst (iv (cutL al.length ps (lets al (ts.getD a [] ++ ts.getD b []))))) := (upd_ne (ne_of_none (show H2 q = _ from hq) hz)).trans hq
            refine ⟨_, _, .lst (SqL.of hqz) (iv_dp _), .lst (SqL.of upd_same) (iv_dp [a, b]), shaped_iv _, shaped_iv [a, b], ?_⟩
            have sF : Same H (upd H2 z (.lst [.int (a : Int), .int (b : Int)])) := Same.new (s1.trans s2) hz
            show Q (.bl (PyData.eqv (.list _) (.list _))) _
            rw [PyData.eqv, eqv_iv]
            by_cases hc : cutL al.length ps (lets al (ts.getD a [] ++ ts.getD b [])) = [a, b]
            · rw [decide_eq_true hc]
              exact qT (a, b) rfl rfl ⟨ha, hb, hl, hc⟩ _ sF
            · rw [decide_eq_false hc]
              exact qF' (uniq fun ok => hc ok.2.2.2) _ sF
        · rw [decide_eq_true (by omega : (40 : Int) < ((ts.getD a [] ++ ts.getD b []).length : Int))]
          exact iteT (qF' (uniq fun ok => hl ok.2.2.1) H (Same.refl H))
end
end RJ
end

section
set_option maxRecDepth 100000
set_option maxHeartbeats 4000000
namespace RJ
open PySem PySem.Spec PyProof.Rows L2
/-! ### the object -/
def f1 (al : List Nat) : List (Str × V) := putF "alphabet" (.str (S al)) []
def f2 (al : List Nat) (t : Addr) : List (Str × V) := putF "pairs" (.ref t) (f1 al)
def f3 (al : List Nat) (t tx : Addr) : List (Str × V) := putF "_texts" (.ref tx) (f2 al t)
def f4 (al : List Nat) (t tx d : Addr) : List (Str × V) := putF "_ranks" (.ref d) (f3 al t tx)
def f5 (al : List Nat) (t tx d e : Addr) : List (Str × V) := putF "_pieces_by_text" (.ref e) (f4 al t tx d)
theorem putF_len (f : Str) (v : V) : ∀ fs : List (Str × V), (putF f v fs).length ≤ fs.length + 1
  | [] => Nat.le_refl _
  | (g, x) :: r => by
    rw [putF]
    split
    · exact Nat.le_succ _
    · have := putF_len f v r
      simp only [List.length_cons]; omega
theorem f_len (al : List Nat) (t tx d : Addr) : (f1 al).length < 1000 ∧ (f2 al t).length < 1000 ∧ (f3 al t tx).length < 1000 ∧ (f4 al t tx d).length < 1000 := by
  have h1 : (f1 al).length ≤ 1 := putF_len _ _ _
  have h2 : (f2 al t).length ≤ (f1 al).length + 1 := putF_len _ _ _
  have h3 : (f3 al t tx).length ≤ (f2 al t).length + 1 := putF_len _ _ _
  have h4 : (f4 al t tx d).length ≤ (f3 al t tx).length + 1 := putF_len _ _ _
  omega
theorem f1_alphabet (al : List Nat)  : (f1 al).lookup ("alphabet" : Str) = some (.str (S al)) := by
  unfold f1
  rw [lookup_putF, if_pos rfl]
theorem f2_pairs (al : List Nat) (t : Addr) : (f2 al t).lookup ("pairs" : Str) = some (.ref t) := by
  unfold f2 f1
  rw [lookup_putF, if_pos rfl]
theorem f2_alphabet (al : List Nat) (t : Addr) : (f2 al t).lookup ("alphabet" : Str) = some (.str (S al)) := by
  unfold f2 f1
  rw [lookup_putF, if_neg (by decide +kernel), lookup_putF, if_pos rfl]
theorem f3_texts (al : List Nat) (t : Addr) (tx : Addr) : (f3 al t tx).lookup ("_texts" : Str) = some (.ref tx) := by
  unfold f3 f2 f1
  rw [lookup_putF, if_pos rfl]
theorem f3_pairs (al : List Nat) (t : Addr) (tx : Addr) : (f3 al t tx).lookup ("pairs" : Str) = some (.ref t) := by
  unfold f3 f2 f1
  rw [lookup_putF, if_neg (by decide +kernel), lookup_putF, if_pos rfl]
theorem f3_alphabet (al : List Nat) (t : Addr) (tx : Addr) : (f3 al t tx).lookup ("alphabet" : Str) = some (.str (S al)) := by
  unfold f3 f2 f1
  rw [lookup_putF, if_neg (by decide +kernel), lookup_putF, if_neg (by decide +kernel), lookup_putF, if_pos rfl]
theorem f4_ranks (al : List Nat) (t : Addr) (tx : Addr) (d : Addr) : (f4 al t tx d).lookup ("_ranks" : Str) = some (.ref d) := by
  unfold f4 f3 f2 f1
  rw [lookup_putF, if_pos rfl]
theorem f4_texts (al : List Nat) (t : Addr) (tx : Addr) (d : Addr) : (f4 al t tx d).lookup ("_texts" : Str) = some (.ref tx) := by
  unfold f4 f3 f2 f1
  rw [lookup_putF, if_neg (by decide +kernel), lookup_putF, if_pos rfl]
theorem f4_pairs (al : List Nat) (t : Addr) (tx : Addr) (d : Addr) : (f4 al t tx d).lookup ("pairs" : Str) = some (.ref t) := by
  unfold f4 f3 f2 f1
  rw [lookup_putF, if_neg (by decide +kernel), lookup_putF, if_neg (by decide +kernel), lookup_putF, if_pos rfl]
theorem f4_alphabet (al : List Nat) (t : Addr) (tx : Addr) (d : Addr) : (f4 al t tx d).lookup ("alphabet" : Str) = some (.str (S al)) := by
  unfold f4 f3 f2 f1
  rw [lookup_putF, if_neg (by decide +kernel), lookup_putF, if_neg (by decide +kernel), lookup_putF, if_neg (by decide +kernel), lookup_putF, if_pos rfl]
theorem f5_pieces_by_text (al : List Nat) (t : Addr) (tx : Addr) (d : Addr) (e : Addr) : (f5 al t tx d e).lookup ("_pieces_by_text" : Str) = some (.ref e) := by
  unfold f5 f4 f3 f2 f1
  rw [lookup_putF, if_pos rfl]
theorem f5_ranks (al : List Nat) (t : Addr) (tx : Addr) (d : Addr) (e : Addr) : (f5 al t tx d e).lookup ("_ranks" : Str) = some (.ref d) := by
  unfold f5 f4 f3 f2 f1
  rw [lookup_putF, if_neg (by decide +kernel), lookup_putF, if_pos rfl]
theorem f5_texts (al : List Nat) (t : Addr) (tx : Addr) (d : Addr) (e : Addr) : (f5 al t tx d e).lookup ("_texts" : Str) = some (.ref tx) := by
  unfold f5 f4 f3 f2 f1
  rw [lookup_putF, if_neg (by decide +kernel), lookup_putF, if_neg (by decide +kernel), lookup_putF, if_pos rfl]
theorem f5_pairs (al : List Nat) (t : Addr) (tx : Addr) (d : Addr) (e : Addr) : (f5 al t tx d e).lookup ("pairs" : Str) = some (.ref t) := by
  unfold f5 f4 f3 f2 f1
  rw [lookup_putF, if_neg (by decide +kernel), lookup_putF, if_neg (by decide +kernel), lookup_putF, if_neg (by decide +kernel), lookup_putF, if_pos rfl]
theorem f5_alphabet (al : List Nat) (t : Addr) (tx : Addr) (d : Addr) (e : Addr) : (f5 al t tx d e).lookup ("alphabet" : Str) = some (.str (S al)) := by
  unfold f5 f4 f3 f2 f1
  rw [lookup_putF, if_neg (by decide +kernel), lookup_putF, if_neg (by decide +kernel), lookup_putF, if_neg (by decide +kernel), lookup_putF, if_neg (by decide +kernel), lookup_putF, if_pos rfl]
theorem f5_no (al : List Nat) (t : Addr) (tx : Addr) (d : Addr) (e : Addr) {m : Str} (h1 : ¬ m = "_pieces_by_text") (h2 : ¬ m = "_ranks") (h3 : ¬ m = "_texts") (h4 : ¬ m = "pairs") (h5 : ¬ m = "alphabet") : (f5 al t tx d e).lookup m = none := by
  unfold f5 f4 f3 f2 f1
  rw [lookup_putF, if_neg h1, lookup_putF, if_neg h2, lookup_putF, if_neg h3, lookup_putF, if_neg h4, lookup_putF, if_neg h5]; rfl
def kvsT : Nat → List (List Nat) → List (Key × V)
  | _, [] => []
  | k, t :: ts => (.inr (S t), V.int (k : Int)) :: kvsT (k + 1) ts
theorem kvsT_snoc : ∀ (k : Nat) (ts : List (List Nat)) (t : List Nat), kvsT k (ts ++ [t]) = kvsT k ts ++ [(.inr (S t), V.int ((k + ts.length : Nat) : Int))]
  | k, [], t => rfl
  | k, u :: ts, t => by
    show (Sum.inr (S u), V.int (k : Int)) :: kvsT (k + 1) (ts ++ [t]) = (Sum.inr (S u), V.int (k : Int)) :: (kvsT (k + 1) ts ++ _)
    rw [kvsT_snoc (k + 1) ts t, show k + 1 + ts.length = k + (u :: ts).length by rw [List.length_cons]; omega]
theorem kvsT_len : ∀ (k : Nat) (ts : List (List Nat)), (kvsT k ts).length = ts.length
  | _, [] => rfl
  | k, p :: ps => congrArg (· + 1) (kvsT_len (k + 1) ps)
theorem kvsT_get (t : List Nat) : ∀ (k : Nat) (ts : List (List Nat)), valV (kvsT k ts) (.inr (S t)) = if t ∈ ts then some (V.int ((k + ts.idxOf t : Nat) : Int)) else none
  | k, [] => by rw [if_neg List.not_mem_nil]; exact valV_nil
  | k, u :: ts => by
    show valV ((Sum.inr (S u), V.int (k : Int)) :: kvsT (k + 1) ts) (.inr (S t)) = _
    by_cases h : u = t
    · subst h
      rw [valV_pos (p := (Sum.inr (S u), V.int (k : Int))) rfl, if_pos (List.mem_cons_self ..), List.idxOf_cons_self]; rfl
    · rw [valV_neg (p := (Sum.inr (S u), V.int (k : Int))) fun z => h (S_inj (Sum.inr.inj z)), kvsT_get t (k + 1) ts]
      have e : List.idxOf t (u :: ts) = ts.idxOf t + 1 := by
        rw [List.idxOf_cons, show (u == t) = false from beq_eq_false_iff_ne.mpr h]; rfl
      by_cases hm : t ∈ ts
      · rw [if_pos hm, if_pos (List.mem_cons_of_mem _ hm), e, show k + 1 + ts.idxOf t = k + (ts.idxOf t + 1) by omega]
      · rw [if_neg hm, if_neg fun z => by
          rcases List.mem_cons.mp z with e | e
          · exact h e.symm
          · exact hm e]
/-- a list of joins at p -/
def JoinsAt (C : Addr) (H : Hp) (p : Addr) (al : List Nat) (ps : List (Nat × Nat)) : Prop := ∃ (dx t tx d e : Addr) (vs : List V), H p = some (.ins C dx (f5 al t tx d e)) ∧ H t = some (.tup vs) ∧ PairsAt H vs ps ∧
  H tx = some (.lst (strV (textsOf al ps))) ∧ H d = some (.dT (kvsF 0 ps)) ∧ H e = some (.dK (kvsT 0 (textsOf al ps)))
theorem JoinsAt.same {C p : Addr} {H H' : Hp} {al : List Nat} {ps : List (Nat × Nat)} (h : JoinsAt C H p al ps) (s : Same H H') : JoinsAt C H' p al ps := by
  obtain ⟨dx, t, tx, d, e, vs, h1, h2, h3, h4, h5, h6⟩ := h
  exact ⟨dx, t, tx, d, e, vs, s _ _ h1, s _ _ h2, h3.same (Same.t s), s _ _ h4, s _ _ h5, s _ _ h6⟩
/-- the class as the top has made it -/
structure JTxt (K : PySem.W.Frag) (C : Addr) : Prop where
  cl : Cls K C
  n1 : NoAttr K C "alphabet"
  n2 : NoAttr K C "pairs"
  n3 : NoAttr K C "_texts"
  n4 : NoAttr K C "_ranks"
  n5 : NoAttr K C "_pieces_by_text"
/-- all but p as it was -/
def SameX (p : Addr) (H H' : Hp) : Prop := ∀ b o, b ≠ p → H b = some o → H' b = some o
theorem Same.x {p : Addr} {H H' : Hp} (s : Same H H') : SameX p H H' := fun b o _ e => s b o e
theorem SameX.then {p : Addr} {H H1 H2 : Hp} (s : SameX p H H1) (t : Same H1 H2) : SameX p H H2 := fun b o h e => t b o (s b o h e)
theorem SameX.self {p : Addr} {H H1 : Hp} {o : HO} (s : SameX p H H1) : SameX p H (upd H1 p o) := fun b u h e => by rw [upd_ne h]; exact s b u h e
theorem SameX.put {p q : Addr} {H H1 : Hp} {o : HO} (s : SameX p H H1) (hq : H q = none) : SameX p H (upd H1 q o) := fun b u h e => by rw [upd_ne (ne_of_none e hq)]; exact s b u h e
theorem SameX.free {p q : Addr} {H H1 : Hp} (s : SameX p H H1) (hq : H1 q = none) (hp : ∃ o, H1 p = some o) : H q = none := by
  cases e : H q with
  | none => rfl
  | some o =>
    obtain ⟨u, hu⟩ := hp
    have h : q ≠ p := fun z => by rw [z, hu] at hq; cases hq
    rw [s q o h e] at hq; cases hq
theorem SameT.putO {H : Hp} {p : Addr} {o o' : HO} (h : H p = some o') (hne : ∀ xs, HO.tup xs ≠ o') : SameT H (upd H p o) := fun b ys e => by
  rw [upd_ne (ne_of e h (hne ys))]; exact e
/-- what __init__ keeps while it goes through the joins, behind n of them -/
def InitAt (C : Addr) (H : Hp) (p dx t tx d : Addr) (vs : List V) (al : List Nat) (ps : List (Nat × Nat)) (n : Nat) : Prop := H p = some (.ins C dx (f4 al t tx d)) ∧ H t = some (.tup vs) ∧ PairsAt H vs ps ∧
  H tx = some (.lst (strV (textsOf al (ps.take n)))) ∧ H d = some (.dT (kvsF 0 (ps.take n)))
theorem InitAt.same {C p dx t tx d : Addr} {H H' : Hp} {vs : List V} {al : List Nat} {ps : List (Nat × Nat)} {n : Nat} (h : InitAt C H p dx t tx d vs al ps n) (s : Same H H') : InitAt C H' p dx t tx d vs al ps n :=
  ⟨s _ _ h.1, s _ _ h.2.1, h.2.2.1.same (Same.t s), s _ _ h.2.2.2.1, s _ _ h.2.2.2.2⟩
theorem dc_it {J : It} {n : Nat} {G : Hp → Prop} {Y : Nat → Hp → V → Hp → Prop} (w : Walk J n G Y) {g : TG} {tt : TT} {tk tv : TE} {vs : List Nat} {σ : L2.St} {H1 : Hp} {D : Addr} {Qd : Hp → Prop} (Pv : Nat → Hp → Prop) (h0 : Pv 0 (upd H1 D (.dK []))) (hG : ∀ i H, i ≤ n → Pv i H → G H)
    (hs : ∀ i x H H', i < n → Pv i H → Y i H x H' → g x (wipe σ vs) H' fun σ2 H2 => wipe σ2 vs = wipe σ vs ∧ tt σ2 H2 fun b H3 =>
      if b = true then tk σ2 H3 fun y H4 => tv σ2 H4 fun z H5 => ∃ (kvs : List (Key × V)) (k : Key), y = kV k ∧ H5 D = some (.dK kvs) ∧ kvs.length < sizeLine ∧ Pv (i + 1) (upd H5 D (.dK (putK kvs k z))) else Pv (i + 1) H3) (hd : ∀ H, Pv n H → Qd H) :
    ∃ W : Nat → Nat → Hp → Prop, (∃ m, W 0 m (upd H1 D (.dK []))) ∧ ∀ i m H, W i m H →
      (J.stop i H ∧ Qd H) ∨ (J.go i H ∧ ∃ Nx : Hp → Prop, (∀ H', Nx H' → ∃ m', m' < m ∧ W (i + 1) m' H') ∧ ∀ x H', J.yld i H x H' → g x (wipe σ vs) H' fun σ2 H2 => wipe σ2 vs = wipe σ vs ∧ tt σ2 H2 fun b H3 =>
        if b = true then tk σ2 H3 fun y H4 => tv σ2 H4 fun z H5 => ∃ (kvs : List (Key × V)) (k : Key), y = kV k ∧ H5 D = some (.dK kvs) ∧ kvs.length < sizeLine ∧ Nx (upd H5 D (.dK (putK kvs k z))) else Nx H3) := by
  refine ⟨fun i m H => m = n - i ∧ i ≤ n ∧ Pv i H, ⟨n, by simp, Nat.zero_le _, h0⟩, ?_⟩
  rintro i m H ⟨rfl, hi, p⟩
  have q := hG i H hi p
  by_cases hlt : i < n
  · refine .inr ⟨w.goes i H hlt q, Pv (i + 1), fun H' p' => ⟨n - (i + 1), by omega, rfl, hlt, p'⟩, fun x H' y => hs i x H H' hlt p (w.yields i H x H' hlt q y)⟩
  · have e : i = n := by omega
    subst e
    exact .inl ⟨w.stops H q, hd H p⟩
abbrev s_Joins___init__ : Stmt := inClass (top 26) 0
abbrev N_Joins___init__ : List Str := ["self", "alphabet", "pairs", "rank", "pair", "left", "right", "piece", "text"]
theorem sc_Joins___init__ : FnScope N_Joins___init__ ["self", "alphabet", "pairs"] (C8.fnScope s_Joins___init__) := C8.fnScope_by (by decide +kernel)
abbrev s_Joins_text_of : Stmt := inClass (top 26) 5
abbrev N_Joins_text_of : List Str := ["self", "piece"]
theorem sc_Joins_text_of : FnScope N_Joins_text_of ["self", "piece"] (C8.fnScope s_Joins_text_of) := C8.fnScope_by (by decide +kernel)
abbrev s_Joins_check_piece : Stmt := inClass (top 26) 11
abbrev N_Joins_check_piece : List Str := ["self", "piece"]
theorem sc_Joins_check_piece : FnScope N_Joins_check_piece ["self", "piece"] (C8.fnScope s_Joins_check_piece) := C8.fnScope_by (by decide +kernel)
abbrev s_Joins_has_piece : Stmt := inClass (top 26) 10
abbrev N_Joins_has_piece : List Str := ["self", "piece"]
theorem sc_Joins_has_piece : FnScope N_Joins_has_piece ["self", "piece"] (C8.fnScope s_Joins_has_piece) := C8.fnScope_by (by decide +kernel)
abbrev s_Joins_join_row : Stmt := inClass (top 26) 12
abbrev N_Joins_join_row : List Str := ["self", "row"]
theorem sc_Joins_join_row : FnScope N_Joins_join_row ["self", "row"] (C8.fnScope s_Joins_join_row) := C8.fnScope_by (by decide +kernel)
def sp_init (C : Addr) : Sp := fun vs H Q _ => ∃ (p pa dx : Addr) (b : Bool) (al : List Nat) (ps : List (Nat × Nat)) (us : List V), vs = [.ref p, .str (S al), .ref pa] ∧ H p = some (.ins C dx []) ∧ SeqAt b H pa us ∧ PairsAt H us ps ∧
  alOk al = true ∧ al.Nodup ∧ al.length ≤ 30 ∧ Proper al ps ∧ ps.length ≤ 100 ∧ ∀ H', SameX p H H' → JoinsAt C H' p al ps → Q .non H'
section
variable {P : Program} {w : World} {K : PySem.W.Frag} {mg : Str → Option Value} {base : Heap}
theorem ok_init {f C : Addr} {fd : FuncData} (F : C8.Fun K "__init__" "Joins.__init__" s_Joins___init__ f fd) (T : Txt K mg) (J : JTxt K C) (c_check_alphabet : C8.Cal P w K mg base 3 "check_alphabet" sp_check_alphabet []) (c_may_follow : C8.Cal P w K mg base 3 "may_follow" sp_may_follow []) :
    FnOk P w K mg base C8.CX0 4 f fd ["self", "alphabet", "pairs"] (sp_init C) := by
  refine C8.fn0 F sc_Joins___init__ (fun vs H Q E h => ?_) (fun cdv A outer s H vs Q E hr h => ?_)
  · obtain ⟨p, pa, dx, b, al, ps, us, rfl, _⟩ := h; rfl
  · obtain ⟨p, pa, dx, b, al, ps, us, rfl, hp, hpa, hps, hal, hnd, hall, hprop, hpl, q⟩ := h
    have hu := hu_of hr
    refine ⟨_, (pss_cons (ps_expr (C8.pe_c c_check_alphabet hr (by first | decide | omega) (by rfl) (pa_cons (pv 1) pa_nil)))
      (pss_cons (ps_fld (pv 0) (pv 1) rfl)
      (pss_cons (ps_fld (pv 0) (pe_tupleOf (by rfl) T.b_tuple (pe_lc (own := [("left", 5), ("right", 6)]) (g := gTup K 2 (gCons (gName 5) (gCons (gName 6) (gNil)))) (tt := tYes) rfl sc_Joins___init__.nd (pi_seq (pv 2)) (blkOk_by (N := N_Joins___init__) (sc := C8.fnScope s_Joins___init__) (by decide +kernel)) (fun _ _ _ _ _ => (pg_tup rfl (pgs_cons (pg_name (i := 5) sc_Joins___init__.nd rfl (Or.inl rfl)) (pgs_cons (pg_name (i := 6) sc_Joins___init__.nd rfl (Or.inl rfl)) pgs_nil)))) (fun _ _ _ _ _ => pts_nil) (fun _ _ _ _ _ => (pe_tup (pa_cons (pv 5) (pa_cons (pv 6) pa_nil)))))) rfl)
      (pss_cons (ps_fld (pv 0) (pe_callTy (call_list_text rfl) (by rfl) T.b_list (by decide +kernel) (pa_cons (pv 1) pa_nil)) rfl)
      (pss_cons (ps_fld (pv 0) pe_dnewT rfl)
      (pss_cons (ps_for PassesOwn.never rfl (pi_enumG rfl T.b_enumerate (pa_cons (pe_fld (pv 0) rfl) pa_nil)) (pg_tup rfl (pgs_cons (pg_name (i := 3) sc_Joins___init__.nd rfl (Or.inl rfl)) (pgs_cons (pg_name (i := 4) sc_Joins___init__.nd rfl (Or.inl rfl)) pgs_nil))) (pss_cons (ps_if (pt_not (pt_val (C8.pe_c c_may_follow hr (by first | decide | omega) (by rfl) (pa_cons (pv 1) (pa_cons (pe_fld (pv 0) rfl) (pa_cons (pe_fld (pv 0) rfl) (pa_cons (pv 4) pa_nil))))))) (pss_one ps_never) pss_nil)
      (pss_cons (ps_expr (pe_bm PySem.F.plainAttrs_list PySem.F.slot_list_append PySem.F.type_list_append mt_append (pe_fld (pv 0) rfl) (pa_cons (pe_op op_add_str (pe_ix ix_list (pe_fld (pv 0) rfl) (pe_ix ix_tup (pv 4) pe_int (fun _ _ => rfl)) (fun _ _ => rfl)) (pe_ix ix_list (pe_fld (pv 0) rfl) (pe_ix ix_tup (pv 4) pe_int (fun _ _ => rfl)) (fun _ _ => rfl))) pa_nil)))
      (pss_one (ps_dput hu (pe_fld (pv 0) rfl) (pv 4) (pv 3) rfl)))))
      (pss_one (ps_fld (pv 0) (pe_dc (own := [("piece", 7), ("text", 8)]) (g := gTup K 2 (gCons (gName 7) (gCons (gName 8) (gNil)))) (tt := tYes) rfl sc_Joins___init__.nd (pi_enumG rfl T.b_enumerate (pa_cons (pe_fld (pv 0) rfl) pa_nil)) (blkOk_by (N := N_Joins___init__) (sc := C8.fnScope s_Joins___init__) (by decide +kernel)) (fun _ _ _ _ _ => (pg_tup rfl (pgs_cons (pg_name (i := 7) sc_Joins___init__.nd rfl (Or.inl rfl)) (pgs_cons (pg_name (i := 8) sc_Joins___init__.nd rfl (Or.inl rfl)) pgs_nil)))) (fun _ _ _ _ _ => pts_nil) (fun _ _ _ _ _ => (pv 8)) (fun _ _ _ _ _ => (pv 7))) rfl)))))))), ?_⟩
    have lens := f_len al
    refine ⟨_, rfl, al, rfl, by omega, hal, fun H1 s1 => ⟨_, rfl, _, rfl, p, C, dx, _, rfl, s1 _ _ hp, J.cl, J.n1, by show 0 < 1000; decide, ?_⟩⟩
    have x2 : SameX p H (upd H1 p (.ins C dx (f1 al))) := (Same.x s1).self
    have hp2 : (upd H1 p (.ins C dx (f1 al))) p = some (.ins C dx (f1 al)) := upd_same
    revert hp2 x2
    show SameX p H (upd H1 p (.ins C dx (f1 al))) → (upd H1 p (.ins C dx (f1 al))) p = some (.ins C dx (f1 al)) → tSeq _ _ _ _ (upd H1 p (.ins C dx (f1 al)))
    generalize upd H1 p (.ins C dx (f1 al)) = H2
    intro x2 hp2
    have hpap : pa ≠ p := by
      cases b with
      | true => exact ne_of hpa hp (by intro z; cases z)
      | false => exact ne_of hpa hp (by intro z; cases z)
    have sT2 : ∀ H3, SameX p H H3 → PairsAt H3 us ps := fun H3 x => hps.same fun b xs e => x b _ (fun z => by rw [z, hp] at e; cases e) e
    have hpa2 : SeqAt b H2 pa us := x2 _ _ hpap hpa
    -- self.pairs
    refine ⟨_, rfl, b, pa, us, rfl, hpa2, fun D hD => lc_it walk_seq (fun i H' => Same H2 H' ∧ ∃ ws, H' D = some (.lst ws) ∧ PairsAt H' ws (ps.take i)) ⟨same_new hD, [], upd_same, .nil⟩ (fun i H' _ ⟨sa, _⟩ => hpa2.same sa) ?_ ?_⟩
    · rintro i x Ha Hb hi ⟨sa, ws, hws, hP⟩ ⟨rfl, hx⟩
      obtain ⟨⟨l, r⟩, hpi, qa, rfl, hqa⟩ := Paired.at (sT2 _ (x2.then sa)) hx
      refine ⟨qa, _, rfl, SqT.of hqa, rfl, _, _, rfl, _, _, rfl, rfl, rfl, _, rfl, _, rfl, by show 2 ≤ sizeLine; decide, fun z hz => ?_⟩
      have hDz : D ≠ z := ne_of_none hws hz
      have hws' : upd Hb z (.tup [.int (l : Int), .int (r : Int)]) D = some (.lst ws) := (upd_ne hDz).trans hws
      refine ⟨ws, hws', small1000 ?_, Same.put (Same.new sa hz) hD, _, upd_same, ?_⟩
      · have e1 := hP.length
        rw [List.length_take] at e1; omega
      · rw [take_succ_of hpi]
        refine Paired.snoc ⟨z, rfl, SameT.put hws' _ _ upd_same⟩ ?_
        exact (hP.same (Same.t (same_new hz))).same (SameT.put hws')
    rintro H3 ⟨s3, ws, hws, hP3⟩
    have hlen0 : us.length = ps.length := hps.length
    rw [hlen0, List.take_length] at hP3
    refine .inl ⟨D, ws, rfl, SqL.of hws, fun t ht => ⟨_, rfl, p, C, dx, _, rfl, (Same.new s3 ht) _ _ hp2, J.cl, J.n2, lens 0 0 0 |>.1, ?_⟩⟩
    have x4 : SameX p H (upd (upd H3 t (.tup ws)) p (.ins C dx (f2 al t))) := (x2.then (Same.new s3 ht)).self
    have hp4 : (upd (upd H3 t (.tup ws)) p (.ins C dx (f2 al t))) p = some (.ins C dx (f2 al t)) := upd_same
    have hptn : t ≠ p := fun z => by rw [z, s3 _ _ hp2] at ht; cases ht
    have ht4 : (upd (upd H3 t (.tup ws)) p (.ins C dx (f2 al t))) t = some (.tup ws) := (upd_ne hptn).trans upd_same
    have hP4 : PairsAt (upd (upd H3 t (.tup ws)) p (.ins C dx (f2 al t))) ws ps :=
      (hP3.same (Same.t (same_new ht))).same (SameT.putO ((Same.new s3 ht) _ _ hp2) (by intro xs z; cases z))
    revert x4 hp4 ht4 hP4
    show SameX p H (upd (upd H3 t (.tup ws)) p (.ins C dx (f2 al t))) → (upd (upd H3 t (.tup ws)) p (.ins C dx (f2 al t))) p = some (.ins C dx (f2 al t)) → (upd (upd H3 t (.tup ws)) p (.ins C dx (f2 al t))) t = some (.tup ws) → PairsAt (upd (upd H3 t (.tup ws)) p (.ins C dx (f2 al t))) ws ps → tSeq _ _ _ _ (upd (upd H3 t (.tup ws)) p (.ins C dx (f2 al t)))
    generalize upd (upd H3 t (.tup ws)) p (.ins C dx (f2 al t)) = H4
    intro x4 hp4 ht4 hP4
    -- self._texts, self._ranks
    refine ⟨_, rfl, S al, rfl, by rw [S_size]; exact small_le (by omega), fun tx htx => ⟨_, rfl, p, C, dx, _, rfl, (same_new htx) _ _ hp4, J.cl, J.n3, lens t 0 0 |>.2.1, ?_⟩⟩
    intro d hd
    refine ⟨_, rfl, p, C, dx, _, rfl, (upd_ne (ne_of_none upd_same hd)).trans upd_same, J.cl, J.n4, lens t tx 0 |>.2.2.1, ?_⟩
    have htx0 : H tx = none := x4.free htx ⟨_, hp4⟩
    have etx : signsV (S al) = strV (textsOf al (ps.take 0)) := by
      rw [List.take_zero]
      show (al.toArray.toList.map fun c => V.str ⟨#[c]⟩) = strV (al.map fun c => [c])
      rw [strV, List.map_map]; rfl
    have txp : tx ≠ p := fun z => by rw [z, hp4] at htx; cases htx
    have hdp : d ≠ p := fun z => by rw [z, upd_same] at hd; cases hd
    have hdtx : tx ≠ d := fun z => by rw [← z, upd_ne txp, upd_same] at hd; cases hd
    have hd0 : H4 d = none := by
      rw [upd_ne hdp, upd_ne (Ne.symm hdtx)] at hd; exact hd
    have hd00 : H d = none := x4.free hd0 ⟨_, hp4⟩
    have start : ∃ (v3 v4 : Option V), [some (V.ref p), some (.str (S al)), some (.ref pa), none, none, none, none, none, none] = [some (V.ref p), some (.str (S al)), some (.ref pa), v3, v4, none, none, none, none] ∧ InitAt C (upd (upd (upd (upd H4 tx (.lst (signsV (S al)))) p (.ins C dx (f3 al t tx))) d (.dT [])) p (.ins C dx (f4 al t tx d))) p dx t tx d ws al ps 0 ∧
        SameX p H (upd (upd (upd (upd H4 tx (.lst (signsV (S al)))) p (.ins C dx (f3 al t tx))) d (.dT [])) p (.ins C dx (f4 al t tx d))) := by
      have xa : SameX p H4 (upd (upd (upd (upd H4 tx (.lst (signsV (S al)))) p (.ins C dx (f3 al t tx))) d (.dT [])) p (.ins C dx (f4 al t tx d))) :=
        (((Same.x (p := p) (same_new htx)).self).put hd0).self
      have xb : ∀ b o, b ≠ p → H b = some o → H4 b = some o := x4
      have tT : SameT H4 (upd (upd (upd (upd H4 tx (.lst (signsV (S al)))) p (.ins C dx (f3 al t tx))) d (.dT [])) p (.ins C dx (f4 al t tx d))) := fun b xs e => xa b _ (fun z => by rw [z, hp4] at e; cases e) e
      refine ⟨none, none, rfl, ⟨upd_same, tT _ _ ht4, hP4.same tT, ?_, ?_⟩, fun b o hb e => xa b o hb (x4 b o hb e)⟩
      · rw [upd_ne txp, upd_ne hdtx, upd_ne txp, upd_same, etx]
      · rw [upd_ne hdp, upd_same]; rfl
    revert start
    show (∃ (v3 v4 : Option V), _ ∧ InitAt C (upd (upd (upd (upd H4 tx (.lst (signsV (S al)))) p (.ins C dx (f3 al t tx))) d (.dT [])) p (.ins C dx (f4 al t tx d))) p dx t tx d ws al ps 0 ∧ SameX p H (upd (upd (upd (upd H4 tx (.lst (signsV (S al)))) p (.ins C dx (f3 al t tx))) d (.dT [])) p (.ins C dx (f4 al t tx d)))) → tSeq _ _ _ _ (upd (upd (upd (upd H4 tx (.lst (signsV (S al)))) p (.ins C dx (f3 al t tx))) d (.dT [])) p (.ins C dx (f4 al t tx d)))
    generalize upd (upd (upd (upd H4 tx (.lst (signsV (S al)))) p (.ins C dx (f3 al t tx))) d (.dT [])) p (.ins C dx (f4 al t tx d)) = H5
    intro start
    have hlenw : ws.length = ps.length := hP4.length
    obtain ⟨_, _, _, i0, _⟩ := id start
    refine ⟨_, rfl, p, C, dx, _, _, rfl, i0.1, J.cl, J.n2, f4_pairs al t tx d, _, _, _, _, rfl, src_seq (b := false) i0.2.1, for_it walkG (fun i σ H' => ∃ (v3 v4 : Option V), σ = [some (V.ref p), some (.str (S al)), some (.ref pa), v3, v4, none, none, none, none] ∧ InitAt C H' p dx t tx d ws al ps i ∧ SameX p H H') start (fun i σ H' _ ⟨_, _, _, ia, _⟩ => ia.2.1) ?_ ?_⟩
    · rintro i x σ Ha Hb hi ⟨v3, v4, rfl, ia, xa⟩ ⟨Tt, xs, rfl, hT, rfl, v, hv, rfl⟩
      obtain ⟨⟨l, r⟩, hpi, qa, rfl, hqa⟩ := Paired.at ia.2.2.1 hv
      have ib := ia.same (same_new hT (o := .tup [.int (i : Int), .ref qa]))
      have xb : SameX p H (upd Ha Tt (.tup [.int (i : Int), .ref qa])) := xa.then (same_new hT)
      have hqb : (upd Ha Tt (.tup [.int (i : Int), .ref qa])) qa = some (.tup [.int (l : Int), .int (r : Int)]) := (same_new hT) _ _ hqa
      have hTb : (upd Ha Tt (.tup [.int (i : Int), .ref qa])) Tt = some (.tup [.int (i : Int), .ref qa]) := upd_same
      revert ib xb hqb hTb
      show InitAt C (upd Ha Tt (.tup [.int (i : Int), .ref qa])) p dx t tx d ws al ps i → SameX p H (upd Ha Tt (.tup [.int (i : Int), .ref qa])) → (upd Ha Tt (.tup [.int (i : Int), .ref qa])) qa = some (.tup [.int (l : Int), .int (r : Int)]) → (upd Ha Tt (.tup [.int (i : Int), .ref qa])) Tt = some (.tup [.int (i : Int), .ref qa]) → gTup K 2 _ _ _ (upd Ha Tt (.tup [.int (i : Int), .ref qa])) _
      generalize upd Ha Tt (.tup [.int (i : Int), .ref qa]) = Hb
      intro ib xb hqb hTb
      obtain ⟨b1, b2, b3, b4, b5⟩ := ib
      have hok := hprop i (l, r) hpi
      have htl : (textsOf al (ps.take i)).length ≤ 200 := by rw [textsOf_len, List.length_take]; omega
      refine ⟨Tt, _, rfl, SqT.of hTb, rfl, _, _, rfl, _, _, rfl, rfl, ?_⟩
      refine ⟨_, rfl, _, rfl, p, C, dx, _, _, rfl, b1, J.cl, J.n3, f4_texts al t tx d, _, rfl, p, C, dx, _, _, rfl, b1, J.cl, J.n4, f4_ranks al t tx d, _, rfl, al, textsOf al (ps.take i), ps.take i, (l : Int), (r : Int), tx, d, qa, rfl, b4, b5, hqb, (hprop.take i).wf, textsOf_al, (hprop.take i).short, by omega, by omega,
        fun p' e1 e2 ok Hc sc => ⟨_, rfl, iteF ?_⟩, fun hno => absurd hok (hno (l, r) rfl rfl)⟩
      have ic : InitAt C Hc p dx t tx d ws al ps i := InitAt.same ⟨b1, b2, b3, b4, b5⟩ sc
      have xc : SameX p H Hc := xb.then sc
      have hqc := sc _ _ hqb
      obtain ⟨c1, c2, c3, c4, c5⟩ := ic
      have hg1 : l < (textsOf al (ps.take i)).length := hok.1
      have hg2 : r < (textsOf al (ps.take i)).length := hok.2.1
      have hsum : ((textsOf al (ps.take i)).getD l []).length + ((textsOf al (ps.take i)).getD r []).length ≤ 40 := by
        have := hok.2.2.1
        rw [List.length_append] at this; exact this
      have hts : textsOf al (ps.take i) ++ [(textsOf al (ps.take i)).getD l [] ++ (textsOf al (ps.take i)).getD r []] = textsOf al (ps.take (i + 1)) := by rw [take_succ_of hpi, textsOf_snoc]
      refine ⟨_, rfl, p, C, dx, _, _, rfl, c1, J.cl, J.n3, f4_texts al t tx d, .inl ⟨rfl, _, SqL.of c4⟩, ?_⟩
      refine ⟨_, rfl, p, C, dx, _, _, rfl, c1, J.cl, J.n3, f4_texts al t tx d, _, rfl, qa, _, 0, _, rfl, rfl, SqT.of hqc, rfl, tx, _, _, _, rfl, rfl, SqL.of c4, atI_nat (strV_at hg1),
        _, rfl, p, C, dx, _, _, rfl, c1, J.cl, J.n3, f4_texts al t tx d, _, rfl, qa, _, 1, _, rfl, rfl, SqT.of hqc, rfl, tx, _, _, _, rfl, rfl, SqL.of c4, atI_nat (strV_at hg2), S _, S _, rfl, rfl, ?_, ?_⟩
      · rw [S_len, S_len]
        exact small_le (by omega)
      refine ⟨tx, _, _, rfl, rfl, c4, by rw [strV_len]; exact small1000 (by omega), ?_⟩
      rw [S_cat, strV_snoc, hts]
      have ntx : ∀ (b : Addr) (o : HO), Hc b = some o → (∀ ys, o ≠ .lst ys) → (upd Hc tx (.lst (strV (textsOf al (ps.take (i + 1)))))) b = some o := fun b o e hne => by
        rw [upd_ne (ne_of e c4 (hne _))]; exact e
      have hd2 := ntx d _ c5 (by intro ys z; cases z)
      have hq2 := ntx qa _ hqc (by intro ys z; cases z)
      refine ⟨_, rfl, _, rfl, p, C, dx, _, _, rfl, ntx p _ c1 (by intro ys z; cases z), J.cl, J.n4, f4_ranks al t tx d, _, rfl, d, _, rfl, DPut.t (k := pkey (l, r)) hd2 hq2 (by rw [kvsF_len, List.length_take]; exact small1000 (by omega)), ?_⟩
      have hnew : putK (kvsF 0 (ps.take i)) (pkey (l, r)) (V.int (i : Int)) = kvsF 0 (ps.take (i + 1)) := by
        have hnot : (l, r) ∉ ps.take i := fun hm => by
          have := cut_clean (hprop.take i).wf (lets al ((textsOf al (ps.take i)).getD l [] ++ (textsOf al (ps.take i)).getD r [])) _ hm
          rw [show cutL al.length (ps.take i) (lets al ((textsOf al (ps.take i)).getD l [] ++ (textsOf al (ps.take i)).getD r [])) = [l, r] from hok.2.2.2] at this
          exact this (by show (l, r) ∈ [(l, r)]; exact List.mem_cons_self ..)
        have h0 : valV (kvsF 0 (ps.take i)) (pkey (l, r)) = none := by rw [kvsF_get, if_neg hnot]
        rw [putK_new _ h0, take_succ_of hpi, kvsF_snoc, take_len_of hpi, Nat.zero_add]
      rw [hnew]
      have nd : ∀ (b : Addr) (o : HO), (upd Hc tx (.lst (strV (textsOf al (ps.take (i + 1)))))) b = some o → (∀ ys, o ≠ .dT ys) → (upd (upd Hc tx (.lst (strV (textsOf al (ps.take (i + 1)))))) d (.dT (kvsF 0 (ps.take (i + 1))))) b = some o := fun b o e hne => by
        rw [upd_ne (ne_of e hd2 (hne _))]; exact e
      have tT : SameT Hc (upd (upd Hc tx (.lst (strV (textsOf al (ps.take (i + 1)))))) d (.dT (kvsF 0 (ps.take (i + 1))))) := fun b xs e => nd b _ (ntx b _ e (by intro ys z; cases z)) (by intro ys z; cases z)
      refine ⟨_, _, rfl, ⟨nd p _ (ntx p _ c1 (by intro ys z; cases z)) (by intro ys z; cases z), tT _ _ c2, c3.same tT, nd tx _ upd_same (by intro ys z; cases z), upd_same⟩, ?_⟩
      exact (xc.put htx0).put hd00
    · rintro σ H6 ⟨v3, v4, rfl, ⟨c1, c2, c3, c4, c5⟩, x6⟩
      rw [hlenw, List.take_length] at c4 c5
      refine ⟨_, rfl, p, C, dx, _, _, rfl, c1, J.cl, J.n3, f4_texts al t tx d, _, _, _, _, rfl, src_seq (b := true) c4, fun D2 hD2 => dc_it walkG (fun i H' => Same H6 H' ∧ H' D2 = some (.dK (kvsT 0 ((textsOf al ps).take i)))) ⟨same_new hD2, upd_same⟩ (fun i H' _ ⟨sa, _⟩ => sa _ _ c4) ?_ ?_⟩
      · rintro i x Ha Hb hi ⟨sa, ha⟩ ⟨Tt, xs, rfl, hT, rfl, v, hv, rfl⟩
        have hvt : ∃ u, (textsOf al ps)[i]? = some u ∧ v = .str (S u) := by
          rw [strV, List.getElem?_map] at hv
          cases e : (textsOf al ps)[i]? with
          | none => rw [e] at hv; cases hv
          | some u => rw [e] at hv; exact ⟨u, rfl, (Option.some.inj hv).symm⟩
        obtain ⟨u, hu1, rfl⟩ := hvt
        have hne : D2 ≠ Tt := ne_of_none ha hT
        refine ⟨Tt, _, rfl, SqT.of upd_same, rfl, _, _, rfl, _, _, rfl, rfl, rfl, _, rfl, _, rfl, _, Sum.inr (S u), rfl, (upd_ne hne).trans ha, ?_, Same.put (Same.new sa hT) hD2, ?_⟩
        · rw [kvsT_len, List.length_take, textsOf_len]; exact small1000 (by omega)
        · have hnot : u ∉ (textsOf al ps).take i := fun hm => by
            obtain ⟨j, hj, ej⟩ := mem_take_get hm
            have := texts_inj hnd hprop ej hu1; omega
          have h0 : valV (kvsT 0 ((textsOf al ps).take i)) (Sum.inr (S u) : Key) = none := by rw [kvsT_get, if_neg hnot]
          rw [upd_same, putK_new _ h0, take_succ_of hu1, kvsT_snoc, take_len_of hu1, Nat.zero_add]
      · rintro H7 ⟨s7, h7⟩
        have en : (strV (textsOf al ps)).length = (textsOf al ps).length := strV_len _
        rw [en, List.take_length] at h7
        refine ⟨_, rfl, p, C, dx, _, rfl, s7 _ _ c1, J.cl, J.n5, lens t tx d |>.2.2.2, q _ (x6.then s7).self ⟨dx, t, tx, d, D2, ws, upd_same, ?_⟩⟩
        have nx : ∀ (b : Addr) (o : HO), H7 b = some o → (∀ fs, o ≠ .ins C dx fs) → (upd H7 p (.ins C dx (putF "_pieces_by_text" (.ref D2) (f4 al t tx d)))) b = some o := fun b o e hne => by
          rw [upd_ne (ne_of e (s7 _ _ c1) (hne _))]; exact e
        have tT : SameT H6 (upd H7 p (.ins C dx (putF "_pieces_by_text" (.ref D2) (f4 al t tx d)))) := fun b xs e => nx b _ (s7 _ _ e) (by intro fs z; cases z)
        exact ⟨tT _ _ c2, c3.same tT, nx tx _ (s7 _ _ c4) (by intro fs z; cases z), nx d _ (s7 _ _ c5) (by intro fs z; cases z), nx D2 _ h7 (by intro fs z; cases z)⟩
end
end RJ
end

section
set_option maxRecDepth 100000
set_option maxHeartbeats 4000000
namespace RJ
open PySem PySem.Spec PyProof.Rows L2
abbrev s_letters_of : Stmt := top 28
abbrev N_letters_of : List Str := ["joins", "text"]
theorem sc_letters_of : FnScope N_letters_of ["joins", "text"] (C8.fnScope s_letters_of) := C8.fnScope_by (by decide +kernel)
abbrev s_cut : Stmt := top 29
abbrev N_cut : List Str := ["joins", "text"]
theorem sc_cut : FnScope N_cut ["joins", "text"] (C8.fnScope s_cut) := C8.fnScope_by (by decide +kernel)
theorem joinL_nil : ∀ ys : List (List Nat), TL.joinL [] ys = ys.flatten
  | [] => rfl
  | [y] => by show y = y ++ []; rw [List.append_nil]
  | y :: z :: ys => by
    show y ++ ([] ++ TL.joinL [] (z :: ys)) = y ++ (z :: ys).flatten
    rw [List.nil_append, joinL_nil (z :: ys)]
def sp_has_piece (C : Addr) : Sp := fun vs H Q _ => ∃ (p : Addr) (x : V) (al : List Nat) (ps : List (Nat × Nat)), vs = [.ref p, x] ∧ JoinsAt C H p al ps ∧ Kind H x ∧ Q (.bl (numBelow x ((al.length + ps.length : Nat) : Int))) H
def sp_check_piece (C : Addr) : Sp := fun vs H Q _ => ∃ (p : Addr) (i : Nat) (al : List Nat) (ps : List (Nat × Nat)), vs = [.ref p, .int (i : Int)] ∧ JoinsAt C H p al ps ∧ i < al.length + ps.length ∧ Q .non H
def sp_text_of (C : Addr) : Sp := fun vs H Q _ => ∃ (p : Addr) (i : Nat) (al : List Nat) (ps : List (Nat × Nat)), vs = [.ref p, .int (i : Int)] ∧ JoinsAt C H p al ps ∧ i < al.length + ps.length ∧ Q (.str (S ((textsOf al ps).getD i []))) H
def sp_join_row (C : Addr) : Sp := fun vs H Q _ => ∃ (p a : Addr) (k : Bool) (row al : List Nat) (ps : List (Nat × Nat)), vs = [.ref p, .ref a] ∧ JoinsAt C H p al ps ∧ WF al.length ps ∧ RowAt k H a row ∧ row.length ≤ 1000 ∧ al.length ≤ 1000 ∧
  ∀ H' q k', Same H H' → (k = true → k' = true) → RowAt k' H' q (cutL al.length ps row) → Q (.ref q) H'
def sp_letters_of (C : Addr) : Sp := fun vs H Q _ => ∃ (p : Addr) (t al : List Nat) (ps : List (Nat × Nat)), vs = [.ref p, .str (S t)] ∧ JoinsAt C H p al ps ∧ (∀ c ∈ t, c ∈ al) ∧ t.length ≤ 1000 ∧
  ∀ H' q, Same H H' → H q = none → RowAt false H' q (lets al t) → Q (.ref q) H'
def sp_cut (C : Addr) : Sp := fun vs H Q _ => ∃ (p : Addr) (t al : List Nat) (ps : List (Nat × Nat)), vs = [.ref p, .str (S t)] ∧ JoinsAt C H p al ps ∧ WF al.length ps ∧ (∀ c ∈ t, c ∈ al) ∧ t.length ≤ 1000 ∧ al.length ≤ 1000 ∧
  ∀ H' q, Same H H' → RowAt false H' q (cutL al.length ps (lets al t)) → Q (.ref q) H'
def sp_text_of_row (C : Addr) : Sp := fun vs H Q _ => ∃ (p a : Addr) (b : Bool) (row al : List Nat) (ps : List (Nat × Nat)), vs = [.ref p, .ref a] ∧ JoinsAt C H p al ps ∧ Proper al ps ∧ RowAt b H a row ∧ (∀ i ∈ row, i < al.length + ps.length) ∧ row.length ≤ 1000 ∧
  ∀ H', Same H H' → Q (.str (S (textR (textsOf al ps) row))) H'
theorem sum_le {l : List (List Nat)} (h : ∀ t ∈ l, t.length ≤ 40) : ((l.map fun t => S t).map (·.length)).sum ≤ 40 * l.length := by
  induction l with
  | nil => exact Nat.le_refl _
  | cons t l ih =>
    have h1 := ih fun u hu => h u (List.mem_cons_of_mem _ hu)
    have h2 := h t (List.mem_cons_self ..)
    rw [List.map_cons, List.map_cons, List.sum_cons, S_len, List.length_cons]
    omega
section
variable {P : Program} {w : World} {K : PySem.W.Frag} {mg : Str → Option Value} {base : Heap}
theorem ok_has_piece {f C : Addr} {fd : FuncData} (F : C8.Fun K "has_piece" "Joins.has_piece" s_Joins_has_piece f fd) (T : Txt K mg) (J : JTxt K C) (c_is_number_below : C8.Cal P w K mg base 2 "is_number_below" sp_is_number_below []) : FnOk P w K mg base C8.CX0 3 f fd ["self", "piece"] (sp_has_piece C) := by
  refine C8.fn0 F sc_Joins_has_piece (fun vs H Q E h => ?_) (fun cdv A outer s H vs Q E hr h => ?_)
  · obtain ⟨p, x, al, ps, rfl, _⟩ := h; rfl
  · obtain ⟨p, x, al, ps, rfl, ⟨dx, t, tx, d, e, ws, h1, h2, h3, h4, h5, h6⟩, k, q⟩ := h
    refine ⟨_, (pss_one (ps_ret (C8.pe_c c_is_number_below hr (by first | decide | omega) (by rfl) (pa_cons (pv 1) (pa_cons (pe_callB call_len_seq (by rfl) T.b_len PySem.boot_len (pa_cons (pe_fld (pv 0) rfl) pa_nil)) pa_nil))))), ?_⟩
    refine ⟨_, rfl, _, rfl, p, C, dx, _, _, rfl, h1, J.cl, J.n3, f5_texts al t tx d e, tx, _, rfl, .inl (SqL.of h4), x, _, rfl, k, ?_⟩
    rw [strV_len, textsOf_len]; exact q
theorem ok_check_piece {f C : Addr} {fd : FuncData} (F : C8.Fun K "check_piece" "Joins.check_piece" s_Joins_check_piece f fd) (T : Txt K mg) (J : JTxt K C) (m_has_piece : C8.Met P w K mg base 3 C "has_piece" (sp_has_piece C) []) : FnOk P w K mg base C8.CX0 4 f fd ["self", "piece"] (sp_check_piece C) := by
  refine C8.fn0 F sc_Joins_check_piece (fun vs H Q E h => ?_) (fun cdv A outer s H vs Q E hr h => ?_)
  · obtain ⟨p, i, al, ps, rfl, _⟩ := h; rfl
  · obtain ⟨p, i, al, ps, rfl, hj, hi, q⟩ := h
    obtain ⟨dx, t, tx, d, e, ws, h1, h2, h3, h4, h5, h6⟩ := id hj
    refine ⟨_, (pss_one (ps_if (pt_not (pt_val (C8.pe_mt m_has_piece hr (by first | decide | omega) (pv 0) (pa_cons (pv 1) pa_nil)))) (pss_one ps_never) pss_nil)), ?_⟩
    refine ⟨_, rfl, p, dx, _, rfl, h1, f5_no al t tx d e (by decide +kernel) (by decide +kernel) (by decide +kernel) (by decide +kernel) (by decide +kernel), _, rfl, p, _, al, ps, rfl, hj, .int _, _, rfl, ?_⟩
    rw [numBelow_yes hi]
    exact iteF q
theorem ok_text_of {f C : Addr} {fd : FuncData} (F : C8.Fun K "text_of" "Joins.text_of" s_Joins_text_of f fd) (T : Txt K mg) (J : JTxt K C) (m_check_piece : C8.Met P w K mg base 4 C "check_piece" (sp_check_piece C) []) : FnOk P w K mg base C8.CX0 5 f fd ["self", "piece"] (sp_text_of C) := by
  refine C8.fn0 F sc_Joins_text_of (fun vs H Q E h => ?_) (fun cdv A outer s H vs Q E hr h => ?_)
  · obtain ⟨p, i, al, ps, rfl, _⟩ := h; rfl
  · obtain ⟨p, i, al, ps, rfl, hj, hi, q⟩ := h
    obtain ⟨dx, t, tx, d, e, ws, h1, h2, h3, h4, h5, h6⟩ := id hj
    refine ⟨_, (pss_cons (ps_expr (C8.pe_mt m_check_piece hr (by first | decide | omega) (pv 0) (pa_cons (pv 1) pa_nil)))
      (pss_one (ps_ret (pe_ix ix_list (pe_fld (pv 0) rfl) (pv 1) (fun _ _ => rfl))))), ?_⟩
    refine ⟨_, rfl, p, dx, _, rfl, h1, f5_no al t tx d e (by decide +kernel) (by decide +kernel) (by decide +kernel) (by decide +kernel) (by decide +kernel), _, rfl, p, _, al, ps, rfl, hj, hi, ?_⟩
    exact ⟨_, rfl, p, C, dx, _, _, rfl, h1, J.cl, J.n3, f5_texts al t tx d e, _, rfl, tx, _, _, _, rfl, rfl, SqL.of h4, atI_nat (strV_at (by rw [textsOf_len]; exact hi)), q⟩
theorem ok_join_row {f C : Addr} {fd : FuncData} (F : C8.Fun K "join_row" "Joins.join_row" s_Joins_join_row f fd) (T : Txt K mg) (J : JTxt K C) (c_join_down : C8.Cal P w K mg base 2 "join_down" sp_join_down []) : FnOk P w K mg base C8.CX0 3 f fd ["self", "row"] (sp_join_row C) := by
  refine C8.fn0 F sc_Joins_join_row (fun vs H Q E h => ?_) (fun cdv A outer s H vs Q E hr h => ?_)
  · obtain ⟨p, a, k, row, al, ps, rfl, _⟩ := h; rfl
  · obtain ⟨p, a, k, row, al, ps, rfl, ⟨dx, t, tx, d, e, ws, h1, h2, h3, h4, h5, h6⟩, hw, hrow, hl, hal, q⟩ := h
    refine ⟨_, (pss_one (ps_ret (C8.pe_c c_join_down hr (by first | decide | omega) (by rfl) (pa_cons (pe_fld (pv 0) rfl) (pa_cons (pe_callB call_len_str (by rfl) T.b_len PySem.boot_len (pa_cons (pe_fld (pv 0) rfl) pa_nil)) (pa_cons (pv 1) pa_nil)))))), ?_⟩
    exact ⟨_, rfl, p, C, dx, _, _, rfl, h1, J.cl, J.n4, f5_ranks al t tx d e, _, rfl, p, C, dx, _, _, rfl, h1, J.cl, J.n1, f5_alphabet al t tx d e, S al, rfl, by rw [S_len]; exact small_le hal, _, rfl, d, a, k, al.length, ps, row, by rw [S_len]; rfl, h5, hw, hrow, hl, q⟩
theorem ok_letters_of {f C : Addr} {fd : FuncData} (F : C8.Fun K "letters_of" "letters_of" s_letters_of f fd) (T : Txt K mg) (J : JTxt K C) (c_letter_row : C8.Cal P w K mg base 1 "letter_row" sp_letter_row []) : FnOk P w K mg base C8.CX0 2 f fd ["joins", "text"] (sp_letters_of C) := by
  refine C8.fn0 F sc_letters_of (fun vs H Q E h => ?_) (fun cdv A outer s H vs Q E hr h => ?_)
  · obtain ⟨p, t, al, ps, rfl, _⟩ := h; rfl
  · obtain ⟨p, u, al, ps, rfl, ⟨dx, t, tx, d, e, ws, h1, h2, h3, h4, h5, h6⟩, hin, hl, q⟩ := h
    refine ⟨_, (pss_one (ps_ret (pe_tupleOf (by rfl) T.b_tuple (C8.pe_c c_letter_row hr (by first | decide | omega) (by rfl) (pa_cons (pe_fld (pv 0) rfl) (pa_cons (pv 1) pa_nil)))))), ?_⟩
    refine ⟨_, rfl, p, C, dx, _, _, rfl, h1, J.cl, J.n1, f5_alphabet al t tx d e, _, rfl, al, u, rfl, hin, hl, fun H1 r s1 hr0 hr1 => .inl ⟨r, _, rfl, SqL.of hr1, fun z hz => ?_⟩⟩
    exact q _ z (Same.new s1 hz) (s1.free hz) upd_same
theorem ok_cut {f C : Addr} {fd : FuncData} (F : C8.Fun K "cut" "cut" s_cut f fd) (T : Txt K mg) (J : JTxt K C) (c_letters_of : C8.Cal P w K mg base 2 "letters_of" (sp_letters_of C) []) (m_join_row : C8.Met P w K mg base 3 C "join_row" (sp_join_row C) []) : FnOk P w K mg base C8.CX0 4 f fd ["joins", "text"] (sp_cut C) := by
  refine C8.fn0 F sc_cut (fun vs H Q E h => ?_) (fun cdv A outer s H vs Q E hr h => ?_)
  · obtain ⟨p, t, al, ps, rfl, _⟩ := h; rfl
  · obtain ⟨p, u, al, ps, rfl, hj, hw, hin, hl, hal, q⟩ := h
    obtain ⟨dx, t, tx, d, e, ws, h1, h2, h3, h4, h5, h6⟩ := id hj
    refine ⟨_, (pss_one (ps_ret (pe_tupleOf (by rfl) T.b_tuple (C8.pe_mt m_join_row hr (by first | decide | omega) (pv 0) (pa_cons (C8.pe_c c_letters_of hr (by first | decide | omega) (by rfl) (pa_cons (pv 0) (pa_cons (pv 1) pa_nil))) pa_nil))))), ?_⟩
    refine ⟨_, rfl, p, dx, _, rfl, h1, f5_no al t tx d e (by decide +kernel) (by decide +kernel) (by decide +kernel) (by decide +kernel) (by decide +kernel), _, rfl, _, rfl, p, u, al, ps, rfl, hj, hin, hl, fun H1 r s1 hr0 hr1 => ?_⟩
    refine ⟨p, r, false, _, al, ps, rfl, hj.same s1, hw, hr1, by rw [lets, List.length_map]; exact hl, hal, fun H2 z k' s2 _ hz => ?_⟩
    cases k' with
    | true => exact .inl ⟨z, _, rfl, SqL.of hz, fun y hy => q _ y (Same.new (s1.trans s2) hy) upd_same⟩
    | false => exact .inr ⟨z, _, rfl, SqT.of hz, q _ z (s1.trans s2) hz⟩
end
end RJ
end

section
set_option maxRecDepth 100000
set_option maxHeartbeats 4000000
namespace RJ
open PySem PySem.Spec PyProof.Rows L2
theorem hu65_of {A : Around} {k : Nat} (hr : Room k A) : A.units + 65 < cLine := by have := hr.un; omega
theorem pe_never {X : Cx} {e : Expr} : PE X e (fun _ _ _ => False) := ⟨fun _ _ _ _ _ _ h => h.elim⟩

def sp_numbers : Sp := fun vs H Q _ => ∃ (c a : Int) (m : Nat), vs = [.int c, .int a, .int (m : Int)] ∧ 0 ≤ a ∧ a ≤ 1000 ∧ m ≤ 200 ∧
  ∀ H' p ns, Same H H' → H p = none → ns.length = m → (∀ n ∈ ns, n < 1000) → H' p = some (.lst (iv ns)) → Q (.ref p) H'
/-- the same data of this depth at most -/
def scalV : V → Bool
  | .non => true
  | .bl _ => true
  | .int _ => true
  | .str _ => true
  | _ => false
def SameD (H : Hp) : Nat → V → V → Prop
  | 0, x, y => x = y ∧ scalV x = true
  | n + 1, x, y => (x = y ∧ scalV x = true) ∨ ∃ a b xs ys, x = .ref a ∧ y = .ref b ∧ H a = some (.tup xs) ∧ H b = some (.tup ys) ∧ xs.length ≤ 1000 ∧ Paired (SameD H n) xs ys
theorem SameD.flat {H : Hp} {x : V} (h : scalV x = true) : ∀ n, SameD H n x x
  | 0 => ⟨rfl, h⟩
  | _ + 1 => .inl ⟨rfl, h⟩
theorem Paired.same {α : Type} {F : α → α → Prop} : ∀ {l : List α}, (∀ x ∈ l, F x x) → Paired F l l
  | [], _ => .nil
  | x :: l, h => .cons (h x (List.mem_cons_self ..)) (Paired.same fun y hy => h y (List.mem_cons_of_mem _ hy))
theorem SameD.row {H : Hp} {a b : Addr} {l : List Nat} (ha : H a = some (.tup (iv l))) (hb : H b = some (.tup (iv l))) (hl : l.length ≤ 1000) : SameD H 1 (.ref a) (.ref b) :=
  .inr ⟨a, b, _, _, rfl, rfl, ha, hb, by rw [iv_len]; exact hl, Paired.same fun x hx => by
    obtain ⟨n, _, rfl⟩ := List.mem_map.mp hx
    exact ⟨rfl, rfl⟩⟩
theorem SameD.mono {H H' : Hp} (s : Same H H') : ∀ {n : Nat} {x y : V}, SameD H n x y → SameD H' n x y
  | 0, _, _, h => h
  | n + 1, _, _, h => by
    rcases h with h | ⟨a, b, xs, ys, h1, h2, h3, h4, h5, h6⟩
    · exact .inl h
    · exact .inr ⟨a, b, xs, ys, h1, h2, s _ _ h3, s _ _ h4, h5, Paired.mapP h6 fun x y q => SameD.mono s q⟩
def sp_same (n : Nat) : Sp := fun vs H Q _ => ∃ x y, vs = [x, y] ∧ SameD H n x y ∧ ∀ H', Same H H' → Q (.bl true) H'
theorem emod_nat (z m : Int) (h : 0 < m) : ∃ n : Nat, z % m = (n : Int) ∧ (n : Int) < m := ⟨(z % m).toNat, by have := Int.emod_nonneg z (by omega : m ≠ 0); omega, by have := Int.emod_lt_of_pos z h; have := Int.emod_nonneg z (by omega : m ≠ 0); omega⟩
theorem abs_nonneg (c : Int) : 0 ≤ (if c < 0 then -c else c) := by split <;> omega
section
variable {P : Program} {w : World} {K : PySem.W.Frag} {mg : Str → Option Value} {base : Heap}
end
end RJ
end

section
set_option maxRecDepth 100000
set_option maxHeartbeats 4000000
namespace RJ
open PySem PySem.Spec PyProof.Rows L2

/-! ### the alphabet -/
/-- the signs that are drawn: all from blank to tilde but one -/
def SG : List Nat := ((List.range 127).drop 32).filter fun c => c != 37
theorem SG_len : SG.length = 94 := by decide +kernel
theorem SG_in : ∀ c ∈ SG, 32 ≤ c ∧ c ≤ 126 := by decide +kernel
/-- signs as values -/
def sv (ls : List Nat) : List Str := ls.map fun c => S [c]
theorem sv_inj {a b : Nat} (h : S [a] = S [b]) : a = b := by
  have := S_inj h
  exact List.head_eq_of_cons_eq this
theorem in_sv {c : Nat} {ls : List Nat} : inV (.str (S [c])) ((sv ls).map V.str) = decide (c ∈ ls) := by
  unfold inV sv
  rw [List.map_map, List.any_map]
  induction ls with
  | nil => rfl
  | cons d ls ih =>
    rw [List.any_cons, ih]
    show ((S [d] == S [c]) || decide (c ∈ ls)) = _
    by_cases h : d = c
    · subst h
      rw [beq_self_eq_true, Bool.true_or, decide_eq_true (List.mem_cons_self ..)]
    · rw [beq_eq_false_iff_ne.mpr fun e => h (sv_inj e), Bool.false_or]
      exact decide_eq_decide.mpr ⟨List.mem_cons_of_mem _, fun z => (List.mem_cons.mp z).resolve_left fun e => h e.symm⟩
theorem flat_sv (ls : List Nat) : ((sv ls).map V.str).all flatV = true := by
  unfold sv
  rw [List.map_map, List.all_map]
  exact List.all_eq_true.mpr fun _ _ => rfl
def hd1 (z : Str) : Nat := z.cps.toList.headD 0
theorem sv_perm {ys : List Str} {ls : List Nat} (h : ys.Perm (sv ls)) : ∃ al, ys = sv al ∧ al.Perm ls := by
  refine ⟨ys.map hd1, ?_, ?_⟩
  · unfold sv
    rw [List.map_map]
    conv => lhs; rw [← List.map_id ys]
    refine List.map_congr_left fun y hy => ?_
    obtain ⟨c, _, rfl⟩ := List.mem_map.mp (h.mem_iff.mp hy)
    rfl
  · have := h.map hd1
    unfold sv at this
    rw [List.map_map] at this
    have e : List.map (hd1 ∘ fun c => S [c]) ls = ls := by
      conv => rhs; rw [← List.map_id ls]
      exact List.map_congr_left fun c _ => rfl
    rw [e] at this; exact this
theorem asc_sorted : ∀ {al : List Nat}, sortedS (sv al) = true → al.Nodup → (ascL al).all id = true
  | [], _, _ => rfl
  | [_], _, _ => rfl
  | a :: b :: al, h, hn => by
    have h' : (!ltCps (S [b]).cps.toList (S [a]).cps.toList && risingS (S [b]) (sv al)) = true := h
    rw [Bool.and_eq_true, Bool.not_eq_true'] at h'
    have ih : (ascL (b :: al)).all id = true := asc_sorted (al := b :: al) h'.2 (List.nodup_cons.mp hn).2
    have hab : a ≠ b := fun e => (List.nodup_cons.mp hn).1 (e ▸ List.mem_cons_self ..)
    have hlt : a < b := by
      have h1 : ltCps [b] [a] = false := h'.1
      have h2 : ¬ b < a := fun z => by
        have : ltCps [b] [a] = true := by simp [ltCps, z]
        rw [this] at h1; cases h1
      omega
    show ((decide (a < b) :: ascL (b :: al)).all id) = true
    rw [List.all_cons, ih, decide_eq_true hlt]; rfl
theorem alOk_of {al : List Nat} (h1 : (ascL al).all id = true) (h2 : ∀ c ∈ al, c ∈ SG) (h3 : 1 ≤ al.length) (h4 : al.length ≤ 30) : alOk al = true := by
  unfold alOk
  rw [decide_eq_true ⟨h3, h4⟩, h1, Bool.true_and, Bool.true_and, List.all_map]
  exact List.all_eq_true.mpr fun c hc => decide_eq_true (SG_in c (h2 c hc))
theorem flat1 (al : List Nat) : (al.map fun c => [c]).flatten = al := by
  induction al with
  | nil => rfl
  | cons a al ih => rw [List.map_cons, List.flatten_cons, ih]; rfl
theorem join1 (al : List Nat) : PySem.Txt.join (S []) (sv al) = S al := by
  have e : sv al = (al.map fun c => [c]).map SX.S := by unfold sv; rw [List.map_map]; rfl
  rw [e, SX.join_S, joinL_nil, flat1]
theorem sum1 (al : List Nat) : ((sv al).map (·.length)).sum = al.length := by
  induction al with
  | nil => rfl
  | cons a al ih =>
    show (S [a]).length + ((sv al).map (·.length)).sum = _
    rw [ih, S_len, List.length_cons, List.length_cons, List.length_nil]; omega
def sp_alphabet : Sp := fun vs H Q _ => ∃ (p : Addr) (ns : List Nat) (k m : Nat), vs = [.ref p, .int (k : Int), .int (m : Int)] ∧ H p = some (.lst (iv ns)) ∧ k + m ≤ ns.length ∧ ns.length ≤ 1000 ∧ 1 ≤ m ∧ m ≤ 30 ∧
  ∀ H' al, Same H H' → alOk al = true → al.Nodup → 1 ≤ al.length → al.length ≤ 30 → ((∀ c ∈ al, c ∈ SG) ∧ al.length ≤ m) → Q (.str (S al)) H'
def sp_join_all : Sp := fun vs H Q _ => ∃ (p pr : Addr) (row : List Nat) (l r m : Nat), vs = [.ref p, .ref pr, .int (m : Int)] ∧ H p = some (.lst (iv row)) ∧ H pr = some (.tup (iv [l, r])) ∧ row.length ≤ 1000 ∧
  ∀ H' z, Same H H' → H z = none → H' z = some (.lst (iv (pass l r m row))) → Q (.ref z) H'
def nextAt (gone : Bool) (i : Nat) : Nat := bif gone then i + 1 else i
theorem shaped_ivT (l : List Nat) : SeqAt.shaped (.tuple (l.map fun (n : Nat) => PyData.int (n : Int))) = true := by
  have := shaped_iv l
  exact this
section
variable {P : Program} {w : World} {K : PySem.W.Frag} {mg : Str → Option Value} {base : Heap}
end
end RJ
end

section
set_option maxRecDepth 100000
set_option maxHeartbeats 4000000
namespace RJ
open PySem PySem.Spec PyProof.Rows L2

theorem Paired.both {α β : Type} {F : α → β → Prop} : ∀ {as : List α} {bs : List β} {i : Nat}, Paired F as bs → i < bs.length → ∃ a b, as[i]? = some a ∧ bs[i]? = some b ∧ F a b
  | _, _, _, .nil, h => absurd h (Nat.not_lt_zero _)
  | _, _, 0, .cons f _, _ => ⟨_, _, rfl, rfl, f⟩
  | _, _, i + 1, .cons _ t, h => Paired.both (i := i) t (Nat.lt_of_succ_lt_succ h)
def sp_staged : Sp := fun vs H Q _ => ∃ (p z : Addr) (us : List V) (ps : List (Nat × Nat)) (row : List Nat) (b : Nat), vs = [.int (b : Int), .ref p, .ref z] ∧ H p = some (.lst us) ∧ PairsAt H us ps ∧ H z = some (.lst (iv row)) ∧ row.length ≤ 1000 ∧ ps.length ≤ 1000 ∧
  ∀ H' y, Same H H' → H' y = some (.lst (iv (cutL b ps row))) → Q (.ref y) H'
def sp_is_proper : Sp := fun vs H Q _ => ∃ (al : List Nat) (tx pp pr : Addr) (us : List V) (ps : List (Nat × Nat)) (a b : Nat), vs = [.str (S al), .ref tx, .ref pp, .ref pr] ∧ H tx = some (.lst (strV (textsOf al ps))) ∧ H pp = some (.lst us) ∧ PairsAt H us ps ∧
  H pr = some (.tup (iv [a, b])) ∧ Proper al ps ∧ al.length ≤ 1000 ∧ ps.length ≤ 1000 ∧ a < (textsOf al ps).length ∧ b < (textsOf al ps).length ∧ ∀ H', Same H H' → Q (.bl (decide (okP al (textsOf al ps) ps (a, b)))) H'
section
variable {P : Program} {w : World} {K : PySem.W.Frag} {mg : Str → Option Value} {base : Heap}
end
end RJ
end

section
set_option maxRecDepth 100000
set_option maxHeartbeats 4000000
namespace RJ
open PySem PySem.Spec PyProof.Rows L2

theorem modOf {L : Nat} (hL : 1 ≤ L) (n : Int) : ∃ a : Nat, a < L ∧ n % (L : Int) = (a : Int) := by
  obtain ⟨a, h1, h2⟩ := emod_nat n (L : Int) (by omega)
  exact ⟨a, by omega, h1⟩
theorem lastOf {L : Nat} (hL : 1 ≤ L) (n : Int) : ∃ a : Nat, a < L ∧ (L : Int) - 1 - n % (if (L : Int) < 3 then (L : Int) else 3) = (a : Int) := by
  obtain ⟨c, h1, h2⟩ := emod_nat n (if (L : Int) < 3 then (L : Int) else 3) (by split <;> omega)
  rw [h1]
  refine ⟨L - 1 - c, by omega, ?_⟩
  split at h2 <;> omega
theorem signs_texts (al : List Nat) : signsV (S al) = strV (textsOf al []) := by
  unfold signsV strV textsOf
  rw [List.foldl_nil, List.map_map]; rfl
def sp_list : Sp := fun vs H Q _ => ∃ (p : Addr) (ns al : List Nat) (k m : Nat), vs = [.ref p, .int (k : Int), .str (S al), .int (m : Int)] ∧ H p = some (.lst (iv ns)) ∧ k + 2 * m ≤ ns.length ∧ ns.length ≤ 1000 ∧ al.length ≤ 500 ∧ 1 ≤ al.length ∧ m ≤ 100 ∧
  ∀ H' r pp tx us ps, Same H H' → H' r = some (.tup [.ref pp, .ref tx]) → H' pp = some (.lst us) → PairsAt H' us ps → H' tx = some (.lst (strV (textsOf al ps))) → Proper al ps → ps.length ≤ m → Q (.ref r) H'
section
variable {P : Program} {w : World} {K : PySem.W.Frag} {mg : Str → Option Value} {base : Heap}
end
end RJ
end

section
set_option maxRecDepth 100000
set_option maxHeartbeats 4000000
namespace RJ
open PySem PySem.Spec PyProof.Rows L2
/-! ### cutting by an own hand: mathematics -/
def nbAt (row : List Nat) (i : Nat) (p : Nat × Nat) : Prop := row[i]? = some p.1 ∧ row[i + 1]? = some p.2
theorem nb_mem {p : Nat × Nat} : ∀ {row : List Nat}, p ∈ adjs row → ∃ i, nbAt row i p
  | [], h => by cases h
  | [a], h => by cases h
  | a :: b :: t, h => by
    rw [adjs_cons2] at h
    rcases List.mem_cons.mp h with e | e
    · subst e; exact ⟨0, rfl, rfl⟩
    · obtain ⟨i, h1, h2⟩ := nb_mem (row := b :: t) e
      exact ⟨i + 1, h1, h2⟩
theorem nb_fun {row : List Nat} {i : Nat} {p q : Nat × Nat} (h : nbAt row i p) (g : nbAt row i q) : p = q := by
  obtain ⟨p1, p2⟩ := p
  obtain ⟨q1, q2⟩ := q
  have e1 : some p1 = some q1 := h.1.symm.trans g.1
  have e2 : some p2 = some q2 := h.2.symm.trans g.2
  cases e1; cases e2; rfl
theorem nb_split {row : List Nat} {i : Nat} {p : Nat × Nat} (h : nbAt row i p) : row = row.take i ++ p.1 :: p.2 :: row.drop (i + 2) := by
  have e1 := split_at h.1
  have e2 : row.drop (i + 1) = p.2 :: row.drop (i + 2) := by
    obtain ⟨h1, h2⟩ := List.getElem?_eq_some_iff.mp h.2
    rw [List.drop_eq_getElem_cons h1, h2]
  rw [e2] at e1; exact e1
theorem nb_front {row : List Nat} {i : Nat} {p : Nat × Nat} (h : nbAt row i p) (hno : ∀ m : Nat, m < i → ¬ nbAt row m p) : p ∉ adjs (row.take i ++ [p.1]) := fun hm => by
  have e : row.take i ++ [p.1] = row.take (i + 1) := by rw [take_succ_of h.1]
  rw [e] at hm
  obtain ⟨m, h1, h2⟩ := nb_mem hm
  rw [List.getElem?_take] at h1 h2
  by_cases c : m + 1 < i + 1
  · rw [if_pos (by omega)] at h1
    rw [if_pos c] at h2
    exact hno m (by omega) ⟨h1, h2⟩
  · rw [if_neg c] at h2; cases h2
def Scan (ps : List (Nat × Nat)) (row : List Nat) (k best place : Nat) : Prop :=
  best ≤ ps.length ∧ (∀ (i : Nat) (q : Nat × Nat), i < k → nbAt row i q → ∀ j : Nat, j < best → ps[j]? ≠ some q) ∧ (best < ps.length → ∃ p, ps[best]? = some p ∧ nbAt row place p ∧ ∀ i : Nat, i < place → ¬ nbAt row i p)
theorem Scan.zero (ps : List (Nat × Nat)) (row : List Nat) : Scan ps row 0 ps.length 0 := ⟨Nat.le_refl _, fun i q h => absurd h (Nat.not_lt_zero _), fun h => absurd h (Nat.lt_irrefl _)⟩
theorem Scan.keep {ps : List (Nat × Nat)} {row : List Nat} {k best place : Nat} (h : Scan ps row k best place) (g : ∀ q, nbAt row k q → ∀ j : Nat, j < best → ps[j]? ≠ some q) : Scan ps row (k + 1) best place := by
  obtain ⟨h1, h2, h3⟩ := h
  refine ⟨h1, fun i q hi hq => ?_, h3⟩
  by_cases c : i = k
  · subst c; exact g q hq
  · exact h2 i q (by omega) hq
theorem Scan.put {ps : List (Nat × Nat)} {row : List Nat} {k best place j : Nat} {q : Nat × Nat} (h : Scan ps row k best place) (hq : nbAt row k q) (hj : ps[j]? = some q) (hmin : ∀ m : Nat, m < j → ps[m]? ≠ some q) (hlt : j < best) : Scan ps row (k + 1) j k := by
  obtain ⟨h1, h2, h3⟩ := h
  refine ⟨by omega, fun i q' hi hq' m hm => ?_, fun _ => ⟨q, hj, hq, fun i hi hn => h2 i q hi hn j hlt hj⟩⟩
  by_cases c : i = k
  · subst c; rw [nb_fun hq' hq]; exact hmin m hm
  · exact h2 i q' (by omega) hq' m (by omega)
theorem Scan.still {b : Nat} {ps : List (Nat × Nat)} {row : List Nat} {k place : Nat} (h : Scan ps row k ps.length place) (hk : row.length ≤ k + 1) : cutL b ps row = row := by
  refine cut_done fun p hp hm => ?_
  obtain ⟨i, hi⟩ := nb_mem hm
  obtain ⟨j, hj⟩ := List.getElem?_of_mem hp
  have hjl := (List.getElem?_eq_some_iff.mp hj).1
  have hil := (List.getElem?_eq_some_iff.mp hi.2).1
  exact h.2.1 i p (by omega) hi j hjl hj
theorem Scan.step {b : Nat} {ps : List (Nat × Nat)} (hw : WF b ps) {row : List Nat} {k best place : Nat} (h : Scan ps row k best place) (hk : row.length ≤ k + 1) (hlt : best < ps.length) :
    cutL b ps (row.take place ++ (b + best) :: row.drop (place + 2)) = cutL b ps row ∧ (row.take place ++ (b + best) :: row.drop (place + 2)).length + 1 = row.length := by
  obtain ⟨h1, h2, h3⟩ := h
  obtain ⟨p, hp, hn, hno⟩ := h3 hlt
  have hl := (List.getElem?_eq_some_iff.mp hn.2).1
  refine ⟨?_, ?_⟩
  · have e := nb_split hn
    have := cut_first hw hp (u := row.take place) (v := row.drop (place + 2)) (nb_front hn hno) (fun j q hj hq hm => by
      rw [← e] at hm
      obtain ⟨i, hi⟩ := nb_mem hm
      have hil := (List.getElem?_eq_some_iff.mp hi.2).1
      exact h2 i q (by omega) hi j hj hq)
    rw [this, ← e]
  · rw [List.length_append, List.length_cons, List.length_take, List.length_drop]; omega
theorem first_at {p : Nat × Nat} : ∀ {ps : List (Nat × Nat)}, p ∈ ps → ∃ j : Nat, ps[j]? = some p ∧ ∀ m : Nat, m < j → ps[m]? ≠ some p
  | [], h => by cases h
  | q :: ps, h => by
    by_cases c : q = p
    · subst c; exact ⟨0, rfl, fun (m : Nat) (hm : m < 0) => absurd hm (Nat.not_lt_zero _)⟩
    · obtain ⟨j, h1, h2⟩ := first_at ((List.mem_cons.mp h).resolve_left fun e => c e.symm)
      refine ⟨j + 1, h1, fun m hm => ?_⟩
      cases m with
      | zero => exact fun e => c (Option.some.inj e)
      | succ m => exact h2 m (by omega)
/-! ### pairs as data -/
def pairD (p : Nat × Nat) : PyData := .tuple ([p.1, p.2].map fun (n : Nat) => PyData.int (n : Int))
theorem eqv_pair (p q : Nat × Nat) : PyData.eqv (pairD p) (pairD q) = decide (p = q) := by
  unfold pairD
  rw [PyData.eqv, eqv_iv]
  refine decide_eq_decide.mpr ?_
  obtain ⟨a, b⟩ := p
  obtain ⟨c, d⟩ := q
  simp
theorem any_pair (p : Nat × Nat) (ps : List (Nat × Nat)) : ((ps.map pairD).any fun z => PyData.eqv z (pairD p)) = decide (p ∈ ps) := by
  rw [List.any_map]
  induction ps with
  | nil => rfl
  | cons q ps ih =>
    rw [List.any_cons, ih]
    show (PyData.eqv (pairD q) (pairD p) || decide (p ∈ ps)) = _
    rw [eqv_pair]
    by_cases c : q = p
    · subst c; simp
    · rw [decide_eq_false c, Bool.false_or]
      exact decide_eq_decide.mpr ⟨List.mem_cons_of_mem _, fun h => (List.mem_cons.mp h).resolve_left fun e => c e.symm⟩
theorem dp_pairs {K : PySem.W.Frag} {H : Hp} : ∀ {us : List V} {ps : List (Nat × Nat)}, PairsAt H us ps → DpAll K H us (ps.map pairD)
  | _, _, .nil => .nil
  | _, _, .cons h t => by
    obtain ⟨q, rfl, hq⟩ := h
    exact .cons (.tup (SqT.of hq) (iv_dp [_, _])) (dp_pairs t)
theorem shaped_pair (p : Nat × Nat) : SeqAt.shaped (pairD p) = true := shaped_ivT [p.1, p.2]
theorem shaped_pairs (ps : List (Nat × Nat)) : SeqAt.shaped (.list (ps.map pairD)) = true := by
  have h1 : PyData.canLayAll0 (ps.map pairD) = true := by
    induction ps with
    | nil => simp [PyData.canLayAll0]
    | cons p ps ih => rw [List.map_cons, PyData.canLayAll0, ih]; simp [pairD, PyData.canLay0, PyData.canLayAll0]
  have h2 : PyData.depthAll (ps.map pairD) ≤ 1 := by
    clear h1
    induction ps with
    | nil => simp [PyData.depthAll]
    | cons p ps ih =>
      rw [List.map_cons, PyData.depthAll]
      have : PyData.depth (pairD p) = 1 := by simp [pairD, PyData.depth, PyData.depthAll]
      omega
  unfold SeqAt.shaped
  rw [PyData.canLay0, h1, PyData.depth, Bool.true_and]
  exact decide_eq_true (by omega)
theorem get_pairD {ps : List (Nat × Nat)} {m : Nat} {z : PyData} (h : (ps.map pairD)[m]? = some z) : ∃ q, ps[m]? = some q ∧ z = pairD q := by
  rw [List.getElem?_map] at h
  cases e : ps[m]? with
  | none => rw [e] at h; cases h
  | some q => rw [e] at h; exact ⟨q, rfl, (Option.some.inj h).symm⟩
end RJ
end

section
set_option maxRecDepth 100000
set_option maxHeartbeats 8000000
namespace RJ
open PySem PySem.Spec PyProof.Rows L2
def sp_slow : Sp := fun vs H Q _ => ∃ (pp : Addr) (us : List V) (ps : List (Nat × Nat)) (al t : List Nat), vs = [.str (S al), .ref pp, .str (S t)] ∧ H pp = some (.lst us) ∧ PairsAt H us ps ∧ WF al.length ps ∧ ps.length ≤ 1000 ∧ al.length ≤ 1000 ∧
  (∀ c ∈ t, c ∈ al) ∧ t.length ≤ 900 ∧ ∀ H' z, Same H H' → H' z = some (.tup (iv (cutL al.length ps (lets al t)))) → Q (.ref z) H'
theorem cut_to (l : List Nat) (k : Nat) : cutV (iv l) none (some (k : Int)) = iv (l.take k) := by
  unfold cutV
  rw [HT.sIx_nat, HT.sIx_none, List.drop_zero, iv_len, Nat.sub_zero]
  unfold iv
  rw [List.map_take]
  by_cases h : k ≤ l.length
  · rw [Nat.min_eq_left h]
  · rw [Nat.min_eq_right (by omega), List.take_of_length_le (by rw [List.length_map]; exact Nat.le_refl _), List.take_of_length_le (by rw [List.length_map]; omega)]
theorem cut_on (l : List Nat) (k : Nat) : cutV (iv l) (some (k : Int)) none = iv (l.drop k) := by
  unfold cutV
  rw [HT.sIx_nat, HT.sIx_none, iv_len]
  unfold iv
  rw [List.map_drop]
  by_cases h : k ≤ l.length
  · rw [Nat.min_eq_left h, List.take_of_length_le (by rw [List.length_drop, List.length_map]; exact Nat.le_refl _)]
  · rw [Nat.min_eq_right (by omega), List.drop_eq_nil_of_le (by rw [List.length_map]; exact Nat.le_refl _), List.drop_eq_nil_of_le (by rw [List.length_map]; omega)]
    exact List.take_nil
theorem iv_mid (u v : List Nat) (n : Nat) : iv u ++ [V.int (n : Int)] ++ iv v = iv (u ++ n :: v) := by
  unfold iv
  rw [List.map_append, List.map_cons, List.append_assoc]; rfl
theorem index_at {K : PySem.W.Frag} {H : Hp} {pp z : Addr} {us : List V} {ps : List (Nat × Nat)} {a b j : Nat} {Q : VK} (hpp : H pp = some (.lst us)) (hps : PairsAt H us ps) (hz : H z = some (.tup (iv [a, b]))) (hj : ps[j]? = some (a, b)) (hmin : ∀ m : Nat, m < j → ps[m]? ≠ some (a, b))
    (q : Q (.int (j : Int)) H) : rIndexD K (.ref pp) [.ref z] H Q := by
  refine ⟨pp, .ref z, pairD (a, b), ps.map pairD, j, pairD (a, b), rfl, rfl, .lst (SqL.of hpp) (dp_pairs hps), .tup (SqT.of hz) (iv_dp [a, b]), shaped_pairs ps, shaped_pair (a, b), ?_, ?_, fun m z' hm hz' => ?_, q⟩
  · rw [List.getElem?_map, hj]; rfl
  · rw [eqv_pair]; exact decide_eq_true rfl
  · obtain ⟨p, hp, rfl⟩ := get_pairD hz'
    rw [eqv_pair]
    exact decide_eq_false fun e => hmin m hm (by rw [hp, e])
section
variable {P : Program} {w : World} {K : PySem.W.Frag} {mg : Str → Option Value} {base : Heap}
end
end RJ
end

section
set_option maxRecDepth 100000
set_option maxHeartbeats 8000000
namespace RJ
open PySem PySem.Spec PyProof.Rows L2
abbrev s_law : Stmt := top 55
abbrev N_law : List Str := ["script", "tape", "letters", "corpus", "joins", "passed", "learner", "most", "k", "found", "due", "strange", "text", "at", "place", "more", "spoilt", "bad", "other"]
theorem sc_law : FnScope N_law ["script"] (C8.fnScope s_law) := C8.fnScope_by (by decide +kernel)
/-! ### cutting keeps the text -/
end RJ
end

section
set_option maxRecDepth 100000
set_option maxHeartbeats 4000000
namespace RJ
open PySem PySem.Spec PyProof.Rows L2
/-- len(o) by the class's own __len__ -/
theorem call_lenOwn {X : Cx} {k : Nat} {C : Addr} {sp : Sp} (m : C8.Met X.prog X.w X.K X.mg X.base k C "__len__" sp []) (hr : Room (k + 1) X.A) :
    CallR X (.builtin "len") (fun xs H Q => ∃ (a dx : Addr) (fs : List (Str × V)), xs = [.ref a] ∧ H a = some (.ins C dx fs) ∧ sp [.ref a] H (fun v H1 => ∃ n : Nat, v = .int (n : Int) ∧ n < 2 ^ 62 ∧ Q (.int (n : Int)) H1) C8.E0) := by
  intro pins s σ H xs us Q I r h
  obtain ⟨a, dx, fs, rfl, ha, q⟩ := h
  obtain ⟨f, fd, ps, ds, hc, hm, F, b, d⟩ := m.ex
  rw [Vals.ref1 r]
  obtain ⟨mA, O, _⟩ := ins_get I.hok ha
  obtain ⟨od, inst, _⟩ := O.look
  obtain ⟨mm, fr⟩ := I.fr
  refine PySem.W.len_K fr I.ok.mod.kin inst hm.at_ hm.fn ?_
  have vals : Vals ([V.ref a] ++ []) ([Value.ref a] ++ ds) := Vals.append (.cons rfl .nil) d
  have hl : ([Value.ref a] ++ ds).length = ps.length := by rw [← vals.length]; exact F.len _ _ _ _ q
  refine wpAny_call (codeAny_mono (F.run X.A.in1 X.stack s H ⟨[.ref a], []⟩ ([.ref a] ++ ds) ([.ref a] ++ []) _ C8.E0 hr.in1 I.env0.in1 (b s [.ref a] I.kIn hl) vals q) fun r s' hq => ?_)
  cases r with
  | error e => exact False.elim hq
  | ok fl =>
    cases fl with
    | ret u =>
      obtain ⟨v, H', J, rv, n, rfl, hn, qn⟩ := I.after hq
      obtain ⟨t, rfl⟩ := rv
      exact ⟨⟨by omega, by omega⟩, .int (n : Int), H', J.tok _, ⟨_, rfl⟩, qn⟩
    | next => exact False.elim hq
    | brk => exact False.elim hq
    | cont => exact False.elim hq
end RJ
end

section
set_option maxRecDepth 100000
set_option maxHeartbeats 4000000
namespace RJ
open PySem PySem.Spec PyProof.Rows L2
abbrev s_check_number : Stmt := top 16
abbrev N_check_number : List Str := ["number", "end"]
theorem sc_check_number : FnScope N_check_number ["number", "end"] (C8.fnScope s_check_number) := C8.fnScope_by (by decide +kernel)
abbrev s_Joins___len__ : Stmt := inClass (top 26) 2
abbrev N_Joins___len__ : List Str := ["self"]
theorem sc_Joins___len__ : FnScope N_Joins___len__ ["self"] (C8.fnScope s_Joins___len__) := C8.fnScope_by (by decide +kernel)
def sp_check_number : Sp := fun vs H Q _ => ∃ (i n : Int), vs = [.int i, .int n] ∧ 0 ≤ i ∧ i < n ∧ Q .non H
def sp_len (C : Addr) : Sp := fun vs H Q _ => ∃ (p : Addr) (al : List Nat) (ps : List (Nat × Nat)), vs = [.ref p] ∧ JoinsAt C H p al ps ∧ Q (.int (ps.length : Int)) H
def sp_join_allP (C : Addr) : Sp := fun vs H Q _ => ∃ (p a : Addr) (b : Bool) (row al : List Nat) (ps : List (Nat × Nat)) (r : Nat) (pr : Nat × Nat), vs = [.ref p, .ref a, .int (r : Int)] ∧ JoinsAt C H p al ps ∧ WF al.length ps ∧ ps.length ≤ 1000 ∧ RowAt b H a row ∧ row.length ≤ 1000 ∧ al.length ≤ 1000 ∧ ps[r]? = some pr ∧
  ∀ H' q, Same H H' → H' q = some (.tup (iv (pass pr.1 pr.2 (al.length + r) row))) → Q (.ref q) H'
def sp_stagedP (C : Addr) : Sp := fun vs H Q _ => ∃ (p a : Addr) (b : Bool) (row al : List Nat) (ps : List (Nat × Nat)) (m : Nat), vs = [.ref p, .ref a, .int (m : Int)] ∧ JoinsAt C H p al ps ∧ WF al.length ps ∧ ps.length ≤ 1000 ∧ RowAt b H a row ∧ row.length ≤ 1000 ∧ al.length ≤ 1000 ∧ m ≤ ps.length ∧
  ∀ H' q, Same H H' → H' q = some (.tup (iv (cutL al.length (ps.take m) row))) → Q (.ref q) H'
/-- the changes by the joins -/
def hist (b : Nat) (ps : List (Nat × Nat)) (row : List Nat) (n : Nat) : List (Nat × List Nat) := (List.range n).filterMap fun i => if cutL b (ps.take (i + 1)) row = cutL b (ps.take i) row then none else some (i, cutL b (ps.take (i + 1)) row)
theorem hist_succ (b : Nat) (ps : List (Nat × Nat)) (row : List Nat) (n : Nat) : hist b ps row (n + 1) = hist b ps row n ++ (if cutL b (ps.take (n + 1)) row = cutL b (ps.take n) row then [] else [(n, cutL b (ps.take (n + 1)) row)]) := by
  unfold hist
  rw [List.range_succ, List.filterMap_append]
  congr 1
  rw [List.filterMap_cons, List.filterMap_nil]
  split <;> rename_i h
  · split at h
    · rename_i c; rw [if_pos c]
    · cases h
  · split at h
    · cases h
    · rename_i c; rw [if_neg c]; cases h; rfl
theorem hist_len (b : Nat) (ps : List (Nat × Nat)) (row : List Nat) (n : Nat) : (hist b ps row n).length ≤ n := by
  unfold hist
  have := List.length_filterMap_le (fun i => if cutL b (ps.take (i + 1)) row = cutL b (ps.take i) row then none else some (i, cutL b (ps.take (i + 1)) row)) (List.range n)
  rwa [List.length_range] at this
def HistAt (H : Hp) (v : V) (e : Nat × List Nat) : Prop := ∃ q z, v = .ref q ∧ H q = some (.tup [.int (e.1 : Int), .ref z]) ∧ H z = some (.tup (iv e.2))
theorem HistAt.same {H H' : Hp} {v : V} {e : Nat × List Nat} (s : SameT H H') (h : HistAt H v e) : HistAt H' v e := by
  obtain ⟨q, z, h1, h2, h3⟩ := h
  exact ⟨q, z, h1, s _ _ h2, s _ _ h3⟩
def sp_historyP (C : Addr) : Sp := fun vs H Q _ => ∃ (p : Addr) (t al : List Nat) (ps : List (Nat × Nat)), vs = [.ref p, .str (S t)] ∧ JoinsAt C H p al ps ∧ WF al.length ps ∧ ps.length ≤ 500 ∧ (∀ c ∈ t, c ∈ al) ∧ t.length ≤ 1000 ∧ al.length ≤ 1000 ∧
  ∀ H' q us, Same H H' → H' q = some (.tup us) → Paired (HistAt H') us (hist al.length ps (lets al t) ps.length) → Q (.ref q) H'
theorem WF.ne {b : Nat} {ps : List (Nat × Nat)} (h : WF b ps) {r : Nat} {p : Nat × Nat} (e : ps[r]? = some p) : b + r ≠ p.1 := by have := (h r p e).1; omega
section
variable {P : Program} {w : World} {K : PySem.W.Frag} {mg : Str → Option Value} {base : Heap}
theorem ok_check_number {f : Addr} {fd : FuncData} (F : C8.Fun K "check_number" "check_number" s_check_number f fd) (T : Txt K mg) (c_is_number_below : C8.Cal P w K mg base 2 "is_number_below" sp_is_number_below []) : FnOk P w K mg base C8.CX0 3 f fd ["number", "end"] sp_check_number := by
  refine C8.fn0 F sc_check_number (fun vs H Q E h => ?_) (fun cdv A outer s H vs Q E hr h => ?_)
  · obtain ⟨i, n, rfl, _⟩ := h; rfl
  · obtain ⟨i, n, rfl, h0, h1, q⟩ := h
    refine ⟨_, (pss_one (ps_if (pt_not (pt_val (C8.pe_c c_is_number_below hr (by first | decide | omega) (by rfl) (pa_cons (pv 0) (pa_cons (pv 1) pa_nil))))) (pss_one ps_never) pss_nil)), ?_⟩
    refine ⟨_, rfl, _, rfl, .int i, n, rfl, .int i, _, rfl, ?_⟩
    have e : numBelow (.int i) n = true := by show (decide (0 ≤ i) && decide (i < n)) = true; rw [decide_eq_true h0, decide_eq_true h1]; rfl
    rw [e]
    exact iteF q
theorem ok_len {f C : Addr} {fd : FuncData} (F : C8.Fun K "__len__" "Joins.__len__" s_Joins___len__ f fd) (T : Txt K mg) (J : JTxt K C) : FnOk P w K mg base C8.CX0 1 f fd ["self"] (sp_len C) := by
  refine C8.fn0 F sc_Joins___len__ (fun vs H Q E h => ?_) (fun cdv A outer s H vs Q E hr h => ?_)
  · obtain ⟨p, al, ps, rfl, _⟩ := h; rfl
  · obtain ⟨p, al, ps, rfl, ⟨dx, t, tx, d, e, ws, h1, h2, h3, h4, h5, h6⟩, q⟩ := h
    refine ⟨_, (pss_one (ps_ret (pe_callB call_len_seq (by rfl) T.b_len PySem.boot_len (pa_cons (pe_fld (pv 0) rfl) pa_nil)))), ?_⟩
    refine ⟨_, rfl, p, C, dx, _, _, rfl, h1, J.cl, J.n2, f5_pairs al t tx d e, t, ws, rfl, .inr (SqT.of h2), ?_⟩
    rw [h3.length]; exact q
end
end RJ
end

section
set_option maxRecDepth 100000
set_option maxHeartbeats 4000000
namespace RJ
open PySem PySem.Spec PyProof.Rows L2
abbrev s__law_mixed : Stmt := top 39
abbrev N__law_mixed : List Str := ["number", "turn", "first", "second"]
theorem sc__law_mixed : FnScope N__law_mixed ["number", "turn"] (C8.fnScope s__law_mixed) := C8.fnScope_by (by decide +kernel)
abbrev s__law_tape : Stmt := top 40
abbrev N__law_tape : List Str := ["script"]
theorem sc__law_tape : FnScope N__law_tape ["script"] (C8.fnScope s__law_tape) := C8.fnScope_by (by decide +kernel)
abbrev s__law_draw : Stmt := top 41
abbrev N__law_draw : List Str := ["tape", "many", "cell", "digit"]
theorem sc__law_draw : FnScope N__law_draw ["tape", "many"] (C8.fnScope s__law_draw) := C8.fnScope_by (by decide +kernel)
abbrev s__law_pick : Stmt := top 42
abbrev N__law_pick : List Str := ["tape", "row"]
theorem sc__law_pick : FnScope N__law_pick ["tape", "row"] (C8.fnScope s__law_pick) := C8.fnScope_by (by decide +kernel)
abbrev s__law_signs : Stmt := top 43
abbrev N__law_signs : List Str := ["signs"]
theorem sc__law_signs : FnScope N__law_signs [] (C8.fnScope s__law_signs) := C8.fnScope_by (by decide +kernel)
abbrev s__law_letters : Stmt := top 44
abbrev N__law_letters : List Str := ["tape", "many", "chosen", "first", "k", "place"]
theorem sc__law_letters : FnScope N__law_letters ["tape", "many"] (C8.fnScope s__law_letters) := C8.fnScope_by (by decide +kernel)
/-! ### the tape -/
theorem dk {H : Hp} {d : Addr} {kvs : List (Key × V)} {z : Str} {v : V} (e : H d = some (.dK kvs)) (h : valV kvs (.inr z) = some v) : DGet H d (.str z) (some v) := by
  rw [← h]; exact DGet.k (k := .inr z) e
theorem dp {H : Hp} {d : Addr} {kvs kvs' : List (Key × V)} {z : Str} {v : V} (e : H d = some (.dK kvs)) (hl : kvs.length < 1000) (h : putK kvs (.inr z) v = kvs') : DPut H d (.str z) v (upd H d (.dK kvs')) := by
  rw [← h]; exact DPut.k (k := .inr z) e (small1000 (Nat.le_of_lt hl))
def tapeK (c : Addr) (at_ : Nat) (great left seed turn : Int) : List (Key × V) := [(.inr "cells", .ref c), (.inr "at", .int (at_ : Int)), (.inr "great", .int great), (.inr "left", .int left), (.inr "seed", .int seed), (.inr "turn", .int turn)]
/-- where the tape is, and where its cells are -/
structure Tp where
  d : Addr
  c : Addr
  zs : List Int
def TapeAt (t : Tp) (H : Hp) : Prop := ∃ (at_ : Nat) (great left seed turn : Int), H t.d = some (.dK (tapeK t.c at_ great left seed turn)) ∧ H t.c = some (.lst (t.zs.map V.int)) ∧ t.zs.length ≤ 1000 ∧ at_ ≤ 1000
/-- all as it was but the tape -/
structure TSame (t : Tp) (H H' : Hp) : Prop where
  x : SameX t.d H H'
  at0 : TapeAt t H
  at1 : TapeAt t H'
section tape
variable {t : Tp}
theorem TSame.refl {H : Hp} (h : TapeAt t H) : TSame t H H := ⟨fun _ _ _ e => e, h, h⟩
theorem TapeAt.ne {H : Hp} {b : Addr} {o : HO} (h : TapeAt t H) (e : H b = some o) (hn : ∀ kvs, o ≠ .dK kvs) : b ≠ t.d := by
  obtain ⟨at_, g, l, s, u, h1, _⟩ := h
  exact ne_of e h1 (hn _)
theorem TSame.o {b : Addr} {H H' : Hp} {o : HO} (s : TSame t H H') (e : H b = some o) (hn : ∀ kvs, o ≠ .dK kvs) : H' b = some o := s.x b o (s.at0.ne e hn) e
theorem TSame.lst {b : Addr} {H H' : Hp} {xs : List V} (s : TSame t H H') (e : H b = some (.lst xs)) : H' b = some (.lst xs) := s.o e (fun _ z => by cases z)
theorem TSame.tup {b : Addr} {H H' : Hp} {xs : List V} (s : TSame t H H') (e : H b = some (.tup xs)) : H' b = some (.tup xs) := s.o e (fun _ z => by cases z)
theorem TSame.seq {k : Bool} {b : Addr} {H H' : Hp} {xs : List V} (s : TSame t H H') (e : SeqAt k H b xs) : SeqAt k H' b xs := by
  cases k with
  | true => exact s.lst e
  | false => exact s.tup e
theorem TSame.tt {H H' : Hp} (s : TSame t H H') : SameT H H' := fun b xs e => s.tup e
theorem TSame.trans {H H1 H2 : Hp} (s : TSame t H H1) (u : TSame t H1 H2) : TSame t H H2 := ⟨fun b o h e => u.x b o h (s.x b o h e), s.at0, u.at1⟩
theorem TapeAt.same {H H' : Hp} (h : TapeAt t H) (s : Same H H') : TapeAt t H' := by
  obtain ⟨at_, g, l, se, u, h1, h2, h3⟩ := h
  exact ⟨at_, g, l, se, u, s _ _ h1, s _ _ h2, h3⟩
theorem TSame.of {H H' : Hp} (h : TapeAt t H) (s : Same H H') : TSame t H H' := ⟨Same.x s, h, h.same s⟩
theorem TSame.then {H H1 H2 : Hp} (s : TSame t H H1) (u : Same H1 H2) : TSame t H H2 := s.trans (TSame.of s.at1 u)
theorem TSame.new {p : Addr} {H H1 : Hp} {o : HO} (s : TSame t H H1) (h : H1 p = none) : TSame t H (upd H1 p o) := s.then (same_new h)
theorem TapeAt.free {H : Hp} {p : Addr} (h : TapeAt t H) (hp : H p = none) : t.d ≠ p ∧ t.c ≠ p := by
  obtain ⟨at_, g, l, se, u, h1, h2, h3⟩ := h
  exact ⟨ne_of_none h1 hp, ne_of_none h2 hp⟩
theorem TapeAt.put {H : Hp} {p : Addr} {o : HO} (h : TapeAt t H) (h1 : t.d ≠ p) (h2 : t.c ≠ p) : TapeAt t (upd H p o) := by
  obtain ⟨at_, g, l, se, u, e1, e2, e3⟩ := h
  exact ⟨at_, g, l, se, u, (upd_ne h1).trans e1, (upd_ne h2).trans e2, e3⟩
/-- what is written where nothing stood, is kept out -/
theorem TSame.put {p : Addr} {H H1 : Hp} {o : HO} (s : TSame t H H1) (h : H p = none) : TSame t H (upd H1 p o) :=
  ⟨fun b u hb e => by rw [upd_ne (ne_of_none e h)]; exact s.x b u hb e, s.at0, s.at1.put (s.at0.free h).1 (s.at0.free h).2⟩
theorem TSame.none {p : Addr} {H H1 : Hp} (s : TSame t H H1) (h : H1 p = none) : H p = none := by
  cases e : H p with
  | none => rfl
  | some o =>
    by_cases c : p = t.d
    · obtain ⟨at_, g, l, se, u, e1, _⟩ := s.at1
      rw [c, e1] at h; cases h
    · rw [s.x p o c e] at h; cases h
theorem JoinsAt.tape {C y : Addr} {H H' : Hp} {al : List Nat} {ps : List (Nat × Nat)} (h : JoinsAt C H y al ps) (s : TSame t H H') (hal : 0 < al.length) : JoinsAt C H' y al ps := by
  obtain ⟨dx, u, tx, d, e, ws, h1, h2, h3, h4, h5, h6⟩ := h
  refine ⟨dx, u, tx, d, e, ws, s.o h1 (fun _ z => by cases z), s.tup h2, h3.same s.tt, s.lst h4, s.o h5 (fun _ z => by cases z), s.x e _ ?_ h6⟩
  rintro rfl
  obtain ⟨at_, g, l, se, u', e1, _⟩ := s.at0
  rw [e1] at h6
  have hT : 0 < (textsOf al ps).length := by rw [textsOf_len]; omega
  cases hts : textsOf al ps with
  | nil => rw [hts] at hT; exact absurd hT (Nat.lt_irrefl _)
  | cons a b =>
    rw [hts] at h6
    have e2 : tapeK t.c at_ g l se u' = (Sum.inr (S a), V.int (0 : Nat)) :: kvsT 1 b := by injection h6 with h; injection h
    injection e2 with e3
    injection e3 with e4 e5
    cases e5
end tape
theorem tput_at {H : Hp} {d c : Addr} {at_ : Nat} {g l se u : Int} (e : H d = some (.dK (tapeK c at_ g l se u))) (v : Nat) : DPut H d (.str "at") (.int (v : Int)) (upd H d (.dK (tapeK c v g l se u))) := dp e (by show 6 < 1000; decide) rfl
theorem tput_great {H : Hp} {d c : Addr} {at_ : Nat} {g l se u : Int} (e : H d = some (.dK (tapeK c at_ g l se u))) (v : Int) : DPut H d (.str "great") (.int v) (upd H d (.dK (tapeK c at_ v l se u))) := dp e (by show 6 < 1000; decide) rfl
theorem tput_left {H : Hp} {d c : Addr} {at_ : Nat} {g l se u : Int} (e : H d = some (.dK (tapeK c at_ g l se u))) (v : Int) : DPut H d (.str "left") (.int v) (upd H d (.dK (tapeK c at_ g v se u))) := dp e (by show 6 < 1000; decide) rfl
theorem tput_seed {H : Hp} {d c : Addr} {at_ : Nat} {g l se u : Int} (e : H d = some (.dK (tapeK c at_ g l se u))) (v : Int) : DPut H d (.str "seed") (.int v) (upd H d (.dK (tapeK c at_ g l v u))) := dp e (by show 6 < 1000; decide) rfl
theorem tput_turn {H : Hp} {d c : Addr} {at_ : Nat} {g l se u : Int} (e : H d = some (.dK (tapeK c at_ g l se u))) (v : Int) : DPut H d (.str "turn") (.int v) (upd H d (.dK (tapeK c at_ g l se v))) := dp e (by show 6 < 1000; decide) rfl
def sp_mixed : Sp := fun vs H Q _ => ∃ n u : Int, vs = [.int n, .int u] ∧ ∀ r : Int, Q (.int r) H
def sp_tape (K : PySem.W.Frag) : Sp := fun vs H Q _ => ∃ (a : Addr) (zs : List Int), vs = [.ref a] ∧ SqL K H a (zs.map V.int) ∧ zs.length ≤ 1000 ∧ ∀ H' d c, Same H H' → TapeAt ⟨d, c, zs⟩ H' → Q (.ref d) H'
def sp_draw : Sp := fun vs H Q _ => ∃ (t : Tp) (m : Int), vs = [.ref t.d, .int m] ∧ TapeAt t H ∧ 0 < m ∧ ∀ (H' : Hp) (r : Nat), TSame t H H' → (r : Int) < m → Q (.int (r : Int)) H'
def sp_pick : Sp := fun vs H Q _ => ∃ (t : Tp) (a : Addr) (xs : List V), vs = [.ref t.d, .ref a] ∧ TapeAt t H ∧ H a = some (.lst xs) ∧ 0 < xs.length ∧ ∀ (H' : Hp) (r : Nat) (x : V), TSame t H H' → xs[r]? = some x → Q x H'
def sp_pickS : Sp := fun vs H Q _ => ∃ (t : Tp) (l : List Nat), vs = [.ref t.d, .str (S l)] ∧ TapeAt t H ∧ 0 < l.length ∧ l.length ≤ 1000 ∧ ∀ (H' : Hp) (c : Nat), TSame t H H' → c ∈ l → Q (.str (S [c])) H'
def sp_signs : Sp := fun vs H Q _ => vs = [] ∧ Q (.str (S SG)) H
def sp_lettersC : Sp := fun vs H Q _ => ∃ (t : Tp) (m : Nat), vs = [.ref t.d, .int (m : Int)] ∧ TapeAt t H ∧ 1 ≤ m ∧ m ≤ 30 ∧
  ∀ H' al, TSame t H H' → alOk al = true → al.Nodup → 1 ≤ al.length → al.length ≤ m → (∀ c ∈ al, c ∈ SG) → Q (.str (S al)) H'
theorem SG_asc : SG.Pairwise (· < ·) := by decide +kernel
section
variable {P : Program} {w : World} {K : PySem.W.Frag} {mg : Str → Option Value} {base : Heap}
theorem ok_mixed {f : Addr} {fd : FuncData} (F : C8.Fun K "_law_mixed" "_law_mixed" s__law_mixed f fd) (T : Txt K mg) : FnOk P w K mg base C8.CX0 1 f fd ["number", "turn"] sp_mixed := by
  refine C8.fn0 F sc__law_mixed (fun vs H Q E h => ?_) (fun cdv A outer s H vs Q E hr h => ?_)
  · obtain ⟨n, u, rfl, _⟩ := h; rfl
  · obtain ⟨n, u, rfl, q⟩ := h
    refine ⟨_, (pss_cons (ps_set (i := 2) sc__law_mixed.nd rfl (Or.inl rfl) (pe_op op_mod (pe_callTy call_int1 (by rfl) T.b_int (by decide +kernel) (pa_cons (pe_op op_add (pe_op op_add (pe_op op_mul (pv 0) pe_int) (pe_op op_mul (pv 1) pe_int)) pe_int) pa_nil)) pe_int))
      (pss_cons (ps_set (i := 3) sc__law_mixed.nd rfl (Or.inl rfl) (pe_op op_mod (pe_callTy call_int1 (by rfl) T.b_int (by decide +kernel) (pa_cons (pe_op op_add (pe_op op_add (pe_op op_mul (pv 2) pe_int) (pe_op op_fdiv (pv 2) pe_int)) (pe_op op_mul (pv 1) pe_int)) pa_nil)) pe_int))
      (pss_one (ps_ret (pe_op op_mod (pe_callTy call_int1 (by rfl) T.b_int (by decide +kernel) (pa_cons (pe_op op_add (pe_op op_mul (pv 3) (pv 3)) (pe_op op_fdiv (pv 2) pe_int)) pa_nil)) pe_int))))), ?_⟩
    refine ⟨_, rfl, _, _, rfl, rfl, .inr ⟨by decide, by decide⟩, _, rfl, _, _, rfl, rfl, .inr ⟨by decide, by decide⟩, _, _, rfl, rfl, _, _, rfl, rfl, .inl ⟨_, rfl, _, _, rfl, rfl, by show (0 : Int) < 2147483647; decide, ?_⟩⟩
    refine ⟨_, rfl, _, _, rfl, rfl, .inr ⟨by decide, by decide⟩, _, rfl, _, _, rfl, rfl, ⟨by decide, by decide⟩, _, _, rfl, rfl, _, rfl, _, _, rfl, rfl, .inr ⟨by decide, by decide⟩, _, _, rfl, rfl, .inl ⟨_, rfl, _, _, rfl, rfl, by show (0 : Int) < 1000003; decide, ?_⟩⟩
    dsimp only [gName]
    generalize hsec : (((n * 48271 + u * 69621 + 11) % 2147483647 * 16807 + (n * 48271 + u * 69621 + 11) % 2147483647 / 127773 + u * 271) % 1000003) = sec
    have hb : 0 ≤ sec ∧ sec < 1000003 := by rw [← hsec]; exact ⟨Int.emod_nonneg _ (by decide), Int.emod_lt_of_pos _ (by decide)⟩
    exact ⟨_, rfl, _, rfl, _, _, rfl, rfl, .inl ⟨by omega, by omega⟩, _, rfl, _, _, rfl, rfl, ⟨by decide, by decide⟩, _, _, rfl, rfl, .inl ⟨_, rfl, _, _, rfl, rfl, by show (0 : Int) < 999983; decide, q _⟩⟩
theorem ok_tape {f : Addr} {fd : FuncData} (F : C8.Fun K "_law_tape" "_law_tape" s__law_tape f fd) (T : Txt K mg) : FnOk P w K mg base C8.CX0 1 f fd ["script"] (sp_tape K) := by
  refine C8.fn0 F sc__law_tape (fun vs H Q E h => ?_) (fun cdv A outer s H vs Q E hr h => ?_)
  · obtain ⟨a, zs, rfl, _⟩ := h; rfl
  · obtain ⟨a, zs, rfl, hS, hl, q⟩ := h
    refine ⟨_, (pss_one (ps_ret (pe_disp (pps_cons pe_str (pe_callTy call_list_of (by rfl) T.b_list (by decide +kernel) (pa_cons (pv 0) pa_nil)) (pps_cons pe_str pe_int (pps_cons pe_str pe_int (pps_cons pe_str pe_int (pps_cons pe_str pe_int (pps_cons pe_str pe_int pps_nil)))))) (by rfl) (by rfl) (fun z => by cases z) (by decide)))), ?_⟩
    refine fun d hd => ?_
    have sd := same_new (o := .dK []) hd
    refine ⟨_, rfl, a, _, rfl, .inl (sd.seq hS), fun c hc => ?_⟩
    have hdc : d ≠ c := ne_of_none upd_same hc
    refine ⟨(upd_ne hdc).trans upd_same, tapeK c 0 0 0 7 0, rfl, by show 6 ≤ 15; decide, ?_⟩
    have hd1 : H d = none := hd
    refine q _ d c (Same.put (Same.new sd hc) hd) ⟨0, 0, 0, 7, 0, upd_same, (upd_ne (Ne.symm hdc)).trans upd_same, hl, by decide⟩
theorem ok_draw {f : Addr} {fd : FuncData} (F : C8.Fun K "_law_draw" "_law_draw" s__law_draw f fd) (T : Txt K mg) (c__law_mixed : C8.Cal P w K mg base 1 "_law_mixed" sp_mixed []) : FnOk P w K mg base C8.CX0 2 f fd ["tape", "many"] sp_draw := by
  refine C8.fn0 F sc__law_draw (fun vs H Q E h => ?_) (fun cdv A outer s H vs Q E hr h => ?_)
  · obtain ⟨t, m, rfl, _⟩ := h; rfl
  · obtain ⟨t, m, rfl, hT, hm, q⟩ := h
    have hu := hu_of hr
    obtain ⟨at_, g, l, se, u, h1, h2, h3, h4⟩ := id hT
    have hcd : t.c ≠ t.d := ne_of h2 h1 (fun z => by cases z)
    -- any state of the tape
    have st : ∀ (H' : Hp), SameX t.d H H' → ∀ (at_ : Nat) (g l se u : Int), at_ ≤ 1000 → SameX t.d H (upd H' t.d (.dK (tapeK t.c at_ g l se u))) ∧ (upd H' t.d (.dK (tapeK t.c at_ g l se u))) t.d = some (.dK (tapeK t.c at_ g l se u)) := fun H' s' at_ g l se u _ => ⟨s'.self, upd_same⟩
    have ret : ∀ (H' : Hp), SameX t.d H H' → ∀ (at_ : Nat) (g l se u : Int), at_ ≤ 1000 → H' t.d = some (.dK (tapeK t.c at_ g l se u)) → ∀ z : Int, Q (.int (z % m)) H' := fun H' s' at_ g l se u ha e z => by
      obtain ⟨r, hr1, hr2⟩ := emod_nat z m hm
      rw [hr1]
      exact q H' r ⟨s', hT, at_, g, l, se, u, e, s' _ _ hcd h2, h3, ha⟩ hr2
    refine ⟨_, (pss_cons (ps_dput hu (pv 0) pe_str (pe_op op_add (pe_dget hu (pv 0) pe_str (fun _ _ => rfl)) pe_int) rfl)
      (pss_cons (ps_if (PW.pt (pw_and (pt_cmpR op_eq (pe_dget hu (pv 0) pe_str (fun _ _ => rfl)) pe_int (nomark _)) (pw_and1 (pt_cmpR op_lt (pe_dget hu (pv 0) pe_str (fun _ _ => rfl)) (pe_callB call_len_seq (by rfl) T.b_len PySem.boot_len (pa_cons (pe_dget hu (pv 0) pe_str (fun _ _ => rfl)) pa_nil)) (nomark _))))) (pss_cons (ps_set (i := 2) sc__law_draw.nd rfl (Or.inl rfl) (pe_ix ix_list (pe_dget hu (pv 0) pe_str (fun _ _ => rfl)) (pe_dget hu (pv 0) pe_str (fun _ _ => rfl)) (fun _ _ => rfl)))
      (pss_cons (ps_dput hu (pv 0) pe_str (pe_op op_add (pe_dget hu (pv 0) pe_str (fun _ _ => rfl)) pe_int) rfl)
      (pss_cons (ps_dput hu (pv 0) pe_str (C8.pe_c c__law_mixed hr (by first | decide | omega) (by rfl) (pa_cons (pe_op op_add (pe_dget hu (pv 0) pe_str (fun _ _ => rfl)) (pv 2)) (pa_cons (pe_dget hu (pv 0) pe_str (fun _ _ => rfl)) pa_nil))) rfl)
      (pss_cons (ps_dput hu (pv 0) pe_str pe_int rfl)
      (pss_one (ps_if (pt_cmpR op_ge (pv 2) (pe_op op_pow pe_int pe_int) (nomark _)) (pss_cons (ps_dput hu (pv 0) pe_str (pv 2) rfl)
      (pss_one (ps_dput hu (pv 0) pe_str pe_int rfl))) pss_nil)))))) pss_nil)
      (pss_cons (ps_if (pt_cmpR op_gt (pe_dget hu (pv 0) pe_str (fun _ _ => rfl)) pe_int (nomark _)) (pss_one (ps_dput hu (pv 0) pe_str (pe_op op_sub (pe_dget hu (pv 0) pe_str (fun _ _ => rfl)) pe_int) rfl)) pss_nil)
      (pss_cons (ps_if (pt_cmpR op_eq (pe_dget hu (pv 0) pe_str (fun _ _ => rfl)) pe_int (nomark _)) (pss_one (ps_ret (pe_op op_mod (pe_callTy call_int1 (by rfl) T.b_int (by decide +kernel) (pa_cons (C8.pe_c c__law_mixed hr (by first | decide | omega) (by rfl) (pa_cons (pe_dget hu (pv 0) pe_str (fun _ _ => rfl)) (pa_cons (pe_dget hu (pv 0) pe_str (fun _ _ => rfl)) pa_nil))) pa_nil)) (pv 1)))) pss_nil)
      (pss_cons (ps_set (i := 3) sc__law_draw.nd rfl (Or.inl rfl) (pe_op op_mod (pe_callTy call_int1 (by rfl) T.b_int (by decide +kernel) (pa_cons (pe_dget hu (pv 0) pe_str (fun _ _ => rfl)) pa_nil)) pe_int))
      (pss_cons (ps_dput hu (pv 0) pe_str (pe_op op_fdiv (pe_dget hu (pv 0) pe_str (fun _ _ => rfl)) pe_int) rfl)
      (pss_cons (ps_if (PW.pt (pw_or (pt_cmpR op_eq (pe_dget hu (pv 0) pe_str (fun _ _ => rfl)) pe_int (nomark _)) (pw_or1 (pt_cmpR op_eq (pe_dget hu (pv 0) pe_str (fun _ _ => rfl)) pe_int (nomark _))))) (pss_cons (ps_dput hu (pv 0) pe_str pe_int rfl)
      (pss_one (ps_dput hu (pv 0) pe_str pe_int rfl))) pss_nil)
      (pss_one (ps_ret (pe_op op_mod (pe_callTy call_int1 (by rfl) T.b_int (by decide +kernel) (pa_cons (pv 3) pa_nil)) (pv 1))))))))))), ?_⟩
    refine ⟨_, rfl, t.d, _, rfl, dk h1 rfl, _, _, rfl, rfl, _, rfl, t.d, _, rfl, tput_turn h1 (u + 1), ?_⟩
    have s0 : SameX t.d H H := fun _ _ _ e => e
    obtain ⟨x1, e1⟩ := st H s0 at_ g l se (u + 1) h4
    revert x1 e1
    dsimp only
    show SameX t.d H (upd H t.d (.dK (tapeK t.c at_ g l se (u + 1)))) → (upd H t.d (.dK (tapeK t.c at_ g l se (u + 1)))) t.d = some (HO.dK (tapeK t.c at_ g l se (u + 1))) → tSeq (tIfS _ _ _) _ _ _ (upd H t.d (.dK (tapeK t.c at_ g l se (u + 1))))
    generalize upd H t.d (.dK (tapeK t.c at_ g l se (u + 1))) = H1
    generalize u + 1 = u1
    intro x1 e1
    show tTest _ _ _ _
    generalize hM1 : tSeq (tIfS _ _ _) _ _ = M1
    have key1 : ∀ (H' : Hp) (v2 : Option V) (at_ : Nat) (g l se u : Int), SameX t.d H H' → at_ ≤ 1000 → H' t.d = some (.dK (tapeK t.c at_ g l se u)) → M1 [some (.ref t.d), some (.int m), v2, none] H' := by
      clear e1 x1 h1 h4 hT
      intro H1 v2 at_ g l se u x1 h4 e1
      rw [← hM1]
      show tTest _ _ _ _
      generalize hM2 : tSeq _ _ _ = M2
      have key2 : ∀ (H' : Hp) (at_ : Nat) (g l se u : Int), SameX t.d H H' → at_ ≤ 1000 → H' t.d = some (.dK (tapeK t.c at_ g l se u)) → M2 [some (.ref t.d), some (.int m), v2, none] H' := by
        clear e1 x1 h4
        intro H1 at_ g l se u x1 h4 e1
        rw [← hM2]
        refine ⟨_, rfl, t.d, _, rfl, dk e1 rfl, rfl, _, rfl, ?_⟩
        obtain ⟨b, hb⟩ : ∃ b : Bool, b = decide (V.int g = V.int 0) := ⟨_, rfl⟩
        show (if decide (V.int g = V.int 0) = true then _ else _)
        rw [← hb]
        cases b with
        | true =>
          exact iteT ⟨_, rfl, t.d, _, rfl, dk e1 rfl, _, rfl, t.d, _, rfl, dk e1 rfl, _, _, rfl, fun r => .inl ⟨_, rfl, _, rfl, _, _, rfl, rfl, hm, ret H1 x1 at_ g l se u h4 e1 r⟩⟩
        | false =>
          refine iteF ?_
          refine ⟨_, rfl, t.d, _, rfl, dk e1 rfl, .inl ⟨_, rfl, _, _, rfl, rfl, by show (0 : Int) < 1009; decide, ?_⟩⟩
          refine ⟨_, rfl, t.d, _, rfl, dk e1 rfl, _, _, rfl, rfl, ⟨by decide, by decide⟩, _, rfl, t.d, _, rfl, tput_great e1 (g / 1009), ?_⟩
          obtain ⟨x2, e2⟩ := st H1 x1 at_ (g / 1009) l se u h4
          revert x2 e2
          dsimp only [gName]
          show SameX t.d H (upd H1 t.d (.dK (tapeK t.c at_ (g / 1009) l se u))) → (upd H1 t.d (.dK (tapeK t.c at_ (g / 1009) l se u))) t.d = some (HO.dK (tapeK t.c at_ (g / 1009) l se u)) → tSeq (tIfS _ _ _) _ _ _ (upd H1 t.d (.dK (tapeK t.c at_ (g / 1009) l se u)))
          generalize upd H1 t.d (.dK (tapeK t.c at_ (g / 1009) l se u)) = H2
          generalize g / 1009 = g2
          generalize hdg : g % 1009 = dg
          intro x2 e2
          show tOr _ _ _ _ _
          generalize hM3 : tRet _ _ = M3
          have key3 : ∀ (H' : Hp) (at_ : Nat) (g l se u : Int), SameX t.d H H' → at_ ≤ 1000 → H' t.d = some (.dK (tapeK t.c at_ g l se u)) → M3 [some (.ref t.d), some (.int m), v2, some (.int dg)] H' := by
            intro H1 at_ g l se u x1 h4 e1
            rw [← hM3]
            exact ⟨_, rfl, .inl ⟨_, rfl, _, rfl, _, _, rfl, rfl, hm, ret H1 x1 at_ g l se u h4 e1 dg⟩⟩
          have two : ∀ (H' : Hp) (at_ : Nat) (g l se u : Int), SameX t.d H H' → at_ ≤ 1000 → H' t.d = some (.dK (tapeK t.c at_ g l se u)) → M3 [some (.ref t.d), some (.int m), v2, some (.int dg)] (upd (upd H' t.d (.dK (tapeK t.c at_ 0 l se u))) t.d (.dK (tapeK t.c at_ 0 0 se u))) := by
            intro H1 at_ g l se u x1 h4 e1
            exact key3 _ at_ 0 0 se u x1.self.self h4 upd_same
          refine ⟨_, rfl, t.d, _, rfl, dk e2 rfl, rfl, _, rfl, ?_⟩
          obtain ⟨b, hb⟩ : ∃ b : Bool, b = decide (V.int g2 = V.int 0) := ⟨_, rfl⟩
          show (if decide (V.int g2 = V.int 0) = true then _ else _)
          rw [← hb]
          cases b with
          | true => exact iteT (iteT ⟨_, rfl, t.d, _, rfl, tput_great e2 0, _, rfl, t.d, _, rfl, tput_left upd_same 0, two H2 at_ g2 l se u x2 h4 e2⟩)
          | false =>
            refine iteF ⟨_, rfl, t.d, _, rfl, dk e2 rfl, rfl, _, rfl, ?_⟩
            obtain ⟨b, hb⟩ : ∃ b : Bool, b = decide (V.int l = V.int 0) := ⟨_, rfl⟩
            show (if decide (V.int l = V.int 0) = true then _ else _)
            rw [← hb]
            cases b with
            | true => exact iteT ⟨_, rfl, t.d, _, rfl, tput_great e2 0, _, rfl, t.d, _, rfl, tput_left upd_same 0, two H2 at_ g2 l se u x2 h4 e2⟩
            | false => exact iteF (key3 H2 at_ g2 l se u x2 h4 e2)
      refine ⟨_, rfl, t.d, _, rfl, dk e1 rfl, _, _, rfl, rfl, _, rfl, ?_⟩
      obtain ⟨b, hb⟩ : ∃ b : Bool, b = decide ((0 : Int) < l) := ⟨_, rfl⟩
      show (if decide ((0 : Int) < l) = true then _ else _)
      rw [← hb]
      cases b with
      | true => exact iteT ⟨_, rfl, t.d, _, rfl, dk e1 rfl, _, _, rfl, rfl, _, rfl, t.d, _, rfl, tput_left e1 (l - 1), key2 _ at_ g (l - 1) se u x1.self h4 upd_same⟩
      | false => exact iteF (key2 H1 at_ g l se u x1 h4 e1)
    have hcs := x1 _ _ hcd h2
    refine ⟨_, rfl, t.d, _, rfl, dk e1 rfl, rfl, _, rfl, ?_⟩
    obtain ⟨b, hb⟩ : ∃ b : Bool, b = decide (V.int l = V.int 0) := ⟨_, rfl⟩
    show (if decide (V.int l = V.int 0) = true then _ else _)
    rw [← hb]
    cases b with
    | false => exact iteF (iteF (key1 H1 none at_ g l se u1 x1 h4 e1))
    | true =>
      refine iteT ⟨_, rfl, t.d, _, rfl, dk e1 rfl, _, rfl, t.d, _, rfl, dk e1 rfl, t.c, _, rfl, .inl (SqL.of hcs), _, _, rfl, rfl, _, rfl, ?_⟩
      rw [List.length_map]
      by_cases hlt : at_ < t.zs.length
      · rw [decide_eq_true (by omega : (at_ : Int) < (t.zs.length : Int))]
        obtain ⟨z, hz⟩ : ∃ z, (t.zs.map V.int)[at_]? = some (V.int z) := ⟨t.zs[at_]'hlt, by rw [List.getElem?_map, List.getElem?_eq_getElem hlt]; rfl⟩
        refine iteT ⟨_, rfl, t.d, _, rfl, dk e1 rfl, _, rfl, t.d, _, rfl, dk e1 rfl, t.c, _, _, _, rfl, rfl, SqL.of hcs, atI_nat hz, ?_⟩
        refine ⟨_, rfl, t.d, _, rfl, dk e1 rfl, _, _, rfl, rfl, _, rfl, t.d, _, rfl, tput_at e1 (at_ + 1), ?_⟩
        have x2 := x1.self (o := .dK (tapeK t.c (at_ + 1) g l se u1))
        have e2 : (upd H1 t.d (.dK (tapeK t.c (at_ + 1) g l se u1))) t.d = some (.dK (tapeK t.c (at_ + 1) g l se u1)) := upd_same
        refine ⟨_, rfl, t.d, _, rfl, dk e2 rfl, _, rfl, _, _, rfl, rfl, _, rfl, t.d, _, rfl, dk e2 rfl, _, _, rfl, fun r => ⟨_, rfl, t.d, _, rfl, tput_seed e2 r, ?_⟩⟩
        have x3 := x2.self (o := .dK (tapeK t.c (at_ + 1) g l r u1))
        refine ⟨_, rfl, t.d, _, rfl, tput_left upd_same 4, ?_⟩
        have x4 := x3.self (o := .dK (tapeK t.c (at_ + 1) g 4 r u1))
        refine ⟨_, rfl, _, _, rfl, rfl, ⟨by decide, by decide, by decide⟩, _, _, rfl, rfl, _, rfl, ?_⟩
        obtain ⟨b, hb⟩ : ∃ b : Bool, b = decide (((10 : Int) ^ (18 : Int).toNat) ≤ z) := ⟨_, rfl⟩
        show (if decide (((10 : Int) ^ (18 : Int).toNat) ≤ z) = true then _ else _)
        rw [← hb]
        cases b with
        | false => exact iteF (key1 _ (some (.int z)) (at_ + 1) g 4 r u1 x4 (by omega) upd_same)
        | true => exact iteT ⟨_, rfl, _, rfl, t.d, _, rfl, tput_great upd_same z, _, rfl, t.d, _, rfl, tput_left upd_same 60, key1 _ (some (.int z)) (at_ + 1) z 60 r u1 x4.self.self (by omega) upd_same⟩
      · rw [decide_eq_false (by omega : ¬ (at_ : Int) < (t.zs.length : Int))]
        exact iteF (key1 H1 none at_ g l se u1 x1 h4 e1)
end
end RJ
end

section
set_option maxRecDepth 100000
set_option maxHeartbeats 8000000
namespace RJ
open PySem PySem.Spec PyProof.Rows L2
section
variable {X : Cx} {k j : Nat} {x : Str} {sp : Sp} {p pos : Pos}
theorem pe_c0 (c : C8.Cal X.prog X.w X.K X.mg X.base k x sp []) (hr : Room j X.A) (hk : k ≤ j) (hg : Gl X x) (hdb : (x == ("__debug__" : Str)) = false := by decide) : PE X (.Call (.Name x p) [] [] pos) (tCall sp [] C8.E0 tNil) := by
  obtain ⟨f, fd, ps, ds, F, hm, kp, b, d⟩ := c.ex
  exact pe_call0 F (hr.mono hk) hg hm kp b d pass0 hdb
end
/-- ascending signs -/
theorem asc_of : ∀ {l : List Nat}, l.Pairwise (· < ·) → (ascL l).all id = true
  | [], _ => rfl
  | [_], _ => rfl
  | a :: b :: t, h => by
    have h1 := (List.pairwise_cons.mp h).1 b (List.mem_cons_self ..)
    have h2 := asc_of (List.pairwise_cons.mp h).2
    show (decide (a < b) && (ascL (b :: t)).all id) = true
    rw [decide_eq_true h1, h2]; rfl
/-- a dict of numbers, each with True -/
def dkeys (ks : List Nat) : List (Key × V) := ks.map fun (n : Nat) => ((Sum.inl (n : Int), .bl true) : Key × V)
theorem dkeys_val (n : Nat) : ∀ ks : List Nat, valV (dkeys ks) (.inl (n : Int)) = if n ∈ ks then some (.bl true) else none
  | [] => by rw [if_neg List.not_mem_nil]; exact valV_nil
  | k :: ks => by
    show valV (((Sum.inl (k : Int), .bl true) : Key × V) :: dkeys ks) _ = _
    by_cases h : k = n
    · subst h
      rw [valV_pos (p := ((Sum.inl (k : Int), .bl true) : Key × V)) rfl, if_pos (List.mem_cons_self ..)]
    · rw [valV_neg (p := ((Sum.inl (k : Int), .bl true) : Key × V)) (fun z => h (by have := Sum.inl.inj z; omega)), dkeys_val n ks]
      by_cases m : n ∈ ks
      · rw [if_pos m, if_pos (List.mem_cons_of_mem _ m)]
      · rw [if_neg m, if_neg fun z => by
          rcases List.mem_cons.mp z with e | e
          · exact h e.symm
          · exact m e]
theorem dkeys_put (n : Nat) (ks : List Nat) : putK (dkeys ks) (.inl (n : Int)) (.bl true) = if n ∈ ks then dkeys ks else dkeys (ks ++ [n]) := by
  by_cases m : n ∈ ks
  · rw [if_pos m]
    unfold putK
    rw [valV_any, dkeys_val, if_pos m]
    rw [if_pos (show (some (V.bl true)).isSome = true from rfl)]
    unfold dkeys
    rw [List.map_map]
    refine List.map_congr_left fun k _ => ?_
    show (if (Sum.inl (k : Int) : Key) = .inl (n : Int) then ((.inl (k : Int), .bl true) : Key × V) else (.inl (k : Int), .bl true)) = _
    split <;> rfl
  · rw [if_neg m, putK_new _ (by rw [dkeys_val, if_neg m])]
    unfold dkeys
    rw [List.map_append]; rfl
theorem dkeys_keys (ks : List Nat) : (dkeys ks).map (·.1) = (ks.map fun n : Nat => (n : Int)).map Sum.inl := by
  unfold dkeys
  rw [List.map_map, List.map_map]; rfl
theorem dkeys_len (ks : List Nat) : (dkeys ks).length = ks.length := by unfold dkeys; rw [List.length_map]
theorem perm_nat {ys : List Int} {ks : List Nat} (h : ys.Perm (ks.map fun n : Nat => (n : Int))) : ∃ l : List Nat, ys = l.map (fun n : Nat => (n : Int)) ∧ l.Perm ks := by
  refine ⟨ys.map Int.toNat, ?_, ?_⟩
  · rw [List.map_map]
    have key : ∀ y ∈ ys, ((fun n : Nat => (n : Int)) ∘ Int.toNat) y = y := fun y hy => by
      obtain ⟨n, _, rfl⟩ := List.mem_map.mp (h.mem_iff.mp hy)
      rfl
    rw [List.map_congr_left key, List.map_id']
  · have := h.map Int.toNat
    rw [List.map_map] at this
    have e : (ks.map (Int.toNat ∘ fun n : Nat => (n : Int))) = ks := by
      have : ∀ k ∈ ks, (Int.toNat ∘ fun n : Nat => (n : Int)) k = k := fun k _ => rfl
      rw [List.map_congr_left this, List.map_id']
    rw [e] at this
    exact this
theorem pair_lt {l : List Nat} (h : (l.map fun n : Nat => (n : Int)).Pairwise (· ≤ ·)) (hn : l.Nodup) : l.Pairwise (· < ·) := by
  induction l with
  | nil => exact .nil
  | cons a l ih =>
    rw [List.map_cons, List.pairwise_cons] at h
    rw [List.nodup_cons] at hn
    refine List.pairwise_cons.mpr ⟨fun b hb => ?_, ih h.2 hn.2⟩
    have h1 := h.1 (b : Int) (List.mem_map.mpr ⟨b, hb, rfl⟩)
    have h2 : a ≠ b := fun e => hn.1 (e ▸ hb)
    omega
theorem sg_map {l : List Nat} (h : l.Pairwise (· < ·)) (hb : ∀ n ∈ l, n < 94) : (l.map fun n => SG.getD n 0).Pairwise (· < ·) := by
  induction l with
  | nil => exact .nil
  | cons a l ih =>
    rw [List.pairwise_cons] at h
    rw [List.map_cons, List.pairwise_cons]
    refine ⟨fun c hc => ?_, ih h.2 fun n hn => hb n (List.mem_cons_of_mem _ hn)⟩
    obtain ⟨n, hn, rfl⟩ := List.mem_map.mp hc
    have h1 := h.1 n hn
    have h2 := hb n (List.mem_cons_of_mem _ hn)
    have h3 : a < SG.length := by rw [SG_len]; omega
    have h4 : n < SG.length := by rw [SG_len]; exact h2
    have := List.pairwise_iff_getElem.mp SG_asc a n h3 h4 h1
    rw [List.getD_eq_getElem?_getD, List.getD_eq_getElem?_getD, List.getElem?_eq_getElem h3, List.getElem?_eq_getElem h4]
    exact this
section
variable {P : Program} {w : World} {K : PySem.W.Frag} {mg : Str → Option Value} {base : Heap}
theorem ok_pick {f : Addr} {fd : FuncData} (F : C8.Fun K "_law_pick" "_law_pick" s__law_pick f fd) (T : Txt K mg) (c__law_draw : C8.Cal P w K mg base 2 "_law_draw" sp_draw []) : FnOk P w K mg base C8.CX0 3 f fd ["tape", "row"] sp_pick := by
  refine C8.fn0 F sc__law_pick (fun vs H Q E h => ?_) (fun cdv A outer s H vs Q E hr h => ?_)
  · obtain ⟨t, a, xs, rfl, _⟩ := h; rfl
  · obtain ⟨t, a, xs, rfl, hT, ha, hl, q⟩ := h
    refine ⟨_, (pss_one (ps_ret (pe_ix ix_list (pv 1) (C8.pe_c c__law_draw hr (by first | decide | omega) (by rfl) (pa_cons (pv 0) (pa_cons (pe_callB call_len_seq (by rfl) T.b_len PySem.boot_len (pa_cons (pv 1) pa_nil)) pa_nil))) (fun _ _ => rfl)))), ?_⟩
    refine ⟨_, rfl, _, rfl, _, rfl, a, _, rfl, .inl (SqL.of ha), t, _, rfl, hT, by omega, fun H1 r s1 hr1 => ?_⟩
    have hrl : r < xs.length := by omega
    exact ⟨a, _, _, _, rfl, rfl, SqL.of (s1.lst ha), atI_nat (List.getElem?_eq_getElem hrl), q H1 r _ s1 (List.getElem?_eq_getElem hrl)⟩
theorem ok_pickS {f : Addr} {fd : FuncData} (F : C8.Fun K "_law_pick" "_law_pick" s__law_pick f fd) (T : Txt K mg) (c__law_draw : C8.Cal P w K mg base 2 "_law_draw" sp_draw []) : FnOk P w K mg base C8.CX0 3 f fd ["tape", "row"] sp_pickS := by
  refine C8.fn0 F sc__law_pick (fun vs H Q E h => ?_) (fun cdv A outer s H vs Q E hr h => ?_)
  · obtain ⟨t, l, rfl, _⟩ := h; rfl
  · obtain ⟨t, l, rfl, hT, hl, hl2, q⟩ := h
    refine ⟨_, (pss_one (ps_ret (pe_ix ix_str (pv 1) (C8.pe_c c__law_draw hr (by first | decide | omega) (by rfl) (pa_cons (pv 0) (pa_cons (pe_callB call_len_str (by rfl) T.b_len PySem.boot_len (pa_cons (pv 1) pa_nil)) pa_nil))) (fun _ _ => rfl)))), ?_⟩
    refine ⟨_, rfl, _, rfl, _, rfl, S l, rfl, by rw [S_len]; exact small_le hl2, ?_⟩
    rw [S_len]
    refine ⟨t, _, rfl, hT, by omega, fun H1 r s1 hr1 => ?_⟩
    have hrl : r < l.length := by omega
    exact ⟨S l, _, _, rfl, rfl, by rw [S_len]; exact small_le hl2, atI_nat (List.getElem?_eq_getElem hrl), q H1 _ s1 (List.getElem_mem hrl)⟩
theorem ok_signs {f : Addr} {fd : FuncData} (F : C8.Fun K "_law_signs" "_law_signs" s__law_signs f fd) (T : Txt K mg) : FnOk P w K mg base C8.CX0 1 f fd [] sp_signs := by
  refine C8.fn0 F sc__law_signs (fun vs H Q E h => ?_) (fun cdv A outer s H vs Q E hr h => ?_)
  · rw [h.1]; rfl
  · obtain ⟨rfl, q⟩ := h
    refine ⟨_, (pss_cons (ps_set (i := 0) sc__law_signs.nd rfl (Or.inl rfl) pe_str)
      (pss_one (ps_ret (pe_op op_add_str (pv 0) pe_str)))), ?_⟩
    refine ⟨_, rfl, _, _, rfl, rfl, by decide +kernel, ?_⟩
    exact (congrArg (fun z : Str => Q (.str z) H) (by decide +kernel : _ = S SG)).mpr q
theorem ok_lettersC {f : Addr} {fd : FuncData} (F : C8.Fun K "_law_letters" "_law_letters" s__law_letters f fd) (T : Txt K mg) (c__law_draw : C8.Cal P w K mg base 2 "_law_draw" sp_draw []) (c__law_pick : C8.Cal P w K mg base 3 "_law_pick" sp_pick []) (c__law_signs : C8.Cal P w K mg base 1 "_law_signs" sp_signs []) : FnOk P w K mg base C8.CX0 4 f fd ["tape", "many"] sp_lettersC := by
  refine C8.fn0 F sc__law_letters (fun vs H Q E h => ?_) (fun cdv A outer s H vs Q E hr h => ?_)
  · obtain ⟨t, m, rfl, _⟩ := h; rfl
  · obtain ⟨t, m, rfl, hT, hm1, hm2, q⟩ := h
    have hu := hu_of hr
    refine ⟨_, (pss_cons (ps_set (i := 2) sc__law_letters.nd rfl (Or.inl rfl) pe_dnewK)
      (pss_cons (ps_set (i := 3) sc__law_letters.nd rfl (Or.inl rfl) (C8.pe_c c__law_draw hr (by first | decide | omega) (by rfl) (pa_cons (pv 0) (pa_cons pe_int pa_nil))))
      (pss_cons (ps_for PassesOwn.never rfl (pi_range1 rfl T.b_range (pa_cons (pv 1) pa_nil)) (pg_name (i := 4) sc__law_letters.nd rfl (Or.inl rfl)) (pss_one (ps_dput hu (pv 2) (C8.pe_c c__law_pick hr (by first | decide | omega) (by rfl) (pa_cons (pv 0) (pa_cons (pe_lst (pa_cons (pe_op op_mod (pe_callTy call_int1 (by rfl) T.b_int (by decide +kernel) (pa_cons (pe_op op_add (pv 3) (pv 4)) pa_nil)) pe_int) (pa_cons (C8.pe_c c__law_draw hr (by first | decide | omega) (by rfl) (pa_cons (pv 0) (pa_cons pe_int pa_nil))) pa_nil))) pa_nil))) pe_bl rfl)))
      (pss_one (ps_ret (pe_join pe_str (pe_lc (own := [("place", 5)]) (g := gName 5) (tt := tYes) rfl sc__law_letters.nd (pi_list (pe_callB (call_sortedDI rfl) (by rfl) T.b_sorted (by decide +kernel) (pa_cons (pv 2) pa_nil))) (blkOk_by (N := N__law_letters) (sc := C8.fnScope s__law_letters) (by decide +kernel)) (fun _ _ _ _ _ => (pg_name (i := 5) sc__law_letters.nd rfl (Or.inl rfl))) (fun _ _ _ _ _ => pts_nil) (fun _ _ _ _ _ => (pe_ix ix_str (pe_c0 c__law_signs hr (by first | decide | omega) (by rfl)) (pv 5) (fun _ _ => rfl)))))))))), ?_⟩
    refine fun d hd => ?_
    have s0 : TSame t H (upd H d (.dK [])) := (TSame.refl hT).new hd
    have hdt : d ≠ t.d := Ne.symm (hT.free hd).1
    refine ⟨_, rfl, t, 94, rfl, s0.at1, by decide, fun H1 r1 s1 hr1 => ?_⟩
    have e1 : H1 d = some (.dK (dkeys [])) := s1.x d _ hdt upd_same
    refine ⟨_, rfl, _, rfl, by omega, by omega, for_it walk_range (fun i σ H' => ∃ (ks : List Nat) (v4 v5 : Option V), σ = [some (.ref t.d), some (.int (m : Int)), some (.ref d), some (.int (r1 : Int)), v4, v5] ∧ TSame t H H' ∧ H' d = some (.dK (dkeys ks)) ∧ ks.Nodup ∧ (∀ k ∈ ks, k < 94) ∧ ks.length ≤ i ∧ (0 < i → 0 < ks.length))
      ⟨[], none, none, rfl, s0.trans s1, e1, .nil, fun k hk => (List.not_mem_nil hk).elim, Nat.le_refl _, fun h => h⟩ (fun _ _ _ _ _ => trivial) ?_ ?_⟩
    · rintro i x σ Ha Hb hi ⟨ks, v4, v5, rfl, sa, hd', hnd, hin, hle, hpos⟩ ⟨rfl, hx⟩
      obtain rfl : x = V.int (i : Int) := hx.trans (congrArg V.int (Int.zero_add _))
      have him : i < m := by simpa using hi
      obtain ⟨n1, hn1, hn194⟩ := emod_nat ((r1 : Int) + (i : Int)) 94 (by decide)
      refine ⟨_, rfl, _, rfl, _, rfl, _, rfl, _, _, rfl, rfl, .inl ⟨_, rfl, _, _, rfl, rfl, by show (0 : Int) < 94; decide, ?_⟩⟩
      refine ⟨_, rfl, t, 94, rfl, sa.at1, by decide, fun H2 r2 s2 hr2 => ⟨by show 2 ≤ sizeLine; decide, fun L hL => ?_⟩⟩
      have s3 : TSame t Hb (upd H2 L (.lst [V.int (((r1 : Int) + (i : Int)) % 94), V.int (r2 : Int)])) := s2.new hL
      refine ⟨t, L, _, rfl, s3.at1, upd_same, by show 0 < 2; decide, fun H3 r3 x s4 hx3 => ?_⟩
      have hn : ∃ n : Nat, x = V.int (n : Int) ∧ n < 94 := by
        change ([V.int (((r1 : Int) + (i : Int)) % 94), V.int (r2 : Int)] : List V)[r3]? = some x at hx3
        rw [hn1] at hx3
        rcases r3 with _ | _ | r3
        · exact ⟨n1, (Option.some.inj hx3).symm, by omega⟩
        · exact ⟨r2, (Option.some.inj hx3).symm, by omega⟩
        · cases hx3
      obtain ⟨n, rfl, hn94⟩ := hn
      have sb := s3.trans s4
      have hd3 : H3 d = some (.dK (dkeys ks)) := sb.x d _ hdt hd'
      refine ⟨d, _, rfl, DPut.k (k := .inl (n : Int)) hd3 (by rw [dkeys_len]; exact small1000 (by omega)), ?_⟩
      rw [dkeys_put]
      have sc : TSame t H (upd H3 d (.dK (if n ∈ ks then dkeys ks else dkeys (ks ++ [n])))) := (sa.trans sb).put hd
      by_cases hm : n ∈ ks
      · rw [if_pos hm] at sc ⊢
        exact ⟨ks, _, _, rfl, sc, upd_same, hnd, hin, by omega, fun _ => List.length_pos_of_mem hm⟩
      · rw [if_neg hm] at sc ⊢
        refine ⟨ks ++ [n], _, _, rfl, sc, upd_same, ?_, ?_, ?_, fun _ => ?_⟩
        · exact List.nodup_append.mpr ⟨hnd, by simp, fun x hx y hy z => hm (by rw [List.mem_singleton.mp hy] at z; exact z ▸ hx)⟩
        · intro k hk
          rcases List.mem_append.mp hk with z | z
          · exact hin k z
          · rw [List.mem_singleton.mp z]; exact hn94
        · rw [List.length_append, List.length_singleton]; omega
        · rw [List.length_append, List.length_singleton]; omega
    · rintro σ H2 ⟨ks, v4, v5, rfl, sa, hd', hnd, hin, hle, hpos⟩
      have hle' : ks.length ≤ m := by simpa using hle
      have hpos' : 0 < ks.length := hpos (Nat.lt_of_lt_of_le Nat.zero_lt_one hm1)
      refine ⟨⟨_, rfl⟩, _, rfl, d, dkeys ks, ks.map fun n : Nat => (n : Int), rfl, .inl hd', dkeys_keys ks, by rw [List.length_map]; omega, fun ys p hperm hsort hp => ?_⟩
      obtain ⟨l, rfl, hl⟩ := perm_nat hperm
      have hlen := hl.length_eq
      have hasc := pair_lt hsort (hl.nodup_iff.mpr hnd)
      have hin' : ∀ n ∈ l, n < 94 := fun n hn => hin n (hl.mem_iff.mp hn)
      have el : ((l.map fun n : Nat => (n : Int)).map V.int) = iv l := by rw [List.map_map]; rfl
      have sp : TSame t H (upd H2 p (.lst ((l.map fun n : Nat => (n : Int)).map V.int))) := sa.new hp
      rw [el] at sp ⊢
      refine ⟨p, rfl, ⟨_, SqL.of upd_same⟩, fun D hD => lc_it walk_list (fun i H' => TSame t H H' ∧ H' p = some (.lst (iv l)) ∧ H' D = some (.lst ((sv ((l.map fun n => SG.getD n 0).take i)).map V.str))) ⟨sp.new hD, (upd_ne (ne_of_none upd_same hD)).trans upd_same, upd_same⟩ (fun i H' _ ⟨_, h, _⟩ => SqL.of h) ?_ ?_⟩
      · rintro i x Ha Hb hi ⟨sb, hpb, hDb⟩ ⟨rfl, hx⟩
        obtain ⟨n, hn, rfl⟩ := iv_get hx
        have hn94 := hin' n (List.mem_of_getElem? hn)
        have hc : SG[n]? = some (SG.getD n 0) := by rw [List.getD_eq_getElem?_getD, List.getElem?_eq_getElem (by rw [SG_len]; exact hn94)]; rfl
        refine ⟨rfl, rfl, _, rfl, S SG, _, SG.getD n 0, rfl, rfl, by decide +kernel, atI_nat hc, ?_⟩
        have hg : (l.map fun n => SG.getD n 0)[i]? = some (SG.getD n 0) := by rw [List.getElem?_map, hn]; rfl
        have hDp : D ≠ p := fun e => by rw [e, upd_same] at hD; cases hD
        refine ⟨_, hDb, ?_, ?_, (upd_ne (Ne.symm hDp)).trans hpb, ?_⟩
        · unfold sv; rw [List.length_map, List.length_map, List.length_take, List.length_map]; exact small1000 (by omega)
        · exact sb.put (sp.none hD)
        · rw [upd_same, take_succ_of hg]; unfold sv; rw [List.map_append, List.map_append]; rfl
      · rintro H3 ⟨sb, _, hDb⟩
        rw [iv_len, List.take_of_length_le (by rw [List.length_map]; exact Nat.le_refl _)] at hDb
        have hlm : (l.map fun n => SG.getD n 0).length = l.length := List.length_map _
        refine ⟨_, D, sv (l.map fun n => SG.getD n 0), rfl, rfl, .inl (SqL.of hDb), ?_, ?_⟩
        · rw [sum1, hlm]
          have : (sv (l.map fun n => SG.getD n 0)).length = l.length := by unfold sv; rw [List.length_map, hlm]
          show l.length + (sv (l.map fun n => SG.getD n 0)).length * 0 ≤ 16777216
          omega
        · have hp := sg_map hasc hin'
          have hsg : ∀ c ∈ l.map fun n => SG.getD n 0, c ∈ SG := fun c hc => by
            obtain ⟨n, hn, rfl⟩ := List.mem_map.mp hc
            rw [List.getD_eq_getElem?_getD, List.getElem?_eq_getElem (by rw [SG_len]; exact hin' n hn)]
            exact List.getElem_mem _
          have key := q H3 (l.map fun n => SG.getD n 0) sb (alOk_of (asc_of hp) hsg (by omega) (by omega)) (hp.imp fun h => Nat.ne_of_lt h) (by omega) (by omega) hsg
          rw [← join1 (l.map fun n => SG.getD n 0)] at key
          exact key
end
end RJ
end

section
set_option maxRecDepth 100000
set_option maxHeartbeats 8000000
namespace RJ
open PySem PySem.Spec PyProof.Rows L2
abbrev s__law_same : Stmt := top 52
abbrev N__law_same : List Str := ["actual", "due", "k"]
theorem sc__law_same : FnScope N__law_same ["actual", "due"] (C8.fnScope s__law_same) := C8.fnScope_by (by decide +kernel)
abbrev s__law_joined : Stmt := top 45
abbrev N__law_joined : List Str := ["joins", "row", "rank", "joined", "pair", "piece"]
theorem sc__law_joined : FnScope N__law_joined ["joins", "row", "rank"] (C8.fnScope s__law_joined) := C8.fnScope_by (by decide +kernel)
/-! ### the law's own list of joins, a dict -/
structure Lj where
  j : Addr
  pp : Addr
  rk : Addr
  tx : Addr
def ljK (al : List Nat) (l : Lj) : List (Key × V) := [(.inr "letters", .str (S al)), (.inr "pairs", .ref l.pp), (.inr "ranks", .ref l.rk), (.inr "texts", .ref l.tx)]
structure LjAt (l : Lj) (H : Hp) (al : List Nat) (ps : List (Nat × Nat)) : Prop where
  d : H l.j = some (.dK (ljK al l))
  p : ∃ us, H l.pp = some (.lst us) ∧ PairsAt H us ps
  r : H l.rk = some (.dT (kvsF 0 ps))
  t : H l.tx = some (.lst (strV (textsOf al ps)))
  ne : l.pp ≠ l.tx
theorem LjAt.same {l : Lj} {H H' : Hp} {al : List Nat} {ps : List (Nat × Nat)} (h : LjAt l H al ps) (s : Same H H') : LjAt l H' al ps := by
  obtain ⟨us, h1, h2⟩ := h.p
  exact ⟨s _ _ h.d, ⟨us, s _ _ h1, h2.same (Same.t s)⟩, s _ _ h.r, s _ _ h.t, h.ne⟩
theorem LjAt.tape {l : Lj} {t : Tp} {H H' : Hp} {al : List Nat} {ps : List (Nat × Nat)} (h : LjAt l H al ps) (s : TSame t H H') : LjAt l H' al ps := by
  obtain ⟨us, h1, h2⟩ := h.p
  refine ⟨s.x _ _ ?_ h.d, ⟨us, s.lst h1, h2.same s.tt⟩, s.o h.r (fun _ z => by cases z), s.lst h.t, h.ne⟩
  intro e
  obtain ⟨at_, g, ll, se, u, e1, _⟩ := s.at0
  have hd := h.d
  rw [e, e1] at hd
  have e2 : tapeK t.c at_ g ll se u = ljK al l := by injection hd with h; injection h
  have : (tapeK t.c at_ g ll se u).length = (ljK al l).length := by rw [e2]
  exact absurd (show 6 = 4 from this) (by decide)
def BestAt (H : Hp) (v : V) (n best place : Nat) : Prop := (v = .non ∧ best = n) ∨ ∃ g, v = .ref g ∧ H g = some (.tup [.int (best : Int), .int (place : Int)]) ∧ best < n
theorem BestAt.same {H H' : Hp} {v : V} {n best place : Nat} (h : BestAt H v n best place) (s : Same H H') : BestAt H' v n best place := by
  rcases h with h | ⟨g, h1, h2, h3⟩
  · exact .inl h
  · exact .inr ⟨g, h1, s _ _ h2, h3⟩
def sp_cutC : Sp := fun vs H Q _ => ∃ (l : Lj) (al t : List Nat) (ps : List (Nat × Nat)), vs = [.ref l.j, .str (S t)] ∧ LjAt l H al ps ∧ WF al.length ps ∧ al.length ≤ 1000 ∧ (∀ c ∈ t, c ∈ al) ∧ t.length ≤ 900 ∧
  ∀ H' z, Same H H' → H z = none → H' z = some (.lst (iv (cutL al.length ps (lets al t)))) → Q (.ref z) H'
def sp_joinsC : Sp := fun vs H Q _ => ∃ (t : Tp) (m n z : Nat), vs = [.ref t.d, .int (m : Int), .int (n : Int), .int (z : Int)] ∧ TapeAt t H ∧ 1 ≤ m ∧ m ≤ 29 ∧ n ≤ 30 ∧ z ≤ 40 ∧
  ∀ H' l al ps, TSame t H H' → LjAt l H' al ps → Proper al ps → alOk al = true → al.Nodup → 1 ≤ al.length → al.length ≤ m → (∀ c ∈ al, c ∈ SG) → ps.length ≤ n → (∀ x ∈ textsOf al ps, x.length ≤ max z 1) → Q (.ref l.j) H'
def sp_joinedC : Sp := fun vs H Q _ => ∃ (l : Lj) (a : Addr) (al row : List Nat) (ps : List (Nat × Nat)) (r : Nat) (p : Nat × Nat), vs = [.ref l.j, .ref a, .int (r : Int)] ∧ LjAt l H al ps ∧ WF al.length ps ∧ al.length ≤ 1000 ∧ H a = some (.lst (iv row)) ∧ row.length ≤ 1000 ∧ ps[r]? = some p ∧
  ∀ H' z, Same H H' → H z = none → H' z = some (.lst (iv (pass p.1 p.2 (al.length + r) row))) → Q (.ref z) H'
section
variable {P : Program} {w : World} {K : PySem.W.Frag} {mg : Str → Option Value} {base : Heap}
end
end RJ
end

section
set_option maxRecDepth 100000
set_option maxHeartbeats 8000000
namespace RJ
open PySem PySem.Spec PyProof.Rows L2
section
variable {P : Program} {w : World} {K : PySem.W.Frag} {mg : Str → Option Value} {base : Heap}
theorem ok_sameC0 {f : Addr} {fd : FuncData} (F : C8.Fun K "_law_same" "_law_same" s__law_same f fd) (T : Txt K mg) : FnOk P w K mg base C8.CX0 1 f fd ["actual", "due"] (sp_same 0) := by
  refine C8.fn0 F sc__law_same (fun vs H Q E h => ?_) (fun cdv A outer s H vs Q E hr h => ?_)
  · obtain ⟨x, y, rfl, _⟩ := h; rfl
  · obtain ⟨x, y, rfl, ⟨rfl, hsc⟩, q⟩ := h
    refine ⟨_, (pss_cons (ps_if (pt_val (pe_callB call_isi (by rfl) T.b_isinstance (by decide +kernel) (pa_cons (pv 1) (pa_cons (pe_bltn (v := .ty "tuple") (u := .type "tuple") rfl T.b_tuple (by decide +kernel) rfl) pa_nil)))) (pss_cons (ps_if (PW.pt (pw_or (pt_not (pt_val (pe_callB call_isi (by rfl) T.b_isinstance (by decide +kernel) (pa_cons (pv 0) (pa_cons (pe_bltn (v := .ty "tuple") (u := .type "tuple") rfl T.b_tuple (by decide +kernel) rfl) pa_nil))))) (pw_or1 (pt_cmpR op_ne (pe_callB call_len_seq (by rfl) T.b_len PySem.boot_len (pa_cons (pv 0) pa_nil)) (pe_callB call_len_seq (by rfl) T.b_len PySem.boot_len (pa_cons (pv 1) pa_nil)) (nomark _))))) (pss_one (ps_ret pe_bl)) pss_nil)
      (pss_cons (ps_for PassesOwn.never rfl (pi_range1 rfl T.b_range (pa_cons (pe_callB call_len_seq (by rfl) T.b_len PySem.boot_len (pa_cons (pv 1) pa_nil)) pa_nil)) (pg_name (i := 2) sc__law_same.nd rfl (Or.inl rfl)) (pss_one (ps_if (pt_not (pt_val pe_never)) (pss_one (ps_ret pe_bl)) pss_nil)))
      (pss_one (ps_ret pe_bl)))) pss_nil)
      (pss_cons (ps_if (pt_cmpR op_isN (pv 1) pe_non (nomark _)) (pss_one (ps_ret (pe_cmpR op_isN (pv 0) pe_non (nomark _)))) pss_nil)
      (pss_cons (ps_if (pt_val (pe_callB call_isi (by rfl) T.b_isinstance (by decide +kernel) (pa_cons (pv 1) (pa_cons (pe_bltn (v := .ty "bool") (u := .type "bool") rfl T.b_bool (by decide +kernel) rfl) pa_nil)))) (pss_one (ps_ret (pe_and (pe_callB call_isi (by rfl) T.b_isinstance (by decide +kernel) (pa_cons (pv 0) (pa_cons (pe_bltn (v := .ty "bool") (u := .type "bool") rfl T.b_bool (by decide +kernel) rfl) pa_nil))) (pe_one (pe_cmpR op_eq (pv 0) (pv 1) (nomark _)))))) pss_nil)
      (pss_cons (ps_if (pt_val (pe_callB call_isi (by rfl) T.b_isinstance (by decide +kernel) (pa_cons (pv 1) (pa_cons (pe_bltn (v := .ty "str") (u := .type "str") rfl T.b_str (by decide +kernel) rfl) pa_nil)))) (pss_one (ps_ret (pe_and (pe_callB call_isi (by rfl) T.b_isinstance (by decide +kernel) (pa_cons (pv 0) (pa_cons (pe_bltn (v := .ty "str") (u := .type "str") rfl T.b_str (by decide +kernel) rfl) pa_nil))) (pe_one (pe_cmpR op_eq (pv 0) (pv 1) (nomark _)))))) pss_nil)
      (pss_one (ps_ret (pe_and (pe_callB call_isi (by rfl) T.b_isinstance (by decide +kernel) (pa_cons (pv 0) (pa_cons (pe_bltn (v := .ty "int") (u := .type "int") rfl T.b_int (by decide +kernel) rfl) pa_nil))) (pe_and (pe_not (pe_callB call_isi (by rfl) T.b_isinstance (by decide +kernel) (pa_cons (pv 0) (pa_cons (pe_bltn (v := .ty "bool") (u := .type "bool") rfl T.b_bool (by decide +kernel) rfl) pa_nil)))) (pe_one (pe_cmpR op_eq (pv 0) (pv 1) (nomark _))))))))))), ?_⟩
    cases x with
    | non => exact ⟨_, rfl, _, .ty "tuple", _, .type "tuple", false, rfl, .ty _, .base .non, kit_ty (by decide +kernel), _, rfl, iteF ⟨_, rfl, rfl, _, rfl, iteT ⟨_, rfl, rfl, q H (Same.refl H)⟩⟩⟩
    | str z =>
      refine ⟨_, rfl, _, .ty "tuple", .type "str", .type "tuple", false, rfl, .ty _, .base (.str z), kit_ty (by decide +kernel), _, rfl, iteF ⟨_, rfl, rfl, _, rfl, iteF ?_⟩⟩
      refine ⟨_, rfl, _, .ty "bool", .type "str", .type "bool", false, rfl, .ty _, .base (.str z), kit_ty (by decide +kernel), _, rfl, iteF ⟨_, rfl, _, .ty "str", .type "str", .type "str", true, rfl, .ty _, .base (.str z), kit_ty (by decide +kernel), _, rfl, iteT ⟨_, rfl, _, .ty "str", .type "str", .type "str", true, rfl, .ty _, .base (.str z), kit_ty (by decide +kernel), _, rfl, iteT ⟨_, rfl, _, rfl, rfl, ?_⟩⟩⟩⟩
      rw [decide_eq_true rfl]; exact q H (Same.refl H)
    | bl z =>
      refine ⟨_, rfl, _, .ty "tuple", .type "bool", .type "tuple", false, rfl, .ty _, .base (.bl z), kit_ty (by decide +kernel), _, rfl, iteF ⟨_, rfl, rfl, _, rfl, iteF ?_⟩⟩
      refine ⟨_, rfl, _, .ty "bool", .type "bool", .type "bool", true, rfl, .ty _, .base (.bl z), kit_ty (by decide +kernel), _, rfl, iteT ⟨_, rfl, _, .ty "bool", .type "bool", .type "bool", true, rfl, .ty _, .base (.bl z), kit_ty (by decide +kernel), _, rfl, iteT ⟨_, rfl, _, rfl, rfl, ?_⟩⟩⟩
      rw [decide_eq_true rfl]; exact q H (Same.refl H)
    | int z =>
      refine ⟨_, rfl, _, .ty "tuple", .type "int", .type "tuple", false, rfl, .ty _, .base (.int z), kit_ty (by decide +kernel), _, rfl, iteF ⟨_, rfl, rfl, _, rfl, iteF ?_⟩⟩
      refine ⟨_, rfl, _, .ty "bool", .type "int", .type "bool", false, rfl, .ty _, .base (.int z), kit_ty (by decide +kernel), _, rfl, iteF ⟨_, rfl, _, .ty "str", .type "int", .type "str", false, rfl, .ty _, .base (.int z), kit_ty (by decide +kernel), _, rfl, iteF ⟨_, rfl, _, .ty "int", .type "int", .type "int", true, rfl, .ty _, .base (.int z), kit_ty (by decide +kernel), _, rfl, iteT ⟨_, rfl, _, .ty "bool", .type "int", .type "bool", false, rfl, .ty _, .base (.int z), kit_ty (by decide +kernel), _, rfl, _, rfl, iteT ⟨_, rfl, _, rfl, rfl, ?_⟩⟩⟩⟩⟩
      rw [decide_eq_true rfl]; exact q H (Same.refl H)
    | byt z => cases hsc
    | flt z => cases hsc
    | ref z => cases hsc
    | ty z => cases hsc
theorem ok_sameCS {f : Addr} {fd : FuncData} {n k : Nat} (F : C8.Fun K "_law_same" "_law_same" s__law_same f fd) (T : Txt K mg) (c__law_same : C8.Cal P w K mg base k "_law_same" (sp_same n) []) : FnOk P w K mg base C8.CX0 (k + 1) f fd ["actual", "due"] (sp_same (n + 1)) := by
  refine C8.fn0 F sc__law_same (fun vs H Q E h => ?_) (fun cdv A outer s H vs Q E hr h => ?_)
  · obtain ⟨x, y, rfl, _⟩ := h; rfl
  · obtain ⟨x, y, rfl, hxy, q⟩ := h
    refine ⟨_, (pss_cons (ps_if (pt_val (pe_callB call_isi (by rfl) T.b_isinstance (by decide +kernel) (pa_cons (pv 1) (pa_cons (pe_bltn (v := .ty "tuple") (u := .type "tuple") rfl T.b_tuple (by decide +kernel) rfl) pa_nil)))) (pss_cons (ps_if (PW.pt (pw_or (pt_not (pt_val (pe_callB call_isi (by rfl) T.b_isinstance (by decide +kernel) (pa_cons (pv 0) (pa_cons (pe_bltn (v := .ty "tuple") (u := .type "tuple") rfl T.b_tuple (by decide +kernel) rfl) pa_nil))))) (pw_or1 (pt_cmpR op_ne (pe_callB call_len_seq (by rfl) T.b_len PySem.boot_len (pa_cons (pv 0) pa_nil)) (pe_callB call_len_seq (by rfl) T.b_len PySem.boot_len (pa_cons (pv 1) pa_nil)) (nomark _))))) (pss_one (ps_ret pe_bl)) pss_nil)
      (pss_cons (ps_for PassesOwn.never rfl (pi_range1 rfl T.b_range (pa_cons (pe_callB call_len_seq (by rfl) T.b_len PySem.boot_len (pa_cons (pv 1) pa_nil)) pa_nil)) (pg_name (i := 2) sc__law_same.nd rfl (Or.inl rfl)) (pss_one (ps_if (pt_not (pt_val (C8.pe_c c__law_same hr (by first | decide | omega) (by rfl) (pa_cons (pe_ix ix_tup (pv 0) (pv 2) (fun _ _ => rfl)) (pa_cons (pe_ix ix_tup (pv 1) (pv 2) (fun _ _ => rfl)) pa_nil))))) (pss_one (ps_ret pe_bl)) pss_nil)))
      (pss_one (ps_ret pe_bl)))) pss_nil)
      (pss_cons (ps_if (pt_cmpR op_isN (pv 1) pe_non (nomark _)) (pss_one (ps_ret (pe_cmpR op_isN (pv 0) pe_non (nomark _)))) pss_nil)
      (pss_cons (ps_if (pt_val (pe_callB call_isi (by rfl) T.b_isinstance (by decide +kernel) (pa_cons (pv 1) (pa_cons (pe_bltn (v := .ty "bool") (u := .type "bool") rfl T.b_bool (by decide +kernel) rfl) pa_nil)))) (pss_one (ps_ret (pe_and (pe_callB call_isi (by rfl) T.b_isinstance (by decide +kernel) (pa_cons (pv 0) (pa_cons (pe_bltn (v := .ty "bool") (u := .type "bool") rfl T.b_bool (by decide +kernel) rfl) pa_nil))) (pe_one (pe_cmpR op_eq (pv 0) (pv 1) (nomark _)))))) pss_nil)
      (pss_cons (ps_if (pt_val (pe_callB call_isi (by rfl) T.b_isinstance (by decide +kernel) (pa_cons (pv 1) (pa_cons (pe_bltn (v := .ty "str") (u := .type "str") rfl T.b_str (by decide +kernel) rfl) pa_nil)))) (pss_one (ps_ret (pe_and (pe_callB call_isi (by rfl) T.b_isinstance (by decide +kernel) (pa_cons (pv 0) (pa_cons (pe_bltn (v := .ty "str") (u := .type "str") rfl T.b_str (by decide +kernel) rfl) pa_nil))) (pe_one (pe_cmpR op_eq (pv 0) (pv 1) (nomark _)))))) pss_nil)
      (pss_one (ps_ret (pe_and (pe_callB call_isi (by rfl) T.b_isinstance (by decide +kernel) (pa_cons (pv 0) (pa_cons (pe_bltn (v := .ty "int") (u := .type "int") rfl T.b_int (by decide +kernel) rfl) pa_nil))) (pe_and (pe_not (pe_callB call_isi (by rfl) T.b_isinstance (by decide +kernel) (pa_cons (pv 0) (pa_cons (pe_bltn (v := .ty "bool") (u := .type "bool") rfl T.b_bool (by decide +kernel) rfl) pa_nil)))) (pe_one (pe_cmpR op_eq (pv 0) (pv 1) (nomark _))))))))))), ?_⟩
    rcases hxy with ⟨rfl, hsc⟩ | ⟨a, b, xs, ys, rfl, rfl, ha, hb, hlen, hP⟩
    · cases x with
      | non => exact ⟨_, rfl, _, .ty "tuple", _, .type "tuple", false, rfl, .ty _, .base .non, kit_ty (by decide +kernel), _, rfl, iteF ⟨_, rfl, rfl, _, rfl, iteT ⟨_, rfl, rfl, q H (Same.refl H)⟩⟩⟩
      | str z =>
        refine ⟨_, rfl, _, .ty "tuple", .type "str", .type "tuple", false, rfl, .ty _, .base (.str z), kit_ty (by decide +kernel), _, rfl, iteF ⟨_, rfl, rfl, _, rfl, iteF ?_⟩⟩
        refine ⟨_, rfl, _, .ty "bool", .type "str", .type "bool", false, rfl, .ty _, .base (.str z), kit_ty (by decide +kernel), _, rfl, iteF ⟨_, rfl, _, .ty "str", .type "str", .type "str", true, rfl, .ty _, .base (.str z), kit_ty (by decide +kernel), _, rfl, iteT ⟨_, rfl, _, .ty "str", .type "str", .type "str", true, rfl, .ty _, .base (.str z), kit_ty (by decide +kernel), _, rfl, iteT ⟨_, rfl, _, rfl, rfl, ?_⟩⟩⟩⟩
        rw [decide_eq_true rfl]; exact q H (Same.refl H)
      | bl z =>
        refine ⟨_, rfl, _, .ty "tuple", .type "bool", .type "tuple", false, rfl, .ty _, .base (.bl z), kit_ty (by decide +kernel), _, rfl, iteF ⟨_, rfl, rfl, _, rfl, iteF ?_⟩⟩
        refine ⟨_, rfl, _, .ty "bool", .type "bool", .type "bool", true, rfl, .ty _, .base (.bl z), kit_ty (by decide +kernel), _, rfl, iteT ⟨_, rfl, _, .ty "bool", .type "bool", .type "bool", true, rfl, .ty _, .base (.bl z), kit_ty (by decide +kernel), _, rfl, iteT ⟨_, rfl, _, rfl, rfl, ?_⟩⟩⟩
        rw [decide_eq_true rfl]; exact q H (Same.refl H)
      | int z =>
        refine ⟨_, rfl, _, .ty "tuple", .type "int", .type "tuple", false, rfl, .ty _, .base (.int z), kit_ty (by decide +kernel), _, rfl, iteF ⟨_, rfl, rfl, _, rfl, iteF ?_⟩⟩
        refine ⟨_, rfl, _, .ty "bool", .type "int", .type "bool", false, rfl, .ty _, .base (.int z), kit_ty (by decide +kernel), _, rfl, iteF ⟨_, rfl, _, .ty "str", .type "int", .type "str", false, rfl, .ty _, .base (.int z), kit_ty (by decide +kernel), _, rfl, iteF ⟨_, rfl, _, .ty "int", .type "int", .type "int", true, rfl, .ty _, .base (.int z), kit_ty (by decide +kernel), _, rfl, iteT ⟨_, rfl, _, .ty "bool", .type "int", .type "bool", false, rfl, .ty _, .base (.int z), kit_ty (by decide +kernel), _, rfl, _, rfl, iteT ⟨_, rfl, _, rfl, rfl, ?_⟩⟩⟩⟩⟩
        rw [decide_eq_true rfl]; exact q H (Same.refl H)
      | byt z => cases hsc
      | flt z => cases hsc
      | ref z => cases hsc
      | ty z => cases hsc
    · have el : xs.length = ys.length := hP.length
      refine ⟨_, rfl, _, .ty "tuple", .type "tuple", .type "tuple", true, rfl, .ty _, .base (.tup hb), kit_ty (by decide +kernel), _, rfl, iteT ?_⟩
      refine ⟨_, rfl, _, .ty "tuple", .type "tuple", .type "tuple", true, rfl, .ty _, .base (.tup ha), kit_ty (by decide +kernel), _, rfl, iteF ?_⟩
      refine ⟨_, rfl, a, xs, rfl, .inr (SqT.of ha), _, rfl, b, ys, rfl, .inr (SqT.of hb), rfl, _, rfl, ?_⟩
      rw [el, decide_eq_true rfl]
      refine iteF ⟨_, rfl, b, ys, rfl, .inr (SqT.of hb), _, rfl, by omega, by omega, for_it walk_range (fun i σ H' => ∃ v2 : Option V, σ = [some (.ref a), some (.ref b), v2] ∧ Same H H') ⟨none, rfl, Same.refl H⟩ (fun _ _ _ _ _ => trivial) ?_ ?_⟩
      · rintro i x σ Ha Hb hi ⟨v2, rfl, sa⟩ ⟨rfl, rfl⟩
        have hi2 : i < ys.length := by simpa using hi
        have hi1 : i < xs.length := by omega
        obtain ⟨y, hy, hsame⟩ := Paired.at hP (List.getElem?_eq_getElem hi1)
        refine ⟨_, rfl, _, rfl, a, xs, _, _, rfl, rfl, SqT.of (sa _ _ ha), at_of (by simp) (List.getElem?_eq_getElem hi1), _, rfl, _, rfl, b, ys, _, _, rfl, rfl, SqT.of (sa _ _ hb), at_of (by simp) hy, _, _, rfl, SameD.mono sa hsame, fun H2 s2 => ⟨_, rfl, iteF ⟨_, rfl, sa.trans s2⟩⟩⟩
      · rintro σ H1 ⟨v2, rfl, sa⟩
        exact q H1 sa
theorem ok_joinedC {f : Addr} {fd : FuncData} (F : C8.Fun K "_law_joined" "_law_joined" s__law_joined f fd) (T : Txt K mg) : FnOk P w K mg base C8.CX0 1 f fd ["joins", "row", "rank"] sp_joinedC := by
  refine C8.fn0 F sc__law_joined (fun vs H Q E h => ?_) (fun cdv A outer s H vs Q E hr h => ?_)
  · obtain ⟨l, a, al, row, ps, r, p, rfl, _⟩ := h; rfl
  · obtain ⟨l, a, al, row, ps, r, p, rfl, hL, hw, hal, ha, hrl, hp, q⟩ := h
    have hu := hu_of hr
    have hu64 := hu64_of hr
    have hm : al.length + r ≠ p.1 := by have := (hw r p hp).1; omega
    refine ⟨_, (pss_cons (ps_set (i := 3) sc__law_joined.nd rfl (Or.inl rfl) (pe_lst pa_nil))
      (pss_cons (ps_set (i := 4) sc__law_joined.nd rfl (Or.inl rfl) (pe_ix ix_list (pe_dget hu (pv 0) pe_str (fun _ _ => rfl)) (pv 2) (fun _ _ => rfl)))
      (pss_cons (ps_for PassesOwn.never rfl (pi_list (pv 1)) (pg_name (i := 5) sc__law_joined.nd rfl (Or.inl rfl)) (pss_one (ps_if (PW.pt (pw_and (pt_cmpR (op_neD hu64) (pv 3) (pe_lst pa_nil) (nomark _)) (pw_and1 (pt_cmpR (op_eqD hu64) (pe_tup (pa_cons (pe_ix ix_list (pv 3) (pe_un un_neg pe_int) (fun _ _ => rfl)) (pa_cons (pv 5) pa_nil))) (pv 4) (nomark _))))) (pss_one (ps_asg (pe_op op_add (pe_callB call_len_str (by rfl) T.b_len PySem.boot_len (pa_cons (pe_dget hu (pv 0) pe_str (fun _ _ => rfl)) pa_nil)) (pv 2)) (pg_sub (pv 3) (pe_un un_neg pe_int) set_list))) (pss_one (ps_expr (pe_bm PySem.F.plainAttrs_list PySem.F.slot_list_append PySem.F.type_list_append mt_append (pv 3) (pa_cons (pv 5) pa_nil)))))))
      (pss_one (ps_ret (pv 3)))))), ?_⟩
    refine ⟨Nat.zero_le _, fun J hJ => ?_⟩
    have sJ : Same H (upd H J (.lst [])) := same_new hJ
    obtain ⟨us, hus, hps⟩ := (hL.same sJ).p
    obtain ⟨u, hu2, g, rfl, hg⟩ := Paired.at2 hps hp
    refine ⟨_, rfl, l.j, _, rfl, dk (sJ _ _ hL.d) rfl, _, rfl, l.pp, _, _, _, rfl, rfl, SqL.of hus, atI_nat hu2, ?_⟩
    refine ⟨_, rfl, a, rfl, ⟨_, SqL.of (sJ _ _ ha)⟩, for_it walk_list (fun i σ H' => ∃ v5 : Option V, σ = [some (.ref l.j), some (.ref a), some (.int (r : Int)), some (.ref J), some (.ref g), v5] ∧ Same H H' ∧ H' g = some (.tup (iv [p.1, p.2])) ∧ H' J = some (.lst (iv ((row.take i).foldl (stepJ p.1 p.2 (al.length + r)) []))))
      ⟨none, rfl, sJ, hg, upd_same⟩ (fun i σ H' _ ⟨_, _, s1, _⟩ => SqL.of (s1 _ _ ha)) ?_ ?_⟩
    · rintro i x σ H1 H2 hi ⟨v5, rfl, s1, hg1, hd⟩ ⟨rfl, hx⟩
      obtain ⟨n, hn, rfl⟩ := iv_get hx
      have hfold := foldl_take_succ (f := stepJ p.1 p.2 (al.length + r)) hn []
      have hlen : ((row.take i).foldl (stepJ p.1 p.2 (al.length + r)) []).length < sizeLine := small1000 (by
        have h1 := foldJ_len p.1 p.2 (al.length + r) (row.take i) []
        rw [List.length_take] at h1
        simp only [List.length_nil] at h1; omega)
      generalize hacc : (row.take i).foldl (stepJ p.1 p.2 (al.length + r)) [] = acc at hd hfold hlen
      refine ⟨_, rfl, Nat.zero_le _, fun e he => ?_⟩
      have se : Same H2 (upd H2 e (.lst [])) := same_new he
      refine ⟨_, _, .lst (SqL.of (se _ _ hd)) (iv_dp acc), .lst (SqL.of upd_same) (iv_dp []), shaped_iv _, shaped_iv [], _, rfl, ?_⟩
      have ec : PyData.eqv (.list (acc.map fun (n : Nat) => PyData.int (n : Int))) (.list (([] : List Nat).map fun (n : Nat) => PyData.int (n : Int))) = decide (acc = []) := by rw [PyData.eqv, eqv_iv]
      rw [ec]
      have fin : ∀ (H' : Hp) (acc' : List Nat), Same H2 H' → H' J = some (.lst (iv acc)) → acc' = stepJ p.1 p.2 (al.length + r) acc n → ∃ v5 : Option V, [some (V.ref l.j), some (.ref a), some (.int (r : Int)), some (.ref J), some (.ref g), some (.int (n : Int))] = [some (V.ref l.j), some (.ref a), some (.int (r : Int)), some (.ref J), some (.ref g), v5] ∧ Same H (upd H' J (.lst (iv acc'))) ∧ (upd H' J (.lst (iv acc'))) g = some (.tup (iv [p.1, p.2])) ∧ (upd H' J (.lst (iv acc'))) J = some (.lst (iv ((row.take (i + 1)).foldl (stepJ p.1 p.2 (al.length + r)) []))) := fun H' acc' s' hd' e =>
        ⟨_, rfl, Same.put (s1.trans s') hJ, (upd_ne (ne_of (s' _ _ hg1) hd' (fun z => by cases z))).trans (s' _ _ hg1), by rw [upd_same, hfold, e]⟩
      have app : ∀ (H' : Hp), Same H2 H' → H' J = some (.lst (iv acc)) → ¬ (acc.getLast? = some p.1 ∧ n = p.2) → (fun (c : Prop) => c) (∃ v5 : Option V, [some (V.ref l.j), some (.ref a), some (.int (r : Int)), some (.ref J), some (.ref g), some (.int (n : Int))] = [some (V.ref l.j), some (.ref a), some (.int (r : Int)), some (.ref J), some (.ref g), v5] ∧ Same H (upd H' J (.lst (iv acc ++ [.int (n : Int)]))) ∧ (upd H' J (.lst (iv acc ++ [.int (n : Int)]))) g = some (.tup (iv [p.1, p.2])) ∧ (upd H' J (.lst (iv acc ++ [.int (n : Int)]))) J = some (.lst (iv ((row.take (i + 1)).foldl (stepJ p.1 p.2 (al.length + r)) [])))) := fun H' s' hd' hc => by
        have := fin H' (acc ++ [n]) s' hd' (by rw [stepJ, if_neg hc])
        rw [iv_snoc]; exact this
      cases hq : acc.getLast? with
      | none =>
        have e0 : acc = [] := List.getLast?_eq_none_iff.mp hq
        rw [decide_eq_true e0]
        refine iteF (iteF ⟨_, rfl, .inl ⟨rfl, _, SqL.of (se _ _ hd)⟩, _, rfl, J, _, _, rfl, rfl, se _ _ hd, by rw [iv_len]; exact hlen, ?_⟩)
        exact app _ se (se _ _ hd) (by rw [hq]; rintro ⟨z, _⟩; cases z)
      | some z =>
        have hne : acc ≠ [] := by intro e0; rw [e0] at hq; cases hq
        rw [decide_eq_false hne]
        refine iteT ⟨_, rfl, _, rfl, J, iv acc, _, _, rfl, rfl, SqL.of (se _ _ hd), atI_neg1 (iv_last hq), _, rfl, by show 2 ≤ sizeLine; decide, fun t ht => ?_⟩
        have st := Same.new (o := .tup (iv [z, n])) se ht
        refine ⟨_, rfl, .tuple _, .tuple _, .tup (SqT.of upd_same) (iv_dp [z, n]), .tup (SqT.of (st _ _ hg1)) (iv_dp [p.1, p.2]), shaped_ivT [z, n], shaped_ivT [p.1, p.2], _, rfl, ?_⟩
        have e2 : PyData.eqv (.tuple ([z, n].map fun (n : Nat) => PyData.int (n : Int))) (.tuple ([p.1, p.2].map fun (n : Nat) => PyData.int (n : Int))) = decide ([z, n] = [p.1, p.2]) := by rw [PyData.eqv, eqv_iv]
        by_cases hc : [z, n] = [p.1, p.2]
        · rw [decide_eq_true hc] at e2
          have c1 : z = p.1 := (List.cons.inj hc).1
          have c2 : n = p.2 := (List.cons.inj (List.cons.inj hc).2).1
          rw [e2]
          have hpos : 0 < acc.length := List.length_pos_iff.mpr hne
          refine iteT ⟨_, rfl, l.j, _, rfl, dk (st _ _ (s1 _ _ hL.d)) rfl, S al, rfl, by rw [S_len]; exact small_le hal, _, rfl, _, _, rfl, rfl, _, rfl, _, rfl, J, iv acc, _, acc.length - 1, rfl, rfl, st _ _ hd, by rw [iv_len]; exact ixN_neg1 hpos, ?_⟩
          rw [S_len]
          have := fin _ (acc.dropLast ++ [al.length + r]) st (st _ _ hd) (by rw [stepJ, if_pos ⟨by rw [hq, c1], c2⟩])
          rw [← iv_set_last (al.length + r) hne] at this
          exact this
        · rw [decide_eq_false hc] at e2
          rw [e2]
          refine iteF ⟨_, rfl, .inl ⟨rfl, _, SqL.of (st _ _ hd)⟩, _, rfl, J, _, _, rfl, rfl, st _ _ hd, by rw [iv_len]; exact hlen, ?_⟩
          exact app _ st (st _ _ hd) (by rw [hq]; rintro ⟨z1, z2⟩; exact hc (by rw [Option.some.inj z1, z2]))
    · rintro σ H1 ⟨v5, rfl, s1, hg1, hd⟩
      rw [iv_len, List.take_length, stepJ_all hm] at hd
      exact ⟨_, rfl, q H1 J s1 hJ hd⟩
end
end RJ
end

section
set_option maxRecDepth 100000
set_option maxHeartbeats 8000000
namespace RJ
open PySem PySem.Spec PyProof.Rows L2
section
variable {P : Program} {w : World} {K : PySem.W.Frag} {mg : Str → Option Value} {base : Heap}
end
end RJ
end

section
set_option maxRecDepth 100000
set_option maxHeartbeats 4000000
namespace RJ
open PySem PySem.Spec PyProof.Rows L2
abbrev s_UnknownSign___init__ : Stmt := inClass (top 6) 0
abbrev N_UnknownSign___init__ : List Str := ["self", "sign", "at"]
theorem sc_UnknownSign___init__ : SupS N_UnknownSign___init__ ["self", "sign", "at"] (C8.fnScope s_UnknownSign___init__) := supS_of (by decide +kernel)
abbrev s_NoPiece___init__ : Stmt := inClass (top 5) 0
abbrev N_NoPiece___init__ : List Str := ["self", "piece"]
theorem sc_NoPiece___init__ : SupS N_NoPiece___init__ ["self", "piece"] (C8.fnScope s_NoPiece___init__) := supS_of (by decide +kernel)
abbrev s_InvalidNumber___init__ : Stmt := inClass (top 8) 0
abbrev N_InvalidNumber___init__ : List Str := ["self", "number"]
theorem sc_InvalidNumber___init__ : SupS N_InvalidNumber___init__ ["self", "number"] (C8.fnScope s_InvalidNumber___init__) := supS_of (by decide +kernel)
abbrev s_InvalidAlphabet___init__ : Stmt := inClass (top 3) 0
abbrev N_InvalidAlphabet___init__ : List Str := ["self", "alphabet"]
theorem sc_InvalidAlphabet___init__ : SupS N_InvalidAlphabet___init__ ["self", "alphabet"] (C8.fnScope s_InvalidAlphabet___init__) := supS_of (by decide +kernel)
abbrev s_NotProper___init__ : Stmt := inClass (top 4) 0
abbrev N_NotProper___init__ : List Str := ["self", "rank"]
theorem sc_NotProper___init__ : SupS N_NotProper___init__ ["self", "rank"] (C8.fnScope s_NotProper___init__) := supS_of (by decide +kernel)
/-- an error's __init__ that keeps one value, two values -/
def sp_err1 (C : Addr) (f1 : Str) (G : V → Prop) : Sp := fun vs H Q _ => ∃ (a : Addr) (x : V), vs = [.ref a, x] ∧ G x ∧ H a = some (exo a C none) ∧
  ∀ dx, H dx = none → dx ≠ a → Q .non (upd (upd H dx (exd dx [(f1, x)])) a (exo a C (some dx)))
def sp_err2 (C : Addr) (f1 f2 : Str) (G : V → V → Prop) : Sp := fun vs H Q _ => ∃ (a : Addr) (x y : V), vs = [.ref a, x, y] ∧ G x y ∧ H a = some (exo a C none) ∧
  ∀ dx, H dx = none → dx ≠ a → Q .non (upd (upd (upd H dx (exd dx [(f1, x)])) a (exo a C (some dx))) dx (exd dx [(f2, y), (f1, x)]))
/-- the error that is raised -/
def ErrAt (E : XK) (C : Addr) (H : Hp) (fs : List (Str × V)) : Prop := ∀ d H', Same H H' → H' d = some (.xd fs) → E (.ref C) (some d) H'
theorem ErrAt.same {E : XK} {C : Addr} {H H' : Hp} {fs : List (Str × V)} (h : ErrAt E C H fs) (s : Same H H') : ErrAt E C H' fs := fun d H2 s2 => h d H2 (s.trans s2)
theorem err_end {C a d : Addr} {H H2 : Hp} {fs : List (Str × V)} (ha : H a = none) (hd : H d = none) (hne : d ≠ a) (k : ∀ b o, b ≠ a → b ≠ d → H b = some o → H2 b = some o) : Same H (upd (del H2 a) d (.xd fs)) ∧ (upd (del H2 a) d (.xd fs)) d = some (.xd fs) := by
  refine ⟨fun b o e => ?_, upd_same⟩
  have h1 : b ≠ a := ne_of_none e ha
  have h2 : b ≠ d := ne_of_none e hd
  rw [upd_ne h2, del_ne h1]
  exact k b o h1 h2 e
theorem mk_err2 {C : Addr} {f1 f2 : Str} {G : V → V → Prop} {ta : TA} {σ : L2.St} {H : Hp} {Q : XK} {x y : V} (hg : G x y) (h : ta σ H fun vs H1 => vs = [x, y] ∧ ErrAt Q C H1 [(f2, y), (f1, x)]) (mono : ∀ {R R' : List V → Hp → Prop}, ta σ H R → (∀ vs H1, R vs H1 → R' vs H1) → ta σ H R') :
    tMkO C (sp_err2 C f1 f2 G) [] ta σ H Q := by
  refine mono h fun vs H1 hh => ?_
  obtain ⟨rfl, q⟩ := hh
  refine ⟨by show 2 ≤ 1000; decide, fun a ha => ⟨a, x, y, rfl, hg, upd_same, fun dx hdx hne => ?_⟩⟩
  rw [upd_ne hne] at hdx
  have e0 := err_end (C := C) (H2 := upd (upd (upd (upd H1 a (exo a C none)) dx (exd dx [(f1, x)])) a (exo a C (some dx))) dx (exd dx [(f2, y), (f1, x)])) (fs := [(f2, y), (f1, x)]) ha hdx hne fun b o h1 h2 e => by
    rw [upd_ne h2, upd_ne h1, upd_ne h2, upd_ne h1]; exact e
  exact ⟨rfl, dx, _, (upd_ne (Ne.symm hne)).trans upd_same, upd_same, hdx, q dx _ e0.1 e0.2⟩
theorem mk_err1 {C : Addr} {f1 : Str} {G : V → Prop} {ta : TA} {σ : L2.St} {H : Hp} {Q : XK} {x : V} (hg : G x) (h : ta σ H fun vs H1 => vs = [x] ∧ ErrAt Q C H1 [(f1, x)]) (mono : ∀ {R R' : List V → Hp → Prop}, ta σ H R → (∀ vs H1, R vs H1 → R' vs H1) → ta σ H R') :
    tMkO C (sp_err1 C f1 G) [] ta σ H Q := by
  refine mono h fun vs H1 hh => ?_
  obtain ⟨rfl, q⟩ := hh
  refine ⟨by show 1 ≤ 1000; decide, fun a ha => ⟨a, x, rfl, hg, upd_same, fun dx hdx hne => ?_⟩⟩
  rw [upd_ne hne] at hdx
  have e0 := err_end (C := C) (H2 := upd (upd (upd H1 a (exo a C none)) dx (exd dx [(f1, x)])) a (exo a C (some dx))) (fs := [(f1, x)]) ha hdx hne fun b o h1 h2 e => by
    rw [upd_ne h1, upd_ne h2, upd_ne h1]; exact e
  exact ⟨rfl, dx, _, upd_same, (upd_ne hne).trans upd_same, hdx, q dx _ e0.1 e0.2⟩
theorem repr_sign {c : Nat} (h : c < 1114112) : (reprText (S [c])).length ≤ 12 := by
  have := PySem.StrLaws.reprText_len (S [c]) (fun x hx => by
    have hx' : x ∈ [c] := hx
    obtain rfl := List.mem_singleton.mp hx'
    have : (16 : Nat) ^ 8 = 4294967296 := by decide
    omega)
  rw [S_len] at this
  exact this
/-- a sign and a place -/
def gSign (x y : V) : Prop := ∃ c i : Nat, x = .str (S [c]) ∧ y = .int (i : Int) ∧ c < 1114112 ∧ i ≤ 1000
theorem int_len {i : Nat} (h : i ≤ 1000) : (Str.ofString (toString (i : Int))).length ≤ 100 := by
  have : ∀ i : Nat, i ≤ 1000 → (Str.ofString (toString (i : Int))).length ≤ 100 := by
    intro i hi
    have e : toString ((i : Nat) : Int) = toString i := rfl
    rw [SX.num_S, S_len]
    by_cases h0 : i = 0
    · subst h0; decide
    · exact Nat.le_trans (TL.numL_len (n := i) (k := 4) (by decide) (by omega)) (by decide)
  exact this i h
section
variable {P : Program} {w : World} {K : PySem.W.Frag} {mg : Str → Option Value} {base : Heap}
theorem ok_UnknownSign {f C : Addr} {fd : FuncData} (F : SupF P K C "UnknownSign.__init__" s_UnknownSign___init__ f fd) (T : Txt K mg) (hm : mg "super" = none) (n1 : PySem.W.findIn K (.ref C) "sign" = some none) (n2 : PySem.W.findIn K (.ref C) "at" = some none) :
    FnOk P w K mg base C8.CX0 1 f fd ["self", "sign", "at"] (sp_err2 C "sign" "at" gSign) := by
  refine fn_super F hm sc_UnknownSign___init__ rfl rfl rfl (fun vs H Q E h => ?_) (fun vs H Q E h => ?_) (fun _ => rfl) (fun _ => rfl) (fun _ _ => rfl) (fun cda cc A outer s H vs Q E hr h => ?_)
  · obtain ⟨a, x, y, rfl, _⟩ := h; rfl
  · obtain ⟨a, x, y, rfl, _, ea, _⟩ := h; exact ⟨a, _, rfl, ea⟩
  · obtain ⟨a, x, y, rfl, ⟨c, i, rfl, rfl, hc, hi⟩, ea, q⟩ := h
    have nd : N_UnknownSign___init__.Nodup := sc_UnknownSign___init__.nd
    refine ⟨_, _, (pa_cons (pe_joined (PJ.cons pe_str (PJ.cons (pe_fmtR (pv 1)) (PJ.cons pe_str (PJ.cons (pe_fmtR (pv 2)) PJ.nil))))) pa_nil), (pss_cons (ps_ost (pv 0) (pv 1))
      (pss_one (ps_ost (pv 0) (pv 2)))), ?_, ?_⟩
    · have h1 := repr_sign hc
      have h2 := int_len hi
      have hsl : sizeLine = 16777216 := sizeLine_eq
      refine ⟨_, rfl, ?_, ⟨_, rfl, .inl ⟨S [c], rfl, by omega, ⟨_, rfl, ?_, ⟨_, rfl, ?_, ⟨_, rfl, .inr ⟨(i : Int), rfl, ?_, ⟨_, rfl, ?_, ⟨rfl, by show 1 ≤ 1000; decide⟩⟩⟩⟩⟩⟩⟩⟩⟩
      · decide
      · rw [PySem.Str.length_append]
        have c1 : (Str.empty ++ Str.ofString "no letter: ").length = 11 := by decide
        omega
      · rw [PySem.Str.length_append, PySem.Str.length_append]
        have c1 : (Str.empty ++ Str.ofString "no letter: ").length = 11 := by decide
        have c2 : (Str.ofString " at ").length = 4 := by decide
        omega
      · rw [Int.natAbs_natCast]
        exact Nat.lt_of_le_of_lt (Nat.log2_le_self i) (by omega)
      · rw [PySem.Str.length_append, PySem.Str.length_append, PySem.Str.length_append]
        have c1 : (Str.empty ++ Str.ofString "no letter: ").length = 11 := by decide
        have c2 : (Str.ofString " at ").length = 4 := by decide
        omega
    · refine ⟨.str (S [c]), rfl, .ref a, rfl, a, C, rfl, F.oex, n1, .inl ⟨ea, fun dx hdx hne => ?_⟩⟩
      exact ⟨.int (i : Int), rfl, .ref a, rfl, a, C, rfl, F.oex, n2, .inr ⟨dx, _, upd_same, (upd_ne hne).trans upd_same, by show 1 ≤ 900; decide, q dx hdx hne⟩⟩
end
end RJ
end

section
set_option maxRecDepth 100000
set_option maxHeartbeats 4000000
namespace RJ
open PySem PySem.Spec PyProof.Rows L2
/-- the first sign that is no letter -/
def FirstBad (al t : List Nat) (i c : Nat) : Prop := t[i]? = some c ∧ c ∉ al ∧ ∀ x ∈ t.take i, x ∈ al
def sp_letter_rowX (CU : Addr) : Sp := fun vs H _ E => ∃ (al t : List Nat) (i c : Nat), vs = [.str (S al), .str (S t)] ∧ FirstBad al t i c ∧ t.length ≤ 1000 ∧ c < 1114112 ∧ ErrAt E CU H [("at", .int (i : Int)), ("sign", .str (S [c]))]
def sp_letters_ofX (C CU : Addr) : Sp := fun vs H _ E => ∃ (p : Addr) (t al : List Nat) (ps : List (Nat × Nat)) (i c : Nat), vs = [.ref p, .str (S t)] ∧ JoinsAt C H p al ps ∧ FirstBad al t i c ∧ t.length ≤ 1000 ∧ c < 1114112 ∧ ErrAt E CU H [("at", .int (i : Int)), ("sign", .str (S [c]))]
theorem find_none {al : List Nat} {c : Nat} (h : c ∉ al) : Txt.find (S al) ⟨#[c]⟩ = -1 := by
  have e := SX.in_one al c
  rw [decide_eq_false h] at e
  have e2 : Builtin.Str.occurrences (S al) ⟨#[c]⟩ 0 (S al).length 1 = [] := by
    have e3 : (Builtin.Str.occurrences (SX.S al) (SX.S [c]) 0 (SX.S al).length 1).isEmpty = true := by
      cases z : (Builtin.Str.occurrences (SX.S al) (SX.S [c]) 0 (SX.S al).length 1).isEmpty with
      | true => rfl
      | false => rw [z] at e; cases e
    exact List.isEmpty_iff.mp e3
  unfold Txt.find
  rw [e2]
theorem FirstBad.lt {al t : List Nat} {i c j d : Nat} (h : FirstBad al t i c) (hd : t[j]? = some d) (hdl : d ∉ al) (hj : ∀ x ∈ t.take j, x ∈ al) : j = i ∧ d = c := by
  obtain ⟨h1, h2, h3⟩ := h
  have : j = i := by
    rcases Nat.lt_trichotomy j i with z | z | z
    · exact absurd (h3 d (List.mem_of_getElem? (by rw [List.getElem?_take_of_lt z]; exact hd))) hdl
    · exact z
    · exact absurd (hj c (List.mem_of_getElem? (by rw [List.getElem?_take_of_lt z]; exact h1))) h2
  subst this
  rw [h1] at hd
  exact ⟨rfl, (Option.some.inj hd).symm⟩
section
variable {P : Program} {w : World} {K : PySem.W.Frag} {mg : Str → Option Value} {base : Heap}
theorem ok_letter_rowX {f CUnknownSign : Addr} {fd : FuncData} (F : C8.Fun K "letter_row" "letter_row" s_letter_row f fd) (T : Txt K mg) (eUnknownSign : ErrC P w K mg base "UnknownSign" CUnknownSign (sp_err2 CUnknownSign "sign" "at" gSign)) : FnOk P w K mg base (CXN P w) 3 f fd ["alphabet", "text"] (sp_letter_rowX CUnknownSign) := by
  refine fnX F sc_letter_row (fun vs H Q E h => ?_) (fun cdv A outer s H vs Q E hr h tk => ?_)
  · obtain ⟨al, t, i, c, rfl, _⟩ := h; rfl
  · obtain ⟨al, t, i, c, rfl, hb, hl, hc, q⟩ := h
    refine ⟨_, (pss_cons (ps_set (i := 2) sc_letter_row.nd rfl (Or.inl rfl) (pe_lst pa_nil))
      (pss_cons (ps_for (L2.passes_of rfl) rfl (pi_enumG rfl T.b_enumerate (pa_cons (pv 1) pa_nil)) (pg_tup rfl (pgs_cons (pg_name (i := 3) sc_letter_row.nd rfl (Or.inl rfl)) (pgs_cons (pg_name (i := 4) sc_letter_row.nd rfl (Or.inl rfl)) pgs_nil))) (pss_cons (ps_set (i := 5) sc_letter_row.nd rfl (Or.inl rfl) (pe_bm PySem.F.plainAttrs_str PySem.F.slot_str_find PySem.F.type_str_find mt_find (pv 0) (pa_cons (pv 4) pa_nil)))
      (pss_cons (ps_if (pt_cmpR op_lt (pv 5) pe_int (nomark _)) (pss_one (L2N.ps_raise rfl tk (pmk_err eUnknownSign hr (by first | decide | omega) (by rfl) (pa_cons (pv 4) (pa_cons (pv 3) pa_nil))))) pss_nil)
      (pss_one (ps_expr (pe_bm PySem.F.plainAttrs_list PySem.F.slot_list_append PySem.F.type_list_append mt_append (pv 2) (pa_cons (pv 5) pa_nil)))))))
      (pss_one (ps_ret (pv 2))))), ?_⟩
    refine ⟨by show (0 : Nat) ≤ sizeLine; exact Nat.zero_le _, fun p hp => ?_⟩
    have hil : i < t.length := (List.getElem?_eq_some_iff.mp hb.1).1
    refine ⟨_, rfl, _, _, _, _, rfl, src_text _ t, for_it walkG (fun j σ H' => ∃ v3 v4 v5 : Option V, σ = [some (.str (S al)), some (.str (S t)), some (.ref p), v3, v4, v5] ∧ Same H H' ∧ H' p = some (.lst (iv (lets al (t.take j)))) ∧ ∀ x ∈ t.take j, x ∈ al) ⟨none, none, none, rfl, same_new hp, upd_same, fun x hx => absurd hx (by simp)⟩ (fun _ _ _ _ _ => trivial) ?_ ?_⟩
    · rintro j x σ H1 H2 hj ⟨v3, v4, v5, rfl, s1, hd, hin⟩ ⟨Tt, xs, rfl, hT, rfl, v, ⟨d, hdd, rfl⟩, rfl⟩
      rw [S_get] at hdd
      refine ⟨Tt, _, rfl, SqT.of upd_same, rfl, _, _, rfl, _, _, rfl, rfl, ?_⟩
      refine ⟨_, rfl, rfl, _, rfl, S al, ⟨#[d]⟩, rfl, rfl, ?_⟩
      have hne : p ≠ Tt := ne_of_none hd hT
      have hd2 : upd H1 Tt (.tup [.int (j : Int), .str ⟨#[d]⟩]) p = some (.lst (iv (lets al (t.take j)))) := (upd_ne hne).trans hd
      by_cases hdl : d ∈ al
      · obtain ⟨r, hfind⟩ := find_sign hdl
        have hf : Txt.find (S al) ⟨#[d]⟩ = (al.idxOf d : Int) := by unfold Txt.find; rw [hfind]
        rw [hf]
        refine ⟨_, rfl, _, _, rfl, rfl, _, rfl, ?_⟩
        rw [decide_eq_false (by omega : ¬ (al.idxOf d : Int) < 0)]
        refine iteF ?_
        refine ⟨_, rfl, .inl ⟨rfl, _, SqL.of hd2⟩, _, rfl, p, _, _, rfl, rfl, hd2, ?_, ?_⟩
        · rw [iv_len, lets, List.length_map, List.length_take]
          exact small1000 (by omega)
        · refine ⟨_, _, _, rfl, Same.put (Same.new s1 hT) hp, ?_, fun x hx => ?_⟩
          · rw [upd_same, iv_snoc, lets, lets, map_take_succ hdd]
          · rw [List.take_add_one, hdd] at hx
            rcases List.mem_append.mp hx with z | z
            · exact hin x z
            · obtain rfl : x = d := by simpa using z
              exact hdl
      · obtain ⟨rfl, rfl⟩ := hb.lt hdd hdl hin
        rw [find_none hdl]
        refine ⟨_, rfl, _, _, rfl, rfl, _, rfl, ?_⟩
        rw [decide_eq_true (by decide : (-1 : Int) < 0)]
        refine iteT (mk_err2 (x := .str (S [d])) (y := .int (j : Int)) ⟨d, j, rfl, rfl, hc, by omega⟩ ⟨_, rfl, _, rfl, rfl, q.same (Same.new s1 hT)⟩ fun h1 h2 => ?_)
        obtain ⟨a1, e1, a2, e2, h1⟩ := h1
        exact ⟨a1, e1, a2, e2, h2 _ _ h1⟩
    · rintro σ H1 ⟨v3, v4, v5, rfl, s1, hd, hin⟩
      rw [List.take_length] at hin
      exact absurd (hin c (List.mem_of_getElem? hb.1)) hb.2.1
theorem ok_letters_ofX {f C CU : Addr} {fd : FuncData} (F : C8.Fun K "letters_of" "letters_of" s_letters_of f fd) (T : Txt K mg) (J : JTxt K C) (x_letter_row : CalX P w K mg base 3 "letter_row" (sp_letter_rowX CU)) : FnOk P w K mg base (CXN P w) 4 f fd ["joins", "text"] (sp_letters_ofX C CU) := by
  refine fnX F sc_letters_of (fun vs H Q E h => ?_) (fun cdv A outer s H vs Q E hr h tk => ?_)
  · obtain ⟨p, t, al, ps, i, c, rfl, _⟩ := h; rfl
  · obtain ⟨p, u, al, ps, i, c, rfl, ⟨dx, t, tx, d, e, ws, h1, h2, h3, h4, h5, h6⟩, hb, hl, hc, q⟩ := h
    refine ⟨_, (pss_one (ps_ret (pe_tupleOf (by rfl) T.b_tuple (pe_cx x_letter_row hr (by first | decide | omega) tk (by rfl) (pa_cons (pe_fld (pv 0) rfl) (pa_cons (pv 1) pa_nil)))))), ?_⟩
    exact ⟨_, rfl, p, C, dx, _, _, rfl, h1, J.cl, J.n1, f5_alphabet al t tx d e, _, rfl, al, u, i, c, rfl, hb, hl, hc, q⟩
end
end RJ
end

section
set_option maxRecDepth 100000
set_option maxHeartbeats 8000000
namespace RJ
open PySem PySem.Spec PyProof.Rows L2
def gText (x : V) : Prop := ∃ l : List Nat, x = .str (S l) ∧ l.length ≤ 1000 ∧ ∀ c ∈ l, c < 1114112
def gNat (x : V) : Prop := ∃ i : Nat, x = .int (i : Int) ∧ i ≤ 1000
section
variable {P : Program} {w : World} {K : PySem.W.Frag} {mg : Str → Option Value} {base : Heap}
theorem ok_InvalidAlphabet {f C : Addr} {fd : FuncData} (F : SupF P K C "InvalidAlphabet.__init__" s_InvalidAlphabet___init__ f fd) (T : Txt K mg) (hm : mg "super" = none) (n1 : PySem.W.findIn K (.ref C) "alphabet" = some none) :
    FnOk P w K mg base C8.CX0 1 f fd ["self", "alphabet"] (sp_err1 C "alphabet" gText) := by
  refine fn_super F hm sc_InvalidAlphabet___init__ rfl rfl rfl (fun vs H Q E h => ?_) (fun vs H Q E h => ?_) (fun _ => rfl) (fun _ => rfl) (fun _ _ => rfl) (fun cda cc A outer s H vs Q E hr h => ?_)
  · obtain ⟨a, x, rfl, _⟩ := h; rfl
  · obtain ⟨a, x, rfl, _, ea, _⟩ := h; exact ⟨a, _, rfl, ea⟩
  · obtain ⟨a, x, rfl, ⟨l, rfl, hl, hc⟩, ea, q⟩ := h
    have nd : N_InvalidAlphabet___init__.Nodup := sc_InvalidAlphabet___init__.nd
    refine ⟨_, _, (pa_cons (pe_joined (PJ.cons pe_str (PJ.cons (pe_fmtR (pv 1)) PJ.nil))) pa_nil), (pss_one (ps_ost (pv 0) (pv 1))), ?_, ?_⟩
    · have h1 : (reprText (S l)).length ≤ 10 * l.length + 2 := by
        have := PySem.StrLaws.reprText_len (S l) (fun x hx => by
          have hx' : x ∈ l := hx
          have := hc x hx'
          have : (16 : Nat) ^ 8 = 4294967296 := by decide
          omega)
        have e : (S l).length = l.length := S_len l
        rw [e] at this
        exact this
      have hsl : sizeLine = 16777216 := sizeLine_eq
      refine ⟨_, rfl, ?_, ⟨_, rfl, .inl ⟨S l, rfl, by omega, ⟨_, rfl, ?_, ⟨rfl, by show 1 ≤ 1000; decide⟩⟩⟩⟩⟩
      · decide
      · rw [PySem.Str.length_append]
        have c1 : (Str.empty ++ Str.ofString "not an alphabet: ").length = 17 := by decide
        omega
    · refine ⟨.str (S l), rfl, .ref a, rfl, a, C, rfl, F.oex, n1, .inl ⟨ea, fun dx hdx hne => ?_⟩⟩
      exact q dx hdx hne
theorem ok_NotProper {f C : Addr} {fd : FuncData} (F : SupF P K C "NotProper.__init__" s_NotProper___init__ f fd) (T : Txt K mg) (hm : mg "super" = none) (n1 : PySem.W.findIn K (.ref C) "rank" = some none) :
    FnOk P w K mg base C8.CX0 1 f fd ["self", "rank"] (sp_err1 C "rank" gNat) := by
  refine fn_super F hm sc_NotProper___init__ rfl rfl rfl (fun vs H Q E h => ?_) (fun vs H Q E h => ?_) (fun _ => rfl) (fun _ => rfl) (fun _ _ => rfl) (fun cda cc A outer s H vs Q E hr h => ?_)
  · obtain ⟨a, x, rfl, _⟩ := h; rfl
  · obtain ⟨a, x, rfl, _, ea, _⟩ := h; exact ⟨a, _, rfl, ea⟩
  · obtain ⟨a, x, rfl, ⟨i, rfl, hi⟩, ea, q⟩ := h
    have nd : N_NotProper___init__.Nodup := sc_NotProper___init__.nd
    refine ⟨_, _, (pa_cons (pe_joined (PJ.cons pe_str (PJ.cons (pe_fmtR (pv 1)) PJ.nil))) pa_nil), (pss_one (ps_ost (pv 0) (pv 1))), ?_, ?_⟩
    · have h2 := int_len hi
      have hsl : sizeLine = 16777216 := sizeLine_eq
      refine ⟨_, rfl, ?_, ⟨_, rfl, .inr ⟨(i : Int), rfl, ?_, ⟨_, rfl, ?_, ⟨rfl, by show 1 ≤ 1000; decide⟩⟩⟩⟩⟩
      · decide
      · rw [Int.natAbs_natCast]
        exact Nat.lt_of_le_of_lt (Nat.log2_le_self i) (by omega)
      · rw [PySem.Str.length_append]
        have c1 : (Str.empty ++ Str.ofString "not proper at rank ").length = 19 := by decide
        omega
    · refine ⟨.int (i : Int), rfl, .ref a, rfl, a, C, rfl, F.oex, n1, .inl ⟨ea, fun dx hdx hne => ?_⟩⟩
      exact q dx hdx hne
end
def IPairAt (H : Hp) (v : V) (p : Int × Int) : Prop := ∃ q, v = .ref q ∧ H q = some (.tup [.int p.1, .int p.2])
theorem IPairAt.same {H H' : Hp} {v : V} {p : Int × Int} (h : IPairAt H v p) (s : SameT H H') : IPairAt H' v p := by
  obtain ⟨q, e, h1⟩ := h
  exact ⟨q, e, s _ _ h1⟩
abbrev IPairsAt (H : Hp) (vs : List V) (ps : List (Int × Int)) : Prop := Paired (IPairAt H) vs ps
theorem IPairsAt.same {H H' : Hp} {vs : List V} {ps : List (Int × Int)} (h : IPairsAt H vs ps) (s : SameT H H') : IPairsAt H' vs ps := Paired.mapP h fun _ _ q => q.same s
/-- a pair of numbers as one of integers -/
def toI (p : Nat × Nat) : Int × Int := ((p.1 : Int), (p.2 : Int))
theorem toI_inj {p q : Nat × Nat} (h : toI p = toI q) : p = q := by
  obtain ⟨a, b⟩ := p
  obtain ⟨c, d⟩ := q
  have h1 : (a : Int) = (c : Int) := congrArg Prod.fst h
  have h2 : (b : Int) = (d : Int) := congrArg Prod.snd h
  have e1 : a = c := by omega
  have e2 : b = d := by omega
  rw [e1, e2]
theorem ipairs_nat {H : Hp} : ∀ {us : List V} {ps : List (Nat × Nat)}, IPairsAt H us (ps.map toI) → PairsAt H us ps
  | _, [], .nil => .nil
  | _, _ :: _, .cons h t => .cons h (ipairs_nat t)
theorem nat_ipairs {H : Hp} : ∀ {us : List V} {ps : List (Nat × Nat)}, PairsAt H us ps → IPairsAt H us (ps.map toI)
  | _, _, .nil => .nil
  | _, _, .cons h t => .cons h (nat_ipairs t)
/-- .. an integer pair that may not follow -/
def NotOk (al : List Nat) (ps : List (Nat × Nat)) (j : Int × Int) : Prop := ∀ p : Nat × Nat, j = toI p → ¬ okP al (textsOf al ps) ps p
def ErrAtX (p : Addr) (E : XK) (C : Addr) (H : Hp) (fs : List (Str × V)) : Prop := ∀ d H', SameX p H H' → H' d = some (.xd fs) → E (.ref C) (some d) H'
theorem ErrAtX.at {p : Addr} {E : XK} {C : Addr} {H H' : Hp} {fs : List (Str × V)} (h : ErrAtX p E C H fs) (s : SameX p H H') : ErrAt E C H' fs := fun d H2 s2 => h d H2 (s.then s2)
def sp_initX (C CA CN : Addr) : Sp := fun vs H _ E => ∃ (p pa dx : Addr) (b : Bool) (al : List Nat) (js : List (Int × Int)) (us : List V), vs = [.ref p, .str (S al), .ref pa] ∧ H p = some (.ins C dx []) ∧ SeqAt b H pa us ∧ IPairsAt H us js ∧ js.length ≤ 100 ∧ al.length ≤ 1000 ∧
  ((alOk al = false ∧ (∀ c ∈ al, c < 1114112) ∧ ErrAtX p E CA H [("alphabet", .str (S al))]) ∨
   (alOk al = true ∧ al.length ≤ 30 ∧ ∃ (ps : List (Nat × Nat)) (j : Int × Int), Proper al ps ∧ js.take ps.length = ps.map toI ∧ js[ps.length]? = some j ∧ NotOk al ps j ∧ ErrAtX p E CN H [("rank", .int (ps.length : Int))]))
def sp_check_alphabetX (CA : Addr) : Sp := fun vs H Q E => ∃ l : List Nat, vs = [.str (S l)] ∧ l.length ≤ 1000 ∧ (alOk l = true → ∀ H', Same H H' → Q .non H') ∧ (alOk l = false → (∀ c ∈ l, c < 1114112) ∧ ErrAt E CA H [("alphabet", .str (S l))])
/-- what __init__ keeps, with pairs of integers -/
def InitI (C : Addr) (H : Hp) (p dx t tx d : Addr) (vs : List V) (al : List Nat) (js : List (Int × Int)) (ps : List (Nat × Nat)) (n : Nat) : Prop := H p = some (.ins C dx (f4 al t tx d)) ∧ H t = some (.tup vs) ∧ IPairsAt H vs js ∧
  H tx = some (.lst (strV (textsOf al (ps.take n)))) ∧ H d = some (.dT (kvsF 0 (ps.take n)))
theorem InitI.same {C p dx t tx d : Addr} {H H' : Hp} {vs : List V} {al : List Nat} {js : List (Int × Int)} {ps : List (Nat × Nat)} {n : Nat} (h : InitI C H p dx t tx d vs al js ps n) (s : Same H H') : InitI C H' p dx t tx d vs al js ps n :=
  ⟨s _ _ h.1, s _ _ h.2.1, h.2.2.1.same (Same.t s), s _ _ h.2.2.2.1, s _ _ h.2.2.2.2⟩
theorem toI_at {js : List (Int × Int)} {ps : List (Nat × Nat)} (h : js.take ps.length = ps.map toI) {i : Nat} {q : Nat × Nat} (hi : ps[i]? = some q) : js[i]? = some (toI q) := by
  have hl : i < ps.length := (List.getElem?_eq_some_iff.mp hi).1
  rw [← List.getElem?_take_of_lt hl, h, List.getElem?_map, hi]; rfl
section
variable {P : Program} {w : World} {K : PySem.W.Frag} {mg : Str → Option Value} {base : Heap}
theorem ok_check_alphabetX {f CInvalidAlphabet : Addr} {fd : FuncData} (F : C8.Fun K "check_alphabet" "check_alphabet" s_check_alphabet f fd) (T : Txt K mg) (c_is_alphabet : C8.Cal P w K mg base 2 "is_alphabet" sp_is_alphabet []) (eInvalidAlphabet : ErrC P w K mg base "InvalidAlphabet" CInvalidAlphabet (sp_err1 CInvalidAlphabet "alphabet" gText)) : FnOk P w K mg base (CXN P w) 3 f fd ["text"] (sp_check_alphabetX CInvalidAlphabet) := by
  refine fnX F sc_check_alphabet (fun vs H Q E h => ?_) (fun cdv A outer s H vs Q E hr h tk => ?_)
  · obtain ⟨l, rfl, _⟩ := h; rfl
  · obtain ⟨l, rfl, hl, q1, q2⟩ := h
    refine ⟨_, (pss_one (ps_if (pt_not (pt_val (C8.pe_c c_is_alphabet hr (by first | decide | omega) (by rfl) (pa_cons (pv 0) pa_nil)))) (pss_one (L2N.ps_raise rfl tk (pmk_err eInvalidAlphabet hr (by first | decide | omega) (by rfl) (pa_cons (pv 0) pa_nil)))) pss_nil)), ?_⟩
    refine ⟨_, rfl, l, rfl, hl, fun H1 s1 => ⟨_, rfl, ?_⟩⟩
    cases k : alOk l with
    | true => exact iteF (q1 k H1 s1)
    | false =>
      obtain ⟨hc, q⟩ := q2 k
      refine iteT (mk_err1 (x := .str (S l)) ⟨l, rfl, hl, hc⟩ ⟨_, rfl, rfl, q.same s1⟩ fun h1 h2 => ?_)
      obtain ⟨a1, e1, h1⟩ := h1
      exact ⟨a1, e1, h2 _ _ h1⟩
theorem ok_initX {f C CInvalidAlphabet CNotProper : Addr} {fd : FuncData} (F : C8.Fun K "__init__" "Joins.__init__" s_Joins___init__ f fd) (T : Txt K mg) (J : JTxt K C) (c_check_alphabet : C8.Cal P w K mg base 3 "check_alphabet" sp_check_alphabet []) (c_may_follow : C8.Cal P w K mg base 3 "may_follow" sp_may_follow [])
    (x_check_alphabet : CalX P w K mg base 3 "check_alphabet" (sp_check_alphabetX CInvalidAlphabet)) (eNotProper : ErrC P w K mg base "NotProper" CNotProper (sp_err1 CNotProper "rank" gNat)) :
    FnOk P w K mg base (CXN P w) 4 f fd ["self", "alphabet", "pairs"] (sp_initX C CInvalidAlphabet CNotProper) := by
  refine fnX F sc_Joins___init__ (fun vs H Q E h => ?_) (fun cdv A outer s H vs Q E hr h tk => ?_)
  · obtain ⟨p, pa, dx, b, al, js, us, rfl, _⟩ := h; rfl
  · obtain ⟨p, pa, dx, b, al, js, us, rfl, hp, hpa, hps, hjl, hll, hcase⟩ := h
    have hu := hu_of hr
    refine ⟨_, (pss_cons (ps_expr (pe_cx x_check_alphabet hr (by first | decide | omega) tk (by rfl) (pa_cons (pv 1) pa_nil)))
      (pss_cons (ps_fld (pv 0) (pv 1) rfl)
      (pss_cons (ps_fld (pv 0) (pe_tupleOf (by rfl) T.b_tuple (pe_lc (own := [("left", 5), ("right", 6)]) (g := gTup K 2 (gCons (gName 5) (gCons (gName 6) (gNil)))) (tt := tYes) rfl sc_Joins___init__.nd (pi_seq (pv 2)) (blkOk_by (N := N_Joins___init__) (sc := C8.fnScope s_Joins___init__) (by decide +kernel)) (fun _ _ _ _ _ => (pg_tup rfl (pgs_cons (pg_name (i := 5) sc_Joins___init__.nd rfl (Or.inl rfl)) (pgs_cons (pg_name (i := 6) sc_Joins___init__.nd rfl (Or.inl rfl)) pgs_nil)))) (fun _ _ _ _ _ => pts_nil) (fun _ _ _ _ _ => (pe_tup (pa_cons (pv 5) (pa_cons (pv 6) pa_nil)))))) rfl)
      (pss_cons (ps_fld (pv 0) (pe_callTy (call_list_text rfl) (by rfl) T.b_list (by decide +kernel) (pa_cons (pv 1) pa_nil)) rfl)
      (pss_cons (ps_fld (pv 0) pe_dnewT rfl)
      (pss_cons (ps_for (L2.passes_of rfl) rfl (pi_enumG rfl T.b_enumerate (pa_cons (pe_fld (pv 0) rfl) pa_nil)) (pg_tup rfl (pgs_cons (pg_name (i := 3) sc_Joins___init__.nd rfl (Or.inl rfl)) (pgs_cons (pg_name (i := 4) sc_Joins___init__.nd rfl (Or.inl rfl)) pgs_nil))) (pss_cons (ps_if (pt_not (pt_val (C8.pe_c c_may_follow hr (by first | decide | omega) (by rfl) (pa_cons (pv 1) (pa_cons (pe_fld (pv 0) rfl) (pa_cons (pe_fld (pv 0) rfl) (pa_cons (pv 4) pa_nil))))))) (pss_one (L2N.ps_raise rfl tk (pmk_err eNotProper hr (by first | decide | omega) (by rfl) (pa_cons (pv 3) pa_nil)))) pss_nil)
      (pss_cons (ps_expr (pe_bm PySem.F.plainAttrs_list PySem.F.slot_list_append PySem.F.type_list_append mt_append (pe_fld (pv 0) rfl) (pa_cons (pe_op op_add_str (pe_ix ix_list (pe_fld (pv 0) rfl) (pe_ix ix_tup (pv 4) pe_int (fun _ _ => rfl)) (fun _ _ => rfl)) (pe_ix ix_list (pe_fld (pv 0) rfl) (pe_ix ix_tup (pv 4) pe_int (fun _ _ => rfl)) (fun _ _ => rfl))) pa_nil)))
      (pss_one (ps_dput hu (pe_fld (pv 0) rfl) (pv 4) (pv 3) rfl)))))
      (pss_one (ps_fld (pv 0) (pe_dc (own := [("piece", 7), ("text", 8)]) (g := gTup K 2 (gCons (gName 7) (gCons (gName 8) (gNil)))) (tt := tYes) rfl sc_Joins___init__.nd (pi_enumG rfl T.b_enumerate (pa_cons (pe_fld (pv 0) rfl) pa_nil)) (blkOk_by (N := N_Joins___init__) (sc := C8.fnScope s_Joins___init__) (by decide +kernel)) (fun _ _ _ _ _ => (pg_tup rfl (pgs_cons (pg_name (i := 7) sc_Joins___init__.nd rfl (Or.inl rfl)) (pgs_cons (pg_name (i := 8) sc_Joins___init__.nd rfl (Or.inl rfl)) pgs_nil)))) (fun _ _ _ _ _ => pts_nil) (fun _ _ _ _ _ => (pv 8)) (fun _ _ _ _ _ => (pv 7))) rfl)))))))), ?_⟩
    have lens := f_len al
    rcases hcase with ⟨hal, hc, q⟩ | ⟨hal, hall, ps, jx, hprop, htake, hjx, hbad, q⟩
    · exact ⟨_, rfl, al, rfl, hll, fun z => (by rw [hal] at z; cases z), fun _ => ⟨hc, q.at (Same.x (Same.refl H))⟩⟩
    have hpl : ps.length < js.length := (List.getElem?_eq_some_iff.mp hjx).1
    refine ⟨_, rfl, al, rfl, hll, fun _ H1 s1 => ⟨_, rfl, _, rfl, p, C, dx, _, rfl, s1 _ _ hp, J.cl, J.n1, by show 0 < 1000; decide, ?_⟩, fun z => by rw [hal] at z; cases z⟩
    have x2 : SameX p H (upd H1 p (.ins C dx (f1 al))) := (Same.x s1).self
    have hp2 : (upd H1 p (.ins C dx (f1 al))) p = some (.ins C dx (f1 al)) := upd_same
    revert hp2 x2
    show SameX p H (upd H1 p (.ins C dx (f1 al))) → (upd H1 p (.ins C dx (f1 al))) p = some (.ins C dx (f1 al)) → tSeq _ _ _ _ (upd H1 p (.ins C dx (f1 al)))
    generalize upd H1 p (.ins C dx (f1 al)) = H2
    intro x2 hp2
    have hpap : pa ≠ p := by
      cases b with
      | true => exact ne_of hpa hp (by intro z; cases z)
      | false => exact ne_of hpa hp (by intro z; cases z)
    have sT2 : ∀ H3, SameX p H H3 → IPairsAt H3 us js := fun H3 x => hps.same fun b xs e => x b _ (fun z => by rw [z, hp] at e; cases e) e
    have hpa2 : SeqAt b H2 pa us := x2 _ _ hpap hpa
    -- self.pairs
    refine ⟨_, rfl, b, pa, us, rfl, hpa2, fun D hD => lc_it walk_seq (fun i H' => Same H2 H' ∧ ∃ ws, H' D = some (.lst ws) ∧ IPairsAt H' ws (js.take i)) ⟨same_new hD, [], upd_same, .nil⟩ (fun i H' _ ⟨sa, _⟩ => hpa2.same sa) ?_ ?_⟩
    · rintro i x Ha Hb hi ⟨sa, ws, hws, hP⟩ ⟨rfl, hx⟩
      obtain ⟨⟨l, r⟩, hpi, qa, rfl, hqa⟩ := Paired.at (sT2 _ (x2.then sa)) hx
      refine ⟨qa, _, rfl, SqT.of hqa, rfl, _, _, rfl, _, _, rfl, rfl, rfl, _, rfl, _, rfl, by show 2 ≤ sizeLine; decide, fun z hz => ?_⟩
      have hDz : D ≠ z := ne_of_none hws hz
      have hws' : upd Hb z (.tup [.int l, .int r]) D = some (.lst ws) := (upd_ne hDz).trans hws
      refine ⟨ws, hws', small1000 ?_, Same.put (Same.new sa hz) hD, _, upd_same, ?_⟩
      · have e1 := hP.length
        rw [List.length_take] at e1; omega
      · rw [take_succ_of hpi]
        refine Paired.snoc ⟨z, rfl, SameT.put hws' _ _ upd_same⟩ ?_
        exact (hP.same (Same.t (same_new hz))).same (SameT.put hws')
    rintro H3 ⟨s3, ws, hws, hP3⟩
    have hlen0 : us.length = js.length := hps.length
    rw [hlen0, List.take_length] at hP3
    refine .inl ⟨D, ws, rfl, SqL.of hws, fun t ht => ⟨_, rfl, p, C, dx, _, rfl, (Same.new s3 ht) _ _ hp2, J.cl, J.n2, lens 0 0 0 |>.1, ?_⟩⟩
    have x4 : SameX p H (upd (upd H3 t (.tup ws)) p (.ins C dx (f2 al t))) := (x2.then (Same.new s3 ht)).self
    have hp4 : (upd (upd H3 t (.tup ws)) p (.ins C dx (f2 al t))) p = some (.ins C dx (f2 al t)) := upd_same
    have hptn : t ≠ p := fun z => by rw [z, s3 _ _ hp2] at ht; cases ht
    have ht4 : (upd (upd H3 t (.tup ws)) p (.ins C dx (f2 al t))) t = some (.tup ws) := (upd_ne hptn).trans upd_same
    have hP4 : IPairsAt (upd (upd H3 t (.tup ws)) p (.ins C dx (f2 al t))) ws js :=
      (hP3.same (Same.t (same_new ht))).same (SameT.putO ((Same.new s3 ht) _ _ hp2) (by intro xs z; cases z))
    revert x4 hp4 ht4 hP4
    show SameX p H (upd (upd H3 t (.tup ws)) p (.ins C dx (f2 al t))) → (upd (upd H3 t (.tup ws)) p (.ins C dx (f2 al t))) p = some (.ins C dx (f2 al t)) → (upd (upd H3 t (.tup ws)) p (.ins C dx (f2 al t))) t = some (.tup ws) → IPairsAt (upd (upd H3 t (.tup ws)) p (.ins C dx (f2 al t))) ws js → tSeq _ _ _ _ (upd (upd H3 t (.tup ws)) p (.ins C dx (f2 al t)))
    generalize upd (upd H3 t (.tup ws)) p (.ins C dx (f2 al t)) = H4
    intro x4 hp4 ht4 hP4
    -- self._texts, self._ranks
    refine ⟨_, rfl, S al, rfl, by rw [S_size]; exact small_le (by omega), fun tx htx => ⟨_, rfl, p, C, dx, _, rfl, (same_new htx) _ _ hp4, J.cl, J.n3, lens t 0 0 |>.2.1, ?_⟩⟩
    intro d hd
    refine ⟨_, rfl, p, C, dx, _, rfl, (upd_ne (ne_of_none upd_same hd)).trans upd_same, J.cl, J.n4, lens t tx 0 |>.2.2.1, ?_⟩
    have htx0 : H tx = none := x4.free htx ⟨_, hp4⟩
    have etx : signsV (S al) = strV (textsOf al (ps.take 0)) := by
      rw [List.take_zero]
      show (al.toArray.toList.map fun c => V.str ⟨#[c]⟩) = strV (al.map fun c => [c])
      rw [strV, List.map_map]; rfl
    have txp : tx ≠ p := fun z => by rw [z, hp4] at htx; cases htx
    have hdp : d ≠ p := fun z => by rw [z, upd_same] at hd; cases hd
    have hdtx : tx ≠ d := fun z => by rw [← z, upd_ne txp, upd_same] at hd; cases hd
    have hd0 : H4 d = none := by
      rw [upd_ne hdp, upd_ne (Ne.symm hdtx)] at hd; exact hd
    have hd00 : H d = none := x4.free hd0 ⟨_, hp4⟩
    have start : ∃ (v3 v4 : Option V), [some (V.ref p), some (.str (S al)), some (.ref pa), none, none, none, none, none, none] = [some (V.ref p), some (.str (S al)), some (.ref pa), v3, v4, none, none, none, none] ∧ InitI C (upd (upd (upd (upd H4 tx (.lst (signsV (S al)))) p (.ins C dx (f3 al t tx))) d (.dT [])) p (.ins C dx (f4 al t tx d))) p dx t tx d ws al js ps 0 ∧
        SameX p H (upd (upd (upd (upd H4 tx (.lst (signsV (S al)))) p (.ins C dx (f3 al t tx))) d (.dT [])) p (.ins C dx (f4 al t tx d))) ∧ 0 ≤ ps.length := by
      have xa : SameX p H4 (upd (upd (upd (upd H4 tx (.lst (signsV (S al)))) p (.ins C dx (f3 al t tx))) d (.dT [])) p (.ins C dx (f4 al t tx d))) :=
        (((Same.x (p := p) (same_new htx)).self).put hd0).self
      have xb : ∀ b o, b ≠ p → H b = some o → H4 b = some o := x4
      have tT : SameT H4 (upd (upd (upd (upd H4 tx (.lst (signsV (S al)))) p (.ins C dx (f3 al t tx))) d (.dT [])) p (.ins C dx (f4 al t tx d))) := fun b xs e => xa b _ (fun z => by rw [z, hp4] at e; cases e) e
      refine ⟨none, none, rfl, ⟨upd_same, tT _ _ ht4, hP4.same tT, ?_, ?_⟩, fun b o hb e => xa b o hb (x4 b o hb e), Nat.zero_le _⟩
      · rw [upd_ne txp, upd_ne hdtx, upd_ne txp, upd_same, etx]
      · rw [upd_ne hdp, upd_same]; rfl
    revert start
    show (∃ (v3 v4 : Option V), _ ∧ InitI C (upd (upd (upd (upd H4 tx (.lst (signsV (S al)))) p (.ins C dx (f3 al t tx))) d (.dT [])) p (.ins C dx (f4 al t tx d))) p dx t tx d ws al js ps 0 ∧ SameX p H (upd (upd (upd (upd H4 tx (.lst (signsV (S al)))) p (.ins C dx (f3 al t tx))) d (.dT [])) p (.ins C dx (f4 al t tx d))) ∧ 0 ≤ ps.length) → tSeq _ _ _ _ (upd (upd (upd (upd H4 tx (.lst (signsV (S al)))) p (.ins C dx (f3 al t tx))) d (.dT [])) p (.ins C dx (f4 al t tx d)))
    generalize upd (upd (upd (upd H4 tx (.lst (signsV (S al)))) p (.ins C dx (f3 al t tx))) d (.dT [])) p (.ins C dx (f4 al t tx d)) = H5
    intro start
    have hlenw : ws.length = js.length := hP4.length
    obtain ⟨_, _, _, i0, _⟩ := id start
    refine ⟨_, rfl, p, C, dx, _, _, rfl, i0.1, J.cl, J.n2, f4_pairs al t tx d, _, _, _, _, rfl, src_seq (b := false) i0.2.1, for_it walkG (fun i σ H' => ∃ (v3 v4 : Option V), σ = [some (V.ref p), some (.str (S al)), some (.ref pa), v3, v4, none, none, none, none] ∧ InitI C H' p dx t tx d ws al js ps i ∧ SameX p H H' ∧ i ≤ ps.length) start (fun i σ H' _ ⟨_, _, _, ia, _⟩ => ia.2.1) ?_ ?_⟩
    · rintro i x σ Ha Hb hi ⟨v3, v4, rfl, ia, xa, hip⟩ ⟨Tt, xs, rfl, hT, rfl, v, hv, rfl⟩
      obtain ⟨⟨l, r⟩, hpi, qa, rfl, hqa⟩ := Paired.at ia.2.2.1 hv
      have ib := ia.same (same_new hT (o := .tup [.int (i : Int), .ref qa]))
      have xb : SameX p H (upd Ha Tt (.tup [.int (i : Int), .ref qa])) := xa.then (same_new hT)
      have hqb : (upd Ha Tt (.tup [.int (i : Int), .ref qa])) qa = some (.tup [.int l, .int r]) := (same_new hT) _ _ hqa
      have hTb : (upd Ha Tt (.tup [.int (i : Int), .ref qa])) Tt = some (.tup [.int (i : Int), .ref qa]) := upd_same
      revert ib xb hqb hTb
      show InitI C (upd Ha Tt (.tup [.int (i : Int), .ref qa])) p dx t tx d ws al js ps i → SameX p H (upd Ha Tt (.tup [.int (i : Int), .ref qa])) → (upd Ha Tt (.tup [.int (i : Int), .ref qa])) qa = some (.tup [.int l, .int r]) → (upd Ha Tt (.tup [.int (i : Int), .ref qa])) Tt = some (.tup [.int (i : Int), .ref qa]) → gTup K 2 _ _ _ (upd Ha Tt (.tup [.int (i : Int), .ref qa])) _
      generalize upd Ha Tt (.tup [.int (i : Int), .ref qa]) = Hb
      intro ib xb hqb hTb
      obtain ⟨b1, b2, b3, b4, b5⟩ := ib
      have htl : (textsOf al (ps.take i)).length ≤ 200 := by rw [textsOf_len, List.length_take]; omega
      refine ⟨Tt, _, rfl, SqT.of hTb, rfl, _, _, rfl, _, _, rfl, rfl, ?_⟩
      refine ⟨_, rfl, _, rfl, p, C, dx, _, _, rfl, b1, J.cl, J.n3, f4_texts al t tx d, _, rfl, p, C, dx, _, _, rfl, b1, J.cl, J.n4, f4_ranks al t tx d, _, rfl, al, textsOf al (ps.take i), ps.take i, l, r, tx, d, qa, rfl, b4, b5, hqb, (hprop.take i).wf, textsOf_al, (hprop.take i).short, by omega, by omega, ?_⟩
      by_cases hin : i = ps.length
      · -- the one that may not follow
        subst hin
        rw [List.take_length]
        have ej : jx = (l, r) := Option.some.inj (hjx.symm.trans hpi)
        subst ej
        have nok : ∀ p : Nat × Nat, l = (p.1 : Int) → r = (p.2 : Int) → ¬ okP al (textsOf al ps) ps p := fun p e1 e2 => hbad p (by rw [e1, e2]; rfl)
        refine ⟨fun p e1 e2 ok => absurd ok (nok p e1 e2), fun _ Hc sc => ⟨_, rfl, iteT (mk_err1 (x := .int (ps.length : Int)) ⟨ps.length, rfl, by omega⟩ ⟨_, rfl, rfl, q.at (xb.then sc)⟩ fun h1 h2 => ?_)⟩⟩
        obtain ⟨a1, e1, h1⟩ := h1
        exact ⟨a1, e1, h2 _ _ h1⟩
      have hilt : i < ps.length := by omega
      obtain ⟨⟨l', r'⟩, hpi'⟩ : ∃ q, ps[i]? = some q := ⟨_, List.getElem?_eq_getElem hilt⟩
      have ej := Option.some.inj ((toI_at htake hpi').symm.trans hpi)
      have el : l = (l' : Int) := (congrArg Prod.fst ej).symm
      have er : r = (r' : Int) := (congrArg Prod.snd ej).symm
      subst el er
      have hok := hprop i (l', r') hpi'
      refine ⟨fun p' e1 e2 ok Hc sc => ⟨_, rfl, iteF ?_⟩, fun hno => absurd hok (hno (l', r') rfl rfl)⟩
      have ic : InitI C Hc p dx t tx d ws al js ps i := InitI.same ⟨b1, b2, b3, b4, b5⟩ sc
      have xc : SameX p H Hc := xb.then sc
      have hqc := sc _ _ hqb
      obtain ⟨c1, c2, c3, c4, c5⟩ := ic
      have hg1 : l' < (textsOf al (ps.take i)).length := hok.1
      have hg2 : r' < (textsOf al (ps.take i)).length := hok.2.1
      have hsum : ((textsOf al (ps.take i)).getD l' []).length + ((textsOf al (ps.take i)).getD r' []).length ≤ 40 := by
        have := hok.2.2.1
        rw [List.length_append] at this; exact this
      have hts : textsOf al (ps.take i) ++ [(textsOf al (ps.take i)).getD l' [] ++ (textsOf al (ps.take i)).getD r' []] = textsOf al (ps.take (i + 1)) := by rw [take_succ_of hpi', textsOf_snoc]
      refine ⟨_, rfl, p, C, dx, _, _, rfl, c1, J.cl, J.n3, f4_texts al t tx d, .inl ⟨rfl, _, SqL.of c4⟩, ?_⟩
      refine ⟨_, rfl, p, C, dx, _, _, rfl, c1, J.cl, J.n3, f4_texts al t tx d, _, rfl, qa, _, 0, _, rfl, rfl, SqT.of hqc, rfl, tx, _, _, _, rfl, rfl, SqL.of c4, atI_nat (strV_at hg1),
        _, rfl, p, C, dx, _, _, rfl, c1, J.cl, J.n3, f4_texts al t tx d, _, rfl, qa, _, 1, _, rfl, rfl, SqT.of hqc, rfl, tx, _, _, _, rfl, rfl, SqL.of c4, atI_nat (strV_at hg2), S _, S _, rfl, rfl, ?_, ?_⟩
      · rw [S_len, S_len]
        exact small_le (by omega)
      refine ⟨tx, _, _, rfl, rfl, c4, by rw [strV_len]; exact small1000 (by omega), ?_⟩
      rw [S_cat, strV_snoc, hts]
      have ntx : ∀ (b : Addr) (o : HO), Hc b = some o → (∀ ys, o ≠ .lst ys) → (upd Hc tx (.lst (strV (textsOf al (ps.take (i + 1)))))) b = some o := fun b o e hne => by
        rw [upd_ne (ne_of e c4 (hne _))]; exact e
      have hd2 := ntx d _ c5 (by intro ys z; cases z)
      have hq2 := ntx qa _ hqc (by intro ys z; cases z)
      refine ⟨_, rfl, _, rfl, p, C, dx, _, _, rfl, ntx p _ c1 (by intro ys z; cases z), J.cl, J.n4, f4_ranks al t tx d, _, rfl, d, _, rfl, DPut.t (k := pkey (l', r')) hd2 hq2 (by rw [kvsF_len, List.length_take]; exact small1000 (by omega)), ?_⟩
      have hnew : putK (kvsF 0 (ps.take i)) (pkey (l', r')) (V.int (i : Int)) = kvsF 0 (ps.take (i + 1)) := by
        have hnot : (l', r') ∉ ps.take i := fun hm => by
          have := cut_clean (hprop.take i).wf (lets al ((textsOf al (ps.take i)).getD l' [] ++ (textsOf al (ps.take i)).getD r' [])) _ hm
          rw [show cutL al.length (ps.take i) (lets al ((textsOf al (ps.take i)).getD l' [] ++ (textsOf al (ps.take i)).getD r' [])) = [l', r'] from hok.2.2.2] at this
          exact this (by show (l', r') ∈ [(l', r')]; exact List.mem_cons_self ..)
        have h0 : valV (kvsF 0 (ps.take i)) (pkey (l', r')) = none := by rw [kvsF_get, if_neg hnot]
        rw [putK_new _ h0, take_succ_of hpi', kvsF_snoc, take_len_of hpi', Nat.zero_add]
      rw [hnew]
      have nd : ∀ (b : Addr) (o : HO), (upd Hc tx (.lst (strV (textsOf al (ps.take (i + 1)))))) b = some o → (∀ ys, o ≠ .dT ys) → (upd (upd Hc tx (.lst (strV (textsOf al (ps.take (i + 1)))))) d (.dT (kvsF 0 (ps.take (i + 1))))) b = some o := fun b o e hne => by
        rw [upd_ne (ne_of e hd2 (hne _))]; exact e
      have tT : SameT Hc (upd (upd Hc tx (.lst (strV (textsOf al (ps.take (i + 1)))))) d (.dT (kvsF 0 (ps.take (i + 1))))) := fun b xs e => nd b _ (ntx b _ e (by intro ys z; cases z)) (by intro ys z; cases z)
      refine ⟨_, _, rfl, ⟨nd p _ (ntx p _ c1 (by intro ys z; cases z)) (by intro ys z; cases z), tT _ _ c2, c3.same tT, nd tx _ upd_same (by intro ys z; cases z), upd_same⟩, ?_, by omega⟩
      exact (xc.put htx0).put hd00
    · rintro σ H6 ⟨v3, v4, rfl, _, _, hle⟩
      have hle' : ws.length ≤ ps.length := hle
      omega
end
end RJ
end

section
set_option maxRecDepth 100000
set_option maxHeartbeats 4000000
namespace RJ
open PySem PySem.Spec PyProof.Rows L2
theorem FnOk.mono {P : Program} {w : World} {K : PySem.W.Frag} {mg : Str → Option Value} {base : Heap} {CX : CXT} {k : Nat} {f : Addr} {fd : FuncData} {ps : List Str} {sp sp' : Sp} (F : FnOk P w K mg base CX k f fd ps sp) (h : ∀ vs H Q E, sp' vs H Q E → sp vs H Q E) : FnOk P w K mg base CX k f fd ps sp' :=
  ⟨fun vs H Q E z => F.len vs H Q E (h vs H Q E z), fun A outer s H args us vs Q E hr e0 hb r z => F.run A outer s H args us vs Q E hr e0 hb r (h vs H Q E z)⟩
def sp_joinI : Sp := fun vs H Q _ => ∃ (p pr : Addr) (row : List Nat) (l r : Int) (m : Nat), vs = [.ref p, .ref pr, .int (m : Int)] ∧ H p = some (.lst (iv row)) ∧ H pr = some (.tup [.int l, .int r]) ∧ row.length ≤ 1000 ∧
  ∀ H' z row', Same H H' → H z = none → H' z = some (.lst (iv row')) → row'.length ≤ row.length → Q (.ref z) H'
def sp_stagedI : Sp := fun vs H Q _ => ∃ (p z : Addr) (us : List V) (js : List (Int × Int)) (row : List Nat) (b : Nat), vs = [.int (b : Int), .ref p, .ref z] ∧ H p = some (.lst us) ∧ IPairsAt H us js ∧ H z = some (.lst (iv row)) ∧ row.length ≤ 1000 ∧ js.length ≤ 1000 ∧
  ∀ H' y row', Same H H' → H' y = some (.lst (iv row')) → row'.length ≤ row.length → Q (.ref y) H'
/-- what a yes tells -/
def InTexts (ts : List (List Nat)) (l r : Int) : Prop := ∃ a b : Nat, l = (a : Int) ∧ r = (b : Int) ∧ a < ts.length ∧ b < ts.length ∧ (ts.getD a [] ++ ts.getD b []).length ≤ 40
def sp_properI : Sp := fun vs H Q _ => ∃ (al : List Nat) (ts : List (List Nat)) (tx pp pr : Addr) (us : List V) (js : List (Int × Int)) (l r : Int), vs = [.str (S al), .ref tx, .ref pp, .ref pr] ∧ H tx = some (.lst (strV ts)) ∧ H pp = some (.lst us) ∧ IPairsAt H us js ∧
  H pr = some (.tup [.int l, .int r]) ∧ (∀ t ∈ ts, ∀ c ∈ t, c ∈ al) ∧ (∀ t ∈ ts, t.length ≤ 40) ∧ al.length ≤ 1000 ∧ js.length ≤ 1000 ∧ ts.length ≤ 1000 ∧ ∀ H' k, Same H H' → (k = true → InTexts ts l r) → Q (.bl k) H'
def sp_properX : Sp := fun vs H Q _ => ∃ (al : List Nat) (tx pp pr : Addr) (us : List V) (ps : List (Nat × Nat)) (l r : Int), vs = [.str (S al), .ref tx, .ref pp, .ref pr] ∧ H tx = some (.lst (strV (textsOf al ps))) ∧ H pp = some (.lst us) ∧ PairsAt H us ps ∧
  H pr = some (.tup [.int l, .int r]) ∧ Proper al ps ∧ al.length ≤ 500 ∧ ps.length ≤ 500 ∧ (∀ p, (l, r) = toI p → okP al (textsOf al ps) ps p → ∀ H', Same H H' → Q (.bl true) H') ∧ (NotOk al ps (l, r) → ∀ H', Same H H' → Q (.bl false) H')
theorem shaped_ii (l r : Int) : SeqAt.shaped (.tuple [PyData.int l, PyData.int r]) = true := by
  simp [SeqAt.shaped, PyData.canLay0, PyData.canLayAll0, PyData.depth, PyData.depthAll]
section
variable {P : Program} {w : World} {K : PySem.W.Frag} {mg : Str → Option Value} {base : Heap}
end
end RJ
end

section
set_option maxRecDepth 100000
set_option maxHeartbeats 4000000
namespace RJ
open PySem PySem.Spec PyProof.Rows L2

def sp_pairsI : Sp := fun vs H Q _ => ∃ (p : Addr) (ns al : List Nat), vs = [.ref p, .str (S al)] ∧ H p = some (.lst (iv ns)) ∧ ns.length = 45 ∧ 1 ≤ al.length ∧ al.length ≤ 100 ∧
  ∀ H' r us js, Same H H' → H' r = some (.lst us) → IPairsAt H' us js → js.length ≤ 15 → Q (.ref r) H'
theorem iteA {b : Bool} {A B : Prop} (h1 : A) (h2 : B) : if b = true then A else B := by
  cases b
  · exact iteF h2
  · exact iteT h1
theorem iteE {A B : Prop} (h : if true = true then A else B) : A := h
theorem iteD {b : Bool} {A B : Prop} (h1 : A) (h2 : A → B) : if b = true then A else B := iteA h1 (h2 h1)
theorem at5 (a b c d e n : Int) : ∃ o : Int, atI [V.int a, V.int b, V.int c, V.int d, V.int e] (n % 5) = some (V.int o) := by
  obtain ⟨k, hk, ek⟩ := modOf (L := 5) (by decide) n
  have ek' : n % 5 = (k : Int) := ek
  rw [ek']
  match k, hk with
  | 0, _ => exact ⟨a, atI_nat rfl⟩
  | 1, _ => exact ⟨b, atI_nat rfl⟩
  | 2, _ => exact ⟨c, atI_nat rfl⟩
  | 3, _ => exact ⟨d, atI_nat rfl⟩
  | 4, _ => exact ⟨e, atI_nat rfl⟩
theorem cutV_toP (xs : List V) (k : Nat) : cutV xs none (some (k : Int)) = xs.take k := by
  unfold cutV
  rw [HT.sIx_nat, HT.sIx_none, List.drop_zero, Nat.sub_zero]
  by_cases h : k ≤ xs.length
  · rw [Nat.min_eq_left h]
  · rw [Nat.min_eq_right (by omega), List.take_length, List.take_of_length_le (by omega)]
section
variable {P : Program} {w : World} {K : PySem.W.Frag} {mg : Str → Option Value} {base : Heap}
end
end RJ
end

section
set_option maxRecDepth 100000
set_option maxHeartbeats 8000000
namespace RJ
open PySem PySem.Spec PyProof.Rows L2

theorem PairedFront {α β : Type} {F : α → β → Prop} : ∀ {as : List α} {bs : List β} (n : Nat), Paired F as bs → Paired F (as.take n) (bs.take n)
  | _, _, 0, _ => .nil
  | _, _, _ + 1, .nil => .nil
  | _, _, n + 1, .cons f t => .cons f (PairedFront n t)
def sp_dueI : Sp := fun vs H Q _ => ∃ (pp : Addr) (al : List Nat) (us : List V) (js : List (Int × Int)), vs = [.str (S al), .ref pp] ∧ H pp = some (.lst us) ∧ IPairsAt H us js ∧ al.length ≤ 100 ∧ js.length ≤ 100 ∧
  (∀ H' ps, Same H H' → js = ps.map toI → Proper al ps → Q .non H') ∧
  (∀ H' ps j, Same H H' → js.take ps.length = ps.map toI → js[ps.length]? = some j → Proper al ps → NotOk al ps j → Q (.int (ps.length : Int)) H')
def sp_mkJ (C CA CN : Addr) : Sp := fun vs H Q E => sp_init C vs H Q E ∨ sp_initX C CA CN vs H Q E
/-- a list of joins is made, from a list or a tuple -/
theorem init_atB {C x dx pa : Addr} {b : Bool} {H1 : Hp} {al : List Nat} {ps : List (Nat × Nat)} {us : List V} {R : Hp → Prop} {E : XK} (hpa : SeqAt b H1 pa us) (hps : PairsAt H1 us ps) (hok : alOk al = true) (hnd : al.Nodup) (h30 : al.length ≤ 30) (hprop : Proper al ps) (hpl : ps.length ≤ 100)
    (nx : H1 x = none) (ndx : H1 dx = none) (q : ∀ H', Same H1 H' → JoinsAt C H' x al ps → R H') : sp_init C [.ref x, .str (S al), .ref pa] (upd (upd H1 dx (.own x)) x (.ins C dx [])) (fun v H2 => v = .non ∧ R H2) E := by
  have sM : ∀ (b : Addr) (o : HO), H1 b = some o → b ≠ x ∧ (upd (upd H1 dx (.own x)) x (.ins C dx [])) b = some o := fun b o e => by
    have hb := ne_of_none e nx
    exact ⟨hb, (upd_ne hb).trans ((upd_ne (ne_of_none e ndx)).trans e)⟩
  exact ⟨x, pa, dx, b, al, ps, us, rfl, upd_same, (sM _ _ hpa).2, hps.same (fun b xs e => (sM b _ e).2), hok, hnd, h30, hprop, hpl, fun H4 sx hj => ⟨rfl, q H4 (fun b o e => sx b o (sM b o e).1 (sM b o e).2) hj⟩⟩
/-- .. is refused -/
theorem init_atX {C CA CN x dx pa : Addr} {b : Bool} {H1 : Hp} {al : List Nat} {js : List (Int × Int)} {us : List V} {Q : VK} {E : XK} (hpa : SeqAt b H1 pa us) (hps : IPairsAt H1 us js) (hjl : js.length ≤ 100) (hal : al.length ≤ 1000) (nx : H1 x = none) (ndx : H1 dx = none)
    (q : (alOk al = false ∧ (∀ c ∈ al, c < 1114112) ∧ ErrAt E CA H1 [("alphabet", .str (S al))]) ∨ (alOk al = true ∧ al.length ≤ 30 ∧ ∃ (ps : List (Nat × Nat)) (j : Int × Int), Proper al ps ∧ js.take ps.length = ps.map toI ∧ js[ps.length]? = some j ∧ NotOk al ps j ∧ ErrAt E CN H1 [("rank", .int (ps.length : Int))])) :
    sp_initX C CA CN [.ref x, .str (S al), .ref pa] (upd (upd H1 dx (.own x)) x (.ins C dx [])) Q E := by
  have sM : ∀ (b : Addr) (o : HO), H1 b = some o → b ≠ x ∧ (upd (upd H1 dx (.own x)) x (.ins C dx [])) b = some o := fun b o e => by
    have hb := ne_of_none e nx
    exact ⟨hb, (upd_ne hb).trans ((upd_ne (ne_of_none e ndx)).trans e)⟩
  have eX : ∀ {D : Addr} {fs : List (Str × V)}, ErrAt E D H1 fs → ErrAtX x E D (upd (upd H1 dx (.own x)) x (.ins C dx [])) fs := fun h d H' sx hd => h d H' (fun b o e => sx b o (sM b o e).1 (sM b o e).2) hd
  refine ⟨x, pa, dx, b, al, js, us, rfl, upd_same, (sM _ _ hpa).2, hps.same (fun b xs e => (sM b _ e).2), hjl, hal, ?_⟩
  rcases q with ⟨h1, h2, h3⟩ | ⟨h1, h2, ps, j, h3, h4, h5, h6, h7⟩
  · exact .inl ⟨h1, h2, eX h3⟩
  · exact .inr ⟨h1, h2, ps, j, h3, h4, h5, h6, eX h7⟩
section
variable {P : Program} {w : World} {K : PySem.W.Frag} {mg : Str → Option Value} {base : Heap}
theorem ok_mkJ {f C CInvalidAlphabet CNotProper : Addr} {fd : FuncData} (F : C8.Fun K "__init__" "Joins.__init__" s_Joins___init__ f fd) (T : Txt K mg) (J : JTxt K C) (c_check_alphabet : C8.Cal P w K mg base 3 "check_alphabet" sp_check_alphabet []) (c_may_follow : C8.Cal P w K mg base 3 "may_follow" sp_may_follow [])
    (x_check_alphabet : CalX P w K mg base 3 "check_alphabet" (sp_check_alphabetX CInvalidAlphabet)) (eNotProper : ErrC P w K mg base "NotProper" CNotProper (sp_err1 CNotProper "rank" gNat)) :
    FnOk P w K mg base (CXN P w) 4 f fd ["self", "alphabet", "pairs"] (sp_mkJ C CInvalidAlphabet CNotProper) :=
  RJ.FnOk.or (RJ.FnOk.lift (ok_init F T J c_check_alphabet c_may_follow)) (ok_initX F T J c_check_alphabet c_may_follow x_check_alphabet eNotProper)
end
end RJ
end

section
set_option maxRecDepth 100000
set_option maxHeartbeats 4000000
namespace RJ
open PySem PySem.Spec PyProof.Rows L2
abbrev s_totals_of : Stmt := top 32
abbrev N_totals_of : List Str := ["rows", "counts", "totals", "row", "count", "pair"]
theorem sc_totals_of : FnScope N_totals_of ["rows", "counts"] (C8.fnScope s_totals_of) := C8.fnScope_by (by decide +kernel)
abbrev s_counts_of : Stmt := top 33
abbrev N_counts_of : List Str := ["corpus", "_", "count"]
theorem sc_counts_of : FnScope N_counts_of ["corpus"] (C8.fnScope s_counts_of) := C8.fnScope_by (by decide +kernel)
/-! ### totals: pairs and their numbers -/
abbrev Tot := (Nat × Nat) × Nat
def toEnt (e : Tot) : Ent := (((e.1.1 : Int), (e.1.2 : Int)), (e.2 : Int))
theorem toEnt_inj {a b : Tot} (h : toEnt a = toEnt b) : a = b := by
  obtain ⟨⟨a1, a2⟩, a3⟩ := a
  obtain ⟨⟨b1, b2⟩, b3⟩ := b
  have h1 := congrArg (fun e : Ent => e.1.1) h
  have h2 := congrArg (fun e : Ent => e.1.2) h
  have h3 := congrArg (fun e : Ent => e.2) h
  simp only [toEnt] at h1 h2 h3
  have e1 : a1 = b1 := by omega
  have e2 : a2 = b2 := by omega
  have e3 : a3 = b3 := by omega
  rw [e1, e2, e3]
def kvsN (T : List Tot) : List (List Key × V) := T.map fun e => (pkey e.1, V.int (e.2 : Int))
def getT : List Tot → Nat × Nat → Nat
  | [], _ => 0
  | e :: T, p => if e.1 = p then e.2 else getT T p
def addT (T : List Tot) (p : Nat × Nat) (c : Nat) : List Tot := if p ∈ T.map (·.1) then T.map (fun e => if e.1 = p then (e.1, getT T p + c) else e) else T ++ [(p, c)]
theorem kvsN_get (p : Nat × Nat) : ∀ T : List Tot, valV (kvsN T) (pkey p) = if p ∈ T.map (·.1) then some (V.int (getT T p : Int)) else none
  | [] => by rw [if_neg (by simp)]; exact valV_nil
  | e :: T => by
    show valV ((pkey e.1, V.int (e.2 : Int)) :: kvsN T) (pkey p) = _
    by_cases h : e.1 = p
    · rw [valV_pos (p := (pkey e.1, V.int (e.2 : Int))) (by rw [h]), if_pos (by rw [List.map_cons, h]; exact List.mem_cons_self ..)]
      show _ = some (V.int ((if e.1 = p then e.2 else getT T p : Nat) : Int))
      rw [if_pos h]
    · rw [valV_neg (p := (pkey e.1, V.int (e.2 : Int))) fun z => h (pkey_inj z), kvsN_get p T]
      show _ = if p ∈ e.1 :: T.map (·.1) then some (V.int ((if e.1 = p then e.2 else getT T p : Nat) : Int)) else none
      rw [if_neg h]
      by_cases m : p ∈ T.map (·.1)
      · rw [if_pos m, if_pos (List.mem_cons_of_mem _ m)]
      · rw [if_neg m, if_neg fun z => (List.mem_cons.mp z).elim (fun e => h e.symm) m]
theorem getT_none {p : Nat × Nat} : ∀ {T : List Tot}, p ∉ T.map (·.1) → getT T p = 0
  | [], _ => rfl
  | e :: T, h => by
    have h1 : ¬ e.1 = p := fun z => h (by rw [List.map_cons, z]; exact List.mem_cons_self ..)
    show (if e.1 = p then e.2 else getT T p) = 0
    rw [if_neg h1]
    exact getT_none fun z => h (List.mem_cons_of_mem _ z)
theorem kvsN_put (T : List Tot) (p : Nat × Nat) (c : Nat) : putK (kvsN T) (pkey p) (.int ((getT T p + c : Nat) : Int)) = kvsN (addT T p c) := by
  unfold putK addT
  rw [valV_any, kvsN_get]
  by_cases m : p ∈ T.map (·.1)
  · rw [if_pos m, if_pos m, if_pos (show (some (V.int (getT T p : Int))).isSome = true from rfl)]
    unfold kvsN
    rw [List.map_map, List.map_map]
    refine List.map_congr_left fun e he => ?_
    show (if pkey e.1 = pkey p then ((pkey e.1, V.int ((getT T p + c : Nat) : Int)) : List Key × V) else (pkey e.1, V.int (e.2 : Int))) = _
    by_cases h : e.1 = p
    · rw [if_pos (by rw [h])]
      show _ = (fun e : Tot => ((pkey e.1, V.int (e.2 : Int)) : List Key × V)) (if e.1 = p then (e.1, getT T p + c) else e)
      rw [if_pos h]
    · rw [if_neg fun z => h (pkey_inj z)]
      show _ = (fun e : Tot => ((pkey e.1, V.int (e.2 : Int)) : List Key × V)) (if e.1 = p then (e.1, getT T p + c) else e)
      rw [if_neg h]
  · rw [if_neg m, if_neg m, if_neg (by simp), getT_none m]
    unfold kvsN
    rw [List.map_append, Nat.zero_add]; rfl
theorem addT_len (T : List Tot) (p : Nat × Nat) (c : Nat) : (addT T p c).length ≤ T.length + 1 := by
  unfold addT
  split
  · rw [List.length_map]; omega
  · rw [List.length_append]; exact Nat.le_refl _
/-- a row's neighbors, counted -/
def rowT (T : List Tot) (l : List (Nat × Nat)) (c : Nat) : List Tot := l.foldl (fun T p => addT T p c) T
def totL (rs : List (List Nat)) (cs : List Nat) : List Tot := (rs.zip cs).foldl (fun T e => rowT T (adjs e.1) e.2) []
theorem rowT_len (c : Nat) : ∀ (l : List (Nat × Nat)) (T : List Tot), (rowT T l c).length ≤ T.length + l.length
  | [], T => Nat.le_refl _
  | p :: l, T => by
    have h1 := rowT_len c l (addT T p c)
    have h2 := addT_len T p c
    show (rowT (addT T p c) l c).length ≤ _
    rw [List.length_cons]; omega
def srtT (T : List Tot) : List Tot := T.mergeSort fun a b => decide (keyLe (toEnt a) (toEnt b))
theorem srtT_of {T : List Tot} {es : List Ent} (h : es.Perm (T.map toEnt)) (hs : es.Pairwise keyLe) : es = (srtT T).map toEnt := by
  have hp : (srtT T).Perm T := List.mergeSort_perm _ _
  have hw : (srtT T).Pairwise (fun a b => decide (keyLe (toEnt a) (toEnt b)) = true) := List.pairwise_mergeSort (le := fun a b : Tot => decide (keyLe (toEnt a) (toEnt b))) (fun a b c h1 h2 => decide_eq_true (keyLe_trans (of_decide_eq_true h1) (of_decide_eq_true h2))) (fun a b => by
    rw [Bool.or_eq_true, decide_eq_true_eq, decide_eq_true_eq]; exact keyLe_total _ _) T
  refine key_uniq (h.trans (hp.map toEnt).symm) hs ?_
  rw [List.pairwise_map]
  exact hw.imp fun h => of_decide_eq_true h
def TotV (H : Hp) (u : V) (e : Tot) : Prop := EntV H u (toEnt e)
theorem EntV.same {H H' : Hp} {u : V} {e : Ent} (s : SameT H H') (h : EntV H u e) : EntV H' u e := by
  obtain ⟨a, g, h1, h2, h3⟩ := h
  exact ⟨a, g, h1, s _ _ h2, s _ _ h3⟩
theorem LSame.tt {P : Addr} {q : Str} {H H' : Hp} (s : LSame P q H H') : SameT H H' := fun b xs e => s.tup e
theorem LSame.seq {P : Addr} {q : Str} {k : Bool} {b : Addr} {H H' : Hp} {xs : List V} (s : LSame P q H H') (e : SeqAt k H b xs) : SeqAt k H' b xs := by
  cases k with
  | true => exact s.lst e
  | false => exact s.tup e
/-- rows, each a list or a tuple -/
def RowSq (H : Hp) (v : V) (row : List Nat) : Prop := ∃ b z, v = .ref z ∧ SeqAt b H z (iv row)
def RowsSq (H : Hp) (a : Addr) (rs : List (List Nat)) : Prop := ∃ vs, H a = some (.lst vs) ∧ Paired (RowSq H) vs rs
theorem RowSq.same {H H' : Hp} {v : V} {row : List Nat} (s : Same H H') (h : RowSq H v row) : RowSq H' v row := by
  obtain ⟨b, z, h1, h2⟩ := h
  exact ⟨b, z, h1, h2.same s⟩
theorem RowSq.lam {P : Addr} {q : Str} {H H' : Hp} {v : V} {row : List Nat} (s : LSame P q H H') (h : RowSq H v row) : RowSq H' v row := by
  obtain ⟨b, z, h1, h2⟩ := h
  exact ⟨b, z, h1, s.seq h2⟩
theorem paired_maps {α β γ δ : Type} {F : α → γ → Prop} {G : α → δ → Prop} {f : β → γ} {g : β → δ} (h : ∀ u e, F u (f e) → G u (g e)) : ∀ {us : List α} {T : List β}, Paired F us (T.map f) → Paired G us (T.map g)
  | _, [], .nil => .nil
  | _, _ :: _, .cons r t => .cons (h _ _ r) (paired_maps h t)
theorem paired_unmap {α β γ : Type} {F : α → γ → Prop} {f : β → γ} : ∀ {us : List α} {T : List β}, Paired F us (T.map f) → Paired (fun u e => F u (f e)) us T
  | _, [], .nil => .nil
  | _, _ :: _, .cons r t => .cons r (paired_unmap t)
/-- the lambda's name -/
abbrev qLam : Str := "totals_of" ++ ".<locals>." ++ "<lambda>"
def sp_totals (Pt : Addr) (qt : Str) : Sp := fun vs H Q _ => ∃ (a c : Addr) (rs : List (List Nat)) (cs : List Nat), vs = [.ref a, .ref c] ∧ RowsSq H a rs ∧ H c = some (.lst (iv cs)) ∧ rs.length = cs.length ∧ cs.length ≤ 100 ∧ (∀ r ∈ rs, r.length ≤ 1000) ∧ LamX.TabS H Pt qt ∧
  ∀ H' D us, LSame Pt qt H H' → H D = none → H' D = some (.lst us) → Paired (TotV H') us (srtT (totL rs cs)) → Q (.ref D) H'
section
variable {P : Program} {w : World} {K : PySem.W.Frag} {mg : Str → Option Value} {base : Heap}
theorem ok_totals {f ct Pt : Addr} {fd : FuncData} (F : FunC K "totals_of" "totals_of" s_totals_of f ct fd) (T : Txt K mg) (TB : LamX.TabB base mg ct Pt) : FnOk P w K mg base C8.CX0 1 f fd ["rows", "counts"] (sp_totals Pt qLam) := by
  refine fnC F sc_totals_of (fun vs H Q E h => ?_) (fun A outer s H vs Q E hr h => ?_)
  · obtain ⟨a, c, rs, cs, rfl, _⟩ := h; rfl
  · obtain ⟨a, c, rs, cs, rfl, hR, hc, he, hcl, hrl, hTb, q⟩ := h
    have hu := hu_of hr
    obtain ⟨us, hus, hP⟩ := id hR
    refine ⟨_, (pss_cons (ps_set (i := 2) sc_totals_of.nd rfl (Or.inl rfl) pe_dnewT)
      (pss_cons (ps_for PassesOwn.never rfl (pi_zipT2 rfl T.b_zip (pa_cons (pv 0) (pa_cons (pv 1) pa_nil))) (pg_tup rfl (pgs_cons (pg_name (i := 3) sc_totals_of.nd rfl (Or.inl rfl)) (pgs_cons (pg_name (i := 4) sc_totals_of.nd rfl (Or.inl rfl)) pgs_nil))) (pss_one (ps_for PassesOwn.never rfl (pi_zipN rfl T.b_zip (pa_cons (pv 3) (pa_cons (pe_slice sl_seq (pv 3) (po_some pe_int) po_none) pa_nil))) (pg_name (i := 5) sc_totals_of.nd rfl (Or.inl rfl)) (pss_one (ps_dput hu (pv 2) (pv 5) (pe_op op_add (pe_dget2 hu (pv 2) (pv 5) pe_int ⟨by rfl, by rfl, by rfl, by rfl⟩) (pv 4)) rfl)))))
      (pss_one (ps_ret (pe_callBK (cr_sortedKey (q := qLam) hr) (by rfl) T.b_sorted (by decide +kernel) (pa_cons (pe_callTy (call_listItT rfl) (by rfl) T.b_list (by decide +kernel) (pa_cons (pe_bm0 PySem.F.plainAttrs_dict PySem.F.slot_dict_items PySem.F.type_dict_items DX.mt_itemsT (pv 2)) pa_nil)) pa_nil) (pk_cons (pe_lamK (q := qLam) TB rfl rfl) pk_nil)))))), ?_⟩
    refine fun d hd => ?_
    have sd := same_new (o := .dT []) hd
    have hus1 := sd _ _ hus
    have hc1 := sd _ _ hc
    have len : (rs.zip cs).length = cs.length := by rw [List.length_zip, he, Nat.min_self]
    refine ⟨_, rfl, _, rfl, _, _, _, _, _, _, _, _, rfl, src_seq (b := true) hus1, src_seq (b := true) hc1, ?_⟩
    refine for_it walkG (fun i σ H' => ∃ (v3 v4 v5 : Option V), σ = [some (.ref a), some (.ref c), some (.ref d), v3, v4, v5] ∧ Same H H' ∧ H' d = some (.dT (kvsN (((rs.zip cs).take i).foldl (fun T e => rowT T (adjs e.1) e.2) []))) ∧ (((rs.zip cs).take i).foldl (fun T e => rowT T (adjs e.1) e.2) []).length ≤ i * 1000)
      ⟨none, none, none, rfl, sd, upd_same, Nat.zero_le _⟩ (fun i σ H' _ ⟨_, _, _, _, sa, _⟩ => ⟨sa _ _ hus, sa _ _ hc⟩) ?_ ?_
    · rintro i x σ H1 H2 hi ⟨v3, v4, v5, rfl, sa, hdd, hlen⟩ ⟨g, xs, rfl, hT, rfl, v1, v2, h1, h2, rfl⟩
      obtain ⟨row, hrow, b, z, rfl, hz⟩ := Paired.at hP h1
      obtain ⟨n, hn, rfl⟩ : ∃ n, cs[i]? = some n ∧ v2 = V.int (n : Int) := by
        unfold iv at h2
        rw [List.getElem?_map] at h2
        obtain ⟨n, h, e⟩ := Option.map_eq_some_iff.mp h2
        exact ⟨n, h, e.symm⟩
      have hzip : (rs.zip cs)[i]? = some (row, n) := List.getElem?_zip_eq_some.mpr ⟨hrow, hn⟩
      have hrl' := hrl row (List.mem_of_getElem? hrow)
      have hi100 : i < 100 := by have := (List.getElem?_eq_some_iff.mp hn).1; omega
      have hne : d ≠ g := ne_of_none hdd hT
      have sg := same_new (o := .tup [V.ref z, V.int (n : Int)]) hT
      have sb := sa.trans sg
      have hz2 := (hz.same sa).same sg
      have hd2 := sg _ _ hdd
      generalize hT0 : ((rs.zip cs).take i).foldl (fun T e => rowT T (adjs e.1) e.2) [] = T0 at hd2 hlen
      have hstep : ((rs.zip cs).take (i + 1)).foldl (fun T e => rowT T (adjs e.1) e.2) [] = rowT T0 (adjs row) n := by
        rw [take_succ_of hzip, List.foldl_append, hT0]; rfl
      have hg3 : (upd H1 g (.tup [V.ref z, V.int (n : Int)])) g = some (.tup [V.ref z, V.int (n : Int)]) := upd_same
      generalize upd H1 g (.tup [V.ref z, V.int (n : Int)]) = H3 at sb hz2 hd2 hg3 ⊢
      refine ⟨g, _, rfl, SqT.of hg3, rfl, _, _, rfl, _, _, rfl, rfl, ?_⟩
      refine ⟨_, rfl, _, rfl, 1, rfl, slSeq_from1 hz2 fun H4 qa s4 hq => ?_⟩
      have hz4 := hz2.same s4
      have hd4 := s4 _ _ hd2
      refine ⟨_, _, _, _, _, _, _, _, rfl, src_seq hz4, src_seq hq, ?_⟩
      have hn2 : min (iv row).length ((iv row).drop 1).length = (adjs row).length := by
        unfold adjs
        rw [List.length_zip, iv_len, List.length_drop, iv_len, List.length_tail]
      have hal : (adjs row).length ≤ row.length := by unfold adjs; rw [List.length_zip]; exact Nat.min_le_left _ _
      rw [hn2]
      refine for_it walkG (fun j σ H' => ∃ v5 : Option V, σ = [some (.ref a), some (.ref c), some (.ref d), some (.ref z), some (.int (n : Int)), v5] ∧ Same H H' ∧ SeqAt b H' z (iv row) ∧ SeqAt b H' qa ((iv row).drop 1) ∧ H' d = some (.dT (kvsN (rowT T0 ((adjs row).take j) n))))
        ⟨v5, rfl, sb.trans s4, hz4, hq, hd4⟩ (fun j σ H' _ ⟨_, _, _, h1, h2, _⟩ => ⟨h1, h2⟩) ?_ ?_
      · rintro j x σ H5 H6 hj ⟨w5, rfl, sc, hz5, hq5, hd5⟩ ⟨Tt, ys, rfl, hTt, rfl, u1, u2, h1, h2, rfl⟩
        obtain ⟨n1, hn1, rfl⟩ := iv_get h1
        have h2' : (iv row)[j + 1]? = some u2 := by rw [List.getElem?_drop] at h2; rw [Nat.add_comm]; exact h2
        obtain ⟨n2, hn2', rfl⟩ := iv_get h2'
        have hadj : (adjs row)[j]? = some (n1, n2) := by
          unfold adjs
          rw [List.getElem?_zip_eq_some]; exact ⟨hn1, by rw [List.getElem?_tail]; exact hn2'⟩
        have st := same_new (o := .tup [V.int (n1 : Int), V.int (n2 : Int)]) hTt
        have hT6 : (upd H5 Tt (.tup [V.int (n1 : Int), V.int (n2 : Int)])) Tt = some (.tup ((pkey (n1, n2)).map kV)) := upd_same
        have hd6 := st _ _ hd5
        have hz6 := hz5.same st
        have hq6 := hq5.same st
        have sc6 := sc.trans st
        generalize upd H5 Tt (.tup [V.int (n1 : Int), V.int (n2 : Int)]) = H6 at st hT6 hd6 hz6 hq6 sc6 ⊢
        generalize hT1 : rowT T0 ((adjs row).take j) n = T1 at hd6
        have hlen1 : T1.length ≤ i * 1000 + j := by
          rw [← hT1]
          have := rowT_len n ((adjs row).take j) T0
          rw [List.length_take] at this; omega
        have hj' : j < row.length := by omega
        have hstep2 : rowT T0 ((adjs row).take (j + 1)) n = addT T1 (n1, n2) n := by
          rw [take_succ_of hadj, ← hT1]
          unfold rowT
          rw [List.foldl_append]; rfl
        have hg : DGet H6 d (.ref Tt) (valV (kvsN T1) (pkey (n1, n2))) := DGet.t hd6 hT6
        have ho : (valV (kvsN T1) (pkey (n1, n2))).getD (V.int 0) = V.int (getT T1 (n1, n2) : Int) := by
          rw [kvsN_get]
          by_cases m : (n1, n2) ∈ T1.map (·.1)
          · rw [if_pos m]; rfl
          · rw [if_neg m, getT_none m]; rfl
        have hput : DPut H6 d (.ref Tt) (V.int ((getT T1 (n1, n2) : Int) + (n : Int))) (upd H6 d (.dT (kvsN (addT T1 (n1, n2) n)))) := by
          have h := DPut.t (v := V.int ((getT T1 (n1, n2) + n : Nat) : Int)) hd6 hT6 (by unfold kvsN; rw [List.length_map]; exact Nat.lt_of_lt_of_le (show T1.length < 200000 by omega) (by rw [sizeLine_eq]; decide))
          rw [kvsN_put, Int.natCast_add] at h
          exact h
        refine ⟨_, rfl, d, rfl, .inr ⟨_, .inl hd6⟩, _, rfl, _, hg, _, rfl, _, _, ho, rfl, _, rfl, _, rfl, d, _, rfl, hput, ?_⟩
        have ne : ∀ {b' : Bool} {y : Addr} {xs : List V}, SeqAt b' H6 y xs → SeqAt b' (upd H6 d (.dT (kvsN (addT T1 (n1, n2) n)))) y xs := fun {b' y xs} h => by
          cases b' with
          | true => exact (upd_ne (ne_of h hd6 (by intro z; cases z))).trans h
          | false => exact (upd_ne (ne_of h hd6 (by intro z; cases z))).trans h
        exact ⟨_, rfl, Same.put sc6 hd, ne hz6, ne hq6, by rw [hstep2]; exact upd_same⟩
      · rintro σ H5 ⟨w5, rfl, sc, hz5, hq5, hd5⟩
        rw [List.take_length] at hd5
        refine ⟨_, _, _, rfl, sc, by rw [hstep]; exact hd5, ?_⟩
        rw [hstep]
        have := rowT_len n (adjs row) T0
        omega
    rintro σ H1 ⟨v3, v4, v5, rfl, sa, hdd, hlen⟩
    have len2 : min us.length (iv cs).length = (rs.zip cs).length := by rw [hP.length, iv_len, List.length_zip]
    rw [len2, List.take_length] at hdd
    refine ⟨_, rfl, .inr (.inr (.inl ⟨rfl, .inr ⟨_, hdd⟩⟩)), d, _, rfl, rfl, hdd, fun p hp => ?_⟩
    have sp := same_new (o := DX.itemsO p d) hp
    refine ⟨p, d, _, rfl, upd_same, sp _ _ hdd, fun H2 D us2 k2 hDn hD hP2 => ?_⟩
    have s2 := (sa.trans sp).trans k2
    refine ⟨hTb.ext s2, fun fl cl H3 s3 hcl hfl => ?_⟩
    have hP3 : Paired (EntV H3) us2 ((totL rs cs).map toEnt) := paired_maps (f := fun e : Tot => ((pkey e.1, V.int (e.2 : Int)) : List Key × V)) (fun u e ⟨a, g, e1, e2, e3⟩ => ⟨a, g, e1, s3.tup e2, s3.tup e3⟩) hP2
    refine ⟨D, fl, cl, _, _, _, _, _, _, _, _, _, us2, _, rfl, rfl, hfl, hcl, s3.lst hD, hP3, fun us' es' D2 hP' hperm hsort hD2 => ?_⟩
    have s4 := (LSame.of hTb s2).trans (s3.new (o := .lst us') hD2)
    obtain rfl := srtT_of hperm hsort
    have sT : SameT H3 (upd H3 D2 (.lst us')) := fun b xs e => keep_new hD2 b _ e
    have hPz : Paired (EntV (upd H3 D2 (.lst us'))) us' ((srtT (totL rs cs)).map toEnt) := Paired.mapP hP' fun _ _ h => EntV.same sT h
    exact q _ D2 us' s4 (((LSame.of hTb s2).trans s3).free hD2) upd_same (show Paired (TotV _) us' (srtT (totL rs cs)) from paired_unmap (f := toEnt) hPz)
end
end RJ
end

section
set_option maxRecDepth 100000
set_option maxHeartbeats 4000000
namespace RJ
open PySem PySem.Spec PyProof.Rows L2
abbrev s_next_pair : Stmt := top 34
abbrev N_next_pair : List Str := ["totals", "texts", "pair", "total"]
theorem sc_next_pair : FnScope N_next_pair ["totals", "texts"] (C8.fnScope s_next_pair) := C8.fnScope_by (by decide +kernel)
abbrev s_learn : Stmt := top 35
abbrev N_learn : List Str := ["alphabet", "corpus", "many", "empty", "rows", "counts", "texts", "pairs", "pair", "text", "_", "row"]
theorem sc_learn : FnScope N_learn ["alphabet", "corpus", "many"] (C8.fnScope s_learn) := C8.fnScope_by (by decide +kernel)
/-! ### two neighbors in a cut may be joined -/
theorem adj_at : ∀ {R : List Nat} {p : Nat × Nat}, p ∈ adjs R → ∃ i, (R.drop i).take 2 = [p.1, p.2]
  | [], p, h => by rw [adjs_nil] at h; cases h
  | [a], p, h => by rw [adjs_one] at h; cases h
  | a :: b :: t, p, h => by
    rw [adjs_cons2] at h
    rcases List.mem_cons.mp h with e | h
    · exact ⟨0, by rw [e]; rfl⟩
    · obtain ⟨i, hi⟩ := adj_at h
      exact ⟨i + 1, hi⟩
theorem adj_drop {q : Nat × Nat} : ∀ (i : Nat) (l : List Nat), q ∈ adjs (l.drop i) → q ∈ adjs l
  | 0, l, h => h
  | i + 1, [], h => by rw [List.drop_nil] at h; exact h
  | i + 1, x :: l, h => mem_adjs_cons (adj_drop i l h)
theorem adj_take {q : Nat × Nat} (k : Nat) (l : List Nat) (h : q ∈ adjs (l.take k)) : q ∈ adjs l := by
  have := adjs_sub_left (v := l.drop k) h
  rwa [List.take_append_drop] at this
theorem adj_ok {al : List Nat} (hnd : al.Nodup) {ps : List (Nat × Nat)} (h : Proper al ps) {t : List Nat} (ht : ∀ c ∈ t, c ∈ al) {p : Nat × Nat} (hp : p ∈ adjs (cutL al.length ps (lets al t))) (hl : ((textsOf al ps).getD p.1 []).length + ((textsOf al ps).getD p.2 []).length ≤ 40) : okP al (textsOf al ps) ps p := by
  obtain ⟨R, hR⟩ : ∃ R, R = cutL al.length ps (lets al t) := ⟨_, rfl⟩
  have hin : ∀ x ∈ R, x < al.length + ps.length := by rw [hR]; exact cut_lt ht
  have htx : textR (textsOf al ps) R = t := by rw [hR]; exact text_cut h.wf ht
  rw [← hR] at hp
  obtain ⟨i, hi⟩ := adj_at hp
  have hsub : ∀ x ∈ [p.1, p.2], x < al.length + ps.length := fun x hx => hin x (by rw [← hi] at hx; exact List.mem_of_mem_drop (List.mem_of_mem_take hx))
  have hc0 : cutL al.length ps (Dn al.length ps 0 R) = R := by rw [Dn_texts hnd h hin, htx, ← hR]
  have hc : cutL al.length ps (Dn al.length ps 0 [p.1, p.2]) = [p.1, p.2] := (cut_row_iff (h.good hnd) hsub).mpr fun q hq => (cut_row_iff (h.good hnd) hin).mp hc0 q (adj_drop i R (adj_take 2 _ (by rw [hi]; exact hq)))
  rw [Dn_texts hnd h hsub] at hc
  have et : textR (textsOf al ps) [p.1, p.2] = (textsOf al ps).getD p.1 [] ++ (textsOf al ps).getD p.2 [] := by rw [textR_cons, textR_cons]; show _ ++ (_ ++ []) = _; rw [List.append_nil]
  rw [et] at hc
  refine ⟨?_, ?_, by rw [List.length_append]; exact hl, hc⟩
  · rw [textsOf_len]; exact hsub _ (List.mem_cons_self ..)
  · rw [textsOf_len]; exact hsub _ (List.mem_cons_of_mem _ (List.mem_cons_self ..))
/-! ### learning -/
theorem addT_mem {T : List Tot} {p : Nat × Nat} {c : Nat} {e : Tot} (h : e ∈ addT T p c) : e.1 = p ∨ e.1 ∈ T.map (·.1) := by
  unfold addT at h
  split at h
  · obtain ⟨e', he', rfl⟩ := List.mem_map.mp h
    split
    · rename_i hm; exact .inl hm
    · exact .inr (List.mem_map.mpr ⟨e', he', rfl⟩)
  · rcases List.mem_append.mp h with z | z
    · exact .inr (List.mem_map.mpr ⟨e, z, rfl⟩)
    · rw [List.mem_singleton.mp z]; exact .inl rfl
theorem rowT_mem {c : Nat} {e : Tot} : ∀ {l : List (Nat × Nat)} {T : List Tot}, e ∈ rowT T l c → e.1 ∈ l ∨ e.1 ∈ T.map (·.1)
  | [], T, h => .inr (List.mem_map.mpr ⟨e, h, rfl⟩)
  | p :: l, T, h => by
    rcases rowT_mem (l := l) (T := addT T p c) h with z | z
    · exact .inl (List.mem_cons_of_mem _ z)
    · obtain ⟨e', he', e1⟩ := List.mem_map.mp z
      rcases addT_mem he' with w | w
      · exact .inl (by rw [← e1, w]; exact List.mem_cons_self ..)
      · exact .inr (e1 ▸ w)
theorem totL_mem {rs : List (List Nat)} {cs : List Nat} {e : Tot} (h : e ∈ totL rs cs) : ∃ r ∈ rs, e.1 ∈ adjs r := by
  have gen : ∀ (l : List (List Nat × Nat)) (T : List Tot), e ∈ l.foldl (fun T e => rowT T (adjs e.1) e.2) T → (∃ r ∈ l, e.1 ∈ adjs r.1) ∨ e.1 ∈ T.map (·.1) := by
    intro l
    induction l with
    | nil => exact fun T h => .inr (List.mem_map.mpr ⟨e, h, rfl⟩)
    | cons x l ih =>
      intro T h
      rcases ih (rowT T (adjs x.1) x.2) h with ⟨r, hr, h1⟩ | h1
      · exact .inl ⟨r, List.mem_cons_of_mem _ hr, h1⟩
      · obtain ⟨e', he', e1⟩ := List.mem_map.mp h1
        rcases rowT_mem he' with z | z
        · exact .inl ⟨x, List.mem_cons_self .., e1 ▸ z⟩
        · exact .inr (e1 ▸ z)
  rcases gen _ _ h with ⟨r, hr, h1⟩ | h1
  · exact ⟨r.1, (List.of_mem_zip (show (r.1, r.2) ∈ rs.zip cs from hr)).1, h1⟩
  · cases h1
/-- what is learnt next -/
def nextP (T : List Tot) (ts : List (List Nat)) : Option (Nat × Nat) := match T with
  | [] => none
  | e :: _ => if e.2 < 2 ∨ 40 < (ts.getD e.1.1 []).length + (ts.getD e.1.2 []).length then none else some e.1
def cutsOf (al : List Nat) (ps : List (Nat × Nat)) (co : List (List Nat × Nat)) : List (List Nat) := co.map fun e => cutL al.length ps (lets al e.1)
def nextL (al : List Nat) (co : List (List Nat × Nat)) (ps : List (Nat × Nat)) : Option (Nat × Nat) := nextP (srtT (totL (cutsOf al ps co) (co.map (·.2)))) (textsOf al ps)
def lrn (al : List Nat) (co : List (List Nat × Nat)) : Nat → List (Nat × Nat)
  | 0 => []
  | n + 1 => if (lrn al co n).length < n then lrn al co n else match nextL al co (lrn al co n) with
    | none => lrn al co n
    | some p => lrn al co n ++ [p]
theorem lrn_len (al : List Nat) (co : List (List Nat × Nat)) : ∀ n, (lrn al co n).length ≤ n
  | 0 => Nat.le_refl _
  | n + 1 => by
    have h := lrn_len al co n
    show (if (lrn al co n).length < n then lrn al co n else match nextL al co (lrn al co n) with | none => lrn al co n | some p => lrn al co n ++ [p]).length ≤ n + 1
    split
    · omega
    · split
      · omega
      · rw [List.length_append, List.length_singleton]; omega
theorem lrn_next {al : List Nat} {co : List (List Nat × Nat)} {n : Nat} {p : Nat × Nat} (hl : (lrn al co n).length = n) (hp : nextL al co (lrn al co n) = some p) : lrn al co (n + 1) = lrn al co n ++ [p] := by
  show (if (lrn al co n).length < n then lrn al co n else match nextL al co (lrn al co n) with | none => lrn al co n | some p => lrn al co n ++ [p]) = _
  rw [if_neg (by omega), hp]
theorem lrn_stop {al : List Nat} {co : List (List Nat × Nat)} {n : Nat} (hl : (lrn al co n).length = n) (hp : nextL al co (lrn al co n) = none) : ∀ k, lrn al co (n + k) = lrn al co n
  | 0 => rfl
  | k + 1 => by
    have ih := lrn_stop hl hp k
    show (if (lrn al co (n + k)).length < n + k then lrn al co (n + k) else match nextL al co (lrn al co (n + k)) with | none => lrn al co (n + k) | some p => lrn al co (n + k) ++ [p]) = _
    rw [ih]
    split
    · rfl
    · rw [hp]
def CorpOk (al : List Nat) (co : List (List Nat × Nat)) : Prop := co.length ≤ 100 ∧ ∀ e ∈ co, (∀ c ∈ e.1, c ∈ al) ∧ e.1.length ≤ 1000
theorem srtT_mem {T : List Tot} {e : Tot} : e ∈ srtT T ↔ e ∈ T := (List.mergeSort_perm T _).mem_iff
theorem nextP_ok {al : List Nat} (hnd : al.Nodup) {co : List (List Nat × Nat)} (hco : CorpOk al co) {ps : List (Nat × Nat)} (h : Proper al ps) {p : Nat × Nat} (hp : nextL al co ps = some p) : okP al (textsOf al ps) ps p := by
  unfold nextL nextP at hp
  split at hp
  · cases hp
  · rename_i e T hT
    split at hp
    · cases hp
    · rename_i hn
      obtain rfl := Option.some.inj hp
      have he : e ∈ totL (cutsOf al ps co) (co.map (·.2)) := srtT_mem.mp (by rw [hT]; exact List.mem_cons_self ..)
      obtain ⟨r, hr, ha⟩ := totL_mem he
      obtain ⟨x, hx, rfl⟩ := List.mem_map.mp hr
      exact adj_ok hnd h (hco.2 x hx).1 ha (by omega)
theorem lrn_proper {al : List Nat} (hnd : al.Nodup) {co : List (List Nat × Nat)} (hco : CorpOk al co) : ∀ n, Proper al (lrn al co n)
  | 0 => Proper.nil al
  | n + 1 => by
    have h := lrn_proper hnd hco n
    show Proper al (if (lrn al co n).length < n then lrn al co n else match nextL al co (lrn al co n) with | none => lrn al co n | some p => lrn al co n ++ [p])
    split
    · exact h
    · split
      · exact h
      · rename_i p hp
        exact h.snoc (nextP_ok hnd hco h hp)
end RJ
end

section
set_option maxRecDepth 100000
set_option maxHeartbeats 8000000
namespace RJ
open PySem PySem.Spec PyProof.Rows L2
/-- a text and its count -/
def CEnt (H : Hp) (v : V) (e : List Nat × Nat) : Prop := ∃ g, v = .ref g ∧ H g = some (.tup [.str (S e.1), .int (e.2 : Int)])
theorem CEnt.same {H H' : Hp} {v : V} {e : List Nat × Nat} (s : SameT H H') (h : CEnt H v e) : CEnt H' v e := by
  obtain ⟨g, h1, h2⟩ := h
  exact ⟨g, h1, s _ _ h2⟩
/-- a corpus, as a list or a tuple -/
def CorpT (b : Bool) (H : Hp) (a : Addr) (co : List (List Nat × Nat)) : Prop := ∃ vs, SeqAt b H a vs ∧ Paired (CEnt H) vs co
theorem CorpT.same {b : Bool} {H H' : Hp} {a : Addr} {co : List (List Nat × Nat)} (h : CorpT b H a co) (s : Same H H') : CorpT b H' a co := by
  obtain ⟨vs, h1, h2⟩ := h
  exact ⟨vs, h1.same s, Paired.mapP h2 fun _ _ q => CEnt.same (Same.t s) q⟩
theorem CorpT.lam {Pt : Addr} {qt : Str} {b : Bool} {H H' : Hp} {a : Addr} {co : List (List Nat × Nat)} (h : CorpT b H a co) (s : LSame Pt qt H H') : CorpT b H' a co := by
  obtain ⟨vs, h1, h2⟩ := h
  exact ⟨vs, s.seq h1, Paired.mapP h2 fun _ _ q => CEnt.same s.tt q⟩
theorem JoinsAt.lam {Pt : Addr} {qt : Str} {C y : Addr} {H H' : Hp} {al : List Nat} {ps : List (Nat × Nat)} (h : JoinsAt C H y al ps) (s : LSame Pt qt H H') : JoinsAt C H' y al ps := by
  obtain ⟨dx, u, tx, d, e, ws, h1, h2, h3, h4, h5, h6⟩ := h
  exact ⟨dx, u, tx, d, e, ws, s.o h1 (fun _ z => by cases z), s.tup h2, h3.same s.tt, s.lst h4, s.dT h5, s.dK h6⟩
def TupR (H : Hp) (v : V) (row : List Nat) : Prop := ∃ z, v = .ref z ∧ H z = some (.tup (iv row))
theorem TupR.same {H H' : Hp} {v : V} {row : List Nat} (s : SameT H H') (h : TupR H v row) : TupR H' v row := by
  obtain ⟨z, h1, h2⟩ := h
  exact ⟨z, h1, s _ _ h2⟩
theorem TupR.sq {H : Hp} {v : V} {row : List Nat} (h : TupR H v row) : RowSq H v row := by
  obtain ⟨z, h1, h2⟩ := h
  exact ⟨false, z, h1, h2⟩
/-- a list that is not D -/
def LstN (D : Addr) (H : Hp) (v : V) (row : List Nat) : Prop := ∃ z, v = .ref z ∧ z ≠ D ∧ H z = some (.lst (iv row))
def sp_countsT : Sp := fun vs H Q _ => ∃ (b : Bool) (a : Addr) (co : List (List Nat × Nat)), vs = [.ref a] ∧ CorpT b H a co ∧ co.length ≤ 100 ∧ ∀ H' q, Same H H' → H q = none → H' q = some (.lst (iv (co.map (·.2)))) → Q (.ref q) H'
def sp_neighbors (C Pt : Addr) : Sp := fun vs H Q _ => ∃ (p a : Addr) (b : Bool) (co : List (List Nat × Nat)) (al : List Nat) (ps : List (Nat × Nat)), vs = [.ref p, .ref a] ∧ JoinsAt C H p al ps ∧ WF al.length ps ∧ al.length ≤ 1000 ∧ CorpT b H a co ∧ CorpOk al co ∧ LamX.TabS H Pt qLam ∧
  ∀ H' z us, LSame Pt qLam H H' → H' z = some (.tup us) → Paired (TotV H') us (srtT (totL (cutsOf al ps co) (co.map (·.2)))) → Q (.ref z) H'
def PairV (H : Hp) (v : V) : Option (Nat × Nat) → Prop
  | none => v = .non
  | some p => ∃ g, v = .ref g ∧ H g = some (.tup [.int (p.1 : Int), .int (p.2 : Int)])
theorem PairV.same {H H' : Hp} {v : V} {o : Option (Nat × Nat)} (s : SameT H H') (h : PairV H v o) : PairV H' v o := by
  cases o with
  | none => exact h
  | some p => obtain ⟨g, e, hg⟩ := h; exact ⟨g, e, s _ _ hg⟩
def sp_nextp : Sp := fun vs H Q _ => ∃ (a x : Addr) (us : List V) (T : List Tot) (ts : List (List Nat)), vs = [.ref a, .ref x] ∧ H a = some (.lst us) ∧ Paired (TotV H) us T ∧ H x = some (.lst (strV ts)) ∧ (∀ t ∈ ts, t.length ≤ 40) ∧ (∀ e ∈ T, e.1.1 < ts.length ∧ e.1.2 < ts.length) ∧
  ∀ v, PairV H v (nextP T ts) → Q v H
def sp_learn (C Pt : Addr) : Sp := fun vs H Q _ => ∃ (a : Addr) (b : Bool) (co : List (List Nat × Nat)) (al : List Nat) (many : Nat), vs = [.str (S al), .ref a, .int (many : Int)] ∧ alOk al = true ∧ al.Nodup ∧ al.length ≤ 30 ∧ CorpT b H a co ∧ CorpOk al co ∧ many ≤ 100 ∧ LamX.TabS H Pt qLam ∧
  ∀ H' y, LSame Pt qLam H H' → JoinsAt C H' y al (lrn al co many) → Q (.ref y) H'
section
variable {P : Program} {w : World} {K : PySem.W.Frag} {mg : Str → Option Value} {base : Heap}
theorem ok_countsT {f : Addr} {fd : FuncData} (F : C8.Fun K "counts_of" "counts_of" s_counts_of f fd) (T : Txt K mg) : FnOk P w K mg base C8.CX0 1 f fd ["corpus"] sp_countsT := by
  refine C8.fn0 F sc_counts_of (fun vs H Q E h => ?_) (fun cdv A outer s H vs Q E hr h => ?_)
  · obtain ⟨b, a, co, rfl, _⟩ := h; rfl
  · obtain ⟨b, a, co, rfl, hc, hl, q⟩ := h
    refine ⟨_, (pss_one (ps_ret (pe_lc (own := [("_", 1), ("count", 2)]) (g := gTup K 2 (gCons (gName 1) (gCons (gName 2) (gNil)))) (tt := tYes) rfl sc_counts_of.nd (pi_seq (pv 0)) (blkOk_by (N := N_counts_of) (sc := C8.fnScope s_counts_of) (by decide +kernel)) (fun _ _ _ _ _ => (pg_tup rfl (pgs_cons (pg_name (i := 1) sc_counts_of.nd rfl (Or.inl rfl)) (pgs_cons (pg_name (i := 2) sc_counts_of.nd rfl (Or.inl rfl)) pgs_nil)))) (fun _ _ _ _ _ => pts_nil) (fun _ _ _ _ _ => (pv 2))))), ?_⟩
    obtain ⟨us, hus, hP⟩ := id hc
    refine ⟨_, rfl, b, a, us, rfl, hus, fun D hD => lc_it walk_seq (fun i H' => Same H H' ∧ H' D = some (.lst (iv ((co.take i).map (·.2))))) ⟨same_new hD, upd_same⟩ (fun i H' _ ⟨sa, _⟩ => hus.same sa) ?_ ?_⟩
    · rintro i x H1 H2 hi ⟨sa, hd⟩ ⟨rfl, hx⟩
      obtain ⟨e, he, g, rfl, hg⟩ := Paired.at hP hx
      refine ⟨g, _, rfl, SqT.of (sa _ _ hg), rfl, _, _, rfl, _, _, rfl, rfl, rfl, _, rfl, _, hd, ?_, Same.put sa hD, ?_⟩
      · rw [iv_len, List.length_map, List.length_take]; exact small1000 (by omega)
      · rw [upd_same, iv_snoc, map_take_succ he]
    · rintro H1 ⟨sa, hd⟩
      rw [hP.length, List.take_length] at hd
      exact q H1 D sa hD hd
theorem ok_nextp {f : Addr} {fd : FuncData} (F : C8.Fun K "next_pair" "next_pair" s_next_pair f fd) (T : Txt K mg) : FnOk P w K mg base C8.CX0 1 f fd ["totals", "texts"] sp_nextp := by
  refine C8.fn0 F sc_next_pair (fun vs H Q E h => ?_) (fun cdv A outer s H vs Q E hr h => ?_)
  · obtain ⟨a, x, us, T', ts, rfl, _⟩ := h; rfl
  · obtain ⟨a, x, us, T', ts, rfl, ha, hP, hx, hts, hin, q⟩ := h
    have q0 : nextP T' ts = none → Q .non H := fun h => q .non (by rw [h]; rfl)
    have q1 : ∀ p g, nextP T' ts = some p → H g = some (.tup [.int (p.1 : Int), .int (p.2 : Int)]) → Q (.ref g) H := fun p g h hg => q (.ref g) (by rw [h]; exact ⟨g, rfl, hg⟩)
    refine ⟨_, (pss_cons (ps_if (pt_not (pt_truth (pv 0) (fun _ => rfl))) (pss_one (ps_ret pe_non)) pss_nil)
      (pss_cons (ps_asg (pe_ix ix_list (pv 0) pe_int (fun _ _ => rfl)) (pg_tup rfl (pgs_cons (pg_name (i := 2) sc_next_pair.nd rfl (Or.inl rfl)) (pgs_cons (pg_name (i := 3) sc_next_pair.nd rfl (Or.inl rfl)) pgs_nil))))
      (pss_cons (ps_if (PW.pt (pw_or (pt_cmpR op_lt (pv 3) (C8.pe_gc rfl T.c_LOWEST_TOTAL) (nomark _)) (pw_or1 (pt_cmpR op_gt (pe_callB call_len_str (by rfl) T.b_len PySem.boot_len (pa_cons (pe_op op_add_str (pe_ix ix_list (pv 1) (pe_ix ix_tup (pv 2) pe_int (fun _ _ => rfl)) (fun _ _ => rfl)) (pe_ix ix_list (pv 1) (pe_ix ix_tup (pv 2) pe_int (fun _ _ => rfl)) (fun _ _ => rfl))) pa_nil)) (C8.pe_gc rfl T.c_MOST_SIGNS_OF_PIECE) (nomark _))))) (pss_one (ps_ret pe_non)) pss_nil)
      (pss_one (ps_ret (pv 2)))))), ?_⟩
    cases T' with
    | nil =>
      cases hP
      exact ⟨_, rfl, false, .inl ⟨_, SqL.of ha, rfl⟩, iteT (q0 rfl)⟩
    | cons e T' =>
      obtain ⟨u, us', rfl, ⟨d, g, rfl, h1, h2⟩, hP'⟩ : ∃ u us', us = u :: us' ∧ TotV H u e ∧ Paired (TotV H) us' T' := by
        cases hP with
        | cons h t => exact ⟨_, _, rfl, h, t⟩
      obtain ⟨i1, i2⟩ := hin e (List.mem_cons_self ..)
      have l1 : (ts.getD e.1.1 []).length ≤ 40 := getD_short hts _
      have l2 : (ts.getD e.1.2 []).length ≤ 40 := getD_short hts _
      refine ⟨_, rfl, true, .inl ⟨_, SqL.of ha, rfl⟩, iteF ?_⟩
      refine ⟨_, rfl, a, _, _, _, rfl, rfl, SqL.of ha, (show atI (V.ref d :: us') ((0 : Nat) : Int) = some (V.ref d) from atI_nat rfl), ?_⟩
      refine ⟨d, _, rfl, SqT.of h1, rfl, _, _, rfl, _, _, rfl, rfl, ?_⟩
      refine ⟨_, rfl, _, _, rfl, rfl, _, rfl, ?_⟩
      have none_ : (e.2 < 2 ∨ 40 < (ts.getD e.1.1 []).length + (ts.getD e.1.2 []).length) → nextP (e :: T') ts = none := fun h => by unfold nextP; exact if_pos h
      obtain ⟨b1, hb1⟩ : ∃ b : Bool, b = decide ((e.2 : Int) < 2) := ⟨_, rfl⟩
      show (if decide ((e.2 : Int) < 2) = true then _ else _)
      rw [← hb1]
      cases b1 with
      | true => exact iteT (iteT (q0 (none_ (.inl (by have := of_decide_eq_true hb1.symm; omega)))))
      | false =>
        have n1 : ¬ e.2 < 2 := fun h => by have := of_decide_eq_false hb1.symm; omega
        refine iteF ⟨_, rfl, _, rfl, g, _, _, _, rfl, rfl, SqT.of h2, rfl, x, _, _, _, rfl, rfl, SqL.of hx, atI_nat (strV_at i1), _, rfl, _, rfl, g, _, _, _, rfl, rfl, SqT.of h2, rfl, x, _, _, _, rfl, rfl, SqL.of hx, atI_nat (strV_at i2), _, _, rfl, rfl, by rw [S_len, S_len]; exact small_le (by omega), ?_⟩
        rw [S_cat]
        refine ⟨_, rfl, by rw [S_len, List.length_append]; exact small_le (by omega), _, _, rfl, rfl, _, rfl, ?_⟩
        rw [S_len, List.length_append]
        obtain ⟨b2, hb2⟩ : ∃ b : Bool, b = decide ((40 : Int) < ((((ts.getD e.1.1 []).length + (ts.getD e.1.2 []).length : Nat)) : Int)) := ⟨_, rfl⟩
        show (if decide ((40 : Int) < ((((ts.getD e.1.1 []).length + (ts.getD e.1.2 []).length : Nat)) : Int)) = true then _ else _)
        rw [← hb2]
        cases b2 with
        | true => exact iteT (q0 (none_ (.inr (by have := of_decide_eq_true hb2.symm; omega))))
        | false =>
          have n2 : ¬ 40 < (ts.getD e.1.1 []).length + (ts.getD e.1.2 []).length := fun h => by have := of_decide_eq_false hb2.symm; omega
          exact iteF ⟨_, rfl, q1 e.1 g (by unfold nextP; exact if_neg (fun h => h.elim n1 n2)) h2⟩
end
end RJ
end

section
set_option maxRecDepth 100000
set_option maxHeartbeats 8000000
namespace RJ
open PySem PySem.Spec PyProof.Rows L2
/-- a row that is neither x nor y -/
def RowM (x y : Addr) (H : Hp) (v : V) (row : List Nat) : Prop := ∃ b z, v = .ref z ∧ z ≠ x ∧ z ≠ y ∧ SeqAt b H z (iv row)
theorem RowM.same {x y : Addr} {H H' : Hp} {v : V} {row : List Nat} (s : Same H H') (h : RowM x y H v row) : RowM x y H' v row := by
  obtain ⟨b, z, e, n1, n2, h⟩ := h
  exact ⟨b, z, e, n1, n2, h.same s⟩
theorem RowM.lam {Pt : Addr} {qt : Str} {x y : Addr} {H H' : Hp} {v : V} {row : List Nat} (s : LSame Pt qt H H') (h : RowM x y H v row) : RowM x y H' v row := by
  obtain ⟨b, z, e, n1, n2, h⟩ := h
  exact ⟨b, z, e, n1, n2, s.seq h⟩
theorem RowM.put1 {x y : Addr} {H : Hp} {v : V} {row : List Nat} {o : HO} (h : RowM x y H v row) : RowM x y (upd H x o) v row := by
  obtain ⟨b, z, e, n1, n2, h⟩ := h
  refine ⟨b, z, e, n1, n2, ?_⟩
  cases b with
  | true => exact (upd_ne n1).trans h
  | false => exact (upd_ne n1).trans h
theorem RowM.put2 {x y : Addr} {H : Hp} {v : V} {row : List Nat} {o : HO} (h : RowM x y H v row) : RowM x y (upd H y o) v row := by
  obtain ⟨b, z, e, n1, n2, h⟩ := h
  refine ⟨b, z, e, n1, n2, ?_⟩
  cases b with
  | true => exact (upd_ne n2).trans h
  | false => exact (upd_ne n2).trans h
theorem RowM.sq {x y : Addr} {H : Hp} {v : V} {row : List Nat} (h : RowM x y H v row) : RowSq H v row := by
  obtain ⟨b, z, e, _, _, h⟩ := h
  exact ⟨b, z, e, h⟩
/-- the state of learning: rows, counts, texts, pairs, the next pair -/
structure LrnAt (al : List Nat) (co : List (List Nat × Nat)) (H : Hp) (D cq tx pp : Addr) (v : V) (ps : List (Nat × Nat)) : Prop where
  rows : ∃ ws, H D = some (.lst ws) ∧ Paired (RowM tx pp H) ws (cutsOf al ps co)
  nD : D ≠ tx ∧ D ≠ pp
  cnt : H cq = some (.lst (iv (co.map (·.2))))
  nC : cq ≠ tx ∧ cq ≠ pp
  txt : H tx = some (.lst (strV (textsOf al ps)))
  prs : ∃ ws, H pp = some (.lst ws) ∧ PairsAt H ws ps
  nT : tx ≠ pp
  nxt : PairV H v (nextL al co ps)
theorem cutsOf_len {al : List Nat} {co : List (List Nat × Nat)} {ps : List (Nat × Nat)} (hco : CorpOk al co) : ∀ r ∈ cutsOf al ps co, r.length ≤ 1000 := fun r hr => by
  obtain ⟨e, he, rfl⟩ := List.mem_map.mp hr
  have h1 := cutL_len al.length ps (lets al e.1)
  have h2 : (lets al e.1).length = e.1.length := by rw [lets, List.length_map]
  have := (hco.2 e he).2
  omega
theorem cutsOf_snoc (al : List Nat) (co : List (List Nat × Nat)) (ps : List (Nat × Nat)) (p : Nat × Nat) : cutsOf al (ps ++ [p]) co = (cutsOf al ps co).map (pass p.1 p.2 (al.length + ps.length)) := by
  unfold cutsOf
  rw [List.map_map]
  exact List.map_congr_left fun e _ => cutL_snoc _ _ _ _
theorem next_in {al : List Nat} {co : List (List Nat × Nat)} {ps : List (Nat × Nat)} (h : WF al.length ps) (hco : CorpOk al co) : ∀ e ∈ srtT (totL (cutsOf al ps co) (co.map (·.2))), e.1.1 < (textsOf al ps).length ∧ e.1.2 < (textsOf al ps).length := fun e he => by
  obtain ⟨r, hr, ha⟩ := totL_mem (srtT_mem.mp he)
  obtain ⟨x, hx, rfl⟩ := List.mem_map.mp hr
  obtain ⟨i, hi⟩ := adj_at ha
  rw [textsOf_len]
  have hin := cut_lt (ps := ps) (hco.2 x hx).1
  have hm : ∀ z ∈ [e.1.1, e.1.2], z < al.length + ps.length := fun z hz => hin z (by rw [← hi] at hz; exact List.mem_of_mem_drop (List.mem_of_mem_take hz))
  exact ⟨hm _ (List.mem_cons_self ..), hm _ (List.mem_cons_of_mem _ (List.mem_cons_self ..))⟩
section
variable {P : Program} {w : World} {K : PySem.W.Frag} {mg : Str → Option Value} {base : Heap}
theorem ok_learn {f C Pt : Addr} {fd : FuncData} (F : C8.Fun K "learn" "learn" s_learn f fd) (T : Txt K mg) (k_Joins : C8.Mak P w K mg base 4 "Joins" C (sp_init C) []) (c_letters_of : C8.Cal P w K mg base 2 "letters_of" (sp_letters_of C) []) (c_counts_of : C8.Cal P w K mg base 1 "counts_of" sp_countsT []) (c_totals_of : C8.Cal P w K mg base 1 "totals_of" (sp_totals Pt qLam) []) (c_next_pair : C8.Cal P w K mg base 1 "next_pair" sp_nextp []) (c_join_neighbors : C8.Cal P w K mg base 1 "join_neighbors" sp_join_neighbors []) :
    FnOk P w K mg base C8.CX0 6 f fd ["alphabet", "corpus", "many"] (sp_learn C Pt) := by
  refine C8.fn0 F sc_learn (fun vs H Q E h => ?_) (fun cdv A outer s H vs Q E hr h => ?_)
  · obtain ⟨a, b, co, al, many, rfl, _⟩ := h; rfl
  · obtain ⟨a, b, co, al, many, rfl, hok, hnd, hal, hco, hcok, hmany, hTb, q⟩ := h
    have hcl := hcok.1
    have hcin := hcok.2
    refine ⟨_, (pss_cons (ps_set (i := 3) sc_learn.nd rfl (Or.inr rfl) (C8.pe_mk k_Joins hr (by first | decide | omega) (by rfl) (pa_cons (pv 0) (pa_cons (pe_tup pa_nil) pa_nil))))
      (pss_cons (ps_setLc (own := [("text", 9), ("_", 10)]) (i := 4) (g := gTup K 2 (gCons (gName 9) (gCons (gName 10) (gNil)))) (tt := tYes) rfl sc_learn.nd rfl rfl (sw_true rfl rfl rfl (by decide +kernel)) (pi_seq (pv 1)) (blkOk_by (N := N_learn) (sc := C8.fnScope s_learn) (by decide +kernel)) (fun _ _ _ _ _ => (pg_tup rfl (pgs_cons (pg_name (i := 9) sc_learn.nd rfl (Or.inl rfl)) (pgs_cons (pg_name (i := 10) sc_learn.nd rfl (Or.inl rfl)) pgs_nil)))) (fun _ _ _ _ _ => pts_nil) (fun _ _ _ _ _ => (C8.pe_c c_letters_of hr (by first | decide | omega) (by rfl) (pa_cons (pv 3) (pa_cons (pv 9) pa_nil)))))
      (pss_cons (ps_set (i := 5) sc_learn.nd rfl (Or.inl rfl) (C8.pe_c c_counts_of hr (by first | decide | omega) (by rfl) (pa_cons (pv 1) pa_nil)))
      (pss_cons (ps_set (i := 6) sc_learn.nd rfl (Or.inr rfl) (pe_callTy (call_list_text rfl) (by rfl) T.b_list (by decide +kernel) (pa_cons (pv 0) pa_nil)))
      (pss_cons (ps_set (i := 7) sc_learn.nd rfl (Or.inl rfl) (pe_lst pa_nil))
      (pss_cons (ps_set (i := 8) sc_learn.nd rfl (Or.inr rfl) (C8.pe_c c_next_pair hr (by first | decide | omega) (by rfl) (pa_cons (C8.pe_c c_totals_of hr (by first | decide | omega) (by rfl) (pa_cons (pv 4) (pa_cons (pv 5) pa_nil))) (pa_cons (pv 6) pa_nil))))
      (pss_cons (ps_while PassesOwn.never (PW.pt (pw_and (pt_cmpR op_notN (pv 8) pe_non (nomark _)) (pw_and1 (pt_cmpR op_lt (pe_callB call_len_seq (by rfl) T.b_len PySem.boot_len (pa_cons (pv 7) pa_nil)) (pv 2) (nomark _))))) (pss_cons (ps_setLc (own := [("row", 11)]) (i := 4) (g := gName 11) (tt := tYes) rfl sc_learn.nd rfl rfl (sw_true rfl rfl rfl (by decide +kernel)) (pi_list (pv 4)) (blkOk_by (N := N_learn) (sc := C8.fnScope s_learn) (by decide +kernel)) (fun _ _ _ _ _ => (pg_name (i := 11) sc_learn.nd rfl (Or.inl rfl))) (fun _ _ _ _ _ => pts_nil) (fun _ _ _ _ _ => (C8.pe_c c_join_neighbors hr (by first | decide | omega) (by rfl) (pa_cons (pv 11) (pa_cons (pv 8) (pa_cons (pe_callB (call_len_seqK (K := K) rfl) (by rfl) T.b_len PySem.boot_len (pa_cons (pv 6) pa_nil)) pa_nil))))))
      (pss_cons (ps_expr (pe_bm PySem.F.plainAttrs_list PySem.F.slot_list_append PySem.F.type_list_append mt_append (pv 6) (pa_cons (pe_op op_add_str (pe_ix ix_list (pv 6) (pe_ix ix_tup (pv 8) pe_int (fun _ _ => rfl)) (fun _ _ => rfl)) (pe_ix ix_list (pv 6) (pe_ix ix_tup (pv 8) pe_int (fun _ _ => rfl)) (fun _ _ => rfl))) pa_nil)))
      (pss_cons (ps_expr (pe_bm PySem.F.plainAttrs_list PySem.F.slot_list_append PySem.F.type_list_append mt_append (pv 7) (pa_cons (pv 8) pa_nil)))
      (pss_one (ps_set (i := 8) sc_learn.nd rfl (Or.inr rfl) (C8.pe_c c_next_pair hr (by first | decide | omega) (by rfl) (pa_cons (C8.pe_c c_totals_of hr (by first | decide | omega) (by rfl) (pa_cons (pv 4) (pa_cons (pv 5) pa_nil))) (pa_cons (pv 6) pa_nil)))))))))
      (pss_one (ps_ret (C8.pe_mk k_Joins hr (by first | decide | omega) (by rfl) (pa_cons (pv 0) (pa_cons (pv 7) pa_nil)))))))))))), ?_⟩
    -- the empty list
    refine ⟨_, rfl, by show 0 ≤ sizeLine; decide, fun pa hpa y dx ny ndx nex => ?_⟩
    have sM : ∀ (b : Addr) (o : HO), H b = some o → b ≠ y ∧ (upd (upd (upd H pa (.tup [])) dx (.own y)) y (.ins C dx [])) b = some o := fun b o e => by
      have e1 := keep_new (o := .tup []) hpa _ _ e
      have hby := ne_of_none e1 ny
      exact ⟨hby, (upd_ne hby).trans ((upd_ne (ne_of_none e1 ndx)).trans e1)⟩
    have npa : pa ≠ y := ne_of_none upd_same ny
    have npd : pa ≠ dx := ne_of_none upd_same ndx
    refine ⟨y, pa, dx, false, al, [], [], rfl, upd_same, (upd_ne npa).trans ((upd_ne npd).trans upd_same), .nil, hok, hnd, hal, Proper.nil al, by decide, fun H1 sx hj => ⟨rfl, ?_⟩⟩
    have s1 : Same H H1 := fun b o e => sx b o (sM b o e).1 (sM b o e).2
    clear sM sx
    have hco1 := hco.same s1
    obtain ⟨us, hus, hP⟩ := id hco1
    -- rows
    refine ⟨_, rfl, b, a, us, rfl, hus, fun D hD => lc_it walk_seq (fun i H' => Same H1 H' ∧ ∃ ws, H' D = some (.lst ws) ∧ Paired (TupR H') ws (cutsOf al [] (co.take i))) ⟨same_new hD, [], upd_same, .nil⟩ (fun i H' _ ⟨sa, _⟩ => hus.same sa) ?_ ?_⟩
    · rintro i x Ha Hb hi ⟨sa, ws, hd, hPw⟩ ⟨rfl, hx⟩
      obtain ⟨e, he, g, rfl, hg⟩ := Paired.at hP hx
      obtain ⟨h1, h2⟩ := hcin e (List.mem_of_getElem? he)
      have hil : i < 100 := by have := (List.getElem?_eq_some_iff.mp he).1; omega
      refine ⟨g, _, rfl, SqT.of (sa _ _ hg), rfl, _, _, rfl, _, _, rfl, rfl, rfl, _, rfl, _, rfl, y, e.1, al, [], rfl, hj.same sa, h1, h2, fun H3 z s3 _ hz => ?_⟩
      refine ⟨ws, s3 _ _ hd, small1000 (by rw [hPw.length]; unfold cutsOf; rw [List.length_map, List.length_take]; omega), Same.put (sa.trans s3) hD, ws ++ [.ref z], upd_same, ?_⟩
      have sT := SameT.put (o := .lst (ws ++ [.ref z])) (s3 _ _ hd)
      have hz' : H3 z = some (.tup (iv (cutL al.length [] (lets al e.1)))) := hz
      unfold cutsOf
      rw [map_take_succ he]
      exact Paired.snoc ⟨z, rfl, sT _ _ hz'⟩ (Paired.mapP hPw fun _ _ h => (h.same (Same.t s3)).same sT)
    rintro H2 ⟨s2, ws, hd, hPw⟩
    rw [hP.length, List.take_length] at hPw
    have s02 : Same H H2 := s1.trans s2
    -- counts, texts, pairs
    refine ⟨_, rfl, b, a, co, rfl, hco1.same s2, hcl, fun H3 cq s3 _ hcq => ?_⟩
    refine ⟨_, rfl, S al, rfl, by rw [S_size]; exact small_le (by omega), fun tx htx => ?_⟩
    refine ⟨Nat.zero_le _, fun pp hpp => ?_⟩
    have etx : signsV (S al) = strV (textsOf al []) := by
      show (al.toArray.toList.map fun c => V.str ⟨#[c]⟩) = strV (al.map fun c => [c])
      rw [strV, List.map_map]; rfl
    rw [etx] at hpp ⊢
    have s34 := same_new (o := .lst (strV (textsOf al []))) htx
    have s45 := same_new (o := .lst []) hpp
    have ftx : (upd H3 tx (.lst (strV (textsOf al [])))) tx = some (.lst (strV (textsOf al []))) := upd_same
    have nT : tx ≠ pp := ne_of_none ftx hpp
    have ftx5 := s45 _ _ ftx
    have fpp5 : (upd (upd H3 tx (.lst (strV (textsOf al [])))) pp (.lst [])) pp = some (.lst []) := upd_same
    have s35 := s34.trans s45
    have htx0 : H tx = none := by
      cases h : H tx with
      | none => rfl
      | some o => rw [s3 _ _ (s02 _ _ h)] at htx; cases htx
    have hpp0 : H pp = none := by
      cases h : H pp with
      | none => rfl
      | some o => rw [s34 _ _ (s3 _ _ (s02 _ _ h))] at hpp; cases hpp
    have hD3 := s3 _ _ hd
    have nD : D ≠ tx ∧ D ≠ pp := ⟨ne_of_none hD3 htx, ne_of_none (s34 _ _ hD3) hpp⟩
    have nC : cq ≠ tx ∧ cq ≠ pp := ⟨ne_of_none hcq htx, ne_of_none (s34 _ _ hcq) hpp⟩
    have hPM : Paired (RowM tx pp (upd (upd H3 tx (.lst (strV (textsOf al [])))) pp (.lst []))) ws (cutsOf al [] co) := Paired.mapP hPw fun _ _ ⟨z, e, hz⟩ => by
      have hz3 := s3 _ _ hz
      exact ⟨false, z, e, ne_of_none hz3 htx, ne_of_none (s34 _ _ hz3) hpp, s35 _ _ hz3⟩
    have hD5 := s35 _ _ hD3
    have hC5 := s35 _ _ hcq
    have s05 : Same H (upd (upd H3 tx (.lst (strV (textsOf al [])))) pp (.lst [])) := (s02.trans s3).trans s35
    generalize upd (upd H3 tx (.lst (strV (textsOf al [])))) pp (.lst []) = H5 at s05 hD5 hC5 hPM fpp5 ftx5 ⊢
    clear hD3 hcq hpp htx s35 s34 s45 ftx hPw s3 hd s2 hj
    have hlen : ∀ ps, (cutsOf al ps co).length = (co.map (·.2)).length := fun ps => by unfold cutsOf; rw [List.length_map, List.length_map]
    have hcl2 : (co.map (·.2)).length ≤ 100 := by rw [List.length_map]; exact hcl
    -- the first pair
    refine ⟨_, rfl, _, rfl, D, cq, cutsOf al [] co, co.map (·.2), rfl, ⟨ws, hD5, Paired.mapP hPM fun _ _ h => h.sq⟩, hC5, hlen [], hcl2, cutsOf_len hcok, hTb.ext s05, fun H6 D6 us6 s6 _ hD6 hP6 => ?_⟩
    have sL6 := (LSame.of hTb s05).trans s6
    have st0 : ∀ v, PairV H6 v (nextL al co []) → LrnAt al co H6 D cq tx pp v [] := fun v hv => ⟨⟨ws, s6.lst hD5, Paired.mapP hPM fun _ _ h => h.lam s6⟩, nD, s6.lst hC5, nC, s6.lst ftx5, ⟨[], s6.lst fpp5, .nil⟩, nT, hv⟩
    refine ⟨_, rfl, D6, tx, us6, _, textsOf al [], rfl, hD6, hP6, s6.lst ftx5, (Proper.nil al).short, next_in (Proper.nil al).wf hcok, fun v hv => ?_⟩
    have st1 := st0 v hv
    dsimp only [gName]
    refine ⟨fun m σ H' => ∃ (D cq : Addr) (v v9 v10 v11 : Option V) (w : V) (ps : List (Nat × Nat)), σ = [some (.str (S al)), some (.ref a), some (.int (many : Int)), some (.ref y), some (.ref D), some (.ref cq), some (.ref tx), some (.ref pp), some w, v9, v10, v11] ∧ LSame Pt qLam H H' ∧ LrnAt al co H' D cq tx pp w ps ∧ Proper al ps ∧ ps = lrn al co ps.length ∧ ps.length ≤ many ∧ m = many - ps.length,
      ⟨many, D, cq, none, none, none, none, v, [], rfl, sL6, st1, Proper.nil al, rfl, Nat.zero_le _, rfl⟩, ?_⟩
    rintro m σ Ha ⟨D, cq, _, v9, v10, v11, wv, ps, rfl, sa, L, hpr, hps, hpm, rfl⟩
    obtain ⟨wp, hwp, hPp⟩ := L.prs
    have hwl : wp.length = ps.length := Paired.length hPp
    refine ⟨_, rfl, rfl, _, rfl, ?_⟩
    have hnx := L.nxt
    cases hn : nextL al co ps with
    | none =>
      rw [hn] at hnx
      obtain rfl : wv = .non := hnx
      refine iteF ?_
      have hfin : ps = lrn al co many := by
        have := lrn_stop (al := al) (co := co) (n := ps.length) (by rw [← hps]) (by rw [← hps]; exact hn) (many - ps.length)
        rw [show ps.length + (many - ps.length) = many by omega, ← hps] at this
        exact this.symm
      refine ⟨_, rfl, _, rfl, fun y2 dx2 ny2 ndx2 nex2 => ?_⟩
      have sM2 : ∀ (b : Addr) (o : HO), Ha b = some o → b ≠ y2 ∧ (upd (upd Ha dx2 (.own y2)) y2 (.ins C dx2 [])) b = some o := fun b o e => ⟨ne_of_none e ny2, (upd_ne (ne_of_none e ny2)).trans ((upd_ne (ne_of_none e ndx2)).trans e)⟩
      refine ⟨y2, pp, dx2, true, al, ps, wp, rfl, upd_same, (sM2 _ _ hwp).2, PairsAt.same hPp (fun b xs e => (sM2 b _ e).2), hok, hnd, hal, hpr, by omega, fun H2 sx hj => ⟨rfl, ?_⟩⟩
      exact q H2 y2 (sa.then fun b o e => sx b o (sM2 b o e).1 (sM2 b o e).2) (hfin ▸ hj)
    | some p =>
      rw [hn] at hnx
      obtain ⟨g, rfl, hg⟩ := hnx
      refine iteT ⟨_, rfl, pp, _, rfl, .inl (SqL.of hwp), _, rfl, _, _, rfl, rfl, _, rfl, ?_⟩
      rw [hwl]
      obtain ⟨b1, hb1⟩ : ∃ b : Bool, b = decide ((ps.length : Int) < (many : Int)) := ⟨_, rfl⟩
      show (if decide ((ps.length : Int) < (many : Int)) = true then _ else _)
      rw [← hb1]
      cases b1 with
      | false =>
        refine iteF ?_
        have hlen2 : ps.length = many := by have := of_decide_eq_false hb1.symm; omega
        have hfin : ps = lrn al co many := by rw [← hlen2]; exact hps
        refine ⟨_, rfl, _, rfl, fun y2 dx2 ny2 ndx2 nex2 => ?_⟩
        have sM2 : ∀ (b : Addr) (o : HO), Ha b = some o → b ≠ y2 ∧ (upd (upd Ha dx2 (.own y2)) y2 (.ins C dx2 [])) b = some o := fun b o e => ⟨ne_of_none e ny2, (upd_ne (ne_of_none e ny2)).trans ((upd_ne (ne_of_none e ndx2)).trans e)⟩
        refine ⟨y2, pp, dx2, true, al, ps, wp, rfl, upd_same, (sM2 _ _ hwp).2, PairsAt.same hPp (fun b xs e => (sM2 b _ e).2), hok, hnd, hal, hpr, by omega, fun H2 sx hj => ⟨rfl, ?_⟩⟩
        exact q H2 y2 (sa.then fun b o e => sx b o (sM2 b o e).1 (sM2 b o e).2) (hfin ▸ hj)
      | true =>
        have hlt : ps.length < many := by have := of_decide_eq_true hb1.symm; omega
        refine iteT ⟨fun σ H' => ∃ m', m' < many - ps.length ∧ ∃ (D cq : Addr) (v v9 v10 v11 : Option V) (w : V) (ps : List (Nat × Nat)), σ = [some (.str (S al)), some (.ref a), some (.int (many : Int)), some (.ref y), some (.ref D), some (.ref cq), some (.ref tx), some (.ref pp), some w, v9, v10, v11] ∧ LSame Pt qLam H H' ∧ LrnAt al co H' D cq tx pp w ps ∧ Proper al ps ∧ ps = lrn al co ps.length ∧ ps.length ≤ many ∧ m' = many - ps.length, fun σ' H' z => z, ?_⟩
        have hokp := nextP_ok hnd hcok hpr hn
        have hp1 : p.1 < al.length + ps.length := by have := hokp.1; rw [textsOf_len] at this; exact this
        have hnt := L.nT
        have htx := L.txt
        obtain ⟨ws, hD, hPw⟩ := L.rows
        have hwsl : ws.length = co.length := by rw [hPw.length]; unfold cutsOf; rw [List.length_map]
        have hml : (strV (textsOf al ps)).length = al.length + ps.length := by rw [strV, List.length_map, textsOf_len]
        refine ⟨_, rfl, D, rfl, ⟨_, SqL.of hD⟩, fun D2 hD2 => lc_it walk_list (fun i H' => Same Ha H' ∧ ∃ us, H' D2 = some (.lst us) ∧ Paired (fun v r => ∃ z, v = V.ref z ∧ z ≠ D2 ∧ z ≠ tx ∧ z ≠ pp ∧ H' z = some (.lst (iv r))) us (((cutsOf al ps co).take i).map (pass p.1 p.2 (al.length + ps.length)))) ⟨same_new hD2, [], upd_same, .nil⟩ (fun i H' _ ⟨s', _⟩ => SqL.of (s' _ _ hD)) ?_ ?_⟩
        · rintro i x Hb Hc hi ⟨sb, us, hus2, hPu⟩ ⟨rfl, hx⟩
          obtain ⟨row, hrow, b', z, rfl, nz1, nz2, hz⟩ := Paired.at hPw hx
          have hrl := cutsOf_len hcok row (List.mem_of_getElem? hrow)
          have hi100 : i < 100 := by omega
          refine ⟨rfl, _, rfl, _, rfl, _, rfl, tx, _, rfl, .inl (SqL.of (sb _ _ htx)), b', z, g, row, p.1, p.2, (strV (textsOf al ps)).length, rfl, hz.same sb, sb _ _ hg, by rw [hml]; omega, hrl, fun H3 q3 s3 hqn hq => ?_⟩
          have hq2 : q3 ≠ D2 := fun e => by rw [e, hus2] at hqn; cases hqn
          have hqt : q3 ≠ tx := fun e => by rw [e, sb _ _ htx] at hqn; cases hqn
          have hqp : q3 ≠ pp := fun e => by rw [e, sb _ _ hwp] at hqn; cases hqn
          refine ⟨us, s3 _ _ hus2, small1000 (by rw [hPu.length, List.length_map, List.length_take]; omega), Same.put (sb.trans s3) hD2, us ++ [.ref q3], upd_same, ?_⟩
          rw [map_take_succ hrow]
          refine Paired.snoc ⟨q3, rfl, hq2, hqt, hqp, (upd_ne hq2).trans (by rw [← hml]; exact hq)⟩ (Paired.mapP hPu fun _ _ ⟨z', e, n1, n2, n3, h⟩ => ⟨z', e, n1, n2, n3, (upd_ne n1).trans (s3 _ _ h)⟩)
        rintro Hb ⟨sb, us2, hus2, hPu⟩
        rw [hwsl, show (cutsOf al ps co).take co.length = cutsOf al ps co by rw [List.take_of_length_le]; unfold cutsOf; rw [List.length_map]; exact Nat.le_refl _, ← cutsOf_snoc] at hPu
        have nD2 : D2 ≠ tx ∧ D2 ≠ pp := ⟨Ne.symm (ne_of_none htx hD2), Ne.symm (ne_of_none hwp hD2)⟩
        have htx1 := sb _ _ htx
        have hwp1 := sb _ _ hwp
        have hg1 := sb _ _ hg
        have hC1 := sb _ _ L.cnt
        have hsh := hpr.short
        have l1 : ((textsOf al ps).getD p.1 []).length ≤ 40 := getD_short hsh _
        have l2 : ((textsOf al ps).getD p.2 []).length ≤ 40 := getD_short hsh _
        -- the new text
        refine ⟨_, rfl, .inl ⟨rfl, _, SqL.of htx1⟩, _, rfl, _, rfl, g, _, _, _, rfl, rfl, SqT.of hg1, rfl, tx, _, _, _, rfl, rfl, SqL.of htx1, atI_nat (strV_at hokp.1), _, rfl, _, rfl, g, _, _, _, rfl, rfl, SqT.of hg1, rfl, tx, _, _, _, rfl, rfl, SqL.of htx1, atI_nat (strV_at hokp.2.1), _, _, rfl, rfl, by rw [S_len, S_len]; exact small_le (by omega), tx, _, _, rfl, rfl, htx1, by rw [hml]; exact small1000 (by omega), ?_⟩
        have etx2 : strV (textsOf al ps) ++ [V.str (S ((textsOf al ps).getD p.1 []) ++ S ((textsOf al ps).getD p.2 []))] = strV (textsOf al (ps ++ [p])) := by
          rw [textsOf_snoc, S_cat]; unfold strV; rw [List.map_append]; rfl
        rw [etx2]
        have htx0a : H tx = none := htx0
        have sa1 : LSame Pt qLam H (upd Hb tx (.lst (strV (textsOf al (ps ++ [p]))))) := (sa.then sb).putL htx0 htx1
        have hwp2 : (upd Hb tx (.lst (strV (textsOf al (ps ++ [p]))))) pp = some (.lst wp) := (upd_ne (Ne.symm hnt)).trans hwp1
        have hg2 : (upd Hb tx (.lst (strV (textsOf al (ps ++ [p]))))) g = some (.tup [.int (p.1 : Int), .int (p.2 : Int)]) := (upd_ne (ne_of hg1 htx1 (fun z => by cases z))).trans hg1
        -- the new pair
        refine ⟨_, rfl, .inl ⟨rfl, _, SqL.of hwp2⟩, _, rfl, pp, _, _, rfl, rfl, hwp2, by rw [hwl]; exact small1000 (by omega), ?_⟩
        have sa2 := sa1.putL (o := .lst (wp ++ [.ref g])) hpp0 hwp2
        have htx3 : (upd (upd Hb tx (.lst (strV (textsOf al (ps ++ [p]))))) pp (.lst (wp ++ [.ref g]))) tx = some (.lst (strV (textsOf al (ps ++ [p])))) := (upd_ne hnt).trans upd_same
        have hwp3 : (upd (upd Hb tx (.lst (strV (textsOf al (ps ++ [p]))))) pp (.lst (wp ++ [.ref g]))) pp = some (.lst (wp ++ [.ref g])) := upd_same
        have hD3 : (upd (upd Hb tx (.lst (strV (textsOf al (ps ++ [p]))))) pp (.lst (wp ++ [.ref g]))) D2 = some (.lst us2) := (upd_ne nD2.2).trans ((upd_ne nD2.1).trans hus2)
        have hC3 : (upd (upd Hb tx (.lst (strV (textsOf al (ps ++ [p]))))) pp (.lst (wp ++ [.ref g]))) cq = some (.lst (iv (co.map (·.2)))) := (upd_ne L.nC.2).trans ((upd_ne L.nC.1).trans hC1)
        have sTb : SameT Hb (upd (upd Hb tx (.lst (strV (textsOf al (ps ++ [p]))))) pp (.lst (wp ++ [.ref g]))) := fun b xs e => SameT.put hwp2 _ _ (SameT.put htx1 _ _ e)
        have hP3 : PairsAt (upd (upd Hb tx (.lst (strV (textsOf al (ps ++ [p]))))) pp (.lst (wp ++ [.ref g]))) (wp ++ [.ref g]) (ps ++ [p]) := Paired.snoc ⟨g, rfl, sTb _ _ hg1⟩ (PairsAt.same (PairsAt.same hPp (Same.t sb)) sTb)
        have hR3 : Paired (RowM tx pp (upd (upd Hb tx (.lst (strV (textsOf al (ps ++ [p]))))) pp (.lst (wp ++ [.ref g])))) us2 (cutsOf al (ps ++ [p]) co) := Paired.mapP hPu fun _ _ ⟨z, e, _, n2, n3, h⟩ => ⟨true, z, e, n2, n3, (upd_ne n3).trans ((upd_ne n2).trans h)⟩
        generalize upd (upd Hb tx (.lst (strV (textsOf al (ps ++ [p]))))) pp (.lst (wp ++ [.ref g])) = Hd at sa2 htx3 hwp3 hD3 hC3 hP3 hR3 ⊢
        have hpr2 := hpr.snoc hokp
        have hps2 : ps ++ [p] = lrn al co (ps ++ [p]).length := by
          rw [List.length_append, List.length_singleton, lrn_next (p := p) (by rw [← hps]) (by rw [← hps]; exact hn), ← hps]
        refine ⟨_, rfl, _, rfl, D2, cq, cutsOf al (ps ++ [p]) co, co.map (·.2), rfl, ⟨us2, hD3, Paired.mapP hR3 fun _ _ h => h.sq⟩, hC3, hlen _, hcl2, cutsOf_len hcok, sa2.t1, fun He D6 us6 s6 _ hD6 hP6 => ?_⟩
        refine ⟨_, rfl, D6, tx, us6, _, textsOf al (ps ++ [p]), rfl, hD6, hP6, s6.lst htx3, hpr2.short, next_in hpr2.wf hcok, fun v2 hv2 => ?_⟩
        refine ⟨many - (ps ++ [p]).length, by rw [List.length_append, List.length_singleton]; omega, D2, cq, none, _, _, _, v2, ps ++ [p], rfl, sa2.trans s6, ⟨⟨us2, s6.lst hD3, Paired.mapP hR3 fun _ _ h => h.lam s6⟩, nD2, s6.lst hC3, L.nC, s6.lst htx3, ⟨_, s6.lst hwp3, PairsAt.same hP3 s6.tt⟩, hnt, hv2⟩, hpr2, hps2, by rw [List.length_append, List.length_singleton]; omega, rfl⟩
end
end RJ
end

section
set_option maxRecDepth 100000
set_option maxHeartbeats 4000000
namespace RJ
open PySem PySem.Spec PyProof.Rows L2
/-- a list of joins whose own list and dicts are new -/
def JoinsF (C : Addr) (H0 H : Hp) (p : Addr) (al : List Nat) (ps : List (Nat × Nat)) : Prop := ∃ (dx t tx d e : Addr) (vs : List V), H p = some (.ins C dx (f5 al t tx d e)) ∧ H t = some (.tup vs) ∧ PairsAt H vs ps ∧
  H tx = some (.lst (strV (textsOf al ps))) ∧ H d = some (.dT (kvsF 0 ps)) ∧ H e = some (.dK (kvsT 0 (textsOf al ps))) ∧ H0 tx = none ∧ H0 d = none ∧ H0 e = none
theorem JoinsF.at {C : Addr} {H0 H : Hp} {p : Addr} {al : List Nat} {ps : List (Nat × Nat)} (h : JoinsF C H0 H p al ps) : JoinsAt C H p al ps := by
  obtain ⟨dx, t, tx, d, e, vs, h1, h2, h3, h4, h5, h6, _⟩ := h
  exact ⟨dx, t, tx, d, e, vs, h1, h2, h3, h4, h5, h6⟩
def sp_initF (C : Addr) : Sp := fun vs H Q _ => ∃ (p pa dx : Addr) (b : Bool) (al : List Nat) (ps : List (Nat × Nat)) (us : List V), vs = [.ref p, .str (S al), .ref pa] ∧ H p = some (.ins C dx []) ∧ SeqAt b H pa us ∧ PairsAt H us ps ∧
  alOk al = true ∧ al.Nodup ∧ al.length ≤ 30 ∧ Proper al ps ∧ ps.length ≤ 100 ∧ ∀ H', SameX p H H' → JoinsF C H H' p al ps → Q .non H'
section
variable {P : Program} {w : World} {K : PySem.W.Frag} {mg : Str → Option Value} {base : Heap}
theorem ok_initF {f C : Addr} {fd : FuncData} (F : C8.Fun K "__init__" "Joins.__init__" s_Joins___init__ f fd) (T : Txt K mg) (J : JTxt K C) (c_check_alphabet : C8.Cal P w K mg base 3 "check_alphabet" sp_check_alphabet []) (c_may_follow : C8.Cal P w K mg base 3 "may_follow" sp_may_follow []) :
    FnOk P w K mg base C8.CX0 4 f fd ["self", "alphabet", "pairs"] (sp_initF C) := by
  refine C8.fn0 F sc_Joins___init__ (fun vs H Q E h => ?_) (fun cdv A outer s H vs Q E hr h => ?_)
  · obtain ⟨p, pa, dx, b, al, ps, us, rfl, _⟩ := h; rfl
  · obtain ⟨p, pa, dx, b, al, ps, us, rfl, hp, hpa, hps, hal, hnd, hall, hprop, hpl, q⟩ := h
    have hu := hu_of hr
    refine ⟨_, (pss_cons (ps_expr (C8.pe_c c_check_alphabet hr (by first | decide | omega) (by rfl) (pa_cons (pv 1) pa_nil)))
      (pss_cons (ps_fld (pv 0) (pv 1) rfl)
      (pss_cons (ps_fld (pv 0) (pe_tupleOf (by rfl) T.b_tuple (pe_lc (own := [("left", 5), ("right", 6)]) (g := gTup K 2 (gCons (gName 5) (gCons (gName 6) (gNil)))) (tt := tYes) rfl sc_Joins___init__.nd (pi_seq (pv 2)) (blkOk_by (N := N_Joins___init__) (sc := C8.fnScope s_Joins___init__) (by decide +kernel)) (fun _ _ _ _ _ => (pg_tup rfl (pgs_cons (pg_name (i := 5) sc_Joins___init__.nd rfl (Or.inl rfl)) (pgs_cons (pg_name (i := 6) sc_Joins___init__.nd rfl (Or.inl rfl)) pgs_nil)))) (fun _ _ _ _ _ => pts_nil) (fun _ _ _ _ _ => (pe_tup (pa_cons (pv 5) (pa_cons (pv 6) pa_nil)))))) rfl)
      (pss_cons (ps_fld (pv 0) (pe_callTy (call_list_text rfl) (by rfl) T.b_list (by decide +kernel) (pa_cons (pv 1) pa_nil)) rfl)
      (pss_cons (ps_fld (pv 0) pe_dnewT rfl)
      (pss_cons (ps_for PassesOwn.never rfl (pi_enumG rfl T.b_enumerate (pa_cons (pe_fld (pv 0) rfl) pa_nil)) (pg_tup rfl (pgs_cons (pg_name (i := 3) sc_Joins___init__.nd rfl (Or.inl rfl)) (pgs_cons (pg_name (i := 4) sc_Joins___init__.nd rfl (Or.inl rfl)) pgs_nil))) (pss_cons (ps_if (pt_not (pt_val (C8.pe_c c_may_follow hr (by first | decide | omega) (by rfl) (pa_cons (pv 1) (pa_cons (pe_fld (pv 0) rfl) (pa_cons (pe_fld (pv 0) rfl) (pa_cons (pv 4) pa_nil))))))) (pss_one ps_never) pss_nil)
      (pss_cons (ps_expr (pe_bm PySem.F.plainAttrs_list PySem.F.slot_list_append PySem.F.type_list_append mt_append (pe_fld (pv 0) rfl) (pa_cons (pe_op op_add_str (pe_ix ix_list (pe_fld (pv 0) rfl) (pe_ix ix_tup (pv 4) pe_int (fun _ _ => rfl)) (fun _ _ => rfl)) (pe_ix ix_list (pe_fld (pv 0) rfl) (pe_ix ix_tup (pv 4) pe_int (fun _ _ => rfl)) (fun _ _ => rfl))) pa_nil)))
      (pss_one (ps_dput hu (pe_fld (pv 0) rfl) (pv 4) (pv 3) rfl)))))
      (pss_one (ps_fld (pv 0) (pe_dc (own := [("piece", 7), ("text", 8)]) (g := gTup K 2 (gCons (gName 7) (gCons (gName 8) (gNil)))) (tt := tYes) rfl sc_Joins___init__.nd (pi_enumG rfl T.b_enumerate (pa_cons (pe_fld (pv 0) rfl) pa_nil)) (blkOk_by (N := N_Joins___init__) (sc := C8.fnScope s_Joins___init__) (by decide +kernel)) (fun _ _ _ _ _ => (pg_tup rfl (pgs_cons (pg_name (i := 7) sc_Joins___init__.nd rfl (Or.inl rfl)) (pgs_cons (pg_name (i := 8) sc_Joins___init__.nd rfl (Or.inl rfl)) pgs_nil)))) (fun _ _ _ _ _ => pts_nil) (fun _ _ _ _ _ => (pv 8)) (fun _ _ _ _ _ => (pv 7))) rfl)))))))), ?_⟩
    have lens := f_len al
    refine ⟨_, rfl, al, rfl, by omega, hal, fun H1 s1 => ⟨_, rfl, _, rfl, p, C, dx, _, rfl, s1 _ _ hp, J.cl, J.n1, by show 0 < 1000; decide, ?_⟩⟩
    have x2 : SameX p H (upd H1 p (.ins C dx (f1 al))) := (Same.x s1).self
    have hp2 : (upd H1 p (.ins C dx (f1 al))) p = some (.ins C dx (f1 al)) := upd_same
    revert hp2 x2
    show SameX p H (upd H1 p (.ins C dx (f1 al))) → (upd H1 p (.ins C dx (f1 al))) p = some (.ins C dx (f1 al)) → tSeq _ _ _ _ (upd H1 p (.ins C dx (f1 al)))
    generalize upd H1 p (.ins C dx (f1 al)) = H2
    intro x2 hp2
    have hpap : pa ≠ p := by
      cases b with
      | true => exact ne_of hpa hp (by intro z; cases z)
      | false => exact ne_of hpa hp (by intro z; cases z)
    have sT2 : ∀ H3, SameX p H H3 → PairsAt H3 us ps := fun H3 x => hps.same fun b xs e => x b _ (fun z => by rw [z, hp] at e; cases e) e
    have hpa2 : SeqAt b H2 pa us := x2 _ _ hpap hpa
    -- self.pairs
    refine ⟨_, rfl, b, pa, us, rfl, hpa2, fun D hD => lc_it walk_seq (fun i H' => Same H2 H' ∧ ∃ ws, H' D = some (.lst ws) ∧ PairsAt H' ws (ps.take i)) ⟨same_new hD, [], upd_same, .nil⟩ (fun i H' _ ⟨sa, _⟩ => hpa2.same sa) ?_ ?_⟩
    · rintro i x Ha Hb hi ⟨sa, ws, hws, hP⟩ ⟨rfl, hx⟩
      obtain ⟨⟨l, r⟩, hpi, qa, rfl, hqa⟩ := Paired.at (sT2 _ (x2.then sa)) hx
      refine ⟨qa, _, rfl, SqT.of hqa, rfl, _, _, rfl, _, _, rfl, rfl, rfl, _, rfl, _, rfl, by show 2 ≤ sizeLine; decide, fun z hz => ?_⟩
      have hDz : D ≠ z := ne_of_none hws hz
      have hws' : upd Hb z (.tup [.int (l : Int), .int (r : Int)]) D = some (.lst ws) := (upd_ne hDz).trans hws
      refine ⟨ws, hws', small1000 ?_, Same.put (Same.new sa hz) hD, _, upd_same, ?_⟩
      · have e1 := hP.length
        rw [List.length_take] at e1; omega
      · rw [take_succ_of hpi]
        refine Paired.snoc ⟨z, rfl, SameT.put hws' _ _ upd_same⟩ ?_
        exact (hP.same (Same.t (same_new hz))).same (SameT.put hws')
    rintro H3 ⟨s3, ws, hws, hP3⟩
    have hlen0 : us.length = ps.length := hps.length
    rw [hlen0, List.take_length] at hP3
    refine .inl ⟨D, ws, rfl, SqL.of hws, fun t ht => ⟨_, rfl, p, C, dx, _, rfl, (Same.new s3 ht) _ _ hp2, J.cl, J.n2, lens 0 0 0 |>.1, ?_⟩⟩
    have x4 : SameX p H (upd (upd H3 t (.tup ws)) p (.ins C dx (f2 al t))) := (x2.then (Same.new s3 ht)).self
    have hp4 : (upd (upd H3 t (.tup ws)) p (.ins C dx (f2 al t))) p = some (.ins C dx (f2 al t)) := upd_same
    have hptn : t ≠ p := fun z => by rw [z, s3 _ _ hp2] at ht; cases ht
    have ht4 : (upd (upd H3 t (.tup ws)) p (.ins C dx (f2 al t))) t = some (.tup ws) := (upd_ne hptn).trans upd_same
    have hP4 : PairsAt (upd (upd H3 t (.tup ws)) p (.ins C dx (f2 al t))) ws ps :=
      (hP3.same (Same.t (same_new ht))).same (SameT.putO ((Same.new s3 ht) _ _ hp2) (by intro xs z; cases z))
    revert x4 hp4 ht4 hP4
    show SameX p H (upd (upd H3 t (.tup ws)) p (.ins C dx (f2 al t))) → (upd (upd H3 t (.tup ws)) p (.ins C dx (f2 al t))) p = some (.ins C dx (f2 al t)) → (upd (upd H3 t (.tup ws)) p (.ins C dx (f2 al t))) t = some (.tup ws) → PairsAt (upd (upd H3 t (.tup ws)) p (.ins C dx (f2 al t))) ws ps → tSeq _ _ _ _ (upd (upd H3 t (.tup ws)) p (.ins C dx (f2 al t)))
    generalize upd (upd H3 t (.tup ws)) p (.ins C dx (f2 al t)) = H4
    intro x4 hp4 ht4 hP4
    -- self._texts, self._ranks
    refine ⟨_, rfl, S al, rfl, by rw [S_size]; exact small_le (by omega), fun tx htx => ⟨_, rfl, p, C, dx, _, rfl, (same_new htx) _ _ hp4, J.cl, J.n3, lens t 0 0 |>.2.1, ?_⟩⟩
    intro d hd
    refine ⟨_, rfl, p, C, dx, _, rfl, (upd_ne (ne_of_none upd_same hd)).trans upd_same, J.cl, J.n4, lens t tx 0 |>.2.2.1, ?_⟩
    have htx0 : H tx = none := x4.free htx ⟨_, hp4⟩
    have etx : signsV (S al) = strV (textsOf al (ps.take 0)) := by
      rw [List.take_zero]
      show (al.toArray.toList.map fun c => V.str ⟨#[c]⟩) = strV (al.map fun c => [c])
      rw [strV, List.map_map]; rfl
    have txp : tx ≠ p := fun z => by rw [z, hp4] at htx; cases htx
    have hdp : d ≠ p := fun z => by rw [z, upd_same] at hd; cases hd
    have hdtx : tx ≠ d := fun z => by rw [← z, upd_ne txp, upd_same] at hd; cases hd
    have hd0 : H4 d = none := by
      rw [upd_ne hdp, upd_ne (Ne.symm hdtx)] at hd; exact hd
    have hd00 : H d = none := x4.free hd0 ⟨_, hp4⟩
    have start : ∃ (v3 v4 : Option V), [some (V.ref p), some (.str (S al)), some (.ref pa), none, none, none, none, none, none] = [some (V.ref p), some (.str (S al)), some (.ref pa), v3, v4, none, none, none, none] ∧ InitAt C (upd (upd (upd (upd H4 tx (.lst (signsV (S al)))) p (.ins C dx (f3 al t tx))) d (.dT [])) p (.ins C dx (f4 al t tx d))) p dx t tx d ws al ps 0 ∧
        SameX p H (upd (upd (upd (upd H4 tx (.lst (signsV (S al)))) p (.ins C dx (f3 al t tx))) d (.dT [])) p (.ins C dx (f4 al t tx d))) := by
      have xa : SameX p H4 (upd (upd (upd (upd H4 tx (.lst (signsV (S al)))) p (.ins C dx (f3 al t tx))) d (.dT [])) p (.ins C dx (f4 al t tx d))) :=
        (((Same.x (p := p) (same_new htx)).self).put hd0).self
      have xb : ∀ b o, b ≠ p → H b = some o → H4 b = some o := x4
      have tT : SameT H4 (upd (upd (upd (upd H4 tx (.lst (signsV (S al)))) p (.ins C dx (f3 al t tx))) d (.dT [])) p (.ins C dx (f4 al t tx d))) := fun b xs e => xa b _ (fun z => by rw [z, hp4] at e; cases e) e
      refine ⟨none, none, rfl, ⟨upd_same, tT _ _ ht4, hP4.same tT, ?_, ?_⟩, fun b o hb e => xa b o hb (x4 b o hb e)⟩
      · rw [upd_ne txp, upd_ne hdtx, upd_ne txp, upd_same, etx]
      · rw [upd_ne hdp, upd_same]; rfl
    revert start
    show (∃ (v3 v4 : Option V), _ ∧ InitAt C (upd (upd (upd (upd H4 tx (.lst (signsV (S al)))) p (.ins C dx (f3 al t tx))) d (.dT [])) p (.ins C dx (f4 al t tx d))) p dx t tx d ws al ps 0 ∧ SameX p H (upd (upd (upd (upd H4 tx (.lst (signsV (S al)))) p (.ins C dx (f3 al t tx))) d (.dT [])) p (.ins C dx (f4 al t tx d)))) → tSeq _ _ _ _ (upd (upd (upd (upd H4 tx (.lst (signsV (S al)))) p (.ins C dx (f3 al t tx))) d (.dT [])) p (.ins C dx (f4 al t tx d)))
    generalize upd (upd (upd (upd H4 tx (.lst (signsV (S al)))) p (.ins C dx (f3 al t tx))) d (.dT [])) p (.ins C dx (f4 al t tx d)) = H5
    intro start
    have hlenw : ws.length = ps.length := hP4.length
    obtain ⟨_, _, _, i0, _⟩ := id start
    refine ⟨_, rfl, p, C, dx, _, _, rfl, i0.1, J.cl, J.n2, f4_pairs al t tx d, _, _, _, _, rfl, src_seq (b := false) i0.2.1, for_it walkG (fun i σ H' => ∃ (v3 v4 : Option V), σ = [some (V.ref p), some (.str (S al)), some (.ref pa), v3, v4, none, none, none, none] ∧ InitAt C H' p dx t tx d ws al ps i ∧ SameX p H H') start (fun i σ H' _ ⟨_, _, _, ia, _⟩ => ia.2.1) ?_ ?_⟩
    · rintro i x σ Ha Hb hi ⟨v3, v4, rfl, ia, xa⟩ ⟨Tt, xs, rfl, hT, rfl, v, hv, rfl⟩
      obtain ⟨⟨l, r⟩, hpi, qa, rfl, hqa⟩ := Paired.at ia.2.2.1 hv
      have ib := ia.same (same_new hT (o := .tup [.int (i : Int), .ref qa]))
      have xb : SameX p H (upd Ha Tt (.tup [.int (i : Int), .ref qa])) := xa.then (same_new hT)
      have hqb : (upd Ha Tt (.tup [.int (i : Int), .ref qa])) qa = some (.tup [.int (l : Int), .int (r : Int)]) := (same_new hT) _ _ hqa
      have hTb : (upd Ha Tt (.tup [.int (i : Int), .ref qa])) Tt = some (.tup [.int (i : Int), .ref qa]) := upd_same
      revert ib xb hqb hTb
      show InitAt C (upd Ha Tt (.tup [.int (i : Int), .ref qa])) p dx t tx d ws al ps i → SameX p H (upd Ha Tt (.tup [.int (i : Int), .ref qa])) → (upd Ha Tt (.tup [.int (i : Int), .ref qa])) qa = some (.tup [.int (l : Int), .int (r : Int)]) → (upd Ha Tt (.tup [.int (i : Int), .ref qa])) Tt = some (.tup [.int (i : Int), .ref qa]) → gTup K 2 _ _ _ (upd Ha Tt (.tup [.int (i : Int), .ref qa])) _
      generalize upd Ha Tt (.tup [.int (i : Int), .ref qa]) = Hb
      intro ib xb hqb hTb
      obtain ⟨b1, b2, b3, b4, b5⟩ := ib
      have hok := hprop i (l, r) hpi
      have htl : (textsOf al (ps.take i)).length ≤ 200 := by rw [textsOf_len, List.length_take]; omega
      refine ⟨Tt, _, rfl, SqT.of hTb, rfl, _, _, rfl, _, _, rfl, rfl, ?_⟩
      refine ⟨_, rfl, _, rfl, p, C, dx, _, _, rfl, b1, J.cl, J.n3, f4_texts al t tx d, _, rfl, p, C, dx, _, _, rfl, b1, J.cl, J.n4, f4_ranks al t tx d, _, rfl, al, textsOf al (ps.take i), ps.take i, (l : Int), (r : Int), tx, d, qa, rfl, b4, b5, hqb, (hprop.take i).wf, textsOf_al, (hprop.take i).short, by omega, by omega,
        fun p' e1 e2 ok Hc sc => ⟨_, rfl, iteF ?_⟩, fun hno => absurd hok (hno (l, r) rfl rfl)⟩
      have ic : InitAt C Hc p dx t tx d ws al ps i := InitAt.same ⟨b1, b2, b3, b4, b5⟩ sc
      have xc : SameX p H Hc := xb.then sc
      have hqc := sc _ _ hqb
      obtain ⟨c1, c2, c3, c4, c5⟩ := ic
      have hg1 : l < (textsOf al (ps.take i)).length := hok.1
      have hg2 : r < (textsOf al (ps.take i)).length := hok.2.1
      have hsum : ((textsOf al (ps.take i)).getD l []).length + ((textsOf al (ps.take i)).getD r []).length ≤ 40 := by
        have := hok.2.2.1
        rw [List.length_append] at this; exact this
      have hts : textsOf al (ps.take i) ++ [(textsOf al (ps.take i)).getD l [] ++ (textsOf al (ps.take i)).getD r []] = textsOf al (ps.take (i + 1)) := by rw [take_succ_of hpi, textsOf_snoc]
      refine ⟨_, rfl, p, C, dx, _, _, rfl, c1, J.cl, J.n3, f4_texts al t tx d, .inl ⟨rfl, _, SqL.of c4⟩, ?_⟩
      refine ⟨_, rfl, p, C, dx, _, _, rfl, c1, J.cl, J.n3, f4_texts al t tx d, _, rfl, qa, _, 0, _, rfl, rfl, SqT.of hqc, rfl, tx, _, _, _, rfl, rfl, SqL.of c4, atI_nat (strV_at hg1),
        _, rfl, p, C, dx, _, _, rfl, c1, J.cl, J.n3, f4_texts al t tx d, _, rfl, qa, _, 1, _, rfl, rfl, SqT.of hqc, rfl, tx, _, _, _, rfl, rfl, SqL.of c4, atI_nat (strV_at hg2), S _, S _, rfl, rfl, ?_, ?_⟩
      · rw [S_len, S_len]
        exact small_le (by omega)
      refine ⟨tx, _, _, rfl, rfl, c4, by rw [strV_len]; exact small1000 (by omega), ?_⟩
      rw [S_cat, strV_snoc, hts]
      have ntx : ∀ (b : Addr) (o : HO), Hc b = some o → (∀ ys, o ≠ .lst ys) → (upd Hc tx (.lst (strV (textsOf al (ps.take (i + 1)))))) b = some o := fun b o e hne => by
        rw [upd_ne (ne_of e c4 (hne _))]; exact e
      have hd2 := ntx d _ c5 (by intro ys z; cases z)
      have hq2 := ntx qa _ hqc (by intro ys z; cases z)
      refine ⟨_, rfl, _, rfl, p, C, dx, _, _, rfl, ntx p _ c1 (by intro ys z; cases z), J.cl, J.n4, f4_ranks al t tx d, _, rfl, d, _, rfl, DPut.t (k := pkey (l, r)) hd2 hq2 (by rw [kvsF_len, List.length_take]; exact small1000 (by omega)), ?_⟩
      have hnew : putK (kvsF 0 (ps.take i)) (pkey (l, r)) (V.int (i : Int)) = kvsF 0 (ps.take (i + 1)) := by
        have hnot : (l, r) ∉ ps.take i := fun hm => by
          have := cut_clean (hprop.take i).wf (lets al ((textsOf al (ps.take i)).getD l [] ++ (textsOf al (ps.take i)).getD r [])) _ hm
          rw [show cutL al.length (ps.take i) (lets al ((textsOf al (ps.take i)).getD l [] ++ (textsOf al (ps.take i)).getD r [])) = [l, r] from hok.2.2.2] at this
          exact this (by show (l, r) ∈ [(l, r)]; exact List.mem_cons_self ..)
        have h0 : valV (kvsF 0 (ps.take i)) (pkey (l, r)) = none := by rw [kvsF_get, if_neg hnot]
        rw [putK_new _ h0, take_succ_of hpi, kvsF_snoc, take_len_of hpi, Nat.zero_add]
      rw [hnew]
      have nd : ∀ (b : Addr) (o : HO), (upd Hc tx (.lst (strV (textsOf al (ps.take (i + 1)))))) b = some o → (∀ ys, o ≠ .dT ys) → (upd (upd Hc tx (.lst (strV (textsOf al (ps.take (i + 1)))))) d (.dT (kvsF 0 (ps.take (i + 1))))) b = some o := fun b o e hne => by
        rw [upd_ne (ne_of e hd2 (hne _))]; exact e
      have tT : SameT Hc (upd (upd Hc tx (.lst (strV (textsOf al (ps.take (i + 1)))))) d (.dT (kvsF 0 (ps.take (i + 1))))) := fun b xs e => nd b _ (ntx b _ e (by intro ys z; cases z)) (by intro ys z; cases z)
      refine ⟨_, _, rfl, ⟨nd p _ (ntx p _ c1 (by intro ys z; cases z)) (by intro ys z; cases z), tT _ _ c2, c3.same tT, nd tx _ upd_same (by intro ys z; cases z), upd_same⟩, ?_⟩
      exact (xc.put htx0).put hd00
    · rintro σ H6 ⟨v3, v4, rfl, ⟨c1, c2, c3, c4, c5⟩, x6⟩
      rw [hlenw, List.take_length] at c4 c5
      refine ⟨_, rfl, p, C, dx, _, _, rfl, c1, J.cl, J.n3, f4_texts al t tx d, _, _, _, _, rfl, src_seq (b := true) c4, fun D2 hD2 => dc_it walkG (fun i H' => Same H6 H' ∧ H' D2 = some (.dK (kvsT 0 ((textsOf al ps).take i)))) ⟨same_new hD2, upd_same⟩ (fun i H' _ ⟨sa, _⟩ => sa _ _ c4) ?_ ?_⟩
      · rintro i x Ha Hb hi ⟨sa, ha⟩ ⟨Tt, xs, rfl, hT, rfl, v, hv, rfl⟩
        have hvt : ∃ u, (textsOf al ps)[i]? = some u ∧ v = .str (S u) := by
          rw [strV, List.getElem?_map] at hv
          cases e : (textsOf al ps)[i]? with
          | none => rw [e] at hv; cases hv
          | some u => rw [e] at hv; exact ⟨u, rfl, (Option.some.inj hv).symm⟩
        obtain ⟨u, hu1, rfl⟩ := hvt
        have hne : D2 ≠ Tt := ne_of_none ha hT
        refine ⟨Tt, _, rfl, SqT.of upd_same, rfl, _, _, rfl, _, _, rfl, rfl, rfl, _, rfl, _, rfl, _, Sum.inr (S u), rfl, (upd_ne hne).trans ha, ?_, Same.put (Same.new sa hT) hD2, ?_⟩
        · rw [kvsT_len, List.length_take, textsOf_len]; exact small1000 (by omega)
        · have hnot : u ∉ (textsOf al ps).take i := fun hm => by
            obtain ⟨j, hj, ej⟩ := mem_take_get hm
            have := texts_inj hnd hprop ej hu1; omega
          have h0 : valV (kvsT 0 ((textsOf al ps).take i)) (Sum.inr (S u) : Key) = none := by rw [kvsT_get, if_neg hnot]
          rw [upd_same, putK_new _ h0, take_succ_of hu1, kvsT_snoc, take_len_of hu1, Nat.zero_add]
      · rintro H7 ⟨s7, h7⟩
        have en : (strV (textsOf al ps)).length = (textsOf al ps).length := strV_len _
        rw [en, List.take_length] at h7
        refine ⟨_, rfl, p, C, dx, _, rfl, s7 _ _ c1, J.cl, J.n5, lens t tx d |>.2.2.2, q _ (x6.then s7).self ⟨dx, t, tx, d, D2, ws, upd_same, ?_⟩⟩
        have nx : ∀ (b : Addr) (o : HO), H7 b = some o → (∀ fs, o ≠ .ins C dx fs) → (upd H7 p (.ins C dx (putF "_pieces_by_text" (.ref D2) (f4 al t tx d)))) b = some o := fun b o e hne => by
          rw [upd_ne (ne_of e (s7 _ _ c1) (hne _))]; exact e
        have tT : SameT H6 (upd H7 p (.ins C dx (putF "_pieces_by_text" (.ref D2) (f4 al t tx d)))) := fun b xs e => nx b _ (s7 _ _ e) (by intro fs z; cases z)
        exact ⟨tT _ _ c2, c3.same tT, nx tx _ (s7 _ _ c4) (by intro fs z; cases z), nx d _ (s7 _ _ c5) (by intro fs z; cases z), nx D2 _ h7 (by intro fs z; cases z), htx0, hd00, x6.free hD2 ⟨_, c1⟩⟩
end
end RJ
end

section
set_option maxRecDepth 100000
set_option maxHeartbeats 8000000
namespace RJ
open PySem PySem.Spec PyProof.Rows L2
abbrev s_Learner_totals : Stmt := inClass (top 37) 3
abbrev N_Learner_totals : List Str := ["self"]
theorem sc_Learner_totals : FnScope N_Learner_totals ["self"] (C8.fnScope s_Learner_totals) := C8.fnScope_by (by decide +kernel)
abbrev s_Learner_list_so_far : Stmt := inClass (top 37) 2
abbrev N_Learner_list_so_far : List Str := ["self"]
theorem sc_Learner_list_so_far : FnScope N_Learner_list_so_far ["self"] (C8.fnScope s_Learner_list_so_far) := C8.fnScope_by (by decide +kernel)
abbrev s_Learner_read : Stmt := inClass (top 37) 4
abbrev N_Learner_read : List Str := ["self", "text", "count", "row"]
theorem sc_Learner_read : FnScope N_Learner_read ["self", "text", "count"] (C8.fnScope s_Learner_read) := C8.fnScope_by (by decide +kernel)
/-- the class as the top has made it -/
structure LTxt (K : PySem.W.Frag) (C : Addr) : Prop where
  cl : Cls K C
  n1 : NoAttr K C "_joins"
  n2 : NoAttr K C "_rows"
  n3 : NoAttr K C "_counts"
abbrev lF (j r c : Addr) : List (Str × V) := [("_joins", .ref j), ("_rows", .ref r), ("_counts", .ref c)]
/-- a learner: its list so far, its corpus -/
structure LernAt (C CL : Addr) (H : Hp) (p : Addr) (al : List Nat) (ps : List (Nat × Nat)) (co : List (List Nat × Nat)) (dx j r c : Addr) : Prop where
  ob : H p = some (.ins CL dx (lF j r c))
  js : JoinsAt C H j al ps
  rows : ∃ ws, H r = some (.lst ws) ∧ Paired (RowM r c H) ws (cutsOf al ps co)
  cnt : H c = some (.lst (iv (co.map (·.2))))
  nrc : r ≠ c
  ntx : ∃ dx t tx d e, H j = some (.ins C dx (f5 al t tx d e)) ∧ tx ≠ r ∧ tx ≠ c
theorem LernAt.same {C CL : Addr} {H H' : Hp} {p dx j r c : Addr} {al : List Nat} {ps : List (Nat × Nat)} {co : List (List Nat × Nat)} (h : LernAt C CL H p al ps co dx j r c) (s : Same H H') : LernAt C CL H' p al ps co dx j r c := by
  obtain ⟨ws, h1, h2⟩ := h.rows
  obtain ⟨dx', t, tx, d, e, hj, n1, n2⟩ := h.ntx
  exact ⟨s _ _ h.ob, h.js.same s, ⟨ws, s _ _ h1, Paired.mapP h2 fun _ _ q => q.same s⟩, s _ _ h.cnt, h.nrc, ⟨dx', t, tx, d, e, s _ _ hj, n1, n2⟩⟩
theorem LernAt.lam {Pt : Addr} {qt : Str} {C CL : Addr} {H H' : Hp} {p dx j r c : Addr} {al : List Nat} {ps : List (Nat × Nat)} {co : List (List Nat × Nat)} (h : LernAt C CL H p al ps co dx j r c) (s : LSame Pt qt H H') : LernAt C CL H' p al ps co dx j r c := by
  obtain ⟨ws, h1, h2⟩ := h.rows
  obtain ⟨dx', t, tx, d, e, hj, n1, n2⟩ := h.ntx
  exact ⟨s.o h.ob (fun _ z => by cases z), h.js.lam s, ⟨ws, s.lst h1, Paired.mapP h2 fun _ _ q => q.lam s⟩, s.lst h.cnt, h.nrc, ⟨dx', t, tx, d, e, s.o hj (fun _ z => by cases z), n1, n2⟩⟩
/-- places that a learner's lists and dicts keep away from -/
structure Avd (C : Addr) (G : Addr → Prop) (H : Hp) (j r c : Addr) : Prop where
  gr : ¬ G r
  gc : ¬ G c
  gj : ∃ al dx t tx d e, H j = some (.ins C dx (f5 al t tx d e)) ∧ ¬ G tx ∧ ¬ G d ∧ ¬ G e
  rw : ∀ ws, H r = some (.lst ws) → ∀ z xs, V.ref z ∈ ws → H z = some (.lst xs) → ¬ G z
/-- only lists and dicts -/
def LDs (G : Addr → Prop) (H : Hp) : Prop := ∀ b, G b → (∃ xs, H b = some (.lst xs)) ∨ (∃ k, H b = some (.dT k)) ∨ ∃ k, H b = some (.dK k)
theorem LDs.ne {G : Addr → Prop} {H : Hp} (h : LDs G H) {b : Addr} {o : HO} (e : H b = some o) (h1 : ∀ xs, o ≠ .lst xs) (h2 : ∀ k, o ≠ .dT k) (h3 : ∀ k, o ≠ .dK k) : ¬ G b := fun g => by
  rcases h b g with ⟨_, x⟩ | ⟨_, x⟩ | ⟨_, x⟩
  · rw [e] at x; injection x with x; exact h1 _ x
  · rw [e] at x; injection x with x; exact h2 _ x
  · rw [e] at x; injection x with x; exact h3 _ x
theorem LernAt.avd {C CL : Addr} {G : Addr → Prop} {H H' : Hp} {p dx j r c : Addr} {al : List Nat} {ps : List (Nat × Nat)} {co : List (List Nat × Nat)} (h : LernAt C CL H p al ps co dx j r c) (a : Avd C G H j r c) (g : LDs G H) (s : ∀ b o, ¬ G b → H b = some o → H' b = some o) : LernAt C CL H' p al ps co dx j r c ∧ Avd C G H' j r c := by
  obtain ⟨ws, h1, h2⟩ := h.rows
  obtain ⟨dx', t, tx, d, e, hj, n1, n2⟩ := h.ntx
  obtain ⟨al2, dx2, t2, tx2, d2, e2, hj2, g1, g2, g3⟩ := a.gj
  have nb : ∀ {b : Addr} {o : HO}, H b = some o → (∀ xs, o ≠ .lst xs) → (∀ k, o ≠ .dT k) → (∀ k, o ≠ .dK k) → H' b = some o := fun e h1 h2 h3 => s _ _ (g.ne e h1 h2 h3) e
  have tt : SameT H H' := fun b xs e => nb e (fun _ z => by cases z) (fun _ z => by cases z) (fun _ z => by cases z)
  have kj := nb hj2 (fun _ z => by cases z) (fun _ z => by cases z) (fun _ z => by cases z)
  obtain ⟨dj, t', tx', d', e', vs', j1, j2, j3, j4, j5, j6⟩ := id h.js
  have same3 : tx' = tx2 ∧ d' = d2 ∧ e' = e2 := by
    rw [j1] at hj2
    injection hj2 with hj2
    injection hj2 with _ _ hj2
    have fx : ∀ (k : Str) (a b : Addr), List.lookup k (f5 al t' tx' d' e') = some (V.ref a) → List.lookup k (f5 al2 t2 tx2 d2 e2) = some (V.ref b) → a = b := fun k a b h1 h2 => by
      have h := congrArg (fun l => List.lookup k l) hj2
      rw [show List.lookup k (f5 al t' tx' d' e') = some (V.ref a) from h1, show List.lookup k (f5 al2 t2 tx2 d2 e2) = some (V.ref b) from h2] at h
      injection h with h
      injection h
    exact ⟨fx "_texts" _ _ (f5_texts al t' tx' d' e') (f5_texts al2 t2 tx2 d2 e2), fx "_ranks" _ _ (f5_ranks al t' tx' d' e') (f5_ranks al2 t2 tx2 d2 e2), fx "_pieces_by_text" _ _ (f5_pieces_by_text al t' tx' d' e') (f5_pieces_by_text al2 t2 tx2 d2 e2)⟩
  obtain ⟨rfl, rfl, rfl⟩ := same3
  have rkeep := s _ _ a.gr h1
  have zk : ∀ z xs, V.ref z ∈ ws → H z = some (.lst xs) → H' z = some (.lst xs) := fun z xs hz e => s _ _ (a.rw ws h1 z xs hz e) e
  refine ⟨⟨nb h.ob (fun _ z => by cases z) (fun _ z => by cases z) (fun _ z => by cases z), ⟨dj, t', tx', d', e', vs', nb j1 (fun _ z => by cases z) (fun _ z => by cases z) (fun _ z => by cases z), tt _ _ j2, j3.same tt, s _ _ g1 j4, s _ _ g2 j5, s _ _ g3 j6⟩, ⟨ws, rkeep, ?_⟩, s _ _ a.gc h.cnt, h.nrc, ⟨dx', t, tx, d, e, nb hj (fun _ z => by cases z) (fun _ z => by cases z) (fun _ z => by cases z), n1, n2⟩⟩, ⟨a.gr, a.gc, ⟨_, _, _, _, _, _, kj, g1, g2, g3⟩, fun ws2 hw z xs hz e => ?_⟩⟩
  · have gen : ∀ {vs : List V} {rs : List (List Nat)}, (∀ v ∈ vs, v ∈ ws) → Paired (RowM r c H) vs rs → Paired (RowM r c H') vs rs := by
      intro vs rs hm hp
      induction hp with
      | nil => exact .nil
      | cons x t ih =>
        refine .cons ?_ (ih fun v hv => hm v (List.mem_cons_of_mem _ hv))
        obtain ⟨b, z, rfl, m1, m2, hz⟩ := x
        refine ⟨b, z, rfl, m1, m2, ?_⟩
        cases b with
        | true => exact zk z _ (hm _ (List.mem_cons_self ..)) hz
        | false => exact tt _ _ hz
    exact gen (fun _ h => h) h2
  · rw [rkeep] at hw
    injection hw with hw
    injection hw with hw
    subst hw
    -- the row stood there before
    obtain ⟨i, hi⟩ := List.mem_iff_getElem?.mp hz
    obtain ⟨row, _, b, z', ez, m1, m2, hz'⟩ := Paired.at h2 hi
    injection ez with ez
    subst ez
    cases b with
    | true => exact a.rw ws h1 z _ hz hz'
    | false =>
      have := tt _ _ hz'
      rw [e] at this; cases this
def sp_ltotalsM (C CL Pt : Addr) : Sp := fun vs H Q _ => ∃ (p : Addr) (al : List Nat) (ps : List (Nat × Nat)) (co : List (List Nat × Nat)) (dx j r c : Addr), vs = [.ref p] ∧ LernAt C CL H p al ps co dx j r c ∧ CorpOk al co ∧ LamX.TabS H Pt qLam ∧
  ∀ H' z us, LSame Pt qLam H H' → H' z = some (.tup us) → Paired (TotV H') us (srtT (totL (cutsOf al ps co) (co.map (·.2)))) → Q (.ref z) H'
def sp_lsofar (C CL : Addr) : Sp := fun vs H Q _ => ∃ (p : Addr) (al : List Nat) (ps : List (Nat × Nat)) (co : List (List Nat × Nat)) (dx j r c : Addr), vs = [.ref p] ∧ LernAt C CL H p al ps co dx j r c ∧ Q (.ref j) H
/-- all but two places stay -/
def SameX2 (r c : Addr) (H H' : Hp) : Prop := ∀ b o, b ≠ r → b ≠ c → H b = some o → H' b = some o
def sp_lread (C CL : Addr) : Sp := fun vs H Q _ => ∃ (p : Addr) (al : List Nat) (ps : List (Nat × Nat)) (co : List (List Nat × Nat)) (dx j r c : Addr) (t : List Nat) (n : Nat), vs = [.ref p, .str (S t), .int (n : Int)] ∧ LernAt C CL H p al ps co dx j r c ∧ WF al.length ps ∧ al.length ≤ 1000 ∧ co.length ≤ 100 ∧ (∀ c ∈ t, c ∈ al) ∧ t.length ≤ 1000 ∧
  ∀ H', SameX2 r c H H' → LernAt C CL H' p al ps (co ++ [(t, n)]) dx j r c → (∀ G, Avd C G H j r c → (∀ b, G b → ∃ o, H b = some o) → Avd C G H' j r c) → Q .non H'
section
variable {P : Program} {w : World} {K : PySem.W.Frag} {mg : Str → Option Value} {base : Heap}
theorem ok_ltotalsM {f C CL Pt : Addr} {fd : FuncData} (F : C8.Fun K "totals" "Learner.totals" s_Learner_totals f fd) (T : Txt K mg) (J : LTxt K CL) (c_totals_of : C8.Cal P w K mg base 1 "totals_of" (sp_totals Pt qLam) []) : FnOk P w K mg base C8.CX0 2 f fd ["self"] (sp_ltotalsM C CL Pt) := by
  refine C8.fn0 F sc_Learner_totals (fun vs H Q E h => ?_) (fun cdv A outer s H vs Q E hr h => ?_)
  · obtain ⟨p, al, ps, co, dx, j, r, c, rfl, _⟩ := h; rfl
  · obtain ⟨p, al, ps, co, dx, j, r, c, rfl, L, hcok, hT, q⟩ := h
    refine ⟨_, (pss_one (ps_ret (pe_tupleOf (by rfl) T.b_tuple (C8.pe_c c_totals_of hr (by first | decide | omega) (by rfl) (pa_cons (pe_fld (pv 0) rfl) (pa_cons (pe_fld (pv 0) rfl) pa_nil)))))), ?_⟩
    obtain ⟨ws, h1, h2⟩ := L.rows
    have hlen : (cutsOf al ps co).length = (co.map (·.2)).length := by unfold cutsOf; rw [List.length_map, List.length_map]
    refine ⟨_, rfl, p, CL, dx, _, _, rfl, L.ob, J.cl, J.n2, rfl, _, rfl, p, CL, dx, _, _, rfl, L.ob, J.cl, J.n3, rfl, r, c, cutsOf al ps co, co.map (·.2), rfl, ⟨ws, h1, Paired.mapP h2 fun _ _ h => h.sq⟩, L.cnt, hlen, by rw [List.length_map]; exact hcok.1, cutsOf_len hcok, hT, fun H1 D us s1 _ hD hP => .inl ⟨D, us, rfl, SqL.of hD, fun z hz => ?_⟩⟩
    exact q _ z us (s1.new (o := .tup us) hz) upd_same (Paired.mapP hP fun _ _ h => EntV.same (fun b xs e => keep_new hz b _ e) h)
theorem ok_lsofar {f C CL : Addr} {fd : FuncData} (F : C8.Fun K "list_so_far" "Learner.list_so_far" s_Learner_list_so_far f fd) (T : Txt K mg) (J : LTxt K CL) : FnOk P w K mg base C8.CX0 1 f fd ["self"] (sp_lsofar C CL) := by
  refine C8.fn0 F sc_Learner_list_so_far (fun vs H Q E h => ?_) (fun cdv A outer s H vs Q E hr h => ?_)
  · obtain ⟨p, al, ps, co, dx, j, r, c, rfl, _⟩ := h; rfl
  · obtain ⟨p, al, ps, co, dx, j, r, c, rfl, L, q⟩ := h
    refine ⟨_, (pss_one (ps_ret (pe_fld (pv 0) rfl))), ?_⟩
    exact ⟨_, rfl, p, CL, dx, _, _, rfl, L.ob, J.cl, J.n1, rfl, q⟩
theorem ok_lread {f C CL : Addr} {fd : FuncData} (F : C8.Fun K "read" "Learner.read" s_Learner_read f fd) (T : Txt K mg) (J : LTxt K CL) (c_cut : C8.Cal P w K mg base 4 "cut" (sp_cut C) []) : FnOk P w K mg base C8.CX0 5 f fd ["self", "text", "count"] (sp_lread C CL) := by
  refine C8.fn0 F sc_Learner_read (fun vs H Q E h => ?_) (fun cdv A outer s H vs Q E hr h => ?_)
  · obtain ⟨p, al, ps, co, dx, j, r, c, t, n, rfl, _⟩ := h; rfl
  · obtain ⟨p, al, ps, co, dx, j, r, c, t, n, rfl, L, hw, hal, hcl, hin, htl, q⟩ := h
    refine ⟨_, (pss_cons (ps_set (i := 3) sc_Learner_read.nd rfl (Or.inl rfl) (C8.pe_c c_cut hr (by first | decide | omega) (by rfl) (pa_cons (pe_fld (pv 0) rfl) (pa_cons (pv 1) pa_nil))))
      (pss_cons (ps_expr (pe_bm PySem.F.plainAttrs_list PySem.F.slot_list_append PySem.F.type_list_append mt_append (pe_fld (pv 0) rfl) (pa_cons (pv 3) pa_nil)))
      (pss_one (ps_expr (pe_bm PySem.F.plainAttrs_list PySem.F.slot_list_append PySem.F.type_list_append mt_append (pe_fld (pv 0) rfl) (pa_cons (pv 2) pa_nil)))))), ?_⟩
    refine ⟨_, rfl, p, CL, dx, _, _, rfl, L.ob, J.cl, J.n1, rfl, _, rfl, j, t, al, ps, rfl, L.js, hw, hin, htl, hal, fun H1 z s1 hz0 => ?_⟩
    have hz : H1 z = some (.tup (iv (cutL al.length ps (lets al t)))) := hz0
    have L1 := L.same s1
    obtain ⟨ws, h1, h2⟩ := L1.rows
    have hwl : ws.length = co.length := by rw [h2.length]; unfold cutsOf; rw [List.length_map]
    refine ⟨_, rfl, p, CL, dx, _, _, rfl, L1.ob, J.cl, J.n2, rfl, .inl ⟨rfl, _, SqL.of h1⟩, _, rfl, r, ws, _, rfl, rfl, h1, small1000 (by omega), ?_⟩
    have npr : p ≠ r := ne_of L1.ob h1 (fun z => by cases z)
    have npc : p ≠ c := ne_of L1.ob L1.cnt (fun z => by cases z)
    have nzr : z ≠ r := ne_of hz h1 (fun z => by cases z)
    have nzc : z ≠ c := ne_of hz L1.cnt (fun z => by cases z)
    have ob2 := (upd_ne (o := .lst (ws ++ [V.ref z])) npr).trans L1.ob
    have c2 := (upd_ne (o := .lst (ws ++ [V.ref z])) (Ne.symm L.nrc)).trans L1.cnt
    refine ⟨_, rfl, p, CL, dx, _, _, rfl, ob2, J.cl, J.n3, rfl, .inl ⟨rfl, _, SqL.of c2⟩, _, rfl, c, _, _, rfl, rfl, c2, small1000 (by rw [iv_len, List.length_map]; omega), ?_⟩
    have k2 : ∀ b o, b ≠ r → b ≠ c → H1 b = some o → (upd (upd H1 r (.lst (ws ++ [V.ref z]))) c (.lst (iv (co.map (·.2)) ++ [V.int (n : Int)]))) b = some o := fun b o n1 n2 e => (upd_ne n2).trans ((upd_ne n1).trans e)
    have sT : SameT H1 (upd (upd H1 r (.lst (ws ++ [V.ref z]))) c (.lst (iv (co.map (·.2)) ++ [V.int (n : Int)]))) := fun b xs e => k2 b _ (ne_of e h1 (fun z => by cases z)) (ne_of e L1.cnt (fun z => by cases z)) e
    obtain ⟨dj, t', tx, d, e, vs', j1, j2, j3, j4, j5, j6⟩ := id L1.js
    obtain ⟨dj2, t2, tx2, d2, e2, hj2, n1, n2⟩ := L1.ntx
    have etx : tx = tx2 := by
      rw [j1] at hj2
      injection hj2 with hj2
      injection hj2 with _ _ hj2
      have h := congrArg (fun l => List.lookup ("_texts" : Str) l) hj2
      rw [show List.lookup ("_texts" : Str) (f5 al t' tx d e) = some (V.ref tx) from f5_texts al t' tx d e, show List.lookup ("_texts" : Str) (f5 al t2 tx2 d2 e2) = some (V.ref tx2) from f5_texts al t2 tx2 d2 e2] at h
      injection h with h
      injection h
    subst etx
    have kj := k2 _ _ (ne_of j1 h1 (fun z => by cases z)) (ne_of j1 L1.cnt (fun z => by cases z)) j1
    have hJ : JoinsAt C (upd (upd H1 r (.lst (ws ++ [V.ref z]))) c (.lst (iv (co.map (·.2)) ++ [V.int (n : Int)]))) j al ps := ⟨dj, t', tx, d, e, vs', kj, sT _ _ j2, PairsAt.same j3 sT, k2 _ _ n1 n2 j4, k2 _ _ (ne_of j5 h1 (fun z => by cases z)) (ne_of j5 L1.cnt (fun z => by cases z)) j5, k2 _ _ (ne_of j6 h1 (fun z => by cases z)) (ne_of j6 L1.cnt (fun z => by cases z)) j6⟩
    have keepM : ∀ {v : V} {row : List Nat}, RowM r c H1 v row → RowM r c (upd (upd H1 r (.lst (ws ++ [V.ref z]))) c (.lst (iv (co.map (·.2)) ++ [V.int (n : Int)]))) v row := fun h => (h.put1).put2
    refine q _ (fun b o b1 b2 e => k2 b o b1 b2 (s1 _ _ e)) ⟨k2 _ _ npr npc L1.ob, hJ, ⟨ws ++ [V.ref z], (upd_ne L.nrc).trans upd_same, ?_⟩, ?_, L.nrc, ⟨dj, t', tx, d, e, kj, n1, n2⟩⟩ ?_
    · unfold cutsOf
      rw [List.map_append]
      exact Paired.snoc ⟨false, z, rfl, nzr, nzc, sT _ _ hz⟩ (Paired.mapP h2 fun _ _ h => keepM h)
    · rw [upd_same, List.map_append]
      exact congrArg (fun l => some (HO.lst l)) (by unfold iv; rw [List.map_append (l₁ := co.map (·.2))]; rfl)
    · intro G a hG
      obtain ⟨al2, dx2, t2, tx2, d2, e2, ha, g1, g2, g3⟩ := a.gj
      refine ⟨a.gr, a.gc, ⟨al2, dx2, t2, tx2, d2, e2, k2 _ _ (ne_of (s1 _ _ ha) h1 (fun z => by cases z)) (ne_of (s1 _ _ ha) L1.cnt (fun z => by cases z)) (s1 _ _ ha), g1, g2, g3⟩, fun ws2 hw z2 xs hz2 e2 => ?_⟩
      rw [upd_ne L.nrc, upd_same] at hw
      injection hw with hw
      injection hw with hw
      subst hw
      rcases List.mem_append.mp hz2 with hm | hm
      · obtain ⟨ws0, h10, h20⟩ := L.rows
        have ews : ws0 = ws := by
          have := s1 _ _ h10
          rw [h1] at this
          injection this with this
          injection this with this
          exact this.symm
        subst ews
        obtain ⟨i, hi⟩ := List.mem_iff_getElem?.mp hm
        obtain ⟨row, _, b, z', ez, m1, m2, hz'⟩ := Paired.at h20 hi
        injection ez with ez
        subst ez
        cases b with
        | true => exact a.rw ws0 h10 z2 _ hm hz'
        | false =>
          have := k2 _ _ m1 m2 (s1 _ _ hz')
          rw [e2] at this; cases this
      · have ez := List.mem_singleton.mp hm
        injection ez with ez
        subst ez
        have := sT _ _ hz
        rw [e2] at this; cases this
end
end RJ
end

section
set_option maxRecDepth 100000
set_option maxHeartbeats 8000000
namespace RJ
open PySem PySem.Spec PyProof.Rows L2
abbrev s_Learner___init__ : Stmt := inClass (top 37) 0
abbrev N_Learner___init__ : List Str := ["self", "alphabet", "corpus", "text", "_"]
theorem sc_Learner___init__ : FnScope N_Learner___init__ ["self", "alphabet", "corpus"] (C8.fnScope s_Learner___init__) := C8.fnScope_by (by decide +kernel)
theorem JoinsAt.offI {C p y : Addr} {H H' : Hp} {al : List Nat} {ps : List (Nat × Nat)} {D dx : Addr} {fs : List (Str × V)} (h : JoinsAt C H y al ps) (hp : H p = some (.ins D dx fs)) (hn : y ≠ p) (s : SameX p H H') : JoinsAt C H' y al ps := by
  obtain ⟨dx', t, tx, d, e, vs, h1, h2, h3, h4, h5, h6⟩ := h
  exact ⟨dx', t, tx, d, e, vs, s _ _ hn h1, s _ _ (ne_of h2 hp (fun z => by cases z)) h2, PairsAt.same h3 (fun b xs e => s _ _ (ne_of e hp (fun z => by cases z)) e), s _ _ (ne_of h4 hp (fun z => by cases z)) h4, s _ _ (ne_of h5 hp (fun z => by cases z)) h5, s _ _ (ne_of h6 hp (fun z => by cases z)) h6⟩
theorem CorpT.offI {p a : Addr} {b : Bool} {H H' : Hp} {co : List (List Nat × Nat)} {D dx : Addr} {fs : List (Str × V)} (h : CorpT b H a co) (hp : H p = some (.ins D dx fs)) (s : SameX p H H') : CorpT b H' a co := by
  obtain ⟨vs, h1, h2⟩ := h
  refine ⟨vs, ?_, Paired.mapP h2 fun _ _ ⟨g, e, hg⟩ => ⟨g, e, s _ _ (ne_of hg hp (fun z => by cases z)) hg⟩⟩
  cases b with
  | true => exact s _ _ (ne_of h1 hp (fun z => by cases z)) h1
  | false => exact s _ _ (ne_of h1 hp (fun z => by cases z)) h1
def sp_linit (C CL : Addr) : Sp := fun vs H Q _ => ∃ (p a dx : Addr) (b : Bool) (co : List (List Nat × Nat)) (al : List Nat), vs = [.ref p, .str (S al), .ref a] ∧ H p = some (.ins CL dx []) ∧ alOk al = true ∧ al.Nodup ∧ al.length ≤ 30 ∧ CorpT b H a co ∧ CorpOk al co ∧
  ∀ H' j r c, SameX p H H' → LernAt C CL H' p al [] co dx j r c → (∀ G, (∀ b, G b → ∃ o, H b = some o) → Avd C G H' j r c) → Q .non H'
section
variable {P : Program} {w : World} {K : PySem.W.Frag} {mg : Str → Option Value} {base : Heap}
theorem ok_linit {f C CL : Addr} {fd : FuncData} (F : C8.Fun K "__init__" "Learner.__init__" s_Learner___init__ f fd) (T : Txt K mg) (J : LTxt K CL) (k_Joins : C8.Mak P w K mg base 4 "Joins" C (sp_initF C) []) (c_letters_of : C8.Cal P w K mg base 2 "letters_of" (sp_letters_of C) []) (c_counts_of : C8.Cal P w K mg base 1 "counts_of" sp_countsT []) : FnOk P w K mg base C8.CX0 6 f fd ["self", "alphabet", "corpus"] (sp_linit C CL) := by
  refine C8.fn0 F sc_Learner___init__ (fun vs H Q E h => ?_) (fun cdv A outer s H vs Q E hr h => ?_)
  · obtain ⟨p, a, dx, b, co, al, rfl, _⟩ := h; rfl
  · obtain ⟨p, a, dx, b, co, al, rfl, hp, hok, hnd, h30, hco, hcok, q⟩ := h
    refine ⟨_, (pss_cons (ps_fld (pv 0) (C8.pe_mk k_Joins hr (by first | decide | omega) (by rfl) (pa_cons (pv 1) (pa_cons (pe_tup pa_nil) pa_nil))) rfl)
      (pss_cons (ps_fld (pv 0) (pe_lc (own := [("text", 3), ("_", 4)]) (g := gTup K 2 (gCons (gName 3) (gCons (gName 4) (gNil)))) (tt := tYes) rfl sc_Learner___init__.nd (pi_seq (pv 2)) (blkOk_by (N := N_Learner___init__) (sc := C8.fnScope s_Learner___init__) (by decide +kernel)) (fun _ _ _ _ _ => (pg_tup rfl (pgs_cons (pg_name (i := 3) sc_Learner___init__.nd rfl (Or.inl rfl)) (pgs_cons (pg_name (i := 4) sc_Learner___init__.nd rfl (Or.inl rfl)) pgs_nil)))) (fun _ _ _ _ _ => pts_nil) (fun _ _ _ _ _ => (C8.pe_c c_letters_of hr (by first | decide | omega) (by rfl) (pa_cons (pe_fldK (K := K) rfl (pv 0) rfl) (pa_cons (pv 3) pa_nil))))) rfl)
      (pss_one (ps_fld (pv 0) (C8.pe_c c_counts_of hr (by first | decide | omega) (by rfl) (pa_cons (pv 2) pa_nil)) rfl)))), ?_⟩
    refine ⟨_, rfl, by show 0 ≤ sizeLine; decide, fun pa hpa y dy ny ndy ney => ?_⟩
    have sM : ∀ (b : Addr) (o : HO), H b = some o → b ≠ y ∧ (upd (upd (upd H pa (.tup [])) dy (.own y)) y (.ins C dy [])) b = some o := fun b o e => by
      have e1 := keep_new (o := .tup []) hpa _ _ e
      have hby := ne_of_none e1 ny
      exact ⟨hby, (upd_ne hby).trans ((upd_ne (ne_of_none e1 ndy)).trans e1)⟩
    have npa : pa ≠ y := ne_of_none upd_same ny
    have npd : pa ≠ dy := ne_of_none upd_same ndy
    refine ⟨y, pa, dy, false, al, [], [], rfl, upd_same, (upd_ne npa).trans ((upd_ne npd).trans upd_same), .nil, hok, hnd, h30, Proper.nil al, by decide, fun H1 sx hjF => ⟨rfl, ?_⟩⟩
    have hj := hjF.at
    have s1 : Same H H1 := fun b o e => sx b o (sM b o e).1 (sM b o e).2
    obtain ⟨djF, tF, txF, dF, eF, vsF, jF1, jF2, jF3, jF4, jF5, jF6, nF1, nF2, nF3⟩ := hjF
    have ff : ∀ b, (upd (upd (upd H pa (.tup [])) dy (.own y)) y (.ins C dy [])) b = none → H b = none := fun b e => by
      cases h : H b with
      | none => rfl
      | some o => rw [(sM b o h).2] at e; cases e
    have nF1 := ff _ nF1
    have nF2 := ff _ nF2
    have nF3 := ff _ nF3
    clear sM sx ff
    have hp1 := s1 _ _ hp
    refine ⟨_, rfl, p, CL, dx, _, rfl, hp1, J.cl, J.n1, by show 0 < 1000; decide, ?_⟩
    have sx1 : SameX p H (upd H1 p (.ins CL dx (putF (Str.ofString "_joins") (V.ref y) []))) := fun b o hb e => (upd_ne hb).trans (s1 _ _ e)
    have hp2 : (upd H1 p (.ins CL dx (putF (Str.ofString "_joins") (V.ref y) []))) p = some (.ins CL dx [("_joins", .ref y)]) := upd_same
    have npy : p ≠ y := fun e => by
      obtain ⟨dj, t', tx, d, e', vs', j1, _⟩ := hj
      rw [e] at hp1
      rw [hp1] at j1
      injection j1 with j1
      injection j1 with _ _ j1
      have h := congrArg (fun l => List.lookup ("alphabet" : Str) l) j1
      rw [show List.lookup ("alphabet" : Str) (f5 al t' tx d e') = some (V.str (S al)) from f5_alphabet al t' tx d e'] at h
      cases h
    have hcoA := hco.offI hp sx1
    have hjA := hj.offI hp1 (Ne.symm npy) (fun b o hb e => (upd_ne hb).trans e : SameX p H1 (upd H1 p (.ins CL dx (putF (Str.ofString "_joins") (V.ref y) []))))
    have kF2 : (upd H1 p (.ins CL dx (putF (Str.ofString "_joins") (V.ref y) []))) y = some (.ins C djF (f5 al tF txF dF eF)) := (upd_ne (Ne.symm npy)).trans jF1
    generalize upd H1 p (.ins CL dx (putF (Str.ofString "_joins") (V.ref y) [])) = H2 at sx1 hp2 hcoA hjA kF2 ⊢
    obtain ⟨us, hus, hP⟩ := id hcoA
    refine ⟨_, rfl, b, a, us, rfl, hus, fun D hD => lc_it walk_seq (fun i H' => Same H2 H' ∧ ∃ ws, H' D = some (.lst ws) ∧ Paired (TupR H') ws (cutsOf al [] (co.take i))) ⟨same_new hD, [], upd_same, .nil⟩ (fun i H' _ ⟨sa, _⟩ => hus.same sa) ?_ ?_⟩
    · rintro i x Ha Hb hi ⟨sa, ws, hd, hPw⟩ ⟨rfl, hx⟩
      obtain ⟨e, he, g, rfl, hg⟩ := Paired.at hP hx
      obtain ⟨h1, h2⟩ := hcok.2 e (List.mem_of_getElem? he)
      have hil : i < 100 := by have := (List.getElem?_eq_some_iff.mp he).1; have := hcok.1; omega
      refine ⟨g, _, rfl, SqT.of (sa _ _ hg), rfl, _, _, rfl, _, _, rfl, rfl, rfl, _, rfl, p, CL, dx, _, _, rfl, sa _ _ hp2, J.cl, J.n1, rfl, _, rfl, y, e.1, al, [], rfl, hjA.same sa, h1, h2, fun H3 z s3 _ hz => ?_⟩
      refine ⟨ws, s3 _ _ hd, small1000 (by rw [hPw.length]; unfold cutsOf; rw [List.length_map, List.length_take]; omega), Same.put (sa.trans s3) hD, ws ++ [.ref z], upd_same, ?_⟩
      have sT := SameT.put (o := .lst (ws ++ [.ref z])) (s3 _ _ hd)
      have hz' : H3 z = some (.tup (iv (cutL al.length [] (lets al e.1)))) := hz
      unfold cutsOf
      rw [map_take_succ he]
      exact Paired.snoc ⟨z, rfl, sT _ _ hz'⟩ (Paired.mapP hPw fun _ _ h => (h.same (Same.t s3)).same sT)
    rintro H3 ⟨s3, ws, hd, hPw⟩
    rw [hP.length, List.take_length] at hPw
    have hp3 := s3 _ _ hp2
    refine ⟨_, rfl, p, CL, dx, _, rfl, hp3, J.cl, J.n2, by show 1 < 1000; decide, ?_⟩
    have nDp : D ≠ p := fun e => by rw [e, hp2] at hD; cases hD
    have nD0 : H D = none := by
      cases h : H D with
      | none => rfl
      | some o => rw [sx1 _ _ nDp h] at hD; cases hD
    obtain ⟨dj, t', tx, d, e', vs', j1, j2, j3, j4, j5, j6⟩ := id hjA
    have nxD : tx ≠ D := ne_of_none j4 hD
    have sx3 : SameX p H (upd H3 p (.ins CL dx (putF (Str.ofString "_rows") (V.ref D) [(Str.ofString "_joins", V.ref y)]))) := fun b o hb e => (upd_ne hb).trans (s3 _ _ (sx1 _ _ hb e))
    have sp3 : SameX p H3 (upd H3 p (.ins CL dx (putF (Str.ofString "_rows") (V.ref D) [(Str.ofString "_joins", V.ref y)]))) := fun b o hb e => (upd_ne hb).trans e
    have hjB := (hjA.same s3).offI hp3 (Ne.symm npy) sp3
    have hcoB := (hcoA.same s3).offI hp3 sp3
    have hD4 := sp3 _ _ nDp hd
    have htx4 := sp3 _ _ (ne_of (s3 _ _ j4) hp3 (fun z => by cases z)) (s3 _ _ j4)
    have hy4 := sp3 _ _ (Ne.symm npy) (s3 _ _ j1)
    have hP4 := Paired.mapP hPw fun _ _ (h : TupR H3 _ _) => (⟨h.choose, h.choose_spec.1, sp3 _ _ (ne_of h.choose_spec.2 hp3 (fun z => by cases z)) h.choose_spec.2⟩ : TupR _ _ _)
    have hp4 : (upd H3 p (.ins CL dx (putF (Str.ofString "_rows") (V.ref D) [(Str.ofString "_joins", V.ref y)]))) p = some (.ins CL dx [("_joins", .ref y), ("_rows", .ref D)]) := upd_same
    have kF4 := sp3 _ _ (Ne.symm npy) (s3 _ _ kF2)
    generalize upd H3 p (.ins CL dx (putF (Str.ofString "_rows") (V.ref D) [(Str.ofString "_joins", V.ref y)])) = H4 at sx3 hjB hcoB hD4 htx4 hy4 hP4 hp4 kF4 ⊢
    refine ⟨_, rfl, b, a, co, rfl, hcoB, hcok.1, fun H5 cq s5 hcqn hcq => ⟨_, rfl, p, CL, dx, _, rfl, s5 _ _ hp4, J.cl, J.n3, by show 2 < 1000; decide, ?_⟩⟩
    have ncp : cq ≠ p := fun e => by rw [e, hp4] at hcqn; cases hcqn
    have nc0 : H cq = none := by
      cases h : H cq with
      | none => rfl
      | some o => rw [sx3 _ _ ncp h] at hcqn; cases hcqn
    have nDc : D ≠ cq := ne_of_none hD4 hcqn
    have sp5 : ∀ b o, b ≠ p → H5 b = some o → (upd H5 p (.ins CL dx (lF y D cq))) b = some o := fun b o hb e => (upd_ne hb).trans e
    refine q (upd H5 p (.ins CL dx (lF y D cq))) y D cq (fun b o hb e => sp5 _ _ hb (s5 _ _ (sx3 _ _ hb e))) ⟨upd_same, (hjB.same s5).offI (s5 _ _ hp4) (Ne.symm npy) sp5, ⟨ws, sp5 _ _ nDp (s5 _ _ hD4), ?_⟩, sp5 _ _ ncp hcq, nDc, ⟨dj, t', tx, d, e', sp5 _ _ (Ne.symm npy) (s5 _ _ hy4), nxD, ne_of_none htx4 hcqn⟩⟩ ?_
    · exact Paired.mapP hP4 fun _ _ ⟨z, e, hz⟩ => ⟨false, z, e, ne_of hz hD4 (fun z => by cases z), ne_of (s5 _ _ hz) hcq (fun z => by cases z), sp5 _ _ (ne_of (s5 _ _ hz) (s5 _ _ hp4) (fun z => by cases z)) (s5 _ _ hz)⟩
    · intro G hG
      have no : ∀ b, H b = none → ¬ G b := fun b e g => by
        obtain ⟨o, ho⟩ := hG b g
        rw [e] at ho; cases ho
      refine ⟨no _ nD0, no _ nc0, ⟨al, djF, tF, txF, dF, eF, sp5 _ _ (Ne.symm npy) (s5 _ _ kF4), no _ nF1, no _ nF2, no _ nF3⟩, fun ws2 hw z xs hz2 e2 => ?_⟩
      have hw' := sp5 _ _ nDp (s5 _ _ hD4)
      rw [hw] at hw'
      injection hw' with hw'
      injection hw' with hw'
      subst hw'
      obtain ⟨i, hi⟩ := List.mem_iff_getElem?.mp hz2
      obtain ⟨row, _, z', ez, hz'⟩ := Paired.at hP4 hi
      injection ez with ez
      subst ez
      have := sp5 _ _ (ne_of (s5 _ _ hz') (s5 _ _ hp4) (fun z => by cases z)) (s5 _ _ hz')
      rw [e2] at this; cases this
end
end RJ
end

section
set_option maxRecDepth 100000
set_option maxHeartbeats 8000000
namespace RJ
open PySem PySem.Spec PyProof.Rows L2
abbrev s_Joins_pieces : Stmt := inClass (top 26) 1
abbrev N_Joins_pieces : List Str := ["self"]
theorem sc_Joins_pieces : FnScope N_Joins_pieces ["self"] (C8.fnScope s_Joins_pieces) := C8.fnScope_by (by decide +kernel)
abbrev s_Learner_step : Stmt := inClass (top 37) 1
abbrev N_Learner_step : List Str := ["self", "texts", "pair", "piece", "row"]
theorem sc_Learner_step : FnScope N_Learner_step ["self"] (C8.fnScope s_Learner_step) := C8.fnScope_by (by decide +kernel)
def sp_pieces (C : Addr) : Sp := fun vs H Q _ => ∃ (p : Addr) (al : List Nat) (ps : List (Nat × Nat)), vs = [.ref p] ∧ JoinsAt C H p al ps ∧ Q (.int ((al.length + ps.length : Nat) : Int)) H
/-- all but the place p and the table stay -/
def LSameP (p Pt : Addr) (H H' : Hp) : Prop := ∀ b o, b ≠ p → b ≠ Pt → H b = some o → H' b = some o
def sp_lstep (C CL Pt : Addr) : Sp := fun vs H Q _ => ∃ (p : Addr) (al : List Nat) (ps : List (Nat × Nat)) (co : List (List Nat × Nat)) (dx j r c : Addr), vs = [.ref p] ∧ LernAt C CL H p al ps co dx j r c ∧ alOk al = true ∧ al.Nodup ∧ al.length ≤ 30 ∧ Proper al ps ∧ ps.length ≤ 60 ∧ CorpOk al co ∧ LamX.TabS H Pt qLam ∧
  ((ps.length = 60 ∨ nextL al co ps = none) → ∀ H', LSame Pt qLam H H' → Q .non H') ∧
  ∀ pr, ps.length < 60 → nextL al co ps = some pr → ∀ H' g j' r', LSameP p Pt H H' → LamX.TabS H' Pt qLam → LernAt C CL H' p al (ps ++ [pr]) co dx j' r' c → (∀ G, (∀ b, G b → ∃ o, H b = some o) → ¬ G c → Avd C G H' j' r' c) → H' g = some (.tup [.int (pr.1 : Int), .int (pr.2 : Int)]) → Q (.ref g) H'
section
variable {P : Program} {w : World} {K : PySem.W.Frag} {mg : Str → Option Value} {base : Heap}
theorem ok_pieces {f C : Addr} {fd : FuncData} (F : C8.Fun K "pieces" "Joins.pieces" s_Joins_pieces f fd) (T : Txt K mg) (J : JTxt K C) : FnOk P w K mg base C8.CX0 1 f fd ["self"] (sp_pieces C) := by
  refine C8.fn0 F sc_Joins_pieces (fun vs H Q E h => ?_) (fun cdv A outer s H vs Q E hr h => ?_)
  · obtain ⟨p, al, ps, rfl, _⟩ := h; rfl
  · obtain ⟨p, al, ps, rfl, ⟨dx, t, tx, d, e, ws, h1, h2, h3, h4, h5, h6⟩, q⟩ := h
    refine ⟨_, (pss_one (ps_ret (pe_callB call_len_seq (by rfl) T.b_len PySem.boot_len (pa_cons (pe_fld (pv 0) rfl) pa_nil)))), ?_⟩
    refine ⟨_, rfl, p, C, dx, _, _, rfl, h1, J.cl, J.n3, f5_texts al t tx d e, tx, _, rfl, .inl (SqL.of h4), ?_⟩
    rw [strV_len, textsOf_len]; exact q
theorem ok_lstep {f C CL Pt : Addr} {fd : FuncData} (F : C8.Fun K "step" "Learner.step" s_Learner_step f fd) (T : Txt K mg) (JJ : JTxt K C) (J : LTxt K CL) (m___len__ : C8.Met P w K mg base 1 C "__len__" (sp_len C) []) (p_pieces : PrpC P w K mg base 1 C "pieces" (sp_pieces C)) (m_text_of : C8.Met P w K mg base 5 C "text_of" (sp_text_of C) []) (k_Joins : C8.Mak P w K mg base 4 "Joins" C (sp_initF C) [])
    (c_totals_of : C8.Cal P w K mg base 1 "totals_of" (sp_totals Pt qLam) []) (c_next_pair : C8.Cal P w K mg base 1 "next_pair" sp_nextp []) (c_join_neighbors : C8.Cal P w K mg base 1 "join_neighbors" sp_join_neighbors []) : FnOk P w K mg base C8.CX0 7 f fd ["self"] (sp_lstep C CL Pt) := by
  refine C8.fn0 F sc_Learner_step (fun vs H Q E h => ?_) (fun cdv A outer s H vs Q E hr h => ?_)
  · obtain ⟨p, al, ps, co, dx, j, r, c, rfl, _⟩ := h; rfl
  · obtain ⟨p, al, ps, co, dx, j, r, c, rfl, L, hok, hnd, h30, hprop, hpl, hcok, hT, q0, q1⟩ := h
    have hu64 := hu64_of hr
    refine ⟨_, (pss_cons (ps_if (pt_cmpR op_eq (pe_callB (call_lenOwn m___len__ (hr.mono (by decide))) (by rfl) T.b_len PySem.boot_len (pa_cons (pe_fld (pv 0) rfl) pa_nil)) (C8.pe_gc rfl T.c_MOST_JOINS) (nomark _)) (pss_one (ps_ret pe_non)) pss_nil)
      (pss_cons (ps_setLc (own := [("piece", 3)]) (i := 1) (g := gName 3) (tt := tYes) rfl sc_Learner_step.nd rfl rfl (sw_true rfl rfl rfl (by decide +kernel)) (pi_range1 rfl T.b_range (pa_cons (pe_prp p_pieces hr (by first | decide | omega) (pe_fld (pv 0) rfl)) pa_nil)) (blkOk_by (N := N_Learner_step) (sc := C8.fnScope s_Learner_step) (by decide +kernel)) (fun _ _ _ _ _ => (pg_name (i := 3) sc_Learner_step.nd rfl (Or.inl rfl))) (fun _ _ _ _ _ => pts_nil) (fun _ _ _ _ _ => (C8.pe_mt m_text_of hr (by first | decide | omega) (pe_fldK (K := K) rfl (pv 0) rfl) (pa_cons (pv 3) pa_nil))))
      (pss_cons (ps_set (i := 2) sc_Learner_step.nd rfl (Or.inr rfl) (C8.pe_c c_next_pair hr (by first | decide | omega) (by rfl) (pa_cons (C8.pe_c c_totals_of hr (by first | decide | omega) (by rfl) (pa_cons (pe_fld (pv 0) rfl) (pa_cons (pe_fld (pv 0) rfl) pa_nil))) (pa_cons (pv 1) pa_nil))))
      (pss_cons (ps_if (pt_cmpR op_notN (pv 2) pe_non (nomark _)) (pss_cons (ps_fld (pv 0) (pe_lc (own := [("row", 4)]) (g := gName 4) (tt := tYes) rfl sc_Learner_step.nd (pi_list (pe_fld (pv 0) rfl)) (blkOk_by (N := N_Learner_step) (sc := C8.fnScope s_Learner_step) (by decide +kernel)) (fun _ _ _ _ _ => (pg_name (i := 4) sc_Learner_step.nd rfl (Or.inl rfl))) (fun _ _ _ _ _ => pts_nil) (fun _ _ _ _ _ => (C8.pe_c c_join_neighbors hr (by first | decide | omega) (by rfl) (pa_cons (pv 4) (pa_cons (pv 2) (pa_cons (pe_prp p_pieces hr (by first | decide | omega) (pe_fldK (K := K) rfl (pv 0) rfl)) pa_nil)))))) rfl)
      (pss_one (ps_fld (pv 0) (C8.pe_mk k_Joins hr (by first | decide | omega) (by rfl) (pa_cons (pe_fld (pe_fld (pv 0) rfl) rfl) (pa_cons (pe_op op_catA (pe_fld (pe_fld (pv 0) rfl) rfl) (pe_tup (pa_cons (pv 2) pa_nil))) pa_nil))) rfl))) pss_nil)
      (pss_one (ps_ret (pv 2))))))), ?_⟩
    obtain ⟨dj, t, tx, d, e, ws, j1, j2, j3, j4, j5, j6⟩ := id L.js
    refine ⟨_, rfl, p, CL, dx, _, _, rfl, L.ob, J.cl, J.n1, rfl, j, dj, _, rfl, j1, j, al, ps, rfl, L.js, ps.length, rfl, by omega, rfl, _, rfl, ?_⟩
    by_cases h60 : ps.length = 60
    · rw [decide_eq_true (show V.int (ps.length : Int) = V.int 60 by rw [h60]; rfl)]
      exact iteT (q0 (.inl h60) H (LSame.refl hT))
    rw [decide_eq_false (show ¬ V.int (ps.length : Int) = V.int 60 from fun h => h60 (by injection h with h; omega))]
    refine iteF ?_
    refine ⟨_, rfl, p, CL, dx, _, _, rfl, L.ob, J.cl, J.n1, rfl, j, dj, _, rfl, j1, j, al, ps, rfl, L.js, _, rfl, by omega, by omega, fun Dt hDt => lc_it walk_range (fun i H' => Same H H' ∧ H' Dt = some (.lst (strV ((textsOf al ps).take i)))) ⟨same_new hDt, upd_same⟩ (fun _ _ _ _ => trivial) ?_ ?_⟩
    · rintro i x Ha Hb hi ⟨sa, hd⟩ ⟨rfl, hx⟩
      obtain rfl : x = V.int (i : Int) := hx.trans (congrArg V.int (Int.zero_add _))
      have hil : i < al.length + ps.length := by
        have : (i : Int) < ((((al.length + ps.length : Nat) : Int)).toNat : Int) := by exact_mod_cast hi
        omega
      have hte : (textsOf al ps)[i]? = some ((textsOf al ps).getD i []) := by
        rw [List.getD_eq_getElem?_getD, List.getElem?_eq_getElem (show i < (textsOf al ps).length by rw [textsOf_len]; exact hil)]; rfl
      refine ⟨rfl, _, rfl, p, CL, dx, _, _, rfl, sa _ _ L.ob, J.cl, J.n1, rfl, j, dj, _, rfl, sa _ _ j1, f5_no al t tx d e (by decide +kernel) (by decide +kernel) (by decide +kernel) (by decide +kernel) (by decide +kernel), _, rfl, j, i, al, ps, rfl, L.js.same sa, hil, _, hd, ?_, Same.put sa hDt, ?_⟩
      · rw [strV_len, List.length_take, textsOf_len]; exact small1000 (by omega)
      · rw [upd_same, take_succ_of hte]
        exact congrArg (fun l => some (HO.lst l)) (by unfold strV; rw [List.map_append]; rfl)
    rintro H1 ⟨s1, hDt1⟩
    have etk : (((al.length + ps.length : Nat) : Int)).toNat = (textsOf al ps).length := by rw [textsOf_len]; omega
    rw [etk, List.take_length] at hDt1
    have L1 := L.same s1
    obtain ⟨wr, hr1, hPr⟩ := L1.rows
    have hlen : (cutsOf al ps co).length = (co.map (·.2)).length := by unfold cutsOf; rw [List.length_map, List.length_map]
    refine ⟨_, rfl, p, CL, dx, _, _, rfl, L1.ob, J.cl, J.n2, rfl, _, rfl, p, CL, dx, _, _, rfl, L1.ob, J.cl, J.n3, rfl, r, c, cutsOf al ps co, co.map (·.2), rfl, ⟨wr, hr1, Paired.mapP hPr fun _ _ h => h.sq⟩, L1.cnt, hlen, by rw [List.length_map]; exact hcok.1, cutsOf_len hcok, hT.ext s1, fun H2 D us s2 _ hD hP => ?_⟩
    refine ⟨_, rfl, D, Dt, us, _, textsOf al ps, rfl, hD, hP, s2.lst hDt1, hprop.short, next_in hprop.wf hcok, fun v hv => ?_⟩
    have s02 := (LSame.of hT s1).trans s2
    have L2' := L1.lam s2
    have hv' : PairV H2 v (nextL al co ps) := hv
    cases hn : nextL al co ps with
    | none =>
      rw [hn] at hv'
      obtain rfl : v = .non := hv'
      exact ⟨_, rfl, rfl, _, rfl, iteF ⟨_, rfl, q0 (.inr hn) H2 s02⟩⟩
    | some pr =>
      rw [hn] at hv'
      obtain ⟨g, rfl, hg⟩ := hv'
      refine ⟨_, rfl, rfl, _, rfl, iteT ?_⟩
      have hokp := nextP_ok hnd hcok hprop hn
      have hp1 : pr.1 < al.length + ps.length := by have := hokp.1; rw [textsOf_len] at this; exact this
      obtain ⟨wr2, hr2, hPr2⟩ := L2'.rows
      obtain ⟨dj', t', tx', d', e', ws', k1, k2, k3, k4, k5, k6⟩ := id L2'.js
      refine ⟨_, rfl, p, CL, dx, _, _, rfl, L2'.ob, J.cl, J.n2, rfl, r, rfl, ⟨_, SqL.of hr2⟩, fun Dr hDr => lc_it walk_list (fun i H' => Same H2 H' ∧ ∃ wn, H' Dr = some (.lst wn) ∧ Paired (fun v row => ∃ z, v = V.ref z ∧ z ≠ Dr ∧ z ≠ c ∧ H2 z = none ∧ H' z = some (.lst (iv row))) wn (((cutsOf al ps co).take i).map (pass pr.1 pr.2 (al.length + ps.length)))) ⟨same_new hDr, [], upd_same, .nil⟩ (fun i H' _ ⟨sb, _⟩ => SqL.of (sb _ _ hr2)) ?_ ?_⟩
      · rintro i x Ha Hb hi ⟨sb, wn, hd, hw⟩ ⟨rfl, hx⟩
        obtain ⟨row, hrow, bb, zr, rfl, _, _, hzr⟩ := Paired.at hPr2 hx
        have hll := cutsOf_len hcok _ (List.mem_of_getElem? hrow)
        have hcl : (cutsOf al ps co).length ≤ 100 := by rw [hlen, List.length_map]; exact hcok.1
        refine ⟨rfl, _, rfl, _, rfl, _, rfl, p, CL, dx, _, _, rfl, sb _ _ L2'.ob, J.cl, J.n1, rfl, j, dj', _, rfl, sb _ _ k1, j, al, ps, rfl, L2'.js.same sb, bb, zr, g, row, pr.1, pr.2, al.length + ps.length, rfl, hzr.same sb, sb _ _ hg, by omega, hll, fun H3 y s3 hyn hy => ?_⟩
        have hye : y ≠ Dr := Ne.symm (ne_of_none hd hyn)
        have hyc : y ≠ c := Ne.symm (ne_of_none (sb _ _ L2'.cnt) hyn)
        refine ⟨wn, s3 _ _ hd, small1000 (by rw [hw.length, List.length_map, List.length_take]; omega), Same.put (sb.trans s3) hDr, wn ++ [V.ref y], upd_same, ?_⟩
        rw [map_take_succ hrow]
        exact Paired.snoc ⟨y, rfl, hye, hyc, sb.free hyn, (upd_ne hye).trans hy⟩ (Paired.mapP hw fun _ _ ⟨z, e1, n1, n2, n3, h⟩ => ⟨z, e1, n1, n2, n3, (upd_ne n1).trans (s3 _ _ h)⟩)
      rintro H3 ⟨s3, wn, hd3, hw3⟩
      rw [hPr2.length, List.take_length, ← cutsOf_snoc] at hw3
      have hp3 := s3 _ _ L2'.ob
      refine ⟨_, rfl, p, CL, dx, _, rfl, hp3, J.cl, J.n2, by show 3 < 1000; decide, ?_⟩
      have sp4 : ∀ b o, b ≠ p → H3 b = some o → (upd H3 p (.ins CL dx (lF j Dr c))) b = some o := fun b o hb e => (upd_ne hb).trans e
      have hp4 : (upd H3 p (.ins CL dx (lF j Dr c))) p = some (.ins CL dx (lF j Dr c)) := upd_same
      have np : ∀ {b : Addr} {o : HO}, H3 b = some o → (∀ z1 z2 z3, o ≠ .ins z1 z2 z3) → b ≠ p := fun h hn => ne_of h hp3 (fun e => hn _ _ _ e)
      have npj : j ≠ p := fun e => by
        have h1' := s3 _ _ k1
        rw [e, hp3] at h1'
        injection h1' with h1'
        injection h1' with _ _ h1'
        have h := congrArg (fun l => List.lookup ("alphabet" : Str) l) h1'
        rw [show List.lookup ("alphabet" : Str) (f5 al t' tx' d' e') = some (V.str (S al)) from f5_alphabet al t' tx' d' e'] at h
        cases h
      have k1' := sp4 _ _ npj (s3 _ _ k1)
      have k2' := sp4 _ _ (np (s3 _ _ k2) (fun _ _ _ z => by cases z)) (s3 _ _ k2)
      have hal1 : 1 ≤ al.length := by
        cases al with
        | nil => exact absurd hok (by decide)
        | cons _ _ => exact Nat.succ_pos _
      have hT4 : LamX.TabS (upd H3 p (.ins CL dx (lF j Dr c))) Pt qLam := TabS.put (s02.t1.ext s3) hp3 (fun _ z => by cases z) (fun _ z => by cases z)
      have ff : ∀ b, (upd H3 p (.ins CL dx (lF j Dr c))) b = none → H b = none := fun b e => by
        have nb : b ≠ p := fun z => by rw [z, hp4] at e; cases e
        rw [upd_ne nb] at e
        exact s02.free (s3.free e)
      have fin : ∀ (Hm H6 : Hp) (y : Addr), Same (upd H3 p (.ins CL dx (lF j Dr c))) Hm → Same (upd H3 p (.ins CL dx (lF j Dr c))) H6 → JoinsF C Hm H6 y al (ps ++ [pr]) → Q (.ref g) (upd H6 p (.ins CL dx (lF y Dr c))) := by
        intro Hm H6 y sm s6 hjF
        have hj6 := hjF.at
        obtain ⟨djF, tF, txF, dF, eF, vsF, jF1, jF2, jF3, jF4, jF5, jF6, nF1, nF2, nF3⟩ := hjF
        have nF1 := ff _ (sm.free nF1)
        have nF2 := ff _ (sm.free nF2)
        have nF3 := ff _ (sm.free nF3)
        have hp6 := s6 _ _ hp4
        have sp7 : ∀ b o, b ≠ p → H6 b = some o → (upd H6 p (.ins CL dx (lF y Dr c))) b = some o := fun b o hb e => (upd_ne hb).trans e
        obtain ⟨dz, tz, txz, ddz, ez, wz, z1, z2, z3, z4, z5, z6⟩ := id hj6
        have nyp : y ≠ p := fun e => by
          rw [e, hp6] at z1
          injection z1 with z1
          injection z1 with _ _ z1
          have h := congrArg (fun l => List.lookup ("alphabet" : Str) l) z1
          rw [show List.lookup ("alphabet" : Str) (f5 al tz txz ddz ez) = some (V.str (S al)) from f5_alphabet al tz txz ddz ez] at h
          cases h
        have all : ∀ b o, b ≠ p → H3 b = some o → (upd H6 p (.ins CL dx (lF y Dr c))) b = some o := fun b o hb e => sp7 _ _ hb (s6 _ _ (sp4 _ _ hb e))
        have npD : Dr ≠ p := np hd3 (fun _ _ _ z => by cases z)
        have hc3 := s3 _ _ L2'.cnt
        have npc : c ≠ p := np hc3 (fun _ _ _ z => by cases z)
        have nDc : Dr ≠ c := Ne.symm (ne_of_none L2'.cnt hDr)
        have hD6 := s6 _ _ (sp4 _ _ npD hd3)
        have hc6 := s6 _ _ (sp4 _ _ npc hc3)
        have hts : ∃ x l, strV (textsOf al (ps ++ [pr])) = V.str x :: l := by
          cases hte : textsOf al (ps ++ [pr]) with
          | nil => have := congrArg List.length hte; rw [textsOf_len] at this; simp at this
          | cons x l => exact ⟨_, _, rfl⟩
        obtain ⟨x0, l0, hx0⟩ := hts
        have nxD : txz ≠ Dr := fun e => by
          rw [e, hD6, hx0] at z4
          injection z4 with z4
          injection z4 with z4
          obtain ⟨_, _, z, e1, _⟩ := Paired.at hw3 (show wn[0]? = some (V.str x0) by rw [z4]; rfl)
          cases e1
        have nxc : txz ≠ c := fun e => by
          rw [e, hc6, hx0] at z4
          injection z4 with z4
          injection z4 with z4
          cases co with
          | nil => cases z4
          | cons a t => injection z4 with z4 _; cases z4
        refine q1 pr (by omega) hn _ g y Dr (fun b o hb hbP e => all _ _ hb (s3 _ _ (s02.x b o hbP e))) ?_ ⟨upd_same, hj6.offI hp6 nyp sp7, ⟨wn, sp7 _ _ npD hD6, ?_⟩, sp7 _ _ npc hc6, nDc, ⟨dz, tz, txz, ddz, ez, sp7 _ _ nyp z1, nxD, nxc⟩⟩ ?_ ?_
        · exact TabS.put (hT4.ext s6) hp6 (fun _ z => by cases z) (fun _ z => by cases z)
        · exact Paired.mapP hw3 fun _ _ ⟨z, e1, n1, n2, _, h⟩ => ⟨true, z, e1, n1, n2, all _ _ (np h (fun _ _ _ z => by cases z)) h⟩
        · intro G hG hGc
          have no : ∀ b, H b = none → ¬ G b := fun b e g => by
            obtain ⟨o, ho⟩ := hG b g
            rw [e] at ho; cases ho
          refine ⟨no _ (s02.free hDr), hGc, ⟨al, djF, tF, txF, dF, eF, sp7 _ _ nyp jF1, no _ nF1, no _ nF2, no _ nF3⟩, fun ws2 hw z xs hz2 e2 => ?_⟩
          have hw' := sp7 _ _ npD hD6
          rw [hw] at hw'
          injection hw' with hw'
          injection hw' with hw'
          subst hw'
          obtain ⟨i, hi⟩ := List.mem_iff_getElem?.mp hz2
          obtain ⟨row, _, z', ez, _, _, n3, _⟩ := Paired.at hw3 hi
          injection ez with ez
          subst ez
          exact no _ (s02.free n3)
        · exact all _ _ (np (s3 _ _ hg) (fun _ _ _ z => by cases z)) (s3 _ _ hg)
      refine ⟨_, rfl, p, CL, dx, _, _, rfl, hp4, J.cl, J.n1, rfl, j, C, dj', _, _, rfl, k1', JJ.cl, JJ.n1, f5_alphabet al t' tx' d' e', ?_⟩
      refine ⟨_, rfl, p, CL, dx, _, _, rfl, hp4, J.cl, J.n1, rfl, j, C, dj', _, _, rfl, k1', JJ.cl, JJ.n2, f5_pairs al t' tx' d' e', _, rfl, by show 1 ≤ sizeLine; decide, fun g1 hg1 => ?_⟩
      have hg4 := sp4 _ _ (np (s3 _ _ hg) (fun _ _ _ z => by cases z)) (s3 _ _ hg)
      have k3' : PairsAt (upd H3 p (.ins CL dx (lF j Dr c))) ws' ps := PairsAt.same k3 (fun b xs e => sp4 _ _ (np (s3 _ _ e) (fun _ _ _ z => by cases z)) (s3 _ _ e))
      have hwsl : ws'.length = ps.length := Paired.length k3
      have sg1 := same_new (o := .tup [V.ref g]) hg1
      refine ⟨t', g1, ws', [V.ref g], rfl, rfl, SqT.of (sg1 _ _ k2'), SqT.of upd_same, by rw [hwsl]; exact small_le (by simp only [List.length_singleton]; omega), fun hx => ?_, (fun _ h => by cases h), fun _ _ pa hpa => ?_⟩
      · have hps0 : ps = [] := List.length_eq_zero_iff.mp (by rw [← hwsl, hx]; rfl)
        have s45 : Same (upd H3 p (.ins CL dx (lF j Dr c))) (upd (upd H3 p (.ins CL dx (lF j Dr c))) g1 (.tup [V.ref g])) := sg1
        have hpa5 : (upd (upd H3 p (.ins CL dx (lF j Dr c))) g1 (.tup [V.ref g])) g1 = some (.tup [V.ref g]) := upd_same
        have hps5 : PairsAt (upd (upd H3 p (.ins CL dx (lF j Dr c))) g1 (.tup [V.ref g])) [V.ref g] (ps ++ [pr]) := by rw [hps0]; exact .cons ⟨g, rfl, sg1 _ _ hg4⟩ .nil
        refine fun y dy ny0 ndy0 ney => ?_
        have ny : (upd (upd H3 p (.ins CL dx (lF j Dr c))) g1 (.tup [V.ref g])) y = none := ny0
        have ndy : (upd (upd H3 p (.ins CL dx (lF j Dr c))) g1 (.tup [V.ref g])) dy = none := ndy0
        have npa : g1 ≠ y := ne_of_none hpa5 ny
        have npd : g1 ≠ dy := ne_of_none hpa5 ndy
        have sM : ∀ (b : Addr) (o : HO), (upd (upd H3 p (.ins CL dx (lF j Dr c))) g1 (.tup [V.ref g])) b = some o → b ≠ y ∧ (upd (upd (upd (upd H3 p (.ins CL dx (lF j Dr c))) g1 (.tup [V.ref g])) dy (.own y)) y (.ins C dy [])) b = some o := fun b o e => ⟨ne_of_none e ny, (upd_ne (ne_of_none e ny)).trans ((upd_ne (ne_of_none e ndy)).trans e)⟩
        refine ⟨y, g1, dy, false, al, ps ++ [pr], [V.ref g], rfl, upd_same, (sM _ _ hpa5).2, hps5.same (fun b xs e => (sM b _ e).2), hok, hnd, h30, hprop.snoc hokp, by rw [List.length_append, List.length_singleton]; omega, fun H6 sx hj6 => ⟨rfl, ?_⟩⟩
        have s6 : Same (upd H3 p (.ins CL dx (lF j Dr c))) H6 := s45.trans fun b o e => sx b o (sM b o e).1 (sM b o e).2
        exact ⟨_, rfl, p, CL, dx, _, rfl, s6 _ _ hp4, J.cl, J.n1, by show 3 < 1000; decide, _, rfl, fin _ H6 y (s45.trans fun b o e => (sM b o e).2) s6 hj6⟩
      · have spa := same_new (o := .tup (ws' ++ [V.ref g])) hpa
        have s45 : Same (upd H3 p (.ins CL dx (lF j Dr c))) (upd (upd (upd H3 p (.ins CL dx (lF j Dr c))) g1 (.tup [V.ref g])) pa (.tup (ws' ++ [V.ref g]))) := sg1.trans spa
        have hpa5 : (upd (upd (upd H3 p (.ins CL dx (lF j Dr c))) g1 (.tup [V.ref g])) pa (.tup (ws' ++ [V.ref g]))) pa = some (.tup (ws' ++ [V.ref g])) := upd_same
        have hps5 : PairsAt (upd (upd (upd H3 p (.ins CL dx (lF j Dr c))) g1 (.tup [V.ref g])) pa (.tup (ws' ++ [V.ref g]))) (ws' ++ [V.ref g]) (ps ++ [pr]) := Paired.snoc ⟨g, rfl, spa _ _ (sg1 _ _ hg4)⟩ (PairsAt.same k3' (Same.t (sg1.trans spa)))
        refine fun y dy ny0 ndy0 ney => ?_
        have ny : (upd (upd (upd H3 p (.ins CL dx (lF j Dr c))) g1 (.tup [V.ref g])) pa (.tup (ws' ++ [V.ref g]))) y = none := ny0
        have ndy : (upd (upd (upd H3 p (.ins CL dx (lF j Dr c))) g1 (.tup [V.ref g])) pa (.tup (ws' ++ [V.ref g]))) dy = none := ndy0
        have npa : pa ≠ y := ne_of_none hpa5 ny
        have npd : pa ≠ dy := ne_of_none hpa5 ndy
        have sM : ∀ (b : Addr) (o : HO), (upd (upd (upd H3 p (.ins CL dx (lF j Dr c))) g1 (.tup [V.ref g])) pa (.tup (ws' ++ [V.ref g]))) b = some o → b ≠ y ∧ (upd (upd (upd (upd (upd H3 p (.ins CL dx (lF j Dr c))) g1 (.tup [V.ref g])) pa (.tup (ws' ++ [V.ref g]))) dy (.own y)) y (.ins C dy [])) b = some o := fun b o e => ⟨ne_of_none e ny, (upd_ne (ne_of_none e ny)).trans ((upd_ne (ne_of_none e ndy)).trans e)⟩
        refine ⟨y, pa, dy, false, al, ps ++ [pr], (ws' ++ [V.ref g]), rfl, upd_same, (sM _ _ hpa5).2, hps5.same (fun b xs e => (sM b _ e).2), hok, hnd, h30, hprop.snoc hokp, by rw [List.length_append, List.length_singleton]; omega, fun H6 sx hj6 => ⟨rfl, ?_⟩⟩
        have s6 : Same (upd H3 p (.ins CL dx (lF j Dr c))) H6 := s45.trans fun b o e => sx b o (sM b o e).1 (sM b o e).2
        exact ⟨_, rfl, p, CL, dx, _, rfl, s6 _ _ hp4, J.cl, J.n1, by show 3 < 1000; decide, _, rfl, fin _ H6 y (s45.trans fun b o e => (sM b o e).2) s6 hj6⟩
end
end RJ
end

section
set_option maxRecDepth 100000
set_option maxHeartbeats 8000000
namespace RJ
open PySem PySem.Spec PyProof.Rows L2
abbrev s__law_neighbors : Stmt := top 46
abbrev N__law_neighbors : List Str := ["joins", "corpus", "totals", "text", "count", "row", "rank", "at", "pair", "order", "sign", "total"]
theorem sc__law_neighbors : FnScope N__law_neighbors ["joins", "corpus"] (C8.fnScope s__law_neighbors) := C8.fnScope_by (by decide +kernel)
theorem adjs_len (r : List Nat) : (adjs r).length = r.length - 1 := by
  unfold adjs
  rw [List.length_zip, List.length_tail]; omega
theorem EntW.same {H H' : Hp} {u : V} {e : Ent} (s : SameT H H') (h : EntW H u e) : EntW H' u e := by
  obtain ⟨a, g, h1, h2, h3⟩ := h
  exact ⟨a, g, h1, s _ _ h2, s _ _ h3⟩
theorem addT_keys (T : List Tot) (p : Nat × Nat) (c : Nat) : (addT T p c).map (·.1) = if p ∈ T.map (·.1) then T.map (·.1) else T.map (·.1) ++ [p] := by
  unfold addT
  by_cases m : p ∈ T.map (·.1)
  · rw [if_pos m, if_pos m, List.map_map]
    refine List.map_congr_left fun e _ => ?_
    show (if e.1 = p then (e.1, getT T p + c) else e).1 = e.1
    split <;> rfl
  · rw [if_neg m, if_neg m, List.map_append]; rfl
theorem addT_nd {T : List Tot} {p : Nat × Nat} {c : Nat} (h : (T.map (·.1)).Nodup) : ((addT T p c).map (·.1)).Nodup := by
  rw [addT_keys]
  split
  · exact h
  · rename_i m
    exact List.nodup_append.mpr ⟨h, List.nodup_cons.mpr ⟨by simp, List.nodup_nil⟩, fun a ha b hb e => m (by rw [← List.mem_singleton.mp hb, ← e]; exact ha)⟩
theorem rowT_nd {c : Nat} : ∀ {l : List (Nat × Nat)} {T : List Tot}, (T.map (·.1)).Nodup → ((rowT T l c).map (·.1)).Nodup
  | [], _, h => h
  | _ :: l, _, h => rowT_nd (l := l) (addT_nd h)
theorem totL_nd (rs : List (List Nat)) (cs : List Nat) : ((totL rs cs).map (·.1)).Nodup := by
  have gen : ∀ (l : List (List Nat × Nat)) (T : List Tot), (T.map (·.1)).Nodup → ((l.foldl (fun T e => rowT T (adjs e.1) e.2) T).map (·.1)).Nodup := by
    intro l
    induction l with
    | nil => exact fun T h => h
    | cons x l ih => exact fun T h => ih _ (rowT_nd h)
  exact gen _ _ List.nodup_nil
theorem getT_mem {e : Tot} : ∀ {T : List Tot}, (T.map (·.1)).Nodup → e ∈ T → getT T e.1 = e.2
  | x :: T, hn, h => by
    rw [List.map_cons, List.nodup_cons] at hn
    show (if x.1 = e.1 then x.2 else getT T e.1) = e.2
    rcases List.mem_cons.mp h with rfl | h
    · rw [if_pos rfl]
    · rw [if_neg fun z : x.1 = e.1 => hn.1 (z ▸ List.mem_map_of_mem h)]
      exact getT_mem hn.2 h
theorem totG {T : List Tot} {e : Tot} (hn : (T.map (·.1)).Nodup) (h : e ∈ T) : valV (kvsN T) (pkey e.1) = some (V.int (e.2 : Int)) := by
  rw [kvsN_get, if_pos (List.mem_map_of_mem h), getT_mem hn h]
def sp_lneighbors : Sp := fun vs H Q _ => ∃ (l : Lj) (a : Addr) (al : List Nat) (ps : List (Nat × Nat)) (co : List (List Nat × Nat)), vs = [.ref l.j, .ref a] ∧ LjAt l H al ps ∧ WF al.length ps ∧ al.length ≤ 1000 ∧ ps.length ≤ 100 ∧ CorpT true H a co ∧ CorpOk al co ∧
  ∀ H' z us, Same H H' → H z = none → H' z = some (.tup us) → Paired (TotV H') us (srtT (totL (cutsOf al ps co) (co.map (·.2)))) → Q (.ref z) H'
section
variable {P : Program} {w : World} {K : PySem.W.Frag} {mg : Str → Option Value} {base : Heap}
theorem ok_lneighbors {f : Addr} {fd : FuncData} (F : C8.Fun K "_law_neighbors" "_law_neighbors" s__law_neighbors f fd) (T : Txt K mg) (c__law_joined : C8.Cal P w K mg base 1 "_law_joined" sp_joinedC []) : FnOk P w K mg base C8.CX0 2 f fd ["joins", "corpus"] sp_lneighbors := by
  refine C8.fn0 F sc__law_neighbors (fun vs H Q E h => ?_) (fun cdv A outer s H vs Q E hr h => ?_)
  · obtain ⟨l, a, al, ps, co, rfl, _⟩ := h; rfl
  · obtain ⟨l, a, al, ps, co, rfl, hL, hw, hal, hpl, hco, hcok, q⟩ := h
    have hu := hu_of hr
    refine ⟨_, (pss_cons (ps_set (i := 2) sc__law_neighbors.nd rfl (Or.inr rfl) pe_dnewT)
      (pss_cons (ps_for PassesOwn.never rfl (pi_list (pv 1)) (pg_tup rfl (pgs_cons (pg_name (i := 3) sc__law_neighbors.nd rfl (Or.inl rfl)) (pgs_cons (pg_name (i := 4) sc__law_neighbors.nd rfl (Or.inl rfl)) pgs_nil))) (pss_cons (ps_setLc (own := [("sign", 10)]) (i := 5) (g := gName 10) (tt := tYes) rfl sc__law_neighbors.nd rfl rfl (sw_true rfl rfl rfl (by decide +kernel)) (pi_str (pv 3)) (blkOk_by (N := N__law_neighbors) (sc := C8.fnScope s__law_neighbors) (by decide +kernel)) (fun _ _ _ _ _ => (pg_name (i := 10) sc__law_neighbors.nd rfl (Or.inl rfl))) (fun _ _ _ _ _ => pts_nil) (fun _ _ _ _ _ => (pe_bmK (K := K) rfl PySem.F.plainAttrs_str PySem.F.slot_str_index PySem.F.type_str_index mt_sindex (pe_dget hu (pv 0) pe_str (fun _ _ => rfl)) (pa_cons (pv 10) pa_nil))))
      (pss_cons (ps_for PassesOwn.never rfl (pi_range1 rfl T.b_range (pa_cons (pe_callB call_len_seq (by rfl) T.b_len PySem.boot_len (pa_cons (pe_dget hu (pv 0) pe_str (fun _ _ => rfl)) pa_nil)) pa_nil)) (pg_name (i := 6) sc__law_neighbors.nd rfl (Or.inl rfl)) (pss_one (ps_set (i := 5) sc__law_neighbors.nd rfl (Or.inl rfl) (C8.pe_c c__law_joined hr (by first | decide | omega) (by rfl) (pa_cons (pv 0) (pa_cons (pv 5) (pa_cons (pv 6) pa_nil)))))))
      (pss_one (ps_for PassesOwn.never rfl (pi_range1 rfl T.b_range (pa_cons (pe_op op_sub (pe_callB call_len_seq (by rfl) T.b_len PySem.boot_len (pa_cons (pv 5) pa_nil)) pe_int) pa_nil)) (pg_name (i := 7) sc__law_neighbors.nd rfl (Or.inl rfl)) (pss_cons (ps_set (i := 8) sc__law_neighbors.nd rfl (Or.inl rfl) (pe_tup (pa_cons (pe_ix ix_list (pv 5) (pv 7) (fun _ _ => rfl)) (pa_cons (pe_ix ix_list (pv 5) (pe_op op_add (pv 7) pe_int) (fun _ _ => rfl)) pa_nil))))
      (pss_one (ps_dput hu (pv 2) (pv 8) (pe_op op_add (pe_dget2 hu (pv 2) (pv 8) pe_int ⟨by rfl, by rfl, by rfl, by rfl⟩) (pv 4)) rfl))))))))
      (pss_cons (ps_set (i := 9) sc__law_neighbors.nd rfl (Or.inl rfl) (pe_callB (cr_sortedE hr) (by rfl) T.b_sorted (by decide +kernel) (pa_cons (pe_lock (pe_lc (own := [("pair", 8)]) (g := gName 8) (tt := tYes) rfl sc__law_neighbors.nd (pi_keys (pv 2)) (blkOk_by (N := N__law_neighbors) (sc := C8.fnScope s__law_neighbors) (by decide +kernel)) (fun _ _ _ _ _ => (pg_name (i := 8) sc__law_neighbors.nd rfl (Or.inl rfl))) (fun _ _ _ _ _ => pts_nil) (fun _ _ _ _ _ => (pe_tup (pa_cons (pe_op op_sub pe_int (pe_dget hu (pv 2) (pv 8) (fun _ _ => rfl))) (pa_cons (pv 8) pa_nil)))))) pa_nil)))
      (pss_one (ps_ret (pe_tupleOf (by rfl) T.b_tuple (pe_lc (own := [("total", 11), ("pair", 8)]) (g := gTup K 2 (gCons (gName 11) (gCons (gName 8) (gNil)))) (tt := tYes) rfl sc__law_neighbors.nd (pi_list (pv 9)) (blkOk_by (N := N__law_neighbors) (sc := C8.fnScope s__law_neighbors) (by decide +kernel)) (fun _ _ _ _ _ => (pg_tup rfl (pgs_cons (pg_name (i := 11) sc__law_neighbors.nd rfl (Or.inl rfl)) (pgs_cons (pg_name (i := 8) sc__law_neighbors.nd rfl (Or.inl rfl)) pgs_nil)))) (fun _ _ _ _ _ => pts_nil) (fun _ _ _ _ _ => (pe_tup (pa_cons (pv 8) (pa_cons (pe_op op_sub pe_int (pv 11)) pa_nil))))))))))), ?_⟩
    obtain ⟨us, hus, hP⟩ := id hco
    have hus' : H a = some (.lst us) := hus
    refine fun d hd => ?_
    have sd := same_new (o := .dT []) hd
    obtain ⟨rs, hrs⟩ : ∃ rs, rs = cutsOf al ps co := ⟨_, rfl⟩
    obtain ⟨cs, hcs⟩ : ∃ cs, cs = co.map (·.2) := ⟨_, rfl⟩
    have hrl : rs.length = co.length := by rw [hrs]; unfold cutsOf; rw [List.length_map]
    have hcl : cs.length = co.length := by rw [hcs, List.length_map]
    have len : (rs.zip cs).length = co.length := by rw [List.length_zip, hrl, hcl, Nat.min_self]
    have hull : us.length = co.length := hP.length
    refine ⟨_, rfl, a, rfl, ⟨_, SqL.of (sd _ _ hus')⟩, for_it walk_list (fun i σ H' => ∃ (v3 v4 v5 v6 v7 v8 v9 v10 v11 : Option V), σ = [some (.ref l.j), some (.ref a), some (.ref d), v3, v4, v5, v6, v7, v8, v9, v10, v11] ∧ Same H H' ∧ H' d = some (.dT (kvsN (((rs.zip cs).take i).foldl (fun T e => rowT T (adjs e.1) e.2) []))) ∧ (((rs.zip cs).take i).foldl (fun T e => rowT T (adjs e.1) e.2) []).length ≤ i * 1000)
      ⟨none, none, none, none, none, none, none, none, none, rfl, sd, upd_same, Nat.zero_le _⟩ (fun i σ H' _ ⟨_, _, _, _, _, _, _, _, _, _, s', _⟩ => SqL.of (s' _ _ hus')) ?_ ?_⟩
    · rintro i x σ H1 H2 hi ⟨v3, v4, v5, v6, v7, v8, v9, v10, v11, rfl, sa, hdd, hlen⟩ ⟨rfl, hx⟩
      obtain ⟨e, he, g, rfl, hg⟩ := Paired.at hP hx
      have hil : i < co.length := (List.getElem?_eq_some_iff.mp he).1
      obtain ⟨hem, hel⟩ := hcok.2 e (List.mem_of_getElem? he)
      have hi100 : i < 100 := by have := hcok.1; omega
      have hrow : rs[i]? = some (cutL al.length ps (lets al e.1)) := by rw [hrs]; unfold cutsOf; rw [List.getElem?_map, he]; rfl
      have hcsi : cs[i]? = some e.2 := by rw [hcs, List.getElem?_map, he]; rfl
      have hzip : (rs.zip cs)[i]? = some (cutL al.length ps (lets al e.1), e.2) := List.getElem?_zip_eq_some.mpr ⟨hrow, hcsi⟩
      have hrowl : (cutL al.length ps (lets al e.1)).length ≤ 1000 := cutsOf_len hcok _ (by rw [← hrs]; exact List.mem_of_getElem? hrow)
      generalize hT0 : ((rs.zip cs).take i).foldl (fun T e => rowT T (adjs e.1) e.2) [] = T0 at hdd hlen
      have hstep : ((rs.zip cs).take (i + 1)).foldl (fun T e => rowT T (adjs e.1) e.2) [] = rowT T0 (adjs (cutL al.length ps (lets al e.1))) e.2 := by
        rw [take_succ_of hzip, List.foldl_append, hT0]; rfl
      refine ⟨g, _, rfl, SqT.of (sa _ _ hg), rfl, _, _, rfl, _, _, rfl, rfl, ?_⟩
      refine ⟨_, rfl, S e.1, rfl, fun D0 hD0 => lc_it walk_str (fun i H' => Same H2 H' ∧ H' D0 = some (.lst (iv (lets al (e.1.take i))))) ⟨same_new hD0, upd_same⟩ (fun _ _ _ _ => trivial) ?_ ?_⟩
      · rintro i2 x2 Hd He hi2 ⟨sb2, hd2⟩ ⟨rfl, c, hc, rfl⟩
        rw [S_get] at hc
        obtain ⟨r, hfind⟩ := find_sign (hem c (List.mem_of_getElem? hc))
        refine ⟨rfl, _, rfl, l.j, _, rfl, dk (sb2 _ _ (sa _ _ hL.d)) rfl, rfl, _, rfl, S al, S [c], al.idxOf c, r, rfl, rfl, hfind, _, hd2, ?_, Same.put sb2 hD0, ?_⟩
        · rw [iv_len, lets, List.length_map, List.length_take]; exact small1000 (by omega)
        · rw [upd_same, iv_snoc, lets, lets, map_take_succ hc]
      rintro H9 ⟨s9, h9⟩
      rw [S_size, List.take_length] at h9
      have llen : (lets al e.1).length = e.1.length := by rw [lets, List.length_map]
      have s09 := sa.trans s9
      obtain ⟨pus, hpus, hps⟩ := hL.p
      have hpn : pus.length = ps.length := hps.length
      refine ⟨_, rfl, l.j, _, rfl, dk (s09 _ _ hL.d) rfl, l.pp, pus, rfl, .inl (SqL.of (s09 _ _ hpus)), _, rfl, by omega, by omega, for_it walk_range (fun j σ H' => ∃ (r : Addr) (v6 v7 v8 v9 v10 v11 : Option V), σ = [some (.ref l.j), some (.ref a), some (.ref d), some (.str (S e.1)), some (.int (e.2 : Int)), some (.ref r), v6, v7, v8, v9, v10, v11] ∧ Same H2 H' ∧ H' r = some (.lst (iv (cutL al.length (ps.take j) (lets al e.1))))) ⟨D0, v6, v7, v8, v9, v10, v11, rfl, s9, h9⟩ (fun _ _ _ _ _ => trivial) ?_ ?_⟩
      · rintro j x σ Hd He hj ⟨r, w6, w7, w8, w9, w10, w11, rfl, sb, hr1⟩ ⟨rfl, hx⟩
        obtain rfl : x = V.int (j : Int) := hx.trans (congrArg V.int (Int.zero_add _))
        have hjp : j < ps.length := by rw [← hpn]; simpa using hj
        obtain ⟨pr, hpr⟩ : ∃ pr, ps[j]? = some pr := ⟨_, List.getElem?_eq_getElem hjp⟩
        have hlen2 := cutL_len al.length (ps.take j) (lets al e.1)
        refine ⟨_, rfl, _, rfl, _, rfl, l, r, al, _, ps, j, pr, rfl, hL.same (sa.trans sb), hw, by omega, hr1, by omega, hpr, fun H2' z s2 hz0 hz => ?_⟩
        have hz' : H2' z = some (.lst (iv (cutL al.length (ps.take (j + 1)) (lets al e.1)))) := by rw [take_succ_of hpr, cutL_snoc, take_len_of hpr]; exact hz
        exact ⟨z, _, _, _, _, _, _, rfl, sb.trans s2, hz'⟩
      rintro σ H3 ⟨r, w6, w7, w8, w9, w10, w11, rfl, sb, hr1⟩
      have hpe : ps.take (((pus.length : Nat) : Int)).toNat = ps := by rw [Int.toNat_natCast, hpn, List.take_length]
      rw [hpe] at hr1
      generalize hrowe : cutL al.length ps (lets al e.1) = row at hr1 hstep hrowl hzip hrow
      have hd3 := sb _ _ hdd
      have sa3 := sa.trans sb
      refine ⟨_, rfl, r, _, rfl, .inl (SqL.of hr1), _, _, rfl, rfl, _, rfl, ?_⟩
      have hal2 := adjs_len row
      have hal : ((((iv row).length : Int) - 1)).toNat = (adjs row).length := by rw [adjs_len, iv_len]; omega
      have hil2 : (iv row).length = row.length := iv_len _
      refine ⟨by omega, by omega, ?_⟩
      refine for_it walk_range (fun j σ H' => ∃ (w7 w8 w9 w10 w11 : Option V), σ = [some (.ref l.j), some (.ref a), some (.ref d), some (.str (S e.1)), some (.int (e.2 : Int)), some (.ref r), w6, w7, w8, w9, w10, w11] ∧ Same H H' ∧ H' r = some (.lst (iv row)) ∧ H' d = some (.dT (kvsN (rowT T0 ((adjs row).take j) e.2))))
        ⟨w7, w8, w9, w10, w11, rfl, sa3, hr1, hd3⟩ (fun _ _ _ _ _ => trivial) ?_ ?_
      · rintro j x σ H5 H6 hj ⟨x7, x8, x9, x10, x11, rfl, sc, hr5, hd5⟩ ⟨rfl, hx⟩
        obtain rfl : x = V.int (j : Int) := hx.trans (congrArg V.int (Int.zero_add _))
        have hj' : j < (adjs row).length := by rw [← hal]; simpa using hj
        obtain ⟨⟨n1, n2⟩, hadj⟩ : ∃ p, (adjs row)[j]? = some p := ⟨_, List.getElem?_eq_getElem hj'⟩
        obtain ⟨hn1, hn2⟩ : row[j]? = some n1 ∧ row[j + 1]? = some n2 := by
          unfold adjs at hadj
          rw [List.getElem?_zip_eq_some] at hadj
          exact ⟨hadj.1, by rw [← List.getElem?_tail]; exact hadj.2⟩
        have at1 : atI (iv row) (j : Int) = some (V.int (n1 : Int)) := atI_nat (iv_at hn1)
        have at2 : atI (iv row) ((j : Int) + 1) = some (V.int (n2 : Int)) := atI_nat (iv_at hn2)
        refine ⟨_, rfl, _, rfl, r, _, _, _, rfl, rfl, SqL.of hr5, at1, ?_⟩
        refine ⟨_, rfl, _, rfl, _, _, rfl, rfl, r, _, _, _, rfl, rfl, SqL.of hr5, at2, by show 2 ≤ sizeLine; decide, fun Tt hTt => ?_⟩
        have st := same_new (o := .tup [V.int (n1 : Int), V.int (n2 : Int)]) hTt
        have hT6 : (upd H6 Tt (.tup [V.int (n1 : Int), V.int (n2 : Int)])) Tt = some (.tup ((pkey (n1, n2)).map kV)) := upd_same
        have hd6 := st _ _ hd5
        have hr6 := st _ _ hr5
        have sc6 := sc.trans st
        generalize upd H6 Tt (.tup [V.int (n1 : Int), V.int (n2 : Int)]) = H7 at st hT6 hd6 sc6 hr6 ⊢
        generalize hT1 : rowT T0 ((adjs row).take j) e.2 = T1 at hd6
        have hlen1 : T1.length ≤ i * 1000 + j := by
          rw [← hT1]
          have := rowT_len e.2 ((adjs row).take j) T0
          rw [List.length_take] at this; omega
        have hstep2 : rowT T0 ((adjs row).take (j + 1)) e.2 = addT T1 (n1, n2) e.2 := by
          rw [take_succ_of hadj, ← hT1]
          unfold rowT
          rw [List.foldl_append]; rfl
        have hg2 : DGet H7 d (.ref Tt) (valV (kvsN T1) (pkey (n1, n2))) := DGet.t hd6 hT6
        have ho : (valV (kvsN T1) (pkey (n1, n2))).getD (V.int 0) = V.int (getT T1 (n1, n2) : Int) := by
          rw [kvsN_get]
          by_cases m : (n1, n2) ∈ T1.map (·.1)
          · rw [if_pos m]; rfl
          · rw [if_neg m, getT_none m]; rfl
        have hput : DPut H7 d (.ref Tt) (V.int ((getT T1 (n1, n2) : Int) + (e.2 : Int))) (upd H7 d (.dT (kvsN (addT T1 (n1, n2) e.2)))) := by
          have h := DPut.t (v := V.int ((getT T1 (n1, n2) + e.2 : Nat) : Int)) hd6 hT6 (by unfold kvsN; rw [List.length_map]; exact Nat.lt_of_lt_of_le (show T1.length < 200000 by omega) (by rw [sizeLine_eq]; decide))
          rw [kvsN_put, Int.natCast_add] at h
          exact h
        have hrd : r ≠ d := ne_of hr6 hd6 (fun z => by cases z)
        refine ⟨_, rfl, d, rfl, .inr ⟨_, .inl hd6⟩, _, rfl, _, hg2, ?_⟩
        refine ⟨_, rfl, _, _, ho, rfl, _, rfl, _, rfl, d, _, rfl, hput, ?_⟩
        exact ⟨_, _, _, _, _, rfl, Same.put sc6 hd, (upd_ne hrd).trans hr6, by rw [hstep2]; exact upd_same⟩
      · rintro σ H5 ⟨x7, x8, x9, x10, x11, rfl, sc, hr5, hd5⟩
        rw [hal, List.take_length] at hd5
        refine ⟨_, _, _, _, _, _, _, _, _, rfl, sc, by rw [hstep]; exact hd5, ?_⟩
        rw [hstep]
        have := rowT_len e.2 (adjs row) T0
        omega
    · rintro σ H1 ⟨v3, v4, v5, v6, v7, v8, v9, v10, v11, rfl, sa, hdd, hlen⟩
      rw [hull, ← len, List.take_length] at hdd hlen
      have hdd1 : H1 d = some (.dT (kvsN (totL rs cs))) := hdd
      have hlen1 : (totL rs cs).length ≤ 100000 := by
        have h100 := hcok.1
        have : (totL rs cs).length ≤ (rs.zip cs).length * 1000 := hlen
        omega
      have hnd := totL_nd rs cs
      obtain ⟨od0, hfr⟩ : ∃ z : Nat, z = 0 := ⟨0, rfl⟩
      refine ⟨d, _, hdd1, trivial, fun od => ⟨_, rfl, d, od, rfl, .inr ⟨_, upd_same, fun D hD => ?_⟩⟩⟩
      obtain ⟨Hz, hHz⟩ : ∃ Hz, Hz = upd H1 d (.frz od (.dT (kvsN (totL rs cs)))) := ⟨_, rfl⟩
      rw [← hHz] at hD ⊢
      have hdz : Hz d = some (.frz od (.dT (kvsN (totL rs cs)))) := by rw [hHz]; exact upd_same
      have nDd : D ≠ d := fun z => by rw [z, hdz] at hD; cases hD
      have sz : ∀ b o, b ≠ d → H1 b = some o → Hz b = some o := fun b o hb e => by rw [hHz, upd_ne hb]; exact e
      refine lc_it walk_keysT (fun i H' => Same Hz H' ∧ ∃ ws, H' D = some (.lst ws) ∧ Paired (EntW H') ws (((totL rs cs).take i).map toEnt)) ⟨same_new hD, [], upd_same, .nil⟩ (fun j H' _ ⟨s', _⟩ => s' _ _ hdz) ?_ ?_
      · rintro i x H3 H4 hi ⟨sb, ws, hws, hPw⟩ ⟨rfl, k, v, g, hk, rfl, hg⟩
        have hT : kvsN (totL rs cs) = (totL rs cs).map fun e : Tot => ((pkey e.1, V.int (e.2 : Int)) : List Key × V) := rfl
        rw [hT, List.getElem?_map] at hk
        obtain ⟨e, he, hek⟩ := Option.map_eq_some_iff.mp hk
        injection hek with hk1 hv1
        subst hk1 hv1
        have hget : DGet H4 d (.ref g) (some (V.int (e.2 : Int))) := by
          rw [← totG hnd (List.mem_of_getElem? he)]
          exact .inr ⟨_, _, g, .inr ⟨od, sb _ _ hdz⟩, rfl, hg, rfl⟩
        refine ⟨rfl, _, rfl, _, rfl, d, _, rfl, hget, _, _, rfl, rfl, _, rfl, by show 2 ≤ sizeLine; decide, fun g2 hg2 => ?_⟩
        dsimp only
        rw [Int.zero_sub]
        have sg := same_new (o := .tup [V.int (-(e.2 : Int)), V.ref g]) hg2
        have hil : i < (totL rs cs).length := (List.getElem?_eq_some_iff.mp he).1
        refine ⟨ws, sg _ _ hws, ?_, Same.put (sb.trans sg) hD, ws ++ [.ref g2], upd_same, ?_⟩
        · rw [hPw.length, List.length_map, List.length_take]; exact Nat.lt_of_lt_of_le (show _ < 200000 by omega) (by rw [sizeLine_eq]; decide)
        · have sT := SameT.put (o := .lst (ws ++ [.ref g2])) (sg _ _ hws)
          rw [take_succ_of he, List.map_append]
          exact Paired.snoc ⟨g2, g, rfl, sT _ _ upd_same, sT _ _ (Same.t sg _ _ hg)⟩ (Paired.mapP hPw fun _ _ h => EntW.same sT (EntW.same (Same.t sg) h))
      rintro H3 ⟨sb, ws, hws, hPw⟩
      have hkl : (kvsN (totL rs cs)).length = (totL rs cs).length := by unfold kvsN; rw [List.length_map]
      rw [hkl, List.take_length] at hPw
      refine ⟨sb _ _ hdz, ?_⟩
      have sA : Same H1 (upd H3 d (.dT (kvsN (totL rs cs)))) := fun b o e => by
        by_cases hb : b = d
        · subst hb; rw [upd_same, ← e, hdd1]
        · rw [upd_ne hb]; exact sb _ _ (sz _ _ hb e)
      have sTd : SameT H3 (upd H3 d (.dT (kvsN (totL rs cs)))) := fun b xs e => (upd_ne (fun z => by rw [z, sb _ _ hdz] at e; cases e)).trans e
      have hws' : (upd H3 d (.dT (kvsN (totL rs cs)))) D = some (.lst ws) := (upd_ne nDd).trans hws
      have hPw' := Paired.mapP hPw fun _ _ h => EntW.same sTd h
      generalize upd H3 d (.dT (kvsN (totL rs cs))) = H4 at sA hws' hPw' ⊢
      refine ⟨D, ws, _, rfl, hws', hPw', fun us' es' D2 hP' hperm hsort hD2 => ?_⟩
      obtain rfl := srtT_of hperm hsort
      have hPs : Paired (fun u e => EntW H4 u (toEnt e)) us' (srtT (totL rs cs)) := paired_unmap (f := toEnt) hP'
      have s3 := (sa.trans sA).trans (same_new (o := .lst us') hD2)
      have hT3 : SameT H4 (upd H4 D2 (.lst us')) := Same.t (same_new hD2)
      have hP4 := Paired.mapP hPs fun _ _ h => EntW.same hT3 h
      have hu4 : (upd H4 D2 (.lst us')) D2 = some (.lst us') := upd_same
      generalize upd H4 D2 (.lst us') = H5 at s3 hP4 hu4 ⊢
      refine ⟨_, rfl, D2, rfl, ⟨_, SqL.of hu4⟩, fun D4 hD4 => lc_it walk_list (fun i H' => Same H5 H' ∧ ∃ ws, H' D4 = some (.lst ws) ∧ Paired (TotV H') ws ((srtT (totL rs cs)).take i)) ⟨same_new hD4, [], upd_same, .nil⟩ (fun i H' _ ⟨sb, _⟩ => SqL.of (sb _ _ hu4)) ?_ ?_⟩
      · rintro i x H6 H7 hi ⟨sc, vs, hvs, hPv⟩ ⟨rfl, hx⟩
        obtain ⟨e, he, y, g, rfl, hy, hg⟩ := Paired.at hP4 hx
        have hy5 := sc _ _ hy
        have hg5 := sc _ _ hg
        refine ⟨y, _, rfl, SqT.of hy5, rfl, _, _, rfl, _, _, rfl, rfl, rfl, _, rfl, _, rfl, _, _, rfl, rfl, by show 2 ≤ sizeLine; decide, fun g2 hg2 => ?_⟩
        have en : (0 : Int) - (-(toEnt e).2) = (e.2 : Int) := by show (0 : Int) - (-(e.2 : Int)) = _; omega
        dsimp only
        rw [en]
        have sg := same_new (o := .tup [V.ref g, V.int (e.2 : Int)]) hg2
        have hil : i < (totL rs cs).length := by
          have := (List.getElem?_eq_some_iff.mp he).1
          rwa [srtT, List.length_mergeSort] at this
        refine ⟨vs, sg _ _ hvs, ?_, Same.put (sc.trans sg) hD4, vs ++ [.ref g2], upd_same, ?_⟩
        · rw [hPv.length, List.length_take]; exact Nat.lt_of_lt_of_le (show _ < 200000 by omega) (by rw [sizeLine_eq]; decide)
        · have sT := SameT.put (o := .lst (vs ++ [.ref g2])) (sg _ _ hvs)
          rw [take_succ_of he]
          exact Paired.snoc ⟨g2, g, rfl, sT _ _ upd_same, sT _ _ (Same.t sg _ _ hg5)⟩ (Paired.mapP hPv fun _ _ h => EntV.same sT (EntV.same (Same.t sg) h))
      rintro H6 ⟨sc, vs, hvs, hPv⟩
      rw [Paired.length hP4, List.take_length] at hPv
      refine .inl ⟨D4, vs, rfl, SqL.of hvs, fun z hz => ?_⟩
      subst hrs hcs
      have szz := same_new (o := .tup vs) hz
      exact q _ z vs ((s3.trans sc).trans szz) ((s3.trans sc).free hz) upd_same (Paired.mapP hPv fun _ _ h => EntV.same (Same.t szz) h)
end
end RJ
end

section
set_option maxRecDepth 100000
set_option maxHeartbeats 16000000
namespace RJ
open PySem PySem.Spec PyProof.Rows L2
theorem LSame.seqK {P : Addr} {q : Str} {K : PySem.W.Frag} {H H' : Hp} {a : Addr} {xs : List V} (s : LSame P q H H') (h : SqL K H a xs) : SqL K H' a xs := by
  rcases h with (h | ⟨o, h⟩) | h
  · exact .inl (.inl (s.lst h))
  · exact .inl (.inr ⟨o, s.o h fun _ z => by cases z⟩)
  · exact .inr h
theorem LstN.same {D : Addr} {H H' : Hp} {v : V} {row : List Nat} (s : Same H H') (h : LstN D H v row) : LstN D H' v row := by
  obtain ⟨z, e, n, h⟩ := h
  exact ⟨z, e, n, s _ _ h⟩
theorem LstN.put {D : Addr} {H : Hp} {v : V} {row : List Nat} {o : HO} (h : LstN D H v row) : LstN D (upd H D o) v row := by
  obtain ⟨z, e, n, h⟩ := h
  exact ⟨z, e, n, (upd_ne n).trans h⟩
theorem tot_same {H : Hp} {z g : Addr} {us ws : List V} {T : List Tot} (hz : H z = some (.tup us)) (hg : H g = some (.tup ws)) (hu : Paired (TotV H) us T) (hw : Paired (TotV H) ws T) (hl : T.length ≤ 1000) : SameD H 3 (.ref z) (.ref g) := by
  refine .inr ⟨z, g, us, ws, rfl, rfl, hz, hg, by rw [hu.length]; exact hl, ?_⟩
  have gen : ∀ {T : List Tot} {us ws : List V}, Paired (TotV H) us T → Paired (TotV H) ws T → Paired (SameD H 2) us ws := by
    intro T
    induction T with
    | nil => intro us ws h1 h2; cases h1; cases h2; exact .nil
    | cons e T ih =>
      intro us ws h1 h2
      cases h1 with
      | cons a1 t1 => cases h2 with
        | cons a2 t2 =>
          refine .cons ?_ (ih t1 t2)
          obtain ⟨x, y, rfl, hx, hy⟩ := a1
          obtain ⟨x2, y2, rfl, hx2, hy2⟩ := a2
          exact .inr ⟨x, x2, _, _, rfl, rfl, hx, hx2, by simp, .cons (.inr ⟨y, y2, _, _, rfl, rfl, hy, hy2, by simp, .cons (SameD.flat rfl 0) (.cons (SameD.flat rfl 0) .nil)⟩) (.cons (SameD.flat rfl 1) .nil)⟩
  exact gen hu hw
theorem totL_len {rs : List (List Nat)} {cs : List Nat} {m : Nat} (hl : rs.length ≤ 5) (h : ∀ r ∈ rs, r.length ≤ 28) : (totL rs cs).length ≤ 140 := by
  have gen : ∀ (l : List (List Nat × Nat)) (T : List Tot), (∀ e ∈ l, e.1.length ≤ 28) → (l.foldl (fun T e => rowT T (adjs e.1) e.2) T).length ≤ T.length + 28 * l.length := by
    intro l
    induction l with
    | nil => exact fun T _ => Nat.le_refl _
    | cons x l ih =>
      intro T h
      have h1 := ih (rowT T (adjs x.1) x.2) fun e he => h e (List.mem_cons_of_mem _ he)
      have h2 := rowT_len x.2 (adjs x.1) T
      have h3 := adjs_len x.1
      have h4 := h x (List.mem_cons_self ..)
      rw [List.length_cons]
      show (List.foldl _ (rowT T (adjs x.1) x.2) l).length ≤ _
      omega
  have h1 := gen (rs.zip cs) [] fun e he => h e.1 (List.of_mem_zip (show (e.1, e.2) ∈ rs.zip cs from he)).1
  have h2 : (rs.zip cs).length ≤ rs.length := by rw [List.length_zip]; exact Nat.min_le_left _ _
  have h3 : ([] : List Tot).length = 0 := rfl
  show (List.foldl _ [] (rs.zip cs)).length ≤ _
  omega
/-- a corpus, as data -/
def entD (e : List Nat × Nat) : PyData := .tuple [.str (S e.1), .int (e.2 : Int)]
theorem dp_corp {K : PySem.W.Frag} {H : Hp} : ∀ {us : List V} {co : List (List Nat × Nat)}, Paired (CEnt H) us co → DpAll K H us (co.map entD)
  | _, _, .nil => .nil
  | _, _, .cons h t => by
    obtain ⟨q, rfl, hq⟩ := h
    exact .cons (.tup (SqT.of hq) (.cons (.str _) (.cons (.int _) .nil))) (dp_corp t)
theorem strOk_L {l : List Nat} (h : ∀ c ∈ l, c < 127) : PyData.strOk (S l) = true := by
  unfold PyData.strOk
  show (l.toArray.all fun c => decide (c < 0x110000)) = true
  rw [List.all_toArray, List.all_eq_true]
  exact fun c hc => decide_eq_true (by have := h c hc; omega)
theorem al_small {al : List Nat} (h : alOk al = true) : ∀ c ∈ al, c < 127 := fun c hc => by
  unfold alOk at h
  rw [Bool.and_eq_true, Bool.and_eq_true] at h
  have h2 := h.2.2
  rw [List.all_eq_true] at h2
  have h3 := of_decide_eq_true (h2 _ (List.mem_map_of_mem (f := fun c => decide (32 ≤ c ∧ c ≤ 126)) hc))
  omega
theorem canLay_corp : ∀ {co : List (List Nat × Nat)}, (∀ e ∈ co, PyData.strOk (S e.1) = true) → PyData.canLayAll0 (co.map entD) = true
  | [], _ => by simp [PyData.canLayAll0]
  | p :: ps, h => by
    rw [List.map_cons, PyData.canLayAll0, canLay_corp fun e he => h e (List.mem_cons_of_mem _ he)]
    simp [entD, PyData.canLay0, PyData.canLayAll0, h p (List.mem_cons_self ..)]
theorem shaped_corp {co : List (List Nat × Nat)} (hS : ∀ e ∈ co, PyData.strOk (S e.1) = true) : SeqAt.shaped (.list (co.map entD)) = true := by
  have h1 := canLay_corp hS
  have h2 : PyData.depthAll (co.map entD) ≤ 1 := by
    clear h1 hS
    induction co with
    | nil => simp [PyData.depthAll]
    | cons p ps ih =>
      rw [List.map_cons, PyData.depthAll]
      have : PyData.depth (entD p) = 1 := by simp [entD, PyData.depth, PyData.depthAll]
      omega
  unfold SeqAt.shaped
  rw [PyData.canLay0, h1, PyData.depth, Bool.true_and]
  exact decide_eq_true (by omega)
theorem eqv_corp {co : List (List Nat × Nat)} (hS : ∀ e ∈ co, PyData.strOk (S e.1) = true) : PyData.eqv (.list (co.map entD)) (.list (co.map entD)) = true := PySem.SeqAt.eqv_refl _ (by rw [PyData.canLay0]; exact canLay_corp hS)
theorem pairs_same {H : Hp} {z g : Addr} {us ws : List V} {ps : List (Nat × Nat)} (hz : H z = some (.tup us)) (hg : H g = some (.tup ws)) (hu : PairsAt H us ps) (hw : PairsAt H ws ps) (hl : ps.length ≤ 1000) : SameD H 3 (.ref z) (.ref g) := by
  refine .inr ⟨z, g, us, ws, rfl, rfl, hz, hg, by rw [hu.length]; exact hl, ?_⟩
  have gen : ∀ {T : List (Nat × Nat)} {us ws : List V}, PairsAt H us T → PairsAt H ws T → Paired (SameD H 2) us ws := by
    intro T
    induction T with
    | nil => intro us ws h1 h2; cases h1; cases h2; exact .nil
    | cons e T ih =>
      intro us ws h1 h2
      cases h1 with
      | cons a1 t1 => cases h2 with
        | cons a2 t2 =>
          refine .cons ?_ (ih t1 t2)
          obtain ⟨y, rfl, hy⟩ := a1
          obtain ⟨y2, rfl, hy2⟩ := a2
          exact .inr ⟨y, y2, _, _, rfl, rfl, hy, hy2, by simp, .cons (SameD.flat rfl 1) (.cons (SameD.flat rfl 1) .nil)⟩
  exact gen hu hw
theorem seq_or {K : PySem.W.Frag} {b : Bool} {H : Hp} {p : Addr} {xs : List V} (h : SeqAt b H p xs) : SqL K H p xs ∨ SqT K H p xs := by
  cases b with
  | true => exact .inl (SqL.of h)
  | false => exact .inr (SqT.of h)
theorem texts0_len (al : List Nat) (i : Nat) : ((textsOf al []).getD i []).length ≤ 1 := by
  rcases getD_mem_or (ts := textsOf al []) (i := i) with m | m
  · have e : textsOf al [] = al.map fun c => [c] := rfl
    rw [e] at m ⊢
    obtain ⟨c, _, hc⟩ := List.mem_map.mp m
    rw [← hc]; exact Nat.le_refl _
  · rw [m]; exact Nat.zero_le _
theorem lrn_one (al : List Nat) (co : List (List Nat × Nat)) : lrn al co 1 = match nextL al co [] with | none => [] | some p => [p] := by
  show (if (lrn al co 0).length < 0 then lrn al co 0 else match nextL al co (lrn al co 0) with | none => lrn al co 0 | some p => lrn al co 0 ++ [p]) = _
  rw [if_neg (Nat.not_lt_zero _)]
  show (match nextL al co [] with | none => [] | some p => [] ++ [p]) = _
  cases nextL al co [] <;> rfl
section
variable {P : Program} {w : World} {K : PySem.W.Frag} {mg : Str → Option Value} {base : Heap}
end
end RJ
end

section
set_option maxRecDepth 100000
set_option maxHeartbeats 8000000
namespace RJ
open PySem PySem.Spec PyProof.Rows L2
abbrev s__law_next : Stmt := top 47
abbrev N__law_next : List Str := ["joins", "found", "left", "right"]
theorem sc__law_next : FnScope N__law_next ["joins", "found"] (C8.fnScope s__law_next) := C8.fnScope_by (by decide +kernel)
abbrev s__law_add : Stmt := top 48
abbrev N__law_add : List Str := ["joins", "pair"]
theorem sc__law_add : FnScope N__law_add ["joins", "pair"] (C8.fnScope s__law_add) := C8.fnScope_by (by decide +kernel)
/-- neighbors and their totals, as data -/
def totD (e : Tot) : PyData := .tuple [.tuple [.int (e.1.1 : Int), .int (e.1.2 : Int)], .int (e.2 : Int)]
theorem dp_tots {K : PySem.W.Frag} {H : Hp} : ∀ {us : List V} {T : List Tot}, Paired (TotV H) us T → DpAll K H us (T.map totD)
  | _, _, .nil => .nil
  | _, _, .cons h t => by
    obtain ⟨x, y, rfl, hx, hy⟩ := h
    exact .cons (.tup (SqT.of hx) (.cons (.tup (SqT.of hy) (.cons (.int _) (.cons (.int _) .nil))) (.cons (.int _) .nil))) (dp_tots t)
theorem canLay_tots : ∀ {T : List Tot}, PyData.canLayAll0 (T.map totD) = true
  | [] => by simp [PyData.canLayAll0]
  | p :: ps => by
    rw [List.map_cons, PyData.canLayAll0, canLay_tots]
    simp [totD, PyData.canLay0, PyData.canLayAll0]
theorem shaped_tots (T : List Tot) : SeqAt.shaped (.tuple (T.map totD)) = true := by
  have h1 := canLay_tots (T := T)
  have h2 : PyData.depthAll (T.map totD) ≤ 2 := by
    clear h1
    induction T with
    | nil => simp [PyData.depthAll]
    | cons p ps ih =>
      rw [List.map_cons, PyData.depthAll]
      have : PyData.depth (totD p) = 2 := by simp [totD, PyData.depth, PyData.depthAll]
      omega
  unfold SeqAt.shaped
  rw [PyData.canLay0, h1, PyData.depth, Bool.true_and]
  exact decide_eq_true (by omega)
/-- what the law's own stages learn next -/
def nextQ (T : List Tot) (ps : List (Nat × Nat)) (ts : List (List Nat)) : Option (Nat × Nat) := if 60 ≤ ps.length then none else nextP T ts
def sp_lnext : Sp := fun vs H Q _ => ∃ (l : Lj) (z : Addr) (al : List Nat) (ps : List (Nat × Nat)) (us : List V) (T : List Tot), vs = [.ref l.j, .ref z] ∧ LjAt l H al ps ∧ ps.length ≤ 100 ∧ H z = some (.tup us) ∧ Paired (TotV H) us T ∧ (∀ t ∈ textsOf al ps, t.length ≤ 40) ∧ (∀ e ∈ T, e.1.1 < (textsOf al ps).length ∧ e.1.2 < (textsOf al ps).length) ∧
  ∀ H' v, Same H H' → PairV H' v (nextQ T ps (textsOf al ps)) → Q v H'
def sp_ladd : Sp := fun vs H Q _ => ∃ (l : Lj) (g : Addr) (al : List Nat) (ps : List (Nat × Nat)) (p : Nat × Nat), vs = [.ref l.j, .ref g] ∧ LjAt l H al ps ∧ al.length ≤ 100 ∧ ps.length ≤ 100 ∧ H g = some (.tup [.int (p.1 : Int), .int (p.2 : Int)]) ∧ p ∉ ps ∧ okP al (textsOf al ps) ps p ∧ (∀ t ∈ textsOf al ps, t.length ≤ 40) ∧
  ∀ H', (∀ b o, b ≠ l.pp → b ≠ l.rk → b ≠ l.tx → H b = some o → H' b = some o) → LjAt l H' al (ps ++ [p]) → Q .non H'
section
variable {P : Program} {w : World} {K : PySem.W.Frag} {mg : Str → Option Value} {base : Heap}
theorem ok_lnext {f : Addr} {fd : FuncData} (F : C8.Fun K "_law_next" "_law_next" s__law_next f fd) (T : Txt K mg) : FnOk P w K mg base C8.CX0 1 f fd ["joins", "found"] sp_lnext := by
  refine C8.fn0 F sc__law_next (fun vs H Q E h => ?_) (fun cdv A outer s H vs Q E hr h => ?_)
  · obtain ⟨l, z, al, ps, us, T, rfl, _⟩ := h; rfl
  · obtain ⟨l, z, al, ps, us, Tl, rfl, hL, hpl, hz, hP, h40, hin, q⟩ := h
    have hu := hu_of hr
    have hu64 := hu64_of hr
    refine ⟨_, (pss_cons (ps_if (PW.pt (pw_or (pt_cmpR (op_eqD hu64) (pv 1) (pe_tup pa_nil) (nomark _)) (pw_or (pt_cmpR op_lt (pe_ix ix_tup (pe_ix ix_tup (pv 1) pe_int (fun _ _ => rfl)) pe_int (fun _ _ => rfl)) pe_int (nomark _)) (pw_or1 (pt_cmpR op_ge (pe_callB call_len_seq (by rfl) T.b_len PySem.boot_len (pa_cons (pe_dget hu (pv 0) pe_str (fun _ _ => rfl)) pa_nil)) pe_int (nomark _)))))) (pss_one (ps_ret pe_non)) pss_nil)
      (pss_cons (ps_asg (pe_ix ix_tup (pe_ix ix_tup (pv 1) pe_int (fun _ _ => rfl)) pe_int (fun _ _ => rfl)) (pg_tup rfl (pgs_cons (pg_name (i := 2) sc__law_next.nd rfl (Or.inl rfl)) (pgs_cons (pg_name (i := 3) sc__law_next.nd rfl (Or.inl rfl)) pgs_nil))))
      (pss_cons (ps_if (pt_cmpR op_gt (pe_callB call_len_str (by rfl) T.b_len PySem.boot_len (pa_cons (pe_op op_add_str (pe_ix ix_list (pe_dget hu (pv 0) pe_str (fun _ _ => rfl)) (pv 2) (fun _ _ => rfl)) (pe_ix ix_list (pe_dget hu (pv 0) pe_str (fun _ _ => rfl)) (pv 3) (fun _ _ => rfl))) pa_nil)) pe_int (nomark _)) (pss_one (ps_ret pe_non)) pss_nil)
      (pss_one (ps_ret (pe_tup (pa_cons (pv 2) (pa_cons (pv 3) pa_nil)))))))), ?_⟩
    refine ⟨_, rfl, by show 0 ≤ sizeLine; decide, fun g0 hg0 => ?_⟩
    have s0 := same_new (o := .tup []) hg0
    have hP0 := Paired.mapP hP fun _ _ h => EntV.same (Same.t s0) h
    have hz0 := s0 _ _ hz
    have hL0 := hL.same s0
    have hg00 : (upd H g0 (.tup [])) g0 = some (.tup []) := upd_same
    generalize upd H g0 (.tup []) = H0 at s0 hP0 hz0 hL0 hg00 ⊢
    refine ⟨.tuple (Tl.map totD), .tuple [], .tup (SqT.of hz0) (dp_tots hP0), .tup (SqT.of hg00) .nil, shaped_tots Tl, by decide, _, rfl, ?_⟩
    cases Tl with
    | nil =>
      refine iteT ?_
      refine q H0 .non s0 ?_
      show PairV H0 .non (if 60 ≤ ps.length then none else none)
      split <;> rfl
    | cons e T' =>
      refine iteF ?_
      obtain ⟨u, us', rfl, ⟨d, g, rfl, h1, h2⟩, hP'⟩ : ∃ u us', us = u :: us' ∧ TotV H0 u e ∧ Paired (TotV H0) us' T' := by
        cases hP0 with
        | cons h t => exact ⟨_, _, rfl, h, t⟩
      obtain ⟨i1, i2⟩ := hin e (List.mem_cons_self ..)
      have l1 : ((textsOf al ps).getD e.1.1 []).length ≤ 40 := getD_short h40 _
      have l2 : ((textsOf al ps).getD e.1.2 []).length ≤ 40 := getD_short h40 _
      have hz1 : atI (V.ref d :: us') (0 : Int) = some (V.ref d) := atI_nat (j := 0) rfl
      have qn : (60 ≤ ps.length ∨ nextP (e :: T') (textsOf al ps) = none) → Q .non H0 := fun h => q H0 .non s0 (by
        have : nextQ (e :: T') ps (textsOf al ps) = none := by
          unfold nextQ
          rcases h with h | h
          · exact if_pos h
          · split
            · rfl
            · exact h
        rw [this]; rfl)
      refine ⟨_, rfl, z, _, _, _, rfl, rfl, SqT.of hz0, hz1, d, _, _, _, rfl, rfl, SqT.of h1, (show atI [V.ref g, V.int (toEnt e).2] (1 : Int) = some (V.int (toEnt e).2) from rfl), _, _, rfl, rfl, _, rfl, ?_⟩
      obtain ⟨b1, hb1⟩ : ∃ b : Bool, b = decide ((e.2 : Int) < 2) := ⟨_, rfl⟩
      show (if decide ((e.2 : Int) < 2) = true then _ else _)
      rw [← hb1]
      cases b1 with
      | true => exact iteT (iteT (qn (.inr (by unfold nextP; exact if_pos (.inl (by have := of_decide_eq_true hb1.symm; omega))))))
      | false =>
        have n1 : ¬ e.2 < 2 := fun h => by have := of_decide_eq_false hb1.symm; omega
        obtain ⟨pus, hpus, hps⟩ := hL0.p
        have hpn : pus.length = ps.length := hps.length
        refine iteF ⟨_, rfl, l.j, _, rfl, dk hL0.d rfl, l.pp, pus, rfl, .inl (SqL.of hpus), _, _, rfl, rfl, _, rfl, ?_⟩
        obtain ⟨b2, hb2⟩ : ∃ b : Bool, b = decide ((pus.length : Int) ≥ 60) := ⟨_, rfl⟩
        show (if decide ((pus.length : Int) ≥ 60) = true then _ else _)
        rw [← hb2]
        cases b2 with
        | true => exact iteT (qn (.inl (by have := of_decide_eq_true hb2.symm; omega)))
        | false =>
          have n2 : ¬ 60 ≤ ps.length := fun h => by have := of_decide_eq_false hb2.symm; omega
          refine iteF ?_
          refine ⟨_, rfl, z, _, _, _, rfl, rfl, SqT.of hz0, hz1, d, _, _, _, rfl, rfl, SqT.of h1, (show atI [V.ref g, V.int (toEnt e).2] (0 : Int) = some (V.ref g) from rfl), g, _, rfl, SqT.of h2, rfl, _, _, rfl, _, _, rfl, rfl, ?_⟩
          have t1 : atI (strV (textsOf al ps)) (e.1.1 : Int) = some (V.str (S ((textsOf al ps).getD e.1.1 []))) := by
            refine atI_nat ?_
            rw [strV, List.getElem?_map, List.getD_eq_getElem?_getD, List.getElem?_eq_getElem i1]; rfl
          have t2 : atI (strV (textsOf al ps)) (e.1.2 : Int) = some (V.str (S ((textsOf al ps).getD e.1.2 []))) := by
            refine atI_nat ?_
            rw [strV, List.getElem?_map, List.getD_eq_getElem?_getD, List.getElem?_eq_getElem i2]; rfl
          refine ⟨_, rfl, l.j, _, rfl, dk hL0.d rfl, _, rfl, l.tx, _, _, _, rfl, rfl, SqL.of hL0.t, t1, _, rfl, l.j, _, rfl, dk hL0.d rfl, _, rfl, l.tx, _, _, _, rfl, rfl, SqL.of hL0.t, t2, _, _, rfl, rfl, by rw [S_len, S_len]; exact small_le (by omega), ?_⟩
          rw [S_cat]
          refine ⟨_, rfl, by rw [S_len, List.length_append]; exact small_le (by omega), _, _, rfl, rfl, _, rfl, ?_⟩
          rw [S_len, List.length_append]
          obtain ⟨b2, hb2⟩ : ∃ b : Bool, b = decide ((((((textsOf al ps).getD e.1.1 []).length + ((textsOf al ps).getD e.1.2 []).length : Nat)) : Int) > 40) := ⟨_, rfl⟩
          show (if decide ((((((textsOf al ps).getD e.1.1 []).length + ((textsOf al ps).getD e.1.2 []).length : Nat)) : Int) > 40) = true then _ else _)
          rw [← hb2]
          cases b2 with
          | true => exact iteT (qn (.inr (by unfold nextP; exact if_pos (.inr (by have := of_decide_eq_true hb2.symm; omega)))))
          | false =>
            have n3 : ¬ 40 < ((textsOf al ps).getD e.1.1 []).length + ((textsOf al ps).getD e.1.2 []).length := fun h => by have := of_decide_eq_false hb2.symm; omega
            refine iteF ⟨_, rfl, _, rfl, by show 2 ≤ sizeLine; decide, fun gg hgg => ?_⟩
            refine q _ _ (s0.trans (same_new hgg)) ?_
            have : nextQ (e :: T') ps (textsOf al ps) = some e.1 := by
              unfold nextQ nextP
              rw [if_neg n2]
              exact if_neg fun h => h.elim n1 n3
            rw [this]
            exact ⟨gg, rfl, upd_same⟩
theorem ok_ladd {f : Addr} {fd : FuncData} (F : C8.Fun K "_law_add" "_law_add" s__law_add f fd) (T : Txt K mg) : FnOk P w K mg base C8.CX0 1 f fd ["joins", "pair"] sp_ladd := by
  refine C8.fn0 F sc__law_add (fun vs H Q E h => ?_) (fun cdv A outer s H vs Q E hr h => ?_)
  · obtain ⟨l, g, al, ps, p, rfl, _⟩ := h; rfl
  · obtain ⟨l, g, al, ps, p, rfl, hL, hal, hpl, hg, hnew, hok, h40, q⟩ := h
    have hu := hu_of hr
    refine ⟨_, (pss_cons (ps_dput hu (pe_dget hu (pv 0) pe_str (fun _ _ => rfl)) (pv 1) (pe_callB call_len_seq (by rfl) T.b_len PySem.boot_len (pa_cons (pe_dget hu (pv 0) pe_str (fun _ _ => rfl)) pa_nil)) rfl)
      (pss_cons (ps_expr (pe_bm PySem.F.plainAttrs_list PySem.F.slot_list_append PySem.F.type_list_append mt_append (pe_dget hu (pv 0) pe_str (fun _ _ => rfl)) (pa_cons (pv 1) pa_nil)))
      (pss_one (ps_expr (pe_bm PySem.F.plainAttrs_list PySem.F.slot_list_append PySem.F.type_list_append mt_append (pe_dget hu (pv 0) pe_str (fun _ _ => rfl)) (pa_cons (pe_op op_add_str (pe_ix ix_list (pe_dget hu (pv 0) pe_str (fun _ _ => rfl)) (pe_ix ix_tup (pv 1) pe_int (fun _ _ => rfl)) (fun _ _ => rfl)) (pe_ix ix_list (pe_dget hu (pv 0) pe_str (fun _ _ => rfl)) (pe_ix ix_tup (pv 1) pe_int (fun _ _ => rfl)) (fun _ _ => rfl))) pa_nil)))))), ?_⟩
    obtain ⟨us, hus, hps⟩ := hL.p
    have hul : us.length = ps.length := hps.length
    have hgk : H g = some (.tup ((pkey p).map kV)) := hg
    have npr : l.pp ≠ l.rk := ne_of hus hL.r (fun z => by cases z)
    have ntr : l.tx ≠ l.rk := ne_of hL.t hL.r (fun z => by cases z)
    have njr : l.j ≠ l.rk := ne_of hL.d hL.r (fun z => by cases z)
    have njp : l.j ≠ l.pp := ne_of hL.d hus (fun z => by cases z)
    have njt : l.j ≠ l.tx := ne_of hL.d hL.t (fun z => by cases z)
    have hput : DPut H l.rk (.ref g) (V.int (us.length : Int)) (upd H l.rk (.dT (kvsF 0 (ps ++ [p])))) := by
      have h0 : valV (kvsF 0 ps) (pkey p) = none := by rw [kvsF_get, if_neg hnew]
      have h := DPut.t (k := pkey p) (v := V.int (us.length : Int)) hL.r hgk (by rw [kvsF_len]; exact small1000 (by omega))
      rw [putK_new _ h0, hul] at h
      rw [kvsF_snoc, Nat.zero_add, hul]
      exact h
    refine ⟨_, rfl, l.j, _, rfl, dk hL.d rfl, l.pp, us, rfl, .inl (SqL.of hus), _, rfl, l.j, _, rfl, dk hL.d rfl, _, rfl, l.rk, _, rfl, hput, ?_⟩
    obtain ⟨H1, hH1⟩ : ∃ H1, H1 = upd H l.rk (.dT (kvsF 0 (ps ++ [p]))) := ⟨_, rfl⟩
    rw [← hH1]
    have k1 : ∀ b o, b ≠ l.rk → H b = some o → H1 b = some o := fun b o hb e => by rw [hH1, upd_ne hb]; exact e
    have j1 := k1 _ _ njr hL.d
    have p1 := k1 _ _ npr hus
    have t1 := k1 _ _ ntr hL.t
    have g1 := k1 _ _ (ne_of hg hL.r (fun z => by cases z)) hg
    have r1 : H1 l.rk = some (.dT (kvsF 0 (ps ++ [p]))) := by rw [hH1]; exact upd_same
    have q1 : PairsAt H1 us ps := hps.same fun b xs e => k1 _ _ (ne_of e hL.r (fun z => by cases z)) e
    refine ⟨_, rfl, l.j, _, rfl, dk j1 rfl, .inl ⟨rfl, _, SqL.of p1⟩, _, rfl, l.pp, us, _, rfl, rfl, p1, small1000 (by omega), ?_⟩
    obtain ⟨H2, hH2⟩ : ∃ H2, H2 = upd H1 l.pp (.lst (us ++ [V.ref g])) := ⟨_, rfl⟩
    rw [← hH2]
    have k2 : ∀ b o, b ≠ l.pp → H1 b = some o → H2 b = some o := fun b o hb e => by rw [hH2, upd_ne hb]; exact e
    have j2 := k2 _ _ njp j1
    have t2 := k2 _ _ (Ne.symm hL.ne) t1
    have g2 := k2 _ _ (ne_of g1 p1 (fun z => by cases z)) g1
    have r2 := k2 _ _ (Ne.symm npr) r1
    have p2 : H2 l.pp = some (.lst (us ++ [V.ref g])) := by rw [hH2]; exact upd_same
    have q2 : PairsAt H2 us ps := q1.same fun b xs e => k2 _ _ (ne_of e p1 (fun z => by cases z)) e
    obtain ⟨i1, i2, i3, i4⟩ := hok
    have x1 : atI (strV (textsOf al ps)) (p.1 : Int) = some (V.str (S ((textsOf al ps).getD p.1 []))) := atI_nat (strV_at i1)
    have x2 : atI (strV (textsOf al ps)) (p.2 : Int) = some (V.str (S ((textsOf al ps).getD p.2 []))) := atI_nat (strV_at i2)
    have l1 : ((textsOf al ps).getD p.1 []).length ≤ 40 := getD_short h40 _
    have l2 : ((textsOf al ps).getD p.2 []).length ≤ 40 := getD_short h40 _
    refine ⟨_, rfl, l.j, _, rfl, dk j2 rfl, .inl ⟨rfl, _, SqL.of t2⟩, _, rfl, l.j, _, rfl, dk j2 rfl, _, rfl, g, _, _, _, rfl, rfl, SqT.of g2, rfl, l.tx, _, _, _, rfl, rfl, SqL.of t2, x1, _, rfl, l.j, _, rfl, dk j2 rfl, _, rfl, g, _, _, _, rfl, rfl, SqT.of g2, rfl, l.tx, _, _, _, rfl, rfl, SqL.of t2, x2, _, _, rfl, rfl, by rw [S_len, S_len]; exact small_le (by omega), ?_⟩
    rw [S_cat]
    refine ⟨l.tx, _, _, rfl, rfl, t2, by rw [strV_len, textsOf_len]; exact small1000 (by omega), ?_⟩
    obtain ⟨H3, hH3⟩ : ∃ H3, H3 = upd H2 l.tx (.lst (strV (textsOf al ps) ++ [V.str (S ((textsOf al ps).getD p.1 [] ++ (textsOf al ps).getD p.2 []))])) := ⟨_, rfl⟩
    rw [← hH3]
    have k3 : ∀ b o, b ≠ l.tx → H2 b = some o → H3 b = some o := fun b o hb e => by rw [hH3, upd_ne hb]; exact e
    have et : strV (textsOf al ps) ++ [V.str (S ((textsOf al ps).getD p.1 [] ++ (textsOf al ps).getD p.2 []))] = strV (textsOf al (ps ++ [p])) := by rw [strV_snoc, textsOf_snoc]
    refine q H3 (fun b o hb1 hb2 hb3 e => k3 _ _ hb3 (k2 _ _ hb1 (k1 _ _ hb2 e))) ⟨k3 _ _ njt j2, ⟨us ++ [V.ref g], k3 _ _ hL.ne p2, Paired.snoc ⟨g, rfl, k3 _ _ (ne_of g2 t2 (fun z => by cases z)) g2⟩ (q2.same fun b xs e => k3 _ _ (ne_of e t2 (fun z => by cases z)) e)⟩, k3 _ _ (Ne.symm ntr) r2, by rw [hH3, upd_same, et], hL.ne⟩
end
end RJ
end

section
set_option maxRecDepth 100000
set_option maxHeartbeats 8000000
namespace RJ
open PySem PySem.Spec PyProof.Rows L2
abbrev s__law_text : Stmt := top 49
abbrev N__law_text : List Str := ["tape", "letters", "part", "text", "k"]
theorem sc__law_text : FnScope N__law_text ["tape", "letters"] (C8.fnScope s__law_text) := C8.fnScope_by (by decide +kernel)
abbrev s__law_corpus : Stmt := top 50
abbrev N__law_corpus : List Str := ["tape", "letters", "most", "corpus", "k"]
theorem sc__law_corpus : FnScope N__law_corpus ["tape", "letters", "most"] (C8.fnScope s__law_corpus) := C8.fnScope_by (by decide +kernel)
theorem cutS_take (l : List Nat) (k : Nat) : cutS (S l) none (some (k : Int)) = S (l.take k) := by
  show (⟨(((S l).cps.toList.drop (HT.sIx (S l).length 0 none)).take (HT.sIx (S l).length (S l).length (some (k : Int)) - HT.sIx (S l).length 0 none)).toArray⟩ : Str) = ⟨(l.take k).toArray⟩
  rw [HT.sIx_nat, HT.sIx_none, S_len, Nat.sub_zero, List.drop_zero]
  have e : l.take (min k l.length) = l.take k := by
    by_cases h : k ≤ l.length
    · rw [Nat.min_eq_left h]
    · rw [Nat.min_eq_right (by omega), List.take_length, List.take_of_length_le (by omega)]
  exact congrArg (fun z : List Nat => (⟨z.toArray⟩ : Str)) e
def sp_ltextN : Sp := fun vs H Q _ => ∃ (t : Tp) (al : List Nat), vs = [.ref t.d, .str (S al)] ∧ TapeAt t H ∧ 1 ≤ al.length ∧ al.length ≤ 30 ∧ ∀ H' u, TSame t H H' → (∀ c ∈ u, c ∈ al) → u.length ≤ 14 → Q (.str (S u)) H'
/-- texts of these letters, not too long -/
def TextsN (al : List Nat) (co : List (List Nat × Nat)) : Prop := ∀ e ∈ co, (∀ c ∈ e.1, c ∈ al) ∧ e.1.length ≤ 14
def sp_lcorpusN : Sp := fun vs H Q _ => ∃ (t : Tp) (al : List Nat) (most : Nat), vs = [.ref t.d, .str (S al), .int (most : Int)] ∧ TapeAt t H ∧ 1 ≤ al.length ∧ al.length ≤ 30 ∧ most ≤ 20 ∧
  ∀ H' q us co, TSame t H H' → H q = none → H' q = some (.lst us) → Paired (CEnt H') us co → co.length ≤ most → TextsN al co → Q (.ref q) H'
section
variable {P : Program} {w : World} {K : PySem.W.Frag} {mg : Str → Option Value} {base : Heap}
theorem ok_ltextN {f : Addr} {fd : FuncData} (F : C8.Fun K "_law_text" "_law_text" s__law_text f fd) (T : Txt K mg) (c__law_draw : C8.Cal P w K mg base 2 "_law_draw" sp_draw []) (c__law_pick : C8.Cal P w K mg base 3 "_law_pick" sp_pick []) (c__law_pickS : C8.Cal P w K mg base 3 "_law_pick" sp_pickS []) : FnOk P w K mg base C8.CX0 4 f fd ["tape", "letters"] sp_ltextN := by
  refine C8.fn0 F sc__law_text (fun vs H Q E h => ?_) (fun cdv A outer s H vs Q E hr h => ?_)
  · obtain ⟨t, al, rfl, _⟩ := h; rfl
  · obtain ⟨t, al, rfl, hT, hal1, hal, q⟩ := h
    refine ⟨_, (pss_cons (ps_set (i := 2) sc__law_text.nd rfl (Or.inl rfl) (pe_join pe_str (pe_lc (own := [("k", 4)]) (g := gName 4) (tt := tYes) rfl sc__law_text.nd (pi_range1 rfl T.b_range (pa_cons (C8.pe_c c__law_pick hr (by first | decide | omega) (by rfl) (pa_cons (pv 0) (pa_cons (pe_lst (pa_cons pe_int (pa_cons pe_int (pa_cons pe_int (pa_cons pe_int (pa_cons pe_int pa_nil)))))) pa_nil))) pa_nil)) (blkOk_by (N := N__law_text) (sc := C8.fnScope s__law_text) (by decide +kernel)) (fun _ _ _ _ _ => (pg_name (i := 4) sc__law_text.nd rfl (Or.inl rfl))) (fun _ _ _ _ _ => pts_nil) (fun _ _ _ _ _ => (C8.pe_c c__law_pickS hr (by first | decide | omega) (by rfl) (pa_cons (pv 0) (pa_cons (pv 1) pa_nil)))))))
      (pss_cons (ps_set (i := 3) sc__law_text.nd rfl (Or.inl rfl) pe_str)
      (pss_cons (ps_for PassesOwn.never rfl (pi_range1 rfl T.b_range (pa_cons (C8.pe_c c__law_pick hr (by first | decide | omega) (by rfl) (pa_cons (pv 0) (pa_cons (pe_lst (pa_cons pe_int (pa_cons pe_int (pa_cons pe_int (pa_cons pe_int pa_nil))))) pa_nil))) pa_nil)) (pg_name (i := 4) sc__law_text.nd rfl (Or.inl rfl)) (pss_one (ps_set (i := 3) sc__law_text.nd rfl (Or.inl rfl) (pe_op op_add_str (pv 3) (pv 2)))))
      (pss_one (ps_ret (pe_slice sl_str (pe_op op_add_str (pv 3) (pe_join pe_str (pe_lc (own := [("k", 4)]) (g := gName 4) (tt := tYes) rfl sc__law_text.nd (pi_range1 rfl T.b_range (pa_cons (C8.pe_c c__law_draw hr (by first | decide | omega) (by rfl) (pa_cons (pv 0) (pa_cons pe_int pa_nil))) pa_nil)) (blkOk_by (N := N__law_text) (sc := C8.fnScope s__law_text) (by decide +kernel)) (fun _ _ _ _ _ => (pg_name (i := 4) sc__law_text.nd rfl (Or.inl rfl))) (fun _ _ _ _ _ => pts_nil) (fun _ _ _ _ _ => (C8.pe_c c__law_pickS hr (by first | decide | omega) (by rfl) (pa_cons (pv 0) (pa_cons (pv 1) pa_nil))))))) po_none (po_some pe_int))))))), ?_⟩
    refine ⟨⟨_, rfl⟩, _, rfl, by show 5 ≤ sizeLine; decide, fun La hLa => ?_⟩
    have s0 := (TSame.refl hT).new (o := .lst [V.int 0, V.int 1, V.int 2, V.int 3, V.int 5]) hLa
    refine ⟨t, La, _, rfl, s0.at1, upd_same, by show 0 < 5; decide, fun H1 r1 x s1 hx => ?_⟩
    obtain ⟨m, rfl, hm⟩ : ∃ m : Nat, x = V.int (m : Int) ∧ m ≤ 5 := by
      rcases r1 with _ | _ | _ | _ | _ | r1
      · exact ⟨0, (Option.some.inj hx).symm, by omega⟩
      · exact ⟨1, (Option.some.inj hx).symm, by omega⟩
      · exact ⟨2, (Option.some.inj hx).symm, by omega⟩
      · exact ⟨3, (Option.some.inj hx).symm, by omega⟩
      · exact ⟨5, (Option.some.inj hx).symm, by omega⟩
      · cases hx
    have sA := s0.trans s1
    refine ⟨_, rfl, by omega, by omega, fun D hD => lc_it walk_range (fun i H' => ∃ u : List Nat, TSame t H H' ∧ H' D = some (.lst ((sv u).map V.str)) ∧ u.length = i ∧ ∀ c ∈ u, c ∈ al) ⟨[], sA.new hD, upd_same, rfl, fun c hc => (List.not_mem_nil hc).elim⟩ (fun _ _ _ _ => trivial) ?_ ?_⟩
    · rintro i x Ha Hb hi ⟨u, sb, hDb, hul, hmem⟩ ⟨rfl, hx⟩
      have him : i < m := by simpa using hi
      refine ⟨rfl, _, rfl, _, rfl, t, al, rfl, sb.at1, by omega, by omega, fun Hc c sc hc => ?_⟩
      refine ⟨_, sc.lst hDb, ?_, u ++ [c], (sb.trans sc).put (sA.none hD), ?_, ?_, ?_⟩
      · unfold sv; rw [List.length_map, List.length_map]; exact small1000 (by omega)
      · rw [upd_same]; unfold sv; rw [List.map_append, List.map_append]; rfl
      · rw [List.length_append, List.length_singleton, hul]
      · intro d hd
        rcases List.mem_append.mp hd with z | z
        · exact hmem d z
        · rw [List.mem_singleton.mp z]; exact hc
    rintro H2 ⟨pt, s2, hDb, hpl, hpm⟩
    have hpl5 : pt.length ≤ 5 := by simpa using (Nat.le_trans (Nat.le_of_eq hpl) (by simpa using hm))
    refine ⟨S [], D, sv pt, rfl, rfl, .inl (SqL.of hDb), ?_, ?_⟩
    · rw [sum1]
      have : (sv pt).length = pt.length := by unfold sv; rw [List.length_map]
      show pt.length + (sv pt).length * 0 ≤ 16777216
      omega
    rw [join1]
    refine ⟨_, rfl, by show 4 ≤ sizeLine; decide, fun Lb hLb => ?_⟩
    have s3 := s2.new (o := .lst [V.int 1, V.int 1, V.int 2, V.int 3]) hLb
    refine ⟨t, Lb, _, rfl, s3.at1, upd_same, by show 0 < 4; decide, fun H3 r3 x s4 hx => ?_⟩
    obtain ⟨n, rfl, hn⟩ : ∃ n : Nat, x = V.int (n : Int) ∧ n ≤ 3 := by
      rcases r3 with _ | _ | _ | _ | r3
      · exact ⟨1, (Option.some.inj hx).symm, by omega⟩
      · exact ⟨1, (Option.some.inj hx).symm, by omega⟩
      · exact ⟨2, (Option.some.inj hx).symm, by omega⟩
      · exact ⟨3, (Option.some.inj hx).symm, by omega⟩
      · cases hx
    have sB := s3.trans s4
    refine ⟨_, rfl, by omega, by omega, for_it walk_range (fun i σ H' => ∃ (u : List Nat) (v4 : Option V), σ = [some (.ref t.d), some (.str (S al)), some (.str (S pt)), some (.str (S u)), v4] ∧ H' = H3 ∧ u.length ≤ 5 * i ∧ ∀ c ∈ u, c ∈ al) ⟨[], _, rfl, rfl, Nat.le_refl _, fun c hc => (List.not_mem_nil hc).elim⟩ (fun _ _ _ _ _ => trivial) ?_ ?_⟩
    · rintro i x σ Ha Hb hi ⟨u, v4, rfl, rfl, hul, hum⟩ ⟨rfl, hx⟩
      have hin : i < n := by simpa using hi
      refine ⟨_, rfl, _, rfl, _, _, rfl, rfl, by rw [S_len, S_len]; exact small_le (by omega), ?_⟩
      rw [S_cat]
      refine ⟨u ++ pt, _, rfl, rfl, by rw [List.length_append]; omega, fun c hc => ?_⟩
      rcases List.mem_append.mp hc with z | z
      · exact hum c z
      · exact hpm c z
    rintro σ H4 ⟨u, v4, rfl, rfl, hul, hum⟩
    have hul15 : u.length ≤ 15 := by
      have : (((n : Nat) : Int)).toNat = n := Int.toNat_natCast _
      omega
    refine ⟨_, rfl, ⟨_, rfl⟩, _, rfl, t, 4, rfl, sB.at1, by decide, fun H5 r5 s5 hr5 => ⟨_, rfl, by omega, by omega, fun D2 hD2 => lc_it walk_range (fun i H' => ∃ u : List Nat, TSame t H H' ∧ H' D2 = some (.lst ((sv u).map V.str)) ∧ u.length = i ∧ ∀ c ∈ u, c ∈ al) ⟨[], (sB.trans s5).new hD2, upd_same, rfl, fun c hc => (List.not_mem_nil hc).elim⟩ (fun _ _ _ _ => trivial) ?_ ?_⟩⟩
    · rintro i x Ha Hb hi ⟨u2, sb, hDb, hul2, hmem⟩ ⟨rfl, hx⟩
      have him : i < r5 := by simpa using hi
      refine ⟨rfl, _, rfl, _, rfl, t, al, rfl, sb.at1, by omega, by omega, fun Hc c sc hc => ?_⟩
      refine ⟨_, sc.lst hDb, ?_, u2 ++ [c], (sb.trans sc).put ((sB.trans s5).none hD2), ?_, ?_, ?_⟩
      · unfold sv; rw [List.length_map, List.length_map]; exact small1000 (by omega)
      · rw [upd_same]; unfold sv; rw [List.map_append, List.map_append]; rfl
      · rw [List.length_append, List.length_singleton, hul2]
      · intro d hd
        rcases List.mem_append.mp hd with z | z
        · exact hmem d z
        · rw [List.mem_singleton.mp z]; exact hc
    rintro H6 ⟨u2, s6, hDb2, hul2, hum2⟩
    have hu24 : u2.length ≤ r5 := by simpa using Nat.le_of_eq hul2
    refine ⟨S [], D2, sv u2, rfl, rfl, .inl (SqL.of hDb2), ?_, ?_⟩
    · rw [sum1]
      have : (sv u2).length = u2.length := by unfold sv; rw [List.length_map]
      show u2.length + (sv u2).length * 0 ≤ 16777216
      omega
    rw [join1]
    refine ⟨_, _, rfl, rfl, by rw [S_len, S_len]; exact small_le (by omega), ?_⟩
    rw [S_cat]
    refine ⟨_, rfl, _, rfl, by rw [S_len, List.length_append]; exact small_le (by omega), ?_⟩
    rw [show (some (14 : Int)) = some ((14 : Nat) : Int) from rfl, cutS_take]
    refine q H6 _ s6 (fun c hc => ?_) (by rw [List.length_take]; omega)
    rcases List.mem_append.mp (List.mem_of_mem_take hc) with z | z
    · exact hum c z
    · exact hum2 c z
theorem ok_lcorpusN {f : Addr} {fd : FuncData} (F : C8.Fun K "_law_corpus" "_law_corpus" s__law_corpus f fd) (T : Txt K mg) (c__law_draw : C8.Cal P w K mg base 2 "_law_draw" sp_draw []) (c__law_pick : C8.Cal P w K mg base 3 "_law_pick" sp_pick []) (c__law_text : C8.Cal P w K mg base 4 "_law_text" sp_ltextN []) : FnOk P w K mg base C8.CX0 5 f fd ["tape", "letters", "most"] sp_lcorpusN := by
  refine C8.fn0 F sc__law_corpus (fun vs H Q E h => ?_) (fun cdv A outer s H vs Q E hr h => ?_)
  · obtain ⟨t, al, most, rfl, _⟩ := h; rfl
  · obtain ⟨t, al, most, rfl, hT, hal1, hal, hmo, q⟩ := h
    refine ⟨_, (pss_cons (ps_set (i := 3) sc__law_corpus.nd rfl (Or.inl rfl) (pe_lst pa_nil))
      (pss_cons (ps_for PassesOwn.never rfl (pi_range1 rfl T.b_range (pa_cons (C8.pe_c c__law_draw hr (by first | decide | omega) (by rfl) (pa_cons (pv 0) (pa_cons (pe_op op_add (pv 2) pe_int) pa_nil))) pa_nil)) (pg_name (i := 4) sc__law_corpus.nd rfl (Or.inl rfl)) (pss_one (ps_expr (pe_bm PySem.F.plainAttrs_list PySem.F.slot_list_append PySem.F.type_list_append mt_append (pv 3) (pa_cons (pe_tup (pa_cons (C8.pe_c c__law_text hr (by first | decide | omega) (by rfl) (pa_cons (pv 0) (pa_cons (pv 1) pa_nil))) (pa_cons (C8.pe_c c__law_pick hr (by first | decide | omega) (by rfl) (pa_cons (pv 0) (pa_cons (pe_lst (pa_cons pe_int (pa_cons pe_int (pa_cons pe_int (pa_cons pe_int (pa_cons (pe_op op_add pe_int (C8.pe_c c__law_draw hr (by first | decide | omega) (by rfl) (pa_cons (pv 0) (pa_cons pe_int pa_nil)))) (pa_cons (pe_op op_pow pe_int pe_int) pa_nil))))))) pa_nil))) pa_nil))) pa_nil)))))
      (pss_one (ps_ret (pv 3))))), ?_⟩
    refine ⟨Nat.zero_le _, fun D hD => ?_⟩
    have s0 := (TSame.refl hT).new (o := .lst []) hD
    have hDd : D ≠ t.d := fun e => by
      obtain ⟨_, _, _, _, _, z, _⟩ := hT
      rw [← e, hD] at z; cases z
    refine ⟨_, rfl, _, rfl, _, _, rfl, rfl, t, _, rfl, s0.at1, by omega, fun H1 m s1 hm => ⟨_, rfl, by omega, by omega, ?_⟩⟩
    refine for_it walk_range (fun i σ H' => ∃ (us : List V) (co : List (List Nat × Nat)) (v4 : Option V), σ = [some (.ref t.d), some (.str (S al)), some (.int (most : Int)), some (.ref D), v4] ∧ TSame t H H' ∧ H' D = some (.lst us) ∧ Paired (CEnt H') us co ∧ us.length = i ∧ TextsN al co)
      ⟨[], [], none, rfl, s0.trans s1, s1.lst upd_same, .nil, rfl, fun e he => (List.not_mem_nil he).elim⟩ (fun _ _ _ _ _ => trivial) ?_ ?_
    · rintro i x σ Ha Hb hi ⟨us, co, v4, rfl, sa, hDa, hus, hul, hco⟩ ⟨rfl, hx⟩
      have him : i < m := by simpa using hi
      refine ⟨_, rfl, .inl ⟨rfl, _, SqL.of hDa⟩, _, rfl, _, rfl, t, al, rfl, sa.at1, hal1, hal, fun H2 u s2 hum hul2 => ?_⟩
      have s02 := sa.trans s2
      refine ⟨_, rfl, _, rfl, t, 1000, rfl, s02.at1, by decide, fun H3 r3 s3 hr3 => ⟨_, _, rfl, rfl, ?_⟩⟩
      refine ⟨_, _, rfl, rfl, ?_, by show 6 ≤ sizeLine; decide, fun La hLa => ?_⟩
      · exact ⟨by decide, by decide, by decide⟩
      have sE := (s02.trans s3).new (o := .lst [V.int 1, V.int 1, V.int 2, V.int 3, V.int (1 + (r3 : Int)), V.int ((10 : Int) ^ (15 : Int).toNat)]) hLa
      refine ⟨t, La, _, rfl, sE.at1, upd_same, by show 0 < 6; decide, fun H11 r11 x11 s11 hx11 => ⟨by show 2 ≤ sizeLine; decide, fun g hg => ?_⟩⟩
      obtain ⟨n, rfl⟩ : ∃ n : Nat, x11 = V.int (n : Int) := by
        rcases r11 with _ | _ | _ | _ | _ | _ | r11
        · exact ⟨1, (Option.some.inj hx11).symm⟩
        · exact ⟨1, (Option.some.inj hx11).symm⟩
        · exact ⟨2, (Option.some.inj hx11).symm⟩
        · exact ⟨3, (Option.some.inj hx11).symm⟩
        · exact ⟨1 + r3, (Option.some.inj hx11).symm.trans (congrArg V.int (by rw [Int.natCast_add]; rfl))⟩
        · exact ⟨1000000000000000, (Option.some.inj hx11).symm⟩
        · cases hx11
      have sL : Same H3 (upd H3 La (.lst [V.int 1, V.int 1, V.int 2, V.int 3, V.int (1 + (r3 : Int)), V.int ((10 : Int) ^ (15 : Int).toNat)])) := same_new hLa
      have sF := sE.trans s11
      have sG := sF.new (o := .tup [V.str (S u), V.int (n : Int)]) hg
      have hD12 : (upd H11 g (.tup [V.str (S u), V.int (n : Int)])) D = some (.lst us) := (same_new hg) _ _ (s11.lst (sL _ _ (s3.lst (s2.lst hDa))))
      have hus12 : Paired (CEnt (upd H11 g (.tup [V.str (S u), V.int (n : Int)]))) us co := Paired.mapP hus fun _ _ q => CEnt.same (Same.t (same_new hg)) (CEnt.same s11.tt (CEnt.same (Same.t sL) (CEnt.same s3.tt (CEnt.same s2.tt q))))
      refine ⟨D, us, _, rfl, rfl, hD12, small1000 (by omega), us ++ [V.ref g], co ++ [(u, n)], _, rfl, sG.put hD, upd_same, ?_, ?_, fun e he => ?_⟩
      · have sT : SameT (upd H11 g (.tup [V.str (S u), V.int (n : Int)])) (upd (upd H11 g (.tup [V.str (S u), V.int (n : Int)])) D (.lst (us ++ [V.ref g]))) := SameT.put hD12
        exact Paired.snoc ⟨g, rfl, sT _ _ upd_same⟩ (Paired.mapP hus12 fun _ _ q => CEnt.same sT q)
      · rw [List.length_append, List.length_singleton, hul]
      · rcases List.mem_append.mp he with z | z
        · exact hco e z
        · rw [List.mem_singleton.mp z]; exact ⟨hum, hul2⟩
    · rintro σ H5 ⟨us, co, v4, rfl, sa, hDa, hus, hul, hco⟩
      refine ⟨_, rfl, q H5 D us co sa hD hDa hus ?_ hco⟩
      rw [← hus.length, hul]
      simp only [Int.toNat_natCast]
      omega
end
end RJ
end

section
set_option maxRecDepth 100000
set_option maxHeartbeats 8000000
namespace RJ
open PySem PySem.Spec PyProof.Rows L2
abbrev s_Joins___iter__ : Stmt := inClass (top 26) 3
abbrev N_Joins___iter__ : List Str := ["self"]
theorem sc_Joins___iter__ : FnScope N_Joins___iter__ ["self"] (C8.fnScope s_Joins___iter__) := C8.fnScope_by (by decide +kernel)
abbrev s__law_list_right : Stmt := top 51
abbrev N__law_list_right : List Str := ["made", "joins"]
theorem sc__law_list_right : FnScope N__law_list_right ["made", "joins"] (C8.fnScope s__law_list_right) := C8.fnScope_by (by decide +kernel)
def sp_iterS (C : Addr) (n0 : Nat) : Sp := fun vs H Q _ => ∃ (p : Addr) (al : List Nat) (ps : List (Nat × Nat)), vs = [.ref p] ∧ JoinsAt C H p al ps ∧
  ∀ it t ws, H t = some (.tup ws) → PairsAt H ws ps → H it = none → n0 ≤ it → Q (.ref it) (upd H it (TupS it t))
theorem pairs_sameN {H : Hp} {n : Nat} {z g : Addr} {us ws : List V} {ps : List (Nat × Nat)} (hz : H z = some (.tup us)) (hg : H g = some (.tup ws)) (hu : PairsAt H us ps) (hw : PairsAt H ws ps) (hl : ps.length ≤ 1000) : SameD H (n + 2) (.ref z) (.ref g) := by
  refine .inr ⟨z, g, us, ws, rfl, rfl, hz, hg, by rw [hu.length]; exact hl, ?_⟩
  have gen : ∀ {T : List (Nat × Nat)} {us ws : List V}, PairsAt H us T → PairsAt H ws T → Paired (SameD H (n + 1)) us ws := by
    intro T
    induction T with
    | nil => intro us ws h1 h2; cases h1; cases h2; exact .nil
    | cons e T ih =>
      intro us ws h1 h2
      cases h1 with
      | cons a1 t1 => cases h2 with
        | cons a2 t2 =>
          refine .cons ?_ (ih t1 t2)
          obtain ⟨y, rfl, hy⟩ := a1
          obtain ⟨y2, rfl, hy2⟩ := a2
          exact .inr ⟨y, y2, _, _, rfl, rfl, hy, hy2, by simp, .cons (SameD.flat rfl n) (.cons (SameD.flat rfl n) .nil)⟩
  exact gen hu hw
def sp_lright (C : Addr) : Sp := fun vs H Q _ => ∃ (y : Addr) (l : Lj) (al : List Nat) (ps : List (Nat × Nat)), vs = [.ref y, .ref l.j] ∧ JoinsAt C H y al ps ∧ LjAt l H al ps ∧ ps.length ≤ 1000 ∧ ∀ H', Same H H' → Q (.bl true) H'
section
variable {P : Program} {w : World} {K : PySem.W.Frag} {mg : Str → Option Value} {base : Heap}
theorem ok_iterS {f C : Addr} {fd : FuncData} (F : C8.Fun K "__iter__" "Joins.__iter__" s_Joins___iter__ f fd) (T : Txt K mg) (J : JTxt K C) : FnS P w K mg base 1 f fd ["self"] (sp_iterS C) := by
  refine fnS0 F sc_Joins___iter__ (fun n vs H Q E h => ?_) (fun cdv A outer s H vs Q E hr h => ?_)
  · obtain ⟨p, al, ps, rfl, _⟩ := h; rfl
  · obtain ⟨p, al, ps, rfl, ⟨dx, t, tx, d, e, ws, h1, h2, h3, h4, h5, h6⟩, q⟩ := h
    refine ⟨_, (pss_one (ps_ret (pe_callB (call_iterN (n0 := s.heap.objs.size) (Nat.le_refl _)) (by rfl) T.b_iter (by decide +kernel) (pa_cons (pe_fld (pv 0) rfl) pa_nil)))), ?_⟩
    exact ⟨_, rfl, p, C, dx, _, _, rfl, h1, J.cl, J.n2, f5_pairs al t tx d e, t, ws, rfl, h2, fun it hit hn => q it t ws h2 h3 hit hn⟩
theorem ok_lright {f C : Addr} {fd : FuncData} (F : C8.Fun K "_law_list_right" "_law_list_right" s__law_list_right f fd) (T : Txt K mg) (J : JTxt K C) (m___len__ : C8.Met P w K mg base 1 C "__len__" (sp_len C) []) (n___iter__ : MetS P w K mg base 1 C "__iter__" (sp_iterS C)) (c__law_same : C8.Cal P w K mg base 4 "_law_same" (sp_same 3) []) : FnOk P w K mg base C8.CX0 6 f fd ["made", "joins"] (sp_lright C) := by
  refine C8.fn0 F sc__law_list_right (fun vs H Q E h => ?_) (fun cdv A outer s H vs Q E hr h => ?_)
  · obtain ⟨y, l, al, ps, rfl, _⟩ := h; rfl
  · obtain ⟨y, l, al, ps, rfl, hj, hL, hpl, q⟩ := h
    have hu := hu_of hr
    refine ⟨_, (pss_one (ps_ret (C8.pe_c c__law_same hr (by first | decide | omega) (by rfl) (pa_cons (pe_tup (pa_cons (pe_fld (pv 0) rfl) (pa_cons (pe_tupleOf (by rfl) T.b_tuple (pe_callTy (call_listO rfl n___iter__ m___len__ (hr.mono (by decide))) (by rfl) T.b_list (by decide +kernel) (pa_cons (pv 0) pa_nil))) pa_nil))) (pa_cons (pe_tup (pa_cons (pe_dget hu (pv 1) pe_str (fun _ _ => rfl)) (pa_cons (pe_tupleOf (by rfl) T.b_tuple (pe_dget hu (pv 1) pe_str (fun _ _ => rfl))) pa_nil))) pa_nil))))), ?_⟩
    obtain ⟨dx, t, tx, d, e, ws, h1, h2, h3, h4, h5, h6⟩ := id hj
    refine ⟨_, rfl, y, C, dx, _, _, rfl, h1, J.cl, J.n1, f5_alphabet al t tx d e, ?_⟩
    refine ⟨_, rfl, y, dx, _, rfl, h1, fun q0 n0 hq0 => ⟨?_, ?_⟩⟩
    · have s0 := same_new (o := .lst []) hq0
      exact ⟨y, al, ps, rfl, hj.same s0, ps.length, rfl, by omega, ps.length, rfl, hpl, rfl⟩
    · have s0 := same_new (o := .lst []) hq0
      refine ⟨y, al, ps, rfl, hj.same s0, fun it pa us hpa hus hit hn => ?_⟩
      have npq : pa ≠ q0 := fun z => by rw [z, upd_same] at hpa; cases hpa
      have hpa' : H pa = some (.tup us) := by rw [← hpa, upd_ne npq]
      have hus' : PairsAt H us ps := Paired.mapP hus fun _ _ ⟨g, e, hg⟩ => ⟨g, e, by rw [← hg, upd_ne (fun z => by rw [z, upd_same] at hg; cases hg)]⟩
      have hni : H it = none := by
        by_cases z : it = q0
        · rw [z]; exact hq0
        · rw [← hit, upd_ne z]
      refine ⟨it, pa, us, rfl, hit, hn, rfl, hpa', ?_⟩
      have sq := same_new (o := .lst us) hq0
      refine .inl ⟨q0, us, rfl, SqL.of upd_same, fun z1 hz1 => ⟨by show 2 ≤ sizeLine; decide, fun z2 hz2 => ?_⟩⟩
      have s1 := Same.new (o := .tup us) sq hz1
      have s2 := Same.new (o := .tup [V.str (S al), V.ref z1]) s1 hz2
      have e1 := (same_new (o := .tup [V.str (S al), V.ref z1]) hz2) _ _ (upd_same (H := upd H q0 (.lst us)) (a := z1) (o := .tup us))
      have e2 : (upd (upd (upd H q0 (.lst us)) z1 (.tup us)) z2 (.tup [V.str (S al), V.ref z1])) z2 = some (.tup [V.str (S al), V.ref z1]) := upd_same
      generalize upd (upd (upd H q0 (.lst us)) z1 (.tup us)) z2 (.tup [V.str (S al), V.ref z1]) = H3 at s2 e1 e2 ⊢
      obtain ⟨ws2, hw1, hw2⟩ := (hL.same s2).p
      refine ⟨_, rfl, l.j, _, rfl, dk (s2 _ _ hL.d) rfl, _, rfl, l.j, _, rfl, dk (s2 _ _ hL.d) rfl, .inl ⟨l.pp, ws2, rfl, SqL.of hw1, fun z3 hz3 => ⟨by show 2 ≤ sizeLine; decide, fun z4 hz4 => ?_⟩⟩⟩
      have s3 := same_new (o := .tup ws2) hz3
      have s4 := Same.new (o := .tup [V.str (S al), V.ref z3]) s3 hz4
      have f1 := (same_new (o := .tup [V.str (S al), V.ref z3]) hz4) _ _ (upd_same (H := H3) (a := z3) (o := .tup ws2))
      refine ⟨_, _, rfl, .inr ⟨z2, z4, _, _, rfl, rfl, s4 _ _ e2, upd_same, by show 2 ≤ 1000; decide, .cons (SameD.flat rfl 2) (.cons (pairs_sameN (n := 0) (s4 _ _ e1) f1 (hus'.same (Same.t (s2.trans s4))) (hw2.same (Same.t s4)) hpl) .nil)⟩, fun H5 s5 => q H5 ((s2.trans s4).trans s5)⟩
end
end RJ
end

section
set_option maxRecDepth 100000
set_option maxHeartbeats 8000000
namespace RJ
open PySem PySem.Spec PyProof.Rows L2
/-- the corpus whose first strange sign is c, at the place i of a text -/
def CorpBad (al : List Nat) (co : List (List Nat × Nat)) (i c : Nat) : Prop := ∃ (k : Nat) (e : List Nat × Nat), co[k]? = some e ∧ FirstBad al e.1 i c ∧ co.length ≤ 100 ∧ (∀ x ∈ co, x.1.length ≤ 1000) ∧ c < 1114112 ∧ ∀ (j : Nat) (x : List Nat × Nat), j < k → co[j]? = some x → ∀ d ∈ x.1, d ∈ al
section
variable {P : Program} {w : World} {K : PySem.W.Frag} {mg : Str → Option Value} {base : Heap}
theorem ok_letters_ofB {f C CU : Addr} {fd : FuncData} (F : C8.Fun K "letters_of" "letters_of" s_letters_of f fd) (T : Txt K mg) (J : JTxt K C) (c_letter_row : C8.Cal P w K mg base 1 "letter_row" sp_letter_row []) (x_letter_row : CalX P w K mg base 3 "letter_row" (sp_letter_rowX CU)) :
    FnOk P w K mg base (CXN P w) 4 f fd ["joins", "text"] (fun vs H Q E => sp_letters_of C vs H Q E ∨ sp_letters_ofX C CU vs H Q E) :=
  RJ.FnOk.or (RJ.FnOk.lift (L2.FnOk.mono (ok_letters_of F T J c_letter_row) (by decide))) (ok_letters_ofX F T J x_letter_row)
theorem ok_cutX {f C CU : Addr} {fd : FuncData} (F : C8.Fun K "cut" "cut" s_cut f fd) (T : Txt K mg) (J : JTxt K C) (x_letters_of : CalX P w K mg base 4 "letters_of" (fun vs H Q E => sp_letters_of C vs H Q E ∨ sp_letters_ofX C CU vs H Q E)) (m_join_row : C8.Met P w K mg base 3 C "join_row" (sp_join_row C) []) : FnOk P w K mg base (CXN P w) 5 f fd ["joins", "text"] (sp_letters_ofX C CU) := by
  refine fnX F sc_cut (fun vs H Q E h => ?_) (fun cdv A outer s H vs Q E hr h tk => ?_)
  · obtain ⟨p, t, al, ps, i, c, rfl, _⟩ := h; rfl
  · obtain ⟨p, u, al, ps, i, c, rfl, hj, hb, hl, hc, q⟩ := h
    obtain ⟨dx, t, tx, d, e, ws, h1, h2, h3, h4, h5, h6⟩ := id hj
    refine ⟨_, (pss_one (ps_ret (pe_tupleOf (by rfl) T.b_tuple (C8.pe_mt m_join_row hr (by first | decide | omega) (pv 0) (pa_cons (pe_cx x_letters_of hr (by first | decide | omega) tk (by rfl) (pa_cons (pv 0) (pa_cons (pv 1) pa_nil))) pa_nil))))), ?_⟩
    exact ⟨_, rfl, p, dx, _, rfl, h1, f5_no al t tx d e (by decide +kernel) (by decide +kernel) (by decide +kernel) (by decide +kernel) (by decide +kernel), _, rfl, _, rfl, .inr ⟨p, u, al, ps, i, c, rfl, hj, hb, hl, hc, q⟩⟩
theorem ok_cutB {f C CU : Addr} {fd : FuncData} (F : C8.Fun K "cut" "cut" s_cut f fd) (T : Txt K mg) (J : JTxt K C) (c_letters_of : C8.Cal P w K mg base 2 "letters_of" (sp_letters_of C) []) (x_letters_of : CalX P w K mg base 4 "letters_of" (fun vs H Q E => sp_letters_of C vs H Q E ∨ sp_letters_ofX C CU vs H Q E)) (m_join_row : C8.Met P w K mg base 3 C "join_row" (sp_join_row C) []) :
    FnOk P w K mg base (CXN P w) 5 f fd ["joins", "text"] (fun vs H Q E => sp_cut C vs H Q E ∨ sp_letters_ofX C CU vs H Q E) :=
  RJ.FnOk.or (RJ.FnOk.lift (L2.FnOk.mono (ok_cut F T J c_letters_of m_join_row) (by decide))) (ok_cutX F T J x_letters_of m_join_row)
end
end RJ
end

section
set_option maxRecDepth 100000
set_option maxHeartbeats 4000000
namespace RJ
open PySem PySem.Spec PyProof.Rows L2
section
variable {P : Program} {w : World} {K : PySem.W.Frag} {mg : Str → Option Value} {base : Heap}
theorem ok_sameH0 {f : Addr} {fd : FuncData} (F : C8.Fun K "_law_same" "_law_same" s__law_same f fd) (T : Txt K mg) : L2H.FnH P w K mg base C8.CX0 1 f fd ["actual", "due"] (sp_same 0) := by
  refine fnH0 F sc__law_same (fun vs H Q E h => ?_) (fun cdv A outer s H vs Q E p hr h hot => ?_)
  · obtain ⟨x, y, rfl, _⟩ := h; rfl
  · obtain ⟨x, y, rfl, ⟨rfl, hsc⟩, q⟩ := h
    refine ⟨_, (pss_cons (ps_if (pt_val (pe_callB call_isi (by rfl) T.b_isinstance (by decide +kernel) (pa_cons (pv 1) (pa_cons (pe_bltn (v := .ty "tuple") (u := .type "tuple") rfl T.b_tuple (by decide +kernel) rfl) pa_nil)))) (pss_cons (ps_if (PW.pt (pw_or (pt_not (pt_val (pe_callB call_isi (by rfl) T.b_isinstance (by decide +kernel) (pa_cons (pv 0) (pa_cons (pe_bltn (v := .ty "tuple") (u := .type "tuple") rfl T.b_tuple (by decide +kernel) rfl) pa_nil))))) (pw_or1 (pt_cmpR op_ne (pe_callB call_len_seq (by rfl) T.b_len PySem.boot_len (pa_cons (pv 0) pa_nil)) (pe_callB call_len_seq (by rfl) T.b_len PySem.boot_len (pa_cons (pv 1) pa_nil)) (nomark _))))) (pss_one (ps_ret pe_bl)) pss_nil)
      (pss_cons (L2H.ps_forH PassesOwn.never hot (L2H.pi_range1H rfl T.b_range (pa_cons (pe_callB call_len_seq (by rfl) T.b_len PySem.boot_len (pa_cons (pv 1) pa_nil)) pa_nil)) (pg_name (i := 2) sc__law_same.nd rfl (Or.inl rfl)) (pss_one (ps_if (pt_not (pt_val pe_never)) (pss_one (ps_ret pe_bl)) pss_nil)))
      (pss_one (ps_ret pe_bl)))) pss_nil)
      (pss_cons (ps_if (pt_cmpR op_isN (pv 1) pe_non (nomark _)) (pss_one (ps_ret (pe_cmpR op_isN (pv 0) pe_non (nomark _)))) pss_nil)
      (pss_cons (ps_if (pt_val (pe_callB call_isi (by rfl) T.b_isinstance (by decide +kernel) (pa_cons (pv 1) (pa_cons (pe_bltn (v := .ty "bool") (u := .type "bool") rfl T.b_bool (by decide +kernel) rfl) pa_nil)))) (pss_one (ps_ret (pe_and (pe_callB call_isi (by rfl) T.b_isinstance (by decide +kernel) (pa_cons (pv 0) (pa_cons (pe_bltn (v := .ty "bool") (u := .type "bool") rfl T.b_bool (by decide +kernel) rfl) pa_nil))) (pe_one (pe_cmpR op_eq (pv 0) (pv 1) (nomark _)))))) pss_nil)
      (pss_cons (ps_if (pt_val (pe_callB call_isi (by rfl) T.b_isinstance (by decide +kernel) (pa_cons (pv 1) (pa_cons (pe_bltn (v := .ty "str") (u := .type "str") rfl T.b_str (by decide +kernel) rfl) pa_nil)))) (pss_one (ps_ret (pe_and (pe_callB call_isi (by rfl) T.b_isinstance (by decide +kernel) (pa_cons (pv 0) (pa_cons (pe_bltn (v := .ty "str") (u := .type "str") rfl T.b_str (by decide +kernel) rfl) pa_nil))) (pe_one (pe_cmpR op_eq (pv 0) (pv 1) (nomark _)))))) pss_nil)
      (pss_one (ps_ret (pe_and (pe_callB call_isi (by rfl) T.b_isinstance (by decide +kernel) (pa_cons (pv 0) (pa_cons (pe_bltn (v := .ty "int") (u := .type "int") rfl T.b_int (by decide +kernel) rfl) pa_nil))) (pe_and (pe_not (pe_callB call_isi (by rfl) T.b_isinstance (by decide +kernel) (pa_cons (pv 0) (pa_cons (pe_bltn (v := .ty "bool") (u := .type "bool") rfl T.b_bool (by decide +kernel) rfl) pa_nil)))) (pe_one (pe_cmpR op_eq (pv 0) (pv 1) (nomark _))))))))))), ?_⟩
    cases x with
    | non => exact ⟨_, rfl, _, .ty "tuple", _, .type "tuple", false, rfl, .ty _, .base .non, kit_ty (by decide +kernel), _, rfl, iteF ⟨_, rfl, rfl, _, rfl, iteT ⟨_, rfl, rfl, q H (Same.refl H)⟩⟩⟩
    | str z =>
      refine ⟨_, rfl, _, .ty "tuple", .type "str", .type "tuple", false, rfl, .ty _, .base (.str z), kit_ty (by decide +kernel), _, rfl, iteF ⟨_, rfl, rfl, _, rfl, iteF ?_⟩⟩
      refine ⟨_, rfl, _, .ty "bool", .type "str", .type "bool", false, rfl, .ty _, .base (.str z), kit_ty (by decide +kernel), _, rfl, iteF ⟨_, rfl, _, .ty "str", .type "str", .type "str", true, rfl, .ty _, .base (.str z), kit_ty (by decide +kernel), _, rfl, iteT ⟨_, rfl, _, .ty "str", .type "str", .type "str", true, rfl, .ty _, .base (.str z), kit_ty (by decide +kernel), _, rfl, iteT ⟨_, rfl, _, rfl, rfl, ?_⟩⟩⟩⟩
      rw [decide_eq_true rfl]; exact q H (Same.refl H)
    | bl z =>
      refine ⟨_, rfl, _, .ty "tuple", .type "bool", .type "tuple", false, rfl, .ty _, .base (.bl z), kit_ty (by decide +kernel), _, rfl, iteF ⟨_, rfl, rfl, _, rfl, iteF ?_⟩⟩
      refine ⟨_, rfl, _, .ty "bool", .type "bool", .type "bool", true, rfl, .ty _, .base (.bl z), kit_ty (by decide +kernel), _, rfl, iteT ⟨_, rfl, _, .ty "bool", .type "bool", .type "bool", true, rfl, .ty _, .base (.bl z), kit_ty (by decide +kernel), _, rfl, iteT ⟨_, rfl, _, rfl, rfl, ?_⟩⟩⟩
      rw [decide_eq_true rfl]; exact q H (Same.refl H)
    | int z =>
      refine ⟨_, rfl, _, .ty "tuple", .type "int", .type "tuple", false, rfl, .ty _, .base (.int z), kit_ty (by decide +kernel), _, rfl, iteF ⟨_, rfl, rfl, _, rfl, iteF ?_⟩⟩
      refine ⟨_, rfl, _, .ty "bool", .type "int", .type "bool", false, rfl, .ty _, .base (.int z), kit_ty (by decide +kernel), _, rfl, iteF ⟨_, rfl, _, .ty "str", .type "int", .type "str", false, rfl, .ty _, .base (.int z), kit_ty (by decide +kernel), _, rfl, iteF ⟨_, rfl, _, .ty "int", .type "int", .type "int", true, rfl, .ty _, .base (.int z), kit_ty (by decide +kernel), _, rfl, iteT ⟨_, rfl, _, .ty "bool", .type "int", .type "bool", false, rfl, .ty _, .base (.int z), kit_ty (by decide +kernel), _, rfl, _, rfl, iteT ⟨_, rfl, _, rfl, rfl, ?_⟩⟩⟩⟩⟩
      rw [decide_eq_true rfl]; exact q H (Same.refl H)
    | byt z => cases hsc
    | flt z => cases hsc
    | ref z => cases hsc
    | ty z => cases hsc
theorem ok_sameHS {f : Addr} {fd : FuncData} {n k : Nat} (F : C8.Fun K "_law_same" "_law_same" s__law_same f fd) (T : Txt K mg) (h__law_same : CalH P w K mg base k "_law_same" (sp_same n)) : L2H.FnH P w K mg base C8.CX0 (k + 1) f fd ["actual", "due"] (sp_same (n + 1)) := by
  refine fnH0 F sc__law_same (fun vs H Q E h => ?_) (fun cdv A outer s H vs Q E p hr h hot => ?_)
  · obtain ⟨x, y, rfl, _⟩ := h; rfl
  · obtain ⟨x, y, rfl, hxy, q⟩ := h
    refine ⟨_, (pss_cons (ps_if (pt_val (pe_callB call_isi (by rfl) T.b_isinstance (by decide +kernel) (pa_cons (pv 1) (pa_cons (pe_bltn (v := .ty "tuple") (u := .type "tuple") rfl T.b_tuple (by decide +kernel) rfl) pa_nil)))) (pss_cons (ps_if (PW.pt (pw_or (pt_not (pt_val (pe_callB call_isi (by rfl) T.b_isinstance (by decide +kernel) (pa_cons (pv 0) (pa_cons (pe_bltn (v := .ty "tuple") (u := .type "tuple") rfl T.b_tuple (by decide +kernel) rfl) pa_nil))))) (pw_or1 (pt_cmpR op_ne (pe_callB call_len_seq (by rfl) T.b_len PySem.boot_len (pa_cons (pv 0) pa_nil)) (pe_callB call_len_seq (by rfl) T.b_len PySem.boot_len (pa_cons (pv 1) pa_nil)) (nomark _))))) (pss_one (ps_ret pe_bl)) pss_nil)
      (pss_cons (L2H.ps_forH PassesOwn.never hot (L2H.pi_range1H rfl T.b_range (pa_cons (pe_callB call_len_seq (by rfl) T.b_len PySem.boot_len (pa_cons (pv 1) pa_nil)) pa_nil)) (pg_name (i := 2) sc__law_same.nd rfl (Or.inl rfl)) (pss_one (ps_if (pt_not (pt_val (pe_ch h__law_same hr (by first | decide | omega) hot (by rfl) (pa_cons (pe_ix ix_tup (pv 0) (pv 2) (fun _ _ => rfl)) (pa_cons (pe_ix ix_tup (pv 1) (pv 2) (fun _ _ => rfl)) pa_nil))))) (pss_one (ps_ret pe_bl)) pss_nil)))
      (pss_one (ps_ret pe_bl)))) pss_nil)
      (pss_cons (ps_if (pt_cmpR op_isN (pv 1) pe_non (nomark _)) (pss_one (ps_ret (pe_cmpR op_isN (pv 0) pe_non (nomark _)))) pss_nil)
      (pss_cons (ps_if (pt_val (pe_callB call_isi (by rfl) T.b_isinstance (by decide +kernel) (pa_cons (pv 1) (pa_cons (pe_bltn (v := .ty "bool") (u := .type "bool") rfl T.b_bool (by decide +kernel) rfl) pa_nil)))) (pss_one (ps_ret (pe_and (pe_callB call_isi (by rfl) T.b_isinstance (by decide +kernel) (pa_cons (pv 0) (pa_cons (pe_bltn (v := .ty "bool") (u := .type "bool") rfl T.b_bool (by decide +kernel) rfl) pa_nil))) (pe_one (pe_cmpR op_eq (pv 0) (pv 1) (nomark _)))))) pss_nil)
      (pss_cons (ps_if (pt_val (pe_callB call_isi (by rfl) T.b_isinstance (by decide +kernel) (pa_cons (pv 1) (pa_cons (pe_bltn (v := .ty "str") (u := .type "str") rfl T.b_str (by decide +kernel) rfl) pa_nil)))) (pss_one (ps_ret (pe_and (pe_callB call_isi (by rfl) T.b_isinstance (by decide +kernel) (pa_cons (pv 0) (pa_cons (pe_bltn (v := .ty "str") (u := .type "str") rfl T.b_str (by decide +kernel) rfl) pa_nil))) (pe_one (pe_cmpR op_eq (pv 0) (pv 1) (nomark _)))))) pss_nil)
      (pss_one (ps_ret (pe_and (pe_callB call_isi (by rfl) T.b_isinstance (by decide +kernel) (pa_cons (pv 0) (pa_cons (pe_bltn (v := .ty "int") (u := .type "int") rfl T.b_int (by decide +kernel) rfl) pa_nil))) (pe_and (pe_not (pe_callB call_isi (by rfl) T.b_isinstance (by decide +kernel) (pa_cons (pv 0) (pa_cons (pe_bltn (v := .ty "bool") (u := .type "bool") rfl T.b_bool (by decide +kernel) rfl) pa_nil)))) (pe_one (pe_cmpR op_eq (pv 0) (pv 1) (nomark _))))))))))), ?_⟩
    rcases hxy with ⟨rfl, hsc⟩ | ⟨a, b, xs, ys, rfl, rfl, ha, hb, hlen, hP⟩
    · cases x with
      | non => exact ⟨_, rfl, _, .ty "tuple", _, .type "tuple", false, rfl, .ty _, .base .non, kit_ty (by decide +kernel), _, rfl, iteF ⟨_, rfl, rfl, _, rfl, iteT ⟨_, rfl, rfl, q H (Same.refl H)⟩⟩⟩
      | str z =>
        refine ⟨_, rfl, _, .ty "tuple", .type "str", .type "tuple", false, rfl, .ty _, .base (.str z), kit_ty (by decide +kernel), _, rfl, iteF ⟨_, rfl, rfl, _, rfl, iteF ?_⟩⟩
        refine ⟨_, rfl, _, .ty "bool", .type "str", .type "bool", false, rfl, .ty _, .base (.str z), kit_ty (by decide +kernel), _, rfl, iteF ⟨_, rfl, _, .ty "str", .type "str", .type "str", true, rfl, .ty _, .base (.str z), kit_ty (by decide +kernel), _, rfl, iteT ⟨_, rfl, _, .ty "str", .type "str", .type "str", true, rfl, .ty _, .base (.str z), kit_ty (by decide +kernel), _, rfl, iteT ⟨_, rfl, _, rfl, rfl, ?_⟩⟩⟩⟩
        rw [decide_eq_true rfl]; exact q H (Same.refl H)
      | bl z =>
        refine ⟨_, rfl, _, .ty "tuple", .type "bool", .type "tuple", false, rfl, .ty _, .base (.bl z), kit_ty (by decide +kernel), _, rfl, iteF ⟨_, rfl, rfl, _, rfl, iteF ?_⟩⟩
        refine ⟨_, rfl, _, .ty "bool", .type "bool", .type "bool", true, rfl, .ty _, .base (.bl z), kit_ty (by decide +kernel), _, rfl, iteT ⟨_, rfl, _, .ty "bool", .type "bool", .type "bool", true, rfl, .ty _, .base (.bl z), kit_ty (by decide +kernel), _, rfl, iteT ⟨_, rfl, _, rfl, rfl, ?_⟩⟩⟩
        rw [decide_eq_true rfl]; exact q H (Same.refl H)
      | int z =>
        refine ⟨_, rfl, _, .ty "tuple", .type "int", .type "tuple", false, rfl, .ty _, .base (.int z), kit_ty (by decide +kernel), _, rfl, iteF ⟨_, rfl, rfl, _, rfl, iteF ?_⟩⟩
        refine ⟨_, rfl, _, .ty "bool", .type "int", .type "bool", false, rfl, .ty _, .base (.int z), kit_ty (by decide +kernel), _, rfl, iteF ⟨_, rfl, _, .ty "str", .type "int", .type "str", false, rfl, .ty _, .base (.int z), kit_ty (by decide +kernel), _, rfl, iteF ⟨_, rfl, _, .ty "int", .type "int", .type "int", true, rfl, .ty _, .base (.int z), kit_ty (by decide +kernel), _, rfl, iteT ⟨_, rfl, _, .ty "bool", .type "int", .type "bool", false, rfl, .ty _, .base (.int z), kit_ty (by decide +kernel), _, rfl, _, rfl, iteT ⟨_, rfl, _, rfl, rfl, ?_⟩⟩⟩⟩⟩
        rw [decide_eq_true rfl]; exact q H (Same.refl H)
      | byt z => cases hsc
      | flt z => cases hsc
      | ref z => cases hsc
      | ty z => cases hsc
    · have el : xs.length = ys.length := hP.length
      refine ⟨_, rfl, _, .ty "tuple", .type "tuple", .type "tuple", true, rfl, .ty _, .base (.tup hb), kit_ty (by decide +kernel), _, rfl, iteT ?_⟩
      refine ⟨_, rfl, _, .ty "tuple", .type "tuple", .type "tuple", true, rfl, .ty _, .base (.tup ha), kit_ty (by decide +kernel), _, rfl, iteF ?_⟩
      refine ⟨_, rfl, a, xs, rfl, .inr (SqT.of ha), _, rfl, b, ys, rfl, .inr (SqT.of hb), rfl, _, rfl, ?_⟩
      rw [el, decide_eq_true rfl]
      refine iteF ⟨_, rfl, b, ys, rfl, .inr (SqT.of hb), _, rfl, by omega, by omega, for_it walk_range (fun i σ H' => ∃ v2 : Option V, σ = [some (.ref a), some (.ref b), v2] ∧ Same H H') ⟨none, rfl, Same.refl H⟩ (fun _ _ _ _ _ => trivial) ?_ ?_⟩
      · rintro i x σ Ha Hb hi ⟨v2, rfl, sa⟩ ⟨rfl, rfl⟩
        have hi2 : i < ys.length := by simpa using hi
        have hi1 : i < xs.length := by omega
        obtain ⟨y, hy, hsame⟩ := Paired.at hP (List.getElem?_eq_getElem hi1)
        refine ⟨_, rfl, _, rfl, a, xs, _, _, rfl, rfl, SqT.of (sa _ _ ha), at_of (by simp) (List.getElem?_eq_getElem hi1), _, rfl, _, rfl, b, ys, _, _, rfl, rfl, SqT.of (sa _ _ hb), at_of (by simp) hy, _, _, rfl, SameD.mono sa hsame, fun H2 s2 => ⟨_, rfl, iteF ⟨_, rfl, sa.trans s2⟩⟩⟩
      · rintro σ H1 ⟨v2, rfl, sa⟩
        exact q H1 sa
end
end RJ
end

section
set_option maxRecDepth 100000
set_option maxHeartbeats 8000000
namespace RJ
open PySem PySem.Spec PyProof.Rows L2
theorem fb_put {al u : List Nat} {k c d : Nat} (hu : ∀ x ∈ u, x ∈ al) (hk : k ≤ u.length) (hc : c ∉ al) : FirstBad al (u.take k ++ [c] ++ u.drop k ++ [d]) k c := by
  have e : (u.take k).length = k := by rw [List.length_take]; omega
  refine ⟨?_, hc, fun x hx => ?_⟩
  · rw [List.append_assoc, List.append_assoc, List.getElem?_append_right (by omega), e, Nat.sub_self]
    rfl
  · rw [List.append_assoc, List.append_assoc, List.take_append_of_le_length (by omega), List.take_take, Nat.min_self] at hx
    exact hu x (List.mem_of_mem_take hx)
theorem SG_small : ∀ c ∈ SG, c < 127 := by decide +kernel
theorem pigeon57 : ∀ {l : List Nat}, l.Nodup → ∀ al : List Nat, (∀ x ∈ l, x ∈ al) → l.length ≤ al.length
  | [], _, _, _ => Nat.zero_le _
  | x :: l, hn, al, h => by
    have hx := h x (List.mem_cons_self ..)
    rw [List.nodup_cons] at hn
    have := pigeon57 hn.2 (al.erase x) fun y hy => (List.mem_erase_of_ne (fun e => hn.1 (by rw [← e]; exact hy))).mpr (h y (List.mem_cons_of_mem _ hy))
    rw [List.length_erase_of_mem hx] at this
    have := List.length_pos_of_mem hx
    rw [List.length_cons]; omega
theorem small1000L {n : Nat} (h : n ≤ 1000) : n ≤ sizeLine := by rw [sizeLine_eq]; omega
theorem cutS_upto (l : List Nat) (k : Nat) : cutS (S l) none (some (k : Int)) = S (l.take k) := cutS_take l k
/-- the places that the law itself changes, and its tape -/
def lawG (t : Tp) (l : Lj) (a x : Addr) : Addr → Prop := fun b => b = t.d ∨ b = t.c ∨ b = l.pp ∨ b = l.rk ∨ b = l.tx ∨ b = a ∨ b = x
/-- what the law has of its own: its tape, its list, its corpus -/
structure LawS (t : Tp) (l : Lj) (a x : Addr) (cx : List (List Nat × Nat)) (al : List Nat) (ps : List (Nat × Nat)) (co : List (List Nat × Nat)) (H : Hp) : Prop where
  tape : TapeAt t H
  law : LjAt l H al ps
  cor : ∃ us, H a = some (.lst us) ∧ Paired (CEnt H) us co
  hand : ∃ us, H x = some (.lst us) ∧ Paired (CEnt H) us cx
  apt : a ≠ l.pp ∧ a ≠ l.tx ∧ a ≠ t.c ∧ l.pp ≠ t.c ∧ l.tx ≠ t.c
  aptx : x ≠ l.pp ∧ x ≠ l.tx ∧ x ≠ t.c
theorem LawS.lds {t : Tp} {l : Lj} {a x : Addr} {cx : List (List Nat × Nat)} {al : List Nat} {ps : List (Nat × Nat)} {co : List (List Nat × Nat)} {H : Hp} (h : LawS t l a x cx al ps co H) : LDs (lawG t l a x) H := by
  rintro b (rfl | rfl | rfl | rfl | rfl | rfl | rfl)
  · obtain ⟨_, _, _, _, _, e, _⟩ := h.tape
    exact .inr (.inr ⟨_, e⟩)
  · obtain ⟨_, _, _, _, _, _, e, _⟩ := h.tape
    exact .inl ⟨_, e⟩
  · obtain ⟨_, e, _⟩ := h.law.p
    exact .inl ⟨_, e⟩
  · exact .inr (.inl ⟨_, h.law.r⟩)
  · exact .inl ⟨_, h.law.t⟩
  · obtain ⟨_, e, _⟩ := h.cor
    exact .inl ⟨_, e⟩
  · obtain ⟨_, e, _⟩ := h.hand
    exact .inl ⟨_, e⟩
theorem LDs.ex {G : Addr → Prop} {H : Hp} (h : LDs G H) : ∀ b, G b → ∃ o, H b = some o := fun b g => by
  rcases h b g with ⟨_, x⟩ | ⟨_, x⟩ | ⟨_, x⟩ <;> exact ⟨_, x⟩
/-- the kinds of what the law has: dicts and tuples wherever they are, lists at its own places -/
def Own57 (t : Tp) (l : Lj) (a x b : Addr) (o : HO) : Prop := ((∃ xs, o = .lst xs) ∧ lawG t l a x b) ∨ (∃ k, o = .dK k) ∨ (∃ k, o = .dT k) ∨ ∃ xs, o = .tup xs
theorem LawS.keep {t : Tp} {l : Lj} {a x : Addr} {cx : List (List Nat × Nat)} {al : List Nat} {ps : List (Nat × Nat)} {co : List (List Nat × Nat)} {H H' : Hp} (h : LawS t l a x cx al ps co H) (k : ∀ b o, H b = some o → Own57 t l a x b o → H' b = some o) : LawS t l a x cx al ps co H' := by
  obtain ⟨at_, g, ll, se, u, h1, h2, h3⟩ := h.tape
  obtain ⟨us, e1, e2⟩ := h.cor
  obtain ⟨uh, x1, x2⟩ := h.hand
  obtain ⟨ws, p1, p2⟩ := h.law.p
  have tt : SameT H H' := fun b xs e => k b _ e (.inr (.inr (.inr ⟨_, rfl⟩)))
  exact ⟨⟨at_, g, ll, se, u, k _ _ h1 (.inr (.inl ⟨_, rfl⟩)), k _ _ h2 (.inl ⟨⟨_, rfl⟩, .inr (.inl rfl)⟩), h3⟩, ⟨k _ _ h.law.d (.inr (.inl ⟨_, rfl⟩)), ⟨ws, k _ _ p1 (.inl ⟨⟨_, rfl⟩, .inr (.inr (.inl rfl))⟩), p2.same tt⟩, k _ _ h.law.r (.inr (.inr (.inl ⟨_, rfl⟩))), k _ _ h.law.t (.inl ⟨⟨_, rfl⟩, .inr (.inr (.inr (.inr (.inl rfl))))⟩), h.law.ne⟩,
    ⟨us, k _ _ e1 (.inl ⟨⟨_, rfl⟩, .inr (.inr (.inr (.inr (.inr (.inl rfl)))))⟩), Paired.mapP e2 fun _ _ q => q.same tt⟩,
    ⟨uh, k _ _ x1 (.inl ⟨⟨_, rfl⟩, .inr (.inr (.inr (.inr (.inr (.inr rfl)))))⟩), Paired.mapP x2 fun _ _ q => q.same tt⟩, h.apt, h.aptx⟩
/-- all that there is: the law's own things and the learner -/
structure St57 (C CL : Addr) (t : Tp) (l : Lj) (a x : Addr) (cx : List (List Nat × Nat)) (p : Addr) (al : List Nat) (ps : List (Nat × Nat)) (co : List (List Nat × Nat)) (dx j r c : Addr) (H : Hp) : Prop where
  own : LawS t l a x cx al ps co H
  ler : LernAt C CL H p al ps co dx j r c
  avd : Avd C (lawG t l a x) H j r c
/-- kept under all that lays new things and draws -/
theorem LawS.tsame {t : Tp} {l : Lj} {a x : Addr} {cx : List (List Nat × Nat)} {al : List Nat} {ps : List (Nat × Nat)} {co : List (List Nat × Nat)} {H H' : Hp} (h : LawS t l a x cx al ps co H) (s : TSame t H H') : LawS t l a x cx al ps co H' := by
  obtain ⟨us, h1, h2⟩ := h.cor
  obtain ⟨uh, x1, x2⟩ := h.hand
  exact ⟨s.at1, h.law.tape s, ⟨us, s.lst h1, Paired.mapP h2 fun _ _ q => q.same s.tt⟩, ⟨uh, s.lst x1, Paired.mapP x2 fun _ _ q => q.same s.tt⟩, h.apt, h.aptx⟩
theorem St57.tsame {C CL : Addr} {t : Tp} {l : Lj} {a x p dx j r c : Addr} {cx : List (List Nat × Nat)} {al : List Nat} {ps : List (Nat × Nat)} {co : List (List Nat × Nat)} {H H' : Hp} (h : St57 C CL t l a x cx p al ps co dx j r c H) (s : TSame t H H') : St57 C CL t l a x cx p al ps co dx j r c H' := by
  have := h.ler.avd h.avd h.own.lds fun b o g e => s.x b o (fun z => g (.inl z)) e
  exact ⟨h.own.tsame s, this.1, this.2⟩
theorem TabS.kk {H H' : Hp} {P : Addr} {q : Str} (h : LamX.TabS H P q) (k : ∀ b o, H b = some o → (∀ xs, o ≠ .lst xs) → (∀ x, o ≠ .dK x) → (∀ x, o ≠ .dT x) → H' b = some o) : LamX.TabS H' P q := by
  obtain ⟨ps, h1, h2, h3⟩ := h
  refine ⟨ps, k _ _ h1 (fun _ z => by cases z) (fun _ z => by cases z) (fun _ z => by cases z), h2, fun pos cv hc => ?_⟩
  obtain ⟨c, e1, e2⟩ := h3 pos cv hc
  exact ⟨c, e1, k _ _ e2 (fun _ z => by cases z) (fun _ z => by cases z) (fun _ z => by cases z)⟩
theorem TabS.tape {t : Tp} {H H' : Hp} {P : Addr} {q : Str} (h : LamX.TabS H P q) (s : TSame t H H') : LamX.TabS H' P q := TabS.kk h fun b o e _ h2 _ => s.o e h2
end RJ
end

section
set_option maxRecDepth 100000
set_option maxHeartbeats 16000000
namespace RJ
open PySem PySem.Spec PyProof.Rows L2
theorem f5_same3 {al al2 : List Nat} {t tx d e t2 tx2 d2 e2 : Addr} (h : f5 al t tx d e = f5 al2 t2 tx2 d2 e2) : tx = tx2 ∧ d = d2 ∧ e = e2 := by
  have fx : ∀ (k : Str) (a b : Addr), List.lookup k (f5 al t tx d e) = some (V.ref a) → List.lookup k (f5 al2 t2 tx2 d2 e2) = some (V.ref b) → a = b := fun k a b h1 h2 => by
    rw [h, h2] at h1
    injection h1 with h1
    injection h1 with h1
    exact h1.symm
  exact ⟨fx "_texts" _ _ (f5_texts al t tx d e) (f5_texts al2 t2 tx2 d2 e2), fx "_ranks" _ _ (f5_ranks al t tx d e) (f5_ranks al2 t2 tx2 d2 e2), fx "_pieces_by_text" _ _ (f5_pieces_by_text al t tx d e) (f5_pieces_by_text al2 t2 tx2 d2 e2)⟩
/-- a list of joins whose own list and dicts keep away -/
def AvJ (C : Addr) (G : Addr → Prop) (H : Hp) (j : Addr) : Prop := ∃ al dx t tx d e, H j = some (.ins C dx (f5 al t tx d e)) ∧ ¬ G tx ∧ ¬ G d ∧ ¬ G e
theorem JoinsAt.avx {C : Addr} {G : Addr → Prop} {H H' : Hp} {j : Addr} {al : List Nat} {ps : List (Nat × Nat)} (h : JoinsAt C H j al ps) (a : AvJ C G H j) (g : LDs G H) (s : ∀ b o, ¬ G b → (b = j ∨ (∀ c dx fs, o ≠ .ins c dx fs)) → (∀ xs, o = .lst xs → xs = strV (textsOf al ps)) → (∀ k, o ≠ .tbl k) → H b = some o → H' b = some o) : JoinsAt C H' j al ps ∧ AvJ C G H' j := by
  obtain ⟨dj, t', tx', d', e', vs', j1, j2, j3, j4, j5, j6⟩ := id h
  obtain ⟨al2, dx2, t2, tx2, d2, e2, hj2, g1, g2, g3⟩ := a
  have kj := s _ _ (g.ne j1 (fun _ z => by cases z) (fun _ z => by cases z) (fun _ z => by cases z)) (.inl rfl) (fun _ z => by cases z) (fun _ z => by cases z) j1
  have same3 : tx' = tx2 ∧ d' = d2 ∧ e' = e2 := by
    rw [j1] at hj2
    injection hj2 with hj2
    injection hj2 with _ _ hj2
    exact f5_same3 hj2
  obtain ⟨rfl, rfl, rfl⟩ := same3
  have tt : SameT H H' := fun b xs e => s _ _ (g.ne e (fun _ z => by cases z) (fun _ z => by cases z) (fun _ z => by cases z)) (.inr (fun _ _ _ z => by cases z)) (fun _ z => by cases z) (fun _ z => by cases z) e
  exact ⟨⟨dj, t', tx', d', e', vs', kj, tt _ _ j2, j3.same tt, s _ _ g1 (.inr (fun _ _ _ z => by cases z)) (fun _ z => by injection z with z; exact z.symm) (fun _ z => by cases z) j4, s _ _ g2 (.inr (fun _ _ _ z => by cases z)) (fun _ z => by cases z) (fun _ z => by cases z) j5, s _ _ g3 (.inr (fun _ _ _ z => by cases z)) (fun _ z => by cases z) (fun _ z => by cases z) j6⟩, ⟨_, _, _, _, _, _, kj, g1, g2, g3⟩⟩
theorem JoinsAt.ne_lern {C CL : Addr} {H : Hp} {y p dx j r c : Addr} {al : List Nat} {ps : List (Nat × Nat)} (h : JoinsAt C H y al ps) (hp : H p = some (.ins CL dx (lF j r c))) : y ≠ p := fun e => by
  obtain ⟨dj, t', tx, d, e', vs', j1, _⟩ := h
  rw [e, hp] at j1
  injection j1 with j1
  injection j1 with _ _ j1
  have h := congrArg (fun l => List.lookup ("alphabet" : Str) l) j1
  rw [show List.lookup ("alphabet" : Str) (f5 al t' tx d e') = some (V.str (S al)) from f5_alphabet al t' tx d e'] at h
  cases h
/-- the rows of a learner are kept where its lists are -/
theorem Avd.move {C CL : Addr} {G : Addr → Prop} {H H' : Hp} {p dx j r c : Addr} {al : List Nat} {ps : List (Nat × Nat)} {co : List (List Nat × Nat)} (h : LernAt C CL H p al ps co dx j r c) (a : Avd C G H j r c) (s : ∀ b o, (∀ k, o ≠ .tbl k) → H b = some o → H' b = some o) : Avd C G H' j r c := by
  obtain ⟨ws, h1, h2⟩ := h.rows
  obtain ⟨al2, dx2, t2, tx2, d2, e2, hj2, g1, g2, g3⟩ := a.gj
  refine ⟨a.gr, a.gc, ⟨_, _, _, _, _, _, s _ _ (fun _ z => by cases z) hj2, g1, g2, g3⟩, fun ws2 hw z xs hz e => ?_⟩
  rw [s _ _ (fun _ z => by cases z) h1] at hw
  injection hw with hw
  injection hw with hw
  subst hw
  obtain ⟨i, hi⟩ := List.mem_iff_getElem?.mp hz
  obtain ⟨row, _, b, z', ez, m1, m2, hz'⟩ := Paired.at h2 hi
  injection ez with ez
  subst ez
  cases b with
  | true => exact a.rw ws h1 z _ hz hz'
  | false =>
    have := s _ _ (fun _ z => by cases z) hz'
    rw [e] at this; cases this
theorem St57.lam {C CL Pt : Addr} {t : Tp} {l : Lj} {a x p dx j r c : Addr} {cx : List (List Nat × Nat)} {al : List Nat} {ps : List (Nat × Nat)} {co : List (List Nat × Nat)} {H H' : Hp} {q : Str} (h : St57 C CL t l a x cx p al ps co dx j r c H) (s : LSame Pt q H H') : St57 C CL t l a x cx p al ps co dx j r c H' :=
  ⟨h.own.keep fun b o e ho => s.o e (by rcases ho with ⟨⟨_, rfl⟩, _⟩ | ⟨_, rfl⟩ | ⟨_, rfl⟩ | ⟨_, rfl⟩ <;> exact fun _ z => by cases z), h.ler.lam s, Avd.move h.ler h.avd fun b o hn e => s.o e hn⟩
theorem cutV_to (xs : List V) (k : Nat) : cutV xs none (some (k : Int)) = xs.take k := by
  unfold cutV
  rw [HT.sIx_nat, HT.sIx_none, List.drop_zero, Nat.sub_zero]
  by_cases h : k ≤ xs.length
  · rw [Nat.min_eq_left h]
  · rw [Nat.min_eq_right (by omega), List.take_of_length_le (Nat.le_refl _), List.take_of_length_le (by omega)]
theorem Paired.front {α β : Type} {F : α → β → Prop} : ∀ {as : List α} {bs : List β} (n : Nat), Paired F as bs → Paired F (as.take n) (bs.take n)
  | _, _, 0, _ => .nil
  | _, _, _ + 1, .nil => .nil
  | _, _, n + 1, .cons f t => .cons f (Paired.front n t)
/-- the first list, as it was -/
structure Fst57 (C : Addr) (G : Addr → Prop) (al : List Nat) (j0 : Addr) (H : Hp) : Prop where
  js : JoinsAt C H j0 al []
  av : AvJ C G H j0
theorem Fst57.out {C : Addr} {G : Addr → Prop} {al : List Nat} {j0 : Addr} {H H' : Hp} (h : Fst57 C G al j0 H) (g : LDs G H) (s : ∀ b o, ¬ G b → H b = some o → H' b = some o) : Fst57 C G al j0 H' := by
  have := h.js.avx h.av g fun b o n _ _ _ e => s b o n e
  exact ⟨this.1, this.2⟩
theorem Fst57.tsame {C : Addr} {t : Tp} {l : Lj} {a x : Addr} {al : List Nat} {j0 : Addr} {H H' : Hp} (h : Fst57 C (lawG t l a x) al j0 H) (g : LDs (lawG t l a x) H) (s : TSame t H H') : Fst57 C (lawG t l a x) al j0 H' :=
  h.out g fun b o n e => s.x b o (fun z => n (.inl z)) e
theorem Fst57.lam {C Pt : Addr} {G : Addr → Prop} {al : List Nat} {j0 : Addr} {H H' : Hp} {q : Str} (h : Fst57 C G al j0 H) (g : LDs G H) (s : LSame Pt q H H') : Fst57 C G al j0 H' := by
  have := h.js.avx h.av g fun b o _ _ _ n e => s.o e n
  exact ⟨this.1, this.2⟩
theorem Fst57.step {C CL Pt p dx j r c : Addr} {G : Addr → Prop} {al : List Nat} {j0 : Addr} {H H' : Hp} {q : Str} (h : Fst57 C G al j0 H) (g : LDs G H) (hp : H p = some (.ins CL dx (lF j r c))) (hT : LamX.TabS H Pt q) (s : LSameP p Pt H H') : Fst57 C G al j0 H' := by
  have := h.js.avx h.av g fun b o _ hi _ n e => s b o (by
    rcases hi with rfl | hi
    · exact h.js.ne_lern hp
    · exact fun z => by rw [z, hp] at e; exact hi _ _ _ (Option.some.inj e).symm) (TabS.ne hT e n) e
  exact ⟨this.1, this.2⟩
theorem Fst57.read {C p dx j r c a : Addr} {t : Tp} {l : Lj} {x : Addr} {al : List Nat} {ps : List (Nat × Nat)} {co : List (List Nat × Nat)} {CL j0 : Addr} {H H' : Hp} (h : Fst57 C (lawG t l a x) al j0 H) (g : LDs (lawG t l a x) H) (hal : 1 ≤ al.length) (L : LernAt C CL H p al ps co dx j r c) (s : ∀ b o, b ≠ t.d → b ≠ a → b ≠ r → b ≠ c → H b = some o → H' b = some o) : Fst57 C (lawG t l a x) al j0 H' := by
  obtain ⟨wr, hr1, hrP⟩ := L.rows
  obtain ⟨x0, l0, hx0⟩ : ∃ x l, strV (textsOf al []) = V.str x :: l := by
    cases hte : textsOf al [] with
    | nil => have := congrArg List.length hte; rw [textsOf_len] at this; simp at this; rw [this] at hal; exact absurd hal (by decide)
    | cons x l => exact ⟨_, _, rfl⟩
  have := h.js.avx h.av g fun b o n _ hl _ e => s b o (fun z => n (.inl z)) (fun z => n (.inr (.inr (.inr (.inr (.inr (.inl z))))))) (fun z => by
    rw [z, hr1] at e
    have := hl wr (Option.some.inj e).symm
    rw [hx0] at this
    obtain ⟨_, _, _, z2, e2, _⟩ := Paired.at hrP (show wr[0]? = some (V.str x0) by rw [this]; rfl)
    cases e2) (fun z => by
    rw [z, L.cnt] at e
    have := hl _ (Option.some.inj e).symm
    rw [hx0] at this
    cases co with
    | nil => cases this
    | cons y ys => injection this with this _; cases this) e
  exact ⟨this.1, this.2⟩
theorem totL_len57 {rs : List (List Nat)} {cs : List Nat} (hl : rs.length ≤ 20) (h : ∀ r ∈ rs, r.length ≤ 28) : (totL rs cs).length ≤ 1000 := by
  have gen : ∀ (l : List (List Nat × Nat)) (T : List Tot), (∀ e ∈ l, e.1.length ≤ 28) → (l.foldl (fun T e => rowT T (adjs e.1) e.2) T).length ≤ T.length + 28 * l.length := by
    intro l
    induction l with
    | nil => exact fun T _ => Nat.le_refl _
    | cons x l ih =>
      intro T h
      have h1 := ih (rowT T (adjs x.1) x.2) fun e he => h e (List.mem_cons_of_mem _ he)
      have h2 := rowT_len x.2 (adjs x.1) T
      have h3 := adjs_len x.1
      have h4 := h x (List.mem_cons_self ..)
      rw [List.length_cons]
      show (List.foldl _ (rowT T (adjs x.1) x.2) l).length ≤ _
      omega
  have h1 := gen (rs.zip cs) [] fun e he => h e.1 (List.of_mem_zip (show (e.1, e.2) ∈ rs.zip cs from he)).1
  have h2 : (rs.zip cs).length ≤ rs.length := by rw [List.length_zip]; exact Nat.min_le_left _ _
  have h3 : ([] : List Tot).length = 0 := rfl
  show (List.foldl _ [] (rs.zip cs)).length ≤ _
  omega
/-- the totals of this list and this corpus -/
abbrev totsC (al : List Nat) (ps : List (Nat × Nat)) (co : List (List Nat × Nat)) : List Tot := srtT (totL (cutsOf al ps co) (co.map (·.2)))
theorem totsC_len {al : List Nat} {ps : List (Nat × Nat)} {co : List (List Nat × Nat)} (hl : co.length ≤ 20) (h : TextsN al co) : (totsC al ps co).length ≤ 1000 := by
  unfold totsC srtT
  rw [List.length_mergeSort]
  refine totL_len57 (by unfold cutsOf; rw [List.length_map]; exact hl) fun r hr => ?_
  obtain ⟨e, he, rfl⟩ := List.mem_map.mp hr
  have := cutL_len al.length ps (lets al e.1)
  rw [lets, List.length_map] at this
  have := (h e he).2
  unfold lets
  omega
theorem TextsN.ok {al : List Nat} {co : List (List Nat × Nat)} (h : TextsN al co) (hl : co.length ≤ 100) : CorpOk al co := ⟨hl, fun e he => ⟨(h e he).1, Nat.le_trans (h e he).2 (by decide)⟩⟩
theorem notin_of_ok {al : List Nat} {ps : List (Nat × Nat)} {p : Nat × Nat} (hw : WF al.length ps) (h : okP al (textsOf al ps) ps p) : p ∉ ps := fun hm => by
  have := cut_clean hw (lets al ((textsOf al ps).getD p.1 [] ++ (textsOf al ps).getD p.2 [])) _ hm
  rw [show cutL al.length ps (lets al ((textsOf al ps).getD p.1 [] ++ (textsOf al ps).getD p.2 [])) = [p.1, p.2] from h.2.2.2] at this
  exact this (by show (p.1, p.2) ∈ [(p.1, p.2)]; exact List.mem_cons_self ..)
/-- where the law's loop is, behind i turns -/
structure Inv57 (C CL Pt : Addr) (t : Tp) (l : Lj) (a x : Addr) (cx : List (List Nat × Nat)) (p : Addr) (al : List Nat) (j0 : Addr) (i : Nat) (ps : List (Nat × Nat)) (co : List (List Nat × Nat)) (dx j r c : Addr) (H : Hp) : Prop where
  st : St57 C CL t l a x cx p al ps co dx j r c H
  fst : Fst57 C (lawG t l a x) al j0 H
  tab : LamX.TabS H Pt qLam
  prop : Proper al ps
  pl : ps.length ≤ i
  cl : co.length ≤ 9
  tn : TextsN al co
  pre : co.take cx.length = cx
theorem Inv57.tsame {C CL Pt : Addr} {t : Tp} {l : Lj} {a x : Addr} {cx : List (List Nat × Nat)} {p : Addr} {al : List Nat} {j0 : Addr} {i : Nat} {ps : List (Nat × Nat)} {co : List (List Nat × Nat)} {dx j r c : Addr} {H H' : Hp} (h : Inv57 C CL Pt t l a x cx p al j0 i ps co dx j r c H) (s : TSame t H H') : Inv57 C CL Pt t l a x cx p al j0 i ps co dx j r c H' :=
  ⟨h.st.tsame s, h.fst.tsame h.st.own.lds s, TabS.tape h.tab s, h.prop, h.pl, h.cl, h.tn, h.pre⟩
theorem Inv57.same {C CL Pt : Addr} {t : Tp} {l : Lj} {a x : Addr} {cx : List (List Nat × Nat)} {p : Addr} {al : List Nat} {j0 : Addr} {i : Nat} {ps : List (Nat × Nat)} {co : List (List Nat × Nat)} {dx j r c : Addr} {H H' : Hp} (h : Inv57 C CL Pt t l a x cx p al j0 i ps co dx j r c H) (s : Same H H') : Inv57 C CL Pt t l a x cx p al j0 i ps co dx j r c H' := h.tsame (TSame.of h.st.own.tape s)
theorem Inv57.lam {C CL Pt : Addr} {t : Tp} {l : Lj} {a x : Addr} {cx : List (List Nat × Nat)} {p : Addr} {al : List Nat} {j0 : Addr} {i : Nat} {ps : List (Nat × Nat)} {co : List (List Nat × Nat)} {dx j r c : Addr} {H H' : Hp} (h : Inv57 C CL Pt t l a x cx p al j0 i ps co dx j r c H) (s : LSame Pt qLam H H') : Inv57 C CL Pt t l a x cx p al j0 i ps co dx j r c H' :=
  ⟨h.st.lam s, h.fst.lam h.st.own.lds s, s.t1, h.prop, h.pl, h.cl, h.tn, h.pre⟩
end RJ
end

section
set_option maxRecDepth 100000
set_option maxHeartbeats 8000000
namespace RJ
open PySem PySem.Spec PyProof.Rows L2
abbrev s__law_alphabet_refused : Stmt := top 53
abbrev N__law_alphabet_refused : List Str := ["alphabet", "corpus", "e"]
theorem sc__law_alphabet_refused : FnScope N__law_alphabet_refused ["alphabet", "corpus"] (C8.fnScope s__law_alphabet_refused) := C8.fnScope_by (by decide +kernel)
abbrev s__law_sign_refused : Stmt := top 54
abbrev N__law_sign_refused : List Str := ["alphabet", "corpus", "sign", "at", "e"]
theorem sc__law_sign_refused : FnScope N__law_sign_refused ["alphabet", "corpus", "sign", "at"] (C8.fnScope s__law_sign_refused) := C8.fnScope_by (by decide +kernel)
/-- a learner that is not made: no alphabet, or a strange sign -/
def sp_linitE (CL CA CU : Addr) : Sp := fun vs H _ E => ∃ (p dx : Addr) (al : List Nat) (x : V), vs = [.ref p, .str (S al), x] ∧ H p = some (.ins CL dx []) ∧
  ((alOk al = false ∧ (∀ c ∈ al, c < 1114112) ∧ al.length ≤ 1000 ∧ ErrAtX p E CA H [("alphabet", .str (S al))]) ∨
   (alOk al = true ∧ al.Nodup ∧ al.length ≤ 30 ∧ ∃ (a : Addr) (b : Bool) (co : List (List Nat × Nat)) (i c : Nat), x = .ref a ∧ CorpT b H a co ∧ CorpBad al co i c ∧ ErrAtX p E CU H [("at", .int (i : Int)), ("sign", .str (S [c]))]))
def sp_lsignR : Sp := fun vs H Q _ => ∃ (a : Addr) (b : Bool) (co : List (List Nat × Nat)) (al : List Nat) (i c : Nat), vs = [.str (S al), .ref a, .str (S [c]), .int (i : Int)] ∧ alOk al = true ∧ al.Nodup ∧ al.length ≤ 30 ∧ CorpT b H a co ∧ CorpBad al co i c ∧ ∀ H', Same H H' → Q (.bl true) H'
def sp_lalphR : Sp := fun vs H Q _ => ∃ (x : V) (al : List Nat), vs = [.str (S al), x] ∧ alOk al = false ∧ (∀ c ∈ al, c < 1114112) ∧ al.length ≤ 1000 ∧ ∀ H', Same H H' → Q (.bl true) H'
section
variable {P : Program} {w : World} {K : PySem.W.Frag} {mg : Str → Option Value} {base : Heap}
theorem ok_linitE {f C CL CA CU CN : Addr} {fd : FuncData} (F : C8.Fun K "__init__" "Learner.__init__" s_Learner___init__ f fd) (T : Txt K mg) (J : LTxt K CL) (x_Joins : MakX P w K mg base 4 "Joins" C (sp_mkJ C CA CN)) (x_letters_of : CalX P w K mg base 4 "letters_of" (fun vs H Q E => sp_letters_of C vs H Q E ∨ sp_letters_ofX C CU vs H Q E)) (c_counts_of : C8.Cal P w K mg base 1 "counts_of" sp_countsT []) : FnOk P w K mg base (CXN P w) 6 f fd ["self", "alphabet", "corpus"] (sp_linitE CL CA CU) := by
  refine fnX F sc_Learner___init__ (fun vs H Q E h => ?_) (fun cdv A outer s H vs Q E hr h tk => ?_)
  · obtain ⟨p, dx, al, x, rfl, _⟩ := h; rfl
  · obtain ⟨p, dx, al, x, rfl, hp, hcase⟩ := h
    refine ⟨_, (pss_cons (ps_fld (pv 0) (pe_makeS x_Joins hr (by first | decide | omega) tk (by rfl) (pa_cons (pv 1) (pa_cons (pe_tup pa_nil) pa_nil))) rfl)
      (pss_cons (ps_fld (pv 0) (pe_lcX (own := [("text", 3), ("_", 4)]) (g := gTup K 2 (gCons (gName 3) (gCons (gName 4) (gNil)))) (tt := tYes) rfl rfl tk rfl sc_Learner___init__.nd (pi_seq (pv 2)) (blkOk_by (N := N_Learner___init__) (sc := C8.fnScope s_Learner___init__) (by decide +kernel)) (fun _ _ _ _ _ _ => (pg_tup rfl (pgs_cons (pg_name (i := 3) sc_Learner___init__.nd rfl (Or.inl rfl)) (pgs_cons (pg_name (i := 4) sc_Learner___init__.nd rfl (Or.inl rfl)) pgs_nil)))) (fun _ _ _ _ _ _ _ => pts_nil) (fun _ _ _ _ _ _ hB => (pe_cxB x_letters_of hr (by first | decide | omega) hB (by rfl) (pa_cons (pe_fldK (K := K) rfl (pv 0) rfl) (pa_cons (pv 3) pa_nil))))) rfl)
      (pss_one (ps_fld (pv 0) (C8.pe_c c_counts_of hr (by first | decide | omega) (by rfl) (pa_cons (pv 2) pa_nil)) rfl)))), ?_⟩
    refine ⟨_, rfl, by show 0 ≤ sizeLine; decide, fun pa hpa y dy ny ndy ney => ?_⟩
    have sp := same_new (o := .tup []) hpa
    rcases hcase with ⟨hok, hc, hal, q⟩ | ⟨hok, hnd, h30, a, b, co, i, c, rfl, hco, ⟨k, e, hk, hb, hcl, hlen, hc, hpre⟩, q⟩
    · exact .inr (init_atX (b := false) (us := []) (js := []) upd_same .nil (Nat.zero_le _) hal ny ndy (.inl ⟨hok, hc, fun d H' s hd => q d H' (fun b o _ e => s _ _ (sp _ _ e)) hd⟩))
    · refine .inl (init_atB (b := false) (us := []) (ps := []) upd_same .nil hok hnd h30 (Proper.nil al) (Nat.zero_le _) ny ndy fun H1 s1' hj => ?_)
      have s1 := sp.trans s1'
      have hp1 := s1 _ _ hp
      refine ⟨_, rfl, p, CL, dx, _, rfl, hp1, J.cl, J.n1, by show 0 < 1000; decide, ?_⟩
      have npy : y ≠ p := Ne.symm (ne_of_none (sp _ _ hp) ny)
      have sx1 : SameX p H (upd H1 p (.ins CL dx (putF (Str.ofString "_joins") (V.ref y) []))) := fun b o hb e => (upd_ne hb).trans (s1 _ _ e)
      have hp2 : (upd H1 p (.ins CL dx (putF (Str.ofString "_joins") (V.ref y) []))) p = some (.ins CL dx [("_joins", .ref y)]) := upd_same
      have hcoA := hco.offI hp sx1
      have hjA := hj.offI hp1 npy (fun b o hb e => (upd_ne hb).trans e : SameX p H1 (upd H1 p (.ins CL dx (putF (Str.ofString "_joins") (V.ref y) []))))
      generalize upd H1 p (.ins CL dx (putF (Str.ofString "_joins") (V.ref y) [])) = H2 at sx1 hp2 hcoA hjA ⊢
      obtain ⟨us, hus, hP⟩ := id hcoA
      have hkl : k < us.length := by rw [hP.length]; exact (List.getElem?_eq_some_iff.mp hk).1
      refine ⟨_, rfl, b, a, us, rfl, hus, fun D hD => lc_it walk_seq (fun i H' => Same H2 H' ∧ i ≤ k ∧ ∃ ws, H' D = some (.lst ws) ∧ ws.length = i) ⟨same_new hD, Nat.zero_le _, [], upd_same, rfl⟩ (fun i H' _ ⟨sa, _⟩ => hus.same sa) ?_ ?_⟩
      · rintro j yy Ha Hb hi ⟨sa, hjk, ws, hd, hwl⟩ ⟨rfl, hx⟩
        obtain ⟨e2, he, g, rfl, hg⟩ := Paired.at hP hx
        have hul : us.length ≤ 100 := by rw [hP.length]; exact hcl
        refine ⟨g, _, rfl, SqT.of (sa _ _ hg), rfl, _, _, rfl, _, _, rfl, rfl, rfl, _, rfl, p, CL, dx, _, _, rfl, sa _ _ hp2, J.cl, J.n1, rfl, _, rfl, ?_⟩
        rcases Nat.lt_or_ge j k with hlt | hge
        · refine .inl ⟨y, e2.1, al, [], rfl, hjA.same sa, hpre j e2 hlt he, hlen e2 (List.mem_of_getElem? he), fun H3 z s3 _ hz => ⟨ws, s3 _ _ hd, small1000 (by omega), Same.put (sa.trans s3) hD, hlt, ws ++ [V.ref z], upd_same, ?_⟩⟩
          rw [List.length_append, List.length_singleton, hwl]
        · obtain rfl : j = k := by omega
          rw [hk] at he
          obtain rfl := Option.some.inj he
          exact .inr ⟨y, e.1, al, [], i, c, rfl, hjA.same sa, hb, hlen e (List.mem_of_getElem? hk), hc, q.at (sx1.then sa)⟩
      · rintro H3 ⟨s3, hle, _⟩
        omega
theorem ok_lsignR {f CL CInvalidAlphabet CUnknownSign CInvalidText CJoinError : Addr} {fd : FuncData} (F : C8.Fun K "_law_sign_refused" "_law_sign_refused" s__law_sign_refused f fd) (T : Txt K mg) (x_Learner : MakX P w K mg base 6 "Learner" CL (sp_linitE CL CInvalidAlphabet CUnknownSign)) (h__law_same : CalH P w K mg base 2 "_law_same" (sp_same 1))
    (GUnknownSign : mg "UnknownSign" = some (.ref CUnknownSign)) (GInvalidAlphabet : mg "InvalidAlphabet" = some (.ref CInvalidAlphabet)) (GInvalidText : mg "InvalidText" = some (.ref CInvalidText)) (GJoinError : mg "JoinError" = some (.ref CJoinError)) (eiUnknownSign : ErrI K CUnknownSign) (nUnknownSign_sign : PySem.W.findIn K (.ref CUnknownSign) "sign" = some none) (nUnknownSign_at : PySem.W.findIn K (.ref CUnknownSign) "at" = some none)
    (k1 : PySem.W.exmOne K (.ref CUnknownSign) (.ref CJoinError) = some true) (k2 : PySem.W.kitOne K (.ref CUnknownSign) (.ref CUnknownSign) = some true) (k3 : PySem.W.kitOne K (.ref CUnknownSign) (.type "ValueError") = some true) (k4 : PySem.W.kitAny K (.ref CUnknownSign) [.ref CInvalidAlphabet, .ref CInvalidText] = some false) :
    FnOk P w K mg base C8.CX0 8 f fd ["alphabet", "corpus", "sign", "at"] sp_lsignR := by
  refine C8.fn0 F sc__law_sign_refused (fun vs H Q E h => ?_) (fun cdv A outer s H vs Q E hr h => ?_)
  · obtain ⟨a, b, co, al, i, c, rfl, _⟩ := h; rfl
  · obtain ⟨a, b, co, al, i, c, rfl, hok, hnd, h30, hco, hbad, q⟩ := h
    refine ⟨_, (pss_cons (L2N.ps_try_as (i := 4) rfl rfl sc__law_sign_refused.nd rfl rfl (c := .ref CJoinError) ⟨by rfl, by decide, .inl GJoinError⟩ takes0 (fun W pn xe tk po => (pss_one (ps_expr (pe_makeS x_Learner hr (by first | decide | omega) tk (by rfl) (pa_cons (pv 0) (pa_cons (pv 1) pa_nil)))))) (fun a oe cls d pn hz hf => (pss_cons (ps_if (PW.pt (pw_or (pt_not (pt_val (pe_callB (call_isD hz.zc hf) (by rfl) T.b_isinstance (by decide +kernel) (pa_cons (pv 4) (pa_cons (pe_glob (v := .ref CUnknownSign) rfl GUnknownSign rfl) pa_nil))))) (pw_or (pt_not (pt_val (pe_callB (call_isD hz.zc hf) (by rfl) T.b_isinstance (by decide +kernel) (pa_cons (pv 4) (pa_cons (pe_bltn (v := .ty "ValueError") (u := .type "ValueError") rfl T.b_ValueError (by decide +kernel) rfl) pa_nil))))) (pw_or1 (pt_val (pe_callB (call_isDT hz.zc hf) (by rfl) T.b_isinstance (by decide +kernel) (pa_cons (pv 4) (pa_cons (pe_tup (pa_cons (pe_glob (v := .ref CInvalidAlphabet) rfl GInvalidAlphabet rfl) (pa_cons (pe_glob (v := .ref CInvalidText) rfl GInvalidText rfl) pa_nil))) pa_nil)))))))) (pss_one (ps_ret pe_bl)) pss_nil)
      (pss_one (ps_ret (pe_ch h__law_same (roomS hr) (by first | decide | omega) (hotS hz hf) (by rfl) (pa_cons (pe_tup (pa_cons (pe_xf eiUnknownSign.xf nUnknownSign_sign hz.zc hf (pv 4)) (pa_cons (pe_xf eiUnknownSign.xf nUnknownSign_at hz.zc hf (pv 4)) pa_nil))) (pa_cons (pe_tup (pa_cons (pv 2) (pa_cons (pv 3) pa_nil))) pa_nil))))))))
      (pss_one (ps_ret pe_bl))), ?_⟩
    refine ⟨_, rfl, _, rfl, fun x dx nx ndx nex => ?_⟩
    have sM : ∀ (b : Addr) (o : HO), H b = some o → b ≠ x ∧ (upd (upd H dx (.own x)) x (.ins CL dx [])) b = some o := fun b o e => ⟨ne_of_none e nx, (upd_ne (ne_of_none e nx)).trans ((upd_ne (ne_of_none e ndx)).trans e)⟩
    refine ⟨x, dx, al, _, rfl, upd_same, .inr ⟨hok, hnd, h30, a, b, co, i, c, rfl, ?_, hbad, fun d H' sx hd => ⟨true, k1, fun _ ae ha => ?_, fun z => by cases z⟩⟩⟩
    · obtain ⟨vs, h1, h2⟩ := hco
      refine ⟨vs, ?_, Paired.mapP h2 fun _ _ h => CEnt.same (fun b xs e => (sM b _ e).2) h⟩
      cases b with
      | true => exact (sM _ _ h1).2
      | false => exact (sM _ _ h1).2
    have s1 : Same H H' := fun b o e => sx b o (sM b o e).1 (sM b o e).2
    refine ⟨_, rfl, CUnknownSign, d, _, _, _, true, rfl, rfl, eiUnknownSign, hd, rfl, rel_ref, k2, true, rfl, iteF ?_⟩
    refine ⟨_, rfl, CUnknownSign, d, _, _, _, true, rfl, rfl, eiUnknownSign, hd, rfl, rel_ty, k3, true, rfl, iteF ?_⟩
    refine ⟨_, rfl, by show 2 ≤ sizeLine; decide, fun tp htp => ⟨CUnknownSign, d, tp, _, _, _, false, rfl, rfl, eiUnknownSign, (same_new htp) _ _ hd, rfl, upd_same, fun vs' r => vals_refs (as := [CInvalidAlphabet, CInvalidText]) r, k4, false, rfl, iteF ?_⟩⟩
    have st := s1.trans (same_new (o := .tup [V.ref CInvalidAlphabet, V.ref CInvalidText]) htp)
    have hd' := (same_new (o := .tup [V.ref CInvalidAlphabet, V.ref CInvalidText]) htp) _ _ hd
    generalize upd H' tp (.tup [V.ref CInvalidAlphabet, V.ref CInvalidText]) = H2 at st hd' ⊢
    refine ⟨_, rfl, rfl, rfl, d, _, _, rfl, hd', rfl, _, rfl, rfl, rfl, d, _, _, rfl, hd', rfl, by show 2 ≤ sizeLine; decide, fun z1 hz1 => ?_⟩
    have t1 := same_new (o := .tup [.str (S [c]), .int (i : Int)]) hz1
    refine ⟨_, rfl, _, rfl, by show 2 ≤ sizeLine; decide, fun z2 hz2 => ?_⟩
    have t2 := Same.new (o := .tup [.str (S [c]), .int (i : Int)]) t1 hz2
    exact ⟨.ref z1, .ref z2, rfl, .inr ⟨z1, z2, _, _, rfl, rfl, (same_new hz2) _ _ upd_same, upd_same, by show 2 ≤ 1000; decide, .cons (SameD.flat rfl 0) (.cons (SameD.flat rfl 0) .nil)⟩, fun H3 s3 => q H3 ((st.trans t2).trans s3)⟩
theorem ok_lalphR {f CL CInvalidAlphabet CUnknownSign CJoinError : Addr} {fd : FuncData} (F : C8.Fun K "_law_alphabet_refused" "_law_alphabet_refused" s__law_alphabet_refused f fd) (T : Txt K mg) (x_Learner : MakX P w K mg base 6 "Learner" CL (sp_linitE CL CInvalidAlphabet CUnknownSign))
    (GUnknownSign : mg "UnknownSign" = some (.ref CUnknownSign)) (GInvalidAlphabet : mg "InvalidAlphabet" = some (.ref CInvalidAlphabet)) (GJoinError : mg "JoinError" = some (.ref CJoinError)) (eiInvalidAlphabet : ErrI K CInvalidAlphabet) (nInvalidAlphabet_alphabet : PySem.W.findIn K (.ref CInvalidAlphabet) "alphabet" = some none)
    (k1 : PySem.W.exmOne K (.ref CInvalidAlphabet) (.ref CJoinError) = some true) (k2 : PySem.W.kitOne K (.ref CInvalidAlphabet) (.ref CInvalidAlphabet) = some true) (k3 : PySem.W.kitOne K (.ref CInvalidAlphabet) (.type "ValueError") = some true) (k4 : PySem.W.kitOne K (.ref CInvalidAlphabet) (.ref CUnknownSign) = some false) :
    FnOk P w K mg base C8.CX0 8 f fd ["alphabet", "corpus"] sp_lalphR := by
  refine C8.fn0 F sc__law_alphabet_refused (fun vs H Q E h => ?_) (fun cdv A outer s H vs Q E hr h => ?_)
  · obtain ⟨x, al, rfl, _⟩ := h; rfl
  · obtain ⟨x, al, rfl, hok, hc, hal, q⟩ := h
    refine ⟨_, (pss_cons (L2N.ps_try_as (i := 2) rfl rfl sc__law_alphabet_refused.nd rfl rfl (c := .ref CJoinError) ⟨by rfl, by decide, .inl GJoinError⟩ takes0 (fun W pn xe tk po => (pss_one (ps_expr (pe_makeS x_Learner hr (by first | decide | omega) tk (by rfl) (pa_cons (pv 0) (pa_cons (pv 1) pa_nil)))))) (fun a oe cls d pn hz hf => (pss_cons (ps_if (PW.pt (pw_or (pt_not (pt_val (pe_callB (call_isD hz.zc hf) (by rfl) T.b_isinstance (by decide +kernel) (pa_cons (pv 2) (pa_cons (pe_glob (v := .ref CInvalidAlphabet) rfl GInvalidAlphabet rfl) pa_nil))))) (pw_or (pt_not (pt_val (pe_callB (call_isD hz.zc hf) (by rfl) T.b_isinstance (by decide +kernel) (pa_cons (pv 2) (pa_cons (pe_bltn (v := .ty "ValueError") (u := .type "ValueError") rfl T.b_ValueError (by decide +kernel) rfl) pa_nil))))) (pw_or1 (pt_val (pe_callB (call_isD hz.zc hf) (by rfl) T.b_isinstance (by decide +kernel) (pa_cons (pv 2) (pa_cons (pe_glob (v := .ref CUnknownSign) rfl GUnknownSign rfl) pa_nil)))))))) (pss_one (ps_ret pe_bl)) pss_nil)
      (pss_one (ps_ret (pe_cmpR op_eq (pe_xf eiInvalidAlphabet.xf nInvalidAlphabet_alphabet hz.zc hf (pv 2)) (pv 0) (nomark _)))))))
      (pss_one (ps_ret pe_bl))), ?_⟩
    refine ⟨_, rfl, _, rfl, fun y dy ny ndy ney => ?_⟩
    have sM : ∀ (b : Addr) (o : HO), H b = some o → b ≠ y ∧ (upd (upd H dy (.own y)) y (.ins CL dy [])) b = some o := fun b o e => ⟨ne_of_none e ny, (upd_ne (ne_of_none e ny)).trans ((upd_ne (ne_of_none e ndy)).trans e)⟩
    refine ⟨y, dy, al, _, rfl, upd_same, .inl ⟨hok, hc, hal, fun d H' sx hd => ⟨true, k1, fun _ ae ha => ?_, fun z => by cases z⟩⟩⟩
    have s1 : Same H H' := fun b o e => sx b o (sM b o e).1 (sM b o e).2
    refine ⟨_, rfl, CInvalidAlphabet, d, _, _, _, true, rfl, rfl, eiInvalidAlphabet, hd, rfl, rel_ref, k2, true, rfl, iteF ?_⟩
    refine ⟨_, rfl, CInvalidAlphabet, d, _, _, _, true, rfl, rfl, eiInvalidAlphabet, hd, rfl, rel_ty, k3, true, rfl, iteF ?_⟩
    refine ⟨_, rfl, CInvalidAlphabet, d, _, _, _, false, rfl, rfl, eiInvalidAlphabet, hd, rfl, rel_ref, k4, false, rfl, iteF ?_⟩
    refine ⟨_, rfl, rfl, rfl, d, _, _, rfl, hd, rfl, _, rfl, rfl, ?_⟩
    rw [decide_eq_true rfl]
    exact q H' s1
end
end RJ
end

section
set_option maxRecDepth 100000
set_option maxHeartbeats 16000000
namespace RJ
open PySem PySem.Spec PyProof.Rows L2
theorem alOk_d {l : List Nat} (h : alOk l = true) : 1 ≤ l.length ∧ l.length ≤ 30 ∧ (ascL l).all id = true ∧ ∀ c ∈ l, 32 ≤ c ∧ c ≤ 126 := by
  unfold alOk at h
  rw [Bool.and_eq_true, Bool.and_eq_true, decide_eq_true_eq, List.all_map] at h
  obtain ⟨⟨h1, h2⟩, h3, h4⟩ := h
  exact ⟨h1, h2, h3, fun c hc => by simpa using List.all_eq_true.mp h4 c hc⟩
theorem asc_pw : ∀ l : List Nat, (ascL l).all id = true → l.Pairwise (· < ·)
  | [], _ => .nil
  | [a], _ => List.pairwise_singleton _ _
  | a :: b :: r, h => by
    have h' : ((decide (a < b)) :: ascL (b :: r)).all id = true := h
    rw [List.all_cons, Bool.and_eq_true] at h'
    have hab : a < b := by simpa using h'.1
    have ih := asc_pw (b :: r) h'.2
    refine List.pairwise_cons.mpr ⟨fun x hx => ?_, ih⟩
    rcases List.mem_cons.mp hx with z | z
    · rw [z]; exact hab
    · exact Nat.lt_trans hab ((List.pairwise_cons.mp ih).1 x z)
/-- texts of these letters, some long -/
def TextsM (al : List Nat) (co : List (List Nat × Nat)) : Prop := ∀ e ∈ co, (∀ c ∈ e.1, c ∈ al) ∧ e.1.length ≤ 96
theorem TextsM.ok {al : List Nat} {co : List (List Nat × Nat)} (h : TextsM al co) (hl : co.length ≤ 100) : CorpOk al co := ⟨hl, fun e he => ⟨(h e he).1, Nat.le_trans (h e he).2 (by decide)⟩⟩
theorem totL_len56 {rs : List (List Nat)} {cs : List Nat} (hl : rs.length ≤ 8) (h : ∀ r ∈ rs, r.length ≤ 96) : (totL rs cs).length ≤ 1000 := by
  have gen : ∀ (l : List (List Nat × Nat)) (T : List Tot), (∀ e ∈ l, e.1.length ≤ 96) → (l.foldl (fun T e => rowT T (adjs e.1) e.2) T).length ≤ T.length + 96 * l.length := by
    intro l
    induction l with
    | nil => exact fun T _ => Nat.le_refl _
    | cons x l ih =>
      intro T h
      have h1 := ih (rowT T (adjs x.1) x.2) fun e he => h e (List.mem_cons_of_mem _ he)
      have h2 := rowT_len x.2 (adjs x.1) T
      have h3 := adjs_len x.1
      have h4 := h x (List.mem_cons_self ..)
      rw [List.length_cons]
      show (List.foldl _ (rowT T (adjs x.1) x.2) l).length ≤ _
      omega
  have h1 := gen (rs.zip cs) [] fun e he => h e.1 (List.of_mem_zip (show (e.1, e.2) ∈ rs.zip cs from he)).1
  have h2 : (rs.zip cs).length ≤ rs.length := by rw [List.length_zip]; exact Nat.min_le_left _ _
  have h3 : ([] : List Tot).length = 0 := rfl
  show (List.foldl _ [] (rs.zip cs)).length ≤ _
  omega
theorem totsM_len {al : List Nat} {ps : List (Nat × Nat)} {co : List (List Nat × Nat)} (hl : co.length ≤ 8) (h : TextsM al co) : (totsC al ps co).length ≤ 1000 := by
  unfold totsC srtT
  rw [List.length_mergeSort]
  refine totL_len56 (by unfold cutsOf; rw [List.length_map]; exact hl) fun r hr => ?_
  obtain ⟨e, he, rfl⟩ := List.mem_map.mp hr
  have := cutL_len al.length ps (lets al e.1)
  rw [lets, List.length_map] at this
  have := (h e he).2
  unfold lets
  omega
/-- where the law's loop is -/
structure Inv56 (C CL Pt : Addr) (t : Tp) (l : Lj) (a x : Addr) (cx : List (List Nat × Nat)) (p : Addr) (al : List Nat) (co ps : List _) (dx j r c : Addr) (H : Hp) : Prop where
  st : St57 C CL t l a x cx p al ps co dx j r c H
  tab : LamX.TabS H Pt qLam
  prop : Proper al ps
  eq : lrn al co ps.length = ps
theorem Inv56.tsame {C CL Pt : Addr} {t : Tp} {l : Lj} {a x : Addr} {cx : List (List Nat × Nat)} {p : Addr} {al : List Nat} {ps : List (Nat × Nat)} {co : List (List Nat × Nat)} {dx j r c : Addr} {H H' : Hp} (h : Inv56 C CL Pt t l a x cx p al co ps dx j r c H) (s : TSame t H H') : Inv56 C CL Pt t l a x cx p al co ps dx j r c H' := ⟨h.st.tsame s, TabS.tape h.tab s, h.prop, h.eq⟩
theorem Inv56.same {C CL Pt : Addr} {t : Tp} {l : Lj} {a x : Addr} {cx : List (List Nat × Nat)} {p : Addr} {al : List Nat} {ps : List (Nat × Nat)} {co : List (List Nat × Nat)} {dx j r c : Addr} {H H' : Hp} (h : Inv56 C CL Pt t l a x cx p al co ps dx j r c H) (s : Same H H') : Inv56 C CL Pt t l a x cx p al co ps dx j r c H' := h.tsame (TSame.of h.st.own.tape s)
theorem Inv56.lam {C CL Pt : Addr} {t : Tp} {l : Lj} {a x : Addr} {cx : List (List Nat × Nat)} {p : Addr} {al : List Nat} {ps : List (Nat × Nat)} {co : List (List Nat × Nat)} {dx j r c : Addr} {H H' : Hp} (h : Inv56 C CL Pt t l a x cx p al co ps dx j r c H) (s : LSame Pt qLam H H') : Inv56 C CL Pt t l a x cx p al co ps dx j r c H' := ⟨h.st.lam s, s.t1, h.prop, h.eq⟩
theorem cutV_from56 (xs : List V) (k : Nat) : cutV xs (some (k : Int)) none = xs.drop k := by
  unfold cutV
  rw [HT.sIx_nat, HT.sIx_none]
  by_cases h : k ≤ xs.length
  · rw [Nat.min_eq_left h, List.take_of_length_le (by rw [List.length_drop]; omega)]
  · rw [Nat.min_eq_right (by omega), List.drop_length, List.drop_eq_nil_of_le (by omega : xs.length ≤ k), List.take_nil]
theorem pair56 {α β : Type} {F : α → β → Prop} : ∀ {as as' : List α} {bs bs' : List β}, Paired F as bs → Paired F as' bs' → Paired F (as ++ as') (bs ++ bs')
  | _, _, _, _, .nil, h => h
  | _, _, _, _, .cons f r, h => .cons f (pair56 r h)
theorem pdrop56 {α β : Type} {F : α → β → Prop} : ∀ {as : List α} {bs : List β} (n : Nat), Paired F as bs → Paired F (as.drop n) (bs.drop n)
  | _, _, 0, h => h
  | _, _, _ + 1, .nil => .nil
  | _, _, n + 1, .cons _ r => pdrop56 n r
/-- the corpus with a strange sign in a text, and another text that is one -/
def spoilt56 (co : List (List Nat × Nat)) (pl at_ c1 c2 : Nat) (u : List Nat) : List (List Nat × Nat) := co.take pl ++ [(u.take at_ ++ [c1] ++ u.drop at_ ++ [c2], 1)] ++ co.drop pl ++ [([c2], 2)]
def sp_law (K : PySem.W.Frag) (Pt : Addr) : Sp := fun vs H Q _ => ∃ (a : Addr) (zs : List Int), vs = [.ref a] ∧ SqL K H a (zs.map V.int) ∧ zs.length ≤ 63 ∧ LamX.TabS H Pt qLam ∧ ∀ H', Q (.bl true) H'
section
variable {P : Program} {w : World} {K : PySem.W.Frag} {mg : Str → Option Value} {base : Heap}
theorem ok_law {f C CL Pt : Addr} {fd : FuncData} (F : C8.Fun K "law" "law" s_law f fd) (T : Txt K mg) (J : JTxt K C) (c__law_tape : C8.Cal P w K mg base 1 "_law_tape" (sp_tape K) []) (c__law_letters : C8.Cal P w K mg base 4 "_law_letters" sp_lettersC []) (c__law_draw : C8.Cal P w K mg base 2 "_law_draw" sp_draw []) (c__law_pick : C8.Cal P w K mg base 3 "_law_pick" sp_pick [])
    (c__law_signs : C8.Cal P w K mg base 1 "_law_signs" sp_signs []) (c__law_text : C8.Cal P w K mg base 4 "_law_text" sp_ltextN []) (c__law_corpus : C8.Cal P w K mg base 5 "_law_corpus" sp_lcorpusN []) (k_Learner : C8.Mak P w K mg base 6 "Learner" CL (sp_linit C CL) []) (m_list_so_far : C8.Met P w K mg base 1 CL "list_so_far" (sp_lsofar C CL) []) (c__law_neighbors : C8.Cal P w K mg base 2 "_law_neighbors" sp_lneighbors [])
    (c__law_next : C8.Cal P w K mg base 1 "_law_next" sp_lnext []) (m_step : C8.Met P w K mg base 7 CL "step" (sp_lstep C CL Pt) []) (c__law_same : C8.Cal P w K mg base 4 "_law_same" (sp_same 3) []) (c__law_add : C8.Cal P w K mg base 1 "_law_add" sp_ladd [])
    (c__law_list_right : C8.Cal P w K mg base 6 "_law_list_right" (sp_lright C) []) (m_totals : C8.Met P w K mg base 2 CL "totals" (sp_ltotalsM C CL Pt) []) (c_learn : C8.Cal P w K mg base 6 "learn" (sp_learn C Pt) []) (c__law_sign_refused : C8.Cal P w K mg base 8 "_law_sign_refused" sp_lsignR []) (c__law_alphabet_refused : C8.Cal P w K mg base 8 "_law_alphabet_refused" sp_lalphR []) : FnOk P w K mg base C8.CX0 9 f fd ["script"] (sp_law K Pt) := by
  refine C8.fn0 F sc_law (fun vs H Q E h => ?_) (fun cdv A outer s H vs Q E hr h => ?_)
  · obtain ⟨a, zs, rfl, _⟩ := h; rfl
  · obtain ⟨a0, zs, rfl, hS, hlen, hTab, q⟩ := h
    have hu := hu_of hr
    have hu64 := hu64_of hr
    refine ⟨_, (pss_cons (ps_set (i := 1) sc_law.nd rfl (Or.inl rfl) (C8.pe_c c__law_tape hr (by first | decide | omega) (by rfl) (pa_cons (pv 0) pa_nil)))
      (pss_cons (ps_set (i := 2) sc_law.nd rfl (Or.inr rfl) (C8.pe_c c__law_letters hr (by first | decide | omega) (by rfl) (pa_cons (pv 1) (pa_cons (pe_op op_add pe_int (C8.pe_c c__law_draw hr (by first | decide | omega) (by rfl) (pa_cons (pv 1) (pa_cons pe_int pa_nil)))) pa_nil))))
      (pss_cons (ps_set (i := 3) sc_law.nd rfl (Or.inl rfl) (C8.pe_c c__law_corpus hr (by first | decide | omega) (by rfl) (pa_cons (pv 1) (pa_cons (pv 2) (pa_cons pe_int pa_nil)))))
      (pss_cons (ps_if (pt_cmpR op_eq (C8.pe_c c__law_draw hr (by first | decide | omega) (by rfl) (pa_cons (pv 1) (pa_cons pe_int pa_nil))) pe_int (nomark _)) (pss_one (ps_expr (pe_bm PySem.F.plainAttrs_list PySem.F.slot_list_append PySem.F.type_list_append mt_append (pv 3) (pa_cons (pe_tup (pa_cons (pe_join pe_str (pe_lc (own := [("k", 8)]) (g := gName 8) (tt := tYes) rfl sc_law.nd (pi_range1 rfl T.b_range (pa_cons (pe_op op_add pe_int (C8.pe_c c__law_draw hr (by first | decide | omega) (by rfl) (pa_cons (pv 1) (pa_cons pe_int pa_nil)))) pa_nil)) (blkOk_by (N := N_law) (sc := C8.fnScope s_law) (by decide +kernel)) (fun _ _ _ _ _ => (pg_name (i := 8) sc_law.nd rfl (Or.inl rfl))) (fun _ _ _ _ _ => pts_nil) (fun _ _ _ _ _ => (pe_ix ix_str (pv 2) pe_int (fun _ _ => rfl))))) (pa_cons (pe_op op_add pe_int (C8.pe_c c__law_draw hr (by first | decide | omega) (by rfl) (pa_cons (pv 1) (pa_cons pe_int pa_nil)))) pa_nil))) pa_nil)))) pss_nil)
      (pss_cons (ps_set (i := 4) sc_law.nd rfl (Or.inl rfl) (pe_disp (pps_cons pe_str (pv 2) (pps_cons pe_str (pe_lst pa_nil) (pps_cons pe_str pe_dnewT (pps_cons pe_str (pe_callTy (call_list_text rfl) (by rfl) T.b_list (by decide +kernel) (pa_cons (pv 2) pa_nil)) pps_nil)))) (by rfl) (by rfl) (fun z => by cases z) (by decide)))
      (pss_cons (ps_set (i := 5) sc_law.nd rfl (Or.inl rfl) (C8.pe_c c__law_pick hr (by first | decide | omega) (by rfl) (pa_cons (pv 1) (pa_cons (pe_lst (pa_cons (pe_callTy call_list_of (by rfl) T.b_list (by decide +kernel) (pa_cons (pv 3) pa_nil)) (pa_cons (pe_tupleOf (by rfl) T.b_tuple (pv 3)) pa_nil))) pa_nil))))
      (pss_cons (ps_set (i := 6) sc_law.nd rfl (Or.inl rfl) (C8.pe_mk k_Learner hr (by first | decide | omega) (by rfl) (pa_cons (pv 2) (pa_cons (pv 5) pa_nil))))
      (pss_cons (ps_if (pt_cmpR (op_neD hu64) (pe_callTy call_list_of (by rfl) T.b_list (by decide +kernel) (pa_cons (pv 5) pa_nil)) (pv 3) (nomark _)) (pss_one (ps_ret pe_bl)) pss_nil)
      (pss_cons (ps_if (pt_val (pe_callB call_isi (by rfl) T.b_isinstance (by decide +kernel) (pa_cons (pv 5) (pa_cons (pe_bltn (v := .ty "list") (u := .type "list") rfl T.b_list (by decide +kernel) rfl) pa_nil)))) (pss_cons (ps_expr (pe_bm PySem.F.plainAttrs_list PySem.F.slot_list_append PySem.F.type_list_append mt_append (pv 5) (pa_cons (pe_tup (pa_cons (pv 2) (pa_cons pe_int pa_nil))) pa_nil)))
      (pss_one (ps_set (i := 5) sc_law.nd rfl (Or.inl rfl) (pe_tupleOf (by rfl) T.b_tuple (pv 3))))) pss_nil)
      (pss_cons (ps_set (i := 7) sc_law.nd rfl (Or.inl rfl) (C8.pe_c c__law_draw hr (by first | decide | omega) (by rfl) (pa_cons (pv 1) (pa_cons pe_int pa_nil))))
      (pss_cons (ps_for PassesOwn.never rfl (pi_range1 rfl T.b_range (pa_cons (pe_op op_add (pv 7) pe_int) pa_nil)) (pg_name (i := 8) sc_law.nd rfl (Or.inl rfl)) (pss_cons (ps_set (i := 9) sc_law.nd rfl (Or.inl rfl) (C8.pe_c c__law_neighbors hr (by first | decide | omega) (by rfl) (pa_cons (pv 4) (pa_cons (pv 3) pa_nil))))
      (pss_cons (ps_if (PW.pt (pw_or (pt_not (pt_val (C8.pe_c c__law_same hr (by first | decide | omega) (by rfl) (pa_cons (C8.pe_mt0 m_totals hr (by first | decide | omega) (pv 6)) (pa_cons (pv 9) pa_nil))))) (pw_or1 (pt_not (pt_val (C8.pe_c c__law_list_right hr (by first | decide | omega) (by rfl) (pa_cons (C8.pe_mt0 m_list_so_far hr (by first | decide | omega) (pv 6)) (pa_cons (pv 4) pa_nil)))))))) (pss_one (ps_ret pe_bl)) pss_nil)
      (pss_one (ps_if (pt_cmpR op_lt (pv 8) (pv 7) (nomark _)) (pss_cons (ps_set (i := 10) sc_law.nd rfl (Or.inl rfl) (C8.pe_c c__law_next hr (by first | decide | omega) (by rfl) (pa_cons (pv 4) (pa_cons (pv 9) pa_nil))))
      (pss_cons (ps_if (pt_not (pt_val (C8.pe_c c__law_same hr (by first | decide | omega) (by rfl) (pa_cons (C8.pe_mt0 m_step hr (by first | decide | omega) (pv 6)) (pa_cons (pv 10) pa_nil))))) (pss_one (ps_ret pe_bl)) pss_nil)
      (pss_cons (ps_if (pt_cmpR op_isN (pv 10) pe_non (nomark _)) (pss_one ps_break) pss_nil)
      (pss_one (ps_expr (C8.pe_c c__law_add hr (by first | decide | omega) (by rfl) (pa_cons (pv 4) (pa_cons (pv 10) pa_nil)))))))) pss_nil)))))
      (pss_cons (ps_if (PW.pt (pw_or (pt_cmpR (op_neD hu64) (pe_callTy call_list_of (by rfl) T.b_list (by decide +kernel) (pa_cons (pv 5) pa_nil)) (pv 3) (nomark _)) (pw_or1 (pt_not (pt_val (C8.pe_c c__law_list_right hr (by first | decide | omega) (by rfl) (pa_cons (C8.pe_c c_learn hr (by first | decide | omega) (by rfl) (pa_cons (pv 2) (pa_cons (pv 3) (pa_cons (pe_callB call_len_seq (by rfl) T.b_len PySem.boot_len (pa_cons (pe_dget hu (pv 4) pe_str (fun _ _ => rfl)) pa_nil)) pa_nil)))) (pa_cons (pv 4) pa_nil)))))))) (pss_one (ps_ret pe_bl)) pss_nil)
      (pss_cons (ps_if (pt_not (pt_val (C8.pe_c c__law_same hr (by first | decide | omega) (by rfl) (pa_cons (C8.pe_mt0 m_totals hr (by first | decide | omega) (pv 6)) (pa_cons (C8.pe_c c__law_neighbors hr (by first | decide | omega) (by rfl) (pa_cons (pv 4) (pa_cons (pv 3) pa_nil))) pa_nil))))) (pss_one (ps_ret pe_bl)) pss_nil)
      (pss_cons (ps_set (i := 11) sc_law.nd rfl (Or.inl rfl) (C8.pe_c c__law_pick hr (by first | decide | omega) (by rfl) (pa_cons (pv 1) (pa_cons (pe_lc (own := [("other", 18)]) (g := gName 18)  rfl sc_law.nd (pi_str (pe_c0 c__law_signs hr (by first | decide | omega) (by rfl))) (blkOk_by (N := N_law) (sc := C8.fnScope s_law) (by decide +kernel)) (fun _ _ _ _ _ => (pg_name (i := 18) sc_law.nd rfl (Or.inl rfl))) (fun _ _ _ _ _ => pts_one (pt_cmpR op_notIn_sign (pv 18) (pv 2) (by rfl))) (fun _ _ _ _ _ => (pv 18))) pa_nil))))
      (pss_cons (ps_set (i := 12) sc_law.nd rfl (Or.inl rfl) (C8.pe_c c__law_text hr (by first | decide | omega) (by rfl) (pa_cons (pv 1) (pa_cons (pv 2) pa_nil))))
      (pss_cons (ps_set (i := 13) sc_law.nd rfl (Or.inl rfl) (C8.pe_c c__law_draw hr (by first | decide | omega) (by rfl) (pa_cons (pv 1) (pa_cons (pe_op op_add (pe_callB call_len_str (by rfl) T.b_len PySem.boot_len (pa_cons (pv 12) pa_nil)) pe_int) pa_nil))))
      (pss_cons (ps_set (i := 14) sc_law.nd rfl (Or.inl rfl) (C8.pe_c c__law_draw hr (by first | decide | omega) (by rfl) (pa_cons (pv 1) (pa_cons (pe_op op_add (pe_callB call_len_seq (by rfl) T.b_len PySem.boot_len (pa_cons (pv 3) pa_nil)) pe_int) pa_nil))))
      (pss_cons (ps_set (i := 15) sc_law.nd rfl (Or.inl rfl) (C8.pe_c c__law_pick hr (by first | decide | omega) (by rfl) (pa_cons (pv 1) (pa_cons (pe_lc (own := [("other", 18)]) (g := gName 18)  rfl sc_law.nd (pi_str (pe_c0 c__law_signs hr (by first | decide | omega) (by rfl))) (blkOk_by (N := N_law) (sc := C8.fnScope s_law) (by decide +kernel)) (fun _ _ _ _ _ => (pg_name (i := 18) sc_law.nd rfl (Or.inl rfl))) (fun _ _ _ _ _ => pts_one (pt_cmpR op_notIn_sign (pv 18) (pv 2) (by rfl))) (fun _ _ _ _ _ => (pv 18))) pa_nil))))
      (pss_cons (ps_set (i := 16) sc_law.nd rfl (Or.inl rfl) (pe_op op_cat (pe_op op_cat (pe_op op_cat (pe_slice sl_list (pv 3) po_none (po_some (pv 14))) (pe_lst (pa_cons (pe_tup (pa_cons (pe_op op_add_str (pe_op op_add_str (pe_op op_add_str (pe_slice sl_str (pv 12) po_none (po_some (pv 13))) (pv 11)) (pe_slice sl_str (pv 12) (po_some (pv 13)) po_none)) (pv 15)) (pa_cons pe_int pa_nil))) pa_nil))) (pe_slice sl_list (pv 3) (po_some (pv 14)) po_none)) (pe_lst (pa_cons (pe_tup (pa_cons (pv 15) (pa_cons pe_int pa_nil))) pa_nil))))
      (pss_cons (ps_set (i := 17) sc_law.nd rfl (Or.inl rfl) (C8.pe_c c__law_pick hr (by first | decide | omega) (by rfl) (pa_cons (pv 1) (pa_cons (pe_lst (pa_cons pe_str (pa_cons pe_str (pa_cons pe_str (pa_cons (pe_op op_add_str (pv 2) (pe_ix ix_str (pv 2) pe_int (fun _ _ => rfl))) (pa_cons (pe_slice sl_str (pe_c0 c__law_signs hr (by first | decide | omega) (by rfl)) po_none (po_some pe_int)) (pa_cons pe_str (pa_cons (pe_c0 c__law_signs hr (by first | decide | omega) (by rfl)) pa_nil)))))))) pa_nil))))
      (pss_cons (ps_if (pt_not (pt_val (C8.pe_c c__law_same hr (by first | decide | omega) (by rfl) (pa_cons (pe_fld (C8.pe_mt0 m_list_so_far hr (by first | decide | omega) (C8.pe_mk k_Learner hr (by first | decide | omega) (by rfl) (pa_cons (pe_slice sl_str (pe_c0 c__law_signs hr (by first | decide | omega) (by rfl)) po_none (po_some pe_int)) (pa_cons (pe_lst pa_nil) pa_nil)))) rfl) (pa_cons (pe_slice sl_str (pe_c0 c__law_signs hr (by first | decide | omega) (by rfl)) po_none (po_some pe_int)) pa_nil))))) (pss_one (ps_ret pe_bl)) pss_nil)
      (pss_one (ps_ret (pe_and (C8.pe_c c__law_sign_refused hr (by first | decide | omega) (by rfl) (pa_cons (pv 2) (pa_cons (pv 16) (pa_cons (pv 11) (pa_cons (pv 13) pa_nil))))) (pe_one (C8.pe_c c__law_alphabet_refused hr (by first | decide | omega) (by rfl) (pa_cons (pv 17) (pa_cons (C8.pe_c c__law_pick hr (by first | decide | omega) (by rfl) (pa_cons (pv 1) (pa_cons (pe_lst (pa_cons (pv 3) (pa_cons (pv 16) pa_nil))) pa_nil))) pa_nil)))))))))))))))))))))))))))), ?_⟩
    refine ⟨_, rfl, a0, zs, rfl, hS, by omega, fun H1 d cc s1 hT1 => ?_⟩
    obtain ⟨t, ht⟩ : ∃ t : Tp, t = ⟨d, cc, zs⟩ := ⟨_, rfl⟩
    obtain rfl : d = t.d := by rw [ht]
    obtain rfl : cc = t.c := by rw [ht]
    rw [← ht] at hT1
    have hTab1 := hTab.ext s1
    refine ⟨_, rfl, _, rfl, t, 4, rfl, hT1, by decide, fun H2 r2 s2 hr2 => ⟨_, _, rfl, rfl, ?_⟩⟩
    refine ⟨t, 1 + r2, by rw [Int.natCast_add]; rfl, s2.at1, by omega, by omega, fun H3 al s3 hok hnd hal1 halm hSG => ?_⟩
    have s13 := s2.trans s3
    refine ⟨_, rfl, _, rfl, t, al, 5, rfl, s3.at1, hal1, by omega, by decide, fun H4 a us co s4 hcn hca hP hcl hco => ?_⟩
    have s14 := s13.trans s4
    have hca0 : H1 a = none := s13.none hcn
    refine ⟨_, rfl, t, 12, rfl, s14.at1, by decide, fun H5 r5 s5 hr5 => ⟨rfl, _, rfl, ?_⟩⟩
    have s15 := s14.trans s5
    have hca5 : H5 a = some (.lst us) := s5.lst hca
    have hP5 := Paired.mapP hP fun _ _ h => CEnt.same s5.tt h
    obtain ⟨e, he⟩ : ∃ e : Bool, e = decide (V.int (r5 : Int) = V.int 0) := ⟨_, rfl⟩
    show (if decide (V.int (r5 : Int) = V.int 0) = true then _ else _)
    rw [← he]
    have hcoM : TextsM al co := fun e he => ⟨(hco e he).1, Nat.le_trans (hco e he).2 (by decide)⟩
    obtain ⟨_, _, _, _, _, _, htc, _⟩ := id hT1
    have nac : a ≠ t.c := fun z => by rw [z, htc] at hca0; cases hca0
    have hcok0 : co.length ≤ 5 := hcl
    generalize hM : tSeq (tAsg (tDisp _) _) _ _ = M
    have key1 : ∀ (H6 : Hp) (us : List V) (co : List (List Nat × Nat)), TSame t H1 H6 → H6 a = some (.lst us) → Paired (CEnt H6) us co → co.length ≤ 6 → TextsM al co → M [some (.ref a0), some (.ref t.d), some (.str (S al)), some (.ref a), none, none, none, none, none, none, none, none, none, none, none, none, none, none, none] H6 := by
      clear he e hP5 hca5 s15 hr5 s5 hco hcl hP hca hcn s14 s4 s13 s3 s2 hcoM hcok0 us co
      intro H6 us co s16 hca hP hcl hco
      rw [← hM]
      clear hM
      -- the law's own list
      refine fun j hj => ⟨_, rfl, Nat.zero_le _, fun pp hpp => fun rk hrk => ⟨_, rfl, S al, rfl, by rw [S_size]; exact small_le (by omega), fun tx htx => ?_⟩⟩
      have npj : pp ≠ j := fun e => by rw [e, upd_same] at hpp; cases hpp
      have hpp2 : H6 pp = none := by rw [← hpp, upd_ne npj]
      have nrp : rk ≠ pp := fun e => by rw [e, upd_same] at hrk; cases hrk
      have hrk1 : (upd H6 j (.dK [])) rk = none := by rw [← hrk, upd_ne nrp]
      have nrj : rk ≠ j := fun e => by rw [e, upd_same] at hrk1; cases hrk1
      have hrk2 : H6 rk = none := by rw [← hrk1, upd_ne nrj]
      have ntr : tx ≠ rk := fun e => by rw [e, upd_same] at htx; cases htx
      have htx1 : (upd (upd H6 j (.dK [])) pp (.lst [])) tx = none := by rw [← htx, upd_ne ntr]
      have ntp : tx ≠ pp := fun e => by rw [e, upd_same] at htx1; cases htx1
      have htx2 : (upd H6 j (.dK [])) tx = none := by rw [← htx1, upd_ne ntp]
      have ntj : tx ≠ j := fun e => by rw [e, upd_same] at htx2; cases htx2
      have htx3 : H6 tx = none := by rw [← htx2, upd_ne ntj]
      refine ⟨(upd_ne (Ne.symm ntj)).trans ((upd_ne (Ne.symm nrj)).trans ((upd_ne (Ne.symm npj)).trans upd_same)), ljK al ⟨j, pp, rk, tx⟩, rfl, by show 4 ≤ 15; decide, ?_⟩
      rw [show mergeK [] (ljK al ⟨j, pp, rk, tx⟩) = ljK al ⟨j, pp, rk, tx⟩ from rfl, signs_texts]
      have sI : Same H6 (upd (upd (upd (upd (upd H6 j (.dK [])) pp (.lst [])) rk (.dT [])) tx (.lst (strV (textsOf al [])))) j (.dK (ljK al ⟨j, pp, rk, tx⟩))) := RJ.Same.put (RJ.Same.put (RJ.Same.put (RJ.Same.put (RJ.Same.put (fun _ _ e => e : Same H6 H6) hj) hpp2) hrk2) htx3) hj
      have LI : LjAt ⟨j, pp, rk, tx⟩ (upd (upd (upd (upd (upd H6 j (.dK [])) pp (.lst [])) rk (.dT [])) tx (.lst (strV (textsOf al [])))) j (.dK (ljK al ⟨j, pp, rk, tx⟩))) al [] :=
        ⟨upd_same, ⟨[], (upd_ne npj).trans ((upd_ne (Ne.symm ntp)).trans ((upd_ne (Ne.symm nrp)).trans upd_same)), .nil⟩, (upd_ne nrj).trans ((upd_ne (Ne.symm ntr)).trans upd_same), (upd_ne ntj).trans upd_same, Ne.symm ntp⟩
      revert sI LI
      dsimp only [gName]
      generalize upd (upd (upd (upd (upd H6 j (.dK [])) pp (.lst [])) rk (.dT [])) tx (.lst (strV (textsOf al [])))) j (.dK (ljK al ⟨j, pp, rk, tx⟩)) = H7
      intro sI LI
      obtain ⟨l, hl⟩ : ∃ l : Lj, l = ⟨j, pp, rk, tx⟩ := ⟨_, rfl⟩
      rw [← hl] at LI
      have hca7 := sI _ _ hca
      have nap : a ≠ l.pp := by rw [hl]; exact ne_of_none hca hpp2
      have nat : a ≠ l.tx := by rw [hl]; exact ne_of_none hca htx3
      have htc6 := s16.lst htc
      have npc : l.pp ≠ t.c := by rw [hl]; exact Ne.symm (ne_of_none htc6 hpp2)
      have ntc : l.tx ≠ t.c := by rw [hl]; exact Ne.symm (ne_of_none htc6 htx3)
      have hP7 := Paired.mapP hP fun _ _ h => CEnt.same (Same.t sI) h
      -- what is passed
      refine ⟨_, rfl, _, rfl, a, us, rfl, .inl (SqL.of hca7), fun La hLa => ⟨_, rfl, .inl ⟨a, us, rfl, SqL.of ((same_new hLa) _ _ hca7), fun Ta hTa => ⟨by show 2 ≤ sizeLine; decide, fun Lb hLb => ?_⟩⟩⟩⟩
      have sLa : Same H7 (upd H7 La (.lst us)) := same_new hLa
      have sTa := Same.new (o := .tup us) sLa hTa
      have sLb := Same.new (o := .lst [V.ref La, V.ref Ta]) sTa hLb
      have hLa2 : (upd (upd (upd H7 La (.lst us)) Ta (.tup us)) Lb (.lst [V.ref La, V.ref Ta])) La = some (.lst us) := (same_new hLb) _ _ ((same_new hTa) _ _ upd_same)
      have hTa2 : (upd (upd (upd H7 La (.lst us)) Ta (.tup us)) Lb (.lst [V.ref La, V.ref Ta])) Ta = some (.tup us) := (same_new hLb) _ _ upd_same
      have hLb2 : (upd (upd (upd H7 La (.lst us)) Ta (.tup us)) Lb (.lst [V.ref La, V.ref Ta])) Lb = some (.lst [V.ref La, V.ref Ta]) := upd_same
      generalize upd (upd (upd H7 La (.lst us)) Ta (.tup us)) Lb (.lst [V.ref La, V.ref Ta]) = H8 at sLb hLa2 hTa2 hLb2 ⊢
      have s68 := sI.trans sLb
      have own8 : LawS t l a La co al [] co H8 := ⟨s16.at1.same s68, LI.same sLb, ⟨us, sLb _ _ hca7, Paired.mapP hP7 fun _ _ h => CEnt.same (Same.t sLb) h⟩, ⟨us, hLa2, Paired.mapP hP7 fun _ _ h => CEnt.same (Same.t sLb) h⟩, ⟨nap, nat, nac, npc, ntc⟩, ⟨Ne.symm (by obtain ⟨_, e, _⟩ := LI.p; exact ne_of_none e hLa), Ne.symm (ne_of_none LI.t hLa), Ne.symm (ne_of_none (sI _ _ htc6) hLa)⟩⟩
      have nxa : La ≠ a := Ne.symm (ne_of_none hca7 hLa)
      have hP8 := Paired.mapP hP7 fun _ _ h => CEnt.same (Same.t sLb) h
      have hTab8 : LamX.TabS H8 Pt qLam := (TabS.tape hTab1 s16).ext s68
      have hjl : j = l.j := by rw [hl]
      clear sTa sLa hP7 hP LI hpp hrk htx hj hca hca7 sI hrk1 htx1 htx2 hpp2 hrk2 htx3 s68 sLb hTa hLa hLb s16
      subst hjl
      refine ⟨t, Lb, _, rfl, own8.tape, hLb2, by show 0 < 2; decide, fun H9 r9 x9 s9 hx9 => ?_⟩
      obtain ⟨pb, pq, rfl, hpq, hpt⟩ : ∃ (b : Bool) (p : Addr), x9 = V.ref p ∧ SeqAt b H9 p us ∧ (b = true → p = La) := by
        rcases r9 with _ | _ | r9
        · exact ⟨true, La, (Option.some.inj hx9).symm, s9.lst hLa2, fun _ => rfl⟩
        · exact ⟨false, Ta, (Option.some.inj hx9).symm, s9.tup hTa2, fun z => by cases z⟩
        · cases hx9
      have own9 := own8.tsame s9
      have hTab9 := TabS.tape hTab8 s9
      have hP9 := Paired.mapP hP8 fun _ _ h => CEnt.same s9.tt h
      clear own8 hTab8 hx9 hLa2 hTa2 hLb2 s9 hP8
      -- the learner
      refine ⟨_, rfl, _, rfl, fun p dx np ndx nxp => ?_⟩
      have sM : ∀ (b : Addr) (o : HO), H9 b = some o → b ≠ p ∧ (upd (upd H9 dx (.own p)) p (.ins CL dx [])) b = some o := fun b o e => ⟨ne_of_none e np, (upd_ne (ne_of_none e np)).trans ((upd_ne (ne_of_none e ndx)).trans e)⟩
      have hcok : CorpOk al co := hco.ok (by omega)
      have hpqM : SeqAt pb (upd (upd H9 dx (.own p)) p (.ins CL dx [])) pq us := by
        cases pb with
        | true => exact (sM _ _ hpq).2
        | false => exact (sM _ _ hpq).2
      refine ⟨p, pq, dx, pb, co, al, rfl, upd_same, hok, hnd, by omega, ⟨us, hpqM, Paired.mapP hP9 fun _ _ h => CEnt.same (fun b xs e => (sM b _ e).2) h⟩, hcok, fun H10 j0 r c sx L hA => ⟨rfl, ?_⟩⟩
      have s9A : Same H9 H10 := fun b o e => sx b o (sM b o e).1 (sM b o e).2
      have i10 : Inv56 C CL Pt t l a La co p al co [] dx j0 r c H10 := ⟨⟨own9.keep fun b o e _ => s9A _ _ e, L, hA _ fun b g => by
        obtain ⟨o, ho⟩ := own9.lds.ex b g
        exact ⟨o, (sM b o ho).2⟩⟩, hTab9.ext s9A, Proper.nil al, rfl⟩
      have hpq10 : SeqAt pb H10 pq us := by
        cases pb with
        | true => exact s9A _ _ hpq
        | false => exact s9A _ _ hpq
      have hP10 := Paired.mapP hP9 fun _ _ h => CEnt.same (Same.t s9A) h
      clear sM sx hA s9A own9 hTab9 hP9 hpqM hpq L
      have hSc : ∀ e ∈ co, PyData.strOk (S e.1) = true := fun e he => strOk_L fun y hy => al_small hok y ((hco e he).1 y hy)
      obtain ⟨uc, hc1, hc2⟩ := i10.st.own.cor
      refine ⟨_, rfl, pq, us, rfl, ?_, fun Lc hLc => ?_⟩
      · cases pb with
        | true => exact .inl (SqL.of hpq10)
        | false => exact .inr (SqT.of hpq10)
      have sLc := same_new (o := .lst us) hLc
      have i11 := i10.same sLc
      refine ⟨_, rfl, _, _, .lst (SqL.of upd_same) (dp_corp (Paired.mapP hP10 fun _ _ h => CEnt.same (Same.t sLc) h)), .lst (SqL.of (sLc _ _ hc1)) (dp_corp (Paired.mapP hc2 fun _ _ h => CEnt.same (Same.t sLc) h)), shaped_corp hSc, shaped_corp hSc, _, rfl, ?_⟩
      rw [eqv_corp hSc]
      refine iteF ?_
      have hpq11 : SeqAt pb (upd H10 Lc (.lst us)) pq us := by
        cases pb with
        | true => exact sLc _ _ hpq10
        | false => exact sLc _ _ hpq10
      have hP11 := Paired.mapP hP10 fun _ _ h => CEnt.same (Same.t sLc) h
      generalize upd H10 Lc (.lst us) = H11 at i11 hpq11 hP11 ⊢
      clear sLc hLc hpq10 hP10 i10 hc1 hc2
      generalize hM2 : tSeq (tAsg (tCall sp_draw _ _ _) (gName 7)) _ = M2
      have key2 : ∀ (H' : Hp) (pq : Addr) (cx : List (List Nat × Nat)) (uc : List V) (dx j r c : Addr), Inv56 C CL Pt t l a La cx p al co [] dx j r c H' → H' pq = some (.tup uc) → Paired (CEnt H') uc co → M2 { nx := fun _ H' => Q V.non H', rt := Q } [some (.ref a0), some (.ref t.d), some (.str (S al)), some (.ref a), some (.ref l.j), some (.ref pq), some (.ref p), none, none, none, none, none, none, none, none, none, none, none, none] H' := by
        clear hP11 hpq11 i11 hpt pb uc us dx np ndx nxp
        intro H' pq cx uc dx j r c hI hpq hPq
        rw [← hM2]
        clear hM2 M2
        refine ⟨_, rfl, t, 12, rfl, hI.st.own.tape, by decide, fun H2 mo s2 hmo => ?_⟩
        have i2 := hI.tsame s2
        have hpq2 := s2.tup hpq
        have hPq2 := Paired.mapP hPq fun _ _ h => CEnt.same s2.tt h
        clear hI hpq hPq s2
        generalize hM3 : tSeq (tIfS (tOr (tTest _) _) _ _) _ = M3
        have key4 : ∀ (H' : Hp) (ps : List (Nat × Nat)) (dx j r c : Addr) (v8 v9 v10 : Option V), Inv56 C CL Pt t l a La cx p al co ps dx j r c H' → ps.length ≤ 13 → H' pq = some (.tup uc) → Paired (CEnt H') uc co → M3 { nx := fun _ H' => Q V.non H', rt := Q } [some (.ref a0), some (.ref t.d), some (.str (S al)), some (.ref a), some (.ref l.j), some (.ref pq), some (.ref p), some (.int (mo : Int)), v8, v9, v10, none, none, none, none, none, none, none, none] H' := by
          clear hPq2 hpq2 i2 dx j r c
          intro H' ps dx j r c v8 v9 v10 hI hpl hpq hPq
          rw [← hM3]
          clear hM3 M3
          obtain ⟨ua, ha1, ha2⟩ := hI.st.own.cor
          refine ⟨_, rfl, pq, uc, rfl, .inr (SqT.of hpq), fun Lc hLc => ?_⟩
          have sLc := same_new (o := .lst uc) hLc
          have i1 := hI.same sLc
          refine ⟨_, rfl, _, _, .lst (SqL.of upd_same) (dp_corp (Paired.mapP hPq fun _ _ h => CEnt.same (Same.t sLc) h)), .lst (SqL.of (sLc _ _ ha1)) (dp_corp (Paired.mapP ha2 fun _ _ h => CEnt.same (Same.t sLc) h)), shaped_corp hSc, shaped_corp hSc, _, rfl, ?_⟩
          rw [eqv_corp hSc]
          refine iteF ?_
          generalize upd H' Lc (.lst uc) = H1' at i1 ⊢
          clear sLc hLc hPq hpq hI ha1 ha2
          obtain ⟨pus, hp1, hp2⟩ := i1.st.own.law.p
          have hpn : pus.length = ps.length := hp2.length
          refine ⟨_, rfl, _, rfl, _, rfl, l.j, _, rfl, dk i1.st.own.law.d rfl, l.pp, pus, rfl, .inl (SqL.of hp1), a, true, co, al, pus.length, rfl, hok, hnd, by omega, i1.st.own.cor, hcok, by omega, i1.tab, fun H5 y s5 hj => ?_⟩
          rw [hpn, i1.eq] at hj
          have i5 := i1.lam s5
          refine ⟨_, rfl, y, l, al, ps, rfl, hj, i5.st.own.law, by omega, fun H6 s6 => ⟨_, rfl, iteF ?_⟩⟩
          have i6 := i5.same s6
          refine ⟨_, rfl, p, dx, _, rfl, i6.st.ler.ob, rfl, p, al, ps, co, dx, j, r, c, rfl, i6.st.ler, hcok, i6.tab, fun H7 z7 us7 s7 hz7 hP7 => ?_⟩
          have i7 := i6.lam s7
          refine ⟨_, rfl, _, rfl, l, a, al, ps, co, rfl, i7.st.own.law, i7.prop.wf, by omega, by omega, i7.st.own.cor, hcok, fun H8 z8 us8 s8 hz80 hz8 hP8 => ?_⟩
          refine ⟨.ref z7, .ref z8, rfl, tot_same (s8 _ _ hz7) hz8 (Paired.mapP hP7 fun _ _ h => EntV.same (Same.t s8) h) hP8 (totsM_len (by omega) hco), fun H9 s9 => ⟨_, rfl, iteF ?_⟩⟩
          have i9 := (i7.same s8).same s9
          obtain ⟨ua, ha1, ha2⟩ := i9.st.own.cor
          have hT9 := i9.st.own.tape
          clear i7 i6 i5 i1 s9 s8 s7 s6 s5 hz7 hP7 hz80 hz8 hP8 hj hp1 hp2 hpn i9
          have hstr : ∃ d, d ∈ SG ∧ d ∉ al := by
            by_cases h : ∃ d, d ∈ SG ∧ d ∉ al
            · exact h
            · exfalso
              have := pigeon57 (l := SG) (SG_asc.imp fun h => Nat.ne_of_lt h) al fun x hx => Classical.byContradiction fun hn => h ⟨x, hx, hn⟩
              rw [SG_len] at this; omega
          -- a strange sign is drawn
          refine ⟨_, rfl, rfl, S SG, rfl, fun D5 hD5 => lc_it walk_str (fun i H' => ∃ cs : List Nat, TSame t H9 H' ∧ H' D5 = some (.lst ((sv cs).map V.str)) ∧ cs.length ≤ i ∧ cs = (SG.take i).filter fun c => decide (c ∉ al)) ⟨[], (TSame.refl hT9).new hD5, upd_same, Nat.le_refl _, rfl⟩ (fun _ _ _ _ => trivial) ?_ ?_⟩
          · rintro i2 x2 Hd He hi2 ⟨cs, sb2, hDb, hcl, hcs⟩ ⟨rfl, c, hc, rfl⟩
            rw [S_get] at hc
            have hi94 : i2 < 94 := by have := (List.getElem?_eq_some_iff.mp hc).1; rw [SG_len] at this; exact this
            refine ⟨rfl, _, rfl, _, rfl, c, S al, rfl, rfl, _, rfl, ?_⟩
            show (if (!decide (c ∈ al)) = true then _ else _)
            by_cases h : c ∈ al
            · rw [decide_eq_true h]
              refine iteF ⟨cs, sb2, hDb, by omega, ?_⟩
              rw [take_succ_of hc, List.filter_append, ← hcs, List.filter_cons_of_neg (by simpa using h)]
              exact (List.append_nil cs).symm
            · rw [decide_eq_false h]
              refine iteT ⟨_, rfl, _, hDb, ?_, cs ++ [c], sb2.put hD5, ?_, ?_, ?_⟩
              · unfold sv; rw [List.length_map, List.length_map]; exact small1000 (by omega)
              · rw [upd_same]; unfold sv; rw [List.map_append, List.map_append]; rfl
              · rw [List.length_append, List.length_singleton]; omega
              · rw [take_succ_of hc, List.filter_append, ← hcs, List.filter_cons_of_pos (by simpa using h)]; rfl
          rintro H17 ⟨cs5, s17, hDb5, hcl5, hcs5⟩
          rw [S_size, List.take_length] at hcs5
          refine ⟨t, D5, _, rfl, s17.at1, hDb5, ?_, fun H18 r5 x5 s18 hx5 => ?_⟩
          · unfold sv; rw [List.length_map, List.length_map, hcs5]
            obtain ⟨d0, hd1, hd2⟩ := hstr
            exact List.length_pos_of_mem (List.mem_filter.mpr ⟨hd1, by simpa using hd2⟩)
          obtain ⟨c1, rfl, hc1, hc12⟩ : ∃ c, x5 = V.str (S [c]) ∧ c ∈ SG ∧ c ∉ al := by
            unfold sv at hx5
            rw [List.map_map, List.getElem?_map] at hx5
            obtain ⟨c, hc, rfl⟩ := Option.map_eq_some_iff.mp hx5
            have := List.mem_of_getElem? hc
            rw [hcs5, List.mem_filter] at this
            exact ⟨c, rfl, this.1, by simpa using this.2⟩
          have s918 := s17.trans s18
          clear hDb5 hcs5 hcl5 s17 s18 hx5
          -- a text, its place, the corpus's place
          refine ⟨_, rfl, _, rfl, t, al, rfl, s918.at1, hal1, by omega, fun H19 u s19 hum hul => ?_⟩
          have s919 := s918.trans s19
          refine ⟨_, rfl, _, rfl, S u, rfl, by rw [S_len]; exact small_le (by omega), _, _, rfl, rfl, ?_⟩
          rw [S_len]
          refine ⟨t, _, rfl, s919.at1, by omega, fun H23 at_ s23 hat => ?_⟩
          have s923 := s919.trans s23
          refine ⟨_, rfl, _, rfl, a, ua, rfl, .inl (SqL.of (s923.lst ha1)), _, _, rfl, rfl, ?_⟩
          refine ⟨t, _, rfl, s923.at1, by omega, fun H20 pl s20 hpl2 => ?_⟩
          have s920 := s923.trans s20
          clear s918 s919 s923 s19 s20 s23
          -- one more
          refine ⟨_, rfl, rfl, S SG, rfl, fun D6 hD6 => lc_it walk_str (fun i H' => ∃ cs : List Nat, TSame t H9 H' ∧ H' D6 = some (.lst ((sv cs).map V.str)) ∧ cs.length ≤ i ∧ cs = (SG.take i).filter fun c => decide (c ∉ al)) ⟨[], s920.new hD6, upd_same, Nat.le_refl _, rfl⟩ (fun _ _ _ _ => trivial) ?_ ?_⟩
          · rintro i2 x2 Hd He hi2 ⟨cs, sb2, hDb, hcl, hcs⟩ ⟨rfl, c, hc, rfl⟩
            rw [S_get] at hc
            have hi94 : i2 < 94 := by have := (List.getElem?_eq_some_iff.mp hc).1; rw [SG_len] at this; exact this
            refine ⟨rfl, _, rfl, _, rfl, c, S al, rfl, rfl, _, rfl, ?_⟩
            show (if (!decide (c ∈ al)) = true then _ else _)
            by_cases h : c ∈ al
            · rw [decide_eq_true h]
              refine iteF ⟨cs, sb2, hDb, by omega, ?_⟩
              rw [take_succ_of hc, List.filter_append, ← hcs, List.filter_cons_of_neg (by simpa using h)]
              exact (List.append_nil cs).symm
            · rw [decide_eq_false h]
              refine iteT ⟨_, rfl, _, hDb, ?_, cs ++ [c], sb2.put (s920.none hD6), ?_, ?_, ?_⟩
              · unfold sv; rw [List.length_map, List.length_map]; exact small1000 (by omega)
              · rw [upd_same]; unfold sv; rw [List.map_append, List.map_append]; rfl
              · rw [List.length_append, List.length_singleton]; omega
              · rw [take_succ_of hc, List.filter_append, ← hcs, List.filter_cons_of_pos (by simpa using h)]; rfl
          rintro H24a ⟨cs6, s24a, hDb6, hcl6, hcs6⟩
          rw [S_size, List.take_length] at hcs6
          refine ⟨t, D6, _, rfl, s24a.at1, hDb6, ?_, fun H24 r6 x6 s24b hx6 => ?_⟩
          · unfold sv; rw [List.length_map, List.length_map, hcs6]
            obtain ⟨d0, hd1, hd2⟩ := hstr
            exact List.length_pos_of_mem (List.mem_filter.mpr ⟨hd1, by simpa using hd2⟩)
          obtain ⟨c2, rfl, hc2, hc22⟩ : ∃ c, x6 = V.str (S [c]) ∧ c ∈ SG ∧ c ∉ al := by
            unfold sv at hx6
            rw [List.map_map, List.getElem?_map] at hx6
            obtain ⟨c, hc, rfl⟩ := Option.map_eq_some_iff.mp hx6
            have := List.mem_of_getElem? hc
            rw [hcs6, List.mem_filter] at this
            exact ⟨c, rfl, this.1, by simpa using this.2⟩
          have s924 := s24a.trans s24b
          clear hDb6 hcs6 hcl6 s24a s24b hx6
          have hca := s924.lst ha1
          have hPa := Paired.mapP ha2 fun _ _ h => CEnt.same s924.tt h
          have hTd := s924.at1
          have hual : ua.length = co.length := ha2.length
          have hul6 : ua.length ≤ 6 := by rw [ha2.length]; exact hcl
          have hatl : at_ ≤ u.length := by omega
          have hplc : pl ≤ ua.length := by omega
          clear s924 s920 ha1 ha2
          have hz : (S u).length ≤ sizeLine := by rw [S_len]; exact small_le (by omega)
          refine ⟨_, rfl, _, rfl, _, rfl, a, ua, rfl, SqL.of hca, fun A hA => ?_⟩
          have s1 : Same H24 (upd H24 A (.lst (cutV ua none (some (pl : Int))))) := same_new hA
          have hA1 : (upd H24 A (.lst (cutV ua none (some (pl : Int))))) A = some (.lst (ua.take pl)) := by rw [upd_same, cutV_to]
          generalize upd H24 A (.lst (cutV ua none (some (pl : Int)))) = Ha at s1 hA1 ⊢
          refine ⟨_, rfl, _, rfl, _, rfl, S u, rfl, hz, ?_⟩
          rw [cutS_upto]
          refine ⟨_, rfl, S (u.take at_), S [c1], rfl, rfl, by rw [S_len, S_len, List.length_singleton, List.length_take]; exact small_le (by omega), _, rfl, _, rfl, _, rfl, S u, rfl, hz, ?_⟩
          rw [cutS_from, S_cat]
          refine ⟨S (u.take at_ ++ [c1]), S (u.drop at_), rfl, rfl, by rw [S_len, S_len, List.length_append, List.length_singleton, List.length_take, List.length_drop]; exact small_le (by omega), _, rfl, ?_⟩
          rw [S_cat]
          refine ⟨S (u.take at_ ++ [c1] ++ u.drop at_), S [c2], rfl, rfl, by rw [S_len, S_len, List.length_append, List.length_append, List.length_singleton, List.length_singleton, List.length_take, List.length_drop]; exact small_le (by omega), ?_⟩
          rw [S_cat]
          refine ⟨by show 2 ≤ sizeLine; decide, fun g hg => ⟨by show 1 ≤ sizeLine; decide, fun B hB => ?_⟩⟩
          have s2 := Same.new (o := .tup [V.str (S (u.take at_ ++ [c1] ++ u.drop at_ ++ [c2])), V.int 1]) s1 hg
          have s3 := Same.new (o := .lst [V.ref g]) s2 hB
          have hA3 := (same_new (o := .lst [V.ref g]) hB) _ _ ((same_new (o := .tup [V.str (S (u.take at_ ++ [c1] ++ u.drop at_ ++ [c2])), V.int 1]) hg) _ _ hA1)
          have hg3 := (same_new (o := .lst [V.ref g]) hB) _ _ (upd_same (H := Ha) (a := g) (o := .tup [V.str (S (u.take at_ ++ [c1] ++ u.drop at_ ++ [c2])), V.int 1]))
          have hB3 := upd_same (H := upd Ha g (.tup [V.str (S (u.take at_ ++ [c1] ++ u.drop at_ ++ [c2])), V.int 1])) (a := B) (o := .lst [V.ref g])
          generalize upd (upd Ha g (.tup [V.str (S (u.take at_ ++ [c1] ++ u.drop at_ ++ [c2])), V.int 1])) B (.lst [V.ref g]) = Hb at s3 hA3 hg3 hB3 ⊢
          have l1 : (ua.take pl).length ≤ 6 := by rw [List.length_take]; omega
          refine ⟨A, B, _, _, rfl, rfl, hA3, hB3, Nat.le_trans (by rw [List.length_singleton]; omega : _ ≤ 7) (small_le (n := 7) (by decide)), fun C1 hC1 => ?_⟩
          have s4 := Same.new (o := .lst (ua.take pl ++ [V.ref g])) s3 hC1
          refine ⟨_, rfl, _, rfl, _, rfl, a, ua, rfl, SqL.of (s4 _ _ hca), fun A2 hA2 => ?_⟩
          have s5 := Same.new (o := .lst (cutV ua (some (pl : Int)) none)) s4 hA2
          have hC5 := (same_new (o := .lst (cutV ua (some (pl : Int)) none)) hA2) _ _ (upd_same (H := Hb) (a := C1) (o := .lst (ua.take pl ++ [V.ref g])))
          have hg5 := (same_new (o := .lst (cutV ua (some (pl : Int)) none)) hA2) _ _ ((same_new (o := .lst (ua.take pl ++ [V.ref g])) hC1) _ _ hg3)
          have hA25 : (upd (upd Hb C1 (.lst (ua.take pl ++ [V.ref g]))) A2 (.lst (cutV ua (some (pl : Int)) none))) A2 = some (.lst (ua.drop pl)) := by rw [upd_same, cutV_from56]
          generalize upd (upd Hb C1 (.lst (ua.take pl ++ [V.ref g]))) A2 (.lst (cutV ua (some (pl : Int)) none)) = Hc at s5 hC5 hg5 hA25 ⊢
          refine ⟨C1, A2, _, _, rfl, rfl, hC5, hA25, Nat.le_trans (by rw [List.length_append, List.length_singleton, List.length_drop]; omega : _ ≤ 14) (small_le (n := 14) (by decide)), fun C2 hC2 => ?_⟩
          have s6 := Same.new (o := .lst (ua.take pl ++ [V.ref g] ++ ua.drop pl)) s5 hC2
          refine ⟨_, rfl, by show 2 ≤ sizeLine; decide, fun g2 hg2 => ⟨by show 1 ≤ sizeLine; decide, fun B2 hB2 => ?_⟩⟩
          have s7 := Same.new (o := .tup [V.str (S [c2]), V.int 2]) s6 hg2
          have s8 := Same.new (o := .lst [V.ref g2]) s7 hB2
          have x2 : Same Hc (upd Hc C2 (.lst (ua.take pl ++ [V.ref g] ++ ua.drop pl))) := same_new hC2
          have x3 := Same.new (o := .tup [V.str (S [c2]), V.int 2]) x2 hg2
          have x4 := Same.new (o := .lst [V.ref g2]) x3 hB2
          have hC28 := (same_new (o := .lst [V.ref g2]) hB2) _ _ ((same_new (o := .tup [V.str (S [c2]), V.int 2]) hg2) _ _ (upd_same (H := Hc) (a := C2) (o := .lst (ua.take pl ++ [V.ref g] ++ ua.drop pl))))
          have hg28 := (same_new (o := .lst [V.ref g2]) hB2) _ _ (upd_same (H := upd Hc C2 (.lst (ua.take pl ++ [V.ref g] ++ ua.drop pl))) (a := g2) (o := .tup [V.str (S [c2]), V.int 2]))
          have hg8 := x4 _ _ hg5
          refine ⟨C2, B2, _, _, rfl, rfl, hC28, upd_same, Nat.le_trans (by rw [List.length_append, List.length_append, List.length_singleton, List.length_singleton, List.length_drop]; omega : _ ≤ 15) (small_le (n := 15) (by decide)), fun SP hSP => ?_⟩
          have s9 := Same.new (o := .lst (ua.take pl ++ [V.ref g] ++ ua.drop pl ++ [V.ref g2])) s8 hSP
          have hS9 := upd_same (H := upd (upd (upd Hc C2 (.lst (ua.take pl ++ [V.ref g] ++ ua.drop pl))) g2 (.tup [V.str (S [c2]), V.int 2])) B2 (.lst [V.ref g2])) (a := SP) (o := .lst (ua.take pl ++ [V.ref g] ++ ua.drop pl ++ [V.ref g2]))
          have hg9 := (same_new (o := .lst (ua.take pl ++ [V.ref g] ++ ua.drop pl ++ [V.ref g2])) hSP) _ _ hg8
          have hg29 := (same_new (o := .lst (ua.take pl ++ [V.ref g] ++ ua.drop pl ++ [V.ref g2])) hSP) _ _ hg28
          generalize upd (upd (upd (upd Hc C2 (.lst (ua.take pl ++ [V.ref g] ++ ua.drop pl))) g2 (.tup [V.str (S [c2]), V.int 2])) B2 (.lst [V.ref g2])) SP (.lst (ua.take pl ++ [V.ref g] ++ ua.drop pl ++ [V.ref g2])) = Hd at s9 hS9 hg9 hg29 ⊢
          have hP9 := Paired.mapP hPa fun _ _ h => CEnt.same (Same.t s9) h
          have hco9 : CorpT true Hd SP (spoilt56 co pl at_ c1 c2 u) := ⟨_, hS9, pair56 (pair56 (pair56 (Paired.front pl hP9) (.cons ⟨g, rfl, hg9⟩ .nil)) (pdrop56 pl hP9)) (.cons ⟨g2, rfl, hg29⟩ .nil)⟩
          have hca9 := s9 _ _ hca
          have hT9d := hTd.same s9
          clear hg9 hg29 hS9 hg8 hg28 hC28 x4 x3 x2 s8 s7 s6 hg5 hC5 hA25 s5 s4 hA3 hg3 hB3 s3 s2 s1 hA1 hca hPa hTd
          obtain ⟨c0, hc0⟩ : ∃ c, al[0]? = some c := ⟨_, List.getElem?_eq_getElem (by omega)⟩
          refine ⟨_, rfl, _, rfl, _, rfl, S al, _, c0, rfl, rfl, by rw [S_len]; exact small_le (by omega), atI_nat (j := 0) hc0, _, _, rfl, rfl, by rw [S_len]; show al.length + 1 ≤ sizeLine; exact small_le (by omega), ?_⟩
          have e1 : S al ++ (⟨#[c0]⟩ : Str) = S (al ++ [c0]) := S_cat al [c0]
          rw [e1]
          refine ⟨rfl, _, rfl, S SG, rfl, by rw [S_len, SG_len]; exact small_le (by decide), ?_⟩
          rw [show (some (31 : Int)) = some ((31 : Nat) : Int) from rfl, cutS_take]
          refine ⟨rfl, by show 7 ≤ sizeLine; decide, fun Lb hLb => ?_⟩
          have sb := same_new (o := .lst [V.str (Str.ofString ""), V.str (Str.ofString "ba"), V.str (Str.ofString "aa"), V.str (S (al ++ [c0])), V.str (S (SG.take 31)), V.str (Str.ofString "\nab"), V.str (S SG)]) hLb
          refine ⟨t, Lb, _, rfl, hT9d.same sb, upd_same, by show 0 < 7; decide, fun Hg rg xg sg hxg => ?_⟩
          obtain ⟨bad, rfl, hno, hch, hlen⟩ : ∃ l : List Nat, xg = V.str (S l) ∧ alOk l = false ∧ (∀ c ∈ l, c < 1114112) ∧ l.length ≤ 1000 := by
            have out : ∀ (l : List Nat) (z : V), z = V.str (S l) → some z = some xg → alOk l = false → (∀ c ∈ l, c < 1114112) → l.length ≤ 1000 → ∃ l : List Nat, xg = V.str (S l) ∧ alOk l = false ∧ (∀ c ∈ l, c < 1114112) ∧ l.length ≤ 1000 := fun l z e1 e2 h1 h2 h3 => ⟨l, (Option.some.inj e2).symm.trans e1, h1, h2, h3⟩
            have hc0m := List.mem_of_getElem? hc0
            rcases rg with _ | _ | _ | _ | _ | _ | _ | rg
            · exact out [] _ (by decide +kernel) hxg (by decide) (by decide) (by decide)
            · exact out [98, 97] _ (by decide +kernel) hxg (by decide) (by decide) (by decide)
            · exact out [97, 97] _ (by decide +kernel) hxg (by decide) (by decide) (by decide)
            · refine out (al ++ [c0]) _ rfl hxg ?_ (fun c hc => ?_) (by rw [List.length_append, List.length_singleton]; omega)
              · cases hq : alOk (al ++ [c0]) with
                | false => rfl
                | true =>
                  exfalso
                  obtain ⟨_, _, h3, _⟩ := alOk_d hq
                  have hp := asc_pw _ h3
                  rw [List.pairwise_append] at hp
                  exact Nat.lt_irrefl _ (hp.2.2 c0 hc0m c0 (List.mem_singleton.mpr rfl))
              · rcases List.mem_append.mp hc with z | z
                · exact Nat.lt_trans (al_small hok c z) (by decide)
                · rw [List.mem_singleton.mp z]; exact Nat.lt_trans (al_small hok c0 hc0m) (by decide)
            · exact out (SG.take 31) _ rfl hxg (by decide +kernel) (by decide +kernel) (by decide +kernel)
            · exact out [10, 97, 98] _ (by decide +kernel) hxg (by decide) (by decide) (by decide)
            · exact out SG _ rfl hxg (by decide +kernel) (by decide +kernel) (by decide +kernel)
            · cases hxg
          have sT := (TSame.of hT9d sb).trans sg
          have hcaG := sT.lst hca9
          have hTG := sT.at1
          have hcoG : CorpT true Hg SP (spoilt56 co pl at_ c1 c2 u) := by
            obtain ⟨vs, h1, h2⟩ := hco9
            exact ⟨vs, sT.lst h1, Paired.mapP h2 fun _ _ h => CEnt.same sT.tt h⟩
          clear sT sg hxg sb hLb hT9d hca9 hco9 hP9
          -- thirty letters
          have hz30 : (S SG).length ≤ sizeLine := by rw [S_len, SG_len]; exact small_le (by decide)
          refine ⟨rfl, _, rfl, S SG, rfl, hz30, ?_⟩
          rw [show (some (30 : Int)) = some ((30 : Nat) : Int) from rfl, cutS_take]
          refine ⟨Nat.zero_le _, fun e0 he0 => fun p2 dx2 np2 ndx2 nxp2 => ?_⟩
          have se := same_new (o := .lst []) he0
          have hTe := hTG.same se
          have hcae := se _ _ hcaG
          have hcoe := hcoG.same se
          have hee : (upd Hg e0 (.lst [])) e0 = some (.lst []) := upd_same
          generalize upd Hg e0 (.lst []) = He at se hTe hcae hcoe hee np2 ndx2 ⊢
          have sM2 : ∀ (b : Addr) (o : HO), He b = some o → b ≠ p2 ∧ (upd (upd He dx2 (.own p2)) p2 (.ins CL dx2 [])) b = some o := fun b o e => ⟨ne_of_none e np2, (upd_ne (ne_of_none e np2)).trans ((upd_ne (ne_of_none e ndx2)).trans e)⟩
          refine ⟨p2, e0, dx2, true, [], SG.take 30, rfl, upd_same, by decide +kernel, by decide +kernel, by decide +kernel, ⟨[], (sM2 _ _ hee).2, .nil⟩, ⟨by decide, fun e he => by cases he⟩, fun H30 j2 r2' c2' sx2 L2 hA2 => ⟨rfl, ?_⟩⟩
          have s30 : Same He H30 := fun b o e => sx2 b o (sM2 b o e).1 (sM2 b o e).2
          obtain ⟨dj, tj, txj, dj', ej, wsj, j1, _⟩ := id L2.js
          refine ⟨p2, dx2, _, rfl, L2.ob, rfl, p2, SG.take 30, [], [], dx2, j2, r2', c2', rfl, L2, j2, C, dj, _, _, rfl, j1, J.cl, J.n1, f5_alphabet (SG.take 30) tj txj dj' ej, ?_⟩
          refine ⟨rfl, _, rfl, S SG, rfl, hz30, ?_⟩
          rw [show (some (30 : Int)) = some ((30 : Nat) : Int) from rfl, cutS_take]
          refine ⟨_, _, rfl, SameD.flat rfl 3, fun H31 s31 => ⟨_, rfl, iteF ?_⟩⟩
          have sE := s30.trans s31
          have hT31 := hTe.same sE
          have hca31 := sE _ _ hcae
          have hco31 := hcoe.same sE
          clear sE s31 s30 L2 hA2 sx2 sM2 hee hcoe hcae hTe se hcoG hcaG hTG j1
          have hbad : CorpBad al (spoilt56 co pl at_ c1 c2 u) at_ c1 := by
            have hpl3 : (co.take pl).length = pl := by rw [List.length_take]; omega
            refine ⟨pl, (u.take at_ ++ [c1] ++ u.drop at_ ++ [c2], 1), ?_, fb_put hum hatl hc12, ?_, fun e he => ?_, Nat.lt_trans (SG_small c1 hc1) (by decide), fun k e hk hek d hd => ?_⟩
            · unfold spoilt56
              rw [List.append_assoc, List.append_assoc, List.getElem?_append_right (by omega), hpl3, Nat.sub_self]
              rfl
            · unfold spoilt56
              rw [List.length_append, List.length_append, List.length_append, List.length_singleton, List.length_singleton, hpl3, List.length_drop]; omega
            · unfold spoilt56 at he
              rcases List.mem_append.mp he with he | he
              · rcases List.mem_append.mp he with he | he
                · rcases List.mem_append.mp he with he | he
                  · have := (hco e (List.mem_of_mem_take he)).2; omega
                  · rw [List.mem_singleton.mp he]
                    show (u.take at_ ++ [c1] ++ u.drop at_ ++ [c2]).length ≤ 1000
                    rw [List.length_append, List.length_append, List.length_append, List.length_singleton, List.length_singleton, List.length_take, List.length_drop]; omega
                · have := (hco e (List.mem_of_mem_drop he)).2; omega
              · rw [List.mem_singleton.mp he]; show 1 ≤ 1000; decide
            · unfold spoilt56 at hek
              rw [List.append_assoc, List.append_assoc, List.getElem?_append_left (by omega)] at hek
              exact (hco e (List.mem_of_mem_take (List.mem_of_getElem? hek))).1 d hd
          refine ⟨_, rfl, _, rfl, _, rfl, _, rfl, SP, true, _, al, at_, c1, rfl, hok, hnd, by omega, hco31, hbad, fun H32 s32 => ?_⟩
          refine ⟨true, rfl, iteT ?_⟩
          refine ⟨_, rfl, _, rfl, _, rfl, _, rfl, by show 2 ≤ sizeLine; decide, fun Lz hLz => ?_⟩
          refine ⟨t, Lz, _, rfl, (hT31.same s32).same (same_new hLz), upd_same, by show 0 < 2; decide, fun H33 r33 x33 s33 hx33 => ?_⟩
          exact ⟨x33, bad, rfl, hno, hch, hlen, fun H34 s34 => q H34⟩
        refine ⟨_, rfl, _, _, rfl, rfl, _, rfl, by omega, by omega, for_it walk_range (fun i σ H' => ∃ (ps : List (Nat × Nat)) (dx j r c : Addr) (v8 v9 v10 : Option V), σ = [some (.ref a0), some (.ref t.d), some (.str (S al)), some (.ref a), some (.ref l.j), some (.ref pq), some (.ref p), some (.int (mo : Int)), v8, v9, v10, none, none, none, none, none, none, none, none] ∧ Inv56 C CL Pt t l a La cx p al co ps dx j r c H' ∧ ps.length ≤ i ∧ H' pq = some (.tup uc) ∧ Paired (CEnt H') uc co)
          ⟨[], dx, j, r, c, none, none, none, rfl, i2, Nat.le_refl _, hpq2, hPq2⟩ (fun _ _ _ _ _ => trivial) ?_ ?_⟩
        · rintro i xi σ Ha Hb hi ⟨ps, dx, j, r, c, v8, v9, v10, rfl, hI, hpl, hpq3, hPq3⟩ ⟨rfl, hx⟩
          obtain rfl : xi = V.int (i : Int) := hx.trans (congrArg V.int (Int.zero_add _))
          have hi13 : i < 13 := by
            have : i < ((mo : Int) + 1).toNat := hi
            omega
          refine ⟨_, rfl, _, rfl, l, a, al, ps, co, rfl, hI.st.own.law, hI.prop.wf, by omega, by omega, hI.st.own.cor, hcok, fun H3 z us s3 hz0 hz hPz => ?_⟩
          have i3 := hI.same s3
          refine ⟨_, rfl, p, dx, _, rfl, i3.st.ler.ob, rfl, p, al, ps, co, dx, j, r, c, rfl, i3.st.ler, hcok, i3.tab, fun H4 z4 us4 s4 hz4 hP4 => ⟨_, rfl, .ref z4, .ref z, rfl, tot_same hz4 (s4.tup hz) hP4 (Paired.mapP hPz fun _ _ h => EntV.same s4.tt h) (totsM_len (by omega) hco), fun H5 s5 => ⟨_, rfl, iteF ?_⟩⟩⟩
          have i5 := (i3.lam s4).same s5
          refine ⟨_, rfl, p, dx, _, rfl, i5.st.ler.ob, rfl, p, al, ps, co, dx, j, r, c, rfl, i5.st.ler, _, rfl, j, l, al, ps, rfl, i5.st.ler.js, i5.st.own.law, by omega, fun H6 s6 => ⟨_, rfl, iteF ?_⟩⟩
          have i6 := i5.same s6
          have s36 : LSame Pt qLam H3 H6 := (s4.then s5).then s6
          have hz6 := s36.tup hz
          have hPz6 := Paired.mapP hPz fun _ _ h => EntV.same s36.tt h
          have hpq6 := s36.tup (s3 _ _ hpq3)
          have hPq6 := Paired.mapP hPq3 fun _ _ h => CEnt.same s36.tt (CEnt.same (Same.t s3) h)
          clear i5 i3 s6 s5 s4 hz4 hP4 s3 hz0 hz hPz hPq3 hpq3 hI s36
          refine ⟨_, rfl, _, rfl, _, _, rfl, rfl, _, rfl, ?_⟩
          obtain ⟨e, he⟩ : ∃ e : Bool, e = decide ((i : Int) < (mo : Int)) := ⟨_, rfl⟩
          show (if decide ((i : Int) < (mo : Int)) = true then _ else _)
          rw [← he]
          cases e with
          | false => exact iteF ⟨ps, dx, j, r, c, _, _, _, rfl, i6, by omega, hpq6, hPq6⟩
          | true =>
            refine iteT ?_
            have hprop := i6.prop
            refine ⟨_, rfl, _, rfl, l, z, al, ps, us, totsC al ps co, rfl, i6.st.own.law, by omega, hz6, hPz6, hprop.short, next_in hprop.wf hcok, fun H7 v s7 hv => ?_⟩
            have i7 := i6.same s7
            have hpq7 := s7 _ _ hpq6
            have hPq7 := Paired.mapP hPq6 fun _ _ h => CEnt.same (Same.t s7) h
            have hq0 : nextQ (totsC al ps co) ps (textsOf al ps) = nextL al co ps := by
              unfold nextQ
              rw [if_neg (by omega)]
              rfl
            rw [hq0] at hv
            refine ⟨_, rfl, p, dx, _, rfl, i7.st.ler.ob, rfl, p, al, ps, co, dx, j, r, c, rfl, i7.st.ler, hok, hnd, by omega, hprop, by omega, hcok, i7.tab, fun hstop H8 s8 => ?_, fun pr hlt hn H8 g j' r' sP hT8 L8 hA hg => ?_⟩
            · have hn : nextL al co ps = none := by
                rcases hstop with h | h
                · omega
                · exact h
              rw [hn] at hv
              obtain rfl : v = .non := hv
              refine ⟨_, rfl, .non, .non, rfl, SameD.flat rfl 3, fun H9 s9 => ⟨_, rfl, iteF ⟨_, rfl, rfl, _, rfl, iteT ?_⟩⟩⟩
              have s79 := s8.then s9
              exact key4 H9 ps dx j r c _ _ _ ((i7.lam s8).same s9) (by omega) (s79.tup hpq7) (Paired.mapP hPq7 fun _ _ h => CEnt.same s79.tt h)
            · rw [hn] at hv
              obtain ⟨g0, rfl, hg0⟩ : ∃ g, v = .ref g ∧ H7 g = some (.tup [.int (pr.1 : Int), .int (pr.2 : Int)]) := hv
              have nP : ∀ {b : Addr} {o : HO}, H7 b = some o → (∀ z1 z2 z3, o ≠ .ins z1 z2 z3) → (∀ k, o ≠ .tbl k) → H8 b = some o := fun {b o} e h1 h2 => sP b o (ne_of e i7.st.ler.ob (h1 _ _ _)) (TabS.ne i7.tab e h2) e
              have tt8 : SameT H7 H8 := fun b xs e => nP e (fun _ _ _ z => by cases z) (fun _ z => by cases z)
              have hg08 := tt8 _ _ hg0
              have own8 : LawS t l a La cx al ps co H8 := i7.st.own.keep fun b o e ho => nP e (by rcases ho with ⟨⟨_, rfl⟩, _⟩ | ⟨_, rfl⟩ | ⟨_, rfl⟩ | ⟨_, rfl⟩ <;> exact fun _ _ _ z => by cases z) (by rcases ho with ⟨⟨_, rfl⟩, _⟩ | ⟨_, rfl⟩ | ⟨_, rfl⟩ | ⟨_, rfl⟩ <;> exact fun _ z => by cases z)
              have av8 := hA _ i7.st.own.lds.ex i7.st.avd.gc
              refine ⟨_, rfl, .ref g, .ref g0, rfl, .inr ⟨g, g0, _, _, rfl, rfl, hg, hg08, by show 2 ≤ 1000; decide, .cons (SameD.flat rfl 2) (.cons (SameD.flat rfl 2) .nil)⟩, fun H9 s9 => ⟨_, rfl, iteF ⟨_, rfl, rfl, _, rfl, iteF ?_⟩⟩⟩
              have own5 : LawS t l a La cx al ps co H9 := own8.keep fun b o e _ => s9 _ _ e
              have la5 := L8.avd av8 own8.lds fun b o _ e => s9 _ _ e
              have hT9 := hT8.ext s9
              have hokp := nextP_ok hnd hcok hprop hn
              refine ⟨_, rfl, _, rfl, l, g0, al, ps, pr, rfl, own5.law, by omega, by omega, s9 _ _ hg08, notin_of_ok hprop.wf hokp, hokp, hprop.short, fun H10 k7 hL7 => ?_⟩
              obtain ⟨us5, c1, c2⟩ := own5.cor
              obtain ⟨uh5, d1, d2⟩ := own5.hand
              obtain ⟨pus, p1, p2⟩ := own5.law.p
              obtain ⟨a1, a2, a3, a4, a5⟩ := own5.apt
              obtain ⟨b2, b3, b4⟩ := own5.aptx
              have nK : ∀ {b : Addr} {o : HO}, H9 b = some o → (∀ xs, o ≠ .lst xs) → (∀ k, o ≠ .dT k) → H10 b = some o := fun {b o} e h1 h2 => k7 b o (ne_of e p1 (h1 _)) (ne_of e own5.law.r (h2 _)) (ne_of e own5.law.t (h1 _)) e
              have tt7 : SameT H9 H10 := fun b xs e => nK e (fun _ z => by cases z) (fun _ z => by cases z)
              obtain ⟨at_, g9, ll, se, u9, t1, t2, t3⟩ := own5.tape
              have nrk : ∀ {b : Addr} {xs : List V}, H9 b = some (.lst xs) → b ≠ l.rk := fun e => ne_of e own5.law.r (fun z => by cases z)
              have own7 : LawS t l a La cx al (ps ++ [pr]) co H10 := ⟨⟨at_, g9, ll, se, u9, nK t1 (fun _ z => by cases z) (fun _ z => by cases z), k7 _ _ (Ne.symm a4) (nrk t2) (Ne.symm a5) t2, t3⟩, hL7, ⟨us5, k7 _ _ a1 (nrk c1) a2 c1, Paired.mapP c2 fun _ _ h => h.same tt7⟩, ⟨uh5, k7 _ _ b2 (nrk d1) b3 d1, Paired.mapP d2 fun _ _ h => h.same tt7⟩, ⟨a1, a2, a3, a4, a5⟩, ⟨b2, b3, b4⟩⟩
              have out7 : ∀ b o, ¬ lawG t l a La b → H9 b = some o → H10 b = some o := fun b o n e => k7 b o (fun z => n (.inr (.inr (.inl z)))) (fun z => n (.inr (.inr (.inr (.inl z))))) (fun z => n (.inr (.inr (.inr (.inr (.inl z)))))) e
              have la7 := la5.1.avd la5.2 own5.lds out7
              have eqn : lrn al co (ps ++ [pr]).length = ps ++ [pr] := by
                rw [List.length_append, List.length_singleton, lrn_next (by rw [i6.eq]) (by rw [i6.eq]; exact hn), i6.eq]
              exact ⟨ps ++ [pr], dx, j', r', c, _, _, _, rfl, ⟨⟨own7, la7.1, la7.2⟩, TabS.kk hT9 fun b o e h1 _ h3 => nK e h1 h3, hprop.snoc hokp, eqn⟩, by rw [List.length_append, List.length_singleton]; omega, tt7 _ _ (s9 _ _ (tt8 _ _ hpq7)), Paired.mapP hPq7 fun _ _ h => CEnt.same tt7 (CEnt.same (Same.t s9) (CEnt.same tt8 h))⟩
        · rintro σ Hf ⟨ps, dx, j, r, c, v8, v9, v10, rfl, hI, hpl, hpq3, hPq3⟩
          exact key4 Hf ps dx j r c v8 v9 v10 hI (by
            have : ps.length ≤ ((mo : Int) + 1).toNat := hpl
            omega) hpq3 hPq3
      cases pb with
      | false =>
        refine ⟨_, rfl, _, .ty "list", .type "tuple", .type "list", false, rfl, .ty _, .base (.tup hpq11), kit_ty (by decide +kernel), _, rfl, iteF ?_⟩
        exact key2 H11 pq co us dx j0 r c i11 hpq11 hP11
      | true =>
        refine ⟨_, rfl, _, .ty "list", .type "list", .type "list", true, rfl, .ty _, .base (.lst hpq11), kit_ty (by decide +kernel), _, rfl, iteT ?_⟩
        obtain rfl := hpt rfl
        have hus6 : us.length ≤ 6 := by rw [hP11.length]; exact hcl
        refine ⟨_, rfl, .inl ⟨rfl, _, SqL.of hpq11⟩, _, rfl, by show 2 ≤ sizeLine; decide, fun g hg => ⟨pq, us, _, rfl, rfl, (same_new hg) _ _ hpq11, small1000 (by omega), ?_⟩⟩
        have sg := same_new (o := .tup [V.str (S al), V.int 5]) hg
        have i12 := i11.same sg
        have hpq12 := sg _ _ hpq11
        have hP12 := Paired.mapP hP11 fun _ _ h => CEnt.same (Same.t sg) h
        have hg12 : (upd H11 g (.tup [V.str (S al), V.int 5])) g = some (.tup [V.str (S al), V.int ((5 : Nat) : Int)]) := upd_same
        generalize upd H11 g (.tup [V.str (S al), V.int 5]) = H12 at sg i12 hpq12 hP12 hg12 ⊢
        obtain ⟨H13, hH13⟩ : ∃ H13, H13 = upd H12 pq (.lst (us ++ [V.ref g])) := ⟨_, rfl⟩
        rw [← hH13]
        have ka : ∀ b o, b ≠ pq → H12 b = some o → H13 b = some o := fun b o hb e => by rw [hH13, upd_ne hb]; exact e
        have na : ∀ {b : Addr} {o : HO}, H12 b = some o → (∀ xs, o ≠ .lst xs) → H13 b = some o := fun e hn => ka _ _ (ne_of e hpq12 (hn _)) e
        have tta : SameT H12 H13 := fun b xs e => na e (fun _ z => by cases z)
        obtain ⟨at_, g0, ll, se0, u0, t1, t2, t3⟩ := i12.st.own.tape
        obtain ⟨ws, p1, p2⟩ := i12.st.own.law.p
        obtain ⟨uc, c1, c2⟩ := i12.st.own.cor
        obtain ⟨b2, b3, b4⟩ := i12.st.own.aptx
        have oA : LawS t l a pq (co ++ [(al, 5)]) al [] co H13 := ⟨⟨at_, g0, ll, se0, u0, na t1 (fun _ z => by cases z), ka _ _ (Ne.symm b4) t2, t3⟩, ⟨na i12.st.own.law.d (fun _ z => by cases z), ⟨ws, ka _ _ (Ne.symm b2) p1, p2.same tta⟩, na i12.st.own.law.r (fun _ z => by cases z), ka _ _ (Ne.symm b3) i12.st.own.law.t, i12.st.own.law.ne⟩,
          ⟨uc, ka _ _ (Ne.symm nxa) c1, Paired.mapP c2 fun _ _ h => h.same tta⟩, ⟨us ++ [V.ref g], by rw [hH13]; exact upd_same, Paired.snoc ⟨g, rfl, tta _ _ hg12⟩ (Paired.mapP hP12 fun _ _ h => h.same tta)⟩, i12.st.own.apt, ⟨b2, b3, b4⟩⟩
        have lA := i12.st.ler.avd i12.st.avd i12.st.own.lds fun b o hb e => ka b o (fun z => hb (.inr (.inr (.inr (.inr (.inr (.inr z))))))) e
        have i13 : Inv56 C CL Pt t l a pq (co ++ [(al, 5)]) p al co [] dx j0 r c H13 := ⟨⟨oA, lA.1, lA.2⟩, TabS.kk i12.tab fun b o e h1 _ _ => na e h1, Proper.nil al, rfl⟩
        obtain ⟨uc, c1, c2⟩ := i13.st.own.cor
        refine ⟨_, rfl, .inl ⟨a, uc, rfl, SqL.of c1, fun z hz => ?_⟩⟩
        have sz := same_new (o := .tup uc) hz
        exact key2 _ z _ uc dx j0 r c (i13.same sz) upd_same (Paired.mapP c2 fun _ _ h => CEnt.same (Same.t sz) h)
    cases e with
    | false => exact iteF (key1 H5 us co s15 hca5 hP5 (by omega) hcoM)
    | true =>
      obtain ⟨c0, hc0⟩ : ∃ c, al[0]? = some c := ⟨_, List.getElem?_eq_getElem (by omega)⟩
      refine iteT ⟨_, rfl, .inl ⟨rfl, _, SqL.of hca5⟩, ⟨_, rfl⟩, _, rfl, t, 33, rfl, s15.at1, by decide, fun H6 r6 s6 hr6 => ⟨_, _, rfl, rfl, _, rfl, by omega, by omega, fun D hD => lc_it walk_range (fun i H' => TSame t H1 H' ∧ H' a = some (.lst us) ∧ Paired (CEnt H') us co ∧ H' D = some (.lst ((sv (List.replicate i c0)).map V.str))) ⟨(s15.trans s6).new hD, (s6.new hD).lst hca5, Paired.mapP hP5 fun _ _ h => CEnt.same (s6.new hD).tt h, upd_same⟩ (fun _ _ _ _ => trivial) ?_ ?_⟩⟩
      · rintro i xi Hc Hd hi ⟨sb, hca', hP', hDb⟩ ⟨rfl, hx⟩
        have him : i < 96 := by
          have : i < (64 + (r6 : Int)).toNat := hi
          omega
        refine ⟨rfl, _, rfl, S al, _, c0, rfl, rfl, by rw [S_len]; exact small_le (by omega), atI_nat (j := 0) hc0, ?_⟩
        have nDa : a ≠ D := fun z => by rw [← z, s6.lst hca5] at hD; cases hD
        have hDn := (s15.trans s6).none hD
        have sTD : SameT Hd (upd Hd D (.lst ((sv (List.replicate (i + 1) c0)).map V.str))) := SameT.put hDb
        refine ⟨_, hDb, ?_, ?_⟩
        · unfold sv; rw [List.length_map, List.length_map, List.length_replicate]; exact small1000 (by omega)
        have el : (sv (List.replicate i c0)).map V.str ++ [V.str (S [c0])] = (sv (List.replicate (i + 1) c0)).map V.str := by
          rw [List.replicate_succ']; unfold sv; rw [List.map_append, List.map_append]; rfl
        have e1 : (⟨#[c0]⟩ : Str) = S [c0] := rfl
        rw [e1, el]
        exact ⟨sb.put hDn, (upd_ne nDa).trans hca', Paired.mapP hP' fun _ _ h => h.same sTD, upd_same⟩
      · rintro H7 ⟨s7, hca7, hP7, hDb⟩
        obtain ⟨n, hn⟩ : ∃ n, n = (64 + (r6 : Int)).toNat := ⟨_, rfl⟩
        have hn96 : n ≤ 96 := by omega
        rw [← hn] at hDb
        refine ⟨S [], D, sv (List.replicate n c0), rfl, rfl, .inl (SqL.of hDb), ?_, ?_⟩
        · rw [sum1]
          have : (sv (List.replicate n c0)).length = n := by unfold sv; rw [List.length_map, List.length_replicate]
          rw [List.length_replicate, this]
          show n + n * 0 ≤ 16777216
          omega
        rw [join1]
        refine ⟨_, rfl, t, 9, rfl, s7.at1, by decide, fun H8 r8 s8 hr8 => ⟨_, _, rfl, rfl, by show 2 ≤ sizeLine; decide, fun g hg => ?_⟩⟩
        have hca8 := s8.lst hca7
        have sg := same_new (o := .tup [V.str (S (List.replicate n c0)), V.int (1 + (r8 : Int))]) hg
        have hus5 : us.length ≤ 5 := by rw [hP.length]; exact hcl
        refine ⟨a, us, _, rfl, rfl, sg _ _ hca8, small1000 (by omega), ?_⟩
        have hP8 := Paired.mapP hP7 fun _ _ h => CEnt.same (Same.t sg) (CEnt.same s8.tt h)
        have sT := SameT.put (o := .lst (us ++ [V.ref g])) (sg _ _ hca8)
        have hgv : (upd (upd H8 g (.tup [V.str (S (List.replicate n c0)), V.int (1 + (r8 : Int))])) a (.lst (us ++ [V.ref g]))) g = some (.tup [V.str (S (List.replicate n c0)), V.int (((1 + r8 : Nat)) : Int)]) := by
          refine (sT _ _ upd_same).trans ?_
          rw [Int.natCast_add]; rfl
        refine key1 _ (us ++ [V.ref g]) (co ++ [(List.replicate n c0, 1 + r8)]) (((s7.trans s8).new hg).put hca0) upd_same (Paired.snoc ⟨g, rfl, hgv⟩ (Paired.mapP hP8 fun _ _ h => h.same sT)) (by rw [List.length_append, List.length_singleton]; omega) fun e1 he1 => ?_
        · rcases List.mem_append.mp he1 with z | z
          · exact hcoM e1 z
          · rw [List.mem_singleton.mp z]
            exact ⟨fun c hc => by rw [List.eq_of_mem_replicate hc]; exact List.mem_of_getElem? hc0, by rw [List.length_replicate]; exact hn96⟩
end
end RJ
end

section
set_option maxRecDepth 100000
set_option maxHeartbeats 4000000
namespace RJ
open PySem PySem.Spec PyProof.Rows L2
theorem all_mk {l : PySem.W.OpenLaw} {w : World} {K : PySem.W.Frag} {h : Heap} {mg : Str → Option Value} {fa C CL f0 f1 f2 f3 f4 f5 f6 f7 f8 f9 f10 f11 f12 f13 f14 f15 f16 f17 f18 f19 f20 f21 f22 f23 f24 f25 f26 f27 f28 f29 f30 f31 f32 f33 f34 f35 f36 f37 f38 f39 f40 f41 f42 f43 f44 f45 : Addr} (X : K.In h) (G : h.Ns mainGlobals mg) (hfa : mg "law" = some (.ref fa))
    {od0 an0 od1 an1 od2 an2 od3 an3 od4 an4 od5 an5 od6 an6 od7 an7 od8 an8 od9 an9 od10 an10 od11 an11 od12 an12 od13 an13 od14 an14 od15 an15 od16 an16 od17 an17 od18 an18 od19 an19 od20 an20 od21 an21 od22 an22 od23 an23 od24 an24 od25 an25 od26 an26 od27 an27 od28 an28 od29 an29 od30 an30 od31 an31 od32 an32 od33 an33 od34 an34 od35 an35 od36 an36 od37 an37 od38 an38 od39 an39 od40 an40 od41 an41 od42 an42 od43 an43 od44 an44 od45 an45 : Option Addr} {sl0 sl1 sl2 sl3 sl4 sl5 sl6 sl7 sl8 sl9 sl10 sl11 sl12 sl13 sl14 sl15 sl16 sl17 sl18 sl19 sl20 sl21 sl22 sl23 sl24 sl25 sl26 sl27 sl28 sl29 sl30 sl31 sl32 sl33 sl34 sl35 sl36 sl37 sl38 sl39 sl40 sl41 sl42 sl43 sl44 sl45 : Array (Option Value)} {oc0 kV0 dc0 pm0 cd0 ct0 oc1 kV1 dc1 pm1 cd1 ct1 oc2 kV2 dc2 pm2 cd2 ct2 oc3 kV3 dc3 pm3 cd3 ct3 oc4 kV4 dc4 pm4 cd4 ct4 oc5 kV5 dc5 pm5 cd5 ct5 oc6 kV6 dc6 pm6 cd6 ct6 oc7 kV7 dc7 pm7 cd7 ct7 oc8 kV8 dc8 pm8 cd8 ct8 oc9 kV9 dc9 pm9 cd9 ct9 oc10 kV10 dc10 pm10 cd10 ct10 oc11 kV11 dc11 pm11 cd11 ct11 oc12 kV12 dc12 pm12 cd12 ct12 oc13 kV13 dc13 pm13 cd13 ct13 oc14 kV14 dc14 pm14 cd14 ct14 oc15 kV15 dc15 pm15 cd15 ct15 oc16 kV16 dc16 pm16 cd16 ct16 oc17 kV17 dc17 pm17 cd17 ct17 oc18 kV18 dc18 pm18 cd18 ct18 oc19 kV19 dc19 pm19 cd19 ct19 oc20 kV20 dc20 pm20 cd20 ct20 oc21 kV21 dc21 pm21 ct21 oc22 kV22 dc22 pm22 cd22 ct22 oc23 kV23 dc23 pm23 cd23 ct23 oc24 kV24 dc24 pm24 cd24 ct24 oc25 kV25 dc25 pm25 cd25 ct25 oc26 kV26 dc26 pm26 cd26 ct26 oc27 kV27 dc27 pm27 cd27 ct27 oc28 kV28 dc28 pm28 cd28 ct28 oc29 kV29 dc29 pm29 cd29 ct29 oc30 kV30 dc30 pm30 cd30 ct30 oc31 kV31 dc31 pm31 cd31 ct31 oc32 kV32 dc32 pm32 cd32 ct32 oc33 kV33 dc33 pm33 cd33 ct33 oc34 kV34 dc34 pm34 cd34 ct34 oc35 kV35 dc35 pm35 cd35 ct35 oc36 kV36 dc36 pm36 cd36 ct36 oc37 kV37 dc37 pm37 cd37 ct37 oc38 kV38 dc38 pm38 cd38 ct38 oc39 kV39 dc39 pm39 cd39 ct39 oc40 kV40 dc40 pm40 cd40 ct40 oc41 kV41 dc41 pm41 cd41 ct41 oc42 kV42 dc42 pm42 cd42 ct42 oc43 kV43 dc43 pm43 cd43 ct43 oc44 kV44 dc44 pm44 cd44 ct44 oc45 kV45 dc45 pm45 cd45 ct45 : Value} {tk0 tk1 tk2 tk3 : Tok} {pp12 : Addr} {rest12 : List Value} {ctab Pt : Addr} {otab : Value} {odtab : Option Addr} {vtab : Array Value} {sltab : Array (Option Value)} {CInvalidAlphabet CUnknownSign CNotProper CJoinError CInvalidText FInvalidAlphabet cdaInvalidAlphabet ccInvalidAlphabet NInvalidAlphabet FUnknownSign cdaUnknownSign ccUnknownSign NUnknownSign FNotProper cdaNotProper ccNotProper NNotProper : Addr} {odInvalidAlphabet anInvalidAlphabet cddInvalidAlphabet cldInvalidAlphabet ddInvalidAlphabet odUnknownSign anUnknownSign cddUnknownSign cldUnknownSign ddUnknownSign odNotProper anNotProper cddNotProper cldNotProper ddNotProper : Option Addr} {slInvalidAlphabet ccsInvalidAlphabet cslInvalidAlphabet slUnknownSign ccsUnknownSign cslUnknownSign slNotProper ccsNotProper cslNotProper : Array (Option Value)} {vsInvalidAlphabet vsUnknownSign vsNotProper : Array Value} {ocInvalidAlphabet kVInvalidAlphabet dcInvalidAlphabet pmInvalidAlphabet ctInvalidAlphabet cclInvalidAlphabet clInvalidAlphabet ocUnknownSign kVUnknownSign dcUnknownSign pmUnknownSign ctUnknownSign cclUnknownSign clUnknownSign ocNotProper kVNotProper dcNotProper pmNotProper ctNotProper cclNotProper clNotProper : Value} {fileInvalidAlphabet nmInvalidAlphabet qInvalidAlphabet fileUnknownSign nmUnknownSign qUnknownSign fileNotProper nmNotProper qNotProper : Str} {tfInvalidAlphabet tfUnknownSign tfNotProper : Tok} {bsInvalidAlphabet bmInvalidAlphabet subInvalidAlphabet bsUnknownSign bmUnknownSign subUnknownSign bsNotProper bmNotProper subNotProper : List Value} {snInvalidAlphabet snUnknownSign snNotProper : List Str} {abInvalidAlphabet abUnknownSign abNotProper : Bool} {colInvalidAlphabet colUnknownSign colNotProper : Option Bool} {k0InvalidAlphabet k1InvalidAlphabet k2InvalidAlphabet k3InvalidAlphabet k5InvalidAlphabet k0UnknownSign k1UnknownSign k2UnknownSign k3UnknownSign k5UnknownSign k0NotProper k1NotProper k2NotProper k3NotProper k5NotProper : Option Value}
    (aC : PySem.W.nsIn K mainGlobals "Joins" = some (some (.ref C))) (aCL : PySem.W.nsIn K mainGlobals "Learner" = some (some (.ref CL))) (a0 : PySem.W.nsIn K mainGlobals "is_integer" = some (some (.ref f0))) (l0 : K.lookup f0 = some ⟨oc0, od0, .func (PySem.W.fnOf "is_integer" "is_integer" (C8.fnArgs s_is_integer) (C8.fnBody s_is_integer) (C8.fnScope s_is_integer) .none kV0 dc0 pm0 an0 cd0 ct0), sl0⟩)
    (c0 : PySem.W.codeIn K cd0 "is_integer" = true) (k0 : PySem.W.keepIn K (.ref f0) = true) (a1 : PySem.W.nsIn K mainGlobals "is_number_below" = some (some (.ref f1))) (l1 : K.lookup f1 = some ⟨oc1, od1, .func (PySem.W.fnOf "is_number_below" "is_number_below" (C8.fnArgs s_is_number_below) (C8.fnBody s_is_number_below) (C8.fnScope s_is_number_below) .none kV1 dc1 pm1 an1 cd1 ct1), sl1⟩)
    (c1 : PySem.W.codeIn K cd1 "is_number_below" = true) (k1 : PySem.W.keepIn K (.ref f1) = true) (a2 : PySem.W.nsIn K mainGlobals "is_sign" = some (some (.ref f2))) (l2 : K.lookup f2 = some ⟨oc2, od2, .func (PySem.W.fnOf "is_sign" "is_sign" (C8.fnArgs s_is_sign) (C8.fnBody s_is_sign) (C8.fnScope s_is_sign) .none kV2 dc2 pm2 an2 cd2 ct2), sl2⟩)
    (c2 : PySem.W.codeIn K cd2 "is_sign" = true) (k2 : PySem.W.keepIn K (.ref f2) = true) (a3 : PySem.W.nsIn K mainGlobals "is_alphabet" = some (some (.ref f3))) (l3 : K.lookup f3 = some ⟨oc3, od3, .func (PySem.W.fnOf "is_alphabet" "is_alphabet" (C8.fnArgs s_is_alphabet) (C8.fnBody s_is_alphabet) (C8.fnScope s_is_alphabet) .none kV3 dc3 pm3 an3 cd3 ct3), sl3⟩)
    (c3 : PySem.W.codeIn K cd3 "is_alphabet" = true) (k3 : PySem.W.keepIn K (.ref f3) = true) (a4 : PySem.W.nsIn K mainGlobals "check_alphabet" = some (some (.ref f4))) (l4 : K.lookup f4 = some ⟨oc4, od4, .func (PySem.W.fnOf "check_alphabet" "check_alphabet" (C8.fnArgs s_check_alphabet) (C8.fnBody s_check_alphabet) (C8.fnScope s_check_alphabet) .none kV4 dc4 pm4 an4 cd4 ct4), sl4⟩)
    (c4 : PySem.W.codeIn K cd4 "check_alphabet" = true) (k4 : PySem.W.keepIn K (.ref f4) = true) (a5 : PySem.W.nsIn K mainGlobals "check_number" = some (some (.ref f5))) (l5 : K.lookup f5 = some ⟨oc5, od5, .func (PySem.W.fnOf "check_number" "check_number" (C8.fnArgs s_check_number) (C8.fnBody s_check_number) (C8.fnScope s_check_number) .none kV5 dc5 pm5 an5 cd5 ct5), sl5⟩)
    (c5 : PySem.W.codeIn K cd5 "check_number" = true) (k5 : PySem.W.keepIn K (.ref f5) = true) (a6 : PySem.W.nsIn K mainGlobals "letter_row" = some (some (.ref f6))) (l6 : K.lookup f6 = some ⟨oc6, od6, .func (PySem.W.fnOf "letter_row" "letter_row" (C8.fnArgs s_letter_row) (C8.fnBody s_letter_row) (C8.fnScope s_letter_row) .none kV6 dc6 pm6 an6 cd6 ct6), sl6⟩)
    (c6 : PySem.W.codeIn K cd6 "letter_row" = true) (k6 : PySem.W.keepIn K (.ref f6) = true) (a7 : PySem.W.nsIn K mainGlobals "join_neighbors" = some (some (.ref f7))) (l7 : K.lookup f7 = some ⟨oc7, od7, .func (PySem.W.fnOf "join_neighbors" "join_neighbors" (C8.fnArgs s_join_neighbors) (C8.fnBody s_join_neighbors) (C8.fnScope s_join_neighbors) .none kV7 dc7 pm7 an7 cd7 ct7), sl7⟩)
    (c7 : PySem.W.codeIn K cd7 "join_neighbors" = true) (k7 : PySem.W.keepIn K (.ref f7) = true) (a8 : PySem.W.nsIn K mainGlobals "lowest_join" = some (some (.ref f8))) (l8 : K.lookup f8 = some ⟨oc8, od8, .func (PySem.W.fnOf "lowest_join" "lowest_join" (C8.fnArgs s_lowest_join) (C8.fnBody s_lowest_join) (C8.fnScope s_lowest_join) .none kV8 dc8 pm8 an8 cd8 ct8), sl8⟩)
    (c8 : PySem.W.codeIn K cd8 "lowest_join" = true) (k8 : PySem.W.keepIn K (.ref f8) = true) (a9 : PySem.W.nsIn K mainGlobals "join_down" = some (some (.ref f9))) (l9 : K.lookup f9 = some ⟨oc9, od9, .func (PySem.W.fnOf "join_down" "join_down" (C8.fnArgs s_join_down) (C8.fnBody s_join_down) (C8.fnScope s_join_down) .none kV9 dc9 pm9 an9 cd9 ct9), sl9⟩)
    (c9 : PySem.W.codeIn K cd9 "join_down" = true) (k9 : PySem.W.keepIn K (.ref f9) = true) (a10 : PySem.W.nsIn K mainGlobals "may_follow" = some (some (.ref f10))) (l10 : K.lookup f10 = some ⟨oc10, od10, .func (PySem.W.fnOf "may_follow" "may_follow" (C8.fnArgs s_may_follow) (C8.fnBody s_may_follow) (C8.fnScope s_may_follow) .none kV10 dc10 pm10 an10 cd10 ct10), sl10⟩)
    (c10 : PySem.W.codeIn K cd10 "may_follow" = true) (k10 : PySem.W.keepIn K (.ref f10) = true) (a11 : PySem.W.findIn K (.ref C) "__init__" = some (some (.ref f11))) (i11 : PySem.W.isFn K (.ref f11) = true)
    (l11 : K.lookup f11 = some ⟨oc11, od11, .func (PySem.W.fnOf "__init__" "Joins.__init__" (C8.fnArgs s_Joins___init__) (C8.fnBody s_Joins___init__) (C8.fnScope s_Joins___init__) .none kV11 dc11 pm11 an11 cd11 ct11), sl11⟩) (c11 : PySem.W.codeIn K cd11 "Joins.__init__" = true) (k11 : PySem.W.keepIn K (.ref f11) = true) (a12 : PySem.W.findIn K (.ref C) "pieces" = some (some (.ref pp12)))
    (s12 : PySem.W.specialIn K (.ref pp12) "__get__" = some (some (.builtin "property.__get__"))) (t12 : PySem.W.takesIn K (.ref pp12) = some true) (r12 : PySem.W.recIn K pp12 "property" = some (.ref f12 :: rest12)) (l12 : K.lookup f12 = some ⟨oc12, od12, .func (PySem.W.fnOf "pieces" "Joins.pieces" (C8.fnArgs s_Joins_pieces) (C8.fnBody s_Joins_pieces) (C8.fnScope s_Joins_pieces) .none kV12 dc12 pm12 an12 cd12 ct12), sl12⟩)
    (c12 : PySem.W.codeIn K cd12 "Joins.pieces" = true) (k12 : PySem.W.keepIn K (.ref f12) = true) (a13 : PySem.W.findIn K (.ref C) "__len__" = some (some (.ref f13))) (i13 : PySem.W.isFn K (.ref f13) = true)
    (l13 : K.lookup f13 = some ⟨oc13, od13, .func (PySem.W.fnOf "__len__" "Joins.__len__" (C8.fnArgs s_Joins___len__) (C8.fnBody s_Joins___len__) (C8.fnScope s_Joins___len__) .none kV13 dc13 pm13 an13 cd13 ct13), sl13⟩) (c13 : PySem.W.codeIn K cd13 "Joins.__len__" = true) (k13 : PySem.W.keepIn K (.ref f13) = true) (a14 : PySem.W.findIn K (.ref C) "__iter__" = some (some (.ref f14)))
    (i14 : PySem.W.isFn K (.ref f14) = true) (l14 : K.lookup f14 = some ⟨oc14, od14, .func (PySem.W.fnOf "__iter__" "Joins.__iter__" (C8.fnArgs s_Joins___iter__) (C8.fnBody s_Joins___iter__) (C8.fnScope s_Joins___iter__) .none kV14 dc14 pm14 an14 cd14 ct14), sl14⟩) (c14 : PySem.W.codeIn K cd14 "Joins.__iter__" = true) (k14 : PySem.W.keepIn K (.ref f14) = true)
    (a15 : PySem.W.findIn K (.ref C) "text_of" = some (some (.ref f15))) (i15 : PySem.W.isFn K (.ref f15) = true) (l15 : K.lookup f15 = some ⟨oc15, od15, .func (PySem.W.fnOf "text_of" "Joins.text_of" (C8.fnArgs s_Joins_text_of) (C8.fnBody s_Joins_text_of) (C8.fnScope s_Joins_text_of) .none kV15 dc15 pm15 an15 cd15 ct15), sl15⟩) (c15 : PySem.W.codeIn K cd15 "Joins.text_of" = true)
    (k15 : PySem.W.keepIn K (.ref f15) = true) (a16 : PySem.W.findIn K (.ref C) "has_piece" = some (some (.ref f16))) (i16 : PySem.W.isFn K (.ref f16) = true) (l16 : K.lookup f16 = some ⟨oc16, od16, .func (PySem.W.fnOf "has_piece" "Joins.has_piece" (C8.fnArgs s_Joins_has_piece) (C8.fnBody s_Joins_has_piece) (C8.fnScope s_Joins_has_piece) .none kV16 dc16 pm16 an16 cd16 ct16), sl16⟩)
    (c16 : PySem.W.codeIn K cd16 "Joins.has_piece" = true) (k16 : PySem.W.keepIn K (.ref f16) = true) (a17 : PySem.W.findIn K (.ref C) "check_piece" = some (some (.ref f17))) (i17 : PySem.W.isFn K (.ref f17) = true)
    (l17 : K.lookup f17 = some ⟨oc17, od17, .func (PySem.W.fnOf "check_piece" "Joins.check_piece" (C8.fnArgs s_Joins_check_piece) (C8.fnBody s_Joins_check_piece) (C8.fnScope s_Joins_check_piece) .none kV17 dc17 pm17 an17 cd17 ct17), sl17⟩) (c17 : PySem.W.codeIn K cd17 "Joins.check_piece" = true) (k17 : PySem.W.keepIn K (.ref f17) = true) (a18 : PySem.W.findIn K (.ref C) "join_row" = some (some (.ref f18)))
    (i18 : PySem.W.isFn K (.ref f18) = true) (l18 : K.lookup f18 = some ⟨oc18, od18, .func (PySem.W.fnOf "join_row" "Joins.join_row" (C8.fnArgs s_Joins_join_row) (C8.fnBody s_Joins_join_row) (C8.fnScope s_Joins_join_row) .none kV18 dc18 pm18 an18 cd18 ct18), sl18⟩) (c18 : PySem.W.codeIn K cd18 "Joins.join_row" = true) (k18 : PySem.W.keepIn K (.ref f18) = true)
    (a19 : PySem.W.nsIn K mainGlobals "letters_of" = some (some (.ref f19))) (l19 : K.lookup f19 = some ⟨oc19, od19, .func (PySem.W.fnOf "letters_of" "letters_of" (C8.fnArgs s_letters_of) (C8.fnBody s_letters_of) (C8.fnScope s_letters_of) .none kV19 dc19 pm19 an19 cd19 ct19), sl19⟩) (c19 : PySem.W.codeIn K cd19 "letters_of" = true) (k19 : PySem.W.keepIn K (.ref f19) = true)
    (a20 : PySem.W.nsIn K mainGlobals "cut" = some (some (.ref f20))) (l20 : K.lookup f20 = some ⟨oc20, od20, .func (PySem.W.fnOf "cut" "cut" (C8.fnArgs s_cut) (C8.fnBody s_cut) (C8.fnScope s_cut) .none kV20 dc20 pm20 an20 cd20 ct20), sl20⟩) (c20 : PySem.W.codeIn K cd20 "cut" = true) (k20 : PySem.W.keepIn K (.ref f20) = true)
    (a21 : PySem.W.nsIn K mainGlobals "totals_of" = some (some (.ref f21))) (l21 : K.lookup f21 = some ⟨oc21, od21, .func (PySem.W.fnOf "totals_of" "totals_of" (C8.fnArgs s_totals_of) (C8.fnBody s_totals_of) (C8.fnScope s_totals_of) .none kV21 dc21 pm21 an21 (.ref ctab) ct21), sl21⟩) (c21 : PySem.W.codeIn K (.ref ctab) "totals_of" = true) (ktab : K.lookup ctab = some ⟨otab, odtab, .fields vtab, sltab⟩)
    (vtab11 : vtab[11]? = some (.ref Pt)) (k21 : PySem.W.keepIn K (.ref f21) = true) (a22 : PySem.W.nsIn K mainGlobals "counts_of" = some (some (.ref f22))) (l22 : K.lookup f22 = some ⟨oc22, od22, .func (PySem.W.fnOf "counts_of" "counts_of" (C8.fnArgs s_counts_of) (C8.fnBody s_counts_of) (C8.fnScope s_counts_of) .none kV22 dc22 pm22 an22 cd22 ct22), sl22⟩)
    (c22 : PySem.W.codeIn K cd22 "counts_of" = true) (k22 : PySem.W.keepIn K (.ref f22) = true) (a23 : PySem.W.nsIn K mainGlobals "next_pair" = some (some (.ref f23))) (l23 : K.lookup f23 = some ⟨oc23, od23, .func (PySem.W.fnOf "next_pair" "next_pair" (C8.fnArgs s_next_pair) (C8.fnBody s_next_pair) (C8.fnScope s_next_pair) .none kV23 dc23 pm23 an23 cd23 ct23), sl23⟩)
    (c23 : PySem.W.codeIn K cd23 "next_pair" = true) (k23 : PySem.W.keepIn K (.ref f23) = true) (a24 : PySem.W.nsIn K mainGlobals "learn" = some (some (.ref f24))) (l24 : K.lookup f24 = some ⟨oc24, od24, .func (PySem.W.fnOf "learn" "learn" (C8.fnArgs s_learn) (C8.fnBody s_learn) (C8.fnScope s_learn) .none kV24 dc24 pm24 an24 cd24 ct24), sl24⟩)
    (c24 : PySem.W.codeIn K cd24 "learn" = true) (k24 : PySem.W.keepIn K (.ref f24) = true) (a25 : PySem.W.findIn K (.ref CL) "__init__" = some (some (.ref f25))) (i25 : PySem.W.isFn K (.ref f25) = true)
    (l25 : K.lookup f25 = some ⟨oc25, od25, .func (PySem.W.fnOf "__init__" "Learner.__init__" (C8.fnArgs s_Learner___init__) (C8.fnBody s_Learner___init__) (C8.fnScope s_Learner___init__) .none kV25 dc25 pm25 an25 cd25 ct25), sl25⟩) (c25 : PySem.W.codeIn K cd25 "Learner.__init__" = true) (k25 : PySem.W.keepIn K (.ref f25) = true) (a26 : PySem.W.findIn K (.ref CL) "step" = some (some (.ref f26)))
    (i26 : PySem.W.isFn K (.ref f26) = true) (l26 : K.lookup f26 = some ⟨oc26, od26, .func (PySem.W.fnOf "step" "Learner.step" (C8.fnArgs s_Learner_step) (C8.fnBody s_Learner_step) (C8.fnScope s_Learner_step) .none kV26 dc26 pm26 an26 cd26 ct26), sl26⟩) (c26 : PySem.W.codeIn K cd26 "Learner.step" = true) (k26 : PySem.W.keepIn K (.ref f26) = true)
    (a27 : PySem.W.findIn K (.ref CL) "list_so_far" = some (some (.ref f27))) (i27 : PySem.W.isFn K (.ref f27) = true) (l27 : K.lookup f27 = some ⟨oc27, od27, .func (PySem.W.fnOf "list_so_far" "Learner.list_so_far" (C8.fnArgs s_Learner_list_so_far) (C8.fnBody s_Learner_list_so_far) (C8.fnScope s_Learner_list_so_far) .none kV27 dc27 pm27 an27 cd27 ct27), sl27⟩) (c27 : PySem.W.codeIn K cd27 "Learner.list_so_far" = true)
    (k27 : PySem.W.keepIn K (.ref f27) = true) (a28 : PySem.W.findIn K (.ref CL) "totals" = some (some (.ref f28))) (i28 : PySem.W.isFn K (.ref f28) = true) (l28 : K.lookup f28 = some ⟨oc28, od28, .func (PySem.W.fnOf "totals" "Learner.totals" (C8.fnArgs s_Learner_totals) (C8.fnBody s_Learner_totals) (C8.fnScope s_Learner_totals) .none kV28 dc28 pm28 an28 cd28 ct28), sl28⟩)
    (c28 : PySem.W.codeIn K cd28 "Learner.totals" = true) (k28 : PySem.W.keepIn K (.ref f28) = true) (a29 : PySem.W.nsIn K mainGlobals "_law_mixed" = some (some (.ref f29))) (l29 : K.lookup f29 = some ⟨oc29, od29, .func (PySem.W.fnOf "_law_mixed" "_law_mixed" (C8.fnArgs s__law_mixed) (C8.fnBody s__law_mixed) (C8.fnScope s__law_mixed) .none kV29 dc29 pm29 an29 cd29 ct29), sl29⟩)
    (c29 : PySem.W.codeIn K cd29 "_law_mixed" = true) (k29 : PySem.W.keepIn K (.ref f29) = true) (a30 : PySem.W.nsIn K mainGlobals "_law_tape" = some (some (.ref f30))) (l30 : K.lookup f30 = some ⟨oc30, od30, .func (PySem.W.fnOf "_law_tape" "_law_tape" (C8.fnArgs s__law_tape) (C8.fnBody s__law_tape) (C8.fnScope s__law_tape) .none kV30 dc30 pm30 an30 cd30 ct30), sl30⟩)
    (c30 : PySem.W.codeIn K cd30 "_law_tape" = true) (k30 : PySem.W.keepIn K (.ref f30) = true) (a31 : PySem.W.nsIn K mainGlobals "_law_draw" = some (some (.ref f31))) (l31 : K.lookup f31 = some ⟨oc31, od31, .func (PySem.W.fnOf "_law_draw" "_law_draw" (C8.fnArgs s__law_draw) (C8.fnBody s__law_draw) (C8.fnScope s__law_draw) .none kV31 dc31 pm31 an31 cd31 ct31), sl31⟩)
    (c31 : PySem.W.codeIn K cd31 "_law_draw" = true) (k31 : PySem.W.keepIn K (.ref f31) = true) (a32 : PySem.W.nsIn K mainGlobals "_law_pick" = some (some (.ref f32))) (l32 : K.lookup f32 = some ⟨oc32, od32, .func (PySem.W.fnOf "_law_pick" "_law_pick" (C8.fnArgs s__law_pick) (C8.fnBody s__law_pick) (C8.fnScope s__law_pick) .none kV32 dc32 pm32 an32 cd32 ct32), sl32⟩)
    (c32 : PySem.W.codeIn K cd32 "_law_pick" = true) (k32 : PySem.W.keepIn K (.ref f32) = true) (a33 : PySem.W.nsIn K mainGlobals "_law_signs" = some (some (.ref f33))) (l33 : K.lookup f33 = some ⟨oc33, od33, .func (PySem.W.fnOf "_law_signs" "_law_signs" (C8.fnArgs s__law_signs) (C8.fnBody s__law_signs) (C8.fnScope s__law_signs) .none kV33 dc33 pm33 an33 cd33 ct33), sl33⟩)
    (c33 : PySem.W.codeIn K cd33 "_law_signs" = true) (k33 : PySem.W.keepIn K (.ref f33) = true) (a34 : PySem.W.nsIn K mainGlobals "_law_letters" = some (some (.ref f34))) (l34 : K.lookup f34 = some ⟨oc34, od34, .func (PySem.W.fnOf "_law_letters" "_law_letters" (C8.fnArgs s__law_letters) (C8.fnBody s__law_letters) (C8.fnScope s__law_letters) .none kV34 dc34 pm34 an34 cd34 ct34), sl34⟩)
    (c34 : PySem.W.codeIn K cd34 "_law_letters" = true) (k34 : PySem.W.keepIn K (.ref f34) = true) (a35 : PySem.W.nsIn K mainGlobals "_law_joined" = some (some (.ref f35))) (l35 : K.lookup f35 = some ⟨oc35, od35, .func (PySem.W.fnOf "_law_joined" "_law_joined" (C8.fnArgs s__law_joined) (C8.fnBody s__law_joined) (C8.fnScope s__law_joined) .none kV35 dc35 pm35 an35 cd35 ct35), sl35⟩)
    (c35 : PySem.W.codeIn K cd35 "_law_joined" = true) (k35 : PySem.W.keepIn K (.ref f35) = true) (a36 : PySem.W.nsIn K mainGlobals "_law_neighbors" = some (some (.ref f36))) (l36 : K.lookup f36 = some ⟨oc36, od36, .func (PySem.W.fnOf "_law_neighbors" "_law_neighbors" (C8.fnArgs s__law_neighbors) (C8.fnBody s__law_neighbors) (C8.fnScope s__law_neighbors) .none kV36 dc36 pm36 an36 cd36 ct36), sl36⟩)
    (c36 : PySem.W.codeIn K cd36 "_law_neighbors" = true) (k36 : PySem.W.keepIn K (.ref f36) = true) (a37 : PySem.W.nsIn K mainGlobals "_law_next" = some (some (.ref f37))) (l37 : K.lookup f37 = some ⟨oc37, od37, .func (PySem.W.fnOf "_law_next" "_law_next" (C8.fnArgs s__law_next) (C8.fnBody s__law_next) (C8.fnScope s__law_next) .none kV37 dc37 pm37 an37 cd37 ct37), sl37⟩)
    (c37 : PySem.W.codeIn K cd37 "_law_next" = true) (k37 : PySem.W.keepIn K (.ref f37) = true) (a38 : PySem.W.nsIn K mainGlobals "_law_add" = some (some (.ref f38))) (l38 : K.lookup f38 = some ⟨oc38, od38, .func (PySem.W.fnOf "_law_add" "_law_add" (C8.fnArgs s__law_add) (C8.fnBody s__law_add) (C8.fnScope s__law_add) .none kV38 dc38 pm38 an38 cd38 ct38), sl38⟩)
    (c38 : PySem.W.codeIn K cd38 "_law_add" = true) (k38 : PySem.W.keepIn K (.ref f38) = true) (a39 : PySem.W.nsIn K mainGlobals "_law_text" = some (some (.ref f39))) (l39 : K.lookup f39 = some ⟨oc39, od39, .func (PySem.W.fnOf "_law_text" "_law_text" (C8.fnArgs s__law_text) (C8.fnBody s__law_text) (C8.fnScope s__law_text) .none kV39 dc39 pm39 an39 cd39 ct39), sl39⟩)
    (c39 : PySem.W.codeIn K cd39 "_law_text" = true) (k39 : PySem.W.keepIn K (.ref f39) = true) (a40 : PySem.W.nsIn K mainGlobals "_law_corpus" = some (some (.ref f40))) (l40 : K.lookup f40 = some ⟨oc40, od40, .func (PySem.W.fnOf "_law_corpus" "_law_corpus" (C8.fnArgs s__law_corpus) (C8.fnBody s__law_corpus) (C8.fnScope s__law_corpus) .none kV40 dc40 pm40 an40 cd40 ct40), sl40⟩)
    (c40 : PySem.W.codeIn K cd40 "_law_corpus" = true) (k40 : PySem.W.keepIn K (.ref f40) = true) (a41 : PySem.W.nsIn K mainGlobals "_law_list_right" = some (some (.ref f41))) (l41 : K.lookup f41 = some ⟨oc41, od41, .func (PySem.W.fnOf "_law_list_right" "_law_list_right" (C8.fnArgs s__law_list_right) (C8.fnBody s__law_list_right) (C8.fnScope s__law_list_right) .none kV41 dc41 pm41 an41 cd41 ct41), sl41⟩)
    (c41 : PySem.W.codeIn K cd41 "_law_list_right" = true) (k41 : PySem.W.keepIn K (.ref f41) = true) (a42 : PySem.W.nsIn K mainGlobals "_law_same" = some (some (.ref f42))) (l42 : K.lookup f42 = some ⟨oc42, od42, .func (PySem.W.fnOf "_law_same" "_law_same" (C8.fnArgs s__law_same) (C8.fnBody s__law_same) (C8.fnScope s__law_same) .none kV42 dc42 pm42 an42 cd42 ct42), sl42⟩)
    (c42 : PySem.W.codeIn K cd42 "_law_same" = true) (k42 : PySem.W.keepIn K (.ref f42) = true) (a43 : PySem.W.nsIn K mainGlobals "_law_alphabet_refused" = some (some (.ref f43))) (l43 : K.lookup f43 = some ⟨oc43, od43, .func (PySem.W.fnOf "_law_alphabet_refused" "_law_alphabet_refused" (C8.fnArgs s__law_alphabet_refused) (C8.fnBody s__law_alphabet_refused) (C8.fnScope s__law_alphabet_refused) .none kV43 dc43 pm43 an43 cd43 ct43), sl43⟩)
    (c43 : PySem.W.codeIn K cd43 "_law_alphabet_refused" = true) (k43 : PySem.W.keepIn K (.ref f43) = true) (a44 : PySem.W.nsIn K mainGlobals "_law_sign_refused" = some (some (.ref f44))) (l44 : K.lookup f44 = some ⟨oc44, od44, .func (PySem.W.fnOf "_law_sign_refused" "_law_sign_refused" (C8.fnArgs s__law_sign_refused) (C8.fnBody s__law_sign_refused) (C8.fnScope s__law_sign_refused) .none kV44 dc44 pm44 an44 cd44 ct44), sl44⟩)
    (c44 : PySem.W.codeIn K cd44 "_law_sign_refused" = true) (k44 : PySem.W.keepIn K (.ref f44) = true) (a45 : PySem.W.nsIn K mainGlobals "law" = some (some (.ref f45))) (l45 : K.lookup f45 = some ⟨oc45, od45, .func (PySem.W.fnOf "law" "law" (C8.fnArgs s_law) (C8.fnBody s_law) (C8.fnScope s_law) .none kV45 dc45 pm45 an45 cd45 ct45), sl45⟩)
    (c45 : PySem.W.codeIn K cd45 "law" = true) (k45 : PySem.W.keepIn K (.ref f45) = true) (pgC : PySem.W.plainGet K C Str.empty = true) (hdC : PySem.W.hasDictIn K C = true)
    (poC : PySem.W.plainOver K C = true) (saC : PySem.W.findIn K (.ref C) "__setattr__" = some (some (.builtin "object.__setattr__"))) (mkC : PySem.W.makesIn K C = true) (kcC : PySem.W.keepIn K (.ref C) = true)
    (nC0 : PySem.W.findIn K (.ref C) "alphabet" = some none) (nC1 : PySem.W.findIn K (.ref C) "pairs" = some none) (nC2 : PySem.W.findIn K (.ref C) "_texts" = some none) (nC3 : PySem.W.findIn K (.ref C) "_ranks" = some none)
    (nC4 : PySem.W.findIn K (.ref C) "_pieces_by_text" = some none) (pgCL : PySem.W.plainGet K CL Str.empty = true) (hdCL : PySem.W.hasDictIn K CL = true) (poCL : PySem.W.plainOver K CL = true)
    (saCL : PySem.W.findIn K (.ref CL) "__setattr__" = some (some (.builtin "object.__setattr__"))) (mkCL : PySem.W.makesIn K CL = true) (kcCL : PySem.W.keepIn K (.ref CL) = true) (nCL0 : PySem.W.findIn K (.ref CL) "_joins" = some none)
    (nCL1 : PySem.W.findIn K (.ref CL) "_rows" = some none) (nCL2 : PySem.W.findIn K (.ref CL) "_counts" = some none) (AInvalidAlphabet : PySem.W.nsIn K mainGlobals "InvalidAlphabet" = some (some (.ref CInvalidAlphabet))) (AUnknownSign : PySem.W.nsIn K mainGlobals "UnknownSign" = some (some (.ref CUnknownSign)))
    (ANotProper : PySem.W.nsIn K mainGlobals "NotProper" = some (some (.ref CNotProper))) (AJoinError : PySem.W.nsIn K mainGlobals "JoinError" = some (some (.ref CJoinError))) (AInvalidText : PySem.W.nsIn K mainGlobals "InvalidText" = some (some (.ref CInvalidText))) (zsuper : PySem.W.nsIn K mainGlobals "super" = some none)
    (zopq : PySem.W.nsIn K PySem.cStatics "thirdparty.any" = some none) (hn0 : PySem.W.specialIn K (.builtin "object.__class__") "__get__" = some (some (.builtin "getset_descriptor.__get__"))) (ht0 : PySem.W.takesIn K (.builtin "object.__class__") = some true) (IInvalidAlphabet : PySem.W.findIn K (.ref CInvalidAlphabet) "__init__" = some (some (.ref FInvalidAlphabet)))
    (TInvalidAlphabet : PySem.W.typeIn K (.ref FInvalidAlphabet) = some (.type "function")) (LInvalidAlphabet : K.lookup FInvalidAlphabet = some ⟨ocInvalidAlphabet, odInvalidAlphabet, .func (PySem.W.ksFn "__init__" "InvalidAlphabet.__init__" (C8.fnArgs s_InvalidAlphabet___init__) (C8.fnBody s_InvalidAlphabet___init__) (C8.fnScope s_InvalidAlphabet___init__) .none kVInvalidAlphabet dcInvalidAlphabet pmInvalidAlphabet anInvalidAlphabet (.ref cdaInvalidAlphabet) ctInvalidAlphabet ccInvalidAlphabet), slInvalidAlphabet⟩) (DInvalidAlphabet : PySem.W.codeIn K (.ref cdaInvalidAlphabet) "InvalidAlphabet.__init__" = true) (KInvalidAlphabet : K.lookup cdaInvalidAlphabet = some ⟨cclInvalidAlphabet, cddInvalidAlphabet, .fields vsInvalidAlphabet, ccsInvalidAlphabet⟩)
    (VInvalidAlphabet : vsInvalidAlphabet[2]? = some (.str fileInvalidAlphabet tfInvalidAlphabet)) (QInvalidAlphabet : ((l.prog.main.file : Str) == fileInvalidAlphabet) = true) (JInvalidAlphabet : K.lookup ccInvalidAlphabet = some ⟨clInvalidAlphabet, cldInvalidAlphabet, .cell (some (.ref CInvalidAlphabet)), cslInvalidAlphabet⟩) (XInvalidAlphabet : K.lookup CInvalidAlphabet = some (excClassObj nmInvalidAlphabet qInvalidAlphabet CInvalidAlphabet NInvalidAlphabet bsInvalidAlphabet bmInvalidAlphabet true snInvalidAlphabet subInvalidAlphabet abInvalidAlphabet colInvalidAlphabet ddInvalidAlphabet k0InvalidAlphabet k1InvalidAlphabet k2InvalidAlphabet k3InvalidAlphabet k5InvalidAlphabet "ValueError.__new__"))
    (RInvalidAlphabet : PySem.HandSPX.refsVE bmInvalidAlphabet = true) (aInvalidAlphabet : PySem.W.findIn K (.ref CInvalidAlphabet) "__setattr__" = some (some (.builtin "object.__setattr__"))) (bInvalidAlphabet : PySem.W.subIn K (.ref CInvalidAlphabet) (.type "BaseException") = some true) (cInvalidAlphabet : PySem.W.typeIn K (.ref CInvalidAlphabet) = some (.type "type"))
    (dInvalidAlphabet : PySem.W.keepIn K (.ref CInvalidAlphabet) = true) (eInvalidAlphabet : PySem.W.ks_superIn K CInvalidAlphabet CInvalidAlphabet "__init__" = some (some (.builtin "ValueError.__init__"))) (fInvalidAlphabet : PySem.W.subIn K (.ref CInvalidAlphabet) (.type "ValueError") = some true) (gInvalidAlphabet : PySem.W.mroIn K CInvalidAlphabet (.ref CInvalidAlphabet) = some true)
    (hInvalidAlphabet : PySem.W.findIn K (.ref CInvalidAlphabet) "__getattribute__" = some (some (.builtin "BaseException.__getattribute__"))) (iInvalidAlphabet : PySem.W.findIn K (.ref CInvalidAlphabet) "__getattr__" = some none) (jInvalidAlphabet : PySem.W.findIn K (.ref CInvalidAlphabet) "__class__" = some (some (.builtin "object.__class__"))) (kInvalidAlphabet : PySem.W.mroIn K CInvalidAlphabet (.type "object") = some true)
    (lInvalidAlphabet : PySem.W.hasDictIn K CInvalidAlphabet = true) (nInvalidAlphabet_alphabet : PySem.W.findIn K (.ref CInvalidAlphabet) "alphabet" = some none) (IUnknownSign : PySem.W.findIn K (.ref CUnknownSign) "__init__" = some (some (.ref FUnknownSign))) (TUnknownSign : PySem.W.typeIn K (.ref FUnknownSign) = some (.type "function"))
    (LUnknownSign : K.lookup FUnknownSign = some ⟨ocUnknownSign, odUnknownSign, .func (PySem.W.ksFn "__init__" "UnknownSign.__init__" (C8.fnArgs s_UnknownSign___init__) (C8.fnBody s_UnknownSign___init__) (C8.fnScope s_UnknownSign___init__) .none kVUnknownSign dcUnknownSign pmUnknownSign anUnknownSign (.ref cdaUnknownSign) ctUnknownSign ccUnknownSign), slUnknownSign⟩) (DUnknownSign : PySem.W.codeIn K (.ref cdaUnknownSign) "UnknownSign.__init__" = true) (KUnknownSign : K.lookup cdaUnknownSign = some ⟨cclUnknownSign, cddUnknownSign, .fields vsUnknownSign, ccsUnknownSign⟩) (VUnknownSign : vsUnknownSign[2]? = some (.str fileUnknownSign tfUnknownSign))
    (QUnknownSign : ((l.prog.main.file : Str) == fileUnknownSign) = true) (JUnknownSign : K.lookup ccUnknownSign = some ⟨clUnknownSign, cldUnknownSign, .cell (some (.ref CUnknownSign)), cslUnknownSign⟩) (XUnknownSign : K.lookup CUnknownSign = some (excClassObj nmUnknownSign qUnknownSign CUnknownSign NUnknownSign bsUnknownSign bmUnknownSign true snUnknownSign subUnknownSign abUnknownSign colUnknownSign ddUnknownSign k0UnknownSign k1UnknownSign k2UnknownSign k3UnknownSign k5UnknownSign "ValueError.__new__")) (RUnknownSign : PySem.HandSPX.refsVE bmUnknownSign = true)
    (aUnknownSign : PySem.W.findIn K (.ref CUnknownSign) "__setattr__" = some (some (.builtin "object.__setattr__"))) (bUnknownSign : PySem.W.subIn K (.ref CUnknownSign) (.type "BaseException") = some true) (cUnknownSign : PySem.W.typeIn K (.ref CUnknownSign) = some (.type "type")) (dUnknownSign : PySem.W.keepIn K (.ref CUnknownSign) = true)
    (eUnknownSign : PySem.W.ks_superIn K CUnknownSign CUnknownSign "__init__" = some (some (.builtin "ValueError.__init__"))) (fUnknownSign : PySem.W.subIn K (.ref CUnknownSign) (.type "ValueError") = some true) (gUnknownSign : PySem.W.mroIn K CUnknownSign (.ref CUnknownSign) = some true) (hUnknownSign : PySem.W.findIn K (.ref CUnknownSign) "__getattribute__" = some (some (.builtin "BaseException.__getattribute__")))
    (iUnknownSign : PySem.W.findIn K (.ref CUnknownSign) "__getattr__" = some none) (jUnknownSign : PySem.W.findIn K (.ref CUnknownSign) "__class__" = some (some (.builtin "object.__class__"))) (kUnknownSign : PySem.W.mroIn K CUnknownSign (.type "object") = some true) (lUnknownSign : PySem.W.hasDictIn K CUnknownSign = true)
    (nUnknownSign_sign : PySem.W.findIn K (.ref CUnknownSign) "sign" = some none) (nUnknownSign_at : PySem.W.findIn K (.ref CUnknownSign) "at" = some none) (INotProper : PySem.W.findIn K (.ref CNotProper) "__init__" = some (some (.ref FNotProper))) (TNotProper : PySem.W.typeIn K (.ref FNotProper) = some (.type "function"))
    (LNotProper : K.lookup FNotProper = some ⟨ocNotProper, odNotProper, .func (PySem.W.ksFn "__init__" "NotProper.__init__" (C8.fnArgs s_NotProper___init__) (C8.fnBody s_NotProper___init__) (C8.fnScope s_NotProper___init__) .none kVNotProper dcNotProper pmNotProper anNotProper (.ref cdaNotProper) ctNotProper ccNotProper), slNotProper⟩) (DNotProper : PySem.W.codeIn K (.ref cdaNotProper) "NotProper.__init__" = true) (KNotProper : K.lookup cdaNotProper = some ⟨cclNotProper, cddNotProper, .fields vsNotProper, ccsNotProper⟩) (VNotProper : vsNotProper[2]? = some (.str fileNotProper tfNotProper))
    (QNotProper : ((l.prog.main.file : Str) == fileNotProper) = true) (JNotProper : K.lookup ccNotProper = some ⟨clNotProper, cldNotProper, .cell (some (.ref CNotProper)), cslNotProper⟩) (XNotProper : K.lookup CNotProper = some (excClassObj nmNotProper qNotProper CNotProper NNotProper bsNotProper bmNotProper true snNotProper subNotProper abNotProper colNotProper ddNotProper k0NotProper k1NotProper k2NotProper k3NotProper k5NotProper "ValueError.__new__")) (RNotProper : PySem.HandSPX.refsVE bmNotProper = true)
    (aNotProper : PySem.W.findIn K (.ref CNotProper) "__setattr__" = some (some (.builtin "object.__setattr__"))) (bNotProper : PySem.W.subIn K (.ref CNotProper) (.type "BaseException") = some true) (cNotProper : PySem.W.typeIn K (.ref CNotProper) = some (.type "type")) (dNotProper : PySem.W.keepIn K (.ref CNotProper) = true)
    (eNotProper : PySem.W.ks_superIn K CNotProper CNotProper "__init__" = some (some (.builtin "ValueError.__init__"))) (fNotProper : PySem.W.subIn K (.ref CNotProper) (.type "ValueError") = some true) (gNotProper : PySem.W.mroIn K CNotProper (.ref CNotProper) = some true) (hNotProper : PySem.W.findIn K (.ref CNotProper) "__getattribute__" = some (some (.builtin "BaseException.__getattribute__")))
    (iNotProper : PySem.W.findIn K (.ref CNotProper) "__getattr__" = some none) (jNotProper : PySem.W.findIn K (.ref CNotProper) "__class__" = some (some (.builtin "object.__class__"))) (kNotProper : PySem.W.mroIn K CNotProper (.type "object") = some true) (lNotProper : PySem.W.hasDictIn K CNotProper = true)
    (nNotProper_rank : PySem.W.findIn K (.ref CNotProper) "rank" = some none) (mInvalidAlphabetJoinError : PySem.W.subIn K (.ref CInvalidAlphabet) (.ref CJoinError) = some true) (mUnknownSignJoinError : PySem.W.subIn K (.ref CUnknownSign) (.ref CJoinError) = some true) (oInvalidAlphabetInvalidAlphabet : PySem.W.kitOne K (.ref CInvalidAlphabet) (.ref CInvalidAlphabet) = some true)
    (oUnknownSignUnknownSign : PySem.W.kitOne K (.ref CUnknownSign) (.ref CUnknownSign) = some true) (oInvalidAlphabetUnknownSign : PySem.W.kitOne K (.ref CInvalidAlphabet) (.ref CUnknownSign) = some false) (oInvalidAlphabetValueError : PySem.W.kitOne K (.ref CInvalidAlphabet) (.type "ValueError") = some true) (oUnknownSignValueError : PySem.W.kitOne K (.ref CUnknownSign) (.type "ValueError") = some true)
    (oAnyUnknownSign : PySem.W.kitAny K (.ref CUnknownSign) [.ref CInvalidAlphabet, .ref CInvalidText] = some false) (pJoinError : PySem.W.subIn K (.ref CJoinError) (.type "BaseException") = some true) (qJoinError : PySem.W.hasDictIn K CJoinError = true) (rJoinError : PySem.W.typeIn K (.ref CJoinError) = some (.type "type"))
    (htop : (l.prog.main.scope.names.lookup ("super" : Str)).isSome = false) (z0 : PySem.W.nsIn K mainGlobals "isinstance" = some none) (z1 : PySem.W.nsIn K mainGlobals "len" = some none) (z2 : PySem.W.nsIn K mainGlobals "min" = some none)
    (z3 : PySem.W.nsIn K mainGlobals "all" = some none) (z4 : PySem.W.nsIn K mainGlobals "int" = some none) (z5 : PySem.W.nsIn K mainGlobals "bool" = some none) (z6 : PySem.W.nsIn K mainGlobals "str" = some none)
    (z7 : PySem.W.nsIn K mainGlobals "tuple" = some none) (z8 : PySem.W.nsIn K mainGlobals "list" = some none) (z9 : PySem.W.nsIn K mainGlobals "zip" = some none) (z10 : PySem.W.nsIn K mainGlobals "enumerate" = some none)
    (z11 : PySem.W.nsIn K mainGlobals "range" = some none) (z12 : PySem.W.nsIn K mainGlobals "sorted" = some none) (z13 : PySem.W.nsIn K mainGlobals "ValueError" = some none) (z14 : PySem.W.nsIn K mainGlobals "iter" = some none)
    (v0 : PySem.W.nsIn K mainGlobals "MOST_LETTERS" = some (some (.int 30 tk0))) (v1 : PySem.W.nsIn K mainGlobals "MOST_JOINS" = some (some (.int 60 tk1))) (v2 : PySem.W.nsIn K mainGlobals "MOST_SIGNS_OF_PIECE" = some (some (.int 40 tk2))) (v3 : PySem.W.nsIn K mainGlobals "LOWEST_TOTAL" = some (some (.int 2 tk3))) :
    ∃ fd : FuncData, (∀ (s : Shared) (v : Value), BindsTo s fd ⟨[v], []⟩ [("script", v)]) ∧ ∀ base : Heap, K.In base → base.Ns mainGlobals mg → LamX.TabB base mg ctab Pt → FnOk l.prog w K mg base C8.CX0 9 fa fd ["script"] (sp_law K Pt) := by
  have e := hfa.symm.trans (PySem.W.mg_of X G a45)
  cases e
  have T : Txt K mg := ⟨PySem.W.mg_none_of X G z0, PySem.W.mg_none_of X G z1, PySem.W.mg_none_of X G z2, PySem.W.mg_none_of X G z3, PySem.W.mg_none_of X G z4, PySem.W.mg_none_of X G z5, PySem.W.mg_none_of X G z6, PySem.W.mg_none_of X G z7, PySem.W.mg_none_of X G z8, PySem.W.mg_none_of X G z9, PySem.W.mg_none_of X G z10, PySem.W.mg_none_of X G z11, PySem.W.mg_none_of X G z12, PySem.W.mg_none_of X G z13, PySem.W.mg_none_of X G z14, ⟨_, PySem.W.mg_of X G v0, ⟨_, rfl⟩⟩, ⟨_, PySem.W.mg_of X G v1, ⟨_, rfl⟩⟩, ⟨_, PySem.W.mg_of X G v2, ⟨_, rfl⟩⟩, ⟨_, PySem.W.mg_of X G v3, ⟨_, rfl⟩⟩⟩
  have J : JTxt K C := ⟨⟨pgC, hdC, poC, saC⟩, nC0, nC1, nC2, nC3, nC4⟩
  have JL : LTxt K CL := ⟨⟨pgCL, hdCL, poCL, saCL⟩, nCL0, nCL1, nCL2⟩
  have F0 : C8.Fun K "is_integer" "is_integer" s_is_integer f0 _ := ⟨⟨_, _, _, _, _, _, _, _, _, _, rfl, l0, c0⟩⟩
  have b0 := F0.binds rfl (ps := ["value"]) fun _ _ _ _ _ _ us hl => match us, hl with | [_], _ => rfl
  have F1 : C8.Fun K "is_number_below" "is_number_below" s_is_number_below f1 _ := ⟨⟨_, _, _, _, _, _, _, _, _, _, rfl, l1, c1⟩⟩
  have b1 := F1.binds rfl (ps := ["value", "end"]) fun _ _ _ _ _ _ us hl => match us, hl with | [_, _], _ => rfl
  have F2 : C8.Fun K "is_sign" "is_sign" s_is_sign f2 _ := ⟨⟨_, _, _, _, _, _, _, _, _, _, rfl, l2, c2⟩⟩
  have b2 := F2.binds rfl (ps := ["sign"]) fun _ _ _ _ _ _ us hl => match us, hl with | [_], _ => rfl
  have F3 : C8.Fun K "is_alphabet" "is_alphabet" s_is_alphabet f3 _ := ⟨⟨_, _, _, _, _, _, _, _, _, _, rfl, l3, c3⟩⟩
  have b3 := F3.binds rfl (ps := ["text"]) fun _ _ _ _ _ _ us hl => match us, hl with | [_], _ => rfl
  have F4 : C8.Fun K "check_alphabet" "check_alphabet" s_check_alphabet f4 _ := ⟨⟨_, _, _, _, _, _, _, _, _, _, rfl, l4, c4⟩⟩
  have b4 := F4.binds rfl (ps := ["text"]) fun _ _ _ _ _ _ us hl => match us, hl with | [_], _ => rfl
  have F5 : C8.Fun K "check_number" "check_number" s_check_number f5 _ := ⟨⟨_, _, _, _, _, _, _, _, _, _, rfl, l5, c5⟩⟩
  have b5 := F5.binds rfl (ps := ["number", "end"]) fun _ _ _ _ _ _ us hl => match us, hl with | [_, _], _ => rfl
  have F6 : C8.Fun K "letter_row" "letter_row" s_letter_row f6 _ := ⟨⟨_, _, _, _, _, _, _, _, _, _, rfl, l6, c6⟩⟩
  have b6 := F6.binds rfl (ps := ["alphabet", "text"]) fun _ _ _ _ _ _ us hl => match us, hl with | [_, _], _ => rfl
  have F7 : C8.Fun K "join_neighbors" "join_neighbors" s_join_neighbors f7 _ := ⟨⟨_, _, _, _, _, _, _, _, _, _, rfl, l7, c7⟩⟩
  have b7 := F7.binds rfl (ps := ["row", "pair", "piece"]) fun _ _ _ _ _ _ us hl => match us, hl with | [_, _, _], _ => rfl
  have F8 : C8.Fun K "lowest_join" "lowest_join" s_lowest_join f8 _ := ⟨⟨_, _, _, _, _, _, _, _, _, _, rfl, l8, c8⟩⟩
  have b8 := F8.binds rfl (ps := ["ranks", "row"]) fun _ _ _ _ _ _ us hl => match us, hl with | [_, _], _ => rfl
  have F9 : C8.Fun K "join_down" "join_down" s_join_down f9 _ := ⟨⟨_, _, _, _, _, _, _, _, _, _, rfl, l9, c9⟩⟩
  have b9 := F9.binds rfl (ps := ["ranks", "letters", "row"]) fun _ _ _ _ _ _ us hl => match us, hl with | [_, _, _], _ => rfl
  have F10 : C8.Fun K "may_follow" "may_follow" s_may_follow f10 _ := ⟨⟨_, _, _, _, _, _, _, _, _, _, rfl, l10, c10⟩⟩
  have b10 := F10.binds rfl (ps := ["alphabet", "texts", "ranks", "pair"]) fun _ _ _ _ _ _ us hl => match us, hl with | [_, _, _, _], _ => rfl
  have F11 : C8.Fun K "__init__" "Joins.__init__" s_Joins___init__ f11 _ := ⟨⟨_, _, _, _, _, _, _, _, _, _, rfl, l11, c11⟩⟩
  have b11 := F11.binds rfl (ps := ["self", "alphabet", "pairs"]) fun _ _ _ _ _ _ us hl => match us, hl with | [_, _, _], _ => rfl
  have F12 : C8.Fun K "pieces" "Joins.pieces" s_Joins_pieces f12 _ := ⟨⟨_, _, _, _, _, _, _, _, _, _, rfl, l12, c12⟩⟩
  have b12 := F12.binds rfl (ps := ["self"]) fun _ _ _ _ _ _ us hl => match us, hl with | [_], _ => rfl
  have F13 : C8.Fun K "__len__" "Joins.__len__" s_Joins___len__ f13 _ := ⟨⟨_, _, _, _, _, _, _, _, _, _, rfl, l13, c13⟩⟩
  have b13 := F13.binds rfl (ps := ["self"]) fun _ _ _ _ _ _ us hl => match us, hl with | [_], _ => rfl
  have F14 : C8.Fun K "__iter__" "Joins.__iter__" s_Joins___iter__ f14 _ := ⟨⟨_, _, _, _, _, _, _, _, _, _, rfl, l14, c14⟩⟩
  have b14 := F14.binds rfl (ps := ["self"]) fun _ _ _ _ _ _ us hl => match us, hl with | [_], _ => rfl
  have F15 : C8.Fun K "text_of" "Joins.text_of" s_Joins_text_of f15 _ := ⟨⟨_, _, _, _, _, _, _, _, _, _, rfl, l15, c15⟩⟩
  have b15 := F15.binds rfl (ps := ["self", "piece"]) fun _ _ _ _ _ _ us hl => match us, hl with | [_, _], _ => rfl
  have F16 : C8.Fun K "has_piece" "Joins.has_piece" s_Joins_has_piece f16 _ := ⟨⟨_, _, _, _, _, _, _, _, _, _, rfl, l16, c16⟩⟩
  have b16 := F16.binds rfl (ps := ["self", "piece"]) fun _ _ _ _ _ _ us hl => match us, hl with | [_, _], _ => rfl
  have F17 : C8.Fun K "check_piece" "Joins.check_piece" s_Joins_check_piece f17 _ := ⟨⟨_, _, _, _, _, _, _, _, _, _, rfl, l17, c17⟩⟩
  have b17 := F17.binds rfl (ps := ["self", "piece"]) fun _ _ _ _ _ _ us hl => match us, hl with | [_, _], _ => rfl
  have F18 : C8.Fun K "join_row" "Joins.join_row" s_Joins_join_row f18 _ := ⟨⟨_, _, _, _, _, _, _, _, _, _, rfl, l18, c18⟩⟩
  have b18 := F18.binds rfl (ps := ["self", "row"]) fun _ _ _ _ _ _ us hl => match us, hl with | [_, _], _ => rfl
  have F19 : C8.Fun K "letters_of" "letters_of" s_letters_of f19 _ := ⟨⟨_, _, _, _, _, _, _, _, _, _, rfl, l19, c19⟩⟩
  have b19 := F19.binds rfl (ps := ["joins", "text"]) fun _ _ _ _ _ _ us hl => match us, hl with | [_, _], _ => rfl
  have F20 : C8.Fun K "cut" "cut" s_cut f20 _ := ⟨⟨_, _, _, _, _, _, _, _, _, _, rfl, l20, c20⟩⟩
  have b20 := F20.binds rfl (ps := ["joins", "text"]) fun _ _ _ _ _ _ us hl => match us, hl with | [_, _], _ => rfl
  have F21 : C8.Fun K "totals_of" "totals_of" s_totals_of f21 _ := ⟨⟨_, _, _, _, _, _, _, _, _, _, rfl, l21, c21⟩⟩
  have b21 := F21.binds rfl (ps := ["rows", "counts"]) fun _ _ _ _ _ _ us hl => match us, hl with | [_, _], _ => rfl
  have F22 : C8.Fun K "counts_of" "counts_of" s_counts_of f22 _ := ⟨⟨_, _, _, _, _, _, _, _, _, _, rfl, l22, c22⟩⟩
  have b22 := F22.binds rfl (ps := ["corpus"]) fun _ _ _ _ _ _ us hl => match us, hl with | [_], _ => rfl
  have F23 : C8.Fun K "next_pair" "next_pair" s_next_pair f23 _ := ⟨⟨_, _, _, _, _, _, _, _, _, _, rfl, l23, c23⟩⟩
  have b23 := F23.binds rfl (ps := ["totals", "texts"]) fun _ _ _ _ _ _ us hl => match us, hl with | [_, _], _ => rfl
  have F24 : C8.Fun K "learn" "learn" s_learn f24 _ := ⟨⟨_, _, _, _, _, _, _, _, _, _, rfl, l24, c24⟩⟩
  have b24 := F24.binds rfl (ps := ["alphabet", "corpus", "many"]) fun _ _ _ _ _ _ us hl => match us, hl with | [_, _, _], _ => rfl
  have F25 : C8.Fun K "__init__" "Learner.__init__" s_Learner___init__ f25 _ := ⟨⟨_, _, _, _, _, _, _, _, _, _, rfl, l25, c25⟩⟩
  have b25 := F25.binds rfl (ps := ["self", "alphabet", "corpus"]) fun _ _ _ _ _ _ us hl => match us, hl with | [_, _, _], _ => rfl
  have F26 : C8.Fun K "step" "Learner.step" s_Learner_step f26 _ := ⟨⟨_, _, _, _, _, _, _, _, _, _, rfl, l26, c26⟩⟩
  have b26 := F26.binds rfl (ps := ["self"]) fun _ _ _ _ _ _ us hl => match us, hl with | [_], _ => rfl
  have F27 : C8.Fun K "list_so_far" "Learner.list_so_far" s_Learner_list_so_far f27 _ := ⟨⟨_, _, _, _, _, _, _, _, _, _, rfl, l27, c27⟩⟩
  have b27 := F27.binds rfl (ps := ["self"]) fun _ _ _ _ _ _ us hl => match us, hl with | [_], _ => rfl
  have F28 : C8.Fun K "totals" "Learner.totals" s_Learner_totals f28 _ := ⟨⟨_, _, _, _, _, _, _, _, _, _, rfl, l28, c28⟩⟩
  have b28 := F28.binds rfl (ps := ["self"]) fun _ _ _ _ _ _ us hl => match us, hl with | [_], _ => rfl
  have F29 : C8.Fun K "_law_mixed" "_law_mixed" s__law_mixed f29 _ := ⟨⟨_, _, _, _, _, _, _, _, _, _, rfl, l29, c29⟩⟩
  have b29 := F29.binds rfl (ps := ["number", "turn"]) fun _ _ _ _ _ _ us hl => match us, hl with | [_, _], _ => rfl
  have F30 : C8.Fun K "_law_tape" "_law_tape" s__law_tape f30 _ := ⟨⟨_, _, _, _, _, _, _, _, _, _, rfl, l30, c30⟩⟩
  have b30 := F30.binds rfl (ps := ["script"]) fun _ _ _ _ _ _ us hl => match us, hl with | [_], _ => rfl
  have F31 : C8.Fun K "_law_draw" "_law_draw" s__law_draw f31 _ := ⟨⟨_, _, _, _, _, _, _, _, _, _, rfl, l31, c31⟩⟩
  have b31 := F31.binds rfl (ps := ["tape", "many"]) fun _ _ _ _ _ _ us hl => match us, hl with | [_, _], _ => rfl
  have F32 : C8.Fun K "_law_pick" "_law_pick" s__law_pick f32 _ := ⟨⟨_, _, _, _, _, _, _, _, _, _, rfl, l32, c32⟩⟩
  have b32 := F32.binds rfl (ps := ["tape", "row"]) fun _ _ _ _ _ _ us hl => match us, hl with | [_, _], _ => rfl
  have F33 : C8.Fun K "_law_signs" "_law_signs" s__law_signs f33 _ := ⟨⟨_, _, _, _, _, _, _, _, _, _, rfl, l33, c33⟩⟩
  have b33 := F33.binds rfl (ps := []) fun _ _ _ _ _ _ us hl => match us, hl with | [], _ => rfl
  have F34 : C8.Fun K "_law_letters" "_law_letters" s__law_letters f34 _ := ⟨⟨_, _, _, _, _, _, _, _, _, _, rfl, l34, c34⟩⟩
  have b34 := F34.binds rfl (ps := ["tape", "many"]) fun _ _ _ _ _ _ us hl => match us, hl with | [_, _], _ => rfl
  have F35 : C8.Fun K "_law_joined" "_law_joined" s__law_joined f35 _ := ⟨⟨_, _, _, _, _, _, _, _, _, _, rfl, l35, c35⟩⟩
  have b35 := F35.binds rfl (ps := ["joins", "row", "rank"]) fun _ _ _ _ _ _ us hl => match us, hl with | [_, _, _], _ => rfl
  have F36 : C8.Fun K "_law_neighbors" "_law_neighbors" s__law_neighbors f36 _ := ⟨⟨_, _, _, _, _, _, _, _, _, _, rfl, l36, c36⟩⟩
  have b36 := F36.binds rfl (ps := ["joins", "corpus"]) fun _ _ _ _ _ _ us hl => match us, hl with | [_, _], _ => rfl
  have F37 : C8.Fun K "_law_next" "_law_next" s__law_next f37 _ := ⟨⟨_, _, _, _, _, _, _, _, _, _, rfl, l37, c37⟩⟩
  have b37 := F37.binds rfl (ps := ["joins", "found"]) fun _ _ _ _ _ _ us hl => match us, hl with | [_, _], _ => rfl
  have F38 : C8.Fun K "_law_add" "_law_add" s__law_add f38 _ := ⟨⟨_, _, _, _, _, _, _, _, _, _, rfl, l38, c38⟩⟩
  have b38 := F38.binds rfl (ps := ["joins", "pair"]) fun _ _ _ _ _ _ us hl => match us, hl with | [_, _], _ => rfl
  have F39 : C8.Fun K "_law_text" "_law_text" s__law_text f39 _ := ⟨⟨_, _, _, _, _, _, _, _, _, _, rfl, l39, c39⟩⟩
  have b39 := F39.binds rfl (ps := ["tape", "letters"]) fun _ _ _ _ _ _ us hl => match us, hl with | [_, _], _ => rfl
  have F40 : C8.Fun K "_law_corpus" "_law_corpus" s__law_corpus f40 _ := ⟨⟨_, _, _, _, _, _, _, _, _, _, rfl, l40, c40⟩⟩
  have b40 := F40.binds rfl (ps := ["tape", "letters", "most"]) fun _ _ _ _ _ _ us hl => match us, hl with | [_, _, _], _ => rfl
  have F41 : C8.Fun K "_law_list_right" "_law_list_right" s__law_list_right f41 _ := ⟨⟨_, _, _, _, _, _, _, _, _, _, rfl, l41, c41⟩⟩
  have b41 := F41.binds rfl (ps := ["made", "joins"]) fun _ _ _ _ _ _ us hl => match us, hl with | [_, _], _ => rfl
  have F42 : C8.Fun K "_law_same" "_law_same" s__law_same f42 _ := ⟨⟨_, _, _, _, _, _, _, _, _, _, rfl, l42, c42⟩⟩
  have b42 := F42.binds rfl (ps := ["actual", "due"]) fun _ _ _ _ _ _ us hl => match us, hl with | [_, _], _ => rfl
  have F43 : C8.Fun K "_law_alphabet_refused" "_law_alphabet_refused" s__law_alphabet_refused f43 _ := ⟨⟨_, _, _, _, _, _, _, _, _, _, rfl, l43, c43⟩⟩
  have b43 := F43.binds rfl (ps := ["alphabet", "corpus"]) fun _ _ _ _ _ _ us hl => match us, hl with | [_, _], _ => rfl
  have F44 : C8.Fun K "_law_sign_refused" "_law_sign_refused" s__law_sign_refused f44 _ := ⟨⟨_, _, _, _, _, _, _, _, _, _, rfl, l44, c44⟩⟩
  have b44 := F44.binds rfl (ps := ["alphabet", "corpus", "sign", "at"]) fun _ _ _ _ _ _ us hl => match us, hl with | [_, _, _, _], _ => rfl
  have F45 : C8.Fun K "law" "law" s_law fa _ := ⟨⟨_, _, _, _, _, _, _, _, _, _, rfl, l45, c45⟩⟩
  refine ⟨PySem.W.fnOf "law" "law" (C8.fnArgs s_law) (C8.fnBody s_law) (C8.fnScope s_law) .none kV45 dc45 pm45 an45 cd45 ct45, fun s v => .of_eq rfl, fun base _ _ TB => ?_⟩
  have FC : FunC K "totals_of" "totals_of" s_totals_of f21 ctab _ := ⟨⟨_, _, _, _, _, _, _, _, _, rfl, l21, c21⟩⟩
  have GInvalidAlphabet : mg "InvalidAlphabet" = some (.ref CInvalidAlphabet) := PySem.W.mg_of X G AInvalidAlphabet
  have GUnknownSign : mg "UnknownSign" = some (.ref CUnknownSign) := PySem.W.mg_of X G AUnknownSign
  have GNotProper : mg "NotProper" = some (.ref CNotProper) := PySem.W.mg_of X G ANotProper
  have GJoinError : mg "JoinError" = some (.ref CJoinError) := PySem.W.mg_of X G AJoinError
  have GInvalidText : mg "InvalidText" = some (.ref CInvalidText) := PySem.W.mg_of X G AInvalidText
  have hsuper : mg "super" = none := PySem.W.mg_none_of X G zsuper
  have eiInvalidAlphabet : ErrI K CInvalidAlphabet := ⟨by unfold PySem.W.clsIn; rw [XInvalidAlphabet]; rfl, hInvalidAlphabet, iInvalidAlphabet, bInvalidAlphabet, jInvalidAlphabet, hn0, ht0, kInvalidAlphabet, lInvalidAlphabet⟩
  have SInvalidAlphabet : SupF l.prog K CInvalidAlphabet "InvalidAlphabet.__init__" s_InvalidAlphabet___init__ FInvalidAlphabet _ := ⟨⟨_, _, _, _, _, _, _, _, _, _, _, rfl, LInvalidAlphabet, DInvalidAlphabet, ⟨_, _, _, _, _, _, KInvalidAlphabet, VInvalidAlphabet, QInvalidAlphabet⟩, _, _, _, JInvalidAlphabet⟩, htop, eInvalidAlphabet, fInvalidAlphabet, gInvalidAlphabet, zopq, ⟨⟨_, _, _, _, _, _, _, _, _, _, _, _, _, _, _, XInvalidAlphabet, RInvalidAlphabet⟩, aInvalidAlphabet, bInvalidAlphabet, cInvalidAlphabet, dInvalidAlphabet⟩⟩
  have e0InvalidAlphabet : ErrC l.prog w K mg base "InvalidAlphabet" CInvalidAlphabet (sp_err1 CInvalidAlphabet "alphabet" gText) := ⟨SInvalidAlphabet.oex, GInvalidAlphabet, ⟨FInvalidAlphabet, _, _, IInvalidAlphabet, TInvalidAlphabet, ok_InvalidAlphabet SInvalidAlphabet T hsuper nInvalidAlphabet_alphabet, .all fun us hl => match us, hl with | [_, _], _ => rfl⟩⟩
  have eiUnknownSign : ErrI K CUnknownSign := ⟨by unfold PySem.W.clsIn; rw [XUnknownSign]; rfl, hUnknownSign, iUnknownSign, bUnknownSign, jUnknownSign, hn0, ht0, kUnknownSign, lUnknownSign⟩
  have SUnknownSign : SupF l.prog K CUnknownSign "UnknownSign.__init__" s_UnknownSign___init__ FUnknownSign _ := ⟨⟨_, _, _, _, _, _, _, _, _, _, _, rfl, LUnknownSign, DUnknownSign, ⟨_, _, _, _, _, _, KUnknownSign, VUnknownSign, QUnknownSign⟩, _, _, _, JUnknownSign⟩, htop, eUnknownSign, fUnknownSign, gUnknownSign, zopq, ⟨⟨_, _, _, _, _, _, _, _, _, _, _, _, _, _, _, XUnknownSign, RUnknownSign⟩, aUnknownSign, bUnknownSign, cUnknownSign, dUnknownSign⟩⟩
  have e0UnknownSign : ErrC l.prog w K mg base "UnknownSign" CUnknownSign (sp_err2 CUnknownSign "sign" "at" gSign) := ⟨SUnknownSign.oex, GUnknownSign, ⟨FUnknownSign, _, _, IUnknownSign, TUnknownSign, ok_UnknownSign SUnknownSign T hsuper nUnknownSign_sign nUnknownSign_at, .all fun us hl => match us, hl with | [_, _, _], _ => rfl⟩⟩
  have eiNotProper : ErrI K CNotProper := ⟨by unfold PySem.W.clsIn; rw [XNotProper]; rfl, hNotProper, iNotProper, bNotProper, jNotProper, hn0, ht0, kNotProper, lNotProper⟩
  have SNotProper : SupF l.prog K CNotProper "NotProper.__init__" s_NotProper___init__ FNotProper _ := ⟨⟨_, _, _, _, _, _, _, _, _, _, _, rfl, LNotProper, DNotProper, ⟨_, _, _, _, _, _, KNotProper, VNotProper, QNotProper⟩, _, _, _, JNotProper⟩, htop, eNotProper, fNotProper, gNotProper, zopq, ⟨⟨_, _, _, _, _, _, _, _, _, _, _, _, _, _, _, XNotProper, RNotProper⟩, aNotProper, bNotProper, cNotProper, dNotProper⟩⟩
  have e0NotProper : ErrC l.prog w K mg base "NotProper" CNotProper (sp_err1 CNotProper "rank" gNat) := ⟨SNotProper.oex, GNotProper, ⟨FNotProper, _, _, INotProper, TNotProper, ok_NotProper SNotProper T hsuper nNotProper_rank, .all fun us hl => match us, hl with | [_, _], _ => rfl⟩⟩
  have MInvalidAlphabetJoinError := PySem.W.exm_ref pJoinError qJoinError rJoinError mInvalidAlphabetJoinError
  have MUnknownSignJoinError := PySem.W.exm_ref pJoinError qJoinError rJoinError mUnknownSignJoinError
  have c_is_integer : C8.Cal l.prog w K mg base 1 "is_integer" sp_is_integer [] := ⟨⟨f0, _, _, _, ok_is_integer F0 T, PySem.W.mg_of X G a0, k0, b0, .nil⟩⟩
  have c_is_number_below : C8.Cal l.prog w K mg base 2 "is_number_below" sp_is_number_below [] := ⟨⟨f1, _, _, _, ok_is_number_below F1 T c_is_integer, PySem.W.mg_of X G a1, k1, b1, .nil⟩⟩
  have c_is_sign : C8.Cal l.prog w K mg base 1 "is_sign" sp_is_sign [] := ⟨⟨f2, _, _, _, ok_is_sign F2 T, PySem.W.mg_of X G a2, k2, b2, .nil⟩⟩
  have c_is_alphabet : C8.Cal l.prog w K mg base 2 "is_alphabet" sp_is_alphabet [] := ⟨⟨f3, _, _, _, ok_is_alphabet F3 T c_is_sign, PySem.W.mg_of X G a3, k3, b3, .nil⟩⟩
  have c_check_alphabet : C8.Cal l.prog w K mg base 3 "check_alphabet" sp_check_alphabet [] := ⟨⟨f4, _, _, _, ok_check_alphabet F4 T c_is_alphabet, PySem.W.mg_of X G a4, k4, b4, .nil⟩⟩
  have c_letter_row : C8.Cal l.prog w K mg base 1 "letter_row" sp_letter_row [] := ⟨⟨f6, _, _, _, ok_letter_row F6 T, PySem.W.mg_of X G a6, k6, b6, .nil⟩⟩
  have c_join_neighbors : C8.Cal l.prog w K mg base 1 "join_neighbors" sp_join_neighbors [] := ⟨⟨f7, _, _, _, ok_join_neighbors F7 T, PySem.W.mg_of X G a7, k7, b7, .nil⟩⟩
  have c_lowest_join : C8.Cal l.prog w K mg base 1 "lowest_join" sp_lowest_join [] := ⟨⟨f8, _, _, _, ok_lowest_join F8 T, PySem.W.mg_of X G a8, k8, b8, .nil⟩⟩
  have c_join_down : C8.Cal l.prog w K mg base 2 "join_down" sp_join_down [] := ⟨⟨f9, _, _, _, ok_join_down F9 T c_lowest_join c_join_neighbors, PySem.W.mg_of X G a9, k9, b9, .nil⟩⟩
  have c_may_follow : C8.Cal l.prog w K mg base 3 "may_follow" sp_may_follow [] := ⟨⟨f10, _, _, _, ok_may_follow F10 T c_is_number_below c_join_down c_letter_row, PySem.W.mg_of X G a10, k10, b10, .nil⟩⟩
  have k_Joins : C8.Mak l.prog w K mg base 4 "Joins" C (sp_init C) [] := ⟨⟨f11, _, _, _, ⟨mkC, a11, i11, kcC⟩, ok_init F11 T J c_check_alphabet c_may_follow, PySem.W.mg_of X G aC, b11, .nil⟩⟩
  have m_join_row : C8.Met l.prog w K mg base 3 C "join_row" (sp_join_row C) [] := ⟨⟨f18, _, _, _, J.cl, ⟨a18, i18, k18⟩, ok_join_row F18 T J c_join_down, b18, .nil⟩⟩
  have m___len__ : C8.Met l.prog w K mg base 1 C "__len__" (sp_len C) [] := ⟨⟨f13, _, _, _, J.cl, ⟨a13, i13, k13⟩, ok_len F13 T J, b13, .nil⟩⟩
  have c_check_number : C8.Cal l.prog w K mg base 3 "check_number" sp_check_number [] := ⟨⟨f5, _, _, _, ok_check_number F5 T c_is_number_below, PySem.W.mg_of X G a5, k5, b5, .nil⟩⟩
  have m_has_piece : C8.Met l.prog w K mg base 3 C "has_piece" (sp_has_piece C) [] := ⟨⟨f16, _, _, _, J.cl, ⟨a16, i16, k16⟩, ok_has_piece F16 T J c_is_number_below, b16, .nil⟩⟩
  have m_check_piece : C8.Met l.prog w K mg base 4 C "check_piece" (sp_check_piece C) [] := ⟨⟨f17, _, _, _, J.cl, ⟨a17, i17, k17⟩, ok_check_piece F17 T J m_has_piece, b17, .nil⟩⟩
  have m_text_of : C8.Met l.prog w K mg base 5 C "text_of" (sp_text_of C) [] := ⟨⟨f15, _, _, _, J.cl, ⟨a15, i15, k15⟩, ok_text_of F15 T J m_check_piece, b15, .nil⟩⟩
  have c_letters_of : C8.Cal l.prog w K mg base 2 "letters_of" (sp_letters_of C) [] := ⟨⟨f19, _, _, _, ok_letters_of F19 T J c_letter_row, PySem.W.mg_of X G a19, k19, b19, .nil⟩⟩
  have c_cut : C8.Cal l.prog w K mg base 4 "cut" (sp_cut C) [] := ⟨⟨f20, _, _, _, ok_cut F20 T J c_letters_of m_join_row, PySem.W.mg_of X G a20, k20, b20, .nil⟩⟩
  have c__law_mixed : C8.Cal l.prog w K mg base 1 "_law_mixed" sp_mixed [] := ⟨⟨f29, _, _, _, ok_mixed F29 T, PySem.W.mg_of X G a29, k29, b29, .nil⟩⟩
  have c__law_tape : C8.Cal l.prog w K mg base 1 "_law_tape" (sp_tape K) [] := ⟨⟨f30, _, _, _, ok_tape F30 T, PySem.W.mg_of X G a30, k30, b30, .nil⟩⟩
  have c__law_draw : C8.Cal l.prog w K mg base 2 "_law_draw" sp_draw [] := ⟨⟨f31, _, _, _, ok_draw F31 T c__law_mixed, PySem.W.mg_of X G a31, k31, b31, .nil⟩⟩
  have c__law_pick : C8.Cal l.prog w K mg base 3 "_law_pick" sp_pick [] := ⟨⟨f32, _, _, _, ok_pick F32 T c__law_draw, PySem.W.mg_of X G a32, k32, b32, .nil⟩⟩
  have c__law_pickS : C8.Cal l.prog w K mg base 3 "_law_pick" sp_pickS [] := ⟨⟨f32, _, _, _, ok_pickS F32 T c__law_draw, PySem.W.mg_of X G a32, k32, b32, .nil⟩⟩
  have c__law_signs : C8.Cal l.prog w K mg base 1 "_law_signs" sp_signs [] := ⟨⟨f33, _, _, _, ok_signs F33 T, PySem.W.mg_of X G a33, k33, b33, .nil⟩⟩
  have c__law_letters : C8.Cal l.prog w K mg base 4 "_law_letters" sp_lettersC [] := ⟨⟨f34, _, _, _, ok_lettersC F34 T c__law_draw c__law_pick c__law_signs, PySem.W.mg_of X G a34, k34, b34, .nil⟩⟩
  have c_same0 : C8.Cal l.prog w K mg base 1 "_law_same" (sp_same 0) [] := ⟨⟨f42, _, _, _, ok_sameC0 F42 T, PySem.W.mg_of X G a42, k42, b42, .nil⟩⟩
  have c_same1 : C8.Cal l.prog w K mg base 2 "_law_same" (sp_same 1) [] := ⟨⟨f42, _, _, _, ok_sameCS F42 T c_same0, PySem.W.mg_of X G a42, k42, b42, .nil⟩⟩
  have c_same2 : C8.Cal l.prog w K mg base 3 "_law_same" (sp_same 2) [] := ⟨⟨f42, _, _, _, ok_sameCS F42 T c_same1, PySem.W.mg_of X G a42, k42, b42, .nil⟩⟩
  have c_same3 : C8.Cal l.prog w K mg base 4 "_law_same" (sp_same 3) [] := ⟨⟨f42, _, _, _, ok_sameCS F42 T c_same2, PySem.W.mg_of X G a42, k42, b42, .nil⟩⟩
  have c__law_joined : C8.Cal l.prog w K mg base 1 "_law_joined" sp_joinedC [] := ⟨⟨f35, _, _, _, ok_joinedC F35 T, PySem.W.mg_of X G a35, k35, b35, .nil⟩⟩
  have x_letter_row : CalX l.prog w K mg base 3 "letter_row" (sp_letter_rowX CUnknownSign) := ⟨⟨f6, _, _, ok_letter_rowX F6 T e0UnknownSign, PySem.W.mg_of X G a6, k6, b6⟩⟩
  have x_letters_of : CalX l.prog w K mg base 4 "letters_of" (sp_letters_ofX C CUnknownSign) := ⟨⟨f19, _, _, ok_letters_ofX F19 T J x_letter_row, PySem.W.mg_of X G a19, k19, b19⟩⟩
  have h_same0 : CalH l.prog w K mg base 1 "_law_same" (sp_same 0) := ⟨⟨f42, _, _, ok_sameH0 F42 T, PySem.W.mg_of X G a42, k42, b42⟩⟩
  have h_same1 : CalH l.prog w K mg base 2 "_law_same" (sp_same 1) := ⟨⟨f42, _, _, ok_sameHS F42 T h_same0, PySem.W.mg_of X G a42, k42, b42⟩⟩
  have h_same2 : CalH l.prog w K mg base 3 "_law_same" (sp_same 2) := ⟨⟨f42, _, _, ok_sameHS F42 T h_same1, PySem.W.mg_of X G a42, k42, b42⟩⟩
  have p_pieces : PrpC l.prog w K mg base 1 C "pieces" (sp_pieces C) := ⟨⟨pp12, f12, _, _, J.cl, ⟨a12, s12, t12, ⟨_, r12⟩⟩, ok_pieces F12 T J, b12⟩⟩
  have x_check_alphabet : CalX l.prog w K mg base 3 "check_alphabet" (sp_check_alphabetX CInvalidAlphabet) := ⟨⟨f4, _, _, ok_check_alphabetX F4 T c_is_alphabet e0InvalidAlphabet, PySem.W.mg_of X G a4, k4, b4⟩⟩
  have x_Joins : MakX l.prog w K mg base 4 "Joins" C (sp_mkJ C CInvalidAlphabet CNotProper) := ⟨⟨f11, _, _, ⟨mkC, a11, i11, kcC⟩, ok_mkJ F11 T J c_check_alphabet c_may_follow x_check_alphabet e0NotProper, PySem.W.mg_of X G aC, b11⟩⟩
  have x_lettersB : CalX l.prog w K mg base 4 "letters_of" (fun vs H Q E => sp_letters_of C vs H Q E ∨ sp_letters_ofX C CUnknownSign vs H Q E) := ⟨⟨f19, _, _, ok_letters_ofB F19 T J c_letter_row x_letter_row, PySem.W.mg_of X G a19, k19, b19⟩⟩
  have x_lettersB56 : CalX l.prog w K mg base 4 "letters_of" (fun vs H Q E => sp_letters_of C vs H Q E ∨ sp_letters_ofX C CUnknownSign vs H Q E) := ⟨⟨f19, _, _, ok_letters_ofB F19 T J c_letter_row x_letter_row, PySem.W.mg_of X G a19, k19, b19⟩⟩
  have c_totals_of : C8.Cal l.prog w K mg base 1 "totals_of" (sp_totals Pt qLam) [] := ⟨⟨f21, _, _, _, ok_totals FC T TB, PySem.W.mg_of X G a21, k21, b21, .nil⟩⟩
  have c_counts_of : C8.Cal l.prog w K mg base 1 "counts_of" sp_countsT [] := ⟨⟨f22, _, _, _, ok_countsT F22 T, PySem.W.mg_of X G a22, k22, b22, .nil⟩⟩
  have c_next_pair : C8.Cal l.prog w K mg base 1 "next_pair" sp_nextp [] := ⟨⟨f23, _, _, _, ok_nextp F23 T, PySem.W.mg_of X G a23, k23, b23, .nil⟩⟩
  have k_JoinsF : C8.Mak l.prog w K mg base 4 "Joins" C (sp_initF C) [] := ⟨⟨f11, _, _, _, ⟨mkC, a11, i11, kcC⟩, ok_initF F11 T J c_check_alphabet c_may_follow, PySem.W.mg_of X G aC, b11, .nil⟩⟩
  have m_totals : C8.Met l.prog w K mg base 2 CL "totals" (sp_ltotalsM C CL Pt) [] := ⟨⟨f28, _, _, _, JL.cl, ⟨a28, i28, k28⟩, ok_ltotalsM F28 T JL c_totals_of, b28, .nil⟩⟩
  have m_list_so_far : C8.Met l.prog w K mg base 1 CL "list_so_far" (sp_lsofar C CL) [] := ⟨⟨f27, _, _, _, JL.cl, ⟨a27, i27, k27⟩, ok_lsofar F27 T JL, b27, .nil⟩⟩
  have c_learn : C8.Cal l.prog w K mg base 6 "learn" (sp_learn C Pt) [] := ⟨⟨f24, _, _, _, ok_learn F24 T k_Joins c_letters_of c_counts_of c_totals_of c_next_pair c_join_neighbors, PySem.W.mg_of X G a24, k24, b24, .nil⟩⟩
  have k_Learner : C8.Mak l.prog w K mg base 6 "Learner" CL (sp_linit C CL) [] := ⟨⟨f25, _, _, _, ⟨mkCL, a25, i25, kcCL⟩, ok_linit F25 T JL k_JoinsF c_letters_of c_counts_of, PySem.W.mg_of X G aCL, b25, .nil⟩⟩
  have x_Learner : MakX l.prog w K mg base 6 "Learner" CL (sp_linitE CL CInvalidAlphabet CUnknownSign) := ⟨⟨f25, _, _, ⟨mkCL, a25, i25, kcCL⟩, ok_linitE F25 T JL x_Joins x_lettersB56 c_counts_of, PySem.W.mg_of X G aCL, b25⟩⟩
  have m_step : C8.Met l.prog w K mg base 7 CL "step" (sp_lstep C CL Pt) [] := ⟨⟨f26, _, _, _, JL.cl, ⟨a26, i26, k26⟩, ok_lstep F26 T J JL m___len__ p_pieces m_text_of k_JoinsF c_totals_of c_next_pair c_join_neighbors, b26, .nil⟩⟩
  have n___iter__ : MetS l.prog w K mg base 1 C "__iter__" (sp_iterS C) := ⟨⟨f14, _, _, J.cl, ⟨a14, i14, k14⟩, ok_iterS F14 T J, b14⟩⟩
  have c__law_text : C8.Cal l.prog w K mg base 4 "_law_text" sp_ltextN [] := ⟨⟨f39, _, _, _, ok_ltextN F39 T c__law_draw c__law_pick c__law_pickS, PySem.W.mg_of X G a39, k39, b39, .nil⟩⟩
  have c__law_corpus : C8.Cal l.prog w K mg base 5 "_law_corpus" sp_lcorpusN [] := ⟨⟨f40, _, _, _, ok_lcorpusN F40 T c__law_draw c__law_pick c__law_text, PySem.W.mg_of X G a40, k40, b40, .nil⟩⟩
  have c__law_neighbors : C8.Cal l.prog w K mg base 2 "_law_neighbors" sp_lneighbors [] := ⟨⟨f36, _, _, _, ok_lneighbors F36 T c__law_joined, PySem.W.mg_of X G a36, k36, b36, .nil⟩⟩
  have c__law_next : C8.Cal l.prog w K mg base 1 "_law_next" sp_lnext [] := ⟨⟨f37, _, _, _, ok_lnext F37 T, PySem.W.mg_of X G a37, k37, b37, .nil⟩⟩
  have c__law_add : C8.Cal l.prog w K mg base 1 "_law_add" sp_ladd [] := ⟨⟨f38, _, _, _, ok_ladd F38 T, PySem.W.mg_of X G a38, k38, b38, .nil⟩⟩
  have c__law_list_right : C8.Cal l.prog w K mg base 6 "_law_list_right" (sp_lright C) [] := ⟨⟨f41, _, _, _, ok_lright F41 T J m___len__ n___iter__ c_same3, PySem.W.mg_of X G a41, k41, b41, .nil⟩⟩
  have c__law_sign_refused : C8.Cal l.prog w K mg base 8 "_law_sign_refused" sp_lsignR [] := ⟨⟨f44, _, _, _, ok_lsignR F44 T x_Learner h_same1 GUnknownSign GInvalidAlphabet GInvalidText GJoinError eiUnknownSign nUnknownSign_sign nUnknownSign_at MUnknownSignJoinError oUnknownSignUnknownSign oUnknownSignValueError oAnyUnknownSign, PySem.W.mg_of X G a44, k44, b44, .nil⟩⟩
  have c__law_alphabet_refused : C8.Cal l.prog w K mg base 8 "_law_alphabet_refused" sp_lalphR [] := ⟨⟨f43, _, _, _, ok_lalphR F43 T x_Learner GUnknownSign GInvalidAlphabet GJoinError eiInvalidAlphabet nInvalidAlphabet_alphabet MInvalidAlphabetJoinError oInvalidAlphabetInvalidAlphabet oInvalidAlphabetValueError oInvalidAlphabetUnknownSign, PySem.W.mg_of X G a43, k43, b43, .nil⟩⟩
  exact ok_law F45 T J c__law_tape c__law_letters c__law_draw c__law_pick c__law_signs c__law_text c__law_corpus k_Learner m_list_so_far c__law_neighbors c__law_next m_step c_same3 c__law_add c__law_list_right m_totals c_learn c__law_sign_refused c__law_alphabet_refused
theorem walk {l : PySem.W.OpenLaw} {q : Program} {loose : List Str} {XP : (Str → Option Value) → Heap → Prop} {YP : World → Heap → Prop} {d : DefRec} {K : Params → PySem.W.Frag} {c P : Addr} (hn : l.most = some 63) (hdf : d.params.defaults = [])
    (hY : ∀ (w : World) (h : Heap), YP w h → (K w.params).In h)
    (hT : ∀ (w : World) (h : Heap), YP w h → h.get? P = some (PySem.W.tabObj #[])) (hN : ∀ w : World, PySem.W.codeHdIn (K w.params) c P = true ∧ (K w.params).lookup P = none)
    (F : ∀ (w : World) (mg : Str → Option Value) (fa : Addr) (h : Heap), (K w.params).In h → h.Ns mainGlobals mg → mg d.name = some (.ref fa) →
      ∃ fd : FuncData, (∀ (s : Shared) (u : Value), BindsTo s fd ⟨[u], []⟩ [("script", u)]) ∧ ∀ base : Heap, (K w.params).In base → base.Ns mainGlobals mg → LamX.TabB base mg c P → FnOk l.prog w (K w.params) mg base C8.CX0 9 fa fd ["script"] (sp_law (K w.params) P)) :
    PySem.W.WalkO q loose XP YP l.row.toRowW d [] (fun f vs => PySem.call f vs) :=
  RJ.walkT (n := 63) (k := 9) (x := "script") (sp := fun w => sp_law (K w.params) P) hn (by decide) hdf ⟨rfl, by decide, by decide⟩ hY hT hN (fun _ _ a ns hl hH hS => ⟨a, ns, rfl, hS, hl, LamX.TabS.nil hH, fun _ => rfl⟩) F
end RJ
end

section
open PySem PySem.W PyProof.Rows
set_option maxRecDepth 100000 in
set_option maxHeartbeats 0 in
theorem PySem.Challenge.cw_rankedjoins_k56_learner_step_by_step_holds : PySem.Challenge.rw_rankedjoins_k56_learner_step_by_step.Holds := by
  w_on; o_law; k_head; (case hw => w_witness2)
  k_fill
  refine' RJ.walk (l := PySem.Challenge.rw_rankedjoins_k56_learner_step_by_step) rfl rfl (fun w h Y => PySem.W.km_in_of Y) ?hT ?hN ?F
  case F =>
    intro w mg fa h KX G hmg
    refine' RJ.all_mk KX G hmg ?aC ?aCL ?a0 ?l0 ?c0 ?k0 ?a1 ?l1 ?c1 ?k1 ?a2 ?l2 ?c2 ?k2 ?a3 ?l3 ?c3 ?k3 ?a4 ?l4 ?c4 ?k4 ?a5 ?l5 ?c5 ?k5 ?a6 ?l6 ?c6 ?k6 ?a7 ?l7 ?c7 ?k7 ?a8 ?l8 ?c8 ?k8 ?a9 ?l9 ?c9 ?k9 ?a10 ?l10 ?c10 ?k10 ?a11 ?i11 ?l11 ?c11 ?k11 ?a12 ?s12 ?t12 ?r12 ?l12 ?c12 ?k12 ?a13 ?i13 ?l13 ?c13 ?k13 ?a14 ?i14 ?l14 ?c14 ?k14 ?a15 ?i15 ?l15 ?c15 ?k15 ?a16 ?i16 ?l16 ?c16 ?k16 ?a17 ?i17 ?l17 ?c17 ?k17 ?a18 ?i18 ?l18 ?c18 ?k18 ?a19 ?l19 ?c19 ?k19 ?a20 ?l20 ?c20 ?k20 ?a21 ?l21 ?c21 ?ktab ?vtab11 ?k21 ?a22 ?l22 ?c22 ?k22 ?a23 ?l23 ?c23 ?k23 ?a24 ?l24 ?c24 ?k24 ?a25 ?i25 ?l25 ?c25 ?k25 ?a26 ?i26 ?l26 ?c26 ?k26 ?a27 ?i27 ?l27 ?c27 ?k27 ?a28 ?i28 ?l28 ?c28 ?k28 ?a29 ?l29 ?c29 ?k29 ?a30 ?l30 ?c30 ?k30 ?a31 ?l31 ?c31 ?k31 ?a32 ?l32 ?c32 ?k32 ?a33 ?l33 ?c33 ?k33 ?a34 ?l34 ?c34 ?k34 ?a35 ?l35 ?c35 ?k35 ?a36 ?l36 ?c36 ?k36 ?a37 ?l37 ?c37 ?k37 ?a38 ?l38 ?c38 ?k38 ?a39 ?l39 ?c39 ?k39 ?a40 ?l40 ?c40 ?k40 ?a41 ?l41 ?c41 ?k41 ?a42 ?l42 ?c42 ?k42 ?a43 ?l43 ?c43 ?k43 ?a44 ?l44 ?c44 ?k44 ?a45 ?l45 ?c45 ?k45 ?pgC ?hdC ?poC ?saC ?mkC ?kcC ?nC0 ?nC1 ?nC2 ?nC3 ?nC4 ?pgCL ?hdCL ?poCL ?saCL ?mkCL ?kcCL ?nCL0 ?nCL1 ?nCL2 ?AInvalidAlphabet ?AUnknownSign ?ANotProper ?AJoinError ?AInvalidText ?zsuper ?zopq ?hn0 ?ht0 ?IInvalidAlphabet ?TInvalidAlphabet ?LInvalidAlphabet ?DInvalidAlphabet ?KInvalidAlphabet ?VInvalidAlphabet ?QInvalidAlphabet ?JInvalidAlphabet ?XInvalidAlphabet ?RInvalidAlphabet ?aInvalidAlphabet ?bInvalidAlphabet ?cInvalidAlphabet ?dInvalidAlphabet ?eInvalidAlphabet ?fInvalidAlphabet ?gInvalidAlphabet ?hInvalidAlphabet ?iInvalidAlphabet ?jInvalidAlphabet ?kInvalidAlphabet ?lInvalidAlphabet ?nInvalidAlphabet_alphabet ?IUnknownSign ?TUnknownSign ?LUnknownSign ?DUnknownSign ?KUnknownSign ?VUnknownSign ?QUnknownSign ?JUnknownSign ?XUnknownSign ?RUnknownSign ?aUnknownSign ?bUnknownSign ?cUnknownSign ?dUnknownSign ?eUnknownSign ?fUnknownSign ?gUnknownSign ?hUnknownSign ?iUnknownSign ?jUnknownSign ?kUnknownSign ?lUnknownSign ?nUnknownSign_sign ?nUnknownSign_at ?INotProper ?TNotProper ?LNotProper ?DNotProper ?KNotProper ?VNotProper ?QNotProper ?JNotProper ?XNotProper ?RNotProper ?aNotProper ?bNotProper ?cNotProper ?dNotProper ?eNotProper ?fNotProper ?gNotProper ?hNotProper ?iNotProper ?jNotProper ?kNotProper ?lNotProper ?nNotProper_rank ?mInvalidAlphabetJoinError ?mUnknownSignJoinError ?oInvalidAlphabetInvalidAlphabet ?oUnknownSignUnknownSign ?oInvalidAlphabetUnknownSign ?oInvalidAlphabetValueError ?oUnknownSignValueError ?oAnyUnknownSign ?pJoinError ?qJoinError ?rJoinError ?htop ?z0 ?z1 ?z2 ?z3 ?z4 ?z5 ?z6 ?z7 ?z8 ?z9 ?z10 ?z11 ?z12 ?z13 ?z14 ?v0 ?v1 ?v2 ?v3
    (case aC => k_is); (case aCL => k_is); (case a0 => k_is); (case l0 => k_is); (case c0 => k_is); (case k0 => k_is)
    (case a1 => k_is); (case l1 => k_is); (case c1 => k_is); (case k1 => k_is); (case a2 => k_is); (case l2 => k_is)
    (case c2 => k_is); (case k2 => k_is); (case a3 => k_is); (case l3 => k_is); (case c3 => k_is); (case k3 => k_is)
    (case a4 => k_is); (case l4 => k_is); (case c4 => k_is); (case k4 => k_is); (case a5 => k_is); (case l5 => k_is)
    (case c5 => k_is); (case k5 => k_is); (case a6 => k_is); (case l6 => k_is); (case c6 => k_is); (case k6 => k_is)
    (case a7 => k_is); (case l7 => k_is); (case c7 => k_is); (case k7 => k_is); (case a8 => k_is); (case l8 => k_is)
    (case c8 => k_is); (case k8 => k_is); (case a9 => k_is); (case l9 => k_is); (case c9 => k_is); (case k9 => k_is)
    (case a10 => k_is); (case l10 => k_is); (case c10 => k_is); (case k10 => k_is); (case a11 => k_is); (case i11 => k_is)
    (case l11 => k_is); (case c11 => k_is); (case k11 => k_is); (case a12 => k_is); (case s12 => k_is); (case t12 => k_is)
    (case r12 => k_is); (case l12 => k_is); (case c12 => k_is); (case k12 => k_is); (case a13 => k_is); (case i13 => k_is)
    (case l13 => k_is); (case c13 => k_is); (case k13 => k_is); (case a14 => k_is); (case i14 => k_is); (case l14 => k_is)
    (case c14 => k_is); (case k14 => k_is); (case a15 => k_is); (case i15 => k_is); (case l15 => k_is); (case c15 => k_is)
    (case k15 => k_is); (case a16 => k_is); (case i16 => k_is); (case l16 => k_is); (case c16 => k_is); (case k16 => k_is)
    (case a17 => k_is); (case i17 => k_is); (case l17 => k_is); (case c17 => k_is); (case k17 => k_is); (case a18 => k_is)
    (case i18 => k_is); (case l18 => k_is); (case c18 => k_is); (case k18 => k_is); (case a19 => k_is); (case l19 => k_is)
    (case c19 => k_is); (case k19 => k_is); (case a20 => k_is); (case l20 => k_is); (case c20 => k_is); (case k20 => k_is)
    (case a21 => k_is); (case l21 => k_is); (case c21 => k_is); (case ktab => k_is); (case vtab11 => exact rfl); (case k21 => k_is)
    (case a22 => k_is); (case l22 => k_is); (case c22 => k_is); (case k22 => k_is); (case a23 => k_is); (case l23 => k_is)
    (case c23 => k_is); (case k23 => k_is); (case a24 => k_is); (case l24 => k_is); (case c24 => k_is); (case k24 => k_is)
    (case a25 => k_is); (case i25 => k_is); (case l25 => k_is); (case c25 => k_is); (case k25 => k_is); (case a26 => k_is)
    (case i26 => k_is); (case l26 => k_is); (case c26 => k_is); (case k26 => k_is); (case a27 => k_is); (case i27 => k_is)
    (case l27 => k_is); (case c27 => k_is); (case k27 => k_is); (case a28 => k_is); (case i28 => k_is); (case l28 => k_is)
    (case c28 => k_is); (case k28 => k_is); (case a29 => k_is); (case l29 => k_is); (case c29 => k_is); (case k29 => k_is)
    (case a30 => k_is); (case l30 => k_is); (case c30 => k_is); (case k30 => k_is); (case a31 => k_is); (case l31 => k_is)
    (case c31 => k_is); (case k31 => k_is); (case a32 => k_is); (case l32 => k_is); (case c32 => k_is); (case k32 => k_is)
    (case a33 => k_is); (case l33 => k_is); (case c33 => k_is); (case k33 => k_is); (case a34 => k_is); (case l34 => k_is)
    (case c34 => k_is); (case k34 => k_is); (case a35 => k_is); (case l35 => k_is); (case c35 => k_is); (case k35 => k_is)
    (case a36 => k_is); (case l36 => k_is); (case c36 => k_is); (case k36 => k_is); (case a37 => k_is); (case l37 => k_is)
    (case c37 => k_is); (case k37 => k_is); (case a38 => k_is); (case l38 => k_is); (case c38 => k_is); (case k38 => k_is)
    (case a39 => k_is); (case l39 => k_is); (case c39 => k_is); (case k39 => k_is); (case a40 => k_is); (case l40 => k_is)
    (case c40 => k_is); (case k40 => k_is); (case a41 => k_is); (case l41 => k_is); (case c41 => k_is); (case k41 => k_is)
    (case a42 => k_is); (case l42 => k_is); (case c42 => k_is); (case k42 => k_is); (case a43 => k_is); (case l43 => k_is)
    (case c43 => k_is); (case k43 => k_is); (case a44 => k_is); (case l44 => k_is); (case c44 => k_is); (case k44 => k_is)
    (case a45 => k_is); (case l45 => k_is); (case c45 => k_is); (case k45 => k_is); (case pgC => k_is); (case hdC => k_is)
    (case poC => k_is); (case saC => k_is); (case mkC => k_is); (case kcC => k_is); (case nC0 => k_is); (case nC1 => k_is)
    (case nC2 => k_is); (case nC3 => k_is); (case nC4 => k_is); (case pgCL => k_is); (case hdCL => k_is); (case poCL => k_is)
    (case saCL => k_is); (case mkCL => k_is); (case kcCL => k_is); (case nCL0 => k_is); (case nCL1 => k_is); (case nCL2 => k_is)
    (case AInvalidAlphabet => k_is); (case AUnknownSign => k_is); (case ANotProper => k_is); (case AJoinError => k_is); (case AInvalidText => k_is); (case zsuper => k_is)
    (case zopq => k_is); (case hn0 => k_is); (case ht0 => k_is); (case IInvalidAlphabet => k_is); (case TInvalidAlphabet => k_is); (case LInvalidAlphabet => k_is)
    (case DInvalidAlphabet => k_is); (case KInvalidAlphabet => k_is); (case VInvalidAlphabet => exact rfl); (case QInvalidAlphabet => first | rfl | decide +kernel); (case JInvalidAlphabet => k_is); (case XInvalidAlphabet => k_is)
    (case RInvalidAlphabet => exact rfl); (case aInvalidAlphabet => k_is); (case bInvalidAlphabet => k_is); (case cInvalidAlphabet => k_is); (case dInvalidAlphabet => k_is); (case eInvalidAlphabet => ks_is)
    (case fInvalidAlphabet => k_is); (case gInvalidAlphabet => k_is); (case hInvalidAlphabet => k_is); (case iInvalidAlphabet => k_is); (case jInvalidAlphabet => k_is); (case kInvalidAlphabet => k_is)
    (case lInvalidAlphabet => k_is); (case nInvalidAlphabet_alphabet => k_is); (case IUnknownSign => k_is); (case TUnknownSign => k_is); (case LUnknownSign => k_is); (case DUnknownSign => k_is)
    (case KUnknownSign => k_is); (case VUnknownSign => exact rfl); (case QUnknownSign => first | rfl | decide +kernel); (case JUnknownSign => k_is); (case XUnknownSign => k_is); (case RUnknownSign => exact rfl)
    (case aUnknownSign => k_is); (case bUnknownSign => k_is); (case cUnknownSign => k_is); (case dUnknownSign => k_is); (case eUnknownSign => ks_is); (case fUnknownSign => k_is)
    (case gUnknownSign => k_is); (case hUnknownSign => k_is); (case iUnknownSign => k_is); (case jUnknownSign => k_is); (case kUnknownSign => k_is); (case lUnknownSign => k_is)
    (case nUnknownSign_sign => k_is); (case nUnknownSign_at => k_is); (case INotProper => k_is); (case TNotProper => k_is); (case LNotProper => k_is); (case DNotProper => k_is)
    (case KNotProper => k_is); (case VNotProper => exact rfl); (case QNotProper => first | rfl | decide +kernel); (case JNotProper => k_is); (case XNotProper => k_is); (case RNotProper => exact rfl)
    (case aNotProper => k_is); (case bNotProper => k_is); (case cNotProper => k_is); (case dNotProper => k_is); (case eNotProper => ks_is); (case fNotProper => k_is)
    (case gNotProper => k_is); (case hNotProper => k_is); (case iNotProper => k_is); (case jNotProper => k_is); (case kNotProper => k_is); (case lNotProper => k_is)
    (case nNotProper_rank => k_is); (case mInvalidAlphabetJoinError => k_is); (case mUnknownSignJoinError => k_is); (case oInvalidAlphabetInvalidAlphabet => kit_is); (case oUnknownSignUnknownSign => kit_is); (case oInvalidAlphabetUnknownSign => kit_is)
    (case oInvalidAlphabetValueError => kit_is); (case oUnknownSignValueError => kit_is); (case oAnyUnknownSign => kit_is); (case pJoinError => k_is); (case qJoinError => k_is); (case rJoinError => k_is)
    (case htop => decide +kernel); (case z0 => k_is); (case z1 => k_is); (case z2 => k_is); (case z3 => k_is); (case z4 => k_is)
    (case z5 => k_is); (case z6 => k_is); (case z7 => k_is); (case z8 => k_is); (case z9 => k_is); (case z10 => k_is)
    (case z11 => k_is); (case z12 => k_is); (case z13 => k_is); (case z14 => k_is); (case v0 => k_is); (case v1 => k_is)
    (case v2 => k_is); (case v3 => k_is)
  case hT => exact fun w h Y => PySem.W.km_tabs_of Y _ (by k_mem)
  case hN => exact fun w => ⟨by kernel_rfl, by kernel_rfl⟩
end
