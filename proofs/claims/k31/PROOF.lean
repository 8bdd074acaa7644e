import PyProof.Rows.All
import Wide.All
import OpenK.AllK
import Wide.FinOn
import HandS.ForMost
import HandS.Codes
import HandS.Zip
import HandS.SortKw
import KE.GoesEnum
import KE.GoesZip
import KE.KDictZip
import KE.DataMinMax
import KE.SortData
import PyProof.ListStr
import PyProof.StrBlock2
import HandS.TupAny
import HandS.IsInst
import HandS.Walk
import HandS.Replace
import HandS.DictComp
import HandS.Conv
import HandS.Deep
import HandS.More
import HandS.OwnIter
import PySem.Challenge.RW_rankedjoins_k31_whole_behind_any_edits
set_option Elab.async false
set_option linter.all false
section
namespace RJ
/-- neighbors of a row -/
def adjs (row : List Nat) : List (Nat × Nat) := row.zip row.tail
theorem adjs_cons2 (a b : Nat) (t : List Nat) : adjs (a :: b :: t) = (a, b) :: adjs (b :: t) := rfl
theorem adjs_one (a : Nat) : adjs [a] = [] := rfl
theorem adjs_nil : adjs [] = [] := rfl
/-- one pass from left to right -/
def pass (l r m : Nat) : List Nat → List Nat
  | [] => []
  | [a] => [a]
  | a :: b :: t => if a = l ∧ b = r then m :: pass l r m t else a :: pass l r m (b :: t)
theorem pass_id {l r m : Nat} : ∀ {row : List Nat}, (l, r) ∉ adjs row → pass l r m row = row
  | [], _ => rfl
  | [a], _ => rfl
  | a :: b :: t, h => by
    rw [adjs_cons2] at h
    have h1 : ¬ (a = l ∧ b = r) := fun q => h (by rw [q.1, q.2]; exact List.mem_cons_self ..)
    rw [pass, if_neg h1, pass_id (row := b :: t) fun q => h (List.mem_cons_of_mem _ q)]
theorem pass_head {l r m : Nat} : ∀ {a : Nat} {t : List Nat}, ∃ x rest, pass l r m (a :: t) = x :: rest ∧ (x = a ∨ x = m)
  | a, [] => ⟨a, [], rfl, .inl rfl⟩
  | a, b :: t => by
    rw [pass]
    split
    · exact ⟨m, _, rfl, .inr rfl⟩
    · exact ⟨a, _, rfl, .inl rfl⟩
theorem mem_adjs_cons {p : Nat × Nat} {a : Nat} {t : List Nat} (h : p ∈ adjs t) : p ∈ adjs (a :: t) := by
  cases t with
  | nil => rw [adjs_nil] at h; cases h
  | cons b t => rw [adjs_cons2]; exact List.mem_cons_of_mem _ h
theorem pass_adj {l r m : Nat} {p : Nat × Nat} : ∀ {row : List Nat}, p ∈ adjs (pass l r m row) → (p ∈ adjs row ∧ p ≠ (l, r)) ∨ p.1 = m ∨ p.2 = m
  | [], h => by cases h
  | [a], h => by cases h
  | a :: b :: t, h => by
    rw [pass] at h
    split at h
    · rename_i hab
      cases e : pass l r m t with
      | nil => rw [e] at h; cases h
      | cons x rest =>
        rw [e, adjs_cons2] at h
        rcases List.mem_cons.mp h with q | q
        · exact .inr (.inl (by rw [q]))
        · rw [← e] at q
          rcases pass_adj q with ⟨q1, q2⟩ | q
          · exact .inl ⟨mem_adjs_cons (mem_adjs_cons q1), q2⟩
          · exact .inr q
    · rename_i hab
      obtain ⟨x, rest, e, hx⟩ := pass_head (l := l) (r := r) (m := m) (a := b) (t := t)
      rw [e, adjs_cons2] at h
      rcases List.mem_cons.mp h with q | q
      · rcases hx with hx | hx
        · refine .inl ⟨?_, ?_⟩
          · rw [q, hx, adjs_cons2]; exact List.mem_cons_self ..
          · rw [q, hx]; intro z; exact hab ⟨(Prod.mk.inj z).1, (Prod.mk.inj z).2⟩
        · exact .inr (.inr (by rw [q]; exact hx))
      · rw [← e] at q
        rcases pass_adj q with ⟨q1, q2⟩ | q
        · exact .inl ⟨mem_adjs_cons q1, q2⟩
        · exact .inr q
theorem pass_len {l r m : Nat} : ∀ {row : List Nat}, (pass l r m row).length ≤ row.length
  | [] => Nat.le_refl _
  | [a] => Nat.le_refl _
  | a :: b :: t => by
    rw [pass]
    split
    · have := pass_len (l := l) (r := r) (m := m) (row := t)
      simp only [List.length_cons]; omega
    · have := pass_len (l := l) (r := r) (m := m) (row := b :: t)
      simp only [List.length_cons] at this ⊢; omega
theorem pass_lt {l r m : Nat} : ∀ {row : List Nat}, (l, r) ∈ adjs row → (pass l r m row).length < row.length
  | [], h => by cases h
  | [a], h => by cases h
  | a :: b :: t, h => by
    rw [pass]
    split
    · have := pass_len (l := l) (r := r) (m := m) (row := t)
      simp only [List.length_cons]; omega
    · rename_i hab
      rw [adjs_cons2] at h
      rcases List.mem_cons.mp h with q | q
      · exact absurd ⟨(Prod.mk.inj q).1.symm, (Prod.mk.inj q).2.symm⟩ hab
      · have := pass_lt (l := l) (r := r) (m := m) (row := b :: t) q
        simp only [List.length_cons] at this ⊢; omega
theorem pass_mem {l r m x : Nat} : ∀ {row : List Nat}, x ∈ pass l r m row → x ∈ row ∨ x = m
  | [], h => by cases h
  | [a], h => .inl h
  | a :: b :: t, h => by
    rw [pass] at h
    split at h
    · rcases List.mem_cons.mp h with q | q
      · exact .inr q
      · rcases pass_mem q with q | q
        · exact .inl (List.mem_cons_of_mem _ (List.mem_cons_of_mem _ q))
        · exact .inr q
    · rcases List.mem_cons.mp h with q | q
      · exact .inl (by rw [q]; exact List.mem_cons_self ..)
      · rcases pass_mem q with q | q
        · exact .inl (List.mem_cons_of_mem _ q)
        · exact .inr q
/-- the passes of these pairs, the first of which makes b + k -/
def run (b : Nat) : List (Nat × Nat) → Nat → List Nat → List Nat
  | [], _, row => row
  | p :: ps, k, row => run b ps (k + 1) (pass p.1 p.2 (b + k) row)
def cutL (b : Nat) (ps : List (Nat × Nat)) (row : List Nat) : List Nat := run b ps 0 row
theorem run_append (b : Nat) : ∀ (ps qs : List (Nat × Nat)) (k : Nat) (row : List Nat), run b (ps ++ qs) k row = run b qs (k + ps.length) (run b ps k row)
  | [], qs, k, row => rfl
  | p :: ps, qs, k, row => by
    show run b (ps ++ qs) (k + 1) _ = run b qs (k + (ps.length + 1)) (run b ps (k + 1) _)
    rw [run_append b ps qs, show k + 1 + ps.length = k + (ps.length + 1) by omega]
theorem run_none {b : Nat} : ∀ {ps : List (Nat × Nat)} {k : Nat} {row : List Nat}, (∀ p ∈ ps, p ∉ adjs row) → run b ps k row = row
  | [], _, _, _ => rfl
  | p :: ps, k, row, h => by
    show run b ps (k + 1) (pass p.1 p.2 (b + k) row) = row
    rw [pass_id (h p (List.mem_cons_self ..))]
    exact run_none fun q hq => h q (List.mem_cons_of_mem _ hq)
/-- the parts of a join are pieces ahead of it -/
def WF (b : Nat) (ps : List (Nat × Nat)) : Prop := ∀ i p, ps[i]? = some p → p.1 < b + i ∧ p.2 < b + i
theorem WF.take {b : Nat} {ps : List (Nat × Nat)} (h : WF b ps) (n : Nat) : WF b (ps.take n) := fun i p e => by
  rw [List.getElem?_take] at e
  split at e
  · exact h i p e
  · cases e
theorem take_succ_of {α : Type} {l : List α} {n : Nat} {x : α} (h : l[n]? = some x) : l.take (n + 1) = l.take n ++ [x] := by
  rw [List.take_add_one, h]; rfl
theorem take_len_of {α : Type} {l : List α} {n : Nat} {x : α} (h : l[n]? = some x) : (l.take n).length = n := by
  obtain ⟨h1, _⟩ := List.getElem?_eq_some_iff.mp h
  rw [List.length_take]; omega
theorem cutL_snoc (b : Nat) (ps : List (Nat × Nat)) (q : Nat × Nat) (row : List Nat) : cutL b (ps ++ [q]) row = pass q.1 q.2 (b + ps.length) (cutL b ps row) := by
  unfold cutL
  rw [run_append, Nat.zero_add]; rfl
theorem mem_take_get {α : Type} {l : List α} {n : Nat} {x : α} (h : x ∈ l.take n) : ∃ i, i < n ∧ l[i]? = some x := by
  obtain ⟨i, hi⟩ := List.mem_iff_getElem?.mp h
  rw [List.getElem?_take] at hi
  split at hi
  · exact ⟨i, by assumption, hi⟩
  · cases hi
theorem cut_clean_take {b : Nat} {ps : List (Nat × Nat)} (hw : WF b ps) (row : List Nat) : ∀ n, ∀ p ∈ ps.take n, p ∉ adjs (cutL b (ps.take n) row)
  | 0, p, hp => by rw [List.take_zero] at hp; cases hp
  | n + 1, p, hp => by
    cases e : ps[n]? with
    | none =>
      have hle : ps.length ≤ n := List.getElem?_eq_none_iff.mp e
      rw [List.take_of_length_le (by omega)] at hp ⊢
      have := cut_clean_take hw row n p (by rw [List.take_of_length_le hle]; exact hp)
      rw [List.take_of_length_le hle] at this
      exact this
    | some q =>
      rw [take_succ_of e] at hp ⊢
      rw [cutL_snoc, take_len_of e]
      have hq := hw n q e
      intro hm
      rcases pass_adj hm with ⟨h1, h2⟩ | h1
      · rcases List.mem_append.mp hp with z | z
        · exact cut_clean_take hw row n p z h1
        · exact h2 (List.mem_singleton.mp z)
      · have hlt : p.1 < b + n ∧ p.2 < b + n := by
          rcases List.mem_append.mp hp with z | z
          · obtain ⟨i, hi, ei⟩ := mem_take_get z
            have := hw i p ei
            omega
          · rw [List.mem_singleton.mp z]; exact hq
        omega
theorem cut_clean {b : Nat} {ps : List (Nat × Nat)} (hw : WF b ps) (row : List Nat) : ∀ p ∈ ps, p ∉ adjs (cutL b ps row) := by
  have h := cut_clean_take hw row ps.length
  rw [List.take_length] at h
  exact h
theorem split_at {α : Type} {l : List α} {n : Nat} {x : α} (h : l[n]? = some x) : l = l.take n ++ x :: l.drop (n + 1) := by
  obtain ⟨h1, h2⟩ := List.getElem?_eq_some_iff.mp h
  rw [← h2, ← List.drop_eq_getElem_cons h1, List.take_append_drop]
theorem cutL_at {b : Nat} {ps : List (Nat × Nat)} {r : Nat} {p : Nat × Nat} (h : ps[r]? = some p) (row : List Nat) (hno : ∀ j q, j < r → ps[j]? = some q → q ∉ adjs row) :
    cutL b ps row = run b (ps.drop (r + 1)) (r + 1) (pass p.1 p.2 (b + r) row) := by
  have e := split_at h
  have hl := take_len_of h
  unfold cutL
  rw [e, run_append, hl, Nat.zero_add]
  rw [← e]
  rw [run_none (ps := ps.take r) (row := row) fun q hq => by
    obtain ⟨j, hj, ej⟩ := mem_take_get hq
    exact hno j q hj ej]
  rfl
/-- the lowest rank that is there may be joined first -/
theorem cut_step {b : Nat} {ps : List (Nat × Nat)} (hw : WF b ps) {r : Nat} {p : Nat × Nat} (h : ps[r]? = some p) (row : List Nat) (hno : ∀ j q, j < r → ps[j]? = some q → q ∉ adjs row) :
    cutL b ps (pass p.1 p.2 (b + r) row) = cutL b ps row := by
  have hp := hw r p h
  have no2 : ∀ j q, j < r → ps[j]? = some q → q ∉ adjs (pass p.1 p.2 (b + r) row) := fun j q hj ej hm => by
    rcases pass_adj hm with ⟨z, _⟩ | z
    · exact hno j q hj ej z
    · have := hw j q ej; omega
  have no3 : (p.1, p.2) ∉ adjs (pass p.1 p.2 (b + r) row) := fun hm => by
    rcases pass_adj hm with ⟨_, z⟩ | z
    · exact z rfl
    · have z' : p.1 = b + r ∨ p.2 = b + r := z
      omega
  rw [cutL_at h row hno, cutL_at h _ no2, pass_id no3]
theorem cut_done {b : Nat} {ps : List (Nat × Nat)} {row : List Nat} (h : ∀ p ∈ ps, p ∉ adjs row) : cutL b ps row = row := run_none h
theorem adjs_append {u v : List Nat} {x : Nat} : adjs (u ++ x :: v) = adjs (u ++ [x]) ++ adjs (x :: v) := by
  induction u with
  | nil => rfl
  | cons a u ih =>
    cases u with
    | nil => rfl
    | cons c u =>
      show (a, c) :: adjs (c :: u ++ x :: v) = ((a, c) :: adjs (c :: u ++ [x])) ++ adjs (x :: v)
      exact congrArg (fun z => (a, c) :: z) ih
theorem pass_left {l r m : Nat} : ∀ {u v : List Nat}, (l, r) ∉ adjs (u ++ [l]) → pass l r m (u ++ l :: r :: v) = u ++ m :: pass l r m v
  | [], v, _ => by
    show pass l r m (l :: r :: v) = m :: pass l r m v
    rw [pass, if_pos ⟨rfl, rfl⟩]
  | [a], v, h => by
    have h1 : ¬ (a = l ∧ l = r) := fun q => h (by show (l, r) ∈ adjs [a, l]; rw [adjs_cons2, q.1, ← q.2]; exact List.mem_cons_self ..)
    show pass l r m (a :: l :: r :: v) = a :: m :: pass l r m v
    rw [pass, if_neg h1, pass, if_pos ⟨rfl, rfl⟩]
  | a :: c :: u, v, h => by
    have h1 : ¬ (a = l ∧ c = r) := fun q => h (by show (l, r) ∈ adjs (a :: c :: (u ++ [l])); rw [adjs_cons2, q.1, q.2]; exact List.mem_cons_self ..)
    have h2 : (l, r) ∉ adjs ((c :: u) ++ [l]) := fun q => h (by show (l, r) ∈ adjs (a :: c :: (u ++ [l])); exact mem_adjs_cons q)
    show pass l r m (a :: c :: (u ++ l :: r :: v)) = a :: (c :: u ++ m :: pass l r m v)
    rw [pass, if_neg h1]
    exact congrArg (a :: ·) (pass_left (u := c :: u) h2)
theorem pass_over {l r m : Nat} (h1 : m ≠ l) (h2 : m ≠ r) : ∀ {u v : List Nat}, (l, r) ∉ adjs u → pass l r m (u ++ m :: v) = u ++ m :: pass l r m v
  | [], v, _ => by
    cases v with
    | nil => rfl
    | cons c v =>
      show pass l r m (m :: c :: v) = m :: pass l r m (c :: v)
      rw [pass, if_neg fun q => h1 q.1]
  | [a], v, h => by
    show pass l r m (a :: m :: v) = a :: m :: pass l r m v
    rw [pass, if_neg fun q => h2 q.2]
    exact congrArg (a :: ·) (pass_over h1 h2 (u := []) (by rw [adjs_nil]; exact List.not_mem_nil))
  | a :: c :: u, v, h => by
    have hn : ¬ (a = l ∧ c = r) := fun q => h (by rw [adjs_cons2, q.1, q.2]; exact List.mem_cons_self ..)
    show pass l r m (a :: c :: (u ++ m :: v)) = a :: (c :: u ++ m :: pass l r m v)
    rw [pass, if_neg hn]
    exact congrArg (a :: ·) (pass_over h1 h2 (u := c :: u) fun q => h (mem_adjs_cons q))
theorem adjs_sub_left {u v : List Nat} {p : Nat × Nat} (h : p ∈ adjs u) : p ∈ adjs (u ++ v) := by
  induction u with
  | nil => cases h
  | cons a u ih =>
    cases u with
    | nil => cases h
    | cons c u =>
      rw [adjs_cons2] at h
      show p ∈ (a, c) :: adjs (c :: u ++ v)
      rcases List.mem_cons.mp h with q | q
      · rw [q]; exact List.mem_cons_self ..
      · exact List.mem_cons_of_mem _ (ih q)
theorem adjs_sub_right {u v : List Nat} {p : Nat × Nat} (h : p ∈ adjs v) : p ∈ adjs (u ++ v) := by
  induction u with
  | nil => exact h
  | cons a u ih => exact mem_adjs_cons ih
/-- the leftmost place of the lowest rank may be joined first -/
theorem cut_first {b : Nat} {ps : List (Nat × Nat)} (hw : WF b ps) {r : Nat} {p : Nat × Nat} (h : ps[r]? = some p) {u v : List Nat} (hu : p ∉ adjs (u ++ [p.1]))
    (hno : ∀ j q, j < r → ps[j]? = some q → q ∉ adjs (u ++ p.1 :: p.2 :: v)) : cutL b ps (u ++ (b + r) :: v) = cutL b ps (u ++ p.1 :: p.2 :: v) := by
  have hp := hw r p h
  have no2 : ∀ j q, j < r → ps[j]? = some q → q ∉ adjs (u ++ (b + r) :: v) := fun j q hj ej hm => by
    have hq := hw j q ej
    have key : q ∈ adjs u ∨ q ∈ adjs v ∨ q.1 = b + r ∨ q.2 = b + r := by
      rw [adjs_append] at hm
      rcases List.mem_append.mp hm with z | z
      · -- adjs (u ++ [b + r])
        clear hm
        revert z
        clear hu hno
        induction u with
        | nil => intro z; cases z
        | cons a u ih =>
          intro z
          cases u with
          | nil =>
            have z' : q ∈ [(a, b + r)] := z
            rw [List.mem_singleton.mp z']
            exact .inr (.inr (.inr rfl))
          | cons c u =>
            have z' : q ∈ (a, c) :: adjs (c :: u ++ [b + r]) := z
            rcases List.mem_cons.mp z' with w | w
            · refine .inl ?_
              rw [w, adjs_cons2]; exact List.mem_cons_self ..
            · rcases ih w with y | y
              · exact .inl (mem_adjs_cons y)
              · exact .inr y
      · cases v with
        | nil => cases z
        | cons c v =>
          rw [adjs_cons2] at z
          rcases List.mem_cons.mp z with w | w
          · rw [w]; exact .inr (.inr (.inl rfl))
          · exact .inr (.inl w)
    rcases key with z | z | z
    · exact hno j q hj ej (adjs_sub_left z)
    · exact hno j q hj ej (adjs_sub_right (mem_adjs_cons (mem_adjs_cons z)))
    · omega
  rw [cutL_at h _ hno, cutL_at h _ no2, pass_left hu, pass_over (by omega) (by omega) fun q => hu (adjs_sub_left q)]
end RJ
end

section
set_option maxRecDepth 100000
namespace RJ
/-- the row of the letters -/
def lets (al t : List Nat) : List Nat := t.map fun c => al.idxOf c
theorem snoc_ind {α : Type} {M : List α → Prop} (h0 : M []) (h1 : ∀ l a, M l → M (l ++ [a])) (l : List α) : M l := by
  have key : ∀ r : List α, M r.reverse := by
    intro r
    induction r with
    | nil => exact h0
    | cons a r ih => rw [List.reverse_cons]; exact h1 _ _ ih
  rw [← l.reverse_reverse]; exact key _
/-- the texts of the pieces -/
def textsOf (al : List Nat) (ps : List (Nat × Nat)) : List (List Nat) := ps.foldl (fun ts p => ts ++ [ts.getD p.1 [] ++ ts.getD p.2 []]) (al.map fun c => [c])
theorem textsOf_snoc (al : List Nat) (ps : List (Nat × Nat)) (p : Nat × Nat) : textsOf al (ps ++ [p]) = textsOf al ps ++ [(textsOf al ps).getD p.1 [] ++ (textsOf al ps).getD p.2 []] := by
  unfold textsOf
  rw [List.foldl_append]; rfl
theorem textsOf_len (al : List Nat) (ps : List (Nat × Nat)) : (textsOf al ps).length = al.length + ps.length := by
  induction ps using snoc_ind with
  | h0 => unfold textsOf; rw [List.foldl_nil, List.length_map]; rfl
  | h1 ps p ih => rw [textsOf_snoc, List.length_append, ih, List.length_append]; rfl
theorem getD_mem_or {ts : List (List Nat)} {i : Nat} : ts.getD i [] ∈ ts ∨ ts.getD i [] = [] := by
  rw [List.getD_eq_getElem?_getD]
  cases h : ts[i]? with
  | none => exact .inr rfl
  | some t => exact .inl (List.mem_of_getElem? h)
theorem textsOf_al {al : List Nat} {ps : List (Nat × Nat)} : ∀ t ∈ textsOf al ps, ∀ c ∈ t, c ∈ al := by
  induction ps using snoc_ind with
  | h0 =>
    intro t ht c hc
    unfold textsOf at ht
    rw [List.foldl_nil] at ht
    obtain ⟨d, hd, rfl⟩ := List.mem_map.mp ht
    rw [List.mem_singleton.mp hc]; exact hd
  | h1 ps p ih =>
    intro t ht c hc
    rw [textsOf_snoc] at ht
    rcases List.mem_append.mp ht with h | h
    · exact ih t h c hc
    · rw [List.mem_singleton.mp h] at hc
      have key : ∀ i, c ∈ (textsOf al ps).getD i [] → c ∈ al := fun i hi => by
        rcases getD_mem_or (ts := textsOf al ps) (i := i) with m | m
        · exact ih _ m c hi
        · rw [m] at hi; cases hi
      rcases List.mem_append.mp hc with z | z
      · exact key _ z
      · exact key _ z
/-- may the pair be the next join -/
def okP (al : List Nat) (ts : List (List Nat)) (ps : List (Nat × Nat)) (p : Nat × Nat) : Prop :=
  p.1 < ts.length ∧ p.2 < ts.length ∧ (ts.getD p.1 [] ++ ts.getD p.2 []).length ≤ 40 ∧ cutL al.length ps (lets al (ts.getD p.1 [] ++ ts.getD p.2 [])) = [p.1, p.2]
instance (al ts ps p) : Decidable (okP al ts ps p) := by unfold okP; infer_instance
def Proper (al : List Nat) (ps : List (Nat × Nat)) : Prop := ∀ i p, ps[i]? = some p → okP al (textsOf al (ps.take i)) (ps.take i) p
theorem Proper.wf {al : List Nat} {ps : List (Nat × Nat)} (h : Proper al ps) : WF al.length ps := fun i p e => by
  obtain ⟨h1, h2, _⟩ := h i p e
  rw [textsOf_len, take_len_of e] at h1 h2
  exact ⟨h1, h2⟩
theorem Proper.take {al : List Nat} {ps : List (Nat × Nat)} (h : Proper al ps) (n : Nat) : Proper al (ps.take n) := fun i p e => by
  rw [List.getElem?_take] at e
  split at e
  · have := h i p e
    rw [List.take_take, Nat.min_eq_left (by omega)]
    exact this
  · cases e
theorem Proper.nil (al : List Nat) : Proper al [] := fun i p e => by simp at e
theorem Proper.snoc {al : List Nat} {ps : List (Nat × Nat)} {p : Nat × Nat} (h : Proper al ps) (hp : okP al (textsOf al ps) ps p) : Proper al (ps ++ [p]) := fun i q e => by
  by_cases hi : i < ps.length
  · rw [List.getElem?_append_left hi] at e
    rw [List.take_append_of_le_length (by omega)]
    exact h i q e
  · rw [List.getElem?_append_right (by omega)] at e
    have hi0 : i - ps.length = 0 := by
      rcases Nat.eq_zero_or_pos (i - ps.length) with z | z
      · exact z
      · rw [List.getElem?_eq_none (by rw [List.length_singleton]; exact z)] at e; cases e
    rw [hi0] at e
    have e' : p = q := by simpa using e
    subst e'
    have hi' : i = ps.length := by omega
    rw [hi', List.take_left]
    exact hp
theorem Proper.front {al : List Nat} {ps : List (Nat × Nat)} {p : Nat × Nat} (h : Proper al (ps ++ [p])) : Proper al ps ∧ okP al (textsOf al ps) ps p := by
  refine ⟨?_, ?_⟩
  · have := h.take ps.length
    rw [List.take_left] at this; exact this
  · have := h ps.length p (by rw [List.getElem?_append_right (Nat.le_refl _), Nat.sub_self]; rfl)
    rw [List.take_left] at this; exact this
theorem Proper.short {al : List Nat} {ps : List (Nat × Nat)} (h : Proper al ps) : ∀ t ∈ textsOf al ps, t.length ≤ 40 := by
  induction ps using snoc_ind with
  | h0 =>
    intro t ht
    unfold textsOf at ht
    rw [List.foldl_nil] at ht
    obtain ⟨d, hd, rfl⟩ := List.mem_map.mp ht
    simp
  | h1 ps p ih =>
    intro t ht
    obtain ⟨h1, h2⟩ := h.front
    rw [textsOf_snoc] at ht
    rcases List.mem_append.mp ht with q | q
    · exact ih h1 t q
    · rw [List.mem_singleton.mp q]; exact h2.2.2.1
/-- the cut of a piece's text is this piece -/
theorem cut_piece {al : List Nat} (hal : al.Nodup) {ps : List (Nat × Nat)} (h : Proper al ps) : ∀ i t, (textsOf al ps)[i]? = some t → cutL al.length ps (lets al t) = [i] := by
  induction ps using snoc_ind with
  | h0 =>
    intro i t ht
    unfold textsOf at ht
    rw [List.foldl_nil, List.getElem?_map] at ht
    cases e : al[i]? with
    | none => rw [e] at ht; cases ht
    | some c =>
      rw [e] at ht
      have : t = [c] := (Option.some.inj ht).symm
      subst this
      obtain ⟨hi, hc⟩ := List.getElem?_eq_some_iff.mp e
      show [al.idxOf c] = [i]
      have h1 : al.idxOf c < al.length := List.idxOf_lt_length_iff.mpr (List.mem_of_getElem? e)
      have h2 : al[al.idxOf c] = al[i] := by rw [List.getElem_idxOf h1, hc]
      rw [(List.getElem_inj hal).mp h2]
  | h1 ps p ih =>
    intro i t ht
    obtain ⟨h1, h2⟩ := h.front
    rw [cutL_snoc]
    rw [textsOf_snoc] at ht
    by_cases hi : i < (textsOf al ps).length
    · rw [List.getElem?_append_left hi] at ht
      rw [ih h1 i t ht]; rfl
    · rw [List.getElem?_append_right (by omega)] at ht
      have hi0 : i - (textsOf al ps).length = 0 := by
        rcases Nat.eq_zero_or_pos (i - (textsOf al ps).length) with z | z
        · exact z
        · rw [List.getElem?_eq_none (by rw [List.length_singleton]; exact z)] at ht; cases ht
      rw [hi0] at ht
      have e' : (textsOf al ps).getD p.1 [] ++ (textsOf al ps).getD p.2 [] = t := by simpa using ht
      rw [← e', h2.2.2.2]
      have hi' : i = al.length + ps.length := by rw [textsOf_len] at hi0 hi; omega
      show pass p.1 p.2 (al.length + ps.length) [p.1, p.2] = [i]
      rw [pass, if_pos ⟨rfl, rfl⟩, hi']; rfl
theorem texts_inj {al : List Nat} (hal : al.Nodup) {ps : List (Nat × Nat)} (h : Proper al ps) {i j : Nat} {t : List Nat} (hi : (textsOf al ps)[i]? = some t) (hj : (textsOf al ps)[j]? = some t) : i = j := by
  have h1 := cut_piece hal h i t hi
  rw [cut_piece hal h j t hj] at h1
  injection h1 with h1; exact h1.symm
theorem texts_nodup {al : List Nat} (hal : al.Nodup) {ps : List (Nat × Nat)} (h : Proper al ps) : (textsOf al ps).Nodup := by
  refine List.pairwise_iff_getElem.mpr fun i j hi hj hij e => ?_
  have := texts_inj hal h (List.getElem?_eq_getElem hi) (by rw [List.getElem?_eq_getElem hj, ← e])
  omega
/-- the text of a row -/
def textR (ts : List (List Nat)) (row : List Nat) : List Nat := (row.map fun i => ts.getD i []).flatten
theorem getD_short {ts : List (List Nat)} (h : ∀ t ∈ ts, t.length ≤ 40) (i : Nat) : (ts.getD i []).length ≤ 40 := by
  rcases getD_mem_or (ts := ts) (i := i) with m | m
  · exact h _ m
  · rw [m]; exact Nat.zero_le _
theorem run_len (b : Nat) : ∀ (ps : List (Nat × Nat)) (k : Nat) (row : List Nat), (run b ps k row).length ≤ row.length
  | [], _, _ => Nat.le_refl _
  | p :: ps, k, row => Nat.le_trans (run_len b ps (k + 1) _) pass_len
theorem cutL_len (b : Nat) (ps : List (Nat × Nat)) (row : List Nat) : (cutL b ps row).length ≤ row.length := run_len b ps 0 row
theorem textR_cons (ts : List (List Nat)) (a : Nat) (row : List Nat) : textR ts (a :: row) = ts.getD a [] ++ textR ts row := rfl
theorem pass_text {ts : List (List Nat)} {l r m : Nat} (h : ts.getD m [] = ts.getD l [] ++ ts.getD r []) : ∀ row : List Nat, textR ts (pass l r m row) = textR ts row
  | [] => rfl
  | [a] => rfl
  | a :: b :: t => by
    rw [pass]
    split
    · rename_i c
      obtain ⟨rfl, rfl⟩ := c
      rw [textR_cons, textR_cons, textR_cons, pass_text h t, h, List.append_assoc]
    · rw [textR_cons, textR_cons ts a, pass_text h (b :: t)]
theorem run_text {ts : List (List Nat)} {b : Nat} : ∀ (qs : List (Nat × Nat)) (k : Nat) (row : List Nat), (∀ (i : Nat) (q : Nat × Nat), qs[i]? = some q → ts.getD (b + k + i) [] = ts.getD q.1 [] ++ ts.getD q.2 []) → textR ts (run b qs k row) = textR ts row
  | [], _, _, _ => rfl
  | q :: qs, k, row, h => by
    have h0 := h 0 q rfl
    show textR ts (run b qs (k + 1) (pass q.1 q.2 (b + k) row)) = _
    rw [run_text qs (k + 1) _ fun i p e => by
      have := h (i + 1) p e
      rw [show b + (k + 1) + i = b + k + (i + 1) by omega]; exact this]
    exact pass_text h0 row
theorem texts_at {al : List Nat} {ps : List (Nat × Nat)} (h : WF al.length ps) : ∀ (i : Nat) (p : Nat × Nat), ps[i]? = some p → (textsOf al ps).getD (al.length + i) [] = (textsOf al ps).getD p.1 [] ++ (textsOf al ps).getD p.2 [] := by
  induction ps using snoc_ind with
  | h0 => intro i p e; cases e
  | h1 ps q ih =>
    intro i p e
    have hw : WF al.length ps := by have := h.take ps.length; rw [List.take_left] at this; exact this
    have key : ∀ j, j < al.length + ps.length → (textsOf al (ps ++ [q])).getD j [] = (textsOf al ps).getD j [] := fun j hj => by
      rw [textsOf_snoc, List.getD_eq_getElem?_getD, List.getElem?_append_left (by rw [textsOf_len]; exact hj), ← List.getD_eq_getElem?_getD]
    have hp := h i p e
    by_cases c : i < ps.length
    · rw [List.getElem?_append_left c] at e
      rw [key _ (by omega), key _ (by omega), key _ (by omega)]
      exact ih hw i p e
    · have hi : i = ps.length := by
        have := (List.getElem?_eq_some_iff.mp e).1
        rw [List.length_append, List.length_singleton] at this
        omega
      subst hi
      rw [List.getElem?_append_right (Nat.le_refl _), Nat.sub_self] at e
      have e' : q = p := Option.some.inj e
      subst e'
      rw [key q.1 hp.1, key q.2 hp.2, textsOf_snoc, List.getD_eq_getElem?_getD, List.getElem?_append_right (by rw [textsOf_len]; exact Nat.le_refl _), textsOf_len, Nat.sub_self]; rfl
theorem texts_letter {al : List Nat} {ps : List (Nat × Nat)} {i c : Nat} (h : al[i]? = some c) : (textsOf al ps).getD i [] = [c] := by
  have hi := (List.getElem?_eq_some_iff.mp h).1
  induction ps using snoc_ind with
  | h0 =>
    unfold textsOf
    rw [List.foldl_nil, List.getD_eq_getElem?_getD, List.getElem?_map, h]; rfl
  | h1 ps q ih =>
    rw [textsOf_snoc, List.getD_eq_getElem?_getD, List.getElem?_append_left (by rw [textsOf_len]; omega), ← List.getD_eq_getElem?_getD]
    exact ih
theorem text_lets {al : List Nat} {ps : List (Nat × Nat)} {t : List Nat} (h : ∀ c ∈ t, c ∈ al) : textR (textsOf al ps) (lets al t) = t := by
  induction t with
  | nil => rfl
  | cons c t ih =>
    show (textsOf al ps).getD (al.idxOf c) [] ++ textR (textsOf al ps) (lets al t) = c :: t
    rw [ih fun d hd => h d (List.mem_cons_of_mem _ hd), texts_letter (by
      have hc := h c (List.mem_cons_self ..)
      rw [List.getElem?_eq_getElem (List.idxOf_lt_length_of_mem hc), List.getElem_idxOf])]
    rfl
theorem text_cut {al : List Nat} {ps : List (Nat × Nat)} (hw : WF al.length ps) {t : List Nat} (h : ∀ c ∈ t, c ∈ al) : textR (textsOf al ps) (cutL al.length ps (lets al t)) = t := by
  unfold cutL
  rw [run_text ps 0 _ fun i q e => by rw [Nat.add_zero]; exact texts_at hw i q e]
  exact text_lets h
theorem run_mem {b x : Nat} : ∀ (qs : List (Nat × Nat)) (k : Nat) (row : List Nat), x ∈ run b qs k row → x ∈ row ∨ (b + k ≤ x ∧ x < b + k + qs.length)
  | [], _, _, h => .inl h
  | q :: qs, k, row, h => by
    rcases run_mem qs (k + 1) _ h with z | z
    · rcases pass_mem z with y | y
      · exact .inl y
      · exact .inr ⟨by omega, by rw [List.length_cons]; omega⟩
    · exact .inr ⟨by omega, by rw [List.length_cons]; omega⟩
theorem lets_lt {al t : List Nat} (h : ∀ c ∈ t, c ∈ al) : ∀ i ∈ lets al t, i < al.length := fun i hi => by
  obtain ⟨c, hc, rfl⟩ := List.mem_map.mp hi
  exact List.idxOf_lt_length_of_mem (h c hc)
theorem cut_lt {al : List Nat} {ps : List (Nat × Nat)} {t : List Nat} (h : ∀ c ∈ t, c ∈ al) : ∀ i ∈ cutL al.length ps (lets al t), i < al.length + ps.length := fun i hi => by
  rcases run_mem ps 0 _ hi with z | z
  · have := lets_lt h i z; omega
  · omega
theorem cut_nil (b : Nat) (ps : List (Nat × Nat)) : cutL b ps [] = [] := List.eq_nil_of_length_eq_zero (Nat.le_zero.mp (cutL_len b ps []))
def apart (m l r : Nat) (row : List Nat) : List Nat := row.flatMap fun x => if x = m then [l, r] else [x]
theorem apart_nil (m l r : Nat) : apart m l r [] = [] := rfl
theorem apart_cons (m l r x : Nat) (t : List Nat) : apart m l r (x :: t) = (if x = m then [l, r] else [x]) ++ apart m l r t := rfl
theorem apart_app (m l r : Nat) (u v : List Nat) : apart m l r (u ++ v) = apart m l r u ++ apart m l r v := List.flatMap_append
theorem apart_pass {m l r : Nat} : ∀ {row : List Nat}, m ∉ row → apart m l r (pass l r m row) = row
  | [], _ => rfl
  | [a], h => by
    have : a ≠ m := fun e => h (by rw [e]; exact List.mem_cons_self ..)
    show (if a = m then [l, r] else [a]) ++ [] = [a]
    rw [if_neg this]; rfl
  | a :: b :: t, h => by
    have ha : a ≠ m := fun e => h (by rw [e]; exact List.mem_cons_self ..)
    have ht : m ∉ b :: t := fun z => h (List.mem_cons_of_mem _ z)
    rw [pass]
    split
    · rename_i c
      obtain ⟨rfl, rfl⟩ := c
      rw [apart_cons, if_pos rfl, apart_pass (fun z => ht (List.mem_cons_of_mem _ z))]; rfl
    · rw [apart_cons, if_neg ha, apart_pass ht]; rfl
def splitD (b : Nat) (ps : List (Nat × Nat)) (n : Nat) : Nat → List Nat → List Nat
  | 0, row => row
  | k + 1, row => if n ≤ k then splitD b ps n k (apart (b + k) (ps.getD k (0, 0)).1 (ps.getD k (0, 0)).2 row) else row
variable {b n : Nat} {ps : List (Nat × Nat)}
theorem splitD_le {k : Nat} (h : k ≤ n) (row : List Nat) : splitD b ps n k row = row := by
  cases k with
  | zero => rfl
  | succ k => rw [splitD, if_neg (by omega)]
theorem splitD_app : ∀ (k : Nat) (u v : List Nat), splitD b ps n k (u ++ v) = splitD b ps n k u ++ splitD b ps n k v
  | 0, _, _ => rfl
  | k + 1, u, v => by
    rw [splitD, splitD, splitD]
    split
    · rw [apart_app, splitD_app k]
    · rfl
theorem splitD_nil (k : Nat) : splitD b ps n k [] = [] := by
  induction k with
  | zero => rfl
  | succ k ih =>
    rw [splitD, apart_nil, ih]
    split <;> rfl
theorem apart_one {m l r x : Nat} (h : x ≠ m) : apart m l r [x] = [x] := by
  show (if x = m then [l, r] else [x]) ++ [] = [x]
  rw [if_neg h]; rfl
theorem splitD_low {j y : Nat} (hy : y < b + j) : ∀ {k : Nat}, j ≤ k → splitD b ps n k [y] = splitD b ps n j [y]
  | 0, h => by rw [Nat.le_zero.mp h]
  | k + 1, h => by
    by_cases c : j = k + 1
    · rw [c]
    · rw [splitD]
      split
      · rw [apart_one (by omega)]; exact splitD_low hy (by omega)
      · rw [splitD_le (by omega)]
theorem splitD_small {x : Nat} (hx : x < b + n) (k : Nat) : splitD b ps n k [x] = [x] := by
  by_cases h : n ≤ k
  · rw [splitD_low hx h, splitD_le (Nat.le_refl _)]
  · exact splitD_le (by omega) _
theorem splitD_big {j : Nat} {p : Nat × Nat} (hp : ps[j]? = some p) (hn : n ≤ j) (hw : p.1 < b + j ∧ p.2 < b + j) : ∀ {k : Nat}, j < k → splitD b ps n k [b + j] = splitD b ps n k [p.1, p.2]
  | 0, h => absurd h (Nat.not_lt_zero _)
  | k + 1, h => by
    have e1 : splitD b ps n (k + 1) [p.1, p.2] = splitD b ps n j [p.1] ++ splitD b ps n j [p.2] := by
      rw [show [p.1, p.2] = [p.1] ++ [p.2] from rfl, splitD_app, splitD_low hw.1 (by omega), splitD_low hw.2 (by omega)]
    by_cases c : j = k
    · subst c
      rw [e1, splitD, if_pos hn]
      have e : ps.getD j (0, 0) = p := by rw [List.getD_eq_getElem?_getD, hp]; rfl
      rw [e]
      show splitD b ps n j ((if b + j = b + j then [p.1, p.2] else [b + j]) ++ []) = _
      rw [if_pos rfl, ← splitD_app]; rfl
    · rw [e1, splitD, if_pos (by omega), apart_one (by omega), splitD_big hp hn hw (show j < k by omega)]
      rw [show [p.1, p.2] = [p.1] ++ [p.2] from rfl, splitD_app, splitD_low hw.1 (by omega), splitD_low hw.2 (by omega)]
theorem splitD_cut {row : List Nat} (hrow : ∀ x ∈ row, x < b) (hn : n ≤ ps.length) : ∀ k, k ≤ ps.length → n ≤ k → splitD b ps n k (cutL b (ps.take k) row) = cutL b (ps.take n) row
  | 0, _, h => by rw [Nat.le_zero.mp h]; rfl
  | k + 1, hk, h => by
    by_cases c : n = k + 1
    · rw [c, splitD_le (Nat.le_refl _)]
    · obtain ⟨p, hp⟩ : ∃ p, ps[k]? = some p := ⟨_, List.getElem?_eq_getElem (by omega)⟩
      have e : ps.getD k (0, 0) = p := by rw [List.getD_eq_getElem?_getD, hp]; rfl
      rw [splitD, if_pos (by omega), e, take_succ_of hp, cutL_snoc, take_len_of hp, apart_pass fun hm => ?_]
      · exact splitD_cut hrow hn k (by omega) (by omega)
      · rcases run_mem _ 0 _ hm with z | z
        · have := hrow _ z; omega
        · rw [take_len_of hp] at z; omega
theorem apart_text {ts : List (List Nat)} {m l r : Nat} (h : ts.getD m [] = ts.getD l [] ++ ts.getD r []) : ∀ row : List Nat, textR ts (apart m l r row) = textR ts row
  | [] => rfl
  | x :: t => by
    have app : ∀ u v : List Nat, textR ts (u ++ v) = textR ts u ++ textR ts v := fun u v => by unfold textR; rw [List.map_append, List.flatten_append]
    rw [apart_cons, app, apart_text h t, textR_cons ts x]
    split
    · rename_i e
      subst e
      rw [h]
      show (ts.getD l [] ++ (ts.getD r [] ++ [])) ++ _ = _
      rw [List.append_nil]
    · show (ts.getD x [] ++ []) ++ _ = _
      rw [List.append_nil]
theorem splitD_text {al : List Nat} (hw : WF al.length ps) : ∀ (k : Nat) (row : List Nat), k ≤ ps.length → textR (textsOf al ps) (splitD al.length ps n k row) = textR (textsOf al ps) row
  | 0, _, _ => rfl
  | k + 1, row, hk => by
    rw [splitD]
    split
    · obtain ⟨p, hp⟩ : ∃ p, ps[k]? = some p := ⟨_, List.getElem?_eq_getElem (by omega)⟩
      have e : ps.getD k (0, 0) = p := by rw [List.getD_eq_getElem?_getD, hp]; rfl
      rw [splitD_text hw k _ (by omega), e]
      exact apart_text (texts_at hw k p hp) row
    · rfl
theorem splitD_mem (hw : WF b ps) : ∀ (k : Nat) (row : List Nat), k ≤ ps.length → (∀ x ∈ row, x < b + ps.length) → ∀ x ∈ splitD b ps n k row, x < b + ps.length
  | 0, _, _, h => h
  | k + 1, row, hk, h => by
    rw [splitD]
    split
    · obtain ⟨p, hp⟩ : ∃ p, ps[k]? = some p := ⟨_, List.getElem?_eq_getElem (by omega)⟩
      have e : ps.getD k (0, 0) = p := by rw [List.getD_eq_getElem?_getD, hp]; rfl
      refine splitD_mem hw k _ (by omega) fun x hx => ?_
      rw [e] at hx
      obtain ⟨y, hy, hxy⟩ := List.mem_flatMap.mp hx
      have hwk := hw k p hp
      split at hxy
      · rcases List.mem_cons.mp hxy with z | z
        · omega
        · rw [List.mem_singleton.mp z]; omega
      · rw [List.mem_singleton.mp hxy]; exact h y hy
    · exact h
end RJ
end

section
set_option maxRecDepth 100000
namespace RJ
/-! ### spines, crossings and cuts -/
section
variable {b n : Nat} {ps : List (Nat × Nat)}
/-- a row taken back to stage n -/
def Dn (b : Nat) (ps : List (Nat × Nat)) (n : Nat) (row : List Nat) : List Nat := splitD b ps n ps.length row
theorem Dn_app (u v : List Nat) : Dn b ps n (u ++ v) = Dn b ps n u ++ Dn b ps n v := splitD_app _ _ _
theorem Dn_cons (x : Nat) (v : List Nat) : Dn b ps n (x :: v) = Dn b ps n [x] ++ Dn b ps n v := splitD_app _ [x] v
theorem Dn_nil : Dn b ps n [] = [] := splitD_nil _
theorem Dn_small {x : Nat} (hx : x < b + n) : Dn b ps n [x] = [x] := splitD_small hx _
theorem Dn_full (row : List Nat) : Dn b ps ps.length row = row := splitD_le (Nat.le_refl _) row
theorem Dn_big (hw : WF b ps) {j : Nat} {p : Nat × Nat} (hp : ps[j]? = some p) (hn : n ≤ j) : Dn b ps n [b + j] = Dn b ps n [p.1] ++ Dn b ps n [p.2] := by
  have hj := (List.getElem?_eq_some_iff.mp hp).1
  show splitD b ps n ps.length [b + j] = _
  rw [splitD_big hp hn (hw j p hp) hj, show [p.1, p.2] = [p.1] ++ [p.2] from rfl, splitD_app]; rfl
theorem Dn_cut {row : List Nat} (hrow : ∀ x ∈ row, x < b) (hn : n ≤ ps.length) : Dn b ps n (cutL b ps row) = cutL b (ps.take n) row := by
  have := splitD_cut (n := n) hrow hn ps.length (Nat.le_refl _) hn
  rw [List.take_length] at this
  exact this
theorem part_of {x : Nat} (h : x < b + ps.length) : x < b ∨ ∃ j p, x = b + j ∧ ps[j]? = some p := by
  by_cases c : x < b
  · exact .inl c
  · exact .inr ⟨x - b, _, by omega, List.getElem?_eq_getElem (by omega)⟩
theorem Dn_ne (hw : WF b ps) : ∀ (x : Nat), x < b + ps.length → ∃ y t, Dn b ps n [x] = y :: t := by
  intro x
  induction x using Nat.strongRecOn with
  | ind x ih =>
    intro hx
    by_cases c : x < b + n
    · exact ⟨x, [], Dn_small c⟩
    · rcases part_of hx with h | ⟨j, p, rfl, hp⟩
      · omega
      · have hj := hw j p hp
        obtain ⟨y, t, e⟩ := ih p.1 hj.1 (by omega)
        exact ⟨y, t ++ Dn b ps n [p.2], by rw [Dn_big hw hp (by omega), e]; rfl⟩
/-- lists in which each piece is the cut of its letters -/
structure Good (b : Nat) (ps : List (Nat × Nat)) : Prop where
  wf : WF b ps
  one : ∀ x, x < b + ps.length → cutL b ps (Dn b ps 0 [x]) = [x]
  low : ∀ x, x < b + ps.length → ∀ y ∈ Dn b ps 0 [x], y < b
theorem Good.st (G : Good b ps) {x : Nat} (hx : x < b + ps.length) (hn : n ≤ ps.length) : cutL b (ps.take n) (Dn b ps 0 [x]) = Dn b ps n [x] := by
  have := Dn_cut (G.low x hx) hn
  rw [G.one x hx] at this
  exact this.symm
theorem Good.lows (G : Good b ps) : ∀ {row : List Nat}, (∀ x ∈ row, x < b + ps.length) → ∀ y ∈ Dn b ps 0 row, y < b
  | [], _, y, h => by rw [Dn_nil] at h; cases h
  | x :: t, hx, y, h => by
    rw [Dn_cons] at h
    rcases List.mem_append.mp h with z | z
    · exact G.low x (hx x (List.mem_cons_self ..)) y z
    · exact G.lows (fun u hu => hx u (List.mem_cons_of_mem _ hu)) y z
theorem Good.next (G : Good b ps) {x : Nat} (hx : x < b + ps.length) {p : Nat × Nat} (hp : ps[n]? = some p) : pass p.1 p.2 (b + n) (Dn b ps n [x]) = Dn b ps (n + 1) [x] := by
  have hn := (List.getElem?_eq_some_iff.mp hp).1
  rw [← G.st hx (by omega), ← G.st hx (show n + 1 ≤ ps.length by omega), take_succ_of hp, cutL_snoc, take_len_of hp]
/-! passes over two rows -/
theorem last_cons {a : Nat} {l : List Nat} {x : Nat} (h : l.getLast? = some x) : (a :: l).getLast? = some x := by
  rw [List.getLast?_cons, h]; rfl
theorem pass_app {l r m : Nat} (v : List Nat) : ∀ (u : List Nat), ¬ ((pass l r m u).getLast? = some l ∧ v.head? = some r) → pass l r m (u ++ v) = pass l r m u ++ pass l r m v
  | [], _ => rfl
  | [a], h => by
    cases v with
    | nil => rfl
    | cons c t =>
      show pass l r m (a :: c :: t) = a :: pass l r m (c :: t)
      rw [pass, if_neg]
      rintro ⟨rfl, rfl⟩
      exact h ⟨rfl, rfl⟩
  | a :: c :: t, h => by
    show pass l r m (a :: c :: (t ++ v)) = pass l r m (a :: c :: t) ++ pass l r m v
    rw [pass] at h
    rw [pass, pass]
    by_cases q : a = l ∧ c = r
    · rw [if_pos q] at h
      rw [if_pos q, if_pos q, pass_app v t fun z => h ⟨last_cons z.1, z.2⟩]; rfl
    · rw [if_neg q] at h
      rw [if_neg q, if_neg q, show c :: (t ++ v) = (c :: t) ++ v from rfl, pass_app v (c :: t) fun z => h ⟨last_cons z.1, z.2⟩]; rfl
theorem last_cons_ne {m l : Nat} {x : List Nat} (hm : m ≠ l) (h : (m :: x).getLast? = some l) : x.getLast? = some l ∧ x ≠ [] := by
  cases x with
  | nil => exact absurd (Option.some.inj h) hm
  | cons y x =>
    rw [List.getLast?_cons_cons] at h
    exact ⟨h, List.cons_ne_nil _ _⟩
theorem pass_cross {l r m : Nat} (hm : m ≠ l) (t : List Nat) : ∀ (u : List Nat), (pass l r m u).getLast? = some l → pass l r m (u ++ r :: t) = (pass l r m u).dropLast ++ m :: pass l r m t
  | [], h => by cases h
  | [a], h => by
    have e : a = l := Option.some.inj h
    subst e
    show pass a r m (a :: r :: t) = m :: pass a r m t
    rw [pass, if_pos ⟨rfl, rfl⟩]
  | a :: c :: u, h => by
    show pass l r m (a :: c :: (u ++ r :: t)) = _
    rw [pass] at h
    rw [pass, pass]
    by_cases q : a = l ∧ c = r
    · rw [if_pos q] at h
      rw [if_pos q, if_pos q]
      obtain ⟨h1, h2⟩ := last_cons_ne hm h
      rw [pass_cross hm t u h1, List.dropLast_cons_of_ne_nil h2]; rfl
    · rw [if_neg q] at h
      rw [if_neg q, if_neg q]
      obtain ⟨y, s, e, _⟩ := pass_head (l := l) (r := r) (m := m) (a := c) (t := u)
      have h2 : pass l r m (c :: u) ≠ [] := by rw [e]; exact List.cons_ne_nil _ _
      have h1 : (pass l r m (c :: u)).getLast? = some l := by
        rw [e] at h ⊢
        rwa [List.getLast?_cons_cons] at h
      rw [show c :: (u ++ r :: t) = (c :: u) ++ r :: t from rfl, pass_cross hm t (c :: u) h1, List.dropLast_cons_of_ne_nil h2]; rfl
/-! spines -/
inductive Spn (b : Nat) (ps : List (Nat × Nat)) (sd : Nat × Nat → Nat) (x : Nat) : Nat → Option Nat → Prop
  | self : Spn b ps sd x x none
  | step {j : Nat} {p : Nat × Nat} {bd : Option Nat} : Spn b ps sd x (b + j) bd → ps[j]? = some p → Spn b ps sd x (sd p) (some j)
/-- n is not beyond the bound -/
def upTo (n : Nat) (bd : Option Nat) : Prop := ∀ k, bd = some k → n ≤ k
def Side (sd : Nat × Nat → Nat) : Prop := ∀ p, sd p = p.1 ∨ sd p = p.2
theorem side1 : Side Prod.fst := fun _ => .inl rfl
theorem side2 : Side Prod.snd := fun _ => .inr rfl
theorem Spn.lt {sd : Nat × Nat → Nat} (hs : Side sd) (hw : WF b ps) {x y k : Nat} (h : Spn b ps sd x y (some k)) : y < b + k ∧ k < ps.length := by
  cases h with
  | step h hp =>
    have := hw _ _ hp
    refine ⟨?_, (List.getElem?_eq_some_iff.mp hp).1⟩
    rcases hs ‹_› with e | e <;> rw [e] <;> omega
theorem Spn.mem {sd : Nat × Nat → Nat} (hs : Side sd) (hw : WF b ps) {x y : Nat} {bd : Option Nat} (hx : x < b + ps.length) (h : Spn b ps sd x y bd) : y < b + ps.length := by
  cases bd with
  | none => cases h; exact hx
  | some k => have := h.lt hs hw; omega
theorem Spn.ahead {sd : Nat × Nat → Nat} {j y : Nat} {p : Nat × Nat} {bd : Option Nat} (hp : ps[j]? = some p) (h : Spn b ps sd (sd p) y bd) : Spn b ps sd (b + j) y (some (bd.getD j)) := by
  induction h with
  | self => exact .step .self hp
  | step h hq ih => exact .step ih hq
theorem Spn.last (hw : WF b ps) {x y : Nat} {bd : Option Nat} (h : Spn b ps Prod.snd x y bd) : upTo n bd → ∃ pre, Dn b ps n [x] = pre ++ Dn b ps n [y] := by
  induction h with
  | self => exact fun _ => ⟨[], rfl⟩
  | step h hp ih =>
    rename_i j p bd
    intro hu
    have hj := hu j rfl
    obtain ⟨pre, e⟩ := ih fun k ek => by
      subst ek
      have := (h.lt side2 hw).1
      omega
    exact ⟨pre ++ Dn b ps n [p.1], by rw [e, Dn_big hw hp hj, List.append_assoc]⟩
theorem Spn.first (hw : WF b ps) {x y : Nat} {bd : Option Nat} (h : Spn b ps Prod.fst x y bd) : upTo n bd → ∃ post, Dn b ps n [x] = Dn b ps n [y] ++ post := by
  induction h with
  | self => exact fun _ => ⟨[], (List.append_nil _).symm⟩
  | step h hp ih =>
    rename_i j p bd
    intro hu
    have hj := hu j rfl
    obtain ⟨post, e⟩ := ih fun k ek => by
      subst ek
      have := (h.lt side1 hw).1
      omega
    exact ⟨Dn b ps n [p.2] ++ post, by rw [e, Dn_big hw hp hj, List.append_assoc]⟩
theorem getLast_app {u v : List Nat} {x : Nat} (h : v.getLast? = some x) : (u ++ v).getLast? = some x := by
  rw [List.getLast?_append, h]; rfl
theorem head_app {u v : List Nat} {x : Nat} (h : u.head? = some x) : (u ++ v).head? = some x := by
  cases u with
  | nil => cases h
  | cons a u => exact h
theorem last_ex (hw : WF b ps) : ∀ (x : Nat), x < b + ps.length → ∃ y bd, Spn b ps Prod.snd x y bd ∧ upTo n bd ∧ (Dn b ps n [x]).getLast? = some y := by
  intro x
  induction x using Nat.strongRecOn with
  | ind x ih =>
    intro hx
    by_cases c : x < b + n
    · exact ⟨x, none, .self, (fun k e => by cases e), by rw [Dn_small c]; rfl⟩
    · rcases part_of hx with h | ⟨j, p, rfl, hp⟩
      · omega
      · have hj := hw j p hp
        obtain ⟨y, bd, h1, h2, h3⟩ := ih p.2 hj.2 (by omega)
        refine ⟨y, _, h1.ahead hp, fun k e => ?_, ?_⟩
        · have e' : bd.getD j = k := Option.some.inj e
          cases bd with
          | none => have : j = k := e'; omega
          | some i => have : i = k := e'; have := h2 i rfl; omega
        · rw [Dn_big hw hp (by omega)]
          exact getLast_app h3
theorem first_ex (hw : WF b ps) : ∀ (x : Nat), x < b + ps.length → ∃ y bd, Spn b ps Prod.fst x y bd ∧ upTo n bd ∧ (Dn b ps n [x]).head? = some y := by
  intro x
  induction x using Nat.strongRecOn with
  | ind x ih =>
    intro hx
    by_cases c : x < b + n
    · exact ⟨x, none, .self, (fun k e => by cases e), by rw [Dn_small c]; rfl⟩
    · rcases part_of hx with h | ⟨j, p, rfl, hp⟩
      · omega
      · have hj := hw j p hp
        obtain ⟨y, bd, h1, h2, h3⟩ := ih p.1 hj.1 (by omega)
        refine ⟨y, _, h1.ahead hp, fun k e => ?_, ?_⟩
        · have e' : bd.getD j = k := Option.some.inj e
          cases bd with
          | none => have : j = k := e'; omega
          | some i => have : i = k := e'; have := h2 i rfl; omega
        · rw [Dn_big hw hp (by omega)]
          exact head_app h3
/-- the join of rank r puts letters of x and y together, where x stands ahead of y -/
def Cross (b : Nat) (ps : List (Nat × Nat)) (x y r : Nat) : Prop := ∃ (p : Nat × Nat) (bx by' : Option Nat), ps[r]? = some p ∧ Spn b ps Prod.snd x p.1 bx ∧ Spn b ps Prod.fst y p.2 by' ∧ upTo (r + 1) bx ∧ upTo r by'
theorem Cross.lt {x y r : Nat} (h : Cross b ps x y r) : r < ps.length := by
  obtain ⟨p, _, _, hp, _⟩ := h
  exact (List.getElem?_eq_some_iff.mp hp).1
theorem cross_iff (hw : WF b ps) {x y r : Nat} (hx : x < b + ps.length) (hy : y < b + ps.length) : Cross b ps x y r ↔ ∃ p, ps[r]? = some p ∧ (Dn b ps (r + 1) [x]).getLast? = some p.1 ∧ (Dn b ps r [y]).head? = some p.2 := by
  constructor
  · rintro ⟨p, bx, by', hp, h1, h2, u1, u2⟩
    have hpw := hw r p hp
    obtain ⟨pre, e1⟩ := h1.last hw u1
    obtain ⟨post, e2⟩ := h2.first hw u2
    refine ⟨p, hp, ?_, ?_⟩
    · rw [e1, Dn_small (by omega)]; exact getLast_app rfl
    · rw [e2, Dn_small (by omega)]; rfl
  · rintro ⟨p, hp, h1, h2⟩
    obtain ⟨u, bx, a1, a2, a3⟩ := last_ex (n := r + 1) hw x hx
    obtain ⟨v, by', b1, b2, b3⟩ := first_ex (n := r) hw y hy
    rw [h1] at a3
    rw [h2] at b3
    cases a3
    cases b3
    exact ⟨p, bx, by', hp, a1, b1, a2, b2⟩
/-- all adjacent pieces stay apart at rank n -/
def Still (b : Nat) (ps : List (Nat × Nat)) (n : Nat) (row : List Nat) : Prop := ∀ q ∈ adjs row, ¬ Cross b ps q.1 q.2 n
theorem Still.tail {x : Nat} {t : List Nat} (h : Still b ps n (x :: t)) : Still b ps n t := fun q hq => h q (mem_adjs_cons hq)
theorem Still.left {u v : List Nat} (h : Still b ps n (u ++ v)) : Still b ps n u := fun q hq => h q (adjs_sub_left hq)
theorem pass_row (G : Good b ps) {p : Nat × Nat} (hp : ps[n]? = some p) : ∀ {row : List Nat}, (∀ x ∈ row, x < b + ps.length) → Still b ps n row → pass p.1 p.2 (b + n) (Dn b ps n row) = Dn b ps (n + 1) row
  | [], _, _ => by rw [Dn_nil, Dn_nil]; rfl
  | [x], hx, _ => G.next (hx x (List.mem_cons_self ..)) hp
  | x :: y :: t, hx, hs => by
    have hx0 := hx x (List.mem_cons_self ..)
    have hy0 := hx y (List.mem_cons_of_mem _ (List.mem_cons_self ..))
    rw [Dn_cons, Dn_cons x (y :: t), pass_app, G.next hx0 hp, pass_row G hp (fun u hu => hx u (List.mem_cons_of_mem _ hu)) hs.tail]
    rw [G.next hx0 hp]
    rintro ⟨h1, h2⟩
    refine hs (x, y) (by rw [adjs_cons2]; exact List.mem_cons_self ..) ((cross_iff G.wf hx0 hy0).mpr ⟨p, hp, h1, ?_⟩)
    obtain ⟨z, s, e⟩ := Dn_ne (n := n) G.wf y hy0
    rw [Dn_cons, e] at h2
    rw [e]; exact h2
/-- as long as nothing crosses, each piece is staged by itself -/
theorem stage_row (G : Good b ps) {row : List Nat} (hx : ∀ x ∈ row, x < b + ps.length) : ∀ n, n ≤ ps.length → (∀ r, r < n → Still b ps r row) → cutL b (ps.take n) (Dn b ps 0 row) = Dn b ps n row
  | 0, _, _ => rfl
  | n + 1, hn, hs => by
    obtain ⟨p, hp⟩ : ∃ p, ps[n]? = some p := ⟨_, List.getElem?_eq_getElem (by omega)⟩
    rw [take_succ_of hp, cutL_snoc, take_len_of hp, stage_row G hx n (by omega) fun r hr => hs r (by omega), pass_row G hp hx (hs n (by omega))]
/-- the first pair of adjacent ones that is not still -/
theorem first_cross {row : List Nat} (h : ¬ Still b ps n row) : ∃ u x y v, row = u ++ x :: y :: v ∧ Cross b ps x y n ∧ Still b ps n (u ++ [x]) := by
  induction row with
  | nil => exact absurd (fun q hq => by cases hq) h
  | cons a t ih =>
    cases t with
    | nil => exact absurd (fun q hq => by cases hq) h
    | cons c t =>
      by_cases k : Cross b ps a c n
      · exact ⟨[], a, c, t, rfl, k, fun q hq => by cases hq⟩
      · have h2 : ¬ Still b ps n (c :: t) := fun hs => h fun q hq => by
          rw [adjs_cons2] at hq
          rcases List.mem_cons.mp hq with z | z
          · rw [z]; exact k
          · exact hs q z
        obtain ⟨u, x, y, v, e, h3, h4⟩ := ih h2
        refine ⟨a :: u, x, y, v, by rw [e]; rfl, h3, ?_⟩
        cases u with
        | nil =>
          injection e with e1 e2
          subst e1
          intro q hq
          have hq' : q ∈ [(a, c)] := hq
          rw [List.mem_singleton.mp hq']; exact k
        | cons d u =>
          injection e with e1 e2
          subst e1
          intro q hq
          have hq' : q ∈ (a, c) :: adjs (c :: u ++ [x]) := hq
          rcases List.mem_cons.mp hq' with z | z
          · rw [z]; exact k
          · exact h4 q z
/-- what the pass at a crossing makes -/
theorem pass_at_cross (G : Good b ps) {p : Nat × Nat} (hp : ps[n]? = some p) {u v : List Nat} {x y : Nat} (hx : ∀ z ∈ u ++ x :: y :: v, z < b + ps.length) (hc : Cross b ps x y n) (hs : Still b ps n (u ++ [x])) :
    ∃ t, (Dn b ps n (y :: v)) = p.2 :: t ∧ (Dn b ps (n + 1) (u ++ [x])).getLast? = some p.1 ∧ pass p.1 p.2 (b + n) (Dn b ps n (u ++ x :: y :: v)) = (Dn b ps (n + 1) (u ++ [x])).dropLast ++ (b + n) :: pass p.1 p.2 (b + n) t := by
  have hx0 : x < b + ps.length := hx x (by simp)
  have hy0 : y < b + ps.length := hx y (by simp)
  obtain ⟨p', hp', h1, h2⟩ := (cross_iff G.wf hx0 hy0).mp hc
  rw [hp] at hp'
  cases hp'
  obtain ⟨z, s, e⟩ := Dn_ne (n := n) G.wf y hy0
  rw [e] at h2
  have ez : z = p.2 := Option.some.inj h2
  subst ez
  have hl : (Dn b ps (n + 1) (u ++ [x])).getLast? = some p.1 := by rw [Dn_app]; exact getLast_app h1
  have hd : Dn b ps n (y :: v) = p.2 :: (s ++ Dn b ps n v) := by rw [Dn_cons, e]; rfl
  refine ⟨_, hd, hl, ?_⟩
  have hpass := pass_row G hp (row := u ++ [x]) (fun z hz => hx z (by
    rcases List.mem_append.mp hz with w | w
    · exact List.mem_append_left _ w
    · rw [List.mem_singleton.mp w]; simp)) hs
  have hm : b + n ≠ p.1 := by have := (G.wf n p hp).1; omega
  rw [show u ++ x :: y :: v = (u ++ [x]) ++ y :: v by simp, Dn_app, hd, pass_cross hm _ _ (by rw [hpass]; exact hl), hpass]
/-- a row of pieces is the cut of its letters if and only if no two neighbors cross -/
theorem cut_row_iff (G : Good b ps) {row : List Nat} (hx : ∀ x ∈ row, x < b + ps.length) : cutL b ps (Dn b ps 0 row) = row ↔ ∀ q ∈ adjs row, ∀ r, ¬ Cross b ps q.1 q.2 r := by
  constructor
  · intro h q hq r hc
    have hr := hc.lt
    obtain ⟨p, hp⟩ : ∃ p, ps[r]? = some p := ⟨_, List.getElem?_eq_getElem hr⟩
    have hns : ¬ Still b ps r row := fun hs => hs q hq hc
    obtain ⟨u, x, y, v, rfl, hc', hs'⟩ := first_cross hns
    obtain ⟨t, h1, h2, h3⟩ := pass_at_cross G hp hx hc' hs'
    have lows := G.lows hx
    have e1 := Dn_cut (n := r) (ps := ps) lows (by omega)
    have e2 := Dn_cut (n := r + 1) (ps := ps) lows (by omega)
    rw [h] at e1 e2
    rw [take_succ_of hp, cutL_snoc, take_len_of hp, ← e1, h3, show u ++ x :: y :: v = (u ++ [x]) ++ y :: v by simp, Dn_app] at e2
    obtain ⟨ys, ey⟩ := List.getLast?_eq_some_iff.mp h2
    rw [ey, List.dropLast_concat, List.append_assoc] at e2
    have e3 := List.append_cancel_left e2
    injection e3 with e4 e5
    have := (G.wf r p hp).1
    omega
  · intro h
    have := stage_row G hx ps.length (Nat.le_refl _) fun r _ q hq => h q hq r
    rwa [List.take_length, Dn_full] at this
/-- and at the first crossing there is no seam left -/
theorem cross_first (G : Good b ps) {x y c : Nat} (hx : x < b + ps.length) (hy : y < b + ps.length) (hc : Cross b ps x y c) (hno : ∀ r, r < c → ¬ Cross b ps x y r) :
    ∃ A B p, ps[c]? = some p ∧ Dn b ps (c + 1) [x] = A ++ [p.1] ∧ cutL b (ps.take (c + 1)) (Dn b ps 0 [x, y]) = A ++ (b + c) :: B := by
  have hcl := hc.lt
  obtain ⟨p, hp⟩ : ∃ p, ps[c]? = some p := ⟨_, List.getElem?_eq_getElem hcl⟩
  have hxy : ∀ z ∈ [x, y], z < b + ps.length := fun z hz => by
    rcases List.mem_cons.mp hz with w | w
    · rw [w]; exact hx
    · rw [List.mem_singleton.mp w]; exact hy
  obtain ⟨t, h1, h2, h3⟩ := pass_at_cross (u := []) (v := []) G hp hxy hc (fun q hq => by cases hq)
  obtain ⟨ys, ey⟩ := List.getLast?_eq_some_iff.mp h2
  refine ⟨ys, pass p.1 p.2 (b + c) t, p, hp, ey, ?_⟩
  rw [take_succ_of hp, cutL_snoc, take_len_of hp, stage_row G hxy c (by omega) fun r hr q hq => by
    have hq' : q ∈ [(x, y)] := hq
    rw [List.mem_singleton.mp hq']; exact hno r hr]
  rw [show [x, y] = [] ++ x :: y :: [] from rfl, h3, ey, List.dropLast_concat]
end
/-- proper lists are good ones -/
theorem Dn_text {al : List Nat} (hal : al.Nodup) {ps : List (Nat × Nat)} (h : Proper al ps) {x : Nat} (hx : x < al.length + ps.length) : Dn al.length ps 0 [x] = lets al ((textsOf al ps).getD x []) := by
  have ht : (textsOf al ps)[x]? = some ((textsOf al ps).getD x []) := by
    rw [List.getD_eq_getElem?_getD, List.getElem?_eq_getElem (by rw [textsOf_len]; exact hx)]; rfl
  have hm : ∀ c ∈ (textsOf al ps).getD x [], c ∈ al := textsOf_al _ (List.mem_of_getElem? ht)
  have := Dn_cut (n := 0) (ps := ps) (lets_lt hm) (Nat.zero_le _)
  rw [cut_piece hal h x _ ht] at this
  exact this
theorem lets_app (al u v : List Nat) : lets al (u ++ v) = lets al u ++ lets al v := List.map_append
theorem Dn_texts {al : List Nat} (hal : al.Nodup) {ps : List (Nat × Nat)} (h : Proper al ps) : ∀ {row : List Nat}, (∀ x ∈ row, x < al.length + ps.length) → Dn al.length ps 0 row = lets al (textR (textsOf al ps) row)
  | [], _ => Dn_nil
  | x :: t, hx => by
    rw [Dn_cons, Dn_text hal h (hx x (List.mem_cons_self ..)), Dn_texts hal h fun u hu => hx u (List.mem_cons_of_mem _ hu), textR_cons, lets_app]
theorem Proper.good {al : List Nat} (hal : al.Nodup) {ps : List (Nat × Nat)} (h : Proper al ps) : Good al.length ps where
  wf := h.wf
  one := fun x hx => by
    rw [Dn_text hal h hx]
    exact cut_piece hal h x _ (by rw [List.getD_eq_getElem?_getD, List.getElem?_eq_getElem (by rw [textsOf_len]; exact hx)]; rfl)
  low := fun x hx => by
    rw [Dn_text hal h hx]
    exact lets_lt (textsOf_al _ (List.mem_of_getElem? (i := x) (by rw [List.getD_eq_getElem?_getD, List.getElem?_eq_getElem (by rw [textsOf_len]; exact hx)]; rfl)))
section
variable {b : Nat} {ps : List (Nat × Nat)} {sd : Nat × Nat → Nat}
theorem Spn.zero {x y : Nat} {bd : Option Nat} (h : Spn b ps sd x y bd) (e : bd = none) : y = x := by
  cases h with
  | self => rfl
  | step h hp => cases e
theorem Spn.up {x y k : Nat} (h : Spn b ps sd x y (some k)) : b ≤ x := by
  have key : ∀ y bd, Spn b ps sd x y bd → bd = none ∨ b ≤ x := by
    intro y bd h
    induction h with
    | self => exact .inl rfl
    | step h hp ih =>
      rcases ih with e | e
      · have := h.zero e
        exact .inr (by omega)
      · exact .inr e
  rcases key _ _ h with e | e
  · cases e
  · exact e
theorem Spn.down {j y : Nat} {p : Nat × Nat} {bd : Option Nat} (hp : ps[j]? = some p) (h : Spn b ps sd (b + j) y bd) : bd = none ∨ (y = sd p ∧ bd = some j) ∨ ∃ k, bd = some k ∧ Spn b ps sd (sd p) y (some k) := by
  generalize e : b + j = x at h
  induction h with
  | self => exact .inl rfl
  | step h hq ih =>
    rename_i j' q bd0
    refine .inr ?_
    rcases ih with e1 | ⟨e1, e2⟩ | ⟨k, e1, e2⟩
    · have e0 := h.zero e1
      have ej : j = j' := by omega
      subst ej
      rw [hp] at hq
      cases hq
      exact .inl ⟨rfl, rfl⟩
    · refine .inr ⟨j', rfl, ?_⟩
      exact .step (by rw [e1]; exact .self) hq
    · exact .inr ⟨j', rfl, .step e2 hq⟩
/-- all of a spine -/
structure IsSpine (b : Nat) (ps : List (Nat × Nat)) (sd : Nat × Nat → Nat) (x : Nat) (es : List (Nat × Option Nat)) : Prop where
  ok : ∀ e ∈ es, Spn b ps sd x e.1 e.2
  all : ∀ y bd, Spn b ps sd x y bd → (y, bd) ∈ es
/-- the spine up to a last one -/
structure IsSpineTo (b : Nat) (ps : List (Nat × Nat)) (sd : Nat × Nat → Nat) (x : Nat) (es : List (Nat × Option Nat)) (last : Nat) : Prop where
  ok : ∀ e ∈ es, Spn b ps sd x e.1 e.2
  all : ∀ y bd, Spn b ps sd x y bd → (y, bd) ∈ es ∨ ∃ k, bd = some k ∧ Spn b ps sd last y (some k)
  at_ : ∃ bd, (last, bd) ∈ es
theorem IsSpineTo.start (x : Nat) : IsSpineTo b ps sd x [(x, none)] x where
  ok := fun e he => by rw [List.mem_singleton.mp he]; exact .self
  all := fun y bd h => by
    cases bd with
    | none => cases h; exact .inl (List.mem_cons_self ..)
    | some k => exact .inr ⟨k, rfl, h⟩
  at_ := ⟨none, List.mem_cons_self ..⟩
theorem IsSpineTo.next {x j : Nat} {p : Nat × Nat} {es : List (Nat × Option Nat)} (h : IsSpineTo b ps sd x es (b + j)) (hp : ps[j]? = some p) : IsSpineTo b ps sd x (es ++ [(sd p, some j)]) (sd p) where
  ok := fun e he => by
    rcases List.mem_append.mp he with z | z
    · exact h.ok e z
    · rw [List.mem_singleton.mp z]
      obtain ⟨bd, hb⟩ := h.at_
      exact .step (h.ok _ hb) hp
  all := fun y bd hy => by
    rcases h.all y bd hy with z | ⟨k, e, z⟩
    · exact .inl (List.mem_append_left _ z)
    · subst e
      rcases z.down hp with e1 | ⟨e1, e2⟩ | ⟨k', e1, e2⟩
      · cases e1
      · cases e2
        subst e1
        exact .inl (List.mem_append_right _ (List.mem_singleton.mpr rfl))
      · cases e1
        exact .inr ⟨k, rfl, e2⟩
  at_ := ⟨some j, List.mem_append_right _ (List.mem_singleton.mpr rfl)⟩
theorem IsSpineTo.done {x last : Nat} {es : List (Nat × Option Nat)} (h : IsSpineTo b ps sd x es last) (hl : last < b) : IsSpine b ps sd x es where
  ok := h.ok
  all := fun y bd hy => by
    rcases h.all y bd hy with z | ⟨k, e, z⟩
    · exact z
    · have := z.up; omega
/-- the first crossing, if any -/
def CrossIs (b : Nat) (ps : List (Nat × Nat)) (x y : Nat) : Option Nat → Prop
  | none => ∀ r, ¬ Cross b ps x y r
  | some c => Cross b ps x y c ∧ ∀ r, r < c → ¬ Cross b ps x y r
theorem CrossIs.uniq {x y : Nat} : ∀ {c d : Option Nat}, CrossIs b ps x y c → CrossIs b ps x y d → c = d
  | none, none, _, _ => rfl
  | none, some d, h, k => absurd k.1 (h d)
  | some c, none, h, k => absurd h.1 (k c)
  | some c, some d, h, k => by
    rcases Nat.lt_trichotomy c d with z | z | z
    · exact absurd h.1 (k.2 c z)
    · rw [z]
    · exact absurd k.1 (h.2 d z)
theorem least_ex {P : Nat → Prop} (h : ∃ n, P n) : ∃ n, P n ∧ ∀ m, m < n → ¬ P m := by
  obtain ⟨n, hn⟩ := h
  induction n using Nat.strongRecOn with
  | ind n ih =>
    by_cases c : ∃ m, m < n ∧ P m
    · obtain ⟨m, hm, hp⟩ := c
      exact ih m hm hp
    · exact ⟨n, hn, fun m hm hp => c ⟨m, hm, hp⟩⟩
theorem CrossIs.ex (b : Nat) (ps : List (Nat × Nat)) (x y : Nat) : ∃ c, CrossIs b ps x y c := by
  by_cases h : ∃ r, Cross b ps x y r
  · obtain ⟨c, h1, h2⟩ := least_ex h
    exact ⟨some c, h1, h2⟩
  · exact ⟨none, fun r hr => h ⟨r, hr⟩⟩
end
theorem Proper.fresh {al : List Nat} {ps : List (Nat × Nat)} (h : Proper al ps) {i : Nat} {p : Nat × Nat} (hp : ps[i]? = some p) : p ∉ ps.take i := fun hm => by
  obtain ⟨h1, h2, h3, h4⟩ := h i p hp
  have := cut_clean (h.take i).wf (lets al ((textsOf al (ps.take i)).getD p.1 [] ++ (textsOf al (ps.take i)).getD p.2 [])) _ hm
  rw [h4] at this
  exact this (by show (p.1, p.2) ∈ [(p.1, p.2)]; exact List.mem_cons_self ..)
theorem Proper.idx {al : List Nat} {ps : List (Nat × Nat)} (h : Proper al ps) {i : Nat} {p : Nat × Nat} (hp : ps[i]? = some p) : ps.idxOf p = i := by
  have hm : p ∈ ps := List.mem_of_getElem? hp
  have h1 : ps.idxOf p < ps.length := List.idxOf_lt_length_iff.mpr hm
  have h2 : ps[ps.idxOf p]? = some p := by rw [List.getElem?_eq_getElem h1, List.getElem_idxOf h1]
  rcases Nat.lt_trichotomy (ps.idxOf p) i with z | z | z
  · refine absurd ?_ (h.fresh hp)
    refine List.mem_of_getElem? (i := ps.idxOf p) ?_
    rw [List.getElem?_take, if_pos z]; exact h2
  · exact z
  · refine absurd ?_ (h.fresh h2)
    refine List.mem_of_getElem? (i := i) ?_
    rw [List.getElem?_take, if_pos z]; exact hp
/-! ### places behind pieces -/
def marks (ts : List (List Nat)) : Nat → List Nat → List Nat
  | _, [] => []
  | a, x :: t => (a + (ts.getD x []).length) :: marks ts (a + (ts.getD x []).length) t
def szR (ts : List (List Nat)) (row : List Nat) : Nat := (textR ts row).length
theorem szR_cons (ts : List (List Nat)) (x : Nat) (t : List Nat) : szR ts (x :: t) = (ts.getD x []).length + szR ts t := by
  unfold szR
  rw [textR_cons, List.length_append]
theorem textR_app (ts : List (List Nat)) (u v : List Nat) : textR ts (u ++ v) = textR ts u ++ textR ts v := by
  unfold textR; rw [List.map_append, List.flatten_append]
theorem szR_app (ts : List (List Nat)) (u v : List Nat) : szR ts (u ++ v) = szR ts u + szR ts v := by
  unfold szR; rw [textR_app, List.length_append]
theorem marks_app (ts : List (List Nat)) : ∀ (u v : List Nat) (a : Nat), marks ts a (u ++ v) = marks ts a u ++ marks ts (a + szR ts u) v
  | [], v, a => by show marks ts a v = marks ts (a + 0) v; rw [Nat.add_zero]
  | x :: u, v, a => by
    show (a + (ts.getD x []).length) :: marks ts (a + (ts.getD x []).length) (u ++ v) = (a + (ts.getD x []).length) :: (marks ts _ u ++ _)
    rw [marks_app ts u v, szR_cons, Nat.add_assoc]
theorem marks_le {ts : List (List Nat)} : ∀ {row : List Nat} {a n : Nat}, n ∈ marks ts a row → a ≤ n ∧ n ≤ a + szR ts row
  | [], _, _, h => by cases h
  | x :: t, a, n, h => by
    rw [szR_cons]
    rcases List.mem_cons.mp h with z | z
    · omega
    · have := marks_le z; omega
theorem marks_end {ts : List (List Nat)} : ∀ {row : List Nat} {a : Nat}, row ≠ [] → a + szR ts row ∈ marks ts a row
  | [], _, h => absurd rfl h
  | [x], a, _ => by
    rw [szR_cons]
    exact List.mem_cons_self ..
  | x :: y :: t, a, _ => by
    rw [szR_cons, ← Nat.add_assoc]
    exact List.mem_cons_of_mem _ (marks_end (row := y :: t) (List.cons_ne_nil _ _))
theorem marks_len (ts : List (List Nat)) : ∀ (row : List Nat) (a : Nat), (marks ts a row).length = row.length
  | [], _ => rfl
  | x :: t, a => congrArg (· + 1) (marks_len ts t _)
theorem texts_pos {al : List Nat} {ps : List (Nat × Nat)} (hw : WF al.length ps) : ∀ (x : Nat), x < al.length + ps.length → 0 < ((textsOf al ps).getD x []).length := by
  intro x
  induction x using Nat.strongRecOn with
  | ind x ih =>
    intro hx
    rcases part_of hx with h | ⟨j, p, rfl, hp⟩
    · rw [texts_letter (List.getElem?_eq_getElem h)]; exact Nat.one_pos
    · have hj := hw j p hp
      rw [texts_at hw j p hp, List.length_append]
      have := ih p.1 hj.1 (by omega)
      omega
theorem Dn_size {al : List Nat} {ps : List (Nat × Nat)} (hw : WF al.length ps) (n x : Nat) : szR (textsOf al ps) (Dn al.length ps n [x]) = ((textsOf al ps).getD x []).length := by
  unfold szR Dn
  rw [splitD_text hw _ _ (Nat.le_refl _)]
  show (((textsOf al ps).getD x []) ++ []).length = _
  rw [List.append_nil]
/-- as long as nothing crosses there is a seam -/
theorem seam_of_still {al : List Nat} {ps : List (Nat × Nat)} (hal : al.Nodup) (h : Proper al ps) {x y n : Nat} (hx : x < al.length + ps.length) (hy : y < al.length + ps.length) (hn : n ≤ ps.length) (hno : ∀ r, r < n → ¬ Cross al.length ps x y r) :
    ((textsOf al ps).getD x []).length ∈ marks (textsOf al ps) 0 (cutL al.length (ps.take n) (Dn al.length ps 0 [x, y])) := by
  rw [stage_row (h.good hal) (row := [x, y]) (fun z hz => by
    rcases List.mem_cons.mp hz with w | w
    · rw [w]; exact hx
    · rw [List.mem_singleton.mp w]; exact hy) n hn fun r hr q hq => by
    have hq' : q ∈ [(x, y)] := hq
    rw [List.mem_singleton.mp hq']; exact hno r hr]
  rw [Dn_cons, marks_app, ← Dn_size h.wf n x, ← Nat.zero_add (szR _ _)]
  refine List.mem_append_left _ (marks_end ?_)
  obtain ⟨z, s, e⟩ := Dn_ne (n := n) h.wf x hx
  rw [e]; exact List.cons_ne_nil _ _
/-- and at the first crossing there is none -/
theorem no_seam {al : List Nat} {ps : List (Nat × Nat)} (hal : al.Nodup) (h : Proper al ps) {x y c : Nat} (hx : x < al.length + ps.length) (hy : y < al.length + ps.length) (hc : Cross al.length ps x y c) (hno : ∀ r, r < c → ¬ Cross al.length ps x y r) :
    ((textsOf al ps).getD x []).length ∉ marks (textsOf al ps) 0 (cutL al.length (ps.take (c + 1)) (Dn al.length ps 0 [x, y])) := by
  obtain ⟨A, B, p, hp, e1, e2⟩ := cross_first (h.good hal) hx hy hc hno
  have hw := h.wf
  have hpw := hw c p hp
  have hcl := (List.getElem?_eq_some_iff.mp hp).1
  have hsz : ((textsOf al ps).getD x []).length = szR (textsOf al ps) A + ((textsOf al ps).getD p.1 []).length := by
    rw [← Dn_size hw (c + 1) x, e1, szR_app, szR_cons]; rfl
  have p1 := texts_pos hw p.1 (by omega)
  have p2 := texts_pos hw p.2 (by omega)
  intro hm
  rw [e2, marks_app] at hm
  rcases List.mem_append.mp hm with z | z
  · have := marks_le z; omega
  · have hlen : ((textsOf al ps).getD (al.length + c) []).length = ((textsOf al ps).getD p.1 []).length + ((textsOf al ps).getD p.2 []).length := by rw [texts_at hw c p hp, List.length_append]
    rcases List.mem_cons.mp z with w | w
    · omega
    · have := marks_le w; omega
/-- the cut of two pieces' text -/
theorem cut_pair_iff {al : List Nat} {ps : List (Nat × Nat)} (hal : al.Nodup) (h : Proper al ps) {x y : Nat} (hx : x < al.length + ps.length) (hy : y < al.length + ps.length) {c : Option Nat} (hc : CrossIs al.length ps x y c) :
    cutL al.length ps (lets al ((textsOf al ps).getD x [] ++ (textsOf al ps).getD y [])) = [x, y] ↔ c = none := by
  have hxy : ∀ z ∈ [x, y], z < al.length + ps.length := fun z hz => by
    rcases List.mem_cons.mp hz with w | w
    · rw [w]; exact hx
    · rw [List.mem_singleton.mp w]; exact hy
  have e : Dn al.length ps 0 [x, y] = lets al ((textsOf al ps).getD x [] ++ (textsOf al ps).getD y []) := by
    rw [Dn_texts hal h hxy, textR_cons, textR_cons]
    show lets al (_ ++ (_ ++ [])) = _
    rw [List.append_nil]
  rw [← e, cut_row_iff (h.good hal) hxy]
  constructor
  · intro hn
    cases c with
    | none => rfl
    | some c => exact absurd hc.1 (hn (x, y) (by show (x, y) ∈ [(x, y)]; exact List.mem_cons_self ..) c)
  · intro e q hq r
    subst e
    have hq' : q ∈ [(x, y)] := hq
    rw [List.mem_singleton.mp hq']; exact hc r
end RJ
end

section
set_option maxRecDepth 100000
namespace RJ
open PySem PySem.Spec PyProof.Rows L2
/-- what an iterator at it draws: n items, the i-th one PV i; G: what must stay tracked -/
structure DrawK (P : Program) (w : World) (K : PySem.W.Frag) (it : Addr) (n : Nat) (tnI : Nat → Heap → Prop) (G : Hp → Prop) (PV : Nat → V → Prop) : Prop where
  obj : ∀ i h, tnI i h → ∃ o, h.get? it = some o ∧ ∀ v, o.data ≠ .cell v
  keep : ∀ i h h', tnI i h → (∀ o, h.get? it = some o → h'.get? it = some o) → tnI i h'
  draws : ∀ (X : Cx), X.prog = P → X.w = w → X.K = K → X.calm = true → ∀ (i : Nat) (pins : List (Addr × Obj)) (s : Shared) (σ : L2.St) (H : Hp), Inv X pins σ H s → G H → H it = none → tnI i s.heap →
    ∃ (fp : List Addr) (PD : Nat → Value → Prop) (StD : Nat → Heap → Prop), Draws P w X.A.in1 it fp n PD StD ∧ StD i s.heap ∧ it ∈ fp ∧ (∀ b ∈ fp, b = it ∨ (∃ o, H b = some o)) ∧
      (∀ j h, StD j h → tnI j h) ∧ ∀ j v, PD j v → ∃ x, PV j x ∧ RelV x v
theorem drawK_str {P : Program} {w : World} {K : PySem.W.Frag} (it : Addr) (x : Str) (t : Tok) :
    DrawK P w K it x.cps.size (fun i h => h.IsStrIter it (strIterType x) x t i) (fun _ => True) (fun i v => ∃ c, x.cps[i]? = some c ∧ v = .str ⟨#[c]⟩) where
  obj := fun i h st => by
    obtain ⟨o, e, c, d⟩ := st
    exact ⟨o, e, fun v z => by rw [d] at z; cases z⟩
  keep := fun i h h' st k => let ⟨o, ho, r⟩ := st; ⟨o, k o ho, r⟩
  draws := fun X hP hw hK hc i pins s σ H I _ _ st => by
    subst hP hw hK
    exact ⟨[it], _, _, Draws.text (A := X.A.in1) (I.ok.hd hc) it x t, st, by simp, fun b hb => .inl (by simpa using hb), fun j h q => q, fun j v ⟨c, u, hx, e⟩ => ⟨_, ⟨c, hx, rfl⟩, by rw [e]; exact ⟨u, rfl⟩⟩⟩
theorem drawK_tup {P : Program} {w : World} {K : PySem.W.Frag} (it a : Addr) (xs : List V) :
    DrawK P w K it xs.length (fun i h => h.IsTupleIter it a i) (fun H => H a = some (.tup xs)) (fun i v => xs[i]? = some v) where
  obj := fun i h st => by
    obtain ⟨o, e, c, d⟩ := st
    exact ⟨o, e, fun v z => by rw [d] at z; cases z⟩
  keep := fun i h h' st k => st.at k
  draws := fun X hP hw hK hc i pins s σ H I hG hn st => by
    subst hP hw hK
    have hne : a ≠ it := ne_of_none hG hn
    obtain ⟨its, rv, p, _⟩ := I.tuple (SqT.of hG)
    have hl := rv.length
    have e : its.toArray.size = xs.length := by simp [hl]
    have D := Draws.tuple (prog := X.prog) (w := X.w) (A := X.A.in1) (I.ok.hd hc) it a hne its.toArray
    rw [e] at D
    refine ⟨[it, a], _, _, D, ⟨st, p⟩, by simp, fun b hb => ?_, fun j h q => q.1, fun j v q => ?_⟩
    · rcases List.mem_cons.mp hb with z | z
      · exact .inl z
      · exact .inr ⟨_, by rw [List.mem_singleton.mp z]; exact hG⟩
    · have q' : its[j]? = some v := by simpa using q
      have hj : j < xs.length := by
        have := (List.getElem?_eq_some_iff.mp q').1
        omega
      obtain ⟨u, hu, ru⟩ := rv.get (List.getElem?_eq_getElem hj)
      rw [q'] at hu
      cases hu
      exact ⟨_, List.getElem?_eq_getElem hj, ru⟩
theorem drawK_list {P : Program} {w : World} {K : PySem.W.Frag} (it a : Addr) (xs : List V) :
    DrawK P w K it xs.length (fun i h => h.IsListIter it a i) (fun H => H a = some (.lst xs)) (fun i v => xs[i]? = some v) where
  obj := fun i h st => by
    obtain ⟨o, e, c, d⟩ := st
    exact ⟨o, e, fun v z => by rw [d] at z; cases z⟩
  keep := fun i h h' st k => st.at k
  draws := fun X hP hw hK hc i pins s σ H I hG hn st => by
    subst hP hw hK
    have hne : a ≠ it := ne_of_none hG hn
    obtain ⟨its, rv, p, _⟩ := I.list (SqL.of hG)
    have hl := rv.length
    have e : its.toArray.size = xs.length := by simp [hl]
    have D := Draws.list (prog := X.prog) (w := X.w) (A := X.A.in1) (I.ok.hd hc) it a hne its.toArray
    rw [e] at D
    refine ⟨[it, a], _, _, D, ⟨st, p.isList⟩, by simp, fun b hb => ?_, fun j h q => q.1, fun j v q => ?_⟩
    · rcases List.mem_cons.mp hb with z | z
      · exact .inl z
      · exact .inr ⟨_, by rw [List.mem_singleton.mp z]; exact hG⟩
    · have q' : its[j]? = some v := by simpa using q
      have hj : j < xs.length := by
        have := (List.getElem?_eq_some_iff.mp q').1
        omega
      obtain ⟨u, hu, ru⟩ := rv.get (List.getElem?_eq_getElem hj)
      rw [q'] at hu
      cases hu
      exact ⟨_, List.getElem?_eq_getElem hj, ru⟩
/-- n turns, each with a new tuple of xs, PX i xs, while G stands -/
def ItG (n : Nat) (G : Hp → Prop) (PX : Nat → List V → Prop) : It :=
  ⟨fun i H => G H ∧ i < n, fun i H v H' => ∃ T xs, v = .ref T ∧ H T = none ∧ H' = upd H T (.tup xs) ∧ PX i xs, fun i H => G H ∧ n ≤ i⟩
theorem two {a b : Addr} {p : Addr → Prop} (h1 : p a) (h2 : p b) : ∀ c ∈ [a, b], p c := fun c hc => by
  simp only [List.mem_cons, List.not_mem_nil, or_false] at hc
  rcases hc with e | e <;> rw [e] <;> assumption
theorem out2 {a b c : Addr} (h : c ∉ [a, b]) : c ≠ a ∧ c ≠ b := by
  simp only [List.mem_cons, List.not_mem_nil, or_false, not_or] at h; exact h
/-- an enumerate between two turns -/
def EnumT (e it : Addr) (n : Nat) (tnI : Nat → Heap → Prop) (i : Nat) (h : Heap) : Prop := i ≤ n ∧ (∃ old, IsEnum h e it ((i : Nat) : Int) old) ∧ tnI i h ∧ e ≠ it
theorem turn_enumG {P : Program} {w : World} {K : PySem.W.Frag} {elts : List Expr} {kk : Nat} {tpos : Pos} {e it : Addr} {n : Nat} {tnI : Nat → Heap → Prop} {G : Hp → Prop} {PV : Nat → V → Prop} (D : DrawK P w K it n tnI G PV) :
    Turn P w K (.Tuple elts kk tpos) (ItG n G fun i xs => ∃ v, PV i v ∧ xs = [.int (i : Nat), v]) [e, it] e (EnumT e it n tnI) where
  mem := List.mem_cons_self ..
  obj := fun i h ⟨_, ⟨_, a⟩, b, _⟩ => two (p := fun c => ∃ o, h.get? c = some o ∧ _) ⟨_, a, fun _ q => nomatch q⟩ (D.obj i h b)
  keep := fun i h h' ⟨l, ⟨old, a⟩, b, n⟩ k => ⟨l, ⟨old, k e (by simp) _ a⟩, D.keep i h h' b fun o => k it (by simp) o, n⟩
  item := by
    rintro X hP hw hK hc i pins s σ H E I hf ⟨hle, ⟨old, he⟩, hit, hne⟩ ⟨hG, hlt⟩
    obtain ⟨fp, PD, StD, DD, c1, m1, q1, back, val⟩ := D.draws X hP hw hK hc i pins s σ H I hG (hf it (by simp)).1 hit
    subst hP hw hK
    have apart : e ∉ fp := fun z => by
      rcases q1 e z with q | ⟨o, q⟩
      · exact hne q
      · rw [(hf e (by simp)).1] at q; cases q
    have lt2 : ∀ c ∈ [e, it], c < s.heap.objs.size := by
      obtain ⟨_, q⟩ := DD.live _ _ c1
      exact two (Heap.lt_size he) (Heap.lt_size q)
    refine wpAny_pyNext_enum_itemC DD he c1 hlt hne apart fun u h' tk hu ho j1 hT _ hk => ⟨_, rfl, ?_⟩
    obtain ⟨x, hx, ru⟩ := val i u hu
    refine wpAny_letOwnedTupleGo_enum (s := { s with heap := h', toks := tk + 1 }) ho fun g zg sg => ?_
    have on : ∀ {c : Addr} {o : Obj}, c ≠ e → h'.get? c = some o → g.get? c = some o := fun n a => (sg.2 _ n).trans a
    have made : ObjOk X.prog X.w (upd H s.heap.objs.size (.tup [.int (i : Nat), x])) g s.heap.objs.size (.tup [.int (i : Nat), x]) := ⟨by show 2 ≤ sizeLine; decide, [.int i tk, u], .cons ⟨_, rfl⟩ (.cons ru .nil), ⟨_, on (Nat.ne_of_gt (lt2 e (by simp))) hT, rfl, _, rfl⟩⟩
    have J : Inv X pins σ (upd H s.heap.objs.size (.tup [.int (i : Nat), x])) { s with heap := g, toks := tk + 1 } := I.turnedNew (ch := [e, it]) (fun c o hb q => on (out2 hb).1 (hk c o (out2 hb).1 (out2 hb).2 q)) hf (Nat.le_refl _) made
    have next : IsEnum g e it ((i + 1 : Nat) : Int) u := by rw [show ((i + 1 : Nat) : Int) = (i : Int) + 1 by omega]; exact zg
    exact ⟨.ref s.heap.objs.size, _, J, rfl, ⟨_, _, rfl, I.hok.fresh (Nat.le_refl _), rfl, x, hx, rfl⟩, ⟨hlt, ⟨u, next⟩, D.keep _ _ _ (back _ _ j1) fun _ => on (Ne.symm hne), hne⟩, fun c hcm => (upd_ne (Nat.ne_of_lt (lt2 c hcm))).trans (hf c hcm).1⟩
  done := by
    rintro X hP hw hK hc i pins s σ H E I hf ⟨hle, ⟨old, he⟩, hit, hne⟩ ⟨hG, hge⟩
    obtain ⟨fp, PD, StD, DD, c1, m1, q1, back, val⟩ := D.draws X hP hw hK hc i pins s σ H I hG (hf it (by simp)).1 hit
    subst hP hw hK
    obtain rfl : i = n := Nat.le_antisymm hle hge
    exact wpAny_pyNext_enum_endD DD he c1 fun h' eb => ⟨rfl, I.turnedL (t' := s.toks) (ch := [e, it]) (fun c o hb q => eb c o (out2 hb).2 q) hf⟩
  self := fun A i s Q E st h => by
    obtain ⟨_, ⟨_, he⟩, _⟩ := st
    exact wpAny_pyIter_enum he h
end RJ
end

section
set_option maxRecDepth 100000
namespace PySem
abbrev enumNew (it : Addr) : Obj := { cls := .type "enumerate", data := .fields #[.none, .bool false, .ref it, rawInt 0, .none, .none] }
set_option maxHeartbeats 1000000 in
/-- enumerate(v): an iterator of v, and the enumerate behind it -/
theorem rj_enum_made {v : Value} {o : Obj} {H : Heap → Prop} (B : Begins v o H) : Meets (Builtin.«enumerate.__new__» ⟨[.type "enumerate", v], []⟩) (fun _ R s => H s.heap ∧ R (.ok (.ret (.ref (s.heap.push o).objs.size))) { s with heap := (s.heap.push o).push (enumNew s.heap.objs.size) }) :=
  .of_wp fun prog w A R s ⟨src, fin⟩ => by
    have sub := sub_enumerate
    have it : ∀ {A' : Around} {E Q : Value → Shared → Prop}, Q (.ref s.heap.objs.size) { s with heap := s.heap.push o } → wpAny (model prog w) A' (pyIter v) Q E s := fun q => B.iter prog w _ _ s _ src q
    wp_walk using it
    refine wpAny_stack_any fun _ => wpAny_pure ?_; split
    · rename_i c _ _ _ _ _
      cases (c == Value.type "enumerate") <;> (wp_walk using it; exact ⟨_, rfl, fin⟩)
    · wp_walk using it; exact ⟨_, rfl, fin⟩
theorem rj_enum_begins {prog : Program} {w : World} {A : Around} {E Q : Value → Shared → Prop} {s : Shared} {v : Value} {o : Obj} {H : Heap → Prop} (B : Begins v o H) (src : H s.heap)
    (fin : ∀ h', IsEnum h' (s.heap.objs.size + 1) s.heap.objs.size 0 .none → h'.get? s.heap.objs.size = some o → h'.objs.size = s.heap.objs.size + 2 → (∀ b u, s.heap.get? b = some u → h'.get? b = some u) → Q (.ref (s.heap.objs.size + 1)) { s with heap := h' }) :
    wpAny (model prog w) A (call (.type "enumerate") [v]) Q E s := by
  have one : (s.heap.push o).objs.size = s.heap.objs.size + 1 := Heap.size_push ..
  have at1 : IsEnum ((s.heap.push o).push (enumNew s.heap.objs.size)) (s.heap.push o).objs.size s.heap.objs.size 0 .none := Heap.get?_push_size _ rfl
  have at0 : ((s.heap.push o).push (enumNew s.heap.objs.size)).get? s.heap.objs.size = some o := Heap.get?_push_of_some _ (Heap.get?_push_size _ B.free)
  have all := callType_new (prog := prog) (w := w) (A := A) (E := E) (Q := Q) F.called_enumerate (by decide) (F.typeCall_enumerate_1 v) (F.newCall_enumerate_1 v) (fun obj => F.args_object_init_2 obj _) F.entry_enumerate_new (rj_enum_made B) (s := s)
  refine all ⟨src, ?_⟩; show _ ∧ _
  rw [one] at at1 ⊢
  exact ⟨⟨_, at1, rfl⟩, fin _ at1 at0 (by rw [Heap.size_push, one]) fun b u e => Heap.get?_push_of_some _ (Heap.get?_push_of_some _ e)⟩
end PySem
namespace RJ
open PySem PySem.Spec PyProof.Rows L2
/-- iter of v begins something that draws -/
structure BegK (X : Cx) (n : Nat) (G : Hp → Prop) (PV : Nat → V → Prop) (H : Hp) (s : Shared) (v : Value) : Prop where
  ex : ∃ (o : Obj) (HH : Heap → Prop), Begins v o HH ∧ HH s.heap ∧ G H ∧ ∀ it, ∃ tnI : Nat → Heap → Prop, DrawK X.prog X.w X.K it n tnI G PV ∧ ∀ h : Heap, h.get? it = some o → tnI 0 h
theorem begK_str {X : Cx} {H : Hp} {s : Shared} (x : Str) (t : Tok) : BegK X x.cps.size (fun _ => True) (fun i v => ∃ c, x.cps[i]? = some c ∧ v = .str ⟨#[c]⟩) H s (.str x t) :=
  ⟨_, _, begins_text x t, trivial, trivial, fun it => ⟨_, drawK_str it x t, fun h e => ⟨_, e, rfl, rfl⟩⟩⟩
theorem begK_tup {X : Cx} {pins : List (Addr × Obj)} {σ : L2.St} {H : Hp} {s : Shared} {a : Addr} {xs : List V} (I : Inv X pins σ H s) (ha : H a = some (.tup xs)) : BegK X xs.length (fun H => H a = some (.tup xs)) (fun i v => xs[i]? = some v) H s (.ref a) := by
  obtain ⟨its, rv, p, _⟩ := I.tuple (SqT.of ha)
  exact ⟨_, _, begins_tuple a its.toArray, p, ha, fun it => ⟨_, drawK_tup it a xs, fun h e => ⟨_, e, rfl, rfl⟩⟩⟩
theorem begK_list {X : Cx} {pins : List (Addr × Obj)} {σ : L2.St} {H : Hp} {s : Shared} {a : Addr} {xs : List V} (I : Inv X pins σ H s) (ha : H a = some (.lst xs)) : BegK X xs.length (fun H => H a = some (.lst xs)) (fun i v => xs[i]? = some v) H s (.ref a) := by
  obtain ⟨its, rv, p, _⟩ := I.list (SqL.of ha)
  exact ⟨_, _, begins_list a its.toArray, p.isList, ha, fun it => ⟨_, drawK_list it a xs, fun h e => ⟨_, e, rfl, rfl⟩⟩⟩
/-- what an iterable value draws -/
def SrcV (H : Hp) (v : V) (n : Nat) (G : Hp → Prop) (PV : Nat → V → Prop) : Prop :=
  (∃ x : Str, v = .str x ∧ n = x.cps.size ∧ G = (fun _ => True) ∧ PV = fun i v => ∃ c, x.cps[i]? = some c ∧ v = .str ⟨#[c]⟩) ∨
  (∃ (a : Addr) (xs : List V), v = .ref a ∧ H a = some (.tup xs) ∧ n = xs.length ∧ G = (fun H => H a = some (.tup xs)) ∧ PV = fun i v => xs[i]? = some v) ∨
  (∃ (a : Addr) (xs : List V), v = .ref a ∧ H a = some (.lst xs) ∧ n = xs.length ∧ G = (fun H => H a = some (.lst xs)) ∧ PV = fun i v => xs[i]? = some v)
theorem SrcV.beg {X : Cx} {pins : List (Addr × Obj)} {σ : L2.St} {H : Hp} {s : Shared} {v : V} {u : Value} {n : Nat} {G : Hp → Prop} {PV : Nat → V → Prop} (I : Inv X pins σ H s) (r : RelV v u) (h : SrcV H v n G PV) : BegK X n G PV H s u := by
  rcases h with ⟨x, rfl, rfl, rfl, rfl⟩ | ⟨a, xs, rfl, ha, rfl, rfl, rfl⟩ | ⟨a, xs, rfl, ha, rfl, rfl, rfl⟩
  · obtain ⟨t, rfl⟩ := r
    exact begK_str x t
  · cases r
    exact begK_tup I ha
  · cases r
    exact begK_list I ha
/-- enumerate(v), v a text, a tuple or a list -/
def iEnumG (ta : TA) : TI := fun σ H R => ta σ H fun vs H1 => ∃ v n G PV, vs = [v] ∧ SrcV H1 v n G PV ∧ R (ItG n G fun i xs => ∃ v, PV i v ∧ xs = [.int (i : Nat), v]) H1
theorem pi_enumG {X : Cx} {e : Expr} {ta : TA} {p pos tpos : Pos} {elts : List Expr} {kk : Nat} (hg : Gl X "enumerate") (hm : X.mg "enumerate" = none) (ha : PA X [e] ta) (hs : starEach [e] X.env = [(false, eval e X.env)] := by rfl) :
    PI X (.Tuple elts kk tpos) (.Call (.Name "enumerate" p) [e] [] pos) (iEnumG ta) := by
  refine ⟨fun pins s σ H R I h => ?_⟩
  refine Call_ (ld_blt I hg hm boot_enumerate (PyProof.Rows.callWith_type1 (thn (ha.run pos pins s σ H _ I h) fun us s1 ⟨vs, H1, I1, r1, q1⟩ => ?_) hs rfl))
  obtain ⟨v, n, G, PV, ex, hsrc, q⟩ := q1
  subst ex
  cases r1 with
  | cons r rr =>
    cases rr
    obtain ⟨o, HH, B, h1, hG, hd⟩ := (hsrc.beg I1 r).ex
    refine rj_enum_begins B h1 fun h' he hit hsz hk => wpAny_pyIter_enum he ?_
    have I2 : Inv X pins σ H1 { s1 with heap := h' } := I1.kept (t' := s1.toks) hk
    obtain ⟨tnI, D, hst⟩ := hd s1.heap.objs.size
    have ge2 : ∀ c ∈ [s1.heap.objs.size + 1, s1.heap.objs.size], s1.heap.objs.size ≤ c := two (p := fun c => s1.heap.objs.size ≤ c) (Nat.le_succ _) (Nat.le_refl _)
    exact ⟨s1.heap.objs.size + 1, [s1.heap.objs.size + 1, s1.heap.objs.size], _, _, H1, rfl, I2, turn_enumG D, ⟨Nat.zero_le _, ⟨.none, he⟩, hst _ hit, Nat.succ_ne_self _⟩, fun c hc => I1.fpOk (ge2 c hc) (I1.hok.fresh (ge2 c hc)), q⟩
/-- the walks of ItG as the loops of HandS take them -/
theorem walk_ItG {n : Nat} {G : Hp → Prop} {PX : Nat → List V → Prop} {g : TG} {tb : TS} {D : Ends} {σ : L2.St} {H : Hp} (Pv : Nat → L2.St → Hp → Prop) (h0 : Pv 0 σ H) (hG : ∀ i σ H, i ≤ n → Pv i σ H → G H)
    (hs : ∀ i xs T σ H, i < n → Pv i σ H → PX i xs → H T = none → g (.ref T) σ (upd H T (.tup xs)) fun σ2 H2 => tb { D with nx := Pv (i + 1), ct := Pv (i + 1), bk := D.nx } σ2 H2) (hd : ∀ σ H, Pv n σ H → D.nx σ H) :
    ∃ W : Nat → Nat → L2.St → Hp → Prop, (∃ m, W 0 m σ H) ∧ ∀ i m σ H, W i m σ H → ((ItG n G PX).stop i H ∧ D.nx σ H) ∨ ((ItG n G PX).go i H ∧ ∃ N : L2.St → Hp → Prop, (∀ σ' H', N σ' H' → ∃ m', m' < m ∧ W (i + 1) m' σ' H') ∧
      ∀ x H', (ItG n G PX).yld i H x H' → g x σ H' fun σ2 H2 => tb { D with nx := N, ct := N, bk := D.nx } σ2 H2) := by
  refine ⟨fun i m σ H => m = n - i ∧ i ≤ n ∧ Pv i σ H, ⟨n, rfl, Nat.zero_le _, h0⟩, ?_⟩
  rintro i m σ H ⟨rfl, hi, p⟩
  by_cases hlt : i < n
  · refine .inr ⟨⟨hG i σ H hi p, hlt⟩, Pv (i + 1), fun σ' H' p' => ⟨n - (i + 1), by omega, rfl, hlt, p'⟩, fun v H' y => ?_⟩
    obtain ⟨T, xs, rfl, hT, rfl, hx⟩ := y
    exact hs i xs T σ H hlt p hx hT
  · have e : i = n := by omega
    subst e
    exact .inl ⟨⟨hG _ σ H hi p, Nat.le_refl _⟩, hd σ H p⟩
end RJ
end

section
set_option maxRecDepth 100000
namespace RJ
open PySem PySem.Spec PyProof.Rows L2
theorem five {z TI TO i1 i2 : Addr} {p : Addr → Prop} (h1 : p z) (h2 : p TI) (h3 : p TO) (h4 : p i1) (h5 : p i2) : ∀ c ∈ [z, TI, TO, i1, i2], p c := fun c hc => by
  simp only [List.mem_cons, List.not_mem_nil, or_false] at hc
  rcases hc with e | e | e | e | e <;> rw [e] <;> assumption
theorem zip_cells {N : Nat} : ∀ c ∈ [N + 4, N + 2, N + 3, N, N + 1], N ≤ c := five (p := fun c => N ≤ c) (Nat.le_add_right N 4) (Nat.le_add_right N 2) (Nat.le_add_right N 3) (Nat.le_refl N) (Nat.le_add_right N 1)
/-- five cells apart -/
structure Ap5 (z TI TO i1 i2 : Addr) : Prop where
  TIz : TI ≠ z
  TOz : TO ≠ z
  TITO : TI ≠ TO
  TIi1 : TI ≠ i1
  TIi2 : TI ≠ i2
  TOi1 : TO ≠ i1
  TOi2 : TO ≠ i2
  zi1 : z ≠ i1
  zi2 : z ≠ i2
  i12 : i1 ≠ i2
theorem ap5 (N : Nat) : Ap5 (N + 4) (N + 2) (N + 3) N (N + 1) :=
  ⟨show (N + 2 : Nat) ≠ N + 4 by omega, show (N + 3 : Nat) ≠ N + 4 by omega, show (N + 2 : Nat) ≠ N + 3 by omega, show (N + 2 : Nat) ≠ N by omega, show (N + 2 : Nat) ≠ N + 1 by omega,
    show (N + 3 : Nat) ≠ N by omega, show (N + 3 : Nat) ≠ N + 1 by omega, show (N + 4 : Nat) ≠ N by omega, show (N + 4 : Nat) ≠ N + 1 by omega, show (N : Nat) ≠ N + 1 by omega⟩
theorem Ap5.sep {z TI TO i1 i2 : Addr} (D : Ap5 z TI TO i1 i2) {H : Hp} {fp1 fp2 : List Addr} (m1 : i1 ∈ fp1) (m2 : i2 ∈ fp2) (f1 : ∀ b ∈ fp1, b = i1 ∨ ∃ o, H b = some o) (f2 : ∀ b ∈ fp2, b = i2 ∨ ∃ o, H b = some o)
    (hz : H z = none) (hTO : H TO = none) (h1 : H i1 = none) (h2 : H i2 = none) : ZipSep2 z TI TO i1 i2 fp1 fp2 where
  TIz := D.TIz
  TOz := D.TOz
  TITO := D.TITO
  TIi1 := D.TIi1
  mem1 := m1
  zf1 := fun q => by
    rcases f1 _ q with e | ⟨o, e⟩
    · exact D.zi1 e
    · rw [hz] at e; cases e
  Tf1 := fun q => by
    rcases f1 _ q with e | ⟨o, e⟩
    · exact D.TOi1 e
    · rw [hTO] at e; cases e
  TIi2 := D.TIi2
  mem2 := m2
  zf2 := fun q => by
    rcases f2 _ q with e | ⟨o, e⟩
    · exact D.zi2 e
    · rw [hz] at e; cases e
  Tf2 := fun q => by
    rcases f2 _ q with e | ⟨o, e⟩
    · exact D.TOi2 e
    · rw [hTO] at e; cases e
  sep1_2 := fun q => by
    rcases f2 _ q with e | ⟨o, e⟩
    · exact D.i12 e
    · rw [h1] at e; cases e
  sep2_1 := fun q => by
    rcases f1 _ q with e | ⟨o, e⟩
    · exact D.i12 e.symm
    · rw [h2] at e; cases e
theorem out5 {z TI TO i1 i2 c : Addr} (h : c ∉ [z, TI, TO, i1, i2]) : c ≠ z ∧ c ≠ TI ∧ c ≠ TO ∧ c ≠ i1 ∧ c ≠ i2 := by
  simp only [List.mem_cons, List.not_mem_nil, or_false, not_or] at h; exact h
/-- a zip whose tuples are taken apart at once -/
def ZipTt (z TI TO i1 i2 : Addr) (n : Nat) (tn1 tn2 : Nat → Heap → Prop) (i : Nat) (h : Heap) : Prop := i ≤ n ∧ IsZip h z TI TO .none ∧ IsTupOf2 h TI (.ref i1) (.ref i2) ∧ (∃ x y, IsTupOf2 h TO x y) ∧ tn1 i h ∧ tn2 i h
section
variable {P : Program} {w : World} {K : PySem.W.Frag} {elts : List Expr} {kk : Nat} {tpos : Pos} {z TI TO i1 i2 : Addr} {n1 n2 : Nat} {tn1 tn2 : Nat → Heap → Prop} {G1 G2 : Hp → Prop} {PV1 PV2 : Nat → V → Prop}
theorem turn_zipG (A5 : Ap5 z TI TO i1 i2) (D1 : DrawK P w K i1 n1 tn1 G1 PV1) (D2 : DrawK P w K i2 n2 tn2 G2 PV2) :
    Turn P w K (.Tuple elts kk tpos) (ItG (min n1 n2) (fun H => G1 H ∧ G2 H) fun i xs => ∃ v1 v2, PV1 i v1 ∧ PV2 i v2 ∧ xs = [v1, v2]) [z, TI, TO, i1, i2] z (ZipTt z TI TO i1 i2 (min n1 n2) tn1 tn2) where
  mem := List.mem_cons_self ..
  obj := fun i h ⟨_, a, b, ⟨_, _, c⟩, d, e⟩ => five (p := fun c => ∃ o, h.get? c = some o ∧ _) ⟨_, a, fun _ q => nomatch q⟩ ⟨_, b, fun _ q => nomatch q⟩ ⟨_, c, fun _ q => nomatch q⟩ (D1.obj i h d) (D2.obj i h e)
  keep := fun i h h' ⟨l, a, b, ⟨_, _, c⟩, d, e⟩ k => ⟨l, k _ (by simp) _ a, k _ (by simp) _ b, ⟨_, _, k _ (by simp) _ c⟩, D1.keep _ _ _ d fun o => k i1 (by simp) o, D2.keep _ _ _ e fun o => k i2 (by simp) o⟩
  item := by
    rintro X hP hw hK hc i pins s σ H E I hf ⟨hl, hz, hTI, ⟨x0, y0, hTO⟩, h1, h2⟩ ⟨⟨hG1, hG2⟩, hlt⟩
    have none4 : H z = none ∧ H TO = none ∧ H i1 = none ∧ H i2 = none := ⟨(hf _ (by simp)).1, (hf _ (by simp)).1, (hf _ (by simp)).1, (hf _ (by simp)).1⟩
    obtain ⟨fp1, PD1, St1, DD1, c1, m1, q1, back1, val1⟩ := D1.draws X hP hw hK hc i pins s σ H I hG1 none4.2.2.1 h1
    obtain ⟨fp2, PD2, St2, DD2, c2, m2, q2, back2, val2⟩ := D2.draws X hP hw hK hc i pins s σ H I hG2 none4.2.2.2 h2
    subst hP hw hK
    have lt5 : ∀ c ∈ [z, TI, TO, i1, i2], c < s.heap.objs.size := by
      obtain ⟨_, e1⟩ := DD1.live _ _ c1
      obtain ⟨_, e2⟩ := DD2.live _ _ c2
      exact five (Heap.lt_size hz) (Heap.lt_size hTI) (Heap.lt_size hTO) (Heap.lt_size e1) (Heap.lt_size e2)
    refine wpAny_pyNext_zipD2_item (A5.sep m1 m2 q1 q2 none4.1 none4.2.1 none4.2.2.1 none4.2.2.2) DD1 DD2 hz hTI hTO c1 c2 (by omega) (by omega) fun u u2 h' tk p1 p2 z' TO' j1 j2 hT _ hk => ⟨_, rfl, ?_⟩
    obtain ⟨v, hv, rv⟩ := val1 i u p1
    obtain ⟨v2, hv2, rv2⟩ := val2 i u2 p2
    refine wpAny_letOwnedTupleGo_zip (s := { s with heap := h', toks := tk }) z' fun g zg sg => ?_
    have on : ∀ {c : Addr} {o : Obj}, c ≠ z → h'.get? c = some o → g.get? c = some o := fun n e => (sg.2 _ n).trans e
    have made : ObjOk X.prog X.w (upd H s.heap.objs.size (.tup [v, v2])) g s.heap.objs.size (.tup [v, v2]) := ⟨by show 2 ≤ sizeLine; decide, [u, u2], .cons rv (.cons rv2 .nil), ⟨_, on (Nat.ne_of_gt (lt5 z (by simp))) hT, rfl, _, rfl⟩⟩
    have J : Inv X pins σ (upd H s.heap.objs.size (.tup [v, v2])) { s with heap := g, toks := tk } := I.turnedNew (ch := [z, TI, TO, i1, i2]) (fun c o hb q => by
      obtain ⟨a, _, b, d, e⟩ := out5 hb
      exact on a (hk c o a b d e q)) hf (Nat.le_refl _) made
    exact ⟨.ref s.heap.objs.size, _, J, rfl, ⟨_, _, rfl, I.hok.fresh (Nat.le_refl _), rfl, v, v2, hv, hv2, rfl⟩, ⟨hlt, zg, on A5.TIz (hk _ _ A5.TIz A5.TITO A5.TIi1 A5.TIi2 hTI), ⟨u, u2, on A5.TOz TO'⟩, D1.keep _ _ _ (back1 _ _ j1) fun _ => on A5.zi1.symm, D2.keep _ _ _ (back2 _ _ j2) fun _ => on A5.zi2.symm⟩,
      fun c hcm => (upd_ne (Nat.ne_of_lt (lt5 c hcm))).trans (hf c hcm).1⟩
  done := by
    rintro X hP hw hK hc i pins s σ H E I hf ⟨hl, hz, hTI, ⟨x0, y0, hTO⟩, h1, h2⟩ ⟨⟨hG1, hG2⟩, hge⟩
    have none4 : H z = none ∧ H TO = none ∧ H i1 = none ∧ H i2 = none := ⟨(hf _ (by simp)).1, (hf _ (by simp)).1, (hf _ (by simp)).1, (hf _ (by simp)).1⟩
    obtain ⟨fp1, PD1, St1, DD1, c1, m1, q1, back1, val1⟩ := D1.draws X hP hw hK hc i pins s σ H I hG1 none4.2.2.1 h1
    obtain ⟨fp2, PD2, St2, DD2, c2, m2, q2, back2, val2⟩ := D2.draws X hP hw hK hc i pins s σ H I hG2 none4.2.2.2 h2
    subst hP hw hK
    exact wpAny_pyNext_zipD2_end (A5.sep m1 m2 q1 q2 none4.1 none4.2.1 none4.2.2.1 none4.2.2.2) DD1 DD2 hz hTI hTO c1 c2 (by omega) (by omega) (by omega) fun h' tk hk => ⟨rfl, I.turnedL (t' := tk) (ch := [z, TI, TO, i1, i2]) (fun c o hb q => by
      obtain ⟨a, _, b, d, e⟩ := out5 hb
      exact hk c o a b d e q) hf⟩
  self := fun A i s Q E st h => wpAny_pyIter_zip st.2.1 h
end
def iZipG (ta : TA) : TI := fun σ H R => ta σ H fun vs H1 => ∃ v1 v2 n1 n2 G1 G2 PV1 PV2, vs = [v1, v2] ∧ SrcV H1 v1 n1 G1 PV1 ∧ SrcV H1 v2 n2 G2 PV2 ∧ R (ItG (min n1 n2) (fun H => G1 H ∧ G2 H) fun i xs => ∃ v1 v2, PV1 i v1 ∧ PV2 i v2 ∧ xs = [v1, v2]) H1
theorem pi_zipGen {X : Cx} {tg e e2 : Expr} {ta : TA} {p pos : Pos} (hg : Gl X "zip") (hm : X.mg "zip" = none) (ha : PA X [e, e2] ta)
    (ht : ∀ {z TI TO i1 i2 : Addr} {n1 n2 : Nat} {tn1 tn2 : Nat → Heap → Prop} {G1 G2 : Hp → Prop} {PV1 PV2 : Nat → V → Prop} (A5 : Ap5 z TI TO i1 i2) (D1 : DrawK X.prog X.w X.K i1 n1 tn1 G1 PV1) (D2 : DrawK X.prog X.w X.K i2 n2 tn2 G2 PV2),
      ∃ tn : Nat → Heap → Prop, Turn X.prog X.w X.K tg (ItG (min n1 n2) (fun H => G1 H ∧ G2 H) fun i xs => ∃ v1 v2, PV1 i v1 ∧ PV2 i v2 ∧ xs = [v1, v2]) [z, TI, TO, i1, i2] z tn ∧
        ∀ h, IsZip h z TI TO .none → IsTupOf2 h TI (.ref i1) (.ref i2) → IsTupOf2 h TO .none .none → tn1 0 h → tn2 0 h → tn 0 h)
    (hs : starEach [e, e2] X.env = (false, eval e X.env) :: starEach [e2] X.env := by rfl) (hpl : (backTo pos (starEach [e2] X.env)).any (·.1) = false := by rfl) :
    PI X tg (.Call (.Name "zip" p) [e, e2] [] pos) (iZipG ta) := by
  refine ⟨fun pins s σ H R I h => ?_⟩
  refine Call_ (ld_blt I hg hm PyProof.Rows.boot_zip (PyProof.Rows.callWith_type1 (thn (ha.run pos pins s σ H _ I h) fun us s1 ⟨vs, H1, I1, r1, q1⟩ => ?_) hs hpl))
  obtain ⟨v1, v2, n1, n2, G1, G2, PV1, PV2, ex, hs1, hs2, q⟩ := q1
  subst ex
  cases r1 with
  | cons r rr =>
    cases rr with
    | cons r' rr =>
      cases rr
      obtain ⟨o1, HH1, B1, b1, hG1, hd1⟩ := (hs1.beg I1 r).ex
      obtain ⟨o2, HH2, B2, b2, hG2, hd2⟩ := (hs2.beg I1 r').ex
      refine zip_begins2 B1 B2 b1 b2 fun h' hz hTI hTO g1 g2 hsz hk => wpAny_pyIter_zip hz ?_
      have I2 : Inv X pins σ H1 { s1 with heap := h' } := I1.kept (t' := s1.toks) hk
      obtain ⟨tn1, D1, st1⟩ := hd1 s1.heap.objs.size
      obtain ⟨tn2, D2, st2⟩ := hd2 (s1.heap.objs.size + 1)
      obtain ⟨tn, T, h0⟩ := ht (ap5 s1.heap.objs.size) D1 D2
      exact ⟨s1.heap.objs.size + 4, [s1.heap.objs.size + 4, s1.heap.objs.size + 2, s1.heap.objs.size + 3, s1.heap.objs.size, s1.heap.objs.size + 1], tn, _, H1, rfl, I2, T, h0 _ hz hTI hTO (st1 _ g1) (st2 _ g2),
        fun c hcm => I1.fpOk (zip_cells c hcm) (I1.hok.fresh (zip_cells c hcm)), q⟩
/-- for a, b in zip(v1, v2): texts, tuples, lists -/
theorem pi_zipT2 {X : Cx} {e e2 : Expr} {ta : TA} {p pos tpos : Pos} {elts : List Expr} {kk : Nat} (hg : Gl X "zip") (hm : X.mg "zip" = none) (ha : PA X [e, e2] ta)
    (hs : starEach [e, e2] X.env = (false, eval e X.env) :: starEach [e2] X.env := by rfl) (hpl : (backTo pos (starEach [e2] X.env)).any (·.1) = false := by rfl) :
    PI X (.Tuple elts kk tpos) (.Call (.Name "zip" p) [e, e2] [] pos) (iZipG ta) :=
  pi_zipGen hg hm ha (fun A5 D1 D2 => ⟨_, turn_zipG A5 D1 D2, fun h hz hTI hTO h1 h2 => ⟨Nat.zero_le _, hz, hTI, ⟨_, _, hTO⟩, h1, h2⟩⟩) hs hpl
end RJ
end

section
set_option maxRecDepth 100000
namespace PySem
/-- nothing but these four cells has changed -/
def Beside (z TO i1 i2 : Addr) (h h' : Heap) : Prop := ∀ c o, c ≠ z → c ≠ TO → c ≠ i1 → c ≠ i2 → h.get? c = some o → h'.get? c = some o
/-- a zip, whatever tuple it holds to be out -/
abbrev RjZ (h : Heap) (z TI TO : Addr) (f0 : Value) (f1 : Bool) : Prop := h.get? z = some { cls := .type "zip", dict := none, data := .fields #[f0, .bool f1, .bool false, .ref TI, .ref TO], slots := #[] }
/-- .. between two turns -/
def ZipIdle (h : Heap) (z TI TO : Addr) : Prop := ∃ f0 f1, RjZ h z TI TO f0 f1 ∧ (f0 = .none ∨ ∃ T : Addr, f0 = rawInt T)
/-- the tuple it keeps -/
def KeepsPair (h : Heap) (TO : Addr) : Prop := ∃ x y, IsTupOf2 h TO x y
section
variable {prog : Program} {w : World} {A : Around} {E : Value → Shared → Prop} {s : Shared} {z TI TO i1 i2 : Addr} {fp1 fp2 : List Addr} {n1 n2 i : Nat} {P1 P2 : Nat → Value → Prop} {St1 St2 : Nat → Heap → Prop}
theorem rj_alive {a : Addr} {Q : Option Obj → Shared → Prop} (h : Q (s.heap.get? a) s) : wpAny (model prog w) A (loadIfAlive a) Q E s := fun _ _ _ => h
/-- is the tuple that went out free? both answers -/
theorem rj_isFree {f0 : Value} {f1 : Bool} {Q : Bool → Shared → Prop} (hz : RjZ s.heap z TI TO f0 f1) (hf : f0 = .none ∨ ∃ T : Addr, f0 = rawInt T) (yes : Q true s)
    (no : ∀ h', RjZ h' z TI TO f0 true → Heap.SameBut z s.heap h' → Q false { s with heap := h' }) : wpAny (model prog w) A (Builtin.SmallTypes.ownedTupleIsFree (.ref z)) Q E s := by
  have last : wpAny (model prog w) A (field (.ref z) 1) (fun v s' => v = .bool f1 ∧ s' = s) E s := wpAny_field hz rfl (x := .bool f1) rfl ⟨rfl, rfl⟩
  unfold Builtin.SmallTypes.ownedTupleIsFree; refine wpAny_bind (wpAny_field hz rfl (x := f0) rfl ?_)
  rcases hf with e | ⟨T, e⟩ <;> subst e
  · exact wpAny_pure yes
  show wpAny _ _ (loadIfAlive ((T : Int).toNat) >>= _) _ _ _
  refine wpAny_bind (rj_alive ?_)
  cases s.heap.get? ((T : Int).toNat)
  · simp only [Option.isNone_none, if_true]; exact wpAny_pure yes
  simp only [Option.isNone_some, Bool.false_eq_true, if_false]
  refine wpAny_bind (wpAny_mono last ?_ fun _ _ e => e); rintro _ _ ⟨rfl, rfl⟩
  cases f1
  · rw [if_pos (by rfl)]; exact wpAny_bind (wpAny_setField_rec hz (by simp) fun k hk sk => wpAny_pure (no k hk sk))
  · rw [if_neg (by decide)]; exact wpAny_pure (no _ hz (Heap.SameBut.refl _ _))
/-- one call of next: an item of each, or the end of one -/
theorem rj_next {Q : Value → Shared → Prop} (S : ZipSep2 z TI TO i1 i2 fp1 fp2) (D1 : Draws prog w A i1 fp1 n1 P1 St1) (D2 : Draws prog w A i2 fp2 n2 P2 St2) (hz : ZipIdle s.heap z TI TO)
    (hTI : IsTupOf2 s.heap TI (.ref i1) (.ref i2)) (hTO : KeepsPair s.heap TO) (st1 : St1 i s.heap) (st2 : St2 i s.heap) (le1 : i ≤ n1) (le2 : i ≤ n2)
    (got : ∀ x y h' tk, i < n1 → i < n2 → P1 i x → P2 i y → ZipIdle h' z TI TO → KeepsPair h' TO → St1 (i + 1) h' → St2 (i + 1) h' → IsTupOf2 h' s.heap.objs.size x y → Beside z TO i1 i2 s.heap h' → Q (.ref s.heap.objs.size) { s with heap := h', toks := tk })
    (out : ∀ h' tk e, i = n1 ∨ i = n2 → Beside z TO i1 i2 s.heap h' → (∃ o, h'.get? e = some o ∧ o.cls = .type "StopIteration") → E (.ref e) { s with heap := h', toks := tk }) :
    wpAny (model prog w) A (Builtin.«zip.__next__» ⟨[.ref z], []⟩) (fun fin s' => ∃ v, fin = .done (.ret v) ∧ Q v s') E s := by
  obtain ⟨f0, f1, zz, hf⟩ := hz
  obtain ⟨p, q, hTO⟩ := hTO
  obtain ⟨hp, g, d, k0, os⟩ := s
  have zl : z < hp.objs.size := Heap.lt_size zz
  show wpAny _ _ (field (.ref z) 2 >>= _) _ _ _; refine wpAny_bind (wpAny_field zz rfl (x := .bool false) rfl ?_)
  show wpAny _ _ (field (.ref z) 3 >>= _) _ _ _; refine wpAny_bind (wpAny_field zz rfl (x := .ref TI) rfl (wpAny_bind (wpAny_seqItems hTI rfl ?_)))
  show wpAny _ _ (Builtin.SmallTypes.ownedTupleIsFree (.ref z) >>= _) _ _ _; refine wpAny_bind (rj_isFree zz hf ?_ fun a za sa => ?_)
  · -- the kept tuple is filled anew
    simp only [if_true]; refine wpAny_bind (wpAny_rule (wpAny_bind (wpAny_field zz rfl (x := .ref TO) rfl (wpAny_bind (wpAny_setField_rec zz (by simp) fun a za sa => ?_)))))
    replace za : RjZ a z TI TO .ellipsis f1 := za
    replace sa : Heap.SameBut z hp a := sa
    have stop : ∀ (tk : Nat) (h h' : Heap) (e : Addr) (o : Obj), (i = n1 ∨ i = n2) → RjZ h z TI TO .ellipsis f1 → Beside z TO i1 i2 hp h → h.get? e = some o → o.cls = .type "StopIteration" → Heap.SameBut z h h' → E (.ref e) ⟨h', g, d, tk, os⟩ := fun tk h h' e o c zh b he ho sh =>
      out h' tk e c (fun c o cz cT c1 c2 x => sh.extBut _ _ cz (b c o cz cT c1 c2 x)) ⟨o, sh.extBut _ _ (fun x => by subst x; rw [zh] at he; cases he; simp at ho) he, ho⟩
    refine wpAny_bind ?_; simp only [List.zipIdx_cons, List.zipIdx_nil, List.forIn_cons, List.forIn_nil]; refine wpAny_bind (wpAny_bind (wpAny_onRaise ?_))
    show wpAny _ _ (Builtin.SmallTypes.nextOf (.ref i1) >>= _) _ _ ⟨a, g, d, k0, os⟩
    have ta := D1.over st1 sa S.zf1
    by_cases l1 : i < n1
    · refine wpAny_bind (D1.item i _ _ _ l1 ta fun x b k1 hx tb sb => wpAny_pure ?_)
      replace sb : Heap.SameBut i1 a b := sb
      have ub : IsTupOf2 b TO p q := sb.extBut _ _ S.Ti1 (sa.extBut _ _ S.TOz hTO)
      refine wpAny_bind (wpAny_seqItems (s := ⟨b, g, d, k1, os⟩) ub rfl (wpAny_bind (updateSeq_IsTupOf2 (s := ⟨b, g, d, k1, os⟩) ub fun c uc sc => wpAny_bind (wpAny_letGo (wpAny_pure ?_)))))
      replace uc : IsTupOf2 c TO x q := uc
      replace sc : Heap.SameBut TO b c := sc
      have zc : RjZ c z TI TO .ellipsis f1 := sc.extBut _ _ S.TOz.symm (sb.extBut _ _ S.zi1 za)
      have bc : Beside z TO i1 i2 hp c := fun c o cz cT c1 c2 e => sc.extBut _ _ cT (sb.extBut _ _ c1 (sa.extBut _ _ cz e))
      have tc := D2.over (D2.over (D2.over st2 sa S.zf2) sb S.sep1_2) sc S.Tf2
      refine wpAny_bind (wpAny_bind (wpAny_onRaise ?_)); show wpAny _ _ (Builtin.SmallTypes.nextOf (.ref i2) >>= _) _ _ ⟨c, g, d, k1, os⟩
      by_cases l2 : i < n2
      · refine wpAny_bind (D2.item i _ _ _ l2 tc fun y e k2 hy te se => wpAny_pure ?_)
        replace se : Heap.SameBut i2 c e := se
        have ue : IsTupOf2 e TO x q := se.extBut _ _ S.Ti2 uc
        refine wpAny_bind (wpAny_seqItems (s := ⟨e, g, d, k2, os⟩) ue rfl (wpAny_bind (updateSeq_IsTupOf2 (s := ⟨e, g, d, k2, os⟩) ue fun r ur sr => wpAny_bind (wpAny_letGo (wpAny_pure (wpAny_pure ?_))))))
        replace ur : IsTupOf2 r TO x y := ur
        replace sr : Heap.SameBut TO e r := sr
        have zr : RjZ r z TI TO .ellipsis f1 := sr.extBut _ _ S.TOz.symm (se.extBut _ _ S.zi2 zc)
        have size : r.objs.size = hp.objs.size := by rw [sr.1, se.1, sc.1, sb.1, sa.1]
        have j1 : St1 (i + 1) r := D1.over (D1.over (D1.over tb sc S.Tf1) se S.sep2_1) sr S.Tf1
        have j2 : St2 (i + 1) r := D2.over te sr S.Tf2
        refine wpAny_bind (wpAny_seqItems (s := ⟨r, g, d, k2, os⟩) ur rfl (wpAny_bind (wpAny_newTuple ?_)))
        show wpAny _ _ (Builtin.SmallTypes.ownedTupleHandOut (.ref z) (.ref r.objs.size) >>= _) _ _ ⟨r.push { cls := .type "tuple", data := .seq #[x, y] }, g, d, k2, os⟩
        generalize hv : r.push { cls := .type "tuple", data := .seq #[x, y] } = v
        have up : ∀ c o, r.get? c = some o → v.get? c = some o := fun c o e => hv ▸ Heap.get?_push_of_some _ e
        have tv : IsTupOf2 v r.objs.size x y := hv ▸ Heap.get?_push_size _ rfl
        unfold Builtin.SmallTypes.ownedTupleHandOut; refine wpAny_bind ?_
        refine wpAny_bind (wpAny_setField_rec (s := ⟨v, g, d, k2, os⟩) (up _ _ zr) (by simp) fun m zm sm => wpAny_setField_rec (s := ⟨m, g, d, k2, os⟩) zm (by simp) fun t zt stt => ?_)
        replace zt : RjZ t z TI TO (rawInt r.objs.size) false := zt
        replace sm : Heap.SameBut z v m := sm
        replace stt : Heap.SameBut z m t := stt
        have on : ∀ c o, c ≠ z → r.get? c = some o → t.get? c = some o := fun c o n e => stt.extBut _ _ n (sm.extBut _ _ n (up _ _ e))
        refine wpAny_pure ⟨_, rfl, ?_⟩
        show Q (.ref r.objs.size) ⟨t, g, d, k2, os⟩; rw [size]
        refine got x y t k2 l1 l2 hx hy ⟨_, _, zt, .inr ⟨_, rfl⟩⟩ ⟨_, _, on _ _ S.TOz ur⟩ (D1.frame _ _ _ j1 fun b hb o e => on b o (fun q => S.zf1 (q ▸ hb)) e) (D2.frame _ _ _ j2 fun b hb o e => on b o (fun q => S.zf2 (q ▸ hb)) e) ?_
          fun c o cz cT c1 c2 e => on c o cz (sr.extBut _ _ cT (se.extBut _ _ c2 (bc c o cz cT c1 c2 e)))
        have away : r.objs.size ≠ z := by rw [size]; exact Nat.ne_of_gt zl
        have := stt.extBut _ _ away (sm.extBut _ _ away tv); rwa [size] at this
      · have c2 : i = n2 := by omega
        refine wpAny_bind (D2.done ⟨c, g, d, k1, os⟩ _ _ (c2 ▸ tc) fun e x he hx => ?_); obtain ⟨o, ho, oc⟩ := hx
        have ze : RjZ e z TI TO .ellipsis f1 := he _ _ S.zi2 zc
        exact wpAny_setField_rec (s := ⟨e, g, d, k1, os⟩) ze (by simp) fun e' _ se => stop k1 e e' x o (.inr c2) ze (fun c o cz cT c1 c2 y => he _ _ c2 (bc c o cz cT c1 c2 y)) ho oc se
    · have c1 : i = n1 := by omega
      refine wpAny_bind (D1.done ⟨a, g, d, k0, os⟩ _ _ (c1 ▸ ta) fun e x he hx => ?_); obtain ⟨o, ho, oc⟩ := hx
      have ze : RjZ e z TI TO .ellipsis f1 := he _ _ S.zi1 za
      exact wpAny_setField_rec (s := ⟨e, g, d, k0, os⟩) ze (by simp) fun e' _ se => stop k0 e e' x o (.inl c1) ze (fun c o cz cT c1 c2 y => he _ _ c1 (sa.extBut _ _ cz y)) ho oc se
  · -- a tuple of its own
    replace za : RjZ a z TI TO f0 true := za
    replace sa : Heap.SameBut z hp a := sa
    have ta := D1.over st1 sa S.zf1
    simp only [Bool.false_eq_true, if_false]; refine wpAny_bind ?_; rw [← Array.forIn_toList]; simp only [List.forIn_cons, List.forIn_nil]; refine wpAny_bind (wpAny_bind (wpAny_holding ?_))
    show wpAny _ _ (Builtin.SmallTypes.nextOf (.ref i1) >>= _) _ _ ⟨a, g, d, k0, os⟩
    by_cases l1 : i < n1
    · refine wpAny_bind (D1.item i _ _ _ l1 ta fun x b k1 hx tb sb => wpAny_pure (wpAny_pure (wpAny_bind (wpAny_bind (wpAny_holding ?_)))))
      replace sb : Heap.SameBut i1 a b := sb
      have bb : Beside z TO i1 i2 hp b := fun c o cz _ c1 _ e => sb.extBut _ _ c1 (sa.extBut _ _ cz e)
      have tc := D2.over (D2.over st2 sa S.zf2) sb S.sep1_2
      show wpAny _ _ (Builtin.SmallTypes.nextOf (.ref i2) >>= _) _ _ ⟨b, g, d, k1, os⟩
      by_cases l2 : i < n2
      · refine wpAny_bind (D2.item i _ _ _ l2 tc fun y e k2 hy te se => wpAny_pure (wpAny_pure (wpAny_pure ?_)))
        replace se : Heap.SameBut i2 b e := se
        have size : e.objs.size = hp.objs.size := by rw [se.1, sb.1, sa.1]
        have ze : RjZ e z TI TO f0 true := se.extBut _ _ S.zi2 (sb.extBut _ _ S.zi1 za)
        have ue : IsTupOf2 e TO p q := se.extBut _ _ S.Ti2 (sb.extBut _ _ S.Ti1 (sa.extBut _ _ S.TOz hTO))
        have j1 : St1 (i + 1) e := D1.over tb se S.sep2_1
        show wpAny _ _ (newTuple [x, y] >>= _) _ _ ⟨e, g, d, k2, os⟩; refine wpAny_bind (wpAny_newTuple (wpAny_pure ⟨_, rfl, ?_⟩))
        show Q (.ref e.objs.size) ⟨e.push { cls := .type "tuple", data := .seq #[x, y] }, g, d, k2, os⟩
        have tv : IsTupOf2 (e.push { cls := .type "tuple", data := .seq #[x, y] }) e.objs.size x y := Heap.get?_push_size _ rfl
        rw [size] at tv ⊢
        exact got x y _ k2 l1 l2 hx hy ⟨_, _, Heap.get?_push_of_some _ ze, hf⟩ ⟨_, _, Heap.get?_push_of_some _ ue⟩ (D1.frame _ _ _ j1 fun _ _ _ e => Heap.get?_push_of_some _ e) (D2.frame _ _ _ te fun _ _ _ e => Heap.get?_push_of_some _ e) tv
          fun c o cz cT c1 c2 e => Heap.get?_push_of_some _ (se.extBut _ _ c2 (bb c o cz cT c1 c2 e))
      · have c2 : i = n2 := by omega
        exact wpAny_bind (D2.done ⟨b, g, d, k1, os⟩ _ _ (c2 ▸ tc) fun e x he hx => out e k1 x (.inr c2) (fun c o cz cT c1 c2 y => he _ _ c2 (bb c o cz cT c1 c2 y)) hx)
    · have c1 : i = n1 := by omega
      exact wpAny_bind (D1.done ⟨a, g, d, k0, os⟩ _ _ (c1 ▸ ta) fun e x he hx => out e k0 x (.inl c1) (fun c o cz _ c1 _ y => he _ _ c1 (sa.extBut _ _ cz y)) hx)
theorem rj_pyNext {Q : Option Value → Shared → Prop} (S : ZipSep2 z TI TO i1 i2 fp1 fp2) (D1 : Draws prog w A.in1 i1 fp1 n1 P1 St1) (D2 : Draws prog w A.in1 i2 fp2 n2 P2 St2) (hz : ZipIdle s.heap z TI TO)
    (hTI : IsTupOf2 s.heap TI (.ref i1) (.ref i2)) (hTO : KeepsPair s.heap TO) (st1 : St1 i s.heap) (st2 : St2 i s.heap) (le1 : i ≤ n1) (le2 : i ≤ n2)
    (got : ∀ x y h' tk, i < n1 → i < n2 → P1 i x → P2 i y → ZipIdle h' z TI TO → KeepsPair h' TO → St1 (i + 1) h' → St2 (i + 1) h' → IsTupOf2 h' s.heap.objs.size x y → Beside z TO i1 i2 s.heap h' → Q (some (.ref s.heap.objs.size)) { s with heap := h', toks := tk })
    (out : ∀ h' tk, i = n1 ∨ i = n2 → Beside z TO i1 i2 s.heap h' → Q none { s with heap := h', toks := tk }) : wpAny (model prog w) A (pyNext (.ref z)) Q E s := by
  have ty : s.TypeIs (.ref z) "zip" := by obtain ⟨_, _, e, _⟩ := hz; exact ⟨_, e, rfl⟩
  unfold pyNext; refine wpAny_bind (wpAny_attempt (wpAny_callSpecial?_slot (name := Str.ofString "__next__") ty F.slot_zip_next (wpAny_call_entry F.slot_zip_next ty F.entry_zip_next ?_ (F.args_zip_next_1 _))))
  refine rj_next S D1 D2 hz hTI hTO st1 st2 le1 le2 (fun x y h' tk a b c e f g j k l m => wpAny_pure (got x y h' tk a b c e f g j k l m)) fun h' tk e c b he => ?_
  obtain ⟨o, ho, hc⟩ := he
  exact wpAny_bind (wpAny_isInstance (T := "StopIteration") (b := true) ⟨o, ho, hc⟩ isSubtype_stop (wpAny_pure (out _ _ c b)))
end
end PySem
namespace RJ
open PySem PySem.Spec PyProof.Rows L2
theorem Beside.out {z TI TO i1 i2 : Addr} {h h' : Heap} (b : Beside z TO i1 i2 h h') {c : Addr} {o : Obj} (hc : c ∉ [z, TI, TO, i1, i2]) : h.get? c = some o → h'.get? c = some o := by
  simp only [List.mem_cons, List.not_mem_nil, or_false, not_or] at hc
  exact b c o hc.1 hc.2.2.1 hc.2.2.2.1 hc.2.2.2.2
section
variable {P : Program} {w : World} {K : PySem.W.Frag} {x : Str} {tpos : Pos} {z TI TO i1 i2 : Addr} {n1 n2 : Nat} {tn1 tn2 : Nat → Heap → Prop} {G1 G2 : Hp → Prop} {PV1 PV2 : Nat → V → Prop}
/-- a zip whose tuples go out under a name -/
def ZipTn (z TI TO i1 i2 : Addr) (n : Nat) (tn1 tn2 : Nat → Heap → Prop) (i : Nat) (h : Heap) : Prop := i ≤ n ∧ ZipIdle h z TI TO ∧ IsTupOf2 h TI (.ref i1) (.ref i2) ∧ KeepsPair h TO ∧ tn1 i h ∧ tn2 i h
theorem turn_zipN (A5 : Ap5 z TI TO i1 i2) (D1 : DrawK P w K i1 n1 tn1 G1 PV1) (D2 : DrawK P w K i2 n2 tn2 G2 PV2) :
    Turn P w K (.Name x tpos) (ItG (min n1 n2) (fun H => G1 H ∧ G2 H) fun i xs => ∃ v1 v2, PV1 i v1 ∧ PV2 i v2 ∧ xs = [v1, v2]) [z, TI, TO, i1, i2] z (ZipTn z TI TO i1 i2 (min n1 n2) tn1 tn2) where
  mem := List.mem_cons_self ..
  obj := fun i h ⟨_, ⟨_, _, a, _⟩, b, ⟨_, _, c⟩, d, e⟩ => five (p := fun c => ∃ o, h.get? c = some o ∧ _) ⟨_, a, fun _ q => nomatch q⟩ ⟨_, b, fun _ q => nomatch q⟩ ⟨_, c, fun _ q => nomatch q⟩ (D1.obj i h d) (D2.obj i h e)
  keep := fun i h h' ⟨l, ⟨_, _, a, f⟩, b, ⟨_, _, c⟩, d, e⟩ k => ⟨l, ⟨_, _, k _ (by simp) _ a, f⟩, k _ (by simp) _ b, ⟨_, _, k _ (by simp) _ c⟩, D1.keep _ _ _ d fun o => k i1 (by simp) o, D2.keep _ _ _ e fun o => k i2 (by simp) o⟩
  item := by
    rintro X hP hw hK hc i pins s σ H E I hf ⟨hl, hz, hTI, hTO, h1, h2⟩ ⟨⟨hG1, hG2⟩, hlt⟩
    have none5 : H z = none ∧ H TI = none ∧ H TO = none ∧ H i1 = none ∧ H i2 = none := ⟨(hf _ (by simp)).1, (hf _ (by simp)).1, (hf _ (by simp)).1, (hf _ (by simp)).1, (hf _ (by simp)).1⟩
    obtain ⟨fp1, PD1, St1, DD1, c1, m1, q1, back1, val1⟩ := D1.draws X hP hw hK hc i pins s σ H I hG1 none5.2.2.2.1 h1
    obtain ⟨fp2, PD2, St2, DD2, c2, m2, q2, back2, val2⟩ := D2.draws X hP hw hK hc i pins s σ H I hG2 none5.2.2.2.2 h2
    subst hP hw hK
    refine rj_pyNext (A5.sep m1 m2 q1 q2 none5.1 none5.2.2.1 none5.2.2.2.1 none5.2.2.2.2) DD1 DD2 hz hTI hTO c1 c2 (by omega) (by omega) (fun u u2 h' tk _ _ p1 p2 z' TO' j1 j2 hT hk => ?_) fun h' tk e => absurd e (by omega)
    obtain ⟨v, hv, rv⟩ := val1 i u p1
    obtain ⟨v2, hv2, rv2⟩ := val2 i u2 p2
    have made : ObjOk X.prog X.w (upd H s.heap.objs.size (.tup [v, v2])) h' s.heap.objs.size (.tup [v, v2]) := ⟨by show 2 ≤ sizeLine; decide, [u, u2], .cons rv (.cons rv2 .nil), ⟨_, hT, rfl, _, rfl⟩⟩
    have J : Inv X pins σ (upd H s.heap.objs.size (.tup [v, v2])) { s with heap := h', toks := tk } := I.turnedNew (ch := [z, TI, TO, i1, i2]) (fun c o hb q => Beside.out hk hb q) hf (Nat.le_refl _) made
    have lt5 : ∀ c ∈ [z, TI, TO, i1, i2], c < s.heap.objs.size := by
      obtain ⟨_, _, a, _⟩ := hz
      obtain ⟨_, _, b⟩ := hTO
      obtain ⟨_, e1⟩ := DD1.live _ _ c1
      obtain ⟨_, e2⟩ := DD2.live _ _ c2
      exact five (Heap.lt_size a) (Heap.lt_size hTI) (Heap.lt_size b) (Heap.lt_size e1) (Heap.lt_size e2)
    exact ⟨_, rfl, wpAny_pure ⟨.ref s.heap.objs.size, _, J, rfl, ⟨_, _, rfl, I.hok.fresh (Nat.le_refl _), rfl, v, v2, hv, hv2, rfl⟩, ⟨hlt, z', hk _ _ A5.TIz A5.TITO A5.TIi1 A5.TIi2 hTI, TO', back1 _ _ j1, back2 _ _ j2⟩,
      fun c hcm => (upd_ne (Nat.ne_of_lt (lt5 c hcm))).trans (hf c hcm).1⟩⟩
  done := by
    rintro X hP hw hK hc i pins s σ H E I hf ⟨hl, hz, hTI, hTO, h1, h2⟩ ⟨⟨hG1, hG2⟩, hge⟩
    have none5 : H z = none ∧ H TO = none ∧ H i1 = none ∧ H i2 = none := ⟨(hf _ (by simp)).1, (hf _ (by simp)).1, (hf _ (by simp)).1, (hf _ (by simp)).1⟩
    obtain ⟨fp1, PD1, St1, DD1, c1, m1, q1, back1, val1⟩ := D1.draws X hP hw hK hc i pins s σ H I hG1 none5.2.2.1 h1
    obtain ⟨fp2, PD2, St2, DD2, c2, m2, q2, back2, val2⟩ := D2.draws X hP hw hK hc i pins s σ H I hG2 none5.2.2.2 h2
    subst hP hw hK
    exact rj_pyNext (A5.sep m1 m2 q1 q2 none5.1 none5.2.1 none5.2.2.1 none5.2.2.2) DD1 DD2 hz hTI hTO c1 c2 (by omega) (by omega) (fun _ _ _ _ a b => absurd a (by omega)) fun h' tk _ hk => ⟨rfl, I.turnedL (t' := tk) (ch := [z, TI, TO, i1, i2]) (fun c o hb q => Beside.out hk hb q) hf⟩
  self := fun A i s Q E st h => by
    obtain ⟨_, ⟨_, _, a, _⟩, _⟩ := st
    exact wpAny_pyIter_slot ⟨_, a, rfl⟩ F.slot_zip_iter (wpAny_call_entry F.slot_zip_iter ⟨_, a, rfl⟩ F.entry_zip_iter (show wpAny _ _ (ret (.ref z)) _ _ s from wpAny_pure ⟨_, rfl, "zip", _, ⟨_, a, rfl⟩, F.slot_zip_next.lookup, h⟩) (F.args_zip_iter_1 _))
end
/-- for p in zip(v1, v2) -/
theorem pi_zipN {X : Cx} {x : Str} {e e2 : Expr} {ta : TA} {p pos tpos : Pos} (hg : Gl X "zip") (hm : X.mg "zip" = none) (ha : PA X [e, e2] ta)
    (hs : starEach [e, e2] X.env = (false, eval e X.env) :: starEach [e2] X.env := by rfl) (hpl : (backTo pos (starEach [e2] X.env)).any (·.1) = false := by rfl) :
    PI X (.Name x tpos) (.Call (.Name "zip" p) [e, e2] [] pos) (iZipG ta) :=
  pi_zipGen hg hm ha (fun A5 D1 D2 => ⟨_, turn_zipN A5 D1 D2, fun h hz hTI hTO h1 h2 => ⟨Nat.zero_le _, ⟨_, _, hz, .inl rfl⟩, hTI, ⟨_, _, hTO⟩, h1, h2⟩⟩) hs hpl
end RJ
end

section
set_option maxRecDepth 100000
namespace RJ
open PySem PySem.Spec PyProof.Rows L2
open PySem.W (minD AlikeAll alike alikeAll dataLt)
theorem minD_mem : ∀ (ys : List PyData) (y : PyData), minD y ys ∈ y :: ys
  | [], y => List.mem_cons_self ..
  | z :: zs, y => by
    show zs.foldl _ (if dataLt z y = true then z else y) ∈ y :: z :: zs
    have h := minD_mem zs (if dataLt z y = true then z else y)
    have h' : minD (if dataLt z y = true then z else y) zs ∈ (if dataLt z y = true then z else y) :: zs := h
    rcases List.mem_cons.mp h' with e | e
    · show minD (if dataLt z y = true then z else y) zs ∈ _
      rw [e]
      by_cases c : dataLt z y = true
      · rw [if_pos c]; exact List.mem_cons_of_mem _ (List.mem_cons_self ..)
      · rw [if_neg c]; exact List.mem_cons_self ..
    · exact List.mem_cons_of_mem _ (List.mem_cons_of_mem _ e)
/-- a measure that < respects falls to its least value -/
theorem minD_le {rk : PyData → Int} {Ok : PyData → Prop} (h1 : ∀ x y, Ok x → Ok y → dataLt x y = true → rk x ≤ rk y) (h2 : ∀ x y, Ok x → Ok y → dataLt x y = false → rk y ≤ rk x) :
    ∀ (ys : List PyData) (y : PyData), (∀ z ∈ y :: ys, Ok z) → ∀ z ∈ y :: ys, rk (minD y ys) ≤ rk z
  | [], y, _, z, hz => by
    rw [List.mem_singleton.mp hz]; exact Int.le_refl _
  | w :: ws, y, hok, z, hz => by
    have oky := hok y (List.mem_cons_self ..)
    have okw := hok w (List.mem_cons_of_mem _ (List.mem_cons_self ..))
    have step : rk (if dataLt w y = true then w else y) ≤ rk y ∧ rk (if dataLt w y = true then w else y) ≤ rk w := by
      cases c : dataLt w y with
      | true => exact ⟨h1 w y okw oky c, Int.le_refl _⟩
      | false => exact ⟨Int.le_refl _, h2 w y okw oky c⟩
    have ih := minD_le h1 h2 ws (if dataLt w y = true then w else y) (fun v hv => by
      rcases List.mem_cons.mp hv with e | e
      · rw [e]; split
        · exact okw
        · exact oky
      · exact hok v (List.mem_cons_of_mem _ (List.mem_cons_of_mem _ e)))
    show rk (minD (if dataLt w y = true then w else y) ws) ≤ rk z
    rcases List.mem_cons.mp hz with e | e
    · rw [e]; exact Int.le_trans (ih _ (List.mem_cons_self ..)) step.1
    · rcases List.mem_cons.mp e with e | e
      · rw [e]; exact Int.le_trans (ih _ (List.mem_cons_self ..)) step.2
      · exact ih z (List.mem_cons_of_mem _ e)
/-- min(l, default=None) of alike data -/
def rMinD (K : PySem.W.Frag) : List V → List V → Hp → VK → Prop := fun vs zs H Q => ∃ (a : Addr) (xs : List V) (ds : List PyData), vs = [V.ref a] ∧ zs = [V.non] ∧ H a = some (.lst xs) ∧ DpAll K H xs ds ∧ AlikeAll ds ∧ PyData.depthAll ds ≤ 60 ∧
  (ds = [] → Q .non H) ∧ ∀ (d : PyData) (ds' : List PyData) (i : Nat) (x : V), ds = d :: ds' → xs[i]? = some x → ds[i]? = some (minD d ds') → Q x H
theorem readsAll_ix {h : Heap} : ∀ {us : List Value} {ds : List PyData} {as : List Addr} {i : Nat} {u : Value}, ReadsAll h us ds as → us[i]? = some u → ∃ d bs, ds[i]? = some d ∧ Reads h u d bs
  | _, _, _, 0, u, .cons (d := d) (as := as) r _, e => by
    cases e
    exact ⟨d, as, rfl, r⟩
  | _, _, _, i + 1, u, .cons _ t, e => by
    obtain ⟨d, bs, h1, h2⟩ := readsAll_ix (i := i) t e
    exact ⟨d, bs, h1, h2⟩
theorem cr_minD {X : Cx} (hc : X.calm = true) (hu : X.A.units + 64 < cLine) : CallRK X (.builtin "min") [Str.ofString "default"] (rMinD X.K) := by
  intro pins s σ H xs0 zs us ws Q I r rz h
  obtain ⟨a, xs, ds, rfl, rfl, ha, hd, hal, hdep, q0, q1⟩ := h
  obtain ⟨its, rv, hl, _⟩ := I.list (SqL.of ha)
  rw [Vals.ref1 r]
  obtain ⟨u, rfl, ru⟩ := vals1 rz
  cases ru
  obtain ⟨as, hr⟩ := Dp.readsAll I ds xs its hd rv
  show wpAny _ _ (call (.builtin "min") [.ref a] [(Str.ofString "default", Value.none)]) _ _ s
  refine PySem.W.min_list_default (I.ok.hd hc) hl.isList hr hal (by omega) (fun e h' tk hk => ⟨.non, H, I.kept hk, rfl, q0 e⟩) fun y ys i v h' tk bs e hv hrd hk => ?_
  have hv' : its[i]? = some v := by simpa using hv
  have hl2 := rv.length
  have hi : i < xs.length := by
    have := (List.getElem?_eq_some_iff.mp hv').1
    omega
  obtain ⟨u2, hu2, ru2⟩ := rv.get (List.getElem?_eq_getElem hi)
  rw [hv'] at hu2
  cases hu2
  obtain ⟨d2, bs2, hd2, hr2⟩ := readsAll_ix hr hv'
  have heq : d2 = minD y ys := ((PyProof.Rows.reads_det (h := s.heap) (h' := h') (fun b o e _ => hk b o e) hr2 hrd).1).symm
  exact ⟨xs[i], H, I.kept hk, ru2, q1 y ys i _ e (List.getElem?_eq_getElem hi) (by rw [hd2, heq])⟩
end RJ
end

section
set_option maxRecDepth 100000
namespace RJ
open PySem PySem.Spec PyProof.Rows L2
/-- the signs of a text, each a text -/
def signsV (x : Str) : List V := x.cps.toList.map fun c => V.str ⟨#[c]⟩
theorem call_list_text {X : Cx} (hc : X.calm = true) : CallR X (.type "list") (fun xs H Q => ∃ x : Str, xs = [.str x] ∧ x.cps.size ≤ sizeLine ∧ ∀ l, H l = none → Q (.ref l) (upd H l (.lst (signsV x)))) := by
  intro pins s σ H xs us Q I r h
  obtain ⟨x, rfl, hz, q⟩ := h
  obtain ⟨u, rfl, rx⟩ := vals1 r
  obtain ⟨t, rfl⟩ := rx
  refine PySem.call_list_str (I.ok.hd hc) x t (hn := hz) fun h' tk acc c' hk hS hacc => ?_
  have hv : Vals (signsV x) acc.toList := by
    have hl : (signsV x).length = acc.toList.length := by
      rw [signsV, List.length_map, Array.length_toList, Array.length_toList]; exact hacc.1.symm
    have key : ∀ j u, acc.toList[j]? = some u → ∃ v, (signsV x)[j]? = some v ∧ RelV v u := fun j u hu => by
      obtain ⟨c, t', hcx, rfl⟩ := hacc.2 j u (by rw [← Array.getElem?_toList]; exact hu)
      exact ⟨.str ⟨#[c]⟩, by rw [signsV, List.getElem?_map]; simp [hcx], ⟨t', rfl⟩⟩
    clear hacc hS hk
    revert hl key
    generalize signsV x = vs
    generalize acc.toList = ws
    intro hl key
    induction vs generalizing ws with
    | nil =>
      cases ws with
      | nil => exact .nil
      | cons _ _ => cases hl
    | cons v vs ih =>
      cases ws with
      | nil => cases hl
      | cons w ws =>
        obtain ⟨v', e, r⟩ := key 0 w rfl
        cases e
        exact .cons r (ih ws (Nat.succ.inj hl) fun j u hu => key (j + 1) u hu)
  refine ⟨.ref s.heap.objs.size, _, I.laid (t' := tk) hk (Nat.le_refl _) (show ObjOk X.prog X.w _ h' _ (.lst (signsV x)) from ⟨?_, acc.toList, c', hv, by simpa using hS⟩), rfl, q _ (I.hok.fresh (Nat.le_refl _))⟩
  rw [signsV, List.length_map, Array.length_toList]; exact hz
theorem op_mul_text {X : Cx} : OpR X (binaryOp .Mult) (fun x y H Q => ∃ (a : Str) (n : Int), x = .str a ∧ y = .int n ∧ MulOk a n ∧ Q (.str (Txt.mul a n)) H) := by
  intro pins s σ H x y v u Q I rx ry h
  obtain ⟨a, n, rfl, rfl, hok, q⟩ := h
  obtain ⟨t, rfl⟩ := rx
  obtain ⟨t2, rfl⟩ := ry
  exact PySem.SB.mul hok fun t' k => ⟨.str _, H, I.kept (t' := k) fun _ _ z => z, ⟨_, rfl⟩, q⟩
end RJ
end

section
set_option maxRecDepth 100000
namespace RJ
open PySem PySem.Spec PyProof.Rows L2
/-! ### rules that name the written part: within a comprehension it can't be found -/
section
variable {X : Cx} {K : PySem.W.Frag}
theorem ix_listK (h : X.K = K) : IxR X (rIxL K) := h ▸ ix_list
theorem ix_tupK (h : X.K = K) : IxR X (rIxT K) := h ▸ ix_tup
theorem sl_listK (h : X.K = K) : SlR X (rSlL K) := h ▸ sl_list
theorem sl_tupAK (h : X.K = K) : SlR X (rSlA K) := h ▸ sl_tupA
theorem call_len_seqK (h : X.K = K) : CallR X (.builtin "len") (fun xs H Q => ∃ p ys, xs = [V.ref p] ∧ (SqL K H p ys ∨ SqT K H p ys) ∧ Q (.int (ys.length : Int)) H) := by subst h; exact call_len_seq
theorem call_list_ofK (h : X.K = K) : CallR X (.type "list") (fun xs H Q => ∃ p ys, xs = [V.ref p] ∧ (SqL K H p ys ∨ SqT K H p ys) ∧ ∀ l, H l = none → Q (.ref l) (upd H l (.lst ys))) := by subst h; exact call_list_of
theorem op_in_seqK (h : X.K = K) : OpR X (compareOp .In) (rIn K false) := h ▸ op_in_seq
theorem op_notIn_seqK (h : X.K = K) : OpR X (compareOp .NotIn) (rIn K true) := h ▸ op_notIn_seq
theorem pe_fldK {e : Expr} {f : Str} {pos : Pos} {ta : TE} (h : X.K = K) (he : PE X e ta) (hb : attributeBase e f X.env (eval e X.env) = eval e X.env) : PE X (.Attribute e f pos) (tFld K ta f) := by subst h; exact pe_fld he hb
theorem pe_bmK {T id : String} {name : Str} {r : V → List V → Hp → VK → Prop} {o e : Expr} {es : List Expr} {apos cpos : Pos} {to : TE} {t : TA} (h : X.K = K) (pa : PlainAttrs T) (slot : Slot T name id) (hty : typeOf (.builtin id) = pure (.type "method_descriptor")) (hm : MtR X id r) (ho : PE X o to) (ha : PA X (e :: es) t)
    (hbase : attributeBase o name X.env (eval o X.env) = eval o X.env := by rfl)
    (hfew : ((backTo cpos (starEach (e :: es) X.env)).all (fun x => !x.1) && (backToKw cpos (keywordEach [] X.env)).all (fun x => x.1.isSome)
      && decide ((e :: es).length + ([] : List Keyword).length + (if ([] : List Keyword).isEmpty then 0 else 1) < 30)) = true := by rfl)
    (hline : (apos.endLine == cpos.line) = true := by rfl) (hs : starEach (e :: es) X.env = (false, eval e X.env) :: starEach es X.env := by rfl) (hplain : (backTo cpos (starEach es X.env)).any (·.1) = false := by rfl) :
    PE X (.Call (.Attribute o name apos) (e :: es) [] cpos) (tBM K T r to t) := by subst h; exact pe_bm pa slot hty hm ho ha hbase hfew hline hs hplain
end
end RJ
end

section
set_option maxRecDepth 100000
namespace RJ
open PySem PySem.Spec PyProof.Rows L2
def top (i : Nat) : Stmt := PySem.Challenge.pw_rankedjoins_k31_whole_behind_any_edits.main.body.getD i (.Pass ⟨0, 0, 0, 0⟩)
/-- what the top leaves of the built-in names and of the module's constants -/
structure Txt (K : PySem.W.Frag) (mg : Str → Option Value) : Prop where
  b_isinstance : mg "isinstance" = none
  b_len : mg "len" = none
  b_min : mg "min" = none
  b_all : mg "all" = none
  b_abs : mg "abs" = none
  b_int : mg "int" = none
  b_bool : mg "bool" = none
  b_str : mg "str" = none
  b_tuple : mg "tuple" = none
  b_list : mg "list" = none
  b_zip : mg "zip" = none
  b_enumerate : mg "enumerate" = none
  b_range : mg "range" = none
  b_sorted : mg "sorted" = none
  b_max : mg "max" = none
  b_iter : mg "iter" = none
  c_MOST_LETTERS : ∃ u, mg "MOST_LETTERS" = some u ∧ RelV (.int 30) u
  c_MOST_SIGNS_OF_PIECE : ∃ u, mg "MOST_SIGNS_OF_PIECE" = some u ∧ RelV (.int 40) u
theorem hu64_of {A : Around} {k : Nat} (hr : Room k A) : A.units + 64 < cLine := hr.units
/-! ### heaps -/
theorem Same.new {H H' : Hp} {p : Addr} {o : HO} (s : Same H H') (h : H' p = none) : Same H (upd H' p o) := fun b u e => by
  have := s b u e
  rw [upd_ne (ne_of_none this h)]; exact this
theorem Same.put {H H' : Hp} {p : Addr} {o : HO} (s : Same H H') (h : H p = none) : Same H (upd H' p o) := fun b u e => by
  rw [upd_ne (ne_of_none e h)]; exact s b u e
theorem same_new {H : Hp} {p : Addr} {o : HO} (h : H p = none) : Same H (upd H p o) := Same.new (Same.refl H) h
/-! ### values -/
/-- a row of pieces -/
def iv (l : List Nat) : List V := l.map fun (n : Nat) => V.int (n : Int)
theorem iv_len (l : List Nat) : (iv l).length = l.length := by rw [iv, List.length_map]
theorem iv_get {l : List Nat} {i : Nat} {v : V} (h : (iv l)[i]? = some v) : ∃ n : Nat, l[i]? = some n ∧ v = V.int (n : Int) := by
  rw [iv, List.getElem?_map] at h
  cases e : l[i]? with
  | none => rw [e] at h; cases h
  | some n => rw [e] at h; exact ⟨n, rfl, (Option.some.inj h).symm⟩
theorem iv_at {l : List Nat} {i n : Nat} (h : l[i]? = some n) : (iv l)[i]? = some (V.int (n : Int)) := by
  rw [iv, List.getElem?_map, h]; rfl
theorem iv_snoc (l : List Nat) (n : Nat) : iv l ++ [V.int (n : Int)] = iv (l ++ [n]) := by rw [iv, iv, List.map_append]; rfl
/-- a list or a tuple at p -/
def SeqAt (b : Bool) (H : Hp) (p : Addr) (xs : List V) : Prop := H p = some (match b with | true => .lst xs | false => .tup xs)
theorem SeqAt.same {b : Bool} {H H' : Hp} {p : Addr} {xs : List V} (h : SeqAt b H p xs) (s : Same H H') : SeqAt b H' p xs := s _ _ h
/-- a row at p: a list or a tuple -/
abbrev RowAt (b : Bool) (H : Hp) (p : Addr) (l : List Nat) : Prop := SeqAt b H p (iv l)
abbrev S (l : List Nat) : Str := SX.S l
theorem S_len (l : List Nat) : (S l).length = l.length := SX.S_len l
end RJ
end

section
set_option maxRecDepth 100000
set_option maxHeartbeats 2000000
namespace RJ
open PySem PySem.Spec PyProof.Rows L2
abbrev s_is_integer : Stmt := top 9
abbrev N_is_integer : List Str := ["value"]
theorem sc_is_integer : FnScope N_is_integer ["value"] (C8.fnScope s_is_integer) := C8.fnScope_by (by decide +kernel)
abbrev s_is_number_below : Stmt := top 10
abbrev N_is_number_below : List Str := ["value", "end"]
theorem sc_is_number_below : FnScope N_is_number_below ["value", "end"] (C8.fnScope s_is_number_below) := C8.fnScope_by (by decide +kernel)
abbrev s_is_sign : Stmt := top 11
abbrev N_is_sign : List Str := ["sign"]
theorem sc_is_sign : FnScope N_is_sign ["sign"] (C8.fnScope s_is_sign) := C8.fnScope_by (by decide +kernel)
abbrev s_is_alphabet : Stmt := top 12
abbrev N_is_alphabet : List Str := ["text", "ascending", "first", "second", "sign"]
theorem sc_is_alphabet : FnScope N_is_alphabet ["text"] (C8.fnScope s_is_alphabet) := C8.fnScope_by (by decide +kernel)
/-- is the value an integer that is no bool -/
def isIntV : V → Bool
  | .int _ => true
  | _ => false
/-- values whose kind isinstance knows -/
inductive Kind (H : Hp) : V → Prop
  | int (i : Int) : Kind H (.int i)
  | bl (b : Bool) : Kind H (.bl b)
  | non : Kind H .non
  | str (x : Str) : Kind H (.str x)
  | lst {a : Addr} {xs : List V} (e : H a = some (.lst xs)) : Kind H (.ref a)
  | tup {a : Addr} {xs : List V} (e : H a = some (.tup xs)) : Kind H (.ref a)
theorem Kind.isi {K : PySem.W.Frag} {H : Hp} {x : V} (k : Kind H x) : ∃ t, TyX K H x t ∧ ∃ b, PySem.W.kitOne K t (.type "bool") = some b ∧ ∃ c, PySem.W.kitOne K t (.type "int") = some c ∧ (c && !b) = isIntV x := by
  cases k with
  | int i => exact ⟨_, .base (.int i), false, kit_ty (by decide +kernel), true, kit_ty (by decide +kernel), rfl⟩
  | bl b => exact ⟨_, .base (.bl b), true, kit_ty (by decide +kernel), true, kit_ty (by decide +kernel), rfl⟩
  | non => exact ⟨_, .base .non, false, kit_ty (by decide +kernel), false, kit_ty (by decide +kernel), rfl⟩
  | str x => exact ⟨_, .base (.str x), false, kit_ty (by decide +kernel), false, kit_ty (by decide +kernel), rfl⟩
  | lst e => exact ⟨_, .base (.lst e), false, kit_ty (by decide +kernel), false, kit_ty (by decide +kernel), rfl⟩
  | tup e => exact ⟨_, .base (.tup e), false, kit_ty (by decide +kernel), false, kit_ty (by decide +kernel), rfl⟩
def numBelow (x : V) (n : Int) : Bool := match x with
  | .int i => decide (0 ≤ i) && decide (i < n)
  | _ => false
def sp_is_integer : Sp := fun vs H Q _ => ∃ x, vs = [x] ∧ Kind H x ∧ Q (.bl (isIntV x)) H
def sp_is_number_below : Sp := fun vs H Q _ => ∃ x n, vs = [x, .int n] ∧ Kind H x ∧ Q (.bl (numBelow x n)) H
def sp_is_sign : Sp := fun vs H Q _ => ∃ c, vs = [.str (S [c])] ∧ Q (.bl (decide (32 ≤ c ∧ c ≤ 126))) H
section
variable {P : Program} {w : World} {K : PySem.W.Frag} {mg : Str → Option Value} {base : Heap}
theorem ok_is_integer {f : Addr} {fd : FuncData} (F : C8.Fun K "is_integer" "is_integer" s_is_integer f fd) (T : Txt K mg) : FnOk P w K mg base C8.CX0 1 f fd ["value"] sp_is_integer := by
  refine C8.fn0 F sc_is_integer (fun vs H Q E h => ?_) (fun cdv A outer s H vs Q E hr h => ?_)
  · obtain ⟨x, rfl, _⟩ := h; rfl
  · obtain ⟨x, rfl, k, q⟩ := h
    refine ⟨_, (pss_one (ps_ret (pe_and (pe_callB call_isi (by rfl) T.b_isinstance (by decide +kernel) (pa_cons (pv 0) (pa_cons (pe_bltn (v := .ty "int") (u := .type "int") rfl T.b_int (by decide +kernel) rfl) pa_nil))) (pe_one (pe_not (pe_callB call_isi (by rfl) T.b_isinstance (by decide +kernel) (pa_cons (pv 0) (pa_cons (pe_bltn (v := .ty "bool") (u := .type "bool") rfl T.b_bool (by decide +kernel) rfl) pa_nil)))))))), ?_⟩
    obtain ⟨t, ty, b, hb, c, hc, e⟩ := k.isi (K := K)
    refine ⟨_, rfl, x, .ty "int", t, .type "int", c, rfl, .ty _, ty, hc, c, rfl, ?_⟩
    cases c with
    | false => 
      have e' : false = isIntV x := e
      refine iteF ?_
      rw [e']; exact q
    | true =>
      refine iteT ⟨_, rfl, x, .ty "bool", t, .type "bool", b, rfl, .ty _, ty, hb, b, rfl, ?_⟩
      have e' : (!b) = isIntV x := by rw [← e]; simp
      show Q (.bl (!b)) H
      rw [e']; exact q
end
end RJ
end

section
set_option maxRecDepth 100000
set_option maxHeartbeats 2000000
namespace RJ
open PySem PySem.Spec PyProof.Rows L2
theorem walkG {n : Nat} {G : Hp → Prop} {PX : Nat → List V → Prop} : Walk (ItG n G PX) n G (fun i H v H' => ∃ T xs, v = .ref T ∧ H T = none ∧ H' = upd H T (.tup xs) ∧ PX i xs) :=
  ⟨fun _ _ hi h => ⟨h, hi⟩, fun _ h => ⟨h, Nat.le_refl _⟩, fun _ _ _ _ _ _ y => y⟩
theorem cutS_from (l : List Nat) (k : Nat) : cutS (S l) (some (k : Int)) none = S (l.drop k) := by
  show (⟨(((S l).cps.toList.drop (HT.sIx (S l).length 0 (some (k : Int)))).take (HT.sIx (S l).length (S l).length none - HT.sIx (S l).length 0 (some (k : Int)))).toArray⟩ : Str) = ⟨(l.drop k).toArray⟩
  rw [HT.sIx_nat, HT.sIx_none, S_len]
  have e : (l.drop (min k l.length)).take (l.length - min k l.length) = l.drop k := by
    by_cases h : k ≤ l.length
    · rw [Nat.min_eq_left h, List.take_of_length_le (by rw [List.length_drop]; omega)]
    · rw [Nat.min_eq_right (by omega), List.drop_eq_nil_of_le (by omega : l.length ≤ k), List.drop_length, List.take_nil]
  exact congrArg (fun z : List Nat => (⟨z.toArray⟩ : Str)) e
theorem S_get (l : List Nat) (i : Nat) : (S l).cps[i]? = l[i]? := by
  show l.toArray[i]? = l[i]?
  rw [List.getElem?_toArray]
theorem S_size (l : List Nat) : (S l).cps.size = l.length := List.size_toArray
theorem str1 (c : Nat) : (⟨#[c]⟩ : Str) = S [c] := rfl
/-- the source that a text is -/
theorem src_text (H : Hp) (l : List Nat) : SrcV H (.str (S l)) l.length (fun _ => True) (fun i v => ∃ c, (S l).cps[i]? = some c ∧ v = .str ⟨#[c]⟩) :=
  .inl ⟨S l, rfl, (S_size l).symm, rfl, rfl⟩
abbrev s_check_alphabet : Stmt := top 13
abbrev N_check_alphabet : List Str := ["text"]
theorem sc_check_alphabet : FnScope N_check_alphabet ["text"] (C8.fnScope s_check_alphabet) := C8.fnScope_by (by decide +kernel)
/-- neighbors ascend -/
def ascL (l : List Nat) : List Bool := (l.zip (l.drop 1)).map fun p => decide (p.1 < p.2)
def alOk (l : List Nat) : Bool := decide (1 ≤ l.length ∧ l.length ≤ 30) && ((ascL l).all id && (l.map fun c => decide (32 ≤ c ∧ c ≤ 126)).all id)
def sp_is_alphabet : Sp := fun vs H Q _ => ∃ l : List Nat, vs = [.str (S l)] ∧ l.length ≤ 1000 ∧ ∀ H', Same H H' → Q (.bl (alOk l)) H'
def sp_check_alphabet : Sp := fun vs H Q _ => ∃ l : List Nat, vs = [.str (S l)] ∧ l.length ≤ 1000 ∧ alOk l = true ∧ ∀ H', Same H H' → Q .non H'
theorem small_le {n : Nat} (h : n ≤ 1000) : n ≤ sizeLine := Nat.le_of_lt (small1000 h)
theorem map_take_succ {α β : Type} {f : α → β} {l : List α} {i : Nat} {x : α} (h : l[i]? = some x) : (l.take (i + 1)).map f = (l.take i).map f ++ [f x] := by
  rw [List.take_add_one, h, List.map_append]; rfl
theorem lt_cps (a b : Nat) : decide ((S [a]).cps.toList < (S [b]).cps.toList) = decide (a < b) := by
  apply decide_eq_decide.mpr
  show ([a] < [b]) ↔ a < b
  rw [List.cons_lt_cons_iff]
  constructor
  · rintro (h | ⟨_, h⟩)
    · exact h
    · exact absurd h (by simp)
  · exact .inl
section
variable {P : Program} {w : World} {K : PySem.W.Frag} {mg : Str → Option Value} {base : Heap}
theorem ok_is_number_below {f : Addr} {fd : FuncData} (F : C8.Fun K "is_number_below" "is_number_below" s_is_number_below f fd) (T : Txt K mg) (c_is_integer : C8.Cal P w K mg base 1 "is_integer" sp_is_integer []) : FnOk P w K mg base C8.CX0 2 f fd ["value", "end"] sp_is_number_below := by
  refine C8.fn0 F sc_is_number_below (fun vs H Q E h => ?_) (fun cdv A outer s H vs Q E hr h => ?_)
  · obtain ⟨x, n, rfl, _⟩ := h; rfl
  · obtain ⟨x, n, rfl, k, q⟩ := h
    refine ⟨_, (pss_one (ps_ret (pe_and (C8.pe_c c_is_integer hr (by first | decide | omega) (by rfl) (pa_cons (pv 0) pa_nil)) (pe_one (pe_chain op_le op_lt pe_int (pv 0) (pv 1)))))), ?_⟩
    refine ⟨_, rfl, x, rfl, k, _, rfl, ?_⟩
    cases k with
    | int i =>
      refine iteT ⟨_, rfl, _, _, rfl, rfl, _, rfl, ?_⟩
      have q' : Q (.bl (decide (0 ≤ i) && decide (i < n))) H := q
      by_cases c : 0 ≤ i
      · rw [decide_eq_true c] at q' ⊢
        exact iteT ⟨_, rfl, _, _, rfl, rfl, q'⟩
      · rw [decide_eq_false c] at q' ⊢
        exact iteF q'
    | bl b => exact iteF q
    | non => exact iteF q
    | str x => exact iteF q
    | lst e => exact iteF q
    | tup e => exact iteF q
theorem ok_is_sign {f : Addr} {fd : FuncData} (F : C8.Fun K "is_sign" "is_sign" s_is_sign f fd) (T : Txt K mg) : FnOk P w K mg base C8.CX0 1 f fd ["sign"] sp_is_sign := by
  refine C8.fn0 F sc_is_sign (fun vs H Q E h => ?_) (fun cdv A outer s H vs Q E hr h => ?_)
  · obtain ⟨c, rfl, _⟩ := h; rfl
  · obtain ⟨c, rfl, q⟩ := h
    refine ⟨_, (pss_one (ps_ret (pe_chain op_le_str op_le_str pe_str (pv 0) pe_str))), ?_⟩
    refine ⟨_, rfl, S [32], S [c], rfl, rfl, _, rfl, ?_⟩
    rw [lt_cps]
    by_cases h1 : c < 32
    · rw [decide_eq_true h1]
      refine iteF ?_
      rw [decide_eq_false (by omega)] at q; exact q
    · rw [decide_eq_false h1]
      refine iteT ⟨S [c], S [126], rfl, rfl, ?_⟩
      rw [lt_cps]
      have e : (!decide (126 < c)) = decide (32 ≤ c ∧ c ≤ 126) := by
        by_cases h2 : 126 < c
        · rw [decide_eq_true h2, decide_eq_false (by omega)]; rfl
        · rw [decide_eq_false h2, decide_eq_true (by omega)]; rfl
      rw [e]; exact q
theorem ok_is_alphabet {f : Addr} {fd : FuncData} (F : C8.Fun K "is_alphabet" "is_alphabet" s_is_alphabet f fd) (T : Txt K mg) (c_is_sign : C8.Cal P w K mg base 1 "is_sign" sp_is_sign []) : FnOk P w K mg base C8.CX0 2 f fd ["text"] sp_is_alphabet := by
  refine C8.fn0 F sc_is_alphabet (fun vs H Q E h => ?_) (fun cdv A outer s H vs Q E hr h => ?_)
  · obtain ⟨l, rfl, _⟩ := h; rfl
  · obtain ⟨l, rfl, hl, q⟩ := h
    refine ⟨_, (pss_cons (ps_set (i := 1) sc_is_alphabet.nd rfl (Or.inl rfl) (pe_callB (cr_all rfl) (by rfl) T.b_all (by decide +kernel) (pa_cons (pe_lc (own := [("first", 2), ("second", 3)]) (g := gTup K 2 (gCons (gName 2) (gCons (gName 3) (gNil)))) (tt := tYes) rfl sc_is_alphabet.nd (pi_zipT2 rfl T.b_zip (pa_cons (pv 0) (pa_cons (pe_slice sl_str (pv 0) (po_some pe_int) po_none) pa_nil))) (blkOk_by (N := N_is_alphabet) (sc := C8.fnScope s_is_alphabet) (by decide +kernel)) (fun _ _ _ _ _ => (pg_tup rfl (pgs_cons (pg_name (i := 2) sc_is_alphabet.nd rfl (Or.inl rfl)) (pgs_cons (pg_name (i := 3) sc_is_alphabet.nd rfl (Or.inl rfl)) pgs_nil)))) (fun _ _ _ _ _ => pts_nil) (fun _ _ _ _ _ => (pe_cmpR op_lt_str (pv 2) (pv 3) (nomark _)))) pa_nil)))
      (pss_one (ps_ret (pe_and (pe_chain op_le op_le pe_int (pe_callB call_len_str (by rfl) T.b_len PySem.boot_len (pa_cons (pv 0) pa_nil)) (C8.pe_gc rfl T.c_MOST_LETTERS)) (pe_and (pv 1) (pe_one (pe_callB (cr_all rfl) (by rfl) T.b_all (by decide +kernel) (pa_cons (pe_lc (own := [("sign", 4)]) (g := gName 4) (tt := tYes) rfl sc_is_alphabet.nd (pi_str (pv 0)) (blkOk_by (N := N_is_alphabet) (sc := C8.fnScope s_is_alphabet) (by decide +kernel)) (fun _ _ _ _ _ => (pg_name (i := 4) sc_is_alphabet.nd rfl (Or.inl rfl))) (fun _ _ _ _ _ => pts_nil) (fun _ _ _ _ _ => (C8.pe_c c_is_sign hr (by first | decide | omega) (by rfl) (pa_cons (pv 4) pa_nil)))) pa_nil)))))))), ?_⟩
    refine ⟨_, rfl, _, rfl, 1, rfl, S l, rfl, by rw [S_len]; exact small_le hl, ?_⟩
    have e1 : cutS (S l) (some 1) none = S (l.drop 1) := cutS_from l 1
    rw [e1]
    refine ⟨_, _, _, _, _, _, _, _, rfl, src_text H l, src_text H (l.drop 1), fun D hD => lc_it walkG (fun i H' => Same H H' ∧ H' D = some (.lst (((ascL l).take i).map V.bl))) ⟨same_new hD, upd_same⟩ (fun _ _ _ _ => ⟨trivial, trivial⟩) ?_ ?_⟩
    · rintro i x H1 H2 hi ⟨s1, hd⟩ ⟨Tt, xs, rfl, hT, rfl, v1, v2, ⟨c1, h1, rfl⟩, ⟨c2, h2, rfl⟩, rfl⟩
      refine ⟨Tt, _, rfl, SqT.of upd_same, rfl, _, _, rfl, _, _, rfl, rfl, rfl, _, rfl, _, rfl, S [c1], S [c2], rfl, rfl, ?_⟩
      rw [S_get] at h1 h2
      have hz : (l.zip (l.drop 1))[i]? = some (c1, c2) := by
        rw [List.getElem?_zip_eq_some]; exact ⟨h1, h2⟩
      have hb : (ascL l)[i]? = some (decide (c1 < c2)) := by rw [ascL, List.getElem?_map, hz]; rfl
      have hne : D ≠ Tt := ne_of_none hd hT
      refine ⟨_, (upd_ne hne).trans hd, ?_, ?_, ?_⟩
      · rw [List.length_map, List.length_take]
        exact small1000 (by have := List.length_drop (i := 1) (l := l); omega)
      · exact Same.put (Same.new s1 hT) hD
      · rw [upd_same, lt_cps, map_take_succ hb]
    · rintro H1 ⟨s1, hd⟩
      have hn : min l.length (l.drop 1).length = (ascL l).length := by rw [ascL, List.length_map, List.length_zip]
      rw [hn, List.take_length] at hd
      refine ⟨D, _, rfl, SqL.of hd, ?_⟩
      have q2 := q
      refine ⟨_, rfl, S l, rfl, by rw [S_len]; exact small_le hl, 1, _, rfl, rfl, _, rfl, ?_⟩
      rw [S_len]
      by_cases c1 : 1 ≤ l.length ∧ l.length ≤ 30
      · rw [decide_eq_true (by omega : (1 : Int) ≤ (l.length : Int))]
        refine iteT ⟨_, _, rfl, rfl, _, rfl, ?_⟩
        rw [decide_eq_true (by omega : (l.length : Int) ≤ 30)]
        refine iteT ⟨_, rfl, _, rfl, ?_⟩
        have q3 : ∀ H', Same H H' → Q (.bl ((ascL l).all id && (l.map fun c => decide (32 ≤ c ∧ c ≤ 126)).all id)) H' := fun H' sm => by
          have := q H' sm
          rw [alOk, decide_eq_true c1] at this
          exact this
        cases hb : (ascL l).all id with
        | false =>
          rw [hb] at q3
          exact iteF (q3 _ s1)
        | true =>
          rw [hb] at q3
          refine iteT ?_
          refine ⟨_, rfl, S l, rfl, fun D2 hD2 => lc_it walk_str (fun i H' => Same H H' ∧ H' D2 = some (.lst (((l.map fun c => decide (32 ≤ c ∧ c ≤ 126)).take i).map V.bl))) ⟨Same.new s1 hD2, upd_same⟩ (fun _ _ _ _ => trivial) ?_ ?_⟩
          · rintro i x H2 H3 hi ⟨s2, hd2⟩ ⟨rfl, c, hc, rfl⟩
            rw [S_get] at hc
            refine ⟨rfl, _, rfl, c, rfl, ?_⟩
            have hb2 : (l.map fun c => decide (32 ≤ c ∧ c ≤ 126))[i]? = some (decide (32 ≤ c ∧ c ≤ 126)) := by rw [List.getElem?_map, hc]; rfl
            refine ⟨_, hd2, ?_, Same.put s2 (s1.free hD2), ?_⟩
            · rw [List.length_map, List.length_take, List.length_map]
              exact small1000 (by omega)
            · rw [upd_same, map_take_succ hb2]
          · rintro H2 ⟨s2, hd2⟩
            have hn2 : (S l).cps.size = (l.map fun c => decide (32 ≤ c ∧ c ≤ 126)).length := by rw [S_size, List.length_map]
            rw [hn2, List.take_length] at hd2
            exact ⟨D2, _, rfl, SqL.of hd2, q3 H2 s2⟩
      · have q3 : ∀ H', Same H H' → Q (.bl false) H' := fun H' sm => by
          have := q H' sm
          rw [alOk, decide_eq_false c1] at this
          exact this
        by_cases c2 : 1 ≤ l.length
        · rw [decide_eq_true (by omega : (1 : Int) ≤ (l.length : Int))]
          refine iteT ⟨_, _, rfl, rfl, _, rfl, ?_⟩
          rw [decide_eq_false (by omega : ¬ (l.length : Int) ≤ 30)]
          exact iteF (q3 _ s1)
        · rw [decide_eq_false (by omega : ¬ (1 : Int) ≤ (l.length : Int))]
          exact iteF ⟨_, rfl, iteF (q3 _ s1)⟩
theorem ok_check_alphabet {f : Addr} {fd : FuncData} (F : C8.Fun K "check_alphabet" "check_alphabet" s_check_alphabet f fd) (T : Txt K mg) (c_is_alphabet : C8.Cal P w K mg base 2 "is_alphabet" sp_is_alphabet []) : FnOk P w K mg base C8.CX0 3 f fd ["text"] sp_check_alphabet := by
  refine C8.fn0 F sc_check_alphabet (fun vs H Q E h => ?_) (fun cdv A outer s H vs Q E hr h => ?_)
  · obtain ⟨l, rfl, _⟩ := h; rfl
  · obtain ⟨l, rfl, hl, hok, q⟩ := h
    refine ⟨_, (pss_one (ps_if (pt_not (pt_val (C8.pe_c c_is_alphabet hr (by first | decide | omega) (by rfl) (pa_cons (pv 0) pa_nil)))) (pss_one ps_never) pss_nil)), ?_⟩
    refine ⟨_, rfl, l, rfl, hl, fun H' s1 => ⟨_, rfl, ?_⟩⟩
    rw [hok]
    exact iteF (q H' s1)
end
end RJ
end

section
set_option maxRecDepth 100000
set_option maxHeartbeats 2000000
namespace RJ
open PySem PySem.Spec PyProof.Rows L2
abbrev s_letter_row : Stmt := top 16
abbrev N_letter_row : List Str := ["alphabet", "text", "row", "at", "sign", "piece"]
theorem sc_letter_row : FnScope N_letter_row ["alphabet", "text"] (C8.fnScope s_letter_row) := C8.fnScope_by (by decide +kernel)
abbrev s_join_neighbors : Stmt := top 17
abbrev N_join_neighbors : List Str := ["row", "pair", "piece", "left", "right", "joined", "following"]
theorem sc_join_neighbors : FnScope N_join_neighbors ["row", "pair", "piece"] (C8.fnScope s_join_neighbors) := C8.fnScope_by (by decide +kernel)
abbrev s_lowest_join : Stmt := top 18
abbrev N_lowest_join : List Str := ["ranks", "row", "pair"]
theorem sc_lowest_join : FnScope N_lowest_join ["ranks", "row"] (C8.fnScope s_lowest_join) := C8.fnScope_by (by decide +kernel)
abbrev s_join_down : Stmt := top 19
abbrev N_join_down : List Str := ["ranks", "letters", "row", "lowest", "rank", "pair"]
theorem sc_join_down : FnScope N_join_down ["ranks", "letters", "row"] (C8.fnScope s_join_down) := C8.fnScope_by (by decide +kernel)
/-- a list or a tuple walked -/
def ItSeq (K : PySem.W.Frag) (b : Bool) (a : Addr) : It := match b with | true => Itl K a | false => Itt K a
def iSeq (K : PySem.W.Frag) (tl : TE) : TI := fun σ H R => tl σ H fun x H1 => ∃ b a xs, x = .ref a ∧ SeqAt b H1 a xs ∧ R (ItSeq K b a) H1
theorem walk_seq {K : PySem.W.Frag} {b : Bool} {a : Addr} {xs : List V} : Walk (ItSeq K b a) xs.length (fun H => SeqAt b H a xs) (YAt xs) := by
  cases b with
  | true => exact walk_list.mono (fun H h => SqL.of h) fun _ _ _ _ _ _ y => y
  | false => exact walk_tup.mono (fun H h => SqT.of h) fun _ _ _ _ _ _ y => y
theorem pi_seq {X : Cx} {tg l : Expr} {tl : TE} (hl : PE X l tl) : PI X tg l (iSeq X.K tl) := by
  refine ⟨fun pins s σ H R I h => ?_⟩
  refine thn (hl.run pins s σ H _ I h) fun v s1 ⟨x, H1, I1, r1, q1⟩ => ?_
  obtain ⟨b, a, xs, e, hq, q⟩ := q1
  subst e
  cases r1
  cases b with
  | true =>
    obtain ⟨its, rv, p, hz⟩ := I1.list (SqL.of hq)
    refine wpAny_pyIter_list p.isList ?_
    refine ⟨s1.heap.objs.size, [s1.heap.objs.size], _, _, H1, rfl, I1.kept (t' := s1.toks) fun b o e => Heap.get?_push_of_some _ e, turn_list a _, ⟨_, Heap.get?_push_size _ rfl, rfl, rfl⟩, fun b hb => ?_, q⟩
    have e : b = s1.heap.objs.size := by simpa using hb
    subst e
    exact I1.fpOk (Nat.le_refl _) (I1.hok.fresh (Nat.le_refl _))
  | false =>
    obtain ⟨its, rv, p, hz⟩ := I1.tuple (SqT.of hq)
    refine wpAny_pyIter_tuple (show s1.heap.IsTuple a its.toArray from p) ?_
    refine ⟨s1.heap.objs.size, [s1.heap.objs.size], _, _, H1, rfl, I1.kept (t' := s1.toks) fun b o e => Heap.get?_push_of_some _ e, turn_tuple a _, ⟨_, Heap.get?_push_size _ rfl, rfl, rfl⟩, fun b hb => ?_, q⟩
    have e : b = s1.heap.objs.size := by simpa using hb
    subst e
    exact I1.fpOk (Nat.le_refl _) (I1.hok.fresh (Nat.le_refl _))
/-- a slice of a list or a tuple -/
def rSlSeq (K : PySem.W.Frag) : V → Option Int → Option Int → Hp → VK → Prop := fun x lo hi H Q => rSlL K x lo hi H Q ∨ rSlA K x lo hi H Q
theorem sl_seq {X : Cx} : SlR X (rSlSeq X.K) := SlR.or sl_list sl_tupA
/-! ### signs and their places -/
theorem at_one (al : List Nat) (c i : Nat) : PySem.StrLaws.At (S al) ⟨#[c]⟩ (S al).length i ↔ al[i]? = some c := by
  have h := PySem.StrLaws.subAt_one (S al) c i
  exact h
theorem find_sign {al : List Nat} {c : Nat} (h : c ∈ al) : ∃ r, Builtin.Str.occurrences (S al) ⟨#[c]⟩ 0 (S al).length 1 = al.idxOf c :: r := by
  rcases PySem.StrLaws.occ_head (S al) ⟨#[c]⟩ 1 (Nat.le_refl _) with ⟨_, hn⟩ | ⟨i, r, e, hi, hn⟩
  · obtain ⟨i, hi⟩ := List.mem_iff_getElem?.mp h
    exact absurd ((at_one al c i).mpr hi) (hn i)
  · refine ⟨r, ?_⟩
    rw [e]
    have hi' := (at_one al c i).mp hi
    obtain ⟨hil, hie⟩ := List.getElem?_eq_some_iff.mp hi'
    have key : al.idxOf c = i := by
      have h1 : al.idxOf c < al.length := List.idxOf_lt_length_iff.mpr h
      have h2 : al[al.idxOf c] = c := List.getElem_idxOf h1
      rcases Nat.lt_trichotomy (al.idxOf c) i with q | q | q
      · exact absurd ((at_one al c _).mpr (by rw [List.getElem?_eq_getElem h1, h2])) (hn _ q)
      · exact q
      · exact absurd hie (by
          have := List.not_of_lt_findIdx (p := (· == c)) (xs := al) (i := i) (by exact q)
          intro z
          simp [z] at this)
    rw [key]
def sp_letter_row : Sp := fun vs H Q _ => ∃ al t : List Nat, vs = [.str (S al), .str (S t)] ∧ (∀ c ∈ t, c ∈ al) ∧ t.length ≤ 1000 ∧ ∀ H' p, Same H H' → H p = none → H' p = some (.lst (iv (lets al t))) → Q (.ref p) H'
def sp_join_neighbors : Sp := fun vs H Q _ => ∃ (b : Bool) (a p : Addr) (row : List Nat) (l r m : Nat), vs = [.ref a, .ref p, .int (m : Int)] ∧ RowAt b H a row ∧ H p = some (.tup [.int (l : Int), .int (r : Int)]) ∧ m ≠ l ∧ row.length ≤ 1000 ∧
  ∀ H' q, Same H H' → H q = none → H' q = some (.lst (iv (pass l r m row))) → Q (.ref q) H'
/-- the pass as the program does it -/
def stepJ (l r m : Nat) (acc : List Nat) (x : Nat) : List Nat := if acc.getLast? = some l ∧ x = r then acc.dropLast ++ [m] else acc ++ [x]
theorem pass_m {l r m : Nat} (hm : m ≠ l) (t : List Nat) : pass l r m (m :: t) = m :: pass l r m t := by
  cases t with
  | nil => rfl
  | cons c t => rw [pass, if_neg fun q => hm q.1]
theorem stepJ_pass {l r m : Nat} (hm : m ≠ l) : ∀ (t : List Nat) (acc : List Nat) (a : Nat), t.foldl (stepJ l r m) (acc ++ [a]) = acc ++ pass l r m (a :: t)
  | [], acc, a => rfl
  | b :: t, acc, a => by
    rw [List.foldl_cons, pass]
    have hl : (acc ++ [a]).getLast? = some a := by rw [List.getLast?_append]; rfl
    by_cases c : a = l ∧ b = r
    · rw [if_pos c, stepJ, if_pos ⟨by rw [hl, c.1], c.2⟩, List.dropLast_concat, stepJ_pass hm t acc m, pass_m hm]
    · rw [if_neg c, stepJ, if_neg fun q => c ⟨Option.some.inj (hl.symm.trans q.1), q.2⟩, stepJ_pass hm t (acc ++ [a]) b, List.append_assoc]; rfl
theorem stepJ_all {l r m : Nat} (hm : m ≠ l) (row : List Nat) : row.foldl (stepJ l r m) [] = pass l r m row := by
  cases row with
  | nil => rfl
  | cons a t => exact stepJ_pass hm t [] a
theorem foldl_take_succ {α β : Type} {f : β → α → β} {l : List α} {i : Nat} {x : α} (h : l[i]? = some x) (b : β) : (l.take (i + 1)).foldl f b = f ((l.take i).foldl f b) x := by
  rw [List.take_add_one, h, List.foldl_append]; rfl
theorem stepJ_len (l r m : Nat) (acc : List Nat) (x : Nat) : (stepJ l r m acc x).length ≤ acc.length + 1 := by
  unfold stepJ
  split
  · rw [List.length_append, List.length_dropLast]; simp only [List.length_cons, List.length_nil]; omega
  · rw [List.length_append]; exact Nat.le_refl _
theorem foldJ_len (l r m : Nat) : ∀ (row acc : List Nat), (row.foldl (stepJ l r m) acc).length ≤ acc.length + row.length
  | [], acc => Nat.le_refl _
  | x :: row, acc => by
    rw [List.foldl_cons]
    have h1 := foldJ_len l r m row (stepJ l r m acc x)
    have h2 := stepJ_len l r m acc x
    rw [List.length_cons]; omega
theorem atI_neg1 {xs : List V} {v : V} (h : xs.getLast? = some v) : atI xs (-1) = some v := by
  obtain ⟨ys, rfl⟩ := List.getLast?_eq_some_iff.mp h
  exact atI_last ys v
theorem iv_last {l : List Nat} {n : Nat} (h : l.getLast? = some n) : (iv l).getLast? = some (V.int (n : Int)) := by
  obtain ⟨ys, rfl⟩ := List.getLast?_eq_some_iff.mp h
  rw [← iv_snoc, List.getLast?_append]; rfl
theorem ixN_neg1 {n : Nat} (h : 0 < n) : ixN n (-1) = some (n - 1) := by
  unfold ixN
  rw [if_neg (by omega), if_pos (by omega)]
  exact congrArg some (by omega)
theorem iv_set_last {l : List Nat} (m : Nat) (h : l ≠ []) : (iv l).set (l.length - 1) (V.int (m : Int)) = iv (l.dropLast ++ [m]) := by
  obtain ⟨ys, y, rfl⟩ : ∃ ys y, l = ys ++ [y] := ⟨l.dropLast, l.getLast h, (List.dropLast_concat_getLast h).symm⟩
  rw [List.dropLast_concat, ← iv_snoc, ← iv_snoc]
  have e : (ys ++ [y]).length - 1 = (iv ys).length := by rw [iv_len, List.length_append]; simp
  rw [e, List.set_append_right _ _ (Nat.le_refl _), Nat.sub_self]; rfl
theorem nat_eq_int (a b : Nat) : decide ((V.int (a : Int)) = V.int (b : Int)) = decide (a = b) := by
  apply decide_eq_decide.mpr
  constructor
  · intro h; injection h with h; omega
  · intro h; rw [h]
section
variable {P : Program} {w : World} {K : PySem.W.Frag} {mg : Str → Option Value} {base : Heap}
theorem ok_letter_row {f : Addr} {fd : FuncData} (F : C8.Fun K "letter_row" "letter_row" s_letter_row f fd) (T : Txt K mg) : FnOk P w K mg base C8.CX0 1 f fd ["alphabet", "text"] sp_letter_row := by
  refine C8.fn0 F sc_letter_row (fun vs H Q E h => ?_) (fun cdv A outer s H vs Q E hr h => ?_)
  · obtain ⟨al, t, rfl, _⟩ := h; rfl
  · obtain ⟨al, t, rfl, hm, hl, q⟩ := h
    refine ⟨_, (pss_cons (ps_set (i := 2) sc_letter_row.nd rfl (Or.inl rfl) (pe_lst pa_nil))
      (pss_cons (ps_for PassesOwn.never rfl (pi_enumG rfl T.b_enumerate (pa_cons (pv 1) pa_nil)) (pg_tup rfl (pgs_cons (pg_name (i := 3) sc_letter_row.nd rfl (Or.inl rfl)) (pgs_cons (pg_name (i := 4) sc_letter_row.nd rfl (Or.inl rfl)) pgs_nil))) (pss_cons (ps_set (i := 5) sc_letter_row.nd rfl (Or.inl rfl) (pe_bm PySem.F.plainAttrs_str PySem.F.slot_str_find PySem.F.type_str_find mt_find (pv 0) (pa_cons (pv 4) pa_nil)))
      (pss_cons (ps_if (pt_cmpR op_lt (pv 5) pe_int (nomark _)) (pss_one ps_never) pss_nil)
      (pss_one (ps_expr (pe_bm PySem.F.plainAttrs_list PySem.F.slot_list_append PySem.F.type_list_append mt_append (pv 2) (pa_cons (pv 5) pa_nil)))))))
      (pss_one (ps_ret (pv 2))))), ?_⟩
    refine ⟨by show (0 : Nat) ≤ sizeLine; exact Nat.zero_le _, fun p hp => ?_⟩
    refine ⟨_, rfl, _, _, _, _, rfl, src_text _ t, for_it walkG (fun i σ H' => ∃ v3 v4 v5 : Option V, σ = [some (.str (S al)), some (.str (S t)), some (.ref p), v3, v4, v5] ∧ Same H H' ∧ H' p = some (.lst (iv (lets al (t.take i))))) ⟨none, none, none, rfl, same_new hp, upd_same⟩ (fun _ _ _ _ _ => trivial) ?_ ?_⟩
    · rintro i x σ H1 H2 hi ⟨v3, v4, v5, rfl, s1, hd⟩ ⟨Tt, xs, rfl, hT, rfl, v, ⟨c, hc, rfl⟩, rfl⟩
      rw [S_get] at hc
      obtain ⟨r, hfind⟩ := find_sign (hm c (List.mem_of_getElem? hc))
      refine ⟨Tt, _, rfl, SqT.of upd_same, rfl, _, _, rfl, _, _, rfl, rfl, ?_⟩
      refine ⟨_, rfl, rfl, _, rfl, S al, ⟨#[c]⟩, rfl, rfl, ?_⟩
      have hf : Txt.find (S al) ⟨#[c]⟩ = (al.idxOf c : Int) := by unfold Txt.find; rw [hfind]
      rw [hf]
      refine ⟨_, rfl, _, _, rfl, rfl, _, rfl, ?_⟩
      rw [decide_eq_false (by omega : ¬ (al.idxOf c : Int) < 0)]
      refine iteF ?_
      have hne : p ≠ Tt := ne_of_none hd hT
      have hd2 : upd H1 Tt (.tup [.int (i : Int), .str ⟨#[c]⟩]) p = some (.lst (iv (lets al (t.take i)))) := (upd_ne hne).trans hd
      refine ⟨_, rfl, .inl ⟨rfl, _, SqL.of hd2⟩, _, rfl, p, _, _, rfl, rfl, hd2, ?_, ?_⟩
      · rw [iv_len, lets, List.length_map, List.length_take]
        exact small1000 (by omega)
      · refine ⟨_, _, _, rfl, Same.put (Same.new s1 hT) hp, ?_⟩
        rw [upd_same, iv_snoc, lets, lets, map_take_succ hc]
    · rintro σ H1 ⟨v3, v4, v5, rfl, s1, hd⟩
      rw [List.take_length] at hd
      exact ⟨_, rfl, q H1 p s1 hp hd⟩
theorem ok_join_neighbors {f : Addr} {fd : FuncData} (F : C8.Fun K "join_neighbors" "join_neighbors" s_join_neighbors f fd) (T : Txt K mg) : FnOk P w K mg base C8.CX0 1 f fd ["row", "pair", "piece"] sp_join_neighbors := by
  refine C8.fn0 F sc_join_neighbors (fun vs H Q E h => ?_) (fun cdv A outer s H vs Q E hr h => ?_)
  · obtain ⟨b, a, p, row, l, r, m, rfl, _⟩ := h; rfl
  · obtain ⟨b, a, p, row, l, r, m, rfl, hrow, hpair, hm, hl, q⟩ := h
    refine ⟨_, (pss_cons (ps_asg (pv 1) (pg_tup rfl (pgs_cons (pg_name (i := 3) sc_join_neighbors.nd rfl (Or.inl rfl)) (pgs_cons (pg_name (i := 4) sc_join_neighbors.nd rfl (Or.inl rfl)) pgs_nil))))
      (pss_cons (ps_set (i := 5) sc_join_neighbors.nd rfl (Or.inl rfl) (pe_lst pa_nil))
      (pss_cons (ps_for PassesOwn.never rfl (pi_seq (pv 0)) (pg_name (i := 6) sc_join_neighbors.nd rfl (Or.inl rfl)) (pss_one (ps_if (PW.pt (pw_and (pt_truth (pv 5) (fun _ => rfl)) (pw_and (pt_cmpR op_eq (pe_ix ix_list (pv 5) (pe_un un_neg pe_int) (fun _ _ => rfl)) (pv 3) (nomark _)) (pw_and1 (pt_cmpR op_eq (pv 6) (pv 4) (nomark _)))))) (pss_one (ps_asg (pv 2) (pg_sub (pv 5) (pe_un un_neg pe_int) set_list))) (pss_one (ps_expr (pe_bm PySem.F.plainAttrs_list PySem.F.slot_list_append PySem.F.type_list_append mt_append (pv 5) (pa_cons (pv 6) pa_nil)))))))
      (pss_one (ps_ret (pv 5)))))), ?_⟩
    refine ⟨_, rfl, p, _, rfl, SqT.of hpair, rfl, _, _, rfl, _, _, rfl, rfl, ?_⟩
    refine ⟨by show (0 : Nat) ≤ sizeLine; exact Nat.zero_le _, fun J hJ => ?_⟩
    refine ⟨_, rfl, b, a, iv row, rfl, hrow.same (same_new hJ), for_it walk_seq (fun i σ H' => ∃ v6 : Option V, σ = [some (.ref a), some (.ref p), some (.int (m : Int)), some (.int (l : Int)), some (.int (r : Int)), some (.ref J), v6] ∧ Same H H' ∧ H' J = some (.lst (iv ((row.take i).foldl (stepJ l r m) []))))
        ⟨none, rfl, same_new hJ, upd_same⟩ (fun _ _ _ _ ⟨_, _, s1, _⟩ => hrow.same s1) ?_ ?_⟩
    · rintro i x σ H1 H2 hi ⟨v6, rfl, s1, hd⟩ ⟨rfl, hx⟩
      obtain ⟨n, hn, rfl⟩ := iv_get hx
      have hfold := foldl_take_succ (f := stepJ l r m) hn []
      have hlen : ((row.take i).foldl (stepJ l r m) []).length < sizeLine := small1000 (by
        have h1 := foldJ_len l r m (row.take i) []
        rw [List.length_take] at h1
        simp only [List.length_nil] at h1; omega)
      generalize hacc : (row.take i).foldl (stepJ l r m) [] = acc at hd hfold hlen
      refine ⟨_, rfl, _, .inl ⟨_, SqL.of hd, rfl⟩, ?_⟩
      have fin : ∀ (acc' : List Nat), acc' = stepJ l r m acc n → ∃ v6 : Option V, [some (V.ref a), some (.ref p), some (.int (m : Int)), some (.int (l : Int)), some (.int (r : Int)), some (.ref J), some (.int (n : Int))] = [some (V.ref a), some (.ref p), some (.int (m : Int)), some (.int (l : Int)), some (.int (r : Int)), some (.ref J), v6] ∧ Same H (upd H2 J (.lst (iv acc'))) ∧ (upd H2 J (.lst (iv acc'))) J = some (.lst (iv ((row.take (i + 1)).foldl (stepJ l r m) []))) := fun acc' e =>
        ⟨_, rfl, Same.put s1 hJ, by rw [upd_same, hfold, e]⟩
      cases hq : acc.getLast? with
      | none =>
        have e : acc = [] := List.getLast?_eq_none_iff.mp hq
        have hc : ¬ (acc.getLast? = some l ∧ n = r) := by rw [hq]; rintro ⟨q, _⟩; cases q
        have e2 : (!(iv acc).isEmpty) = false := by rw [e]; rfl
        rw [e2]
        refine iteF (iteF ?_)
        refine ⟨_, rfl, .inl ⟨rfl, _, SqL.of hd⟩, _, rfl, J, _, _, rfl, rfl, hd, by rw [iv_len]; exact hlen, ?_⟩
        rw [iv_snoc]
        exact fin _ (by rw [stepJ, if_neg hc])
      | some z =>
        have e2 : (!(iv acc).isEmpty) = true := by
          obtain ⟨ys, e⟩ := List.getLast?_eq_some_iff.mp hq
          rw [e, ← iv_snoc]; simp
        rw [e2]
        refine iteT ⟨_, rfl, _, rfl, J, iv acc, _, _, rfl, rfl, SqL.of hd, atI_neg1 (iv_last hq), _, rfl, rfl, _, rfl, ?_⟩
        rw [nat_eq_int]
        by_cases c1 : z = l
        · rw [decide_eq_true c1]
          refine iteT ⟨_, rfl, _, rfl, rfl, _, rfl, ?_⟩
          rw [nat_eq_int]
          by_cases c2 : n = r
          · rw [decide_eq_true c2]
            have hne : acc ≠ [] := by intro e; rw [e] at hq; cases hq
            have hpos : 0 < acc.length := List.length_pos_iff.mpr hne
            refine iteT ⟨_, rfl, _, rfl, _, rfl, J, iv acc, _, acc.length - 1, rfl, rfl, hd, by rw [iv_len]; exact ixN_neg1 hpos, ?_⟩
            rw [iv_set_last m hne]
            exact fin _ (by rw [stepJ, if_pos ⟨by rw [hq, c1], c2⟩])
          · rw [decide_eq_false c2]
            have hc : ¬ (acc.getLast? = some l ∧ n = r) := fun q => c2 q.2
            refine iteF ?_
            refine ⟨_, rfl, .inl ⟨rfl, _, SqL.of hd⟩, _, rfl, J, _, _, rfl, rfl, hd, by rw [iv_len]; exact hlen, ?_⟩
            rw [iv_snoc]
            exact fin _ (by rw [stepJ, if_neg hc])
        · rw [decide_eq_false c1]
          have hc : ¬ (acc.getLast? = some l ∧ n = r) := by rw [hq]; rintro ⟨q, _⟩; exact c1 (Option.some.inj q)
          refine iteF (iteF ?_)
          refine ⟨_, rfl, .inl ⟨rfl, _, SqL.of hd⟩, _, rfl, J, _, _, rfl, rfl, hd, by rw [iv_len]; exact hlen, ?_⟩
          rw [iv_snoc]
          exact fin _ (by rw [stepJ, if_neg hc])
    · rintro σ H1 ⟨v6, rfl, s1, hd⟩
      rw [iv_len, List.take_length, stepJ_all hm] at hd
      exact ⟨_, rfl, q H1 J s1 hJ hd⟩
end
end RJ
end

section
set_option maxRecDepth 100000
set_option maxHeartbeats 2000000
namespace RJ
open PySem PySem.Spec PyProof.Rows L2
open PySem.W (minD AlikeAll alike alikeAll dataLt)
/-! ### the dict of ranks -/
def pkey (p : Nat × Nat) : List Key := [.inl (p.1 : Int), .inl (p.2 : Int)]
theorem pkey_inj {p q : Nat × Nat} (h : pkey p = pkey q) : p = q := by
  obtain ⟨a, b⟩ := p
  obtain ⟨c, d⟩ := q
  have h' : ([.inl (a : Int), .inl (b : Int)] : List Key) = [.inl (c : Int), .inl (d : Int)] := h
  injection h' with h1 h2
  injection h2 with h2 h3
  injection h1 with h1
  injection h2 with h2
  have e1 : a = c := by omega
  have e2 : b = d := by omega
  rw [e1, e2]
def kvsF : Nat → List (Nat × Nat) → List (List Key × V)
  | _, [] => []
  | k, p :: ps => (pkey p, V.int (k : Int)) :: kvsF (k + 1) ps
theorem kvsF_len : ∀ (k : Nat) (ps : List (Nat × Nat)), (kvsF k ps).length = ps.length
  | _, [] => rfl
  | k, p :: ps => congrArg (· + 1) (kvsF_len (k + 1) ps)
theorem kvsF_snoc : ∀ (k : Nat) (ps : List (Nat × Nat)) (p : Nat × Nat), kvsF k (ps ++ [p]) = kvsF k ps ++ [(pkey p, V.int ((k + ps.length : Nat) : Int))]
  | k, [], p => rfl
  | k, q :: ps, p => by
    show (pkey q, V.int (k : Int)) :: kvsF (k + 1) (ps ++ [p]) = (pkey q, V.int (k : Int)) :: (kvsF (k + 1) ps ++ _)
    rw [kvsF_snoc (k + 1) ps p, show k + 1 + ps.length = k + (q :: ps).length by rw [List.length_cons]; omega]
theorem idxOf_ne {p q : Nat × Nat} (ps : List (Nat × Nat)) (h : ¬ q = p) : (q :: ps).idxOf p = ps.idxOf p + 1 := by
  rw [List.idxOf_cons]
  have : (q == p) = false := beq_eq_false_iff_ne.mpr h
  rw [this]; rfl
theorem kvsF_get (p : Nat × Nat) : ∀ (k : Nat) (ps : List (Nat × Nat)), valV (kvsF k ps) (pkey p) = if p ∈ ps then some (V.int ((k + ps.idxOf p : Nat) : Int)) else none
  | k, [] => by rw [if_neg List.not_mem_nil]; exact valV_nil
  | k, q :: ps => by
    show valV ((pkey q, V.int (k : Int)) :: kvsF (k + 1) ps) (pkey p) = _
    by_cases h : q = p
    · subst h
      rw [valV_pos (p := (pkey q, V.int (k : Int))) rfl, if_pos (List.mem_cons_self ..), List.idxOf_cons_self]; rfl
    · rw [valV_neg (p := (pkey q, V.int (k : Int))) fun z => h (pkey_inj z), kvsF_get p (k + 1) ps]
      by_cases hm : p ∈ ps
      · have e : List.idxOf p (q :: ps) = ps.idxOf p + 1 := idxOf_ne _ h
        rw [if_pos hm, if_pos (List.mem_cons_of_mem _ hm), e, show k + 1 + ps.idxOf p = k + (ps.idxOf p + 1) by omega]
      · rw [if_neg hm, if_neg fun z => by
          rcases List.mem_cons.mp z with e | e
          · exact h e.symm
          · exact hm e]
theorem idxOf_get {p : Nat × Nat} {ps : List (Nat × Nat)} (h : p ∈ ps) : ps[ps.idxOf p]? = some p := by
  have h1 : ps.idxOf p < ps.length := List.idxOf_lt_length_iff.mpr h
  rw [List.getElem?_eq_getElem h1, List.getElem_idxOf h1]
theorem idxOf_le {p : Nat × Nat} : ∀ {ps : List (Nat × Nat)} {j : Nat}, ps[j]? = some p → ps.idxOf p ≤ j
  | [], j, h => by cases h
  | q :: ps, j, h => by
    by_cases e : q = p
    · subst e; rw [List.idxOf_cons_self]; exact Nat.zero_le _
    · cases j with
      | zero => exact absurd (Option.some.inj h) e
      | succ j =>
        rw [idxOf_ne _ e]
        exact Nat.succ_le_succ (idxOf_le h)
/-! ### tuples stay -/
def SameT (H H' : Hp) : Prop := ∀ b xs, H b = some (.tup xs) → H' b = some (.tup xs)
theorem Same.t {H H' : Hp} (s : Same H H') : SameT H H' := fun b xs e => s b _ e
theorem SameT.put {H : Hp} {p : Addr} {o : HO} {xs : List V} (h : H p = some (.lst xs)) : SameT H (upd H p o) := fun b ys e => by
  rw [upd_ne (ne_of e h (by intro z; cases z))]; exact e
/-- a rank and its pair, as a tuple -/
def TripAt (H : Hp) (v : V) (x : Nat × (Nat × Nat)) : Prop := ∃ t q, v = .ref t ∧ H t = some (.tup [.int (x.1 : Int), .ref q]) ∧ H q = some (.tup [.int (x.2.1 : Int), .int (x.2.2 : Int)])
theorem TripAt.same {H H' : Hp} {v : V} {x : Nat × (Nat × Nat)} (h : TripAt H v x) (s : SameT H H') : TripAt H' v x := by
  obtain ⟨t, q, e, h1, h2⟩ := h
  exact ⟨t, q, e, s _ _ h1, s _ _ h2⟩
theorem Paired.snoc {α β : Type} {F : α → β → Prop} {x : α} {y : β} (r : F x y) : ∀ {xs : List α} {ys : List β}, Paired F xs ys → Paired F (xs ++ [x]) (ys ++ [y])
  | _, _, .nil => .cons r .nil
  | _, _, .cons a t => .cons a (Paired.snoc r t)
theorem Paired.at {α β : Type} {F : α → β → Prop} : ∀ {xs : List α} {ys : List β} {i : Nat} {x : α}, Paired F xs ys → xs[i]? = some x → ∃ y, ys[i]? = some y ∧ F x y
  | _, _, _, _, .nil, e => by simp at e
  | _, _, 0, _, .cons r _, e => by simp at e; subst e; exact ⟨_, rfl, r⟩
  | _, _, i + 1, x, .cons _ t, e => by
    obtain ⟨y, h1, h2⟩ := Paired.at (i := i) (x := x) t (by simpa using e)
    exact ⟨y, by simpa using h1, h2⟩
theorem Paired.at2 {α β : Type} {F : α → β → Prop} : ∀ {xs : List α} {ys : List β} {i : Nat} {y : β}, Paired F xs ys → ys[i]? = some y → ∃ x, xs[i]? = some x ∧ F x y
  | _, _, _, _, .nil, e => by simp at e
  | _, _, 0, _, .cons r _, e => by simp at e; subst e; exact ⟨_, rfl, r⟩
  | _, _, i + 1, y, .cons _ t, e => by
    obtain ⟨x, h1, h2⟩ := Paired.at2 (i := i) (y := y) t (by simpa using e)
    exact ⟨x, by simpa using h1, h2⟩
def tripD (x : Nat × (Nat × Nat)) : PyData := .tuple [.int (x.1 : Int), .tuple [.int (x.2.1 : Int), .int (x.2.2 : Int)]]
theorem tripD_inj {x y : Nat × (Nat × Nat)} (h : tripD x = tripD y) : x = y := by
  obtain ⟨a, b, c⟩ := x
  obtain ⟨a', b', c'⟩ := y
  injection h with h
  injection h with h1 h
  injection h with h2 h3
  injection h2 with h2
  injection h2 with h4 h5
  injection h5 with h5 h6
  injection h1 with h1
  injection h4 with h4
  injection h5 with h5
  have e1 : a = a' := by exact Int.ofNat.inj h1
  have e2 : b = b' := by exact Int.ofNat.inj h4
  have e3 : c = c' := by exact Int.ofNat.inj h5
  rw [e1, e2, e3]
theorem trips_dp {K : PySem.W.Frag} {H : Hp} : ∀ {xs : List V} {ts : List (Nat × (Nat × Nat))}, Paired (TripAt H) xs ts → DpAll K H xs (ts.map tripD)
  | _, _, .nil => .nil
  | _, _, .cons ⟨t, q, e, h1, h2⟩ r => by
    subst e
    exact .cons (.tup (SqT.of h1) (.cons (.int _) (.cons (.tup (SqT.of h2) (.cons (.int _) (.cons (.int _) .nil))) .nil))) (trips_dp r)
theorem trips_alike (ts : List (Nat × (Nat × Nat))) : AlikeAll (ts.map tripD) := by
  refine ⟨fun x hx y hy => ?_, fun x hx e => ?_⟩
  · obtain ⟨a, _, rfl⟩ := List.mem_map.mp hx
    obtain ⟨b, _, rfl⟩ := List.mem_map.mp hy
    simp [tripD, alike, alikeAll]
  · obtain ⟨a, _, rfl⟩ := List.mem_map.mp hx
    cases e
theorem trips_depth : ∀ ts : List (Nat × (Nat × Nat)), PyData.depthAll (ts.map tripD) ≤ 60
  | [] => by simp [PyData.depthAll]
  | t :: ts => by
    have ih := trips_depth ts
    rw [List.map_cons, PyData.depthAll]
    refine Nat.max_le.mpr ⟨?_, ih⟩
    simp [tripD, PyData.depth, PyData.depthAll]
def rkD : PyData → Int
  | .tuple (.int r :: _) => r
  | _ => 0
theorem trip_lt {x y : Nat × (Nat × Nat)} : (dataLt (tripD x) (tripD y) = true → rkD (tripD x) ≤ rkD (tripD y)) ∧ (dataLt (tripD x) (tripD y) = false → rkD (tripD y) ≤ rkD (tripD x)) := by
  have h := PySem.W.dataLt_pair (x := .int (x.1 : Int)) (y := .tuple [.int (x.2.1 : Int), .int (x.2.2 : Int)]) (x' := .int (y.1 : Int)) (y' := .tuple [.int (y.2.1 : Int), .int (y.2.2 : Int)]) (by simp [alike]) (by simp [alike, alikeAll])
  have h' : dataLt (tripD x) (tripD y) = _ := h
  show (dataLt (tripD x) (tripD y) = true → (x.1 : Int) ≤ (y.1 : Int)) ∧ (dataLt (tripD x) (tripD y) = false → (y.1 : Int) ≤ (x.1 : Int))
  rw [h']
  by_cases e : (x.1 : Int) = (y.1 : Int)
  · exact ⟨fun _ => Int.le_of_eq e, fun _ => Int.le_of_eq e.symm⟩
  · have e2 : PyData.eqv (.int (x.1 : Int)) (.int (y.1 : Int)) = false := by
      rw [PyData.eqv]; exact beq_eq_false_iff_ne.mpr e
    rw [e2, if_neg Bool.false_ne_true, PySem.W.dataLt_int]
    refine ⟨fun z => ?_, fun z => ?_⟩
    · have := of_decide_eq_true z; omega
    · have := of_decide_eq_false z; omega
theorem slSeq_from1 {K : PySem.W.Frag} {b : Bool} {a : Addr} {xs : List V} {H : Hp} {Q : VK} (h : SeqAt b H a xs) (k : ∀ H1 q, Same H H1 → SeqAt b H1 q (xs.drop 1) → Q (.ref q) H1) : rSlSeq K (.ref a) (some 1) none H Q := by
  have ecut : cutV xs (some 1) none = xs.drop 1 := by
    unfold cutV
    rw [show (some (1 : Int)) = some ((1 : Nat) : Int) from rfl, HT.sIx_nat, HT.sIx_none]
    by_cases hl : 1 ≤ xs.length
    · rw [Nat.min_eq_left hl, List.take_of_length_le (by rw [List.length_drop]; exact Nat.le_refl _)]
    · have : xs = [] := List.eq_nil_of_length_eq_zero (by omega)
      subst this; rfl
  cases b with
  | true => exact .inl ⟨a, xs, rfl, SqL.of h, fun p hp => k _ p (same_new hp) (by rw [ecut]; exact upd_same)⟩
  | false =>
    refine .inr ⟨a, xs, rfl, SqT.of h, fun hw => k _ a (Same.refl H) ?_, fun _ p hp => k _ p (same_new hp) (by rw [ecut]; exact upd_same)⟩
    have hz := hw.1
    rw [show (some (1 : Int)) = some ((1 : Nat) : Int) from rfl, HT.sIx_nat] at hz
    have : xs = [] := List.eq_nil_of_length_eq_zero (by omega)
    subst this
    exact h
theorem src_seq {b : Bool} {H : Hp} {a : Addr} {xs : List V} (h : SeqAt b H a xs) : SrcV H (.ref a) xs.length (fun H => SeqAt b H a xs) (fun i v => xs[i]? = some v) := by
  cases b with
  | true => exact .inr (.inr ⟨a, xs, rfl, h, rfl, rfl, rfl⟩)
  | false => exact .inr (.inl ⟨a, xs, rfl, h, rfl, rfl, rfl⟩)
/-- the joins that are there, by places -/
def found (ps : List (Nat × Nat)) (row : List Nat) : List (Nat × (Nat × Nat)) := ((adjs row).filter fun p => decide (p ∈ ps)).map fun p => (ps.idxOf p, p)
def foundTo (ps : List (Nat × Nat)) (l : List (Nat × Nat)) : List (Nat × (Nat × Nat)) := (l.filter fun p => decide (p ∈ ps)).map fun p => (ps.idxOf p, p)
theorem foundTo_snoc (ps l : List (Nat × Nat)) (p : Nat × Nat) : foundTo ps (l ++ [p]) = if p ∈ ps then foundTo ps l ++ [(ps.idxOf p, p)] else foundTo ps l := by
  unfold foundTo
  rw [List.filter_append, List.map_append]
  by_cases h : p ∈ ps
  · rw [if_pos h, List.filter_cons_of_pos (by simpa using h)]; rfl
  · rw [if_neg h, List.filter_cons_of_neg (by simpa using h)]
    exact List.append_nil _
theorem foundTo_len (ps l : List (Nat × Nat)) : (foundTo ps l).length ≤ l.length := by
  unfold foundTo
  rw [List.length_map]; exact List.length_filter_le _ _
/-- what lowest holds -/
def LowAt (H : Hp) (ps : List (Nat × Nat)) (row : List Nat) (v : V) : Prop :=
  (v = .non ∧ ∀ p ∈ ps, p ∉ adjs row) ∨ ∃ (p : Nat × Nat) (r : Nat) (t q : Addr), v = .ref t ∧ H t = some (.tup [.int (r : Int), .ref q]) ∧ H q = some (.tup [.int (p.1 : Int), .int (p.2 : Int)]) ∧ ps[r]? = some p ∧ p ∈ adjs row ∧ ∀ (j : Nat) q, j < r → ps[j]? = some q → q ∉ adjs row
def sp_lowest_join : Sp := fun vs H Q _ => ∃ (d a : Addr) (b : Bool) (ps : List (Nat × Nat)) (row : List Nat), vs = [.ref d, .ref a] ∧ H d = some (.dT (kvsF 0 ps)) ∧ RowAt b H a row ∧ row.length ≤ 1000 ∧
  ∀ H' v, Same H H' → LowAt H' ps row v → Q v H'
section
variable {P : Program} {w : World} {K : PySem.W.Frag} {mg : Str → Option Value} {base : Heap}
theorem ok_lowest_join {f : Addr} {fd : FuncData} (F : C8.Fun K "lowest_join" "lowest_join" s_lowest_join f fd) (T : Txt K mg) : FnOk P w K mg base C8.CX0 1 f fd ["ranks", "row"] sp_lowest_join := by
  refine C8.fn0 F sc_lowest_join (fun vs H Q E h => ?_) (fun cdv A outer s H vs Q E hr h => ?_)
  · obtain ⟨d, a, b, ps, row, rfl, _⟩ := h; rfl
  · obtain ⟨d, a, b, ps, row, rfl, hd, hrow, hl, q⟩ := h
    have q0 : (∀ p ∈ ps, p ∉ adjs row) → ∀ H', Same H H' → Q .non H' := fun hno H' s1 => q H' .non s1 (.inl ⟨rfl, hno⟩)
    have q1 : ∀ (p : Nat × Nat) (r : Nat), ps[r]? = some p → p ∈ adjs row → (∀ (j : Nat) q, j < r → ps[j]? = some q → q ∉ adjs row) → ∀ H' t q, Same H H' → H' t = some (.tup [.int (r : Int), .ref q]) → H' q = some (.tup [.int (p.1 : Int), .int (p.2 : Int)]) → Q (.ref t) H' :=
      fun p r hp ha hlo H' t q' s1 h1 h2 => q H' (.ref t) s1 (.inr ⟨p, r, t, q', rfl, h1, h2, hp, ha, hlo⟩)
    have hu := hu_of hr
    have hu64 := hu64_of hr
    refine ⟨_, (pss_one (ps_ret (pe_callBK (cr_minD rfl hu64) (by rfl) T.b_min (by decide +kernel) (pa_cons (pe_lc (own := [("pair", 2)]) (g := gName 2)  rfl sc_lowest_join.nd (pi_zipN rfl T.b_zip (pa_cons (pv 1) (pa_cons (pe_slice sl_seq (pv 1) (po_some pe_int) po_none) pa_nil))) (blkOk_by (N := N_lowest_join) (sc := C8.fnScope s_lowest_join) (by decide +kernel)) (fun _ _ _ _ _ => (pg_name (i := 2) sc_lowest_join.nd rfl (Or.inl rfl))) (fun _ _ _ _ _ => pts_one (pt_cmp (pc_din hu (pv 2) (pv 0)))) (fun _ _ _ _ _ => (pe_tup (pa_cons (pe_dget hu (pv 0) (pv 2) (fun _ _ => rfl)) (pa_cons (pv 2) pa_nil))))) pa_nil) (pk_cons pe_non pk_nil)))), ?_⟩
    refine ⟨_, rfl, _, rfl, 1, rfl, slSeq_from1 hrow fun H1 qa s1 hq => ?_⟩
    have hrow1 := hrow.same s1
    refine ⟨_, _, _, _, _, _, _, _, rfl, src_seq hrow1, src_seq hq, fun D hD => ?_⟩
    have hD0 : H D = none := s1.free hD
    have hn : min (iv row).length ((iv row).drop 1).length = (adjs row).length := by
      unfold adjs
      rw [List.length_zip, iv_len, List.length_drop, iv_len, List.length_tail]
    rw [hn]
    refine lc_it walkG (fun i H' => Same H1 H' ∧ ∃ xs, H' D = some (.lst xs) ∧ Paired (TripAt H') xs (foundTo ps ((adjs row).take i))) ⟨same_new hD, [], upd_same, .nil⟩ (fun i H' _ ⟨s2, _⟩ => ⟨hrow1.same s2, hq.same s2⟩) ?_ ?_
    · rintro i x H2 H3 hi ⟨s2, xs, hxs, hP⟩ ⟨Tt, ys, rfl, hT, rfl, v1, v2, h1, h2, rfl⟩
      obtain ⟨n1, hn1, rfl⟩ := iv_get h1
      have h2' : (iv row)[i + 1]? = some v2 := by rw [List.getElem?_drop] at h2; rw [Nat.add_comm]; exact h2
      obtain ⟨n2, hn2, rfl⟩ := iv_get h2'
      have hadj : (adjs row)[i]? = some (n1, n2) := by
        unfold adjs
        rw [List.getElem?_zip_eq_some]; exact ⟨hn1, by rw [List.getElem?_tail]; exact hn2⟩
      have hne : D ≠ Tt := ne_of_none hxs hT
      have hd3 : upd H2 Tt (.tup [.int (n1 : Int), .int (n2 : Int)]) d = some (.dT (kvsF 0 ps)) := (Same.new s2 hT) _ _ (s1 _ _ hd)
      have hg : DGet (upd H2 Tt (.tup [.int (n1 : Int), .int (n2 : Int)])) d (.ref Tt) (if (n1, n2) ∈ ps then some (V.int ((0 + ps.idxOf (n1, n2) : Nat) : Int)) else none) := by
        rw [← kvsF_get]
        exact DGet.t (k := pkey (n1, n2)) hd3 upd_same
      have hxs3 : upd H2 Tt (.tup [.int (n1 : Int), .int (n2 : Int)]) D = some (.lst xs) := (upd_ne hne).trans hxs
      have htk : (adjs row).take (i + 1) = (adjs row).take i ++ [(n1, n2)] := take_succ_of hadj
      have hlen : xs.length < sizeLine := small1000 (by
        have e1 := hP.length
        have e2 := foundTo_len ps ((adjs row).take i)
        rw [List.length_take] at e2
        have e3 : (adjs row).length ≤ row.length := by unfold adjs; rw [List.length_zip]; exact Nat.min_le_left _ _
        omega)
      refine ⟨rfl, _, rfl, _, rfl, d, _, rfl, hg, _, rfl, ?_⟩
      by_cases hm : (n1, n2) ∈ ps
      · rw [if_pos hm] at hg ⊢
        refine iteT ⟨_, rfl, _, rfl, d, _, rfl, hg, _, rfl, by show 2 ≤ sizeLine; decide, fun p hp => ?_⟩
        have hpD : D ≠ p := ne_of_none hxs3 hp
        have s4 : Same H2 (upd (upd H2 Tt (.tup [.int (n1 : Int), .int (n2 : Int)])) p (.tup [.int ((0 + ps.idxOf (n1, n2) : Nat) : Int), .ref Tt])) := Same.new (same_new hT) hp
        have hxs4 : (upd (upd H2 Tt (.tup [.int (n1 : Int), .int (n2 : Int)])) p (.tup [.int ((0 + ps.idxOf (n1, n2) : Nat) : Int), .ref Tt])) D = some (.lst xs) := (upd_ne hpD).trans hxs3
        refine ⟨xs, hxs4, hlen, Same.put (s2.trans s4) hD, _, upd_same, ?_⟩
        rw [htk, foundTo_snoc, if_pos hm]
        refine Paired.snoc ⟨p, Tt, rfl, SameT.put hxs4 _ _ (by rw [upd_same, Nat.zero_add]), SameT.put hxs4 _ _ ((upd_ne (ne_of_none upd_same hp)).trans upd_same)⟩ ?_
        exact Paired.mapP hP fun v t ht => ht.same fun b ys e => SameT.put hxs4 _ _ (s4 _ _ e)
      · rw [if_neg hm]
        refine iteF ⟨s2.trans (same_new hT), xs, hxs3, ?_⟩
        rw [htk, foundTo_snoc, if_neg hm]
        exact Paired.mapP hP fun v t ht => ht.same fun b ys e => same_new hT _ _ e
    · rintro H2 ⟨s2, xs, hxs, hP⟩
      rw [List.take_length] at hP
      refine ⟨D, xs, _, rfl, rfl, hxs, trips_dp hP, trips_alike _, trips_depth _, fun e => ?_, fun y ys i x e hx hmin => ?_⟩
      · refine q0 (fun p hp hadj => ?_) H2 (s1.trans s2)
        have e' : foundTo ps (adjs row) = [] := List.map_eq_nil_iff.mp e
        have e'' : (adjs row).filter (fun p => decide (p ∈ ps)) = [] := List.map_eq_nil_iff.mp e'
        have : p ∈ (adjs row).filter (fun p => decide (p ∈ ps)) := List.mem_filter.mpr ⟨hadj, by simpa using hp⟩
        rw [e''] at this; cases this
      · obtain ⟨t, ht, t1, q, rfl, h1, h2⟩ := Paired.at hP hx
        have hmem := List.mem_of_getElem? ht
        obtain ⟨p, hp, rfl⟩ := List.mem_map.mp hmem
        obtain ⟨hpa, hpp⟩ := List.mem_filter.mp hp
        have hpp' : p ∈ ps := by simpa using hpp
        have hget : ((foundTo ps (adjs row)).map tripD)[i]? = some (tripD (ps.idxOf p, p)) := by rw [List.getElem?_map, ht]; rfl
        rw [hget] at hmin
        have hmin' := (Option.some.inj hmin).symm
        refine q1 p (ps.idxOf p) (idxOf_get hpp') hpa (fun j q' hj ej hq' => ?_) H2 t1 q (s1.trans s2) h1 h2
        have hle := minD_le (rk := rkD) (Ok := fun d => ∃ x, d = tripD x) (fun x y ⟨a, ha⟩ ⟨b, hb⟩ => by rw [ha, hb]; exact trip_lt.1) (fun x y ⟨a, ha⟩ ⟨b, hb⟩ => by rw [ha, hb]; exact trip_lt.2) ys y
          (fun z hz => by rw [← e] at hz; obtain ⟨a, _, rfl⟩ := List.mem_map.mp hz; exact ⟨a, rfl⟩)
          (tripD (ps.idxOf q', q')) (by
            rw [← e]
            exact List.mem_map.mpr ⟨_, List.mem_map.mpr ⟨q', List.mem_filter.mpr ⟨hq', by simpa using List.mem_of_getElem? ej⟩, rfl⟩, rfl⟩)
        rw [hmin'] at hle
        have hle' : ((ps.idxOf p : Nat) : Int) ≤ ((ps.idxOf q' : Nat) : Int) := hle
        have := idxOf_le ej
        omega
end
end RJ
end

section
set_option maxRecDepth 100000
set_option maxHeartbeats 2000000
namespace RJ
open PySem PySem.Spec PyProof.Rows L2
def sp_join_down : Sp := fun vs H Q _ => ∃ (d a : Addr) (k : Bool) (b : Nat) (ps : List (Nat × Nat)) (row : List Nat), vs = [.ref d, .int (b : Int), .ref a] ∧ H d = some (.dT (kvsF 0 ps)) ∧ WF b ps ∧ RowAt k H a row ∧ row.length ≤ 1000 ∧
  ∀ H' q k', Same H H' → (k = true → k' = true) → RowAt k' H' q (cutL b ps row) → Q (.ref q) H'
section
variable {P : Program} {w : World} {K : PySem.W.Frag} {mg : Str → Option Value} {base : Heap}
theorem ok_join_down {f : Addr} {fd : FuncData} (F : C8.Fun K "join_down" "join_down" s_join_down f fd) (T : Txt K mg) (c_lowest_join : C8.Cal P w K mg base 1 "lowest_join" sp_lowest_join []) (c_join_neighbors : C8.Cal P w K mg base 1 "join_neighbors" sp_join_neighbors []) :
    FnOk P w K mg base C8.CX0 2 f fd ["ranks", "letters", "row"] sp_join_down := by
  refine C8.fn0 F sc_join_down (fun vs H Q E h => ?_) (fun cdv A outer s H vs Q E hr h => ?_)
  · obtain ⟨d, a, k, b, ps, row, rfl, _⟩ := h; rfl
  · obtain ⟨d, a, k, b, ps, row, rfl, hd, hw, hrow, hl, q⟩ := h
    refine ⟨_, (pss_cons (ps_set (i := 3) sc_join_down.nd rfl (Or.inl rfl) (C8.pe_c c_lowest_join hr (by first | decide | omega) (by rfl) (pa_cons (pv 0) (pa_cons (pv 2) pa_nil))))
      (pss_cons (ps_while PassesOwn.never (pt_cmpR op_notN (pv 3) pe_non (nomark _)) (pss_cons (ps_asg (pv 3) (pg_tup rfl (pgs_cons (pg_name (i := 4) sc_join_down.nd rfl (Or.inl rfl)) (pgs_cons (pg_name (i := 5) sc_join_down.nd rfl (Or.inl rfl)) pgs_nil))))
      (pss_cons (ps_set (i := 2) sc_join_down.nd rfl (Or.inl rfl) (C8.pe_c c_join_neighbors hr (by first | decide | omega) (by rfl) (pa_cons (pv 2) (pa_cons (pv 5) (pa_cons (pe_op op_add (pv 1) (pv 4)) pa_nil)))))
      (pss_one (ps_set (i := 3) sc_join_down.nd rfl (Or.inl rfl) (C8.pe_c c_lowest_join hr (by first | decide | omega) (by rfl) (pa_cons (pv 0) (pa_cons (pv 2) pa_nil))))))))
      (pss_one (ps_ret (pv 2))))), ?_⟩
    refine ⟨_, rfl, _, rfl, d, a, k, ps, row, rfl, hd, hrow, hl, fun H1 v s1 lo => ?_⟩
    refine ⟨fun m σ H' => ∃ (v4 v5 : Option V) (a' : Addr) (k' : Bool) (row' : List Nat) (lv : V), σ = [some (V.ref d), some (.int (b : Int)), some (.ref a'), some lv, v4, v5] ∧ Same H H' ∧ (k = true → k' = true) ∧ RowAt k' H' a' row' ∧ cutL b ps row' = cutL b ps row ∧ m = row'.length ∧ row'.length ≤ 1000 ∧ LowAt H' ps row' lv,
        ⟨row.length, none, none, a, k, row, v, rfl, s1, fun h => h, hrow.same s1, rfl, rfl, hl, lo⟩, ?_⟩
    rintro m σ H2 ⟨v4, v5, a', k', row', lv, rfl, s2, hk, hr2, he, rfl, hl2, lo2⟩
    refine ⟨_, rfl, rfl, _, rfl, ?_⟩
    rcases lo2 with ⟨rfl, hno⟩ | ⟨p, r, t, q1, rfl, ht, hq, hp, hadj, hlow⟩
    · refine iteF ⟨_, rfl, q H2 a' k' s2 hk ?_⟩
      rw [← he, cut_done hno]; exact hr2
    · refine iteT ?_
      have hpw := hw r p hp
      refine ⟨fun σ' H' => ∃ m', m' < row'.length ∧ ∃ (v4 v5 : Option V) (a' : Addr) (k' : Bool) (row' : List Nat) (lv : V), σ' = [some (V.ref d), some (.int (b : Int)), some (.ref a'), some lv, v4, v5] ∧ Same H H' ∧ (k = true → k' = true) ∧ RowAt k' H' a' row' ∧ cutL b ps row' = cutL b ps row ∧ m' = row'.length ∧ row'.length ≤ 1000 ∧ LowAt H' ps row' lv, fun σ' H' z => z, ?_⟩
      refine ⟨_, rfl, t, _, rfl, SqT.of ht, rfl, _, _, rfl, _, _, rfl, rfl, ?_⟩
      refine ⟨_, rfl, _, rfl, _, rfl, _, rfl, _, _, rfl, rfl, k', a', q1, row', p.1, p.2, b + r, rfl, hr2, hq, by omega, hl2, fun H3 J s3 hJ hJ3 => ?_⟩
      have hlt := pass_lt (m := b + r) hadj
      refine ⟨_, rfl, _, rfl, d, J, true, ps, pass p.1 p.2 (b + r) row', rfl, s3 _ _ (s2 _ _ hd), hJ3, by omega, fun H4 v s4 lo4 => ?_⟩
      exact ⟨_, hlt, _, _, J, true, _, v, rfl, (s2.trans s3).trans s4, fun _ => rfl, s4 _ _ hJ3, by rw [← he]; exact cut_step hw hp row' hlow, rfl, by omega, lo4⟩
end
end RJ
end

section
set_option maxRecDepth 100000
set_option maxHeartbeats 2000000
namespace RJ
open PySem PySem.Spec PyProof.Rows L2
/-! ### data on the heap -/
def strV (ts : List (List Nat)) : List V := ts.map fun t => V.str (S t)
theorem strV_len (ts : List (List Nat)) : (strV ts).length = ts.length := by rw [strV, List.length_map]
theorem strV_snoc (ts : List (List Nat)) (t : List Nat) : strV ts ++ [V.str (S t)] = strV (ts ++ [t]) := by rw [strV, strV, List.map_append]; rfl
theorem strV_at {ts : List (List Nat)} {i : Nat} (h : i < ts.length) : (strV ts)[i]? = some (V.str (S (ts.getD i []))) := by
  rw [strV, List.getElem?_map, List.getD_eq_getElem?_getD, List.getElem?_eq_getElem h]; rfl
def PairAt (H : Hp) (v : V) (p : Nat × Nat) : Prop := ∃ q, v = .ref q ∧ H q = some (.tup [.int (p.1 : Int), .int (p.2 : Int)])
theorem PairAt.same {H H' : Hp} {v : V} {p : Nat × Nat} (h : PairAt H v p) (s : SameT H H') : PairAt H' v p := by
  obtain ⟨q, e, h1⟩ := h
  exact ⟨q, e, s _ _ h1⟩
abbrev PairsAt (H : Hp) (vs : List V) (ps : List (Nat × Nat)) : Prop := Paired (PairAt H) vs ps
theorem PairsAt.same {H H' : Hp} {vs : List V} {ps : List (Nat × Nat)} (h : PairsAt H vs ps) (s : SameT H H') : PairsAt H' vs ps := Paired.mapP h fun _ _ q => q.same s
theorem S_inj {a b : List Nat} (h : S a = S b) : a = b := SX.S_inj h
theorem S_cat (a b : List Nat) : S a ++ S b = S (a ++ b) := SX.S_cat a b
abbrev s_may_follow : Stmt := top 27
abbrev N_may_follow : List Str := ["alphabet", "texts", "ranks", "pair", "left", "right", "text"]
theorem sc_may_follow : FnScope N_may_follow ["alphabet", "texts", "ranks", "pair"] (C8.fnScope s_may_follow) := C8.fnScope_by (by decide +kernel)
def sp_may_follow : Sp := fun vs H Q _ => ∃ (al : List Nat) (ts : List (List Nat)) (ps : List (Nat × Nat)) (l r : Int) (tx d pr : Addr), vs = [.str (S al), .ref tx, .ref d, .ref pr] ∧ H tx = some (.lst (strV ts)) ∧ H d = some (.dT (kvsF 0 ps)) ∧ H pr = some (.tup [.int l, .int r]) ∧
  WF al.length ps ∧ (∀ t ∈ ts, ∀ c ∈ t, c ∈ al) ∧ (∀ t ∈ ts, t.length ≤ 40) ∧ al.length ≤ 1000 ∧ ts.length ≤ 1000 ∧
  (∀ p : Nat × Nat, l = (p.1 : Int) → r = (p.2 : Int) → okP al ts ps p → ∀ H', Same H H' → Q (.bl true) H') ∧ ((∀ p : Nat × Nat, l = (p.1 : Int) → r = (p.2 : Int) → ¬ okP al ts ps p) → ∀ H', Same H H' → Q (.bl false) H')
theorem numBelow_yes {i n : Nat} (h : i < n) : numBelow (.int (i : Int)) (n : Int) = true := by
  show (decide (0 ≤ (i : Int)) && decide ((i : Int) < (n : Int))) = true
  rw [decide_eq_true (by omega), decide_eq_true (by omega)]; rfl
theorem numBelow_int {l : Int} {n : Nat} (h : numBelow (.int l) (n : Int) = true) : ∃ a : Nat, l = (a : Int) ∧ a < n := by
  unfold numBelow at h
  rw [Bool.and_eq_true, decide_eq_true_eq, decide_eq_true_eq] at h
  exact ⟨l.toNat, by omega, by omega⟩
theorem iv_dp {K : PySem.W.Frag} {H : Hp} : ∀ l : List Nat, DpAll K H (iv l) (l.map fun (n : Nat) => PyData.int (n : Int))
  | [] => .nil
  | n :: l => .cons (.int _) (iv_dp l)
theorem eqv_iv : ∀ a b : List Nat, PyData.eqvAll (a.map fun (n : Nat) => PyData.int (n : Int)) (b.map fun (n : Nat) => PyData.int (n : Int)) = decide (a = b)
  | [], [] => by simp [PyData.eqvAll]
  | [], _ :: _ => by simp [PyData.eqvAll]
  | _ :: _, [] => by simp [PyData.eqvAll]
  | x :: a, y :: b => by
    rw [List.map_cons, List.map_cons, PyData.eqvAll, eqv_iv a b, PyData.eqv]
    by_cases h : x = y
    · subst h; simp
    · have : ((x : Int) == (y : Int)) = false := beq_eq_false_iff_ne.mpr (by omega)
      rw [this]
      simp [h]
theorem shaped_iv (l : List Nat) : SeqAt.shaped (.list (l.map fun (n : Nat) => PyData.int (n : Int))) = true := by
  have h1 : PyData.canLayAll0 (l.map fun (n : Nat) => PyData.int (n : Int)) = true := by
    induction l with
    | nil => simp [PyData.canLayAll0]
    | cons n l ih => rw [List.map_cons, PyData.canLayAll0, ih]; simp [PyData.canLay0]
  have h2 : PyData.depthAll (l.map fun (n : Nat) => PyData.int (n : Int)) = 0 := by
    clear h1
    induction l with
    | nil => simp [PyData.depthAll]
    | cons n l ih => rw [List.map_cons, PyData.depthAll, ih]; simp [PyData.depth]
  unfold SeqAt.shaped
  rw [PyData.canLay0, h1, PyData.depth, h2]; rfl
section
variable {P : Program} {w : World} {K : PySem.W.Frag} {mg : Str → Option Value} {base : Heap}
theorem ok_may_follow {f : Addr} {fd : FuncData} (F : C8.Fun K "may_follow" "may_follow" s_may_follow f fd) (T : Txt K mg) (c_is_number_below : C8.Cal P w K mg base 2 "is_number_below" sp_is_number_below []) (c_join_down : C8.Cal P w K mg base 2 "join_down" sp_join_down []) (c_letter_row : C8.Cal P w K mg base 1 "letter_row" sp_letter_row []) :
    FnOk P w K mg base C8.CX0 3 f fd ["alphabet", "texts", "ranks", "pair"] sp_may_follow := by
  refine C8.fn0 F sc_may_follow (fun vs H Q E h => ?_) (fun cdv A outer s H vs Q E hr h => ?_)
  · obtain ⟨al, ts, ps, l, r, tx, d, pr, rfl, _⟩ := h; rfl
  · obtain ⟨al, ts, ps, l, r, tx, d, pr, rfl, htx, hd, hpr, hw, hin, hsh, hal, hts, qT, qF⟩ := h
    have hu64 := hu64_of hr
    have qF' : (∀ p : Nat × Nat, l = (p.1 : Int) → r = (p.2 : Int) → ¬ okP al ts ps p) → ∀ H', Same H H' → Q (.bl false) H' := qF
    refine ⟨_, (pss_cons (ps_asg (pv 3) (pg_tup rfl (pgs_cons (pg_name (i := 4) sc_may_follow.nd rfl (Or.inl rfl)) (pgs_cons (pg_name (i := 5) sc_may_follow.nd rfl (Or.inl rfl)) pgs_nil))))
      (pss_cons (ps_if (pt_not (PW.pt (pw_and (pt_val (C8.pe_c c_is_number_below hr (by first | decide | omega) (by rfl) (pa_cons (pv 4) (pa_cons (pe_callB call_len_seq (by rfl) T.b_len PySem.boot_len (pa_cons (pv 1) pa_nil)) pa_nil)))) (pw_and1 (pt_val (C8.pe_c c_is_number_below hr (by first | decide | omega) (by rfl) (pa_cons (pv 5) (pa_cons (pe_callB call_len_seq (by rfl) T.b_len PySem.boot_len (pa_cons (pv 1) pa_nil)) pa_nil)))))))) (pss_one (ps_ret pe_bl)) pss_nil)
      (pss_cons (ps_set (i := 6) sc_may_follow.nd rfl (Or.inl rfl) (pe_op op_add_str (pe_ix ix_list (pv 1) (pv 4) (fun _ _ => rfl)) (pe_ix ix_list (pv 1) (pv 5) (fun _ _ => rfl))))
      (pss_cons (ps_if (pt_cmpR op_gt (pe_callB call_len_str (by rfl) T.b_len PySem.boot_len (pa_cons (pv 6) pa_nil)) (C8.pe_gc rfl T.c_MOST_SIGNS_OF_PIECE) (nomark _)) (pss_one (ps_ret pe_bl)) pss_nil)
      (pss_one (ps_ret (pe_cmpR (op_eqD hu64) (C8.pe_c c_join_down hr (by first | decide | omega) (by rfl) (pa_cons (pv 2) (pa_cons (pe_callB call_len_str (by rfl) T.b_len PySem.boot_len (pa_cons (pv 0) pa_nil)) (pa_cons (C8.pe_c c_letter_row hr (by first | decide | omega) (by rfl) (pa_cons (pv 0) (pa_cons (pv 6) pa_nil))) pa_nil)))) (pe_lst (pa_cons (pv 4) (pa_cons (pv 5) pa_nil))) (nomark _)))))))), ?_⟩
    refine ⟨_, rfl, pr, _, rfl, SqT.of hpr, rfl, _, _, rfl, _, _, rfl, rfl, ?_⟩
    refine ⟨_, rfl, _, rfl, tx, _, rfl, .inl (SqL.of htx), _, _, rfl, .int l, _, rfl, ?_⟩
    rw [strV_len]
    cases h1 : numBelow (.int l) (ts.length : Int) with
    | false =>
      refine iteF (iteT (qF' (fun p e1 e2 ok => ?_) H (Same.refl H)))
      rw [e1, numBelow_yes ok.1] at h1; cases h1
    | true =>
      obtain ⟨a, rfl, ha⟩ := numBelow_int h1
      refine iteT ⟨_, rfl, _, rfl, tx, _, rfl, .inl (SqL.of htx), _, _, rfl, .int r, _, rfl, ?_⟩
      rw [strV_len]
      cases h2 : numBelow (.int r) (ts.length : Int) with
      | false =>
        refine iteT (qF' (fun p e1 e2 ok => ?_) H (Same.refl H))
        rw [e2, numBelow_yes ok.2.1] at h2; cases h2
      | true =>
        obtain ⟨b, rfl, hb⟩ := numBelow_int h2
        refine iteF ?_
        have uniq : ¬ okP al ts ps (a, b) → ∀ p : Nat × Nat, (a : Int) = (p.1 : Int) → (b : Int) = (p.2 : Int) → ¬ okP al ts ps p := fun hn p e1 e2 ok => by
          obtain ⟨p1, p2⟩ := p
          have z1 : a = p1 := by have e1' : (a : Int) = (p1 : Int) := e1; omega
          have z2 : b = p2 := by have e2' : (b : Int) = (p2 : Int) := e2; omega
          subst z1 z2
          exact hn ok
        have hla : (ts.getD a []).length ≤ 40 := by
          rcases getD_mem_or (ts := ts) (i := a) with m | m
          · exact hsh _ m
          · rw [m]; exact Nat.zero_le _
        have hlb : (ts.getD b []).length ≤ 40 := by
          rcases getD_mem_or (ts := ts) (i := b) with m | m
          · exact hsh _ m
          · rw [m]; exact Nat.zero_le _
        refine ⟨_, rfl, _, rfl, tx, _, _, _, rfl, rfl, SqL.of htx, atI_nat (strV_at ha), _, rfl, _, rfl, tx, _, _, _, rfl, rfl, SqL.of htx, atI_nat (strV_at hb), S _, S _, rfl, rfl, by rw [S_len, S_len]; exact small_le (by omega), ?_⟩
        rw [S_cat]
        have hlab : (ts.getD a [] ++ ts.getD b []).length ≤ 1000 := by rw [List.length_append]; omega
        refine ⟨_, rfl, S _, rfl, by rw [S_len]; exact small_le hlab, _, _, rfl, rfl, _, rfl, ?_⟩
        rw [S_len]
        by_cases hl : (ts.getD a [] ++ ts.getD b []).length ≤ 40
        · rw [decide_eq_false (by omega : ¬ (40 : Int) < ((ts.getD a [] ++ ts.getD b []).length : Int))]
          refine iteF ?_
          refine ⟨_, rfl, _, rfl, S al, rfl, by rw [S_len]; exact small_le hal, _, rfl, _, rfl, al, _, rfl, fun c hc => ?_, hlab, fun H1 p s1 hp0 hp => ?_⟩
          · rcases List.mem_append.mp hc with z | z
            · rcases getD_mem_or (ts := ts) (i := a) with m | m
              · exact hin _ m c z
              · rw [m] at z; cases z
            · rcases getD_mem_or (ts := ts) (i := b) with m | m
              · exact hin _ m c z
              · rw [m] at z; cases z
          · refine ⟨d, p, true, al.length, ps, _, by rw [S_len]; rfl, s1 _ _ hd, hw, hp, by rw [lets, List.length_map]; exact hlab, fun H2 q k' s2 hk hq => ?_⟩
            have hk' : k' = true := hk rfl
            subst hk'
            refine ⟨_, rfl, _, rfl, by show 2 ≤ sizeLine; decide, fun z hz => ?_⟩
            have hqz : upd H2 z (.lst [.int (a : Int), .int (b : Int)]) q = some (.lst (iv (cutL al.length ps (lets al (ts.getD a [] ++ ts.getD b []))))) := (upd_ne (ne_of_none (show H2 q = _ from hq) hz)).trans hq
            refine ⟨_, _, .lst (SqL.of hqz) (iv_dp _), .lst (SqL.of upd_same) (iv_dp [a, b]), shaped_iv _, shaped_iv [a, b], ?_⟩
            have sF : Same H (upd H2 z (.lst [.int (a : Int), .int (b : Int)])) := Same.new (s1.trans s2) hz
            show Q (.bl (PyData.eqv (.list _) (.list _))) _
            rw [PyData.eqv, eqv_iv]
            by_cases hc : cutL al.length ps (lets al (ts.getD a [] ++ ts.getD b [])) = [a, b]
            · rw [decide_eq_true hc]
              exact qT (a, b) rfl rfl ⟨ha, hb, hl, hc⟩ _ sF
            · rw [decide_eq_false hc]
              exact qF' (uniq fun ok => hc ok.2.2.2) _ sF
        · rw [decide_eq_true (by omega : (40 : Int) < ((ts.getD a [] ++ ts.getD b []).length : Int))]
          exact iteT (qF' (uniq fun ok => hl ok.2.2.1) H (Same.refl H))
end
end RJ
end

section
set_option maxRecDepth 100000
set_option maxHeartbeats 4000000
namespace RJ
open PySem PySem.Spec PyProof.Rows L2
/-! ### the object -/
def f1 (al : List Nat) : List (Str × V) := putF "alphabet" (.str (S al)) []
def f2 (al : List Nat) (t : Addr) : List (Str × V) := putF "pairs" (.ref t) (f1 al)
def f3 (al : List Nat) (t tx : Addr) : List (Str × V) := putF "_texts" (.ref tx) (f2 al t)
def f4 (al : List Nat) (t tx d : Addr) : List (Str × V) := putF "_ranks" (.ref d) (f3 al t tx)
def f5 (al : List Nat) (t tx d e : Addr) : List (Str × V) := putF "_pieces_by_text" (.ref e) (f4 al t tx d)
theorem putF_len (f : Str) (v : V) : ∀ fs : List (Str × V), (putF f v fs).length ≤ fs.length + 1
  | [] => Nat.le_refl _
  | (g, x) :: r => by
    rw [putF]
    split
    · exact Nat.le_succ _
    · have := putF_len f v r
      simp only [List.length_cons]; omega
theorem f_len (al : List Nat) (t tx d : Addr) : (f1 al).length < 1000 ∧ (f2 al t).length < 1000 ∧ (f3 al t tx).length < 1000 ∧ (f4 al t tx d).length < 1000 := by
  have h1 : (f1 al).length ≤ 1 := putF_len _ _ _
  have h2 : (f2 al t).length ≤ (f1 al).length + 1 := putF_len _ _ _
  have h3 : (f3 al t tx).length ≤ (f2 al t).length + 1 := putF_len _ _ _
  have h4 : (f4 al t tx d).length ≤ (f3 al t tx).length + 1 := putF_len _ _ _
  omega
theorem f1_alphabet (al : List Nat)  : (f1 al).lookup ("alphabet" : Str) = some (.str (S al)) := by
  unfold f1
  rw [lookup_putF, if_pos rfl]
theorem f2_pairs (al : List Nat) (t : Addr) : (f2 al t).lookup ("pairs" : Str) = some (.ref t) := by
  unfold f2 f1
  rw [lookup_putF, if_pos rfl]
theorem f2_alphabet (al : List Nat) (t : Addr) : (f2 al t).lookup ("alphabet" : Str) = some (.str (S al)) := by
  unfold f2 f1
  rw [lookup_putF, if_neg (by decide +kernel), lookup_putF, if_pos rfl]
theorem f3_texts (al : List Nat) (t : Addr) (tx : Addr) : (f3 al t tx).lookup ("_texts" : Str) = some (.ref tx) := by
  unfold f3 f2 f1
  rw [lookup_putF, if_pos rfl]
theorem f3_pairs (al : List Nat) (t : Addr) (tx : Addr) : (f3 al t tx).lookup ("pairs" : Str) = some (.ref t) := by
  unfold f3 f2 f1
  rw [lookup_putF, if_neg (by decide +kernel), lookup_putF, if_pos rfl]
theorem f3_alphabet (al : List Nat) (t : Addr) (tx : Addr) : (f3 al t tx).lookup ("alphabet" : Str) = some (.str (S al)) := by
  unfold f3 f2 f1
  rw [lookup_putF, if_neg (by decide +kernel), lookup_putF, if_neg (by decide +kernel), lookup_putF, if_pos rfl]
theorem f4_ranks (al : List Nat) (t : Addr) (tx : Addr) (d : Addr) : (f4 al t tx d).lookup ("_ranks" : Str) = some (.ref d) := by
  unfold f4 f3 f2 f1
  rw [lookup_putF, if_pos rfl]
theorem f4_texts (al : List Nat) (t : Addr) (tx : Addr) (d : Addr) : (f4 al t tx d).lookup ("_texts" : Str) = some (.ref tx) := by
  unfold f4 f3 f2 f1
  rw [lookup_putF, if_neg (by decide +kernel), lookup_putF, if_pos rfl]
theorem f4_pairs (al : List Nat) (t : Addr) (tx : Addr) (d : Addr) : (f4 al t tx d).lookup ("pairs" : Str) = some (.ref t) := by
  unfold f4 f3 f2 f1
  rw [lookup_putF, if_neg (by decide +kernel), lookup_putF, if_neg (by decide +kernel), lookup_putF, if_pos rfl]
theorem f4_alphabet (al : List Nat) (t : Addr) (tx : Addr) (d : Addr) : (f4 al t tx d).lookup ("alphabet" : Str) = some (.str (S al)) := by
  unfold f4 f3 f2 f1
  rw [lookup_putF, if_neg (by decide +kernel), lookup_putF, if_neg (by decide +kernel), lookup_putF, if_neg (by decide +kernel), lookup_putF, if_pos rfl]
theorem f5_pieces_by_text (al : List Nat) (t : Addr) (tx : Addr) (d : Addr) (e : Addr) : (f5 al t tx d e).lookup ("_pieces_by_text" : Str) = some (.ref e) := by
  unfold f5 f4 f3 f2 f1
  rw [lookup_putF, if_pos rfl]
theorem f5_ranks (al : List Nat) (t : Addr) (tx : Addr) (d : Addr) (e : Addr) : (f5 al t tx d e).lookup ("_ranks" : Str) = some (.ref d) := by
  unfold f5 f4 f3 f2 f1
  rw [lookup_putF, if_neg (by decide +kernel), lookup_putF, if_pos rfl]
theorem f5_texts (al : List Nat) (t : Addr) (tx : Addr) (d : Addr) (e : Addr) : (f5 al t tx d e).lookup ("_texts" : Str) = some (.ref tx) := by
  unfold f5 f4 f3 f2 f1
  rw [lookup_putF, if_neg (by decide +kernel), lookup_putF, if_neg (by decide +kernel), lookup_putF, if_pos rfl]
theorem f5_pairs (al : List Nat) (t : Addr) (tx : Addr) (d : Addr) (e : Addr) : (f5 al t tx d e).lookup ("pairs" : Str) = some (.ref t) := by
  unfold f5 f4 f3 f2 f1
  rw [lookup_putF, if_neg (by decide +kernel), lookup_putF, if_neg (by decide +kernel), lookup_putF, if_neg (by decide +kernel), lookup_putF, if_pos rfl]
theorem f5_alphabet (al : List Nat) (t : Addr) (tx : Addr) (d : Addr) (e : Addr) : (f5 al t tx d e).lookup ("alphabet" : Str) = some (.str (S al)) := by
  unfold f5 f4 f3 f2 f1
  rw [lookup_putF, if_neg (by decide +kernel), lookup_putF, if_neg (by decide +kernel), lookup_putF, if_neg (by decide +kernel), lookup_putF, if_neg (by decide +kernel), lookup_putF, if_pos rfl]
theorem f5_no (al : List Nat) (t : Addr) (tx : Addr) (d : Addr) (e : Addr) {m : Str} (h1 : ¬ m = "_pieces_by_text") (h2 : ¬ m = "_ranks") (h3 : ¬ m = "_texts") (h4 : ¬ m = "pairs") (h5 : ¬ m = "alphabet") : (f5 al t tx d e).lookup m = none := by
  unfold f5 f4 f3 f2 f1
  rw [lookup_putF, if_neg h1, lookup_putF, if_neg h2, lookup_putF, if_neg h3, lookup_putF, if_neg h4, lookup_putF, if_neg h5]; rfl
def kvsT : Nat → List (List Nat) → List (Key × V)
  | _, [] => []
  | k, t :: ts => (.inr (S t), V.int (k : Int)) :: kvsT (k + 1) ts
theorem kvsT_snoc : ∀ (k : Nat) (ts : List (List Nat)) (t : List Nat), kvsT k (ts ++ [t]) = kvsT k ts ++ [(.inr (S t), V.int ((k + ts.length : Nat) : Int))]
  | k, [], t => rfl
  | k, u :: ts, t => by
    show (Sum.inr (S u), V.int (k : Int)) :: kvsT (k + 1) (ts ++ [t]) = (Sum.inr (S u), V.int (k : Int)) :: (kvsT (k + 1) ts ++ _)
    rw [kvsT_snoc (k + 1) ts t, show k + 1 + ts.length = k + (u :: ts).length by rw [List.length_cons]; omega]
theorem kvsT_len : ∀ (k : Nat) (ts : List (List Nat)), (kvsT k ts).length = ts.length
  | _, [] => rfl
  | k, p :: ps => congrArg (· + 1) (kvsT_len (k + 1) ps)
theorem kvsT_get (t : List Nat) : ∀ (k : Nat) (ts : List (List Nat)), valV (kvsT k ts) (.inr (S t)) = if t ∈ ts then some (V.int ((k + ts.idxOf t : Nat) : Int)) else none
  | k, [] => by rw [if_neg List.not_mem_nil]; exact valV_nil
  | k, u :: ts => by
    show valV ((Sum.inr (S u), V.int (k : Int)) :: kvsT (k + 1) ts) (.inr (S t)) = _
    by_cases h : u = t
    · subst h
      rw [valV_pos (p := (Sum.inr (S u), V.int (k : Int))) rfl, if_pos (List.mem_cons_self ..), List.idxOf_cons_self]; rfl
    · rw [valV_neg (p := (Sum.inr (S u), V.int (k : Int))) fun z => h (S_inj (Sum.inr.inj z)), kvsT_get t (k + 1) ts]
      have e : List.idxOf t (u :: ts) = ts.idxOf t + 1 := by
        rw [List.idxOf_cons, show (u == t) = false from beq_eq_false_iff_ne.mpr h]; rfl
      by_cases hm : t ∈ ts
      · rw [if_pos hm, if_pos (List.mem_cons_of_mem _ hm), e, show k + 1 + ts.idxOf t = k + (ts.idxOf t + 1) by omega]
      · rw [if_neg hm, if_neg fun z => by
          rcases List.mem_cons.mp z with e | e
          · exact h e.symm
          · exact hm e]
/-- a list of joins at p -/
def JoinsAt (C : Addr) (H : Hp) (p : Addr) (al : List Nat) (ps : List (Nat × Nat)) : Prop := ∃ (dx t tx d e : Addr) (vs : List V), H p = some (.ins C dx (f5 al t tx d e)) ∧ H t = some (.tup vs) ∧ PairsAt H vs ps ∧
  H tx = some (.lst (strV (textsOf al ps))) ∧ H d = some (.dT (kvsF 0 ps)) ∧ H e = some (.dK (kvsT 0 (textsOf al ps)))
theorem JoinsAt.same {C p : Addr} {H H' : Hp} {al : List Nat} {ps : List (Nat × Nat)} (h : JoinsAt C H p al ps) (s : Same H H') : JoinsAt C H' p al ps := by
  obtain ⟨dx, t, tx, d, e, vs, h1, h2, h3, h4, h5, h6⟩ := h
  exact ⟨dx, t, tx, d, e, vs, s _ _ h1, s _ _ h2, h3.same (Same.t s), s _ _ h4, s _ _ h5, s _ _ h6⟩
/-- the class as the top has made it -/
structure JTxt (K : PySem.W.Frag) (C : Addr) : Prop where
  cl : Cls K C
  n1 : NoAttr K C "alphabet"
  n2 : NoAttr K C "pairs"
  n3 : NoAttr K C "_texts"
  n4 : NoAttr K C "_ranks"
  n5 : NoAttr K C "_pieces_by_text"
/-- all but p as it was -/
def SameX (p : Addr) (H H' : Hp) : Prop := ∀ b o, b ≠ p → H b = some o → H' b = some o
theorem Same.x {p : Addr} {H H' : Hp} (s : Same H H') : SameX p H H' := fun b o _ e => s b o e
theorem SameX.then {p : Addr} {H H1 H2 : Hp} (s : SameX p H H1) (t : Same H1 H2) : SameX p H H2 := fun b o h e => t b o (s b o h e)
theorem SameX.self {p : Addr} {H H1 : Hp} {o : HO} (s : SameX p H H1) : SameX p H (upd H1 p o) := fun b u h e => by rw [upd_ne h]; exact s b u h e
theorem SameX.put {p q : Addr} {H H1 : Hp} {o : HO} (s : SameX p H H1) (hq : H q = none) : SameX p H (upd H1 q o) := fun b u h e => by rw [upd_ne (ne_of_none e hq)]; exact s b u h e
theorem SameX.free {p q : Addr} {H H1 : Hp} (s : SameX p H H1) (hq : H1 q = none) (hp : ∃ o, H1 p = some o) : H q = none := by
  cases e : H q with
  | none => rfl
  | some o =>
    obtain ⟨u, hu⟩ := hp
    have h : q ≠ p := fun z => by rw [z, hu] at hq; cases hq
    rw [s q o h e] at hq; cases hq
theorem SameT.putO {H : Hp} {p : Addr} {o o' : HO} (h : H p = some o') (hne : ∀ xs, HO.tup xs ≠ o') : SameT H (upd H p o) := fun b ys e => by
  rw [upd_ne (ne_of e h (hne ys))]; exact e
/-- what __init__ keeps while it goes through the joins, behind n of them -/
def InitAt (C : Addr) (H : Hp) (p dx t tx d : Addr) (vs : List V) (al : List Nat) (ps : List (Nat × Nat)) (n : Nat) : Prop := H p = some (.ins C dx (f4 al t tx d)) ∧ H t = some (.tup vs) ∧ PairsAt H vs ps ∧
  H tx = some (.lst (strV (textsOf al (ps.take n)))) ∧ H d = some (.dT (kvsF 0 (ps.take n)))
theorem InitAt.same {C p dx t tx d : Addr} {H H' : Hp} {vs : List V} {al : List Nat} {ps : List (Nat × Nat)} {n : Nat} (h : InitAt C H p dx t tx d vs al ps n) (s : Same H H') : InitAt C H' p dx t tx d vs al ps n :=
  ⟨s _ _ h.1, s _ _ h.2.1, h.2.2.1.same (Same.t s), s _ _ h.2.2.2.1, s _ _ h.2.2.2.2⟩
theorem dc_it {J : It} {n : Nat} {G : Hp → Prop} {Y : Nat → Hp → V → Hp → Prop} (w : Walk J n G Y) {g : TG} {tt : TT} {tk tv : TE} {vs : List Nat} {σ : L2.St} {H1 : Hp} {D : Addr} {Qd : Hp → Prop} (Pv : Nat → Hp → Prop) (h0 : Pv 0 (upd H1 D (.dK []))) (hG : ∀ i H, i ≤ n → Pv i H → G H)
    (hs : ∀ i x H H', i < n → Pv i H → Y i H x H' → g x (wipe σ vs) H' fun σ2 H2 => wipe σ2 vs = wipe σ vs ∧ tt σ2 H2 fun b H3 =>
      if b = true then tk σ2 H3 fun y H4 => tv σ2 H4 fun z H5 => ∃ (kvs : List (Key × V)) (k : Key), y = kV k ∧ H5 D = some (.dK kvs) ∧ kvs.length < sizeLine ∧ Pv (i + 1) (upd H5 D (.dK (putK kvs k z))) else Pv (i + 1) H3) (hd : ∀ H, Pv n H → Qd H) :
    ∃ W : Nat → Nat → Hp → Prop, (∃ m, W 0 m (upd H1 D (.dK []))) ∧ ∀ i m H, W i m H →
      (J.stop i H ∧ Qd H) ∨ (J.go i H ∧ ∃ Nx : Hp → Prop, (∀ H', Nx H' → ∃ m', m' < m ∧ W (i + 1) m' H') ∧ ∀ x H', J.yld i H x H' → g x (wipe σ vs) H' fun σ2 H2 => wipe σ2 vs = wipe σ vs ∧ tt σ2 H2 fun b H3 =>
        if b = true then tk σ2 H3 fun y H4 => tv σ2 H4 fun z H5 => ∃ (kvs : List (Key × V)) (k : Key), y = kV k ∧ H5 D = some (.dK kvs) ∧ kvs.length < sizeLine ∧ Nx (upd H5 D (.dK (putK kvs k z))) else Nx H3) := by
  refine ⟨fun i m H => m = n - i ∧ i ≤ n ∧ Pv i H, ⟨n, by simp, Nat.zero_le _, h0⟩, ?_⟩
  rintro i m H ⟨rfl, hi, p⟩
  have q := hG i H hi p
  by_cases hlt : i < n
  · refine .inr ⟨w.goes i H hlt q, Pv (i + 1), fun H' p' => ⟨n - (i + 1), by omega, rfl, hlt, p'⟩, fun x H' y => hs i x H H' hlt p (w.yields i H x H' hlt q y)⟩
  · have e : i = n := by omega
    subst e
    exact .inl ⟨w.stops H q, hd H p⟩
abbrev s_Joins___init__ : Stmt := inClass (top 28) 0
abbrev N_Joins___init__ : List Str := ["self", "alphabet", "pairs", "rank", "pair", "left", "right", "piece", "text"]
theorem sc_Joins___init__ : FnScope N_Joins___init__ ["self", "alphabet", "pairs"] (C8.fnScope s_Joins___init__) := C8.fnScope_by (by decide +kernel)
abbrev s_Joins_join_row : Stmt := inClass (top 28) 12
abbrev N_Joins_join_row : List Str := ["self", "row"]
theorem sc_Joins_join_row : FnScope N_Joins_join_row ["self", "row"] (C8.fnScope s_Joins_join_row) := C8.fnScope_by (by decide +kernel)
def sp_init (C : Addr) : Sp := fun vs H Q _ => ∃ (p pa dx : Addr) (b : Bool) (al : List Nat) (ps : List (Nat × Nat)) (us : List V), vs = [.ref p, .str (S al), .ref pa] ∧ H p = some (.ins C dx []) ∧ SeqAt b H pa us ∧ PairsAt H us ps ∧
  alOk al = true ∧ al.Nodup ∧ al.length ≤ 30 ∧ Proper al ps ∧ ps.length ≤ 100 ∧ ∀ H', SameX p H H' → JoinsAt C H' p al ps → Q .non H'
section
variable {P : Program} {w : World} {K : PySem.W.Frag} {mg : Str → Option Value} {base : Heap}
theorem ok_init {f C : Addr} {fd : FuncData} (F : C8.Fun K "__init__" "Joins.__init__" s_Joins___init__ f fd) (T : Txt K mg) (J : JTxt K C) (c_check_alphabet : C8.Cal P w K mg base 3 "check_alphabet" sp_check_alphabet []) (c_may_follow : C8.Cal P w K mg base 3 "may_follow" sp_may_follow []) :
    FnOk P w K mg base C8.CX0 4 f fd ["self", "alphabet", "pairs"] (sp_init C) := by
  refine C8.fn0 F sc_Joins___init__ (fun vs H Q E h => ?_) (fun cdv A outer s H vs Q E hr h => ?_)
  · obtain ⟨p, pa, dx, b, al, ps, us, rfl, _⟩ := h; rfl
  · obtain ⟨p, pa, dx, b, al, ps, us, rfl, hp, hpa, hps, hal, hnd, hall, hprop, hpl, q⟩ := h
    have hu := hu_of hr
    refine ⟨_, (pss_cons (ps_expr (C8.pe_c c_check_alphabet hr (by first | decide | omega) (by rfl) (pa_cons (pv 1) pa_nil)))
      (pss_cons (ps_fld (pv 0) (pv 1) rfl)
      (pss_cons (ps_fld (pv 0) (pe_tupleOf (by rfl) T.b_tuple (pe_lc (own := [("left", 5), ("right", 6)]) (g := gTup K 2 (gCons (gName 5) (gCons (gName 6) (gNil)))) (tt := tYes) rfl sc_Joins___init__.nd (pi_seq (pv 2)) (blkOk_by (N := N_Joins___init__) (sc := C8.fnScope s_Joins___init__) (by decide +kernel)) (fun _ _ _ _ _ => (pg_tup rfl (pgs_cons (pg_name (i := 5) sc_Joins___init__.nd rfl (Or.inl rfl)) (pgs_cons (pg_name (i := 6) sc_Joins___init__.nd rfl (Or.inl rfl)) pgs_nil)))) (fun _ _ _ _ _ => pts_nil) (fun _ _ _ _ _ => (pe_tup (pa_cons (pv 5) (pa_cons (pv 6) pa_nil)))))) rfl)
      (pss_cons (ps_fld (pv 0) (pe_callTy (call_list_text rfl) (by rfl) T.b_list (by decide +kernel) (pa_cons (pv 1) pa_nil)) rfl)
      (pss_cons (ps_fld (pv 0) pe_dnewT rfl)
      (pss_cons (ps_for PassesOwn.never rfl (pi_enumG rfl T.b_enumerate (pa_cons (pe_fld (pv 0) rfl) pa_nil)) (pg_tup rfl (pgs_cons (pg_name (i := 3) sc_Joins___init__.nd rfl (Or.inl rfl)) (pgs_cons (pg_name (i := 4) sc_Joins___init__.nd rfl (Or.inl rfl)) pgs_nil))) (pss_cons (ps_if (pt_not (pt_val (C8.pe_c c_may_follow hr (by first | decide | omega) (by rfl) (pa_cons (pv 1) (pa_cons (pe_fld (pv 0) rfl) (pa_cons (pe_fld (pv 0) rfl) (pa_cons (pv 4) pa_nil))))))) (pss_one ps_never) pss_nil)
      (pss_cons (ps_expr (pe_bm PySem.F.plainAttrs_list PySem.F.slot_list_append PySem.F.type_list_append mt_append (pe_fld (pv 0) rfl) (pa_cons (pe_op op_add_str (pe_ix ix_list (pe_fld (pv 0) rfl) (pe_ix ix_tup (pv 4) pe_int (fun _ _ => rfl)) (fun _ _ => rfl)) (pe_ix ix_list (pe_fld (pv 0) rfl) (pe_ix ix_tup (pv 4) pe_int (fun _ _ => rfl)) (fun _ _ => rfl))) pa_nil)))
      (pss_one (ps_dput hu (pe_fld (pv 0) rfl) (pv 4) (pv 3) rfl)))))
      (pss_one (ps_fld (pv 0) (pe_dc (own := [("piece", 7), ("text", 8)]) (g := gTup K 2 (gCons (gName 7) (gCons (gName 8) (gNil)))) (tt := tYes) rfl sc_Joins___init__.nd (pi_enumG rfl T.b_enumerate (pa_cons (pe_fld (pv 0) rfl) pa_nil)) (blkOk_by (N := N_Joins___init__) (sc := C8.fnScope s_Joins___init__) (by decide +kernel)) (fun _ _ _ _ _ => (pg_tup rfl (pgs_cons (pg_name (i := 7) sc_Joins___init__.nd rfl (Or.inl rfl)) (pgs_cons (pg_name (i := 8) sc_Joins___init__.nd rfl (Or.inl rfl)) pgs_nil)))) (fun _ _ _ _ _ => pts_nil) (fun _ _ _ _ _ => (pv 8)) (fun _ _ _ _ _ => (pv 7))) rfl)))))))), ?_⟩
    have lens := f_len al
    refine ⟨_, rfl, al, rfl, by omega, hal, fun H1 s1 => ⟨_, rfl, _, rfl, p, C, dx, _, rfl, s1 _ _ hp, J.cl, J.n1, by show 0 < 1000; decide, ?_⟩⟩
    have x2 : SameX p H (upd H1 p (.ins C dx (f1 al))) := (Same.x s1).self
    have hp2 : (upd H1 p (.ins C dx (f1 al))) p = some (.ins C dx (f1 al)) := upd_same
    revert hp2 x2
    show SameX p H (upd H1 p (.ins C dx (f1 al))) → (upd H1 p (.ins C dx (f1 al))) p = some (.ins C dx (f1 al)) → tSeq _ _ _ _ (upd H1 p (.ins C dx (f1 al)))
    generalize upd H1 p (.ins C dx (f1 al)) = H2
    intro x2 hp2
    have hpap : pa ≠ p := by
      cases b with
      | true => exact ne_of hpa hp (by intro z; cases z)
      | false => exact ne_of hpa hp (by intro z; cases z)
    have sT2 : ∀ H3, SameX p H H3 → PairsAt H3 us ps := fun H3 x => hps.same fun b xs e => x b _ (fun z => by rw [z, hp] at e; cases e) e
    have hpa2 : SeqAt b H2 pa us := x2 _ _ hpap hpa
    -- self.pairs
    refine ⟨_, rfl, b, pa, us, rfl, hpa2, fun D hD => lc_it walk_seq (fun i H' => Same H2 H' ∧ ∃ ws, H' D = some (.lst ws) ∧ PairsAt H' ws (ps.take i)) ⟨same_new hD, [], upd_same, .nil⟩ (fun i H' _ ⟨sa, _⟩ => hpa2.same sa) ?_ ?_⟩
    · rintro i x Ha Hb hi ⟨sa, ws, hws, hP⟩ ⟨rfl, hx⟩
      obtain ⟨⟨l, r⟩, hpi, qa, rfl, hqa⟩ := Paired.at (sT2 _ (x2.then sa)) hx
      refine ⟨qa, _, rfl, SqT.of hqa, rfl, _, _, rfl, _, _, rfl, rfl, rfl, _, rfl, _, rfl, by show 2 ≤ sizeLine; decide, fun z hz => ?_⟩
      have hDz : D ≠ z := ne_of_none hws hz
      have hws' : upd Hb z (.tup [.int (l : Int), .int (r : Int)]) D = some (.lst ws) := (upd_ne hDz).trans hws
      refine ⟨ws, hws', small1000 ?_, Same.put (Same.new sa hz) hD, _, upd_same, ?_⟩
      · have e1 := hP.length
        rw [List.length_take] at e1; omega
      · rw [take_succ_of hpi]
        refine Paired.snoc ⟨z, rfl, SameT.put hws' _ _ upd_same⟩ ?_
        exact (hP.same (Same.t (same_new hz))).same (SameT.put hws')
    rintro H3 ⟨s3, ws, hws, hP3⟩
    have hlen0 : us.length = ps.length := hps.length
    rw [hlen0, List.take_length] at hP3
    refine .inl ⟨D, ws, rfl, SqL.of hws, fun t ht => ⟨_, rfl, p, C, dx, _, rfl, (Same.new s3 ht) _ _ hp2, J.cl, J.n2, lens 0 0 0 |>.1, ?_⟩⟩
    have x4 : SameX p H (upd (upd H3 t (.tup ws)) p (.ins C dx (f2 al t))) := (x2.then (Same.new s3 ht)).self
    have hp4 : (upd (upd H3 t (.tup ws)) p (.ins C dx (f2 al t))) p = some (.ins C dx (f2 al t)) := upd_same
    have hptn : t ≠ p := fun z => by rw [z, s3 _ _ hp2] at ht; cases ht
    have ht4 : (upd (upd H3 t (.tup ws)) p (.ins C dx (f2 al t))) t = some (.tup ws) := (upd_ne hptn).trans upd_same
    have hP4 : PairsAt (upd (upd H3 t (.tup ws)) p (.ins C dx (f2 al t))) ws ps :=
      (hP3.same (Same.t (same_new ht))).same (SameT.putO ((Same.new s3 ht) _ _ hp2) (by intro xs z; cases z))
    revert x4 hp4 ht4 hP4
    show SameX p H (upd (upd H3 t (.tup ws)) p (.ins C dx (f2 al t))) → (upd (upd H3 t (.tup ws)) p (.ins C dx (f2 al t))) p = some (.ins C dx (f2 al t)) → (upd (upd H3 t (.tup ws)) p (.ins C dx (f2 al t))) t = some (.tup ws) → PairsAt (upd (upd H3 t (.tup ws)) p (.ins C dx (f2 al t))) ws ps → tSeq _ _ _ _ (upd (upd H3 t (.tup ws)) p (.ins C dx (f2 al t)))
    generalize upd (upd H3 t (.tup ws)) p (.ins C dx (f2 al t)) = H4
    intro x4 hp4 ht4 hP4
    -- self._texts, self._ranks
    refine ⟨_, rfl, S al, rfl, by rw [S_size]; exact small_le (by omega), fun tx htx => ⟨_, rfl, p, C, dx, _, rfl, (same_new htx) _ _ hp4, J.cl, J.n3, lens t 0 0 |>.2.1, ?_⟩⟩
    intro d hd
    refine ⟨_, rfl, p, C, dx, _, rfl, (upd_ne (ne_of_none upd_same hd)).trans upd_same, J.cl, J.n4, lens t tx 0 |>.2.2.1, ?_⟩
    have htx0 : H tx = none := x4.free htx ⟨_, hp4⟩
    have etx : signsV (S al) = strV (textsOf al (ps.take 0)) := by
      rw [List.take_zero]
      show (al.toArray.toList.map fun c => V.str ⟨#[c]⟩) = strV (al.map fun c => [c])
      rw [strV, List.map_map]; rfl
    have txp : tx ≠ p := fun z => by rw [z, hp4] at htx; cases htx
    have hdp : d ≠ p := fun z => by rw [z, upd_same] at hd; cases hd
    have hdtx : tx ≠ d := fun z => by rw [← z, upd_ne txp, upd_same] at hd; cases hd
    have hd0 : H4 d = none := by
      rw [upd_ne hdp, upd_ne (Ne.symm hdtx)] at hd; exact hd
    have hd00 : H d = none := x4.free hd0 ⟨_, hp4⟩
    have start : ∃ (v3 v4 : Option V), [some (V.ref p), some (.str (S al)), some (.ref pa), none, none, none, none, none, none] = [some (V.ref p), some (.str (S al)), some (.ref pa), v3, v4, none, none, none, none] ∧ InitAt C (upd (upd (upd (upd H4 tx (.lst (signsV (S al)))) p (.ins C dx (f3 al t tx))) d (.dT [])) p (.ins C dx (f4 al t tx d))) p dx t tx d ws al ps 0 ∧
        SameX p H (upd (upd (upd (upd H4 tx (.lst (signsV (S al)))) p (.ins C dx (f3 al t tx))) d (.dT [])) p (.ins C dx (f4 al t tx d))) := by
      have xa : SameX p H4 (upd (upd (upd (upd H4 tx (.lst (signsV (S al)))) p (.ins C dx (f3 al t tx))) d (.dT [])) p (.ins C dx (f4 al t tx d))) :=
        (((Same.x (p := p) (same_new htx)).self).put hd0).self
      have xb : ∀ b o, b ≠ p → H b = some o → H4 b = some o := x4
      have tT : SameT H4 (upd (upd (upd (upd H4 tx (.lst (signsV (S al)))) p (.ins C dx (f3 al t tx))) d (.dT [])) p (.ins C dx (f4 al t tx d))) := fun b xs e => xa b _ (fun z => by rw [z, hp4] at e; cases e) e
      refine ⟨none, none, rfl, ⟨upd_same, tT _ _ ht4, hP4.same tT, ?_, ?_⟩, fun b o hb e => xa b o hb (x4 b o hb e)⟩
      · rw [upd_ne txp, upd_ne hdtx, upd_ne txp, upd_same, etx]
      · rw [upd_ne hdp, upd_same]; rfl
    revert start
    show (∃ (v3 v4 : Option V), _ ∧ InitAt C (upd (upd (upd (upd H4 tx (.lst (signsV (S al)))) p (.ins C dx (f3 al t tx))) d (.dT [])) p (.ins C dx (f4 al t tx d))) p dx t tx d ws al ps 0 ∧ SameX p H (upd (upd (upd (upd H4 tx (.lst (signsV (S al)))) p (.ins C dx (f3 al t tx))) d (.dT [])) p (.ins C dx (f4 al t tx d)))) → tSeq _ _ _ _ (upd (upd (upd (upd H4 tx (.lst (signsV (S al)))) p (.ins C dx (f3 al t tx))) d (.dT [])) p (.ins C dx (f4 al t tx d)))
    generalize upd (upd (upd (upd H4 tx (.lst (signsV (S al)))) p (.ins C dx (f3 al t tx))) d (.dT [])) p (.ins C dx (f4 al t tx d)) = H5
    intro start
    have hlenw : ws.length = ps.length := hP4.length
    obtain ⟨_, _, _, i0, _⟩ := id start
    refine ⟨_, rfl, p, C, dx, _, _, rfl, i0.1, J.cl, J.n2, f4_pairs al t tx d, _, _, _, _, rfl, src_seq (b := false) i0.2.1, for_it walkG (fun i σ H' => ∃ (v3 v4 : Option V), σ = [some (V.ref p), some (.str (S al)), some (.ref pa), v3, v4, none, none, none, none] ∧ InitAt C H' p dx t tx d ws al ps i ∧ SameX p H H') start (fun i σ H' _ ⟨_, _, _, ia, _⟩ => ia.2.1) ?_ ?_⟩
    · rintro i x σ Ha Hb hi ⟨v3, v4, rfl, ia, xa⟩ ⟨Tt, xs, rfl, hT, rfl, v, hv, rfl⟩
      obtain ⟨⟨l, r⟩, hpi, qa, rfl, hqa⟩ := Paired.at ia.2.2.1 hv
      have ib := ia.same (same_new hT (o := .tup [.int (i : Int), .ref qa]))
      have xb : SameX p H (upd Ha Tt (.tup [.int (i : Int), .ref qa])) := xa.then (same_new hT)
      have hqb : (upd Ha Tt (.tup [.int (i : Int), .ref qa])) qa = some (.tup [.int (l : Int), .int (r : Int)]) := (same_new hT) _ _ hqa
      have hTb : (upd Ha Tt (.tup [.int (i : Int), .ref qa])) Tt = some (.tup [.int (i : Int), .ref qa]) := upd_same
      revert ib xb hqb hTb
      show InitAt C (upd Ha Tt (.tup [.int (i : Int), .ref qa])) p dx t tx d ws al ps i → SameX p H (upd Ha Tt (.tup [.int (i : Int), .ref qa])) → (upd Ha Tt (.tup [.int (i : Int), .ref qa])) qa = some (.tup [.int (l : Int), .int (r : Int)]) → (upd Ha Tt (.tup [.int (i : Int), .ref qa])) Tt = some (.tup [.int (i : Int), .ref qa]) → gTup K 2 _ _ _ (upd Ha Tt (.tup [.int (i : Int), .ref qa])) _
      generalize upd Ha Tt (.tup [.int (i : Int), .ref qa]) = Hb
      intro ib xb hqb hTb
      obtain ⟨b1, b2, b3, b4, b5⟩ := ib
      have hok := hprop i (l, r) hpi
      have htl : (textsOf al (ps.take i)).length ≤ 200 := by rw [textsOf_len, List.length_take]; omega
      refine ⟨Tt, _, rfl, SqT.of hTb, rfl, _, _, rfl, _, _, rfl, rfl, ?_⟩
      refine ⟨_, rfl, _, rfl, p, C, dx, _, _, rfl, b1, J.cl, J.n3, f4_texts al t tx d, _, rfl, p, C, dx, _, _, rfl, b1, J.cl, J.n4, f4_ranks al t tx d, _, rfl, al, textsOf al (ps.take i), ps.take i, (l : Int), (r : Int), tx, d, qa, rfl, b4, b5, hqb, (hprop.take i).wf, textsOf_al, (hprop.take i).short, by omega, by omega,
        fun p' e1 e2 ok Hc sc => ⟨_, rfl, iteF ?_⟩, fun hno => absurd hok (hno (l, r) rfl rfl)⟩
      have ic : InitAt C Hc p dx t tx d ws al ps i := InitAt.same ⟨b1, b2, b3, b4, b5⟩ sc
      have xc : SameX p H Hc := xb.then sc
      have hqc := sc _ _ hqb
      obtain ⟨c1, c2, c3, c4, c5⟩ := ic
      have hg1 : l < (textsOf al (ps.take i)).length := hok.1
      have hg2 : r < (textsOf al (ps.take i)).length := hok.2.1
      have hsum : ((textsOf al (ps.take i)).getD l []).length + ((textsOf al (ps.take i)).getD r []).length ≤ 40 := by
        have := hok.2.2.1
        rw [List.length_append] at this; exact this
      have hts : textsOf al (ps.take i) ++ [(textsOf al (ps.take i)).getD l [] ++ (textsOf al (ps.take i)).getD r []] = textsOf al (ps.take (i + 1)) := by rw [take_succ_of hpi, textsOf_snoc]
      refine ⟨_, rfl, p, C, dx, _, _, rfl, c1, J.cl, J.n3, f4_texts al t tx d, .inl ⟨rfl, _, SqL.of c4⟩, ?_⟩
      refine ⟨_, rfl, p, C, dx, _, _, rfl, c1, J.cl, J.n3, f4_texts al t tx d, _, rfl, qa, _, 0, _, rfl, rfl, SqT.of hqc, rfl, tx, _, _, _, rfl, rfl, SqL.of c4, atI_nat (strV_at hg1),
        _, rfl, p, C, dx, _, _, rfl, c1, J.cl, J.n3, f4_texts al t tx d, _, rfl, qa, _, 1, _, rfl, rfl, SqT.of hqc, rfl, tx, _, _, _, rfl, rfl, SqL.of c4, atI_nat (strV_at hg2), S _, S _, rfl, rfl, ?_, ?_⟩
      · rw [S_len, S_len]
        exact small_le (by omega)
      refine ⟨tx, _, _, rfl, rfl, c4, by rw [strV_len]; exact small1000 (by omega), ?_⟩
      rw [S_cat, strV_snoc, hts]
      have ntx : ∀ (b : Addr) (o : HO), Hc b = some o → (∀ ys, o ≠ .lst ys) → (upd Hc tx (.lst (strV (textsOf al (ps.take (i + 1)))))) b = some o := fun b o e hne => by
        rw [upd_ne (ne_of e c4 (hne _))]; exact e
      have hd2 := ntx d _ c5 (by intro ys z; cases z)
      have hq2 := ntx qa _ hqc (by intro ys z; cases z)
      refine ⟨_, rfl, _, rfl, p, C, dx, _, _, rfl, ntx p _ c1 (by intro ys z; cases z), J.cl, J.n4, f4_ranks al t tx d, _, rfl, d, _, rfl, DPut.t (k := pkey (l, r)) hd2 hq2 (by rw [kvsF_len, List.length_take]; exact small1000 (by omega)), ?_⟩
      have hnew : putK (kvsF 0 (ps.take i)) (pkey (l, r)) (V.int (i : Int)) = kvsF 0 (ps.take (i + 1)) := by
        have hnot : (l, r) ∉ ps.take i := fun hm => by
          have := cut_clean (hprop.take i).wf (lets al ((textsOf al (ps.take i)).getD l [] ++ (textsOf al (ps.take i)).getD r [])) _ hm
          rw [show cutL al.length (ps.take i) (lets al ((textsOf al (ps.take i)).getD l [] ++ (textsOf al (ps.take i)).getD r [])) = [l, r] from hok.2.2.2] at this
          exact this (by show (l, r) ∈ [(l, r)]; exact List.mem_cons_self ..)
        have h0 : valV (kvsF 0 (ps.take i)) (pkey (l, r)) = none := by rw [kvsF_get, if_neg hnot]
        rw [putK_new _ h0, take_succ_of hpi, kvsF_snoc, take_len_of hpi, Nat.zero_add]
      rw [hnew]
      have nd : ∀ (b : Addr) (o : HO), (upd Hc tx (.lst (strV (textsOf al (ps.take (i + 1)))))) b = some o → (∀ ys, o ≠ .dT ys) → (upd (upd Hc tx (.lst (strV (textsOf al (ps.take (i + 1)))))) d (.dT (kvsF 0 (ps.take (i + 1))))) b = some o := fun b o e hne => by
        rw [upd_ne (ne_of e hd2 (hne _))]; exact e
      have tT : SameT Hc (upd (upd Hc tx (.lst (strV (textsOf al (ps.take (i + 1)))))) d (.dT (kvsF 0 (ps.take (i + 1))))) := fun b xs e => nd b _ (ntx b _ e (by intro ys z; cases z)) (by intro ys z; cases z)
      refine ⟨_, _, rfl, ⟨nd p _ (ntx p _ c1 (by intro ys z; cases z)) (by intro ys z; cases z), tT _ _ c2, c3.same tT, nd tx _ upd_same (by intro ys z; cases z), upd_same⟩, ?_⟩
      exact (xc.put htx0).put hd00
    · rintro σ H6 ⟨v3, v4, rfl, ⟨c1, c2, c3, c4, c5⟩, x6⟩
      rw [hlenw, List.take_length] at c4 c5
      refine ⟨_, rfl, p, C, dx, _, _, rfl, c1, J.cl, J.n3, f4_texts al t tx d, _, _, _, _, rfl, src_seq (b := true) c4, fun D2 hD2 => dc_it walkG (fun i H' => Same H6 H' ∧ H' D2 = some (.dK (kvsT 0 ((textsOf al ps).take i)))) ⟨same_new hD2, upd_same⟩ (fun i H' _ ⟨sa, _⟩ => sa _ _ c4) ?_ ?_⟩
      · rintro i x Ha Hb hi ⟨sa, ha⟩ ⟨Tt, xs, rfl, hT, rfl, v, hv, rfl⟩
        have hvt : ∃ u, (textsOf al ps)[i]? = some u ∧ v = .str (S u) := by
          rw [strV, List.getElem?_map] at hv
          cases e : (textsOf al ps)[i]? with
          | none => rw [e] at hv; cases hv
          | some u => rw [e] at hv; exact ⟨u, rfl, (Option.some.inj hv).symm⟩
        obtain ⟨u, hu1, rfl⟩ := hvt
        have hne : D2 ≠ Tt := ne_of_none ha hT
        refine ⟨Tt, _, rfl, SqT.of upd_same, rfl, _, _, rfl, _, _, rfl, rfl, rfl, _, rfl, _, rfl, _, Sum.inr (S u), rfl, (upd_ne hne).trans ha, ?_, Same.put (Same.new sa hT) hD2, ?_⟩
        · rw [kvsT_len, List.length_take, textsOf_len]; exact small1000 (by omega)
        · have hnot : u ∉ (textsOf al ps).take i := fun hm => by
            obtain ⟨j, hj, ej⟩ := mem_take_get hm
            have := texts_inj hnd hprop ej hu1; omega
          have h0 : valV (kvsT 0 ((textsOf al ps).take i)) (Sum.inr (S u) : Key) = none := by rw [kvsT_get, if_neg hnot]
          rw [upd_same, putK_new _ h0, take_succ_of hu1, kvsT_snoc, take_len_of hu1, Nat.zero_add]
      · rintro H7 ⟨s7, h7⟩
        have en : (strV (textsOf al ps)).length = (textsOf al ps).length := strV_len _
        rw [en, List.take_length] at h7
        refine ⟨_, rfl, p, C, dx, _, rfl, s7 _ _ c1, J.cl, J.n5, lens t tx d |>.2.2.2, q _ (x6.then s7).self ⟨dx, t, tx, d, D2, ws, upd_same, ?_⟩⟩
        have nx : ∀ (b : Addr) (o : HO), H7 b = some o → (∀ fs, o ≠ .ins C dx fs) → (upd H7 p (.ins C dx (putF "_pieces_by_text" (.ref D2) (f4 al t tx d)))) b = some o := fun b o e hne => by
          rw [upd_ne (ne_of e (s7 _ _ c1) (hne _))]; exact e
        have tT : SameT H6 (upd H7 p (.ins C dx (putF "_pieces_by_text" (.ref D2) (f4 al t tx d)))) := fun b xs e => nx b _ (s7 _ _ e) (by intro fs z; cases z)
        exact ⟨tT _ _ c2, c3.same tT, nx tx _ (s7 _ _ c4) (by intro fs z; cases z), nx d _ (s7 _ _ c5) (by intro fs z; cases z), nx D2 _ h7 (by intro fs z; cases z)⟩
end
end RJ
end

section
set_option maxRecDepth 100000
set_option maxHeartbeats 4000000
namespace RJ
open PySem PySem.Spec PyProof.Rows L2
abbrev s_letters_of : Stmt := top 21
abbrev N_letters_of : List Str := ["joins", "text"]
theorem sc_letters_of : FnScope N_letters_of ["joins", "text"] (C8.fnScope s_letters_of) := C8.fnScope_by (by decide +kernel)
abbrev s_cut : Stmt := top 22
abbrev N_cut : List Str := ["joins", "text"]
theorem sc_cut : FnScope N_cut ["joins", "text"] (C8.fnScope s_cut) := C8.fnScope_by (by decide +kernel)
theorem joinL_nil : ∀ ys : List (List Nat), TL.joinL [] ys = ys.flatten
  | [] => rfl
  | [y] => by show y = y ++ []; rw [List.append_nil]
  | y :: z :: ys => by
    show y ++ ([] ++ TL.joinL [] (z :: ys)) = y ++ (z :: ys).flatten
    rw [List.nil_append, joinL_nil (z :: ys)]
def sp_has_piece (C : Addr) : Sp := fun vs H Q _ => ∃ (p : Addr) (x : V) (al : List Nat) (ps : List (Nat × Nat)), vs = [.ref p, x] ∧ JoinsAt C H p al ps ∧ Kind H x ∧ Q (.bl (numBelow x ((al.length + ps.length : Nat) : Int))) H
def sp_check_piece (C : Addr) : Sp := fun vs H Q _ => ∃ (p : Addr) (i : Nat) (al : List Nat) (ps : List (Nat × Nat)), vs = [.ref p, .int (i : Int)] ∧ JoinsAt C H p al ps ∧ i < al.length + ps.length ∧ Q .non H
def sp_text_of (C : Addr) : Sp := fun vs H Q _ => ∃ (p : Addr) (i : Nat) (al : List Nat) (ps : List (Nat × Nat)), vs = [.ref p, .int (i : Int)] ∧ JoinsAt C H p al ps ∧ i < al.length + ps.length ∧ Q (.str (S ((textsOf al ps).getD i []))) H
def sp_join_row (C : Addr) : Sp := fun vs H Q _ => ∃ (p a : Addr) (k : Bool) (row al : List Nat) (ps : List (Nat × Nat)), vs = [.ref p, .ref a] ∧ JoinsAt C H p al ps ∧ WF al.length ps ∧ RowAt k H a row ∧ row.length ≤ 1000 ∧ al.length ≤ 1000 ∧
  ∀ H' q k', Same H H' → (k = true → k' = true) → RowAt k' H' q (cutL al.length ps row) → Q (.ref q) H'
def sp_letters_of (C : Addr) : Sp := fun vs H Q _ => ∃ (p : Addr) (t al : List Nat) (ps : List (Nat × Nat)), vs = [.ref p, .str (S t)] ∧ JoinsAt C H p al ps ∧ (∀ c ∈ t, c ∈ al) ∧ t.length ≤ 1000 ∧
  ∀ H' q, Same H H' → H q = none → RowAt false H' q (lets al t) → Q (.ref q) H'
def sp_cut (C : Addr) : Sp := fun vs H Q _ => ∃ (p : Addr) (t al : List Nat) (ps : List (Nat × Nat)), vs = [.ref p, .str (S t)] ∧ JoinsAt C H p al ps ∧ WF al.length ps ∧ (∀ c ∈ t, c ∈ al) ∧ t.length ≤ 1000 ∧ al.length ≤ 1000 ∧
  ∀ H' q, Same H H' → RowAt false H' q (cutL al.length ps (lets al t)) → Q (.ref q) H'
def sp_text_of_row (C : Addr) : Sp := fun vs H Q _ => ∃ (p a : Addr) (b : Bool) (row al : List Nat) (ps : List (Nat × Nat)), vs = [.ref p, .ref a] ∧ JoinsAt C H p al ps ∧ Proper al ps ∧ RowAt b H a row ∧ (∀ i ∈ row, i < al.length + ps.length) ∧ row.length ≤ 1000 ∧
  ∀ H', Same H H' → Q (.str (S (textR (textsOf al ps) row))) H'
theorem sum_le {l : List (List Nat)} (h : ∀ t ∈ l, t.length ≤ 40) : ((l.map fun t => S t).map (·.length)).sum ≤ 40 * l.length := by
  induction l with
  | nil => exact Nat.le_refl _
  | cons t l ih =>
    have h1 := ih fun u hu => h u (List.mem_cons_of_mem _ hu)
    have h2 := h t (List.mem_cons_self ..)
    rw [List.map_cons, List.map_cons, List.sum_cons, S_len, List.length_cons]
    omega
section
variable {P : Program} {w : World} {K : PySem.W.Frag} {mg : Str → Option Value} {base : Heap}
theorem ok_join_row {f C : Addr} {fd : FuncData} (F : C8.Fun K "join_row" "Joins.join_row" s_Joins_join_row f fd) (T : Txt K mg) (J : JTxt K C) (c_join_down : C8.Cal P w K mg base 2 "join_down" sp_join_down []) : FnOk P w K mg base C8.CX0 3 f fd ["self", "row"] (sp_join_row C) := by
  refine C8.fn0 F sc_Joins_join_row (fun vs H Q E h => ?_) (fun cdv A outer s H vs Q E hr h => ?_)
  · obtain ⟨p, a, k, row, al, ps, rfl, _⟩ := h; rfl
  · obtain ⟨p, a, k, row, al, ps, rfl, ⟨dx, t, tx, d, e, ws, h1, h2, h3, h4, h5, h6⟩, hw, hrow, hl, hal, q⟩ := h
    refine ⟨_, (pss_one (ps_ret (C8.pe_c c_join_down hr (by first | decide | omega) (by rfl) (pa_cons (pe_fld (pv 0) rfl) (pa_cons (pe_callB call_len_str (by rfl) T.b_len PySem.boot_len (pa_cons (pe_fld (pv 0) rfl) pa_nil)) (pa_cons (pv 1) pa_nil)))))), ?_⟩
    exact ⟨_, rfl, p, C, dx, _, _, rfl, h1, J.cl, J.n4, f5_ranks al t tx d e, _, rfl, p, C, dx, _, _, rfl, h1, J.cl, J.n1, f5_alphabet al t tx d e, S al, rfl, by rw [S_len]; exact small_le hal, _, rfl, d, a, k, al.length, ps, row, by rw [S_len]; rfl, h5, hw, hrow, hl, q⟩
theorem ok_letters_of {f C : Addr} {fd : FuncData} (F : C8.Fun K "letters_of" "letters_of" s_letters_of f fd) (T : Txt K mg) (J : JTxt K C) (c_letter_row : C8.Cal P w K mg base 1 "letter_row" sp_letter_row []) : FnOk P w K mg base C8.CX0 2 f fd ["joins", "text"] (sp_letters_of C) := by
  refine C8.fn0 F sc_letters_of (fun vs H Q E h => ?_) (fun cdv A outer s H vs Q E hr h => ?_)
  · obtain ⟨p, t, al, ps, rfl, _⟩ := h; rfl
  · obtain ⟨p, u, al, ps, rfl, ⟨dx, t, tx, d, e, ws, h1, h2, h3, h4, h5, h6⟩, hin, hl, q⟩ := h
    refine ⟨_, (pss_one (ps_ret (pe_tupleOf (by rfl) T.b_tuple (C8.pe_c c_letter_row hr (by first | decide | omega) (by rfl) (pa_cons (pe_fld (pv 0) rfl) (pa_cons (pv 1) pa_nil)))))), ?_⟩
    refine ⟨_, rfl, p, C, dx, _, _, rfl, h1, J.cl, J.n1, f5_alphabet al t tx d e, _, rfl, al, u, rfl, hin, hl, fun H1 r s1 hr0 hr1 => .inl ⟨r, _, rfl, SqL.of hr1, fun z hz => ?_⟩⟩
    exact q _ z (Same.new s1 hz) (s1.free hz) upd_same
theorem ok_cut {f C : Addr} {fd : FuncData} (F : C8.Fun K "cut" "cut" s_cut f fd) (T : Txt K mg) (J : JTxt K C) (c_letters_of : C8.Cal P w K mg base 2 "letters_of" (sp_letters_of C) []) (m_join_row : C8.Met P w K mg base 3 C "join_row" (sp_join_row C) []) : FnOk P w K mg base C8.CX0 4 f fd ["joins", "text"] (sp_cut C) := by
  refine C8.fn0 F sc_cut (fun vs H Q E h => ?_) (fun cdv A outer s H vs Q E hr h => ?_)
  · obtain ⟨p, t, al, ps, rfl, _⟩ := h; rfl
  · obtain ⟨p, u, al, ps, rfl, hj, hw, hin, hl, hal, q⟩ := h
    obtain ⟨dx, t, tx, d, e, ws, h1, h2, h3, h4, h5, h6⟩ := id hj
    refine ⟨_, (pss_one (ps_ret (pe_tupleOf (by rfl) T.b_tuple (C8.pe_mt m_join_row hr (by first | decide | omega) (pv 0) (pa_cons (C8.pe_c c_letters_of hr (by first | decide | omega) (by rfl) (pa_cons (pv 0) (pa_cons (pv 1) pa_nil))) pa_nil))))), ?_⟩
    refine ⟨_, rfl, p, dx, _, rfl, h1, f5_no al t tx d e (by decide +kernel) (by decide +kernel) (by decide +kernel) (by decide +kernel) (by decide +kernel), _, rfl, _, rfl, p, u, al, ps, rfl, hj, hin, hl, fun H1 r s1 hr0 hr1 => ?_⟩
    refine ⟨p, r, false, _, al, ps, rfl, hj.same s1, hw, hr1, by rw [lets, List.length_map]; exact hl, hal, fun H2 z k' s2 _ hz => ?_⟩
    cases k' with
    | true => exact .inl ⟨z, _, rfl, SqL.of hz, fun y hy => q _ y (Same.new (s1.trans s2) hy) upd_same⟩
    | false => exact .inr ⟨z, _, rfl, SqT.of hz, q _ z (s1.trans s2) hz⟩
end
end RJ
end

section
set_option maxRecDepth 100000
set_option maxHeartbeats 4000000
namespace RJ
open PySem PySem.Spec PyProof.Rows L2
theorem hu65_of {A : Around} {k : Nat} (hr : Room k A) : A.units + 65 < cLine := by have := hr.un; omega
theorem pe_never {X : Cx} {e : Expr} : PE X e (fun _ _ _ => False) := ⟨fun _ _ _ _ _ _ h => h.elim⟩

def sp_numbers : Sp := fun vs H Q _ => ∃ (c a : Int) (m : Nat), vs = [.int c, .int a, .int (m : Int)] ∧ 0 ≤ a ∧ a ≤ 1000 ∧ m ≤ 200 ∧
  ∀ H' p ns, Same H H' → H p = none → ns.length = m → (∀ n ∈ ns, n < 1000) → H' p = some (.lst (iv ns)) → Q (.ref p) H'
/-- the same data of this depth at most -/
def scalV : V → Bool
  | .non => true
  | .bl _ => true
  | .int _ => true
  | .str _ => true
  | _ => false
def SameD (H : Hp) : Nat → V → V → Prop
  | 0, x, y => x = y ∧ scalV x = true
  | n + 1, x, y => (x = y ∧ scalV x = true) ∨ ∃ a b xs ys, x = .ref a ∧ y = .ref b ∧ H a = some (.tup xs) ∧ H b = some (.tup ys) ∧ xs.length ≤ 1000 ∧ Paired (SameD H n) xs ys
theorem SameD.flat {H : Hp} {x : V} (h : scalV x = true) : ∀ n, SameD H n x x
  | 0 => ⟨rfl, h⟩
  | _ + 1 => .inl ⟨rfl, h⟩
theorem Paired.same {α : Type} {F : α → α → Prop} : ∀ {l : List α}, (∀ x ∈ l, F x x) → Paired F l l
  | [], _ => .nil
  | x :: l, h => .cons (h x (List.mem_cons_self ..)) (Paired.same fun y hy => h y (List.mem_cons_of_mem _ hy))
theorem SameD.row {H : Hp} {a b : Addr} {l : List Nat} (ha : H a = some (.tup (iv l))) (hb : H b = some (.tup (iv l))) (hl : l.length ≤ 1000) : SameD H 1 (.ref a) (.ref b) :=
  .inr ⟨a, b, _, _, rfl, rfl, ha, hb, by rw [iv_len]; exact hl, Paired.same fun x hx => by
    obtain ⟨n, _, rfl⟩ := List.mem_map.mp hx
    exact ⟨rfl, rfl⟩⟩
theorem SameD.mono {H H' : Hp} (s : Same H H') : ∀ {n : Nat} {x y : V}, SameD H n x y → SameD H' n x y
  | 0, _, _, h => h
  | n + 1, _, _, h => by
    rcases h with h | ⟨a, b, xs, ys, h1, h2, h3, h4, h5, h6⟩
    · exact .inl h
    · exact .inr ⟨a, b, xs, ys, h1, h2, s _ _ h3, s _ _ h4, h5, Paired.mapP h6 fun x y q => SameD.mono s q⟩
def sp_same (n : Nat) : Sp := fun vs H Q _ => ∃ x y, vs = [x, y] ∧ SameD H n x y ∧ ∀ H', Same H H' → Q (.bl true) H'
theorem emod_nat (z m : Int) (h : 0 < m) : ∃ n : Nat, z % m = (n : Int) ∧ (n : Int) < m := ⟨(z % m).toNat, by have := Int.emod_nonneg z (by omega : m ≠ 0); omega, by have := Int.emod_lt_of_pos z h; have := Int.emod_nonneg z (by omega : m ≠ 0); omega⟩
theorem abs_nonneg (c : Int) : 0 ≤ (if c < 0 then -c else c) := by split <;> omega
section
variable {P : Program} {w : World} {K : PySem.W.Frag} {mg : Str → Option Value} {base : Heap}
end
end RJ
end

section
set_option maxRecDepth 100000
set_option maxHeartbeats 4000000
namespace RJ
open PySem PySem.Spec PyProof.Rows L2

/-! ### the alphabet -/
/-- the signs that are drawn: all from blank to tilde but one -/
def SG : List Nat := ((List.range 127).drop 32).filter fun c => c != 37
theorem SG_len : SG.length = 94 := by decide +kernel
theorem SG_in : ∀ c ∈ SG, 32 ≤ c ∧ c ≤ 126 := by decide +kernel
/-- signs as values -/
def sv (ls : List Nat) : List Str := ls.map fun c => S [c]
theorem sv_inj {a b : Nat} (h : S [a] = S [b]) : a = b := by
  have := S_inj h
  exact List.head_eq_of_cons_eq this
theorem in_sv {c : Nat} {ls : List Nat} : inV (.str (S [c])) ((sv ls).map V.str) = decide (c ∈ ls) := by
  unfold inV sv
  rw [List.map_map, List.any_map]
  induction ls with
  | nil => rfl
  | cons d ls ih =>
    rw [List.any_cons, ih]
    show ((S [d] == S [c]) || decide (c ∈ ls)) = _
    by_cases h : d = c
    · subst h
      rw [beq_self_eq_true, Bool.true_or, decide_eq_true (List.mem_cons_self ..)]
    · rw [beq_eq_false_iff_ne.mpr fun e => h (sv_inj e), Bool.false_or]
      exact decide_eq_decide.mpr ⟨List.mem_cons_of_mem _, fun z => (List.mem_cons.mp z).resolve_left fun e => h e.symm⟩
theorem flat_sv (ls : List Nat) : ((sv ls).map V.str).all flatV = true := by
  unfold sv
  rw [List.map_map, List.all_map]
  exact List.all_eq_true.mpr fun _ _ => rfl
def hd1 (z : Str) : Nat := z.cps.toList.headD 0
theorem sv_perm {ys : List Str} {ls : List Nat} (h : ys.Perm (sv ls)) : ∃ al, ys = sv al ∧ al.Perm ls := by
  refine ⟨ys.map hd1, ?_, ?_⟩
  · unfold sv
    rw [List.map_map]
    conv => lhs; rw [← List.map_id ys]
    refine List.map_congr_left fun y hy => ?_
    obtain ⟨c, _, rfl⟩ := List.mem_map.mp (h.mem_iff.mp hy)
    rfl
  · have := h.map hd1
    unfold sv at this
    rw [List.map_map] at this
    have e : List.map (hd1 ∘ fun c => S [c]) ls = ls := by
      conv => rhs; rw [← List.map_id ls]
      exact List.map_congr_left fun c _ => rfl
    rw [e] at this; exact this
theorem asc_sorted : ∀ {al : List Nat}, sortedS (sv al) = true → al.Nodup → (ascL al).all id = true
  | [], _, _ => rfl
  | [_], _, _ => rfl
  | a :: b :: al, h, hn => by
    have h' : (!ltCps (S [b]).cps.toList (S [a]).cps.toList && risingS (S [b]) (sv al)) = true := h
    rw [Bool.and_eq_true, Bool.not_eq_true'] at h'
    have ih : (ascL (b :: al)).all id = true := asc_sorted (al := b :: al) h'.2 (List.nodup_cons.mp hn).2
    have hab : a ≠ b := fun e => (List.nodup_cons.mp hn).1 (e ▸ List.mem_cons_self ..)
    have hlt : a < b := by
      have h1 : ltCps [b] [a] = false := h'.1
      have h2 : ¬ b < a := fun z => by
        have : ltCps [b] [a] = true := by simp [ltCps, z]
        rw [this] at h1; cases h1
      omega
    show ((decide (a < b) :: ascL (b :: al)).all id) = true
    rw [List.all_cons, ih, decide_eq_true hlt]; rfl
theorem alOk_of {al : List Nat} (h1 : (ascL al).all id = true) (h2 : ∀ c ∈ al, c ∈ SG) (h3 : 1 ≤ al.length) (h4 : al.length ≤ 30) : alOk al = true := by
  unfold alOk
  rw [decide_eq_true ⟨h3, h4⟩, h1, Bool.true_and, Bool.true_and, List.all_map]
  exact List.all_eq_true.mpr fun c hc => decide_eq_true (SG_in c (h2 c hc))
theorem flat1 (al : List Nat) : (al.map fun c => [c]).flatten = al := by
  induction al with
  | nil => rfl
  | cons a al ih => rw [List.map_cons, List.flatten_cons, ih]; rfl
theorem join1 (al : List Nat) : PySem.Txt.join (S []) (sv al) = S al := by
  have e : sv al = (al.map fun c => [c]).map SX.S := by unfold sv; rw [List.map_map]; rfl
  rw [e, SX.join_S, joinL_nil, flat1]
theorem sum1 (al : List Nat) : ((sv al).map (·.length)).sum = al.length := by
  induction al with
  | nil => rfl
  | cons a al ih =>
    show (S [a]).length + ((sv al).map (·.length)).sum = _
    rw [ih, S_len, List.length_cons, List.length_cons, List.length_nil]; omega
def sp_alphabet : Sp := fun vs H Q _ => ∃ (p : Addr) (ns : List Nat) (k m : Nat), vs = [.ref p, .int (k : Int), .int (m : Int)] ∧ H p = some (.lst (iv ns)) ∧ k + m ≤ ns.length ∧ ns.length ≤ 1000 ∧ 1 ≤ m ∧ m ≤ 30 ∧
  ∀ H' al, Same H H' → alOk al = true → al.Nodup → 1 ≤ al.length → al.length ≤ 30 → ((∀ c ∈ al, c ∈ SG) ∧ al.length ≤ m) → Q (.str (S al)) H'
def sp_join_all : Sp := fun vs H Q _ => ∃ (p pr : Addr) (row : List Nat) (l r m : Nat), vs = [.ref p, .ref pr, .int (m : Int)] ∧ H p = some (.lst (iv row)) ∧ H pr = some (.tup (iv [l, r])) ∧ row.length ≤ 1000 ∧
  ∀ H' z, Same H H' → H z = none → H' z = some (.lst (iv (pass l r m row))) → Q (.ref z) H'
def nextAt (gone : Bool) (i : Nat) : Nat := bif gone then i + 1 else i
theorem shaped_ivT (l : List Nat) : SeqAt.shaped (.tuple (l.map fun (n : Nat) => PyData.int (n : Int))) = true := by
  have := shaped_iv l
  exact this
section
variable {P : Program} {w : World} {K : PySem.W.Frag} {mg : Str → Option Value} {base : Heap}
end
end RJ
end

section
set_option maxRecDepth 100000
set_option maxHeartbeats 4000000
namespace RJ
open PySem PySem.Spec PyProof.Rows L2

theorem Paired.both {α β : Type} {F : α → β → Prop} : ∀ {as : List α} {bs : List β} {i : Nat}, Paired F as bs → i < bs.length → ∃ a b, as[i]? = some a ∧ bs[i]? = some b ∧ F a b
  | _, _, _, .nil, h => absurd h (Nat.not_lt_zero _)
  | _, _, 0, .cons f _, _ => ⟨_, _, rfl, rfl, f⟩
  | _, _, i + 1, .cons _ t, h => Paired.both (i := i) t (Nat.lt_of_succ_lt_succ h)
def sp_staged : Sp := fun vs H Q _ => ∃ (p z : Addr) (us : List V) (ps : List (Nat × Nat)) (row : List Nat) (b : Nat), vs = [.int (b : Int), .ref p, .ref z] ∧ H p = some (.lst us) ∧ PairsAt H us ps ∧ H z = some (.lst (iv row)) ∧ row.length ≤ 1000 ∧ ps.length ≤ 1000 ∧
  ∀ H' y, Same H H' → H' y = some (.lst (iv (cutL b ps row))) → Q (.ref y) H'
def sp_is_proper : Sp := fun vs H Q _ => ∃ (al : List Nat) (tx pp pr : Addr) (us : List V) (ps : List (Nat × Nat)) (a b : Nat), vs = [.str (S al), .ref tx, .ref pp, .ref pr] ∧ H tx = some (.lst (strV (textsOf al ps))) ∧ H pp = some (.lst us) ∧ PairsAt H us ps ∧
  H pr = some (.tup (iv [a, b])) ∧ Proper al ps ∧ al.length ≤ 1000 ∧ ps.length ≤ 1000 ∧ a < (textsOf al ps).length ∧ b < (textsOf al ps).length ∧ ∀ H', Same H H' → Q (.bl (decide (okP al (textsOf al ps) ps (a, b)))) H'
section
variable {P : Program} {w : World} {K : PySem.W.Frag} {mg : Str → Option Value} {base : Heap}
end
end RJ
end

section
set_option maxRecDepth 100000
set_option maxHeartbeats 4000000
namespace RJ
open PySem PySem.Spec PyProof.Rows L2

theorem modOf {L : Nat} (hL : 1 ≤ L) (n : Int) : ∃ a : Nat, a < L ∧ n % (L : Int) = (a : Int) := by
  obtain ⟨a, h1, h2⟩ := emod_nat n (L : Int) (by omega)
  exact ⟨a, by omega, h1⟩
theorem lastOf {L : Nat} (hL : 1 ≤ L) (n : Int) : ∃ a : Nat, a < L ∧ (L : Int) - 1 - n % (if (L : Int) < 3 then (L : Int) else 3) = (a : Int) := by
  obtain ⟨c, h1, h2⟩ := emod_nat n (if (L : Int) < 3 then (L : Int) else 3) (by split <;> omega)
  rw [h1]
  refine ⟨L - 1 - c, by omega, ?_⟩
  split at h2 <;> omega
theorem signs_texts (al : List Nat) : signsV (S al) = strV (textsOf al []) := by
  unfold signsV strV textsOf
  rw [List.foldl_nil, List.map_map]; rfl
def sp_list : Sp := fun vs H Q _ => ∃ (p : Addr) (ns al : List Nat) (k m : Nat), vs = [.ref p, .int (k : Int), .str (S al), .int (m : Int)] ∧ H p = some (.lst (iv ns)) ∧ k + 2 * m ≤ ns.length ∧ ns.length ≤ 1000 ∧ al.length ≤ 500 ∧ 1 ≤ al.length ∧ m ≤ 100 ∧
  ∀ H' r pp tx us ps, Same H H' → H' r = some (.tup [.ref pp, .ref tx]) → H' pp = some (.lst us) → PairsAt H' us ps → H' tx = some (.lst (strV (textsOf al ps))) → Proper al ps → ps.length ≤ m → Q (.ref r) H'
section
variable {P : Program} {w : World} {K : PySem.W.Frag} {mg : Str → Option Value} {base : Heap}
end
end RJ
end

section
set_option maxRecDepth 100000
set_option maxHeartbeats 4000000
namespace RJ
open PySem PySem.Spec PyProof.Rows L2
/-! ### cutting by an own hand: mathematics -/
def nbAt (row : List Nat) (i : Nat) (p : Nat × Nat) : Prop := row[i]? = some p.1 ∧ row[i + 1]? = some p.2
theorem nb_mem {p : Nat × Nat} : ∀ {row : List Nat}, p ∈ adjs row → ∃ i, nbAt row i p
  | [], h => by cases h
  | [a], h => by cases h
  | a :: b :: t, h => by
    rw [adjs_cons2] at h
    rcases List.mem_cons.mp h with e | e
    · subst e; exact ⟨0, rfl, rfl⟩
    · obtain ⟨i, h1, h2⟩ := nb_mem (row := b :: t) e
      exact ⟨i + 1, h1, h2⟩
theorem nb_fun {row : List Nat} {i : Nat} {p q : Nat × Nat} (h : nbAt row i p) (g : nbAt row i q) : p = q := by
  obtain ⟨p1, p2⟩ := p
  obtain ⟨q1, q2⟩ := q
  have e1 : some p1 = some q1 := h.1.symm.trans g.1
  have e2 : some p2 = some q2 := h.2.symm.trans g.2
  cases e1; cases e2; rfl
theorem nb_split {row : List Nat} {i : Nat} {p : Nat × Nat} (h : nbAt row i p) : row = row.take i ++ p.1 :: p.2 :: row.drop (i + 2) := by
  have e1 := split_at h.1
  have e2 : row.drop (i + 1) = p.2 :: row.drop (i + 2) := by
    obtain ⟨h1, h2⟩ := List.getElem?_eq_some_iff.mp h.2
    rw [List.drop_eq_getElem_cons h1, h2]
  rw [e2] at e1; exact e1
theorem nb_front {row : List Nat} {i : Nat} {p : Nat × Nat} (h : nbAt row i p) (hno : ∀ m : Nat, m < i → ¬ nbAt row m p) : p ∉ adjs (row.take i ++ [p.1]) := fun hm => by
  have e : row.take i ++ [p.1] = row.take (i + 1) := by rw [take_succ_of h.1]
  rw [e] at hm
  obtain ⟨m, h1, h2⟩ := nb_mem hm
  rw [List.getElem?_take] at h1 h2
  by_cases c : m + 1 < i + 1
  · rw [if_pos (by omega)] at h1
    rw [if_pos c] at h2
    exact hno m (by omega) ⟨h1, h2⟩
  · rw [if_neg c] at h2; cases h2
def Scan (ps : List (Nat × Nat)) (row : List Nat) (k best place : Nat) : Prop :=
  best ≤ ps.length ∧ (∀ (i : Nat) (q : Nat × Nat), i < k → nbAt row i q → ∀ j : Nat, j < best → ps[j]? ≠ some q) ∧ (best < ps.length → ∃ p, ps[best]? = some p ∧ nbAt row place p ∧ ∀ i : Nat, i < place → ¬ nbAt row i p)
theorem Scan.zero (ps : List (Nat × Nat)) (row : List Nat) : Scan ps row 0 ps.length 0 := ⟨Nat.le_refl _, fun i q h => absurd h (Nat.not_lt_zero _), fun h => absurd h (Nat.lt_irrefl _)⟩
theorem Scan.keep {ps : List (Nat × Nat)} {row : List Nat} {k best place : Nat} (h : Scan ps row k best place) (g : ∀ q, nbAt row k q → ∀ j : Nat, j < best → ps[j]? ≠ some q) : Scan ps row (k + 1) best place := by
  obtain ⟨h1, h2, h3⟩ := h
  refine ⟨h1, fun i q hi hq => ?_, h3⟩
  by_cases c : i = k
  · subst c; exact g q hq
  · exact h2 i q (by omega) hq
theorem Scan.put {ps : List (Nat × Nat)} {row : List Nat} {k best place j : Nat} {q : Nat × Nat} (h : Scan ps row k best place) (hq : nbAt row k q) (hj : ps[j]? = some q) (hmin : ∀ m : Nat, m < j → ps[m]? ≠ some q) (hlt : j < best) : Scan ps row (k + 1) j k := by
  obtain ⟨h1, h2, h3⟩ := h
  refine ⟨by omega, fun i q' hi hq' m hm => ?_, fun _ => ⟨q, hj, hq, fun i hi hn => h2 i q hi hn j hlt hj⟩⟩
  by_cases c : i = k
  · subst c; rw [nb_fun hq' hq]; exact hmin m hm
  · exact h2 i q' (by omega) hq' m (by omega)
theorem Scan.still {b : Nat} {ps : List (Nat × Nat)} {row : List Nat} {k place : Nat} (h : Scan ps row k ps.length place) (hk : row.length ≤ k + 1) : cutL b ps row = row := by
  refine cut_done fun p hp hm => ?_
  obtain ⟨i, hi⟩ := nb_mem hm
  obtain ⟨j, hj⟩ := List.getElem?_of_mem hp
  have hjl := (List.getElem?_eq_some_iff.mp hj).1
  have hil := (List.getElem?_eq_some_iff.mp hi.2).1
  exact h.2.1 i p (by omega) hi j hjl hj
theorem Scan.step {b : Nat} {ps : List (Nat × Nat)} (hw : WF b ps) {row : List Nat} {k best place : Nat} (h : Scan ps row k best place) (hk : row.length ≤ k + 1) (hlt : best < ps.length) :
    cutL b ps (row.take place ++ (b + best) :: row.drop (place + 2)) = cutL b ps row ∧ (row.take place ++ (b + best) :: row.drop (place + 2)).length + 1 = row.length := by
  obtain ⟨h1, h2, h3⟩ := h
  obtain ⟨p, hp, hn, hno⟩ := h3 hlt
  have hl := (List.getElem?_eq_some_iff.mp hn.2).1
  refine ⟨?_, ?_⟩
  · have e := nb_split hn
    have := cut_first hw hp (u := row.take place) (v := row.drop (place + 2)) (nb_front hn hno) (fun j q hj hq hm => by
      rw [← e] at hm
      obtain ⟨i, hi⟩ := nb_mem hm
      have hil := (List.getElem?_eq_some_iff.mp hi.2).1
      exact h2 i q (by omega) hi j hj hq)
    rw [this, ← e]
  · rw [List.length_append, List.length_cons, List.length_take, List.length_drop]; omega
theorem first_at {p : Nat × Nat} : ∀ {ps : List (Nat × Nat)}, p ∈ ps → ∃ j : Nat, ps[j]? = some p ∧ ∀ m : Nat, m < j → ps[m]? ≠ some p
  | [], h => by cases h
  | q :: ps, h => by
    by_cases c : q = p
    · subst c; exact ⟨0, rfl, fun (m : Nat) (hm : m < 0) => absurd hm (Nat.not_lt_zero _)⟩
    · obtain ⟨j, h1, h2⟩ := first_at ((List.mem_cons.mp h).resolve_left fun e => c e.symm)
      refine ⟨j + 1, h1, fun m hm => ?_⟩
      cases m with
      | zero => exact fun e => c (Option.some.inj e)
      | succ m => exact h2 m (by omega)
/-! ### pairs as data -/
def pairD (p : Nat × Nat) : PyData := .tuple ([p.1, p.2].map fun (n : Nat) => PyData.int (n : Int))
theorem eqv_pair (p q : Nat × Nat) : PyData.eqv (pairD p) (pairD q) = decide (p = q) := by
  unfold pairD
  rw [PyData.eqv, eqv_iv]
  refine decide_eq_decide.mpr ?_
  obtain ⟨a, b⟩ := p
  obtain ⟨c, d⟩ := q
  simp
theorem any_pair (p : Nat × Nat) (ps : List (Nat × Nat)) : ((ps.map pairD).any fun z => PyData.eqv z (pairD p)) = decide (p ∈ ps) := by
  rw [List.any_map]
  induction ps with
  | nil => rfl
  | cons q ps ih =>
    rw [List.any_cons, ih]
    show (PyData.eqv (pairD q) (pairD p) || decide (p ∈ ps)) = _
    rw [eqv_pair]
    by_cases c : q = p
    · subst c; simp
    · rw [decide_eq_false c, Bool.false_or]
      exact decide_eq_decide.mpr ⟨List.mem_cons_of_mem _, fun h => (List.mem_cons.mp h).resolve_left fun e => c e.symm⟩
theorem dp_pairs {K : PySem.W.Frag} {H : Hp} : ∀ {us : List V} {ps : List (Nat × Nat)}, PairsAt H us ps → DpAll K H us (ps.map pairD)
  | _, _, .nil => .nil
  | _, _, .cons h t => by
    obtain ⟨q, rfl, hq⟩ := h
    exact .cons (.tup (SqT.of hq) (iv_dp [_, _])) (dp_pairs t)
theorem shaped_pair (p : Nat × Nat) : SeqAt.shaped (pairD p) = true := shaped_ivT [p.1, p.2]
theorem shaped_pairs (ps : List (Nat × Nat)) : SeqAt.shaped (.list (ps.map pairD)) = true := by
  have h1 : PyData.canLayAll0 (ps.map pairD) = true := by
    induction ps with
    | nil => simp [PyData.canLayAll0]
    | cons p ps ih => rw [List.map_cons, PyData.canLayAll0, ih]; simp [pairD, PyData.canLay0, PyData.canLayAll0]
  have h2 : PyData.depthAll (ps.map pairD) ≤ 1 := by
    clear h1
    induction ps with
    | nil => simp [PyData.depthAll]
    | cons p ps ih =>
      rw [List.map_cons, PyData.depthAll]
      have : PyData.depth (pairD p) = 1 := by simp [pairD, PyData.depth, PyData.depthAll]
      omega
  unfold SeqAt.shaped
  rw [PyData.canLay0, h1, PyData.depth, Bool.true_and]
  exact decide_eq_true (by omega)
theorem get_pairD {ps : List (Nat × Nat)} {m : Nat} {z : PyData} (h : (ps.map pairD)[m]? = some z) : ∃ q, ps[m]? = some q ∧ z = pairD q := by
  rw [List.getElem?_map] at h
  cases e : ps[m]? with
  | none => rw [e] at h; cases h
  | some q => rw [e] at h; exact ⟨q, rfl, (Option.some.inj h).symm⟩
end RJ
end

section
set_option maxRecDepth 100000
set_option maxHeartbeats 8000000
namespace RJ
open PySem PySem.Spec PyProof.Rows L2
def sp_slow : Sp := fun vs H Q _ => ∃ (pp : Addr) (us : List V) (ps : List (Nat × Nat)) (al t : List Nat), vs = [.str (S al), .ref pp, .str (S t)] ∧ H pp = some (.lst us) ∧ PairsAt H us ps ∧ WF al.length ps ∧ ps.length ≤ 1000 ∧ al.length ≤ 1000 ∧
  (∀ c ∈ t, c ∈ al) ∧ t.length ≤ 900 ∧ ∀ H' z, Same H H' → H' z = some (.tup (iv (cutL al.length ps (lets al t)))) → Q (.ref z) H'
theorem cut_to (l : List Nat) (k : Nat) : cutV (iv l) none (some (k : Int)) = iv (l.take k) := by
  unfold cutV
  rw [HT.sIx_nat, HT.sIx_none, List.drop_zero, iv_len, Nat.sub_zero]
  unfold iv
  rw [List.map_take]
  by_cases h : k ≤ l.length
  · rw [Nat.min_eq_left h]
  · rw [Nat.min_eq_right (by omega), List.take_of_length_le (by rw [List.length_map]; exact Nat.le_refl _), List.take_of_length_le (by rw [List.length_map]; omega)]
theorem cut_on (l : List Nat) (k : Nat) : cutV (iv l) (some (k : Int)) none = iv (l.drop k) := by
  unfold cutV
  rw [HT.sIx_nat, HT.sIx_none, iv_len]
  unfold iv
  rw [List.map_drop]
  by_cases h : k ≤ l.length
  · rw [Nat.min_eq_left h, List.take_of_length_le (by rw [List.length_drop, List.length_map]; exact Nat.le_refl _)]
  · rw [Nat.min_eq_right (by omega), List.drop_eq_nil_of_le (by rw [List.length_map]; exact Nat.le_refl _), List.drop_eq_nil_of_le (by rw [List.length_map]; omega)]
    exact List.take_nil
theorem iv_mid (u v : List Nat) (n : Nat) : iv u ++ [V.int (n : Int)] ++ iv v = iv (u ++ n :: v) := by
  unfold iv
  rw [List.map_append, List.map_cons, List.append_assoc]; rfl
theorem index_at {K : PySem.W.Frag} {H : Hp} {pp z : Addr} {us : List V} {ps : List (Nat × Nat)} {a b j : Nat} {Q : VK} (hpp : H pp = some (.lst us)) (hps : PairsAt H us ps) (hz : H z = some (.tup (iv [a, b]))) (hj : ps[j]? = some (a, b)) (hmin : ∀ m : Nat, m < j → ps[m]? ≠ some (a, b))
    (q : Q (.int (j : Int)) H) : rIndexD K (.ref pp) [.ref z] H Q := by
  refine ⟨pp, .ref z, pairD (a, b), ps.map pairD, j, pairD (a, b), rfl, rfl, .lst (SqL.of hpp) (dp_pairs hps), .tup (SqT.of hz) (iv_dp [a, b]), shaped_pairs ps, shaped_pair (a, b), ?_, ?_, fun m z' hm hz' => ?_, q⟩
  · rw [List.getElem?_map, hj]; rfl
  · rw [eqv_pair]; exact decide_eq_true rfl
  · obtain ⟨p, hp, rfl⟩ := get_pairD hz'
    rw [eqv_pair]
    exact decide_eq_false fun e => hmin m hm (by rw [hp, e])
section
variable {P : Program} {w : World} {K : PySem.W.Frag} {mg : Str → Option Value} {base : Heap}
end
end RJ
end

section
set_option maxRecDepth 100000
set_option maxHeartbeats 8000000
namespace RJ
open PySem PySem.Spec PyProof.Rows L2
abbrev s_law : Stmt := top 39
abbrev N_law : List Str := ["script", "pool", "alphabet", "made", "joins", "texts", "pages", "behind", "ahead", "k", "one", "page", "text", "back", "forth", "way", "at", "more", "many", "other"]
theorem sc_law : FnScope N_law ["script"] (C8.fnScope s_law) := C8.fnScope_by (by decide +kernel)
/-! ### cutting keeps the text -/
end RJ
end

section
set_option maxRecDepth 100000
set_option maxHeartbeats 4000000
namespace RJ
open PySem PySem.Spec PyProof.Rows L2
abbrev s__law_pool : Stmt := top 30
abbrev N__law_pool : List Str := ["script", "many", "pool", "total", "cell", "rest", "k", "first", "second"]
theorem sc__law_pool : FnScope N__law_pool ["script", "many"] (C8.fnScope s__law_pool) := C8.fnScope_by (by decide +kernel)
abbrev s__law_draw : Stmt := top 31
abbrev N__law_draw : List Str := ["pool", "many"]
theorem sc__law_draw : FnScope N__law_draw ["pool", "many"] (C8.fnScope s__law_draw) := C8.fnScope_by (by decide +kernel)
abbrev s__law_alphabet : Stmt := top 32
abbrev N__law_alphabet : List Str := ["pool", "signs", "chosen", "k"]
theorem sc__law_alphabet : FnScope N__law_alphabet ["pool"] (C8.fnScope s__law_alphabet) := C8.fnScope_by (by decide +kernel)
/-! ### the pool -/
def PoolAt (p : Addr) (H : Hp) : Prop := ∃ ns : List Nat, H p = some (.lst (iv ns)) ∧ ns.length ≤ 1000
/-- all as it was but the pool -/
structure PSame (p : Addr) (H H' : Hp) : Prop where
  x : SameX p H H'
  at0 : PoolAt p H
  at1 : PoolAt p H'
section pool
variable {p : Addr}
theorem PSame.refl {H : Hp} (h : PoolAt p H) : PSame p H H := ⟨fun _ _ _ e => e, h, h⟩
theorem PSame.trans {H H1 H2 : Hp} (s : PSame p H H1) (u : PSame p H1 H2) : PSame p H H2 := ⟨fun b o h e => u.x b o h (s.x b o h e), s.at0, u.at1⟩
theorem PoolAt.same {H H' : Hp} (h : PoolAt p H) (s : Same H H') : PoolAt p H' := by
  obtain ⟨ns, h1, h2⟩ := h
  exact ⟨ns, s _ _ h1, h2⟩
theorem PSame.of {H H' : Hp} (h : PoolAt p H) (s : Same H H') : PSame p H H' := ⟨Same.x s, h, h.same s⟩
theorem PSame.then {H H1 H2 : Hp} (s : PSame p H H1) (u : Same H1 H2) : PSame p H H2 := s.trans (PSame.of s.at1 u)
theorem PSame.new {q : Addr} {H H1 : Hp} {o : HO} (s : PSame p H H1) (h : H1 q = none) : PSame p H (upd H1 q o) := s.then (same_new h)
theorem PoolAt.free {H : Hp} {q : Addr} (h : PoolAt p H) (hq : H q = none) : q ≠ p := by
  obtain ⟨ns, h1, _⟩ := h
  exact Ne.symm (ne_of_none h1 hq)
theorem PoolAt.put {H : Hp} {q : Addr} {o : HO} (h : PoolAt p H) (h1 : q ≠ p) : PoolAt p (upd H q o) := by
  obtain ⟨ns, e1, e2⟩ := h
  exact ⟨ns, (upd_ne (Ne.symm h1)).trans e1, e2⟩
/-- what is written where nothing stood, is kept out -/
theorem PSame.put {q : Addr} {H H1 : Hp} {o : HO} (s : PSame p H H1) (h : H q = none) : PSame p H (upd H1 q o) :=
  ⟨fun b u hb e => by rw [upd_ne (ne_of_none e h)]; exact s.x b u hb e, s.at0, s.at1.put (s.at0.free h)⟩
theorem PSame.none {q : Addr} {H H1 : Hp} (s : PSame p H H1) (h : H1 q = none) : H q = none := by
  have hne := s.at1.free h
  cases e : H q with
  | none => rfl
  | some o => rw [s.x q o hne e] at h; cases h
theorem PSame.lst {b : Addr} {H H' : Hp} {xs : List V} (s : PSame p H H') (hb : b ≠ p) (e : H b = some (.lst xs)) : H' b = some (.lst xs) := s.x b _ hb e
theorem PSame.tup {b : Addr} {H H' : Hp} {xs : List V} (s : PSame p H H') (e : H b = some (.tup xs)) : H' b = some (.tup xs) := by
  obtain ⟨ns, h1, _⟩ := s.at0
  exact s.x b _ (ne_of e h1 (fun z => by cases z)) e
theorem PSame.tt {H H' : Hp} (s : PSame p H H') : SameT H H' := fun b xs e => s.tup e
theorem JoinsAt.pool {C y : Addr} {H H' : Hp} {al : List Nat} {ps : List (Nat × Nat)} (h : JoinsAt C H y al ps) (s : PSame p H H') (hal : 0 < al.length) : JoinsAt C H' y al ps := by
  obtain ⟨dx, u, tx, d, e, ws, h1, h2, h3, h4, h5, h6⟩ := h
  obtain ⟨ns, e1, _⟩ := s.at0
  refine ⟨dx, u, tx, d, e, ws, s.x _ _ (ne_of h1 e1 (fun z => by cases z)) h1, s.tup h2, h3.same s.tt, s.x _ _ ?_ h4, s.x _ _ (ne_of h5 e1 (fun z => by cases z)) h5, s.x _ _ (ne_of h6 e1 (fun z => by cases z)) h6⟩
  rintro rfl
  rw [e1] at h4
  have hT : 0 < (textsOf al ps).length := by rw [textsOf_len]; omega
  cases hts : textsOf al ps with
  | nil => rw [hts] at hT; exact absurd hT (Nat.lt_irrefl _)
  | cons a b =>
    rw [hts] at h4
    have e2 : iv ns = strV (a :: b) := by injection h4 with h; injection h
    cases ns with
    | nil => cases e2
    | cons n ns =>
      have e3 : V.int (n : Int) = V.str (S a) := (List.cons.inj e2).1
      cases e3
end pool
def sp_pool (K : PySem.W.Frag) : Sp := fun vs H Q _ => ∃ (a : Addr) (zs : List Int) (m : Nat), vs = [.ref a, .int (m : Int)] ∧ SqL K H a (zs.map V.int) ∧ zs.length ≤ 63 ∧ m ≤ 1000 ∧ ∀ H' p, Same H H' → H p = none → PoolAt p H' → Q (.ref p) H'
def sp_drawB : Sp := fun vs H Q _ => ∃ (p : Addr) (m : Int), vs = [.ref p, .int m] ∧ PoolAt p H ∧ 0 < m ∧ ∀ (H' : Hp) (r : Nat), PSame p H H' → (r : Int) < m → Q (.int (r : Int)) H'
def sp_alphabetB : Sp := fun vs H Q _ => ∃ p : Addr, vs = [.ref p] ∧ PoolAt p H ∧
  ∀ H' al, PSame p H H' → alOk al = true → al.Nodup → 1 ≤ al.length → al.length ≤ 30 → (∀ c ∈ al, c ∈ SG) → Q (.str (S al)) H'
section
variable {P : Program} {w : World} {K : PySem.W.Frag} {mg : Str → Option Value} {base : Heap}
theorem ok_pool {f : Addr} {fd : FuncData} (F : C8.Fun K "_law_pool" "_law_pool" s__law_pool f fd) (T : Txt K mg) : FnOk P w K mg base C8.CX0 1 f fd ["script", "many"] (sp_pool K) := by
  refine C8.fn0 F sc__law_pool (fun vs H Q E h => ?_) (fun cdv A outer s H vs Q E hr h => ?_)
  · obtain ⟨a, zs, m, rfl, _⟩ := h; rfl
  · obtain ⟨a, zs, m, rfl, hS, hz, hm, q⟩ := h
    refine ⟨_, (pss_cons (ps_set (i := 2) sc__law_pool.nd rfl (Or.inl rfl) (pe_lst pa_nil))
      (pss_cons (ps_set (i := 3) sc__law_pool.nd rfl (Or.inl rfl) pe_int)
      (pss_cons (ps_for PassesOwn.never rfl (pi_list (pv 0)) (pg_name (i := 4) sc__law_pool.nd rfl (Or.inl rfl)) (pss_cons (ps_set (i := 5) sc__law_pool.nd rfl (Or.inl rfl) (pe_callTy call_int1 (by rfl) T.b_int (by decide +kernel) (pa_cons (pe_callB call_abs (by rfl) T.b_abs (by decide +kernel) (pa_cons (pv 4) pa_nil)) pa_nil)))
      (pss_cons (ps_if (pt_cmpR op_ge (pv 5) (pe_op op_pow pe_int pe_int) (nomark _)) (pss_one (ps_for PassesOwn.never rfl (pi_range1 rfl T.b_range (pa_cons (pe_callB (call_min2 rfl) (by rfl) T.b_min (by decide +kernel) (pa_cons pe_int (pa_cons (pe_op op_sub (pv 1) (pe_callB call_len_seq (by rfl) T.b_len PySem.boot_len (pa_cons (pv 2) pa_nil))) pa_nil))) pa_nil)) (pg_name (i := 6) sc__law_pool.nd rfl (Or.inl rfl)) (pss_cons (ps_expr (pe_bm PySem.F.plainAttrs_list PySem.F.slot_list_append PySem.F.type_list_append mt_append (pv 2) (pa_cons (pe_op op_mod (pe_callTy call_int1 (by rfl) T.b_int (by decide +kernel) (pa_cons (pv 5) pa_nil)) pe_int) pa_nil)))
      (pss_cons (ps_set (i := 5) sc__law_pool.nd rfl (Or.inl rfl) (pe_op op_fdiv (pv 5) pe_int))
      (pss_one (ps_if (pt_cmpR op_eq (pv 5) pe_int (nomark _)) (pss_one ps_break) pss_nil)))))) (pss_cons (ps_set (i := 7) sc__law_pool.nd rfl (Or.inl rfl) (pe_op op_mod (pe_callTy call_int1 (by rfl) T.b_int (by decide +kernel) (pa_cons (pe_op op_add (pe_op op_add (pe_op op_mul (pv 4) pe_int) (pe_op op_mul (pe_callB call_len_seq (by rfl) T.b_len PySem.boot_len (pa_cons (pv 2) pa_nil)) pe_int)) pe_int) pa_nil)) pe_int))
      (pss_cons (ps_set (i := 8) sc__law_pool.nd rfl (Or.inl rfl) (pe_op op_mod (pe_callTy call_int1 (by rfl) T.b_int (by decide +kernel) (pa_cons (pe_op op_add (pe_op op_mul (pv 7) (pv 7)) pe_int) pa_nil)) pe_int))
      (pss_cons (ps_expr (pe_bm PySem.F.plainAttrs_list PySem.F.slot_list_append PySem.F.type_list_append mt_append (pv 2) (pa_cons (pe_op op_mod (pe_callTy call_int1 (by rfl) T.b_int (by decide +kernel) (pa_cons (pe_op op_fdiv (pv 8) pe_int) pa_nil)) pe_int) pa_nil)))
      (pss_one (ps_expr (pe_bm PySem.F.plainAttrs_list PySem.F.slot_list_append PySem.F.type_list_append mt_append (pv 2) (pa_cons (pe_op op_mod (pe_op op_mod (pe_callTy call_int1 (by rfl) T.b_int (by decide +kernel) (pa_cons (pe_op op_add (pe_op op_mul (pv 8) pe_int) (pv 7)) pa_nil)) pe_int) pe_int) pa_nil))))))))
      (pss_one (ps_set (i := 3) sc__law_pool.nd rfl (Or.inl rfl) (pe_op op_mod (pe_callTy call_int1 (by rfl) T.b_int (by decide +kernel) (pa_cons (pe_op op_add (pe_op op_mul (pv 3) pe_int) (pv 4)) pa_nil)) pe_int))))))
      (pss_cons (ps_for PassesOwn.never rfl (pi_range1 rfl T.b_range (pa_cons (pv 1) pa_nil)) (pg_name (i := 6) sc__law_pool.nd rfl (Or.inl rfl)) (pss_cons (ps_set (i := 3) sc__law_pool.nd rfl (Or.inl rfl) (pe_op op_mod (pe_callTy call_int1 (by rfl) T.b_int (by decide +kernel) (pa_cons (pe_op op_add (pe_op op_add (pe_op op_mul (pv 3) pe_int) (pe_op op_mul (pv 6) pe_int)) pe_int) pa_nil)) pe_int))
      (pss_one (ps_expr (pe_bm PySem.F.plainAttrs_list PySem.F.slot_list_append PySem.F.type_list_append mt_append (pv 2) (pa_cons (pe_op op_mod (pe_callTy call_int1 (by rfl) T.b_int (by decide +kernel) (pa_cons (pe_op op_fdiv (pv 3) pe_int) pa_nil)) pe_int) pa_nil))))))
      (pss_cons (ps_set (i := 2) sc__law_pool.nd rfl (Or.inl rfl) (pe_slice sl_list (pv 2) po_none (po_some (pv 1))))
      (pss_cons (ps_expr (pe_bm0 PySem.F.plainAttrs_list PySem.F.slot_list_reverse PySem.F.type_list_reverse mt_reverse (pv 2)))
      (pss_one (ps_ret (pv 2))))))))), ?_⟩
    refine ⟨Nat.zero_le _, fun p hp => ?_⟩
    have hnew : ∀ (H' : Hp) (ns : List Nat) (z : Int), Same H H' → H' p = some (.lst (iv ns)) → ns.length ≤ 5000 → ∃ n : Nat, z % 2520 = (n : Int) ∧ ((iv ns).length < sizeLine) ∧ Same H (upd H' p (.lst (iv ns ++ [V.int (z % 2520)]))) ∧ (upd H' p (.lst (iv ns ++ [V.int (z % 2520)]))) p = some (.lst (iv (ns ++ [n]))) := fun H' ns z s' e hl => by
      obtain ⟨n, hn, _⟩ := emod_nat z 2520 (by decide)
      refine ⟨n, hn, by rw [iv_len]; exact Nat.lt_of_le_of_lt hl (by decide), Same.put s' hp, ?_⟩
      rw [upd_same, hn, iv_snoc]
    refine ⟨_, rfl, a, rfl, ⟨_, (same_new hp).seq hS⟩, for_it walk_list (fun i σ H' => ∃ (total : Int) (ns : List Nat) (v4 v5 v6 v7 v8 : Option V), σ = [some (.ref a), some (.int (m : Int)), some (.ref p), some (.int total), v4, v5, v6, v7, v8] ∧ Same H H' ∧ H' p = some (.lst (iv ns)) ∧ ns.length ≤ 60 * i)
      ⟨1, [], none, none, none, none, none, rfl, same_new hp, upd_same, Nat.zero_le _⟩ (fun i σ H' _ ⟨_, _, _, _, _, _, _, _, s', _⟩ => s'.seq hS) ?_ ?_⟩
    · rintro i x σ Ha Hb hi ⟨total, ns, v4, v5, v6, v7, v8, rfl, sa, hpb, hle⟩ ⟨rfl, hx⟩
      rw [List.length_map] at hi
      rw [List.getElem?_map] at hx
      obtain ⟨z, hz', rfl⟩ := Option.map_eq_some_iff.mp hx
      refine ⟨_, rfl, z, rfl, .inl ⟨_, rfl, ?_⟩⟩
      dsimp only [gName]
      show tSeq (tIfS _ _ _) _ _ [some (.ref a), some (.int (m : Int)), some (.ref p), some (.int total), some (.int z), some (.int (if z < 0 then -z else z)), v6, v7, v8] Hb
      show tTest _ _ _ _
      generalize hM : tAsg _ _ _ = M
      have key : ∀ (H' : Hp) (ns : List Nat) (w5 w6 w7 w8 : Option V), Same H H' → H' p = some (.lst (iv ns)) → ns.length ≤ 60 * (i + 1) → M [some (.ref a), some (.int (m : Int)), some (.ref p), some (.int total), some (.int z), w5, w6, w7, w8] H' := by
        intro H' ns w5 w6 w7 w8 s' e hl
        rw [← hM]
        exact ⟨_, rfl, _, _, rfl, rfl, .inr ⟨by decide, by decide⟩, _, rfl, _, _, rfl, rfl, .inl ⟨_, rfl, _, _, rfl, rfl, by show (0 : Int) < 1000003; decide, _, ns, _, _, _, _, _, rfl, s', e, hl⟩⟩
      have hi63 : i < 63 := by omega
      refine ⟨_, rfl, _, _, rfl, rfl, ⟨by decide, by decide, by decide⟩, _, _, rfl, rfl, _, rfl, ?_⟩
      obtain ⟨b, hb⟩ : ∃ b : Bool, b = decide (((10 : Int) ^ (18 : Int).toNat) ≤ (if z < 0 then -z else z)) := ⟨_, rfl⟩
      show (if decide (((10 : Int) ^ (18 : Int).toNat) ≤ (if z < 0 then -z else z)) = true then _ else _)
      rw [← hb]
      cases b with
      | true =>
        refine iteT ⟨_, rfl, _, rfl, p, _, rfl, .inl (SqL.of hpb), _, _, rfl, rfl, _, _, rfl, ?_⟩
        rw [iv_len]
        obtain ⟨n, hn⟩ : ∃ n : Int, n = (if (m : Int) - (ns.length : Int) < 60 then (m : Int) - (ns.length : Int) else 60) := ⟨_, rfl⟩
        have hn60 : n ≤ 60 ∧ -5000 ≤ n := by rw [hn]; split <;> omega
        rw [← hn]
        refine ⟨_, rfl, by omega, by omega, for_it walk_range (fun k σ H' => ∃ (rest : Int) (ns' : List Nat) (v6 : Option V), σ = [some (.ref a), some (.int (m : Int)), some (.ref p), some (.int total), some (.int z), some (.int rest), v6, v7, v8] ∧ Same H H' ∧ H' p = some (.lst (iv ns')) ∧ ns'.length ≤ 60 * i + k)
          ⟨_, ns, v6, rfl, sa, hpb, hle⟩ (fun _ _ _ _ _ => trivial) ?_ ?_⟩
        · rintro k x σ Hc Hd hk ⟨rest, ns', w6, rfl, sc, hpc, hlc⟩ ⟨rfl, hx⟩
          have hk60 : k < 60 := by omega
          obtain ⟨n1, en1, l1, s1, e1⟩ := hnew _ ns' rest sc hpc (by omega)
          refine ⟨_, rfl, .inl ⟨rfl, _, SqL.of hpc⟩, _, rfl, .inl ⟨_, rfl, _, _, rfl, rfl, by show (0 : Int) < 2520; decide, p, _, _, rfl, rfl, hpc, l1, ?_⟩⟩
          refine ⟨_, rfl, _, _, rfl, rfl, ⟨by decide, by decide⟩, ?_⟩
          refine ⟨_, rfl, rfl, _, rfl, ?_⟩
          obtain ⟨b2, hb2⟩ : ∃ b : Bool, b = decide (V.int (rest / 2520) = V.int 0) := ⟨_, rfl⟩
          show (if decide (V.int (rest / 2520) = V.int 0) = true then _ else _)
          rw [← hb2]
          have hl1 : (ns' ++ [n1]).length ≤ 60 * i + (k + 1) := by rw [List.length_append, List.length_singleton]; omega
          cases b2 with
          | true => exact iteT (key _ _ _ _ _ _ s1 e1 (by omega))
          | false => exact iteF ⟨_, ns' ++ [n1], _, rfl, s1, e1, hl1⟩
        · rintro σ Hc ⟨rest, ns', w6, rfl, sc, hpc, hlc⟩
          exact key _ _ _ _ _ _ sc hpc (by omega)
      | false =>
        refine iteF ⟨_, rfl, _, _, rfl, rfl, .inr ⟨by decide, by decide⟩, _, rfl, p, _, rfl, .inl (SqL.of hpb), _, _, rfl, rfl, .inr ⟨by decide, by decide⟩, _, _, rfl, rfl, _, _, rfl, rfl, .inl ⟨_, rfl, _, _, rfl, rfl, by show (0 : Int) < 2147483647; decide, ?_⟩⟩
        dsimp only [gName]
        generalize hf : ((z * 48271 + ((iv ns).length : Int) * 69621 + 11) % 2147483647) = fr
        have hfb : 0 ≤ fr ∧ fr < 2147483647 := by rw [← hf]; exact ⟨Int.emod_nonneg _ (by decide), Int.emod_lt_of_pos _ (by decide)⟩
        refine ⟨_, rfl, _, rfl, _, _, rfl, rfl, .inl ⟨by omega, by omega⟩, _, _, rfl, rfl, .inl ⟨_, rfl, _, _, rfl, rfl, by show (0 : Int) < 2147483629; decide, ?_⟩⟩
        dsimp only [gName]
        generalize hsc : ((fr * fr + 5) % 2147483629) = sc
        obtain ⟨n1, en1, l1, s1, e1⟩ := hnew _ ns (sc / 7) sa hpb (by omega)
        refine ⟨_, rfl, .inl ⟨rfl, _, SqL.of hpb⟩, _, rfl, _, _, rfl, rfl, ⟨by decide, by decide⟩, .inl ⟨_, rfl, _, _, rfl, rfl, by show (0 : Int) < 2520; decide, p, _, _, rfl, rfl, hpb, l1, ?_⟩⟩
        have hl1 : (ns ++ [n1]).length ≤ 60 * i + 1 := by rw [List.length_append, List.length_singleton]; omega
        have e1' : (upd Hb p (.lst (iv ns ++ [V.int (sc / 7 % 2520)]))) p = some (.lst (iv ns ++ [V.int (sc / 7 % 2520)])) := upd_same
        rw [e1] at e1'
        have ell : iv (ns ++ [n1]) = iv ns ++ [V.int (sc / 7 % 2520)] := by injection e1' with h; injection h
        obtain ⟨n2, en2, l2, s2, e2⟩ := hnew _ (ns ++ [n1]) ((sc * 16807 + fr) % 2147483587) s1 e1 (by omega)
        refine ⟨_, rfl, .inl ⟨rfl, _, SqL.of e1⟩, _, rfl, _, _, rfl, rfl, .inr ⟨by decide, by decide⟩, _, rfl, _, _, rfl, rfl, .inl ⟨_, rfl, _, _, rfl, rfl, by show (0 : Int) < 2147483587; decide, _, _, rfl, rfl, by show (0 : Int) < 2520; decide, p, _, _, rfl, rfl, e1, l2, ?_⟩⟩
        exact key _ _ _ _ _ _ s2 e2 (by rw [List.length_append, List.length_singleton]; omega)
    · rintro σ H1 ⟨total, ns, v4, v5, v6, v7, v8, rfl, sa, hpb, hle⟩
      rw [List.length_map] at hle
      have hle' : ns.length ≤ 3780 := by omega
      refine ⟨_, rfl, _, rfl, by omega, by omega, for_it walk_range (fun k σ H' => ∃ (total : Int) (ns' : List Nat) (v6 : Option V), σ = [some (.ref a), some (.int (m : Int)), some (.ref p), some (.int total), v4, v5, v6, v7, v8] ∧ Same H H' ∧ H' p = some (.lst (iv ns')) ∧ ns'.length ≤ 3780 + k)
        ⟨total, ns, v6, rfl, sa, hpb, hle'⟩ (fun _ _ _ _ _ => trivial) ?_ ?_⟩
      · rintro k x σ Hc Hd hk ⟨tot, ns', w6, rfl, sc, hpc, hlc⟩ ⟨rfl, hx⟩
        obtain rfl : x = V.int (k : Int) := hx.trans (congrArg V.int (Int.zero_add _))
        have hkm : k < m := by simpa using hk
        refine ⟨_, rfl, _, _, rfl, rfl, .inr ⟨by decide, by decide⟩, _, rfl, _, _, rfl, rfl, .inr ⟨by decide, by decide⟩, _, _, rfl, rfl, _, _, rfl, rfl, .inl ⟨_, rfl, _, _, rfl, rfl, by show (0 : Int) < 2147483647; decide, ?_⟩⟩
        dsimp only [gName]
        generalize hf : ((tot * 48271 + (k : Int) * 69621 + 17) % 2147483647) = t2
        obtain ⟨n1, en1, l1, s1, e1⟩ := hnew _ ns' (t2 / 5) sc hpc (by omega)
        exact ⟨_, rfl, .inl ⟨rfl, _, SqL.of hpc⟩, _, rfl, _, _, rfl, rfl, ⟨by decide, by decide⟩, .inl ⟨_, rfl, _, _, rfl, rfl, by show (0 : Int) < 2520; decide, p, _, _, rfl, rfl, hpc, l1, _, ns' ++ [n1], _, rfl, s1, e1, by rw [List.length_append, List.length_singleton]; omega⟩⟩
      · rintro σ H2 ⟨tot, ns', w6, rfl, sc, hpc, hlc⟩
        refine ⟨_, rfl, _, rfl, _, rfl, p, _, rfl, SqL.of hpc, fun p2 hp2 => ?_⟩
        rw [cut_to]
        refine ⟨_, rfl, .inl ⟨rfl, _, SqL.of upd_same⟩, p2, _, rfl, rfl, upd_same, _, rfl, ?_⟩
        refine q _ p2 (Same.put (Same.new sc hp2) (sc.free hp2)) (sc.free hp2) ⟨(ns'.take m).reverse, ?_, ?_⟩
        · rw [upd_same, iv, iv, List.map_reverse]
        · rw [List.length_reverse, List.length_take]; omega
theorem ok_drawB {f : Addr} {fd : FuncData} (F : C8.Fun K "_law_draw" "_law_draw" s__law_draw f fd) (T : Txt K mg) : FnOk P w K mg base C8.CX0 1 f fd ["pool", "many"] sp_drawB := by
  refine C8.fn0 F sc__law_draw (fun vs H Q E h => ?_) (fun cdv A outer s H vs Q E hr h => ?_)
  · obtain ⟨p, m, rfl, _⟩ := h; rfl
  · obtain ⟨p, m, rfl, hP, hm, q⟩ := h
    obtain ⟨ns, hp, hl⟩ := id hP
    refine ⟨_, (pss_cons (ps_if (pt_cmpR op_eq (pe_callB call_len_seq (by rfl) T.b_len PySem.boot_len (pa_cons (pv 0) pa_nil)) pe_int (nomark _)) (pss_one (ps_ret pe_int)) pss_nil)
      (pss_one (ps_ret (pe_op op_mod (pe_callTy call_int1 (by rfl) T.b_int (by decide +kernel) (pa_cons (pe_bm0 PySem.F.plainAttrs_list PySem.F.slot_list_pop PySem.F.type_list_pop mt_pop (pv 0)) pa_nil)) (pv 1))))), ?_⟩
    refine ⟨_, rfl, p, _, rfl, .inl (SqL.of hp), rfl, _, rfl, ?_⟩
    rw [iv_len]
    cases hns : ns.getLast? with
    | none =>
      have e : ns = [] := List.getLast?_eq_none_iff.mp hns
      subst e
      exact iteT (q H 0 (PSame.refl hP) (by omega))
    | some n =>
      obtain ⟨ms, rfl⟩ := List.getLast?_eq_some_iff.mp hns
      rw [show decide (V.int ((ms ++ [n]).length : Int) = V.int 0) = false from decide_eq_false (by intro z; injection z with z; rw [List.length_append, List.length_singleton] at z; omega)]
      have hiv : iv (ms ++ [n]) = iv ms ++ [V.int (n : Int)] := (iv_snoc ms n).symm
      refine iteF ⟨_, rfl, .inl ⟨rfl, _, SqL.of hp⟩, p, iv (ms ++ [n]), V.int (n : Int), rfl, rfl, hp, by rw [hiv]; simp, .inl ⟨_, rfl, _, rfl, _, _, rfl, rfl, hm, ?_⟩⟩
      obtain ⟨r, hr1, hr2⟩ := emod_nat (n : Int) m hm
      dsimp only [gName]
      rw [hr1, hiv, List.dropLast_concat]
      rw [List.length_append] at hl
      exact q _ r ⟨fun b o hb e => (upd_ne hb).trans e, hP, ms, upd_same, by omega⟩ hr2
end
end RJ
end

section
set_option maxRecDepth 100000
set_option maxHeartbeats 8000000
namespace RJ
open PySem PySem.Spec PyProof.Rows L2
abbrev s__law_staged : Stmt := top 33
abbrev N__law_staged : List Str := ["pairs", "letters", "row", "many", "rank", "out", "piece"]
theorem sc__law_staged : FnScope N__law_staged ["pairs", "letters", "row", "many"] (C8.fnScope s__law_staged) := C8.fnScope_by (by decide +kernel)
abbrev s__law_cut : Stmt := top 34
abbrev N__law_cut : List Str := ["pairs", "alphabet", "text", "sign"]
theorem sc__law_cut : FnScope N__law_cut ["pairs", "alphabet", "text"] (C8.fnScope s__law_cut) := C8.fnScope_by (by decide +kernel)
/-- ascending signs -/
theorem asc_of : ∀ {l : List Nat}, l.Pairwise (· < ·) → (ascL l).all id = true
  | [], _ => rfl
  | [_], _ => rfl
  | a :: b :: t, h => by
    have h1 := (List.pairwise_cons.mp h).1 b (List.mem_cons_self ..)
    have h2 := asc_of (List.pairwise_cons.mp h).2
    show (decide (a < b) && (ascL (b :: t)).all id) = true
    rw [decide_eq_true h1, h2]; rfl
theorem SG_asc : SG.Pairwise (· < ·) := by decide +kernel
/-- a dict of numbers, each with True -/
def dkeys (ks : List Nat) : List (Key × V) := ks.map fun (n : Nat) => ((Sum.inl (n : Int), .bl true) : Key × V)
theorem dkeys_val (n : Nat) : ∀ ks : List Nat, valV (dkeys ks) (.inl (n : Int)) = if n ∈ ks then some (.bl true) else none
  | [] => by rw [if_neg List.not_mem_nil]; exact valV_nil
  | k :: ks => by
    show valV (((Sum.inl (k : Int), .bl true) : Key × V) :: dkeys ks) _ = _
    by_cases h : k = n
    · subst h
      rw [valV_pos (p := ((Sum.inl (k : Int), .bl true) : Key × V)) rfl, if_pos (List.mem_cons_self ..)]
    · rw [valV_neg (p := ((Sum.inl (k : Int), .bl true) : Key × V)) (fun z => h (by have := Sum.inl.inj z; omega)), dkeys_val n ks]
      by_cases m : n ∈ ks
      · rw [if_pos m, if_pos (List.mem_cons_of_mem _ m)]
      · rw [if_neg m, if_neg fun z => by
          rcases List.mem_cons.mp z with e | e
          · exact h e.symm
          · exact m e]
theorem dkeys_put (n : Nat) (ks : List Nat) : putK (dkeys ks) (.inl (n : Int)) (.bl true) = if n ∈ ks then dkeys ks else dkeys (ks ++ [n]) := by
  by_cases m : n ∈ ks
  · rw [if_pos m]
    unfold putK
    rw [valV_any, dkeys_val, if_pos m]
    rw [if_pos (show (some (V.bl true)).isSome = true from rfl)]
    unfold dkeys
    rw [List.map_map]
    refine List.map_congr_left fun k _ => ?_
    show (if (Sum.inl (k : Int) : Key) = .inl (n : Int) then ((.inl (k : Int), .bl true) : Key × V) else (.inl (k : Int), .bl true)) = _
    split <;> rfl
  · rw [if_neg m, putK_new _ (by rw [dkeys_val, if_neg m])]
    unfold dkeys
    rw [List.map_append]; rfl
theorem dkeys_keys (ks : List Nat) : (dkeys ks).map (·.1) = (ks.map fun n : Nat => (n : Int)).map Sum.inl := by
  unfold dkeys
  rw [List.map_map, List.map_map]; rfl
theorem dkeys_len (ks : List Nat) : (dkeys ks).length = ks.length := by unfold dkeys; rw [List.length_map]
theorem perm_nat {ys : List Int} {ks : List Nat} (h : ys.Perm (ks.map fun n : Nat => (n : Int))) : ∃ l : List Nat, ys = l.map (fun n : Nat => (n : Int)) ∧ l.Perm ks := by
  refine ⟨ys.map Int.toNat, ?_, ?_⟩
  · rw [List.map_map]
    have key : ∀ y ∈ ys, ((fun n : Nat => (n : Int)) ∘ Int.toNat) y = y := fun y hy => by
      obtain ⟨n, _, rfl⟩ := List.mem_map.mp (h.mem_iff.mp hy)
      rfl
    rw [List.map_congr_left key, List.map_id']
  · have := h.map Int.toNat
    rw [List.map_map] at this
    have e : (ks.map (Int.toNat ∘ fun n : Nat => (n : Int))) = ks := by
      have : ∀ k ∈ ks, (Int.toNat ∘ fun n : Nat => (n : Int)) k = k := fun k _ => rfl
      rw [List.map_congr_left this, List.map_id']
    rw [e] at this
    exact this
theorem pair_lt {l : List Nat} (h : (l.map fun n : Nat => (n : Int)).Pairwise (· ≤ ·)) (hn : l.Nodup) : l.Pairwise (· < ·) := by
  induction l with
  | nil => exact .nil
  | cons a l ih =>
    rw [List.map_cons, List.pairwise_cons] at h
    rw [List.nodup_cons] at hn
    refine List.pairwise_cons.mpr ⟨fun b hb => ?_, ih h.2 hn.2⟩
    have h1 := h.1 (b : Int) (List.mem_map.mpr ⟨b, hb, rfl⟩)
    have h2 : a ≠ b := fun e => hn.1 (e ▸ hb)
    omega
theorem sg_map {l : List Nat} (h : l.Pairwise (· < ·)) (hb : ∀ n ∈ l, n < 94) : (l.map fun n => SG.getD n 0).Pairwise (· < ·) := by
  induction l with
  | nil => exact .nil
  | cons a l ih =>
    rw [List.pairwise_cons] at h
    rw [List.map_cons, List.pairwise_cons]
    refine ⟨fun c hc => ?_, ih h.2 fun n hn => hb n (List.mem_cons_of_mem _ hn)⟩
    obtain ⟨n, hn, rfl⟩ := List.mem_map.mp hc
    have h1 := h.1 n hn
    have h2 := hb n (List.mem_cons_of_mem _ hn)
    have h3 : a < SG.length := by rw [SG_len]; omega
    have h4 : n < SG.length := by rw [SG_len]; exact h2
    have := List.pairwise_iff_getElem.mp SG_asc a n h3 h4 h1
    rw [List.getD_eq_getElem?_getD, List.getD_eq_getElem?_getD, List.getElem?_eq_getElem h3, List.getElem?_eq_getElem h4]
    exact this
theorem pick12 (r : Nat) (hr : r < 12) : ∃ m : Nat, 1 ≤ m ∧ m ≤ 36 ∧ atI [V.int 1, V.int 2, V.int 2, V.int 3, V.int 3, V.int 4, V.int 5, V.int 9, V.int 2, V.int 3, V.int 4, V.int 36] (r : Int) = some (V.int (m : Int)) := by
  rcases r with _ | _ | _ | _ | _ | _ | _ | _ | _ | _ | _ | _ | r
  · exact ⟨1, by omega, by omega, rfl⟩
  · exact ⟨2, by omega, by omega, rfl⟩
  · exact ⟨2, by omega, by omega, rfl⟩
  · exact ⟨3, by omega, by omega, rfl⟩
  · exact ⟨3, by omega, by omega, rfl⟩
  · exact ⟨4, by omega, by omega, rfl⟩
  · exact ⟨5, by omega, by omega, rfl⟩
  · exact ⟨9, by omega, by omega, rfl⟩
  · exact ⟨2, by omega, by omega, rfl⟩
  · exact ⟨3, by omega, by omega, rfl⟩
  · exact ⟨4, by omega, by omega, rfl⟩
  · exact ⟨36, by omega, by omega, rfl⟩
  · omega
theorem smallB {n : Nat} (h : n ≤ 100000) : n < sizeLine := Nat.lt_of_le_of_lt h (by decide)
def sp_stagedB : Sp := fun vs H Q _ => ∃ (pp z : Addr) (us : List V) (ps : List (Nat × Nat)) (row : List Nat) (b m : Nat), vs = [.ref pp, .int (b : Int), .ref z, .int (m : Int)] ∧ H pp = some (.lst us) ∧ PairsAt H us ps ∧ WF b ps ∧ H z = some (.lst (iv row)) ∧ row.length ≤ 10000 ∧ m ≤ ps.length ∧ ps.length ≤ 1000 ∧ b ≤ 1000 ∧
  ∀ H' z', Same H H' → (z' = z ∨ H z' = none) → H' z' = some (.lst (iv (cutL b (ps.take m) row))) → Q (.ref z') H'
def sp_cutB : Sp := fun vs H Q _ => ∃ (pp : Addr) (us : List V) (ps : List (Nat × Nat)) (al t : List Nat), vs = [.ref pp, .str (S al), .str (S t)] ∧ H pp = some (.lst us) ∧ PairsAt H us ps ∧ WF al.length ps ∧ ps.length ≤ 1000 ∧ al.length ≤ 1000 ∧ (∀ c ∈ t, c ∈ al) ∧ t.length ≤ 10000 ∧
  ∀ H' z, Same H H' → H z = none → H' z = some (.lst (iv (cutL al.length ps (lets al t)))) → Q (.ref z) H'
section
variable {P : Program} {w : World} {K : PySem.W.Frag} {mg : Str → Option Value} {base : Heap}
theorem ok_alphabetB {f : Addr} {fd : FuncData} (F : C8.Fun K "_law_alphabet" "_law_alphabet" s__law_alphabet f fd) (T : Txt K mg) (c__law_draw : C8.Cal P w K mg base 1 "_law_draw" sp_drawB []) : FnOk P w K mg base C8.CX0 2 f fd ["pool"] sp_alphabetB := by
  refine C8.fn0 F sc__law_alphabet (fun vs H Q E h => ?_) (fun cdv A outer s H vs Q E hr h => ?_)
  · obtain ⟨p, rfl, _⟩ := h; rfl
  · obtain ⟨p, rfl, hP, q⟩ := h
    have hu := hu_of hr
    refine ⟨_, (pss_cons (ps_set (i := 1) sc__law_alphabet.nd rfl (Or.inr rfl) pe_str)
      (pss_cons (ps_set (i := 1) sc__law_alphabet.nd rfl (Or.inr rfl) (pe_op op_add_str (pv 1) pe_str))
      (pss_cons (ps_set (i := 2) sc__law_alphabet.nd rfl (Or.inl rfl) pe_dnewK)
      (pss_cons (ps_for PassesOwn.never rfl (pi_range1 rfl T.b_range (pa_cons (pe_ix ix_list (pe_lst (pa_cons pe_int (pa_cons pe_int (pa_cons pe_int (pa_cons pe_int (pa_cons pe_int (pa_cons pe_int (pa_cons pe_int (pa_cons pe_int (pa_cons pe_int (pa_cons pe_int (pa_cons pe_int (pa_cons pe_int pa_nil))))))))))))) (C8.pe_c c__law_draw hr (by first | decide | omega) (by rfl) (pa_cons (pv 0) (pa_cons pe_int pa_nil))) (fun _ _ => rfl)) pa_nil)) (pg_name (i := 3) sc__law_alphabet.nd rfl (Or.inl rfl)) (pss_one (ps_dput hu (pv 2) (C8.pe_c c__law_draw hr (by first | decide | omega) (by rfl) (pa_cons (pv 0) (pa_cons pe_int pa_nil))) pe_bl rfl)))
      (pss_one (ps_ret (pe_join pe_str (pe_lc (own := [("k", 3)]) (g := gName 3) (tt := tYes) rfl sc__law_alphabet.nd (pi_list (pe_slice sl_list (pe_callB (call_sortedDI rfl) (by rfl) T.b_sorted (by decide +kernel) (pa_cons (pv 2) pa_nil)) po_none (po_some pe_int))) (blkOk_by (N := N__law_alphabet) (sc := C8.fnScope s__law_alphabet) (by decide +kernel)) (fun _ _ _ _ _ => (pg_name (i := 3) sc__law_alphabet.nd rfl (Or.inl rfl))) (fun _ _ _ _ _ => pts_nil) (fun _ _ _ _ _ => (pe_ix ix_str (pv 1) (pv 3) (fun _ _ => rfl))))))))))), ?_⟩
    refine ⟨_, rfl, _, _, rfl, rfl, by decide +kernel, ?_⟩
    refine fun d hd => ?_
    have s0 : PSame p H (upd H d (.dK [])) := (PSame.refl hP).new hd
    have hdp : d ≠ p := hP.free hd
    refine ⟨by show 12 ≤ sizeLine; decide, fun L hL => ?_⟩
    have s1 := s0.new (o := .lst [V.int 1, V.int 2, V.int 2, V.int 3, V.int 3, V.int 4, V.int 5, V.int 9, V.int 2, V.int 3, V.int 4, V.int 36]) hL
    have hLp : L ≠ p := s0.at1.free hL
    have hLv : (upd (upd H d (.dK [])) L (.lst [V.int 1, V.int 2, V.int 2, V.int 3, V.int 3, V.int 4, V.int 5, V.int 9, V.int 2, V.int 3, V.int 4, V.int 36])) L = some (.lst [V.int 1, V.int 2, V.int 2, V.int 3, V.int 3, V.int 4, V.int 5, V.int 9, V.int 2, V.int 3, V.int 4, V.int 36]) := upd_same
    have hdL : (upd (upd H d (.dK [])) L (.lst [V.int 1, V.int 2, V.int 2, V.int 3, V.int 3, V.int 4, V.int 5, V.int 9, V.int 2, V.int 3, V.int 4, V.int 36])) d = some (.dK []) := (upd_ne (ne_of_none upd_same hL)).trans upd_same
    refine ⟨_, rfl, p, 12, rfl, s1.at1, by decide, fun H1 r1 s2 hr1 => ?_⟩
    obtain ⟨m, hm1, hm36, hsel⟩ := pick12 r1 (by omega)
    have sA := s1.trans s2
    have e1 : H1 d = some (.dK (dkeys [])) := s2.x d _ hdp hdL
    refine ⟨L, _, _, _, rfl, rfl, SqL.of (s2.lst hLp hLv), hsel, _, rfl, by omega, by omega, for_it walk_range (fun i σ H' => ∃ (ks : List Nat) (v3 : Option V), σ = [some (.ref p), some (.str (S SG)), some (.ref d), v3] ∧ PSame p H H' ∧ H' d = some (.dK (dkeys ks)) ∧ ks.Nodup ∧ (∀ k ∈ ks, k < 94) ∧ ks.length ≤ i ∧ (0 < i → 0 < ks.length))
      ⟨[], none, ?_, sA, e1, .nil, fun k hk => (List.not_mem_nil hk).elim, Nat.le_refl _, fun h => h⟩ (fun _ _ _ _ _ => trivial) ?_ ?_⟩
    · exact congrArg (fun z : Str => [some (V.ref p), some (.str z), some (.ref d), none]) (by decide +kernel : _ = S SG)
    · rintro i x σ Ha Hb hi ⟨ks, v3, rfl, sa, hd', hnd, hin, hle, hpos⟩ ⟨rfl, hx⟩
      have him : i < m := by simpa using hi
      refine ⟨_, rfl, _, rfl, p, 94, rfl, sa.at1, by decide, fun H2 n s3 hn => ?_⟩
      have hn94 : n < 94 := by omega
      have hd3 : H2 d = some (.dK (dkeys ks)) := s3.x d _ hdp hd'
      refine ⟨d, _, rfl, DPut.k (k := .inl (n : Int)) hd3 (by rw [dkeys_len]; exact small1000 (by omega)), ?_⟩
      rw [dkeys_put]
      have sc : PSame p H (upd H2 d (.dK (if n ∈ ks then dkeys ks else dkeys (ks ++ [n])))) := (sa.trans s3).put hd
      by_cases hm : n ∈ ks
      · rw [if_pos hm] at sc ⊢
        exact ⟨ks, _, rfl, sc, upd_same, hnd, hin, by omega, fun _ => List.length_pos_of_mem hm⟩
      · rw [if_neg hm] at sc ⊢
        refine ⟨ks ++ [n], _, rfl, sc, upd_same, ?_, ?_, ?_, fun _ => ?_⟩
        · exact List.nodup_append.mpr ⟨hnd, by simp, fun x hx y hy z => hm (by rw [List.mem_singleton.mp hy] at z; exact z ▸ hx)⟩
        · intro k hk
          rcases List.mem_append.mp hk with z | z
          · exact hin k z
          · rw [List.mem_singleton.mp z]; exact hn94
        · rw [List.length_append, List.length_singleton]; omega
        · rw [List.length_append, List.length_singleton]; omega
    · rintro σ H2 ⟨ks, v3, rfl, sa, hd', hnd, hin, hle, hpos⟩
      have hle' : ks.length ≤ m := by simpa using hle
      have hpos' : 0 < ks.length := hpos (Nat.lt_of_lt_of_le Nat.zero_lt_one hm1)
      refine ⟨⟨_, rfl⟩, _, rfl, d, dkeys ks, ks.map fun n : Nat => (n : Int), rfl, .inl hd', dkeys_keys ks, by rw [List.length_map]; omega, fun ys q0 hperm hsort hq0 => ?_⟩
      obtain ⟨l0, rfl, hl0⟩ := perm_nat hperm
      have hasc0 := pair_lt hsort (hl0.nodup_iff.mpr hnd)
      have el : ((l0.map fun n : Nat => (n : Int)).map V.int) = iv l0 := by rw [List.map_map]; rfl
      rw [el]
      have sp0 : PSame p H (upd H2 q0 (.lst (iv l0))) := sa.new hq0
      refine ⟨_, rfl, q0, _, rfl, SqL.of upd_same, fun q1 hq1 => ?_⟩
      rw [show (some (30 : Int)) = some ((30 : Nat) : Int) from rfl, cut_to]
      have sp : PSame p H (upd (upd H2 q0 (.lst (iv l0))) q1 (.lst (iv (l0.take 30)))) := sp0.new hq1
      obtain ⟨l, hl⟩ : ∃ l, l = l0.take 30 := ⟨_, rfl⟩
      rw [← hl] at sp ⊢
      have hasc : l.Pairwise (· < ·) := by rw [hl]; exact hasc0.sublist (List.take_sublist 30 l0)
      have hin' : ∀ n ∈ l, n < 94 := fun n hn => hin n (hl0.mem_iff.mp (by rw [hl] at hn; exact List.mem_of_mem_take hn))
      have hlen : 1 ≤ l.length ∧ l.length ≤ 30 := by have := hl0.length_eq; rw [hl, List.length_take]; omega
      refine ⟨q1, rfl, ⟨_, SqL.of upd_same⟩, fun D hD => lc_it walk_list (fun i H' => PSame p H H' ∧ H' q1 = some (.lst (iv l)) ∧ H' D = some (.lst ((sv ((l.map fun n => SG.getD n 0).take i)).map V.str))) ⟨sp.new hD, (upd_ne (ne_of_none upd_same hD)).trans upd_same, upd_same⟩ (fun i H' _ ⟨_, h, _⟩ => SqL.of h) ?_ ?_⟩
      · rintro i x Ha Hb hi ⟨sb, hpb, hDb⟩ ⟨rfl, hx⟩
        obtain ⟨n, hn, rfl⟩ := iv_get hx
        have hn94 := hin' n (List.mem_of_getElem? hn)
        have hc : SG[n]? = some (SG.getD n 0) := by rw [List.getD_eq_getElem?_getD, List.getElem?_eq_getElem (by rw [SG_len]; exact hn94)]; rfl
        refine ⟨rfl, _, rfl, _, rfl, S SG, _, SG.getD n 0, rfl, rfl, by decide +kernel, atI_nat hc, ?_⟩
        have hg : (l.map fun n => SG.getD n 0)[i]? = some (SG.getD n 0) := by rw [List.getElem?_map, hn]; rfl
        have hDq : D ≠ q1 := fun e => by rw [e, upd_same] at hD; cases hD
        refine ⟨_, hDb, ?_, ?_, (upd_ne (Ne.symm hDq)).trans hpb, ?_⟩
        · unfold sv; rw [List.length_map, List.length_map, List.length_take, List.length_map]; exact small1000 (by omega)
        · exact sb.put (sp.none hD)
        · rw [upd_same, take_succ_of hg]; unfold sv; rw [List.map_append, List.map_append]; rfl
      · rintro H3 ⟨sb, _, hDb⟩
        rw [iv_len, List.take_of_length_le (by rw [List.length_map]; exact Nat.le_refl _)] at hDb
        have hlm : (l.map fun n => SG.getD n 0).length = l.length := List.length_map _
        refine ⟨_, D, sv (l.map fun n => SG.getD n 0), rfl, rfl, .inl (SqL.of hDb), ?_, ?_⟩
        · rw [sum1, hlm]
          have : (sv (l.map fun n => SG.getD n 0)).length = l.length := by unfold sv; rw [List.length_map, hlm]
          show l.length + (sv (l.map fun n => SG.getD n 0)).length * 0 ≤ 16777216
          omega
        · have hp := sg_map hasc hin'
          have hsg : ∀ c ∈ l.map fun n => SG.getD n 0, c ∈ SG := fun c hc => by
            obtain ⟨n, hn, rfl⟩ := List.mem_map.mp hc
            rw [List.getD_eq_getElem?_getD, List.getElem?_eq_getElem (by rw [SG_len]; exact hin' n hn)]
            exact List.getElem_mem _
          have key := q H3 (l.map fun n => SG.getD n 0) sb (alOk_of (asc_of hp) hsg (by omega) (by omega)) (hp.imp fun h => Nat.ne_of_lt h) (by omega) (by omega) hsg
          rw [← join1 (l.map fun n => SG.getD n 0)] at key
          exact key
theorem ok_stagedB {f : Addr} {fd : FuncData} (F : C8.Fun K "_law_staged" "_law_staged" s__law_staged f fd) (T : Txt K mg) : FnOk P w K mg base C8.CX0 1 f fd ["pairs", "letters", "row", "many"] sp_stagedB := by
  refine C8.fn0 F sc__law_staged (fun vs H Q E h => ?_) (fun cdv A outer s H vs Q E hr h => ?_)
  · obtain ⟨pp, z, us, ps, row, b, m, rfl, _⟩ := h; rfl
  · obtain ⟨pp, z, us, ps, row, b, m, rfl, hpp, hps, hw, hz, hrl, hm, hpl, hb, q⟩ := h
    refine ⟨_, (pss_cons (ps_for PassesOwn.never rfl (pi_range1 rfl T.b_range (pa_cons (pv 3) pa_nil)) (pg_name (i := 4) sc__law_staged.nd rfl (Or.inl rfl)) (pss_cons (ps_set (i := 5) sc__law_staged.nd rfl (Or.inl rfl) (pe_lst pa_nil))
      (pss_cons (ps_for PassesOwn.never rfl (pi_list (pe_callTy call_list_of (by rfl) T.b_list (by decide +kernel) (pa_cons (pv 2) pa_nil))) (pg_name (i := 6) sc__law_staged.nd rfl (Or.inl rfl)) (pss_one (ps_if (PW.pt (pw_and (pt_cmpR op_gt (pe_callB call_len_seq (by rfl) T.b_len PySem.boot_len (pa_cons (pv 5) pa_nil)) pe_int (nomark _)) (pw_and (pt_cmpR op_eq (pv 6) (pe_ix ix_tup (pe_ix ix_list (pv 0) (pv 4) (fun _ _ => rfl)) pe_int (fun _ _ => rfl)) (nomark _)) (pw_and1 (pt_cmpR op_eq (pe_ix ix_list (pv 5) (pe_un un_neg pe_int) (fun _ _ => rfl)) (pe_ix ix_tup (pe_ix ix_list (pv 0) (pv 4) (fun _ _ => rfl)) pe_int (fun _ _ => rfl)) (nomark _)))))) (pss_one (ps_asg (pe_op op_add (pv 1) (pv 4)) (pg_sub (pv 5) (pe_un un_neg pe_int) set_list))) (pss_one (ps_expr (pe_bm PySem.F.plainAttrs_list PySem.F.slot_list_append PySem.F.type_list_append mt_append (pv 5) (pa_cons (pv 6) pa_nil)))))))
      (pss_one (ps_set (i := 2) sc__law_staged.nd rfl (Or.inl rfl) (pv 5))))))
      (pss_one (ps_ret (pv 2)))), ?_⟩
    refine ⟨_, rfl, _, rfl, by omega, by omega, for_it walk_range (fun i σ H' => ∃ (z' : Addr) (v4 v5 v6 : Option V), σ = [some (.ref pp), some (.int (b : Int)), some (.ref z'), some (.int (m : Int)), v4, v5, v6] ∧ Same H H' ∧ (z' = z ∨ H z' = none) ∧ H' z' = some (.lst (iv (cutL b (ps.take i) row))))
      ⟨z, none, none, none, rfl, Same.refl H, .inl rfl, by rw [List.take_zero]; exact hz⟩ (fun _ _ _ _ _ => trivial) ?_ ?_⟩
    · rintro i x σ Ha Hb hi ⟨z', v4, v5, v6, rfl, sa, hz', hzv⟩ ⟨rfl, hx⟩
      obtain rfl : x = V.int (i : Int) := hx.trans (congrArg V.int (Int.zero_add _))
      have him : i < ps.length := by have : i < m := by simpa using hi
                                     omega
      obtain ⟨u, pr, hu, hpr, g, rfl, hg⟩ := Paired.both hps him
      have hmne : b + i ≠ pr.1 := by have := (hw i pr hpr).1; omega
      have hcl := cutL_len b (ps.take i) row
      obtain ⟨R, hR⟩ : ∃ R, R = cutL b (ps.take i) row := ⟨_, rfl⟩
      rw [← hR] at hzv hcl
      refine ⟨Nat.zero_le _, fun J hJ => ?_⟩
      have sJ := same_new (o := .lst []) hJ
      refine ⟨_, rfl, z', _, rfl, .inl (SqL.of (sJ _ _ hzv)), fun zc hzc => ?_⟩
      have sC := Same.new (o := .lst (iv R)) sJ hzc
      have hJne : J ≠ zc := ne_of_none upd_same hzc
      refine ⟨zc, rfl, ⟨_, SqL.of upd_same⟩, for_it walk_list (fun k σ H' => ∃ v6 : Option V, σ = [some (.ref pp), some (.int (b : Int)), some (.ref z'), some (.int (m : Int)), some (.int (i : Int)), some (.ref J), v6] ∧ Same Hb H' ∧ H' zc = some (.lst (iv R)) ∧ H' J = some (.lst (iv ((R.take k).foldl (stepJ pr.1 pr.2 (b + i)) []))))
        ⟨v6, rfl, sC, upd_same, (upd_ne hJne).trans upd_same⟩ (fun _ _ _ _ ⟨_, _, _, h, _⟩ => SqL.of h) ?_ ?_⟩
      · rintro k x σ Hc Hd hk ⟨w6, rfl, s1, hzc', hd⟩ ⟨rfl, hx⟩
        obtain ⟨n, hn, rfl⟩ := iv_get hx
        have hfold := foldl_take_succ (f := stepJ pr.1 pr.2 (b + i)) hn []
        have hlen : ((R.take k).foldl (stepJ pr.1 pr.2 (b + i)) []).length < sizeLine := smallB (by
          have h1 := foldJ_len pr.1 pr.2 (b + i) (R.take k) []
          rw [List.length_take] at h1
          simp only [List.length_nil] at h1; omega)
        generalize hacc : (R.take k).foldl (stepJ pr.1 pr.2 (b + i)) [] = acc at hd hfold hlen
        have hppd := s1 _ _ (sa _ _ hpp)
        have hgd := s1 _ _ (sa _ _ hg)
        have fin : ∀ (acc' : List Nat), acc' = stepJ pr.1 pr.2 (b + i) acc n → ∃ v6 : Option V, [some (V.ref pp), some (.int (b : Int)), some (.ref z'), some (.int (m : Int)), some (.int (i : Int)), some (.ref J), some (.int (n : Int))] = [some (V.ref pp), some (.int (b : Int)), some (.ref z'), some (.int (m : Int)), some (.int (i : Int)), some (.ref J), v6] ∧ Same Hb (upd Hd J (.lst (iv acc'))) ∧ (upd Hd J (.lst (iv acc'))) zc = some (.lst (iv R)) ∧ (upd Hd J (.lst (iv acc'))) J = some (.lst (iv ((R.take (k + 1)).foldl (stepJ pr.1 pr.2 (b + i)) []))) := fun acc' e =>
          ⟨_, rfl, Same.put s1 hJ, (upd_ne (Ne.symm hJne)).trans hzc', by rw [upd_same, hfold, e]⟩
        refine ⟨_, rfl, J, _, rfl, .inl (SqL.of hd), _, _, rfl, rfl, _, rfl, ?_⟩
        rw [iv_len]
        cases hq : acc.getLast? with
        | none =>
          have e : acc = [] := List.getLast?_eq_none_iff.mp hq
          have hc : ¬ (acc.getLast? = some pr.1 ∧ n = pr.2) := by rw [hq]; rintro ⟨q, _⟩; cases q
          rw [decide_eq_false (by rw [e]; show ¬ (0 : Int) < ((0 : Nat) : Int); decide)]
          refine iteF (iteF ⟨_, rfl, .inl ⟨rfl, _, SqL.of hd⟩, _, rfl, J, _, _, rfl, rfl, hd, by rw [iv_len]; exact hlen, ?_⟩)
          rw [iv_snoc]
          exact fin _ (by rw [stepJ, if_neg hc])
        | some y =>
          have hne : acc ≠ [] := by intro e; rw [e] at hq; cases hq
          have hpos : 0 < acc.length := List.length_pos_iff.mpr hne
          rw [decide_eq_true (by omega : (0 : Int) < (acc.length : Int))]
          refine iteT ⟨_, rfl, _, rfl, _, rfl, pp, us, _, _, rfl, rfl, SqL.of hppd, atI_nat hu, g, _, _, _, rfl, rfl, SqT.of hgd, rfl, rfl, _, rfl, ?_⟩
          rw [nat_eq_int]
          by_cases c2 : n = pr.2
          · rw [decide_eq_true c2]
            refine iteT ⟨_, rfl, _, rfl, J, iv acc, _, _, rfl, rfl, SqL.of hd, atI_neg1 (iv_last hq), _, rfl, _, rfl, pp, us, _, _, rfl, rfl, SqL.of hppd, atI_nat hu, g, _, _, _, rfl, rfl, SqT.of hgd, rfl, rfl, _, rfl, ?_⟩
            rw [nat_eq_int]
            by_cases c1 : y = pr.1
            · rw [decide_eq_true c1]
              refine iteT ⟨_, rfl, _, rfl, _, _, rfl, rfl, _, rfl, _, rfl, J, iv acc, _, acc.length - 1, rfl, rfl, hd, by rw [iv_len]; exact ixN_neg1 hpos, ?_⟩
              have := iv_set_last (b + i) hne
              rw [show ((b + i : Nat) : Int) = (b : Int) + (i : Int) from rfl] at this
              rw [this]
              exact fin _ (by rw [stepJ, if_pos ⟨by rw [hq, c1], c2⟩])
            · rw [decide_eq_false c1]
              have hc : ¬ (acc.getLast? = some pr.1 ∧ n = pr.2) := by rw [hq]; rintro ⟨q, _⟩; exact c1 (Option.some.inj q)
              refine iteF ⟨_, rfl, .inl ⟨rfl, _, SqL.of hd⟩, _, rfl, J, _, _, rfl, rfl, hd, by rw [iv_len]; exact hlen, ?_⟩
              rw [iv_snoc]
              exact fin _ (by rw [stepJ, if_neg hc])
          · rw [decide_eq_false c2]
            have hc : ¬ (acc.getLast? = some pr.1 ∧ n = pr.2) := fun q => c2 q.2
            refine iteF (iteF ⟨_, rfl, .inl ⟨rfl, _, SqL.of hd⟩, _, rfl, J, _, _, rfl, rfl, hd, by rw [iv_len]; exact hlen, ?_⟩)
            rw [iv_snoc]
            exact fin _ (by rw [stepJ, if_neg hc])
      · rintro σ H1 ⟨w6, rfl, s1, _, hd⟩
        rw [iv_len, List.take_length, stepJ_all hmne, hR] at hd
        refine ⟨_, rfl, J, _, _, _, rfl, sa.trans s1, .inr (sa.free hJ), ?_⟩
        rw [hd, take_succ_of hpr, cutL_snoc, take_len_of hpr]
    · rintro σ H1 ⟨z', v4, v5, v6, rfl, sa, hz', hzv⟩
      refine ⟨_, rfl, q H1 z' sa hz' ?_⟩
      rw [hzv]; simp
theorem ok_cutB {f : Addr} {fd : FuncData} (F : C8.Fun K "_law_cut" "_law_cut" s__law_cut f fd) (T : Txt K mg) (c__law_staged : C8.Cal P w K mg base 1 "_law_staged" sp_stagedB []) : FnOk P w K mg base C8.CX0 2 f fd ["pairs", "alphabet", "text"] sp_cutB := by
  refine C8.fn0 F sc__law_cut (fun vs H Q E h => ?_) (fun cdv A outer s H vs Q E hr h => ?_)
  · obtain ⟨pp, us, ps, al, t, rfl, _⟩ := h; rfl
  · obtain ⟨pp, us, ps, al, t, rfl, hpp, hps, hw, hpl, hal, hin, htl, q⟩ := h
    refine ⟨_, (pss_one (ps_ret (C8.pe_c c__law_staged hr (by first | decide | omega) (by rfl) (pa_cons (pv 0) (pa_cons (pe_callB call_len_str (by rfl) T.b_len PySem.boot_len (pa_cons (pv 1) pa_nil)) (pa_cons (pe_lc (own := [("sign", 3)]) (g := gName 3) (tt := tYes) rfl sc__law_cut.nd (pi_str (pv 2)) (blkOk_by (N := N__law_cut) (sc := C8.fnScope s__law_cut) (by decide +kernel)) (fun _ _ _ _ _ => (pg_name (i := 3) sc__law_cut.nd rfl (Or.inl rfl))) (fun _ _ _ _ _ => pts_nil) (fun _ _ _ _ _ => (pe_bmK (K := K) rfl PySem.F.plainAttrs_str PySem.F.slot_str_find PySem.F.type_str_find mt_find (pv 1) (pa_cons (pv 3) pa_nil)))) (pa_cons (pe_callB call_len_seq (by rfl) T.b_len PySem.boot_len (pa_cons (pv 0) pa_nil)) pa_nil))))))), ?_⟩
    have hul : us.length = ps.length := hps.length
    refine ⟨_, rfl, _, rfl, S al, rfl, by rw [S_len]; exact small_le hal, _, rfl, S t, rfl, fun D0 hD0 => lc_it walk_str (fun i H' => Same H H' ∧ H' D0 = some (.lst (iv (lets al (t.take i))))) ⟨same_new hD0, upd_same⟩ (fun _ _ _ _ => trivial) ?_ ?_⟩
    · rintro i x Ha Hb hi ⟨sa, ha⟩ ⟨rfl, c, hc, rfl⟩
      rw [S_get] at hc
      obtain ⟨r, hfind⟩ := find_sign (hin c (List.mem_of_getElem? hc))
      have hf : Txt.find (S al) ⟨#[c]⟩ = (al.idxOf c : Int) := by unfold Txt.find; rw [hfind]
      refine ⟨rfl, _, rfl, rfl, _, rfl, S al, ⟨#[c]⟩, rfl, rfl, ?_⟩
      rw [hf]
      refine ⟨_, ha, ?_, Same.put sa hD0, ?_⟩
      · rw [iv_len, lets, List.length_map, List.length_take]; exact smallB (by omega)
      · rw [upd_same, iv_snoc, lets, lets, map_take_succ hc]
    rintro H1 ⟨s0, hy0⟩
    rw [S_size, List.take_length] at hy0
    refine ⟨_, rfl, pp, _, rfl, .inl (SqL.of (s0 _ _ hpp)), pp, D0, us, ps, lets al t, al.length, ps.length, by rw [S_len, hul]; rfl, s0 _ _ hpp, hps.same (Same.t s0), hw, hy0, by rw [lets, List.length_map]; exact htl, Nat.le_refl _, hpl, hal, fun H2 z' s2 hz' hzv => ?_⟩
    rw [List.take_length] at hzv
    refine q H2 z' (s0.trans s2) ?_ hzv
    rcases hz' with rfl | e
    · exact hD0
    · exact s0.free e
end
end RJ
end

section
set_option maxRecDepth 100000
set_option maxHeartbeats 8000000
namespace RJ
open PySem PySem.Spec PyProof.Rows L2
abbrev s__law_pairs : Stmt := top 35
abbrev N__law_pairs : List Str := ["pool", "alphabet", "most", "pairs", "texts", "k", "left", "right", "row", "at", "text", "sign"]
theorem sc__law_pairs : FnScope N__law_pairs ["pool", "alphabet", "most"] (C8.fnScope s__law_pairs) := C8.fnScope_by (by decide +kernel)
abbrev s__law_text : Stmt := top 36
abbrev N__law_text : List Str := ["pool", "alphabet", "texts", "most", "text", "k", "way", "part"]
theorem sc__law_text : FnScope N__law_text ["pool", "alphabet", "texts", "most"] (C8.fnScope s__law_text) := C8.fnScope_by (by decide +kernel)
theorem cutS_mid (l : List Nat) {k m : Nat} (h : k + m ≤ l.length) : cutS (S l) (some (k : Int)) (some ((k + m : Nat) : Int)) = S ((l.drop k).take m) := by
  show (⟨(((S l).cps.toList.drop (HT.sIx (S l).length 0 (some (k : Int)))).take (HT.sIx (S l).length (S l).length (some ((k + m : Nat) : Int)) - HT.sIx (S l).length 0 (some (k : Int)))).toArray⟩ : Str) = ⟨((l.drop k).take m).toArray⟩
  rw [HT.sIx_nat, HT.sIx_nat, S_len, Nat.min_eq_left h, Nat.min_eq_left (show k ≤ l.length by omega), show k + m - k = m by omega]
theorem cutS_take (l : List Nat) (k : Nat) : cutS (S l) none (some (k : Int)) = S (l.take k) := by
  show (⟨(((S l).cps.toList.drop (HT.sIx (S l).length 0 none)).take (HT.sIx (S l).length (S l).length (some (k : Int)) - HT.sIx (S l).length 0 none)).toArray⟩ : Str) = ⟨(l.take k).toArray⟩
  rw [HT.sIx_nat, HT.sIx_none, S_len, Nat.sub_zero, List.drop_zero]
  have e : l.take (min k l.length) = l.take k := by
    by_cases h : k ≤ l.length
    · rw [Nat.min_eq_left h]
    · rw [Nat.min_eq_right (by omega), List.take_length, List.take_of_length_le (by omega)]
  exact congrArg (fun z : List Nat => (⟨z.toArray⟩ : Str)) e
/-- each two letters that follow one another, the last ones first -/
def chP (L : Nat) : List (Nat × Nat) := (List.range (L - 1)).map fun i => (L - 2 - i, L - 1 - i)
theorem chP_len (L : Nat) : (chP L).length = L - 1 := by rw [chP, List.length_map, List.length_range]
theorem chP_get {L i : Nat} (h : i < L - 1) : (chP L)[i]? = some (L - 2 - i, L - 1 - i) := by
  rw [chP, List.getElem?_map, List.getElem?_range h]; rfl
theorem idx_at {al : List Nat} (hnd : al.Nodup) {i c : Nat} (h : al[i]? = some c) : al.idxOf c = i := by
  obtain ⟨hi, e⟩ := List.getElem?_eq_some_iff.mp h
  rw [← e]; exact hnd.idxOf_getElem i hi
theorem chP_proper {al : List Nat} (hnd : al.Nodup) : Proper al (chP al.length) := by
  intro i p hp
  have hi : i < al.length - 1 := by rw [← chP_len]; exact (List.getElem?_eq_some_iff.mp hp).1
  rw [chP_get hi] at hp
  obtain rfl := Option.some.inj hp
  obtain ⟨c, hc⟩ : ∃ c, al[al.length - 2 - i]? = some c := ⟨_, List.getElem?_eq_getElem (by omega)⟩
  obtain ⟨d, hd⟩ : ∃ d, al[al.length - 1 - i]? = some d := ⟨_, List.getElem?_eq_getElem (by omega)⟩
  have ec := texts_letter (al := al) (ps := (chP al.length).take i) hc
  have ed := texts_letter (al := al) (ps := (chP al.length).take i) hd
  refine ⟨by rw [textsOf_len]; show al.length - 2 - i < _; omega, by rw [textsOf_len]; show al.length - 1 - i < _; omega, ?_, ?_⟩
  · show ((_ ++ _ : List Nat)).length ≤ 40
    rw [ec, ed]; show 2 ≤ 40; decide
  · show cutL al.length _ (lets al (_ ++ _)) = [al.length - 2 - i, al.length - 1 - i]
    rw [ec, ed]
    show cutL al.length _ [al.idxOf c, al.idxOf d] = _
    rw [idx_at hnd hc, idx_at hnd hd]
    refine cut_done fun q hq hm => ?_
    rw [adjs_cons2, adjs_one] at hm
    rw [List.mem_singleton.mp hm] at hq
    obtain ⟨j, hj⟩ := List.getElem?_of_mem hq
    have hji : j < i := by have := (List.getElem?_eq_some_iff.mp hj).1; rw [List.length_take] at this; omega
    rw [List.getElem?_take_of_lt hji, chP_get (by omega)] at hj
    have := congrArg Prod.fst (Option.some.inj hj)
    have : al.length - 2 - j = al.length - 2 - i := this
    omega
theorem chP_text {al : List Nat} {i c d : Nat} (hi : i < al.length - 1) (hc : al[al.length - 2 - i]? = some c) (hd : al[al.length - 1 - i]? = some d) : textsOf al ((chP al.length).take (i + 1)) = textsOf al ((chP al.length).take i) ++ [[c, d]] := by
  rw [take_succ_of (chP_get hi), textsOf_snoc]
  show _ ++ [(textsOf al _).getD (al.length - 2 - i) [] ++ (textsOf al _).getD (al.length - 1 - i) []] = _
  rw [texts_letter hc, texts_letter hd]; rfl
theorem sv_strV (al : List Nat) : (sv al).map V.str = strV (textsOf al []) := by
  unfold sv strV textsOf
  rw [List.foldl_nil, List.map_map, List.map_map]; rfl
def sp_pairsB : Sp := fun vs H Q _ => ∃ (p : Addr) (al : List Nat) (m : Nat), vs = [.ref p, .str (S al), .int (m : Int)] ∧ PoolAt p H ∧ al.Nodup ∧ 1 ≤ al.length ∧ al.length ≤ 30 ∧ m ≤ 30 ∧
  ∀ H' r pp tx us ps, PSame p H H' → pp ≠ p → tx ≠ p → H' r = some (.tup [.ref pp, .ref tx]) → H' pp = some (.lst us) → PairsAt H' us ps → H' tx = some (.lst (strV (textsOf al ps))) → Proper al ps → ps.length ≤ 30 → Q (.ref r) H'
section
variable {P : Program} {w : World} {K : PySem.W.Frag} {mg : Str → Option Value} {base : Heap}
theorem ok_pairsB {f : Addr} {fd : FuncData} (F : C8.Fun K "_law_pairs" "_law_pairs" s__law_pairs f fd) (T : Txt K mg) (c__law_draw : C8.Cal P w K mg base 1 "_law_draw" sp_drawB []) (c__law_cut : C8.Cal P w K mg base 2 "_law_cut" sp_cutB []) : FnOk P w K mg base C8.CX0 3 f fd ["pool", "alphabet", "most"] sp_pairsB := by
  refine C8.fn0 F sc__law_pairs (fun vs H Q E h => ?_) (fun cdv A outer s H vs Q E hr h => ?_)
  · obtain ⟨p, al, m, rfl, _⟩ := h; rfl
  · obtain ⟨p, al, m, rfl, hP, hnd, h1, h30, hm, q⟩ := h
    have hu := hu_of hr
    have hu64 := hu64_of hr
    refine ⟨_, (pss_cons (ps_set (i := 3) sc__law_pairs.nd rfl (Or.inl rfl) (pe_lst pa_nil))
      (pss_cons (ps_setLc (own := [("sign", 11)]) (i := 4) (g := gName 11) (tt := tYes) rfl sc__law_pairs.nd rfl rfl (sw_true rfl rfl rfl (by decide +kernel)) (pi_str (pv 1)) (blkOk_by (N := N__law_pairs) (sc := C8.fnScope s__law_pairs) (by decide +kernel)) (fun _ _ _ _ _ => (pg_name (i := 11) sc__law_pairs.nd rfl (Or.inl rfl))) (fun _ _ _ _ _ => pts_nil) (fun _ _ _ _ _ => (pv 11)))
      (pss_cons (ps_if (PW.pt (pw_and (pt_cmpR op_gt (pe_callB call_len_str (by rfl) T.b_len PySem.boot_len (pa_cons (pv 1) pa_nil)) pe_int (nomark _)) (pw_and1 (pt_cmpR op_eq (C8.pe_c c__law_draw hr (by first | decide | omega) (by rfl) (pa_cons (pv 0) (pa_cons pe_int pa_nil))) pe_int (nomark _))))) (pss_cons (ps_setLc (own := [("k", 5)]) (i := 3) (g := gName 5) (tt := tYes) rfl sc__law_pairs.nd rfl rfl (sw_true rfl rfl rfl (by decide +kernel)) (pi_range3 rfl T.b_range (pa_cons (pe_op op_sub (pe_callB call_len_str (by rfl) T.b_len PySem.boot_len (pa_cons (pv 1) pa_nil)) pe_int) (pa_cons (pe_un un_neg pe_int) (pa_cons (pe_un un_neg pe_int) pa_nil)))) (blkOk_by (N := N__law_pairs) (sc := C8.fnScope s__law_pairs) (by decide +kernel)) (fun _ _ _ _ _ => (pg_name (i := 5) sc__law_pairs.nd rfl (Or.inl rfl))) (fun _ _ _ _ _ => pts_nil) (fun _ _ _ _ _ => (pe_tup (pa_cons (pv 5) (pa_cons (pe_op op_add (pv 5) pe_int) pa_nil)))))
      (pss_one (ps_ret (pe_tup (pa_cons (pv 3) (pa_cons (pe_op op_cat (pv 4) (pe_lc (own := [("k", 5)]) (g := gName 5) (tt := tYes) rfl sc__law_pairs.nd (pi_range3 rfl T.b_range (pa_cons (pe_op op_sub (pe_callB call_len_str (by rfl) T.b_len PySem.boot_len (pa_cons (pv 1) pa_nil)) pe_int) (pa_cons (pe_un un_neg pe_int) (pa_cons (pe_un un_neg pe_int) pa_nil)))) (blkOk_by (N := N__law_pairs) (sc := C8.fnScope s__law_pairs) (by decide +kernel)) (fun _ _ _ _ _ => (pg_name (i := 5) sc__law_pairs.nd rfl (Or.inl rfl))) (fun _ _ _ _ _ => pts_nil) (fun _ _ _ _ _ => (pe_slice sl_str (pv 1) (po_some (pv 5)) (po_some (pe_op op_add (pv 5) pe_int)))))) pa_nil)))))) pss_nil)
      (pss_cons (ps_for PassesOwn.never rfl (pi_range1 rfl T.b_range (pa_cons (pv 2) pa_nil)) (pg_name (i := 5) sc__law_pairs.nd rfl (Or.inl rfl)) (pss_cons (ps_set (i := 6) sc__law_pairs.nd rfl (Or.inl rfl) (C8.pe_c c__law_draw hr (by first | decide | omega) (by rfl) (pa_cons (pv 0) (pa_cons (pe_callB call_len_seq (by rfl) T.b_len PySem.boot_len (pa_cons (pv 4) pa_nil)) pa_nil))))
      (pss_cons (ps_set (i := 7) sc__law_pairs.nd rfl (Or.inl rfl) (C8.pe_c c__law_draw hr (by first | decide | omega) (by rfl) (pa_cons (pv 0) (pa_cons (pe_callB call_len_seq (by rfl) T.b_len PySem.boot_len (pa_cons (pv 4) pa_nil)) pa_nil))))
      (pss_cons (ps_if (pt_cmpR op_gt (C8.pe_c c__law_draw hr (by first | decide | omega) (by rfl) (pa_cons (pv 0) (pa_cons pe_int pa_nil))) pe_int (nomark _)) (pss_cons (ps_set (i := 8) sc__law_pairs.nd rfl (Or.inl rfl) (C8.pe_c c__law_cut hr (by first | decide | omega) (by rfl) (pa_cons (pv 3) (pa_cons (pv 1) (pa_cons (pe_op op_add_str (pe_ix ix_list (pv 4) (pv 6) (fun _ _ => rfl)) (pe_ix ix_list (pv 4) (pv 7) (fun _ _ => rfl))) pa_nil)))))
      (pss_cons (ps_set (i := 9) sc__law_pairs.nd rfl (Or.inl rfl) (C8.pe_c c__law_draw hr (by first | decide | omega) (by rfl) (pa_cons (pv 0) (pa_cons (pe_callB (call_max2 rfl) (by rfl) T.b_max (by decide +kernel) (pa_cons pe_int (pa_cons (pe_op op_sub (pe_callB call_len_seq (by rfl) T.b_len PySem.boot_len (pa_cons (pv 8) pa_nil)) pe_int) pa_nil))) pa_nil))))
      (pss_one (ps_if (pt_cmpR op_gt (pe_callB call_len_seq (by rfl) T.b_len PySem.boot_len (pa_cons (pv 8) pa_nil)) pe_int (nomark _)) (pss_cons (ps_set (i := 6) sc__law_pairs.nd rfl (Or.inl rfl) (pe_ix ix_list (pv 8) (pv 9) (fun _ _ => rfl)))
      (pss_one (ps_set (i := 7) sc__law_pairs.nd rfl (Or.inl rfl) (pe_ix ix_list (pv 8) (pe_op op_add (pv 9) pe_int) (fun _ _ => rfl))))) pss_nil)))) pss_nil)
      (pss_cons (ps_set (i := 10) sc__law_pairs.nd rfl (Or.inl rfl) (pe_op op_add_str (pe_ix ix_list (pv 4) (pv 6) (fun _ _ => rfl)) (pe_ix ix_list (pv 4) (pv 7) (fun _ _ => rfl))))
      (pss_one (ps_if (PW.pt (pw_and (pt_cmpR op_le (pe_callB call_len_str (by rfl) T.b_len PySem.boot_len (pa_cons (pv 10) pa_nil)) pe_int (nomark _)) (pw_and1 (pt_cmpR (op_eqD hu64) (C8.pe_c c__law_cut hr (by first | decide | omega) (by rfl) (pa_cons (pv 3) (pa_cons (pv 1) (pa_cons (pv 10) pa_nil)))) (pe_lst (pa_cons (pv 6) (pa_cons (pv 7) pa_nil))) (nomark _))))) (pss_cons (ps_expr (pe_bm PySem.F.plainAttrs_list PySem.F.slot_list_append PySem.F.type_list_append mt_append (pv 3) (pa_cons (pe_tup (pa_cons (pv 6) (pa_cons (pv 7) pa_nil))) pa_nil)))
      (pss_one (ps_expr (pe_bm PySem.F.plainAttrs_list PySem.F.slot_list_append PySem.F.type_list_append mt_append (pv 4) (pa_cons (pv 10) pa_nil))))) pss_nil)))))))
      (pss_one (ps_ret (pe_tup (pa_cons (pv 3) (pa_cons (pv 4) pa_nil))))))))), ?_⟩
    have hSl : (S al).length ≤ sizeLine := by rw [S_len]; exact small_le (by omega)
    refine ⟨Nat.zero_le _, fun pp hpp => ?_⟩
    have hppp : pp ≠ p := hP.free hpp
    have s0 := (PSame.refl hP).new (o := .lst []) hpp
    refine ⟨_, rfl, S al, rfl, fun tx htx => lc_it walk_str (fun i H' => PSame p H H' ∧ H' pp = some (.lst []) ∧ H' tx = some (.lst ((sv (al.take i)).map V.str))) ⟨s0.new htx, (upd_ne (ne_of_none upd_same htx)).trans upd_same, upd_same⟩ (fun _ _ _ _ => trivial) ?_ ?_⟩
    · rintro i x Ha Hb hi ⟨sa, hpb, ha⟩ ⟨rfl, c, hc, rfl⟩
      rw [S_get] at hc
      have hne : pp ≠ tx := ne_of_none upd_same htx
      refine ⟨rfl, _, rfl, _, ha, ?_, sa.put (s0.none htx), (upd_ne hne).trans hpb, ?_⟩
      · unfold sv; rw [List.length_map, List.length_map, List.length_take]; exact small1000 (by omega)
      · rw [upd_same, take_succ_of hc]; unfold sv; rw [List.map_append, List.map_append]; rfl
    rintro H1 ⟨s1, hp1, ht1⟩
    rw [S_size, List.take_length, sv_strV] at ht1
    have hne : pp ≠ tx := ne_of_none upd_same htx
    have htx0 : H tx = none := s0.none htx
    have htxp : tx ≠ p := hP.free htx0
    -- the chain
    dsimp only [gName]
    refine ⟨_, rfl, S al, rfl, hSl, _, _, rfl, rfl, _, rfl, ?_⟩
    rw [S_len]
    generalize hM : tSeq (tFor _ _ _) _ _ = M
    have key : ∀ H2, PSame p H1 H2 → M [some (.ref p), some (.str (S al)), some (.int (m : Int)), some (.ref pp), some (.ref tx), none, none, none, none, none, none, none] H2 := by
      intro H2 s12
      rw [← hM]
      have s2 := s1.trans s12
      refine ⟨_, rfl, _, rfl, by omega, by omega, for_it walk_range (fun i σ H' => ∃ (us : List V) (ps : List (Nat × Nat)) (v5 v6 v7 v8 v9 v10 : Option V), σ = [some (.ref p), some (.str (S al)), some (.int (m : Int)), some (.ref pp), some (.ref tx), v5, v6, v7, v8, v9, v10, none] ∧ PSame p H H' ∧
          H' pp = some (.lst us) ∧ PairsAt H' us ps ∧ H' tx = some (.lst (strV (textsOf al ps))) ∧ Proper al ps ∧ ps.length ≤ i)
        ⟨[], [], none, none, none, none, none, none, rfl, s2, s12.lst hppp hp1, .nil, s12.lst htxp ht1, Proper.nil al, Nat.le_refl _⟩ (fun _ _ _ _ _ => trivial) ?_ ?_⟩
      · rintro i x σ Ha Hb hi ⟨us, ps, v5, v6, v7, v8, v9, v10, rfl, sa, hpb, hps, htb, hprop, hle⟩ ⟨rfl, hx⟩
        have him : i < m := by simpa using hi
        obtain ⟨L, hLe⟩ : ∃ L, L = al.length + ps.length := ⟨_, rfl⟩
        have hLt : (textsOf al ps).length = L := by rw [textsOf_len, hLe]
        have hL : (strV (textsOf al ps)).length = L := by rw [strV_len, hLt]
        have pos : (0 : Int) < ((strV (textsOf al ps)).length : Int) := by rw [hL]; omega
        refine ⟨_, rfl, _, rfl, tx, _, rfl, .inl (SqL.of htb), p, _, rfl, sa.at1, pos, fun H3 a0 s3 ha0 => ?_⟩
        have sa3 := sa.trans s3
        refine ⟨_, rfl, _, rfl, tx, _, rfl, .inl (SqL.of (s3.lst htxp htb)), p, _, rfl, s3.at1, pos, fun H4 b0 s4 hb0 => ?_⟩
        have s34 := s3.trans s4
        rw [hL] at ha0 hb0
        dsimp only [gName]
        -- the draw
        refine ⟨_, rfl, p, 3, rfl, s34.at1, by decide, fun H5 r5 s5 hr5 => ⟨_, _, rfl, rfl, _, rfl, ?_⟩⟩
        have s35 := s34.trans s5
        generalize hM2 : tSeq (tAsg _ _) (tIfS _ _ _) _ = M2
        have key2 : ∀ (a b : Nat) (w8 w9 : Option V) (H6 : Hp), PSame p Hb H6 → a < L → b < L → M2 [some (.ref p), some (.str (S al)), some (.int (m : Int)), some (.ref pp), some (.ref tx), some x, some (.int (a : Int)), some (.int (b : Int)), w8, w9, v10, none] H6 := by
          intro a b w8 w9 H6 s6 ha hb
          rw [← hM2]
          have htx6 := s6.lst htxp htb
          have hpp6 := s6.lst hppp hpb
          have haT : a < (textsOf al ps).length := by rw [hLt]; exact ha
          have hbT : b < (textsOf al ps).length := by rw [hLt]; exact hb
          have hla : ((textsOf al ps).getD a []).length ≤ 40 := getD_short hprop.short a
          have hlb : ((textsOf al ps).getD b []).length ≤ 40 := getD_short hprop.short b
          have hmem : ∀ c ∈ (textsOf al ps).getD a [] ++ (textsOf al ps).getD b [], c ∈ al := fun c hc => by
            have key : ∀ i, c ∈ (textsOf al ps).getD i [] → c ∈ al := fun i hi => by
              rcases getD_mem_or (ts := textsOf al ps) (i := i) with m | m
              · exact textsOf_al _ m c hi
              · rw [m] at hi; cases hi
            rcases List.mem_append.mp hc with z | z
            · exact key _ z
            · exact key _ z
          refine ⟨_, rfl, _, rfl, tx, _, _, _, rfl, rfl, SqL.of htx6, atI_nat (strV_at haT), _, rfl, _, rfl, tx, _, _, _, rfl, rfl, SqL.of htx6, atI_nat (strV_at hbT), S _, S _, rfl, rfl, ?_, ?_⟩
          · rw [S_len, S_len]; exact small_le (by omega)
          rw [S_cat]
          obtain ⟨tt, htt⟩ : ∃ tt, tt = (textsOf al ps).getD a [] ++ (textsOf al ps).getD b [] := ⟨_, rfl⟩
          have htl : tt.length ≤ 80 := by rw [htt, List.length_append]; omega
          rw [← htt] at hmem ⊢
          refine ⟨_, rfl, S tt, rfl, by rw [S_len]; exact small_le (by omega), _, _, rfl, rfl, _, rfl, ?_⟩
          rw [S_len]
          by_cases h40 : tt.length ≤ 40
          · rw [decide_eq_true (by omega : (tt.length : Int) ≤ 40)]
            refine iteT ⟨_, rfl, _, rfl, _, rfl, pp, us, ps, al, tt, rfl, hpp6, hps.same s6.tt, hprop.wf, by omega, by omega, hmem, by omega, fun H7 y s7 hyn hy => ?_⟩
            refine ⟨_, rfl, _, rfl, by show 2 ≤ sizeLine; decide, fun D hD => ?_⟩
            have sd := Same.new (o := .lst [V.int (a : Int), V.int (b : Int)]) s7 hD
            have hyD : (upd H7 D (.lst [V.int (a : Int), V.int (b : Int)])) y = some (.lst (iv (cutL al.length ps (lets al tt)))) := (upd_ne (ne_of_none hy hD)).trans hy
            refine ⟨_, _, .lst (SqL.of hyD) (iv_dp _), .lst (SqL.of upd_same) (iv_dp [a, b]), shaped_iv _, shaped_iv [a, b], _, rfl, ?_⟩
            have ec : PyData.eqv (.list ((cutL al.length ps (lets al tt)).map fun (n : Nat) => PyData.int (n : Int))) (.list ([a, b].map fun (n : Nat) => PyData.int (n : Int))) = decide (cutL al.length ps (lets al tt) = [a, b]) := by rw [PyData.eqv, eqv_iv]
            have s8 := s6.then sd
            have hpp8 := sd _ _ hpp6
            have htx8 := sd _ _ htx6
            have hps8 := hps.same s8.tt
            by_cases hcut : cutL al.length ps (lets al tt) = [a, b]
            · rw [decide_eq_true hcut] at ec
              rw [ec]
              have hokp : okP al (textsOf al ps) ps (a, b) := ⟨haT, hbT, by rw [← htt]; exact h40, by rw [← htt]; exact hcut⟩
              have hul : us.length = ps.length := hps.length
              refine iteT ⟨_, rfl, .inl ⟨rfl, _, SqL.of hpp8⟩, _, rfl, _, rfl, by show 2 ≤ sizeLine; decide, fun g hg => ?_⟩
              have sg := same_new (o := .tup [V.int (a : Int), V.int (b : Int)]) hg
              have hpp9 := sg _ _ hpp8
              have htx9 := sg _ _ htx8
              have hps9 := hps8.same (Same.t sg)
              have g2v : (upd (upd H7 D (.lst [V.int (a : Int), V.int (b : Int)])) g (.tup [V.int (a : Int), V.int (b : Int)])) g = some (.tup [V.int (a : Int), V.int (b : Int)]) := upd_same
              have s9 := (sa.trans s8).new (o := .tup [V.int (a : Int), V.int (b : Int)]) hg
              generalize upd (upd H7 D (.lst [V.int (a : Int), V.int (b : Int)])) g (.tup [V.int (a : Int), V.int (b : Int)]) = H9 at *
              refine ⟨pp, us, _, rfl, rfl, hpp9, small1000 (by omega), ?_⟩
              have sT : SameT H9 (upd H9 pp (.lst (us ++ [.ref g]))) := SameT.put hpp9
              have t3 : (upd H9 pp (.lst (us ++ [.ref g]))) tx = some (.lst (strV (textsOf al ps))) := (upd_ne (Ne.symm hne)).trans htx9
              have p3 : (upd H9 pp (.lst (us ++ [.ref g]))) pp = some (.lst (us ++ [.ref g])) := upd_same
              have q3 : PairsAt (upd H9 pp (.lst (us ++ [.ref g]))) (us ++ [.ref g]) (ps ++ [(a, b)]) := Paired.snoc ⟨g, rfl, sT _ _ g2v⟩ (hps9.same sT)
              have s10 := s9.put (o := .lst (us ++ [.ref g])) hpp
              generalize upd H9 pp (.lst (us ++ [.ref g])) = H10 at *
              refine ⟨_, rfl, .inl ⟨rfl, _, SqL.of t3⟩, _, rfl, tx, _, _, rfl, rfl, t3, by rw [strV_len, textsOf_len]; exact small1000 (by omega), ?_⟩
              have et : strV (textsOf al ps) ++ [V.str (S tt)] = strV (textsOf al (ps ++ [(a, b)])) := by rw [strV_snoc, textsOf_snoc, htt]
              refine ⟨us ++ [.ref g], ps ++ [(a, b)], _, _, _, _, _, _, rfl, s10.put htx0, (upd_ne hne).trans p3, q3.same (SameT.put t3), by rw [upd_same, et], hprop.snoc hokp, by rw [List.length_append, List.length_singleton]; omega⟩
            · rw [decide_eq_false hcut] at ec
              rw [ec]
              exact iteF ⟨us, ps, _, _, _, _, _, _, rfl, sa.trans s8, hpp8, hps8, htx8, hprop, by omega⟩
          · rw [decide_eq_false (by omega : ¬ (tt.length : Int) ≤ 40)]
            exact iteF (iteF ⟨us, ps, _, _, _, _, _, _, rfl, sa.trans s6, hpp6, hps.same s6.tt, htx6, hprop, by omega⟩)
        obtain ⟨e, he⟩ : ∃ e : Bool, e = decide ((0 : Int) < (r5 : Int)) := ⟨_, rfl⟩
        show (if decide ((0 : Int) < (r5 : Int)) = true then _ else _)
        rw [← he]
        cases e with
        | false => exact iteF (key2 a0 b0 _ _ _ s35 (by omega) (by omega))
        | true =>
          have htx5 := s35.lst htxp htb
          have hpp5 := s35.lst hppp hpb
          have haT : a0 < (textsOf al ps).length := by omega
          have hbT : b0 < (textsOf al ps).length := by omega
          have hla : ((textsOf al ps).getD a0 []).length ≤ 40 := getD_short hprop.short a0
          have hlb : ((textsOf al ps).getD b0 []).length ≤ 40 := getD_short hprop.short b0
          have hmem : ∀ c ∈ (textsOf al ps).getD a0 [] ++ (textsOf al ps).getD b0 [], c ∈ al := fun c hc => by
            have key : ∀ i, c ∈ (textsOf al ps).getD i [] → c ∈ al := fun i hi => by
              rcases getD_mem_or (ts := textsOf al ps) (i := i) with m | m
              · exact textsOf_al _ m c hi
              · rw [m] at hi; cases hi
            rcases List.mem_append.mp hc with z | z
            · exact key _ z
            · exact key _ z
          refine iteT ⟨_, rfl, _, rfl, _, rfl, _, rfl, tx, _, _, _, rfl, rfl, SqL.of htx5, atI_nat (strV_at haT), _, rfl, _, rfl, tx, _, _, _, rfl, rfl, SqL.of htx5, atI_nat (strV_at hbT), S _, S _, rfl, rfl, ?_, ?_⟩
          · rw [S_len, S_len]; exact small_le (by omega)
          rw [S_cat]
          obtain ⟨tt, htt⟩ : ∃ tt, tt = (textsOf al ps).getD a0 [] ++ (textsOf al ps).getD b0 [] := ⟨_, rfl⟩
          have htl : tt.length ≤ 80 := by rw [htt, List.length_append]; omega
          rw [← htt] at hmem ⊢
          refine ⟨pp, us, ps, al, tt, rfl, hpp5, hps.same s35.tt, hprop.wf, by omega, by omega, hmem, by omega, fun H7 y s7 hyn hy => ?_⟩
          have s37 := s35.then s7
          have hyp : y ≠ p := s35.at1.free hyn
          obtain ⟨R, hR⟩ : ∃ R, R = cutL al.length ps (lets al tt) := ⟨_, rfl⟩
          have hRin : ∀ x ∈ R, x < al.length + ps.length := by rw [hR]; exact cut_lt hmem
          have hRl : R.length ≤ 80 := by have := cutL_len al.length ps (lets al tt); rw [← hR, lets, List.length_map] at this; omega
          rw [← hR] at hy
          obtain ⟨mx, hmx⟩ : ∃ mx : Int, mx = (if (R.length : Int) - 1 > 1 then (R.length : Int) - 1 else 1) := ⟨_, rfl⟩
          have hmxp : 0 < mx ∧ (1 < R.length → mx ≤ (R.length : Int) - 1) := by rw [hmx]; split <;> omega
          refine ⟨_, rfl, _, rfl, y, _, rfl, .inl (SqL.of hy), _, _, rfl, rfl, _, _, rfl, ?_⟩
          rw [iv_len, ← hmx]
          refine ⟨p, mx, rfl, s37.at1, hmxp.1, fun H8 r8 s8 hr8 => ?_⟩
          have s38 := s37.trans s8
          have hy8 := s8.lst hyp hy
          refine ⟨_, rfl, y, _, rfl, .inl (SqL.of hy8), _, _, rfl, rfl, _, rfl, ?_⟩
          rw [iv_len]
          by_cases hR1 : 1 < R.length
          · rw [decide_eq_true (by omega : (1 : Int) < (R.length : Int))]
            have hr81 : r8 + 1 < R.length := by have := hmxp.2 hR1; omega
            obtain ⟨u1, hu1⟩ : ∃ u, R[r8]? = some u := ⟨_, List.getElem?_eq_getElem (by omega)⟩
            obtain ⟨u2, hu2⟩ : ∃ u, R[r8 + 1]? = some u := ⟨_, List.getElem?_eq_getElem hr81⟩
            have hb1 := hRin u1 (List.mem_of_getElem? hu1)
            have hb2 := hRin u2 (List.mem_of_getElem? hu2)
            refine iteT ⟨_, rfl, _, rfl, y, _, _, _, rfl, rfl, SqL.of hy8, atI_nat (iv_at hu1), _, rfl, _, rfl, _, _, rfl, rfl, y, _, _, _, rfl, rfl, SqL.of hy8, atI_nat (iv_at hu2), ?_⟩
            exact key2 u1 u2 _ _ _ s38 (by omega) (by omega)
          · rw [decide_eq_false (by omega : ¬ (1 : Int) < (R.length : Int))]
            exact iteF (key2 a0 b0 _ _ _ s38 (by omega) (by omega))
      · rintro σ H3 ⟨us, ps, v5, v6, v7, v8, v9, v10, rfl, sa, hpb, hps, htb, hprop, hle⟩
        refine ⟨_, rfl, _, rfl, by show 2 ≤ sizeLine; decide, fun r hr' => ?_⟩
        have sN := same_new (o := .tup [.ref pp, .ref tx]) hr'
        have hle' : ps.length ≤ m := by simpa using hle
        exact q _ r pp tx us ps (sa.new hr') hppp htxp upd_same (sN _ _ hpb) (hps.same (Same.t sN)) (sN _ _ htb) hprop (by omega)
    by_cases hlen : 2 < al.length
    · rw [decide_eq_true (by omega : (2 : Int) < (al.length : Int))]
      refine iteT ⟨_, rfl, p, 5, rfl, s1.at1, by decide, fun H2 r2 s2 hr2 => ⟨rfl, _, rfl, ?_⟩⟩
      obtain ⟨e, he⟩ : ∃ e : Bool, e = decide (V.int (r2 : Int) = V.int 0) := ⟨_, rfl⟩
      show (if decide (V.int (r2 : Int) = V.int 0) = true then _ else _)
      rw [← he]
      cases e with
      | false => exact iteF (key H2 s2)
      | true =>
        have s12 := s1.trans s2
        have ht2 := s2.lst htxp ht1
        have hn : ((al.length : Int) - 2 - (-1)).toNat = al.length - 1 := by omega
        have rg : RgC ((al.length : Int) - 2) (-1) (-1) (al.length - 1) := by rw [← hn]; exact RgC.neg (by omega) (by omega) (by decide) (by decide)
        refine iteT ⟨_, rfl, S al, rfl, hSl, _, _, rfl, rfl, _, rfl, _, rfl, ?_⟩
        rw [S_len]
        refine ⟨_, _, _, _, rfl, rg, fun D hD => lc_it walk_rangeC (fun i H' => PSame p H H' ∧ H' tx = some (.lst (strV (textsOf al []))) ∧ ∃ us, H' D = some (.lst us) ∧ PairsAt H' us ((chP al.length).take i)) ⟨s12.new hD, (upd_ne (ne_of_none ht2 hD)).trans ht2, [], upd_same, .nil⟩ (fun _ _ _ _ => trivial) ?_ ?_⟩
        · rintro i x Ha Hb hi ⟨sa, hta, us, hDa, hpa⟩ ⟨rfl, hx⟩
          obtain rfl : x = V.int ((al.length - 2 - i : Nat) : Int) := hx.trans (congrArg V.int (by omega))
          refine ⟨rfl, _, rfl, _, rfl, _, _, rfl, rfl, by show 2 ≤ sizeLine; decide, fun g hg => ?_⟩
          have sg := same_new (o := .tup [V.int ((al.length - 2 - i : Nat) : Int), V.int (((al.length - 2 - i : Nat) : Int) + 1)]) hg
          have hDg := sg _ _ hDa
          have hul := hpa.length
          rw [List.length_take, chP_len] at hul
          have hDp : tx ≠ D := ne_of_none ht2 hD
          refine ⟨us, hDg, small1000 (by omega), (sa.new hg).put (s12.none hD), (upd_ne hDp).trans (sg _ _ hta), us ++ [.ref g], upd_same, ?_⟩
          rw [take_succ_of (chP_get hi)]
          refine Paired.snoc ⟨g, rfl, SameT.put hDg _ _ ?_⟩ ((hpa.same (Same.t sg)).same (SameT.put hDg))
          rw [upd_same]
          exact congrArg (fun z : Int => some (HO.tup [V.int ((al.length - 2 - i : Nat) : Int), V.int z])) (by omega : ((al.length - 2 - i : Nat) : Int) + 1 = ((al.length - 1 - i : Nat) : Int))
        rintro H3 ⟨s3, ht3, us, hD3, hp3⟩
        have hfull : (chP al.length).take (al.length - 1) = chP al.length := by rw [List.take_of_length_le (by rw [chP_len]; exact Nat.le_refl _)]
        rw [hfull] at hp3
        have hD0 : H D = none := s12.none hD
        refine ⟨_, rfl, _, rfl, _, rfl, S al, rfl, hSl, _, _, rfl, rfl, _, rfl, _, rfl, ?_⟩
        rw [S_len]
        refine ⟨_, _, _, _, rfl, rg, fun D2 hD2 => lc_it walk_rangeC (fun i H' => PSame p H H' ∧ H' tx = some (.lst (strV (textsOf al []))) ∧ H' D = some (.lst us) ∧ SameT H3 H' ∧ ∃ ts, H' D2 = some (.lst (strV ts)) ∧ textsOf al [] ++ ts = textsOf al ((chP al.length).take i) ∧ ts.length = i) ⟨s3.new hD2, (upd_ne (ne_of_none ht3 hD2)).trans ht3, (upd_ne (ne_of_none hD3 hD2)).trans hD3, Same.t (same_new hD2), [], upd_same, by rw [List.take_zero, List.append_nil], rfl⟩ (fun _ _ _ _ => trivial) ?_ ?_⟩
        · rintro i x Ha Hb hi ⟨sa, hta, hDa, sT, ts, hD2a, hts, htl⟩ ⟨rfl, hx⟩
          obtain rfl : x = V.int ((al.length - 2 - i : Nat) : Int) := hx.trans (congrArg V.int (by omega))
          obtain ⟨c, hc⟩ : ∃ c, al[al.length - 2 - i]? = some c := ⟨_, List.getElem?_eq_getElem (by omega)⟩
          obtain ⟨d, hd⟩ : ∃ d, al[al.length - 1 - i]? = some d := ⟨_, List.getElem?_eq_getElem (by omega)⟩
          refine ⟨rfl, _, rfl, _, rfl, _, rfl, _, rfl, _, _, rfl, rfl, _, rfl, S al, rfl, hSl, ?_⟩
          have e2 : (al.drop (al.length - 2 - i)).take 2 = [c, d] := by
            obtain ⟨hc1, hc2⟩ := List.getElem?_eq_some_iff.mp hc
            obtain ⟨hd1, hd2⟩ := List.getElem?_eq_some_iff.mp hd
            rw [List.drop_eq_getElem_cons hc1, List.take_succ_cons, hc2]
            have hd1' : al.length - 2 - i + 1 < al.length := by omega
            rw [List.drop_eq_getElem_cons hd1', List.take_succ_cons, List.take_zero]
            have : al[al.length - 2 - i + 1] = d := by rw [← hd2]; congr 1; omega
            rw [this]
          rw [show (((al.length - 2 - i : Nat) : Int) + 2) = ((al.length - 2 - i + 2 : Nat) : Int) from rfl, cutS_mid al (by omega), e2]
          have hne1 : tx ≠ D2 := ne_of_none ht3 hD2
          have hne2 : D ≠ D2 := ne_of_none hD3 hD2
          refine ⟨_, hD2a, ?_, sa.put (s3.none hD2), (upd_ne hne1).trans hta, (upd_ne hne2).trans hDa, fun b xs e => SameT.put hD2a _ _ (sT _ _ e), ts ++ [[c, d]], ?_, ?_, ?_⟩
          · rw [strV_len]; exact small1000 (by omega)
          · rw [upd_same, strV_snoc]
          · rw [← List.append_assoc, hts, chP_text hi hc hd]
          · rw [List.length_append, List.length_singleton, htl]
        · rintro H4 ⟨s4, ht4, hD4, sT, ts, hD24, hts, htl⟩
          rw [hfull] at hts
          refine ⟨tx, D2, _, _, rfl, rfl, ht4, hD24, by rw [strV_len, strV_len, textsOf_len, htl]; exact small_le (by show al.length + 0 + _ ≤ 1000; omega), fun t2 ht2' => ⟨by show 2 ≤ sizeLine; decide, fun r hr' => ?_⟩⟩
          have eT : strV (textsOf al []) ++ strV ts = strV (textsOf al (chP al.length)) := by rw [← hts, strV, strV, strV, List.map_append]
          have sN := Same.new (o := .tup [.ref D, .ref t2]) (same_new (o := .lst (strV (textsOf al []) ++ strV ts)) ht2') hr'
          have ht2v : (upd (upd H4 t2 (.lst (strV (textsOf al []) ++ strV ts))) r (.tup [.ref D, .ref t2])) t2 = some (.lst (strV (textsOf al (chP al.length)))) := by rw [upd_ne (ne_of_none upd_same hr'), upd_same, eT]
          exact q _ r D t2 us (chP al.length) (s4.then sN) (s12.at1.free hD) (s4.at1.free ht2') upd_same (sN _ _ hD4) ((hp3.same sT).same (Same.t sN)) ht2v (chP_proper hnd) (by rw [chP_len]; omega)
    · rw [decide_eq_false (by omega : ¬ (2 : Int) < (al.length : Int))]
      exact iteF (iteF (key H1 (PSame.refl s1.at1)))
end
end RJ
end

section
set_option maxRecDepth 100000
set_option maxHeartbeats 8000000
namespace RJ
open PySem PySem.Spec PyProof.Rows L2
abbrev s__law_same : Stmt := top 37
abbrev N__law_same : List Str := ["told", "due", "k"]
theorem sc__law_same : FnScope N__law_same ["told", "due"] (C8.fnScope s__law_same) := C8.fnScope_by (by decide +kernel)
theorem smallB_le {n : Nat} (h : n ≤ 100000) : n ≤ sizeLine := Nat.le_of_lt (smallB h)
theorem fold_memB {a : Array Nat} : ∀ (k : Nat) (b : Array Nat) (c : Nat), c ∈ ((List.replicate k a).foldl (· ++ ·) b).toList → c ∈ b.toList ∨ c ∈ a.toList
  | 0, _, _, h => .inl h
  | k + 1, b, c, h => by
    have h' : c ∈ ((List.replicate k a).foldl (· ++ ·) (b ++ a)).toList := h
    rcases fold_memB k (b ++ a) c h' with z | z
    · rw [Array.toList_append] at z
      exact List.mem_append.mp z
    · exact .inr z
theorem mul_memB {u : List Nat} {n : Int} {c : Nat} (h : c ∈ (PySem.Txt.mul (S u) n).cps.toList) : c ∈ u := by
  unfold PySem.Txt.mul at h
  split at h
  · cases h
  · split at h
    · exact h
    · rcases fold_memB _ _ c h with z | z
      · cases z
      · exact z
theorem mulB (u : List Nat) (n : Nat) : ∃ t : List Nat, PySem.Txt.mul (S u) (n : Int) = S t ∧ (∀ c ∈ t, c ∈ u) ∧ t.length ≤ u.length * n := by
  refine ⟨(PySem.Txt.mul (S u) (n : Int)).cps.toList, ?_, fun c hc => mul_memB hc, ?_⟩
  · show PySem.Txt.mul (S u) (n : Int) = ⟨(PySem.Txt.mul (S u) (n : Int)).cps.toList.toArray⟩
    rw [Array.toArray_toList]
  · have := len_mul_leN (x := S u) (n := (n : Int)) (L := u.length) (N := n) (by rw [S_len]; exact Nat.le_refl _) (Int.le_refl _)
    rw [Array.length_toList]; exact this
theorem mulB_ok {u : List Nat} {n : Nat} (h : u.length ≤ 40) (hn : n ≤ 7) : MulOk (S u) (n : Int) := by
  have e63 : (2 : Int) ^ 63 = 9223372036854775808 := by decide
  refine ⟨by rw [decide_eq_false (by omega), decide_eq_false (by omega)]; rfl, fun h1 _ => ?_, fun _ _ => ?_⟩
  · rw [S_len]
    have h2 : (1000 : Int) ≤ ((2 : Int) ^ 63 - 1) / (n : Int) := by
      refine (Int.le_ediv_iff_mul_le (by omega)).mpr ?_
      have : ((2 : Int) ^ 63 - 1) = 9223372036854775807 := by decide
      omega
    omega
  · rw [S_len]
    exact decide_eq_false (by
      have h3 : u.length * Int.toNat (n : Int) ≤ 40 * 7 := Nat.mul_le_mul h (by rw [Int.toNat_natCast]; exact hn)
      have := small1000 (n := u.length * Int.toNat (n : Int)) (by omega)
      omega)
theorem cutS_sub (l : List Nat) (lo hi : Option Int) : ∃ u, cutS (S l) lo hi = S u ∧ u.length ≤ l.length ∧ ∀ c ∈ u, c ∈ l := by
  refine ⟨(cutS (S l) lo hi).cps.toList, rfl, ?_, fun c hc => ?_⟩
  · have := cutS_length (S l) lo hi
    rw [S_len] at this
    exact this
  · exact List.mem_of_mem_drop (List.mem_of_mem_take hc)
theorem cut_midV (l : List Nat) (i k : Nat) (h : i + k ≤ l.length) : cutV (iv l) (some (i : Int)) (some ((i + k : Nat) : Int)) = iv ((l.drop i).take k) := by
  unfold cutV
  rw [HT.sIx_nat, HT.sIx_nat, iv_len, Nat.min_eq_left h, Nat.min_eq_left (show i ≤ l.length by omega), show i + k - i = k by omega]
  unfold iv
  rw [List.map_take, List.map_drop]
def sp_textB : Sp := fun vs H Q _ => ∃ (p tx : Addr) (al : List Nat) (ps : List (Nat × Nat)) (most : Nat), vs = [.ref p, .str (S al), .ref tx, .int (most : Int)] ∧ PoolAt p H ∧ H tx = some (.lst (strV (textsOf al ps))) ∧ tx ≠ p ∧ Proper al ps ∧ 1 ≤ al.length ∧ al.length ≤ 30 ∧ ps.length ≤ 100 ∧ most ≤ 60 ∧
  ∀ H' t, PSame p H H' → (∀ c ∈ t, c ∈ al) → t.length ≤ most → Q (.str (S t)) H'
def sp_joinedB : Sp := fun vs H Q _ => ∃ (tx a : Addr) (ts : List (List Nat)) (row : List Nat), vs = [.ref tx, .ref a] ∧ H tx = some (.lst (strV ts)) ∧ H a = some (.lst (iv row)) ∧ (∀ x ∈ row, x < ts.length) ∧ (∀ t ∈ ts, t.length ≤ 40) ∧ row.length ≤ 1000 ∧
  ∀ H', Same H H' → Q (.str (S (textR ts row))) H'
def sp_stretch : Sp := fun vs H Q _ => ∃ (p a : Addr) (row : List Nat), vs = [.ref p, .ref a] ∧ PoolAt p H ∧ H a = some (.lst (iv row)) ∧ a ≠ p ∧ row.length ≤ 1000 ∧
  ∀ H' z i k, PSame p H H' → H z = none → H' z = some (.lst (iv ((row.drop i).take k))) → Q (.ref z) H'
section
variable {P : Program} {w : World} {K : PySem.W.Frag} {mg : Str → Option Value} {base : Heap}
theorem ok_textB {f : Addr} {fd : FuncData} (F : C8.Fun K "_law_text" "_law_text" s__law_text f fd) (T : Txt K mg) (c__law_draw : C8.Cal P w K mg base 1 "_law_draw" sp_drawB []) : FnOk P w K mg base C8.CX0 2 f fd ["pool", "alphabet", "texts", "most"] sp_textB := by
  refine C8.fn0 F sc__law_text (fun vs H Q E h => ?_) (fun cdv A outer s H vs Q E hr h => ?_)
  · obtain ⟨p, tx, al, ps, most, rfl, _⟩ := h; rfl
  · obtain ⟨p, tx, al, ps, most, rfl, hP, htx, htp, hprop, h1, h30, hpl, hm, q⟩ := h
    refine ⟨_, (pss_cons (ps_set (i := 4) sc__law_text.nd rfl (Or.inl rfl) pe_str)
      (pss_cons (ps_for PassesOwn.never rfl (pi_range1 rfl T.b_range (pa_cons (C8.pe_c c__law_draw hr (by first | decide | omega) (by rfl) (pa_cons (pv 0) (pa_cons (pe_op op_add (pv 3) pe_int) pa_nil))) pa_nil)) (pg_name (i := 5) sc__law_text.nd rfl (Or.inl rfl)) (pss_one (ps_if (pt_cmpR op_lt (pe_callB call_len_str (by rfl) T.b_len PySem.boot_len (pa_cons (pv 4) pa_nil)) (pv 3) (nomark _)) (pss_cons (ps_set (i := 6) sc__law_text.nd rfl (Or.inl rfl) (C8.pe_c c__law_draw hr (by first | decide | omega) (by rfl) (pa_cons (pv 0) (pa_cons pe_int pa_nil))))
      (pss_cons (ps_set (i := 7) sc__law_text.nd rfl (Or.inl rfl) (pe_ix ix_str (pv 1) (C8.pe_c c__law_draw hr (by first | decide | omega) (by rfl) (pa_cons (pv 0) (pa_cons (pe_callB call_len_str (by rfl) T.b_len PySem.boot_len (pa_cons (pv 1) pa_nil)) pa_nil))) (fun _ _ => rfl)))
      (pss_cons (ps_if (pt_cmpR op_gt (pv 6) pe_int (nomark _)) (pss_one (ps_set (i := 7) sc__law_text.nd rfl (Or.inl rfl) (pe_op op_mul_text (pe_ix ix_list (pv 2) (C8.pe_c c__law_draw hr (by first | decide | omega) (by rfl) (pa_cons (pv 0) (pa_cons (pe_callB call_len_seq (by rfl) T.b_len PySem.boot_len (pa_cons (pv 2) pa_nil)) pa_nil))) (fun _ _ => rfl)) (pe_ix ix_list (pe_lst (pa_cons pe_int (pa_cons pe_int (pa_cons pe_int (pa_cons pe_int pa_nil))))) (pe_op op_sub (pv 6) pe_int) (fun _ _ => rfl))))) pss_nil)
      (pss_cons (ps_if (pt_cmpR op_eq (pv 6) pe_int (nomark _)) (pss_one (ps_set (i := 7) sc__law_text.nd rfl (Or.inl rfl) (pe_slice sl_str (pv 1) (po_some (pe_bm PySem.F.plainAttrs_str PySem.F.slot_str_find PySem.F.type_str_find mt_find (pv 1) (pa_cons (pv 7) pa_nil))) po_none))) pss_nil)
      (pss_one (ps_set (i := 4) sc__law_text.nd rfl (Or.inl rfl) (pe_op op_add_str (pv 4) (pv 7)))))))) pss_nil)))
      (pss_one (ps_ret (pe_slice sl_str (pv 4) po_none (po_some (pv 3))))))), ?_⟩
    have hSl : (S al).length ≤ sizeLine := by rw [S_len]; exact small_le (by omega)
    refine ⟨_, rfl, _, rfl, _, _, rfl, rfl, p, _, rfl, hP, by omega, fun H1 r1 s1 hr1 => ⟨_, rfl, by omega, by omega, ?_⟩⟩
    refine for_it walk_range (fun i σ H' => ∃ (t : List Nat) (v5 v6 v7 : Option V), σ = [some (.ref p), some (.str (S al)), some (.ref tx), some (.int (most : Int)), some (.str (S t)), v5, v6, v7] ∧ PSame p H H' ∧ (∀ c ∈ t, c ∈ al) ∧ t.length ≤ 400)
      ⟨[], none, none, none, rfl, s1, fun c hc => (List.not_mem_nil hc).elim, by decide⟩ (fun _ _ _ _ _ => trivial) ?_ ?_
    · rintro i x σ Ha Hb hi ⟨t, v5, v6, v7, rfl, sa, htm, htl⟩ ⟨rfl, hx⟩
      have hStl : (S t).length ≤ sizeLine := by rw [S_len]; exact small_le (by omega)
      refine ⟨_, rfl, S t, rfl, hStl, _, rfl, _, _, rfl, rfl, _, rfl, ?_⟩
      rw [S_len]
      by_cases hlt : t.length < most
      · rw [decide_eq_true (by omega : (t.length : Int) < (most : Int))]
        refine iteT ⟨_, rfl, p, 8, rfl, sa.at1, by decide, fun H2 way s2 hway => ?_⟩
        have sa2 := sa.trans s2
        refine ⟨_, rfl, _, rfl, _, rfl, S al, rfl, hSl, ?_⟩
        rw [S_len]
        refine ⟨p, _, rfl, s2.at1, by omega, fun H3 r3 s3 hr3 => ?_⟩
        have sa3 := sa2.trans s3
        obtain ⟨c, hc⟩ : ∃ c, al[r3]? = some c := ⟨_, List.getElem?_eq_getElem (by omega)⟩
        refine ⟨S al, _, c, rfl, rfl, hSl, atI_nat hc, ?_⟩
        dsimp only [gName]
        refine ⟨_, rfl, _, _, rfl, rfl, _, rfl, ?_⟩
        obtain ⟨e, he⟩ : ∃ e : Bool, e = decide ((3 : Int) < (way : Int)) := ⟨_, rfl⟩
        show (if decide ((3 : Int) < (way : Int)) = true then _ else _)
        rw [← he]
        generalize hM : tSeq (tIfS _ _ _) _ _ = M
        have key : ∀ (part : List Nat) (H4 : Hp), PSame p H H4 → (∀ c ∈ part, c ∈ al) → part.length ≤ 300 → M [some (.ref p), some (.str (S al)), some (.ref tx), some (.int (most : Int)), some (.str (S t)), some x, some (.int (way : Int)), some (.str (S part))] H4 := by
          intro part H4 s4 hpm hpl
          rw [← hM]
          show tTest _ _ _ _
          generalize hM2 : tAsg (tOp _ (tVar 4) (tVar 7)) _ _ = M2
          have key2 : ∀ (part : List Nat), (∀ c ∈ part, c ∈ al) → part.length ≤ 300 → M2 [some (.ref p), some (.str (S al)), some (.ref tx), some (.int (most : Int)), some (.str (S t)), some x, some (.int (way : Int)), some (.str (S part))] H4 := by
            intro part hpm hpl
            rw [← hM2]
            refine ⟨_, rfl, _, rfl, S t, S part, rfl, rfl, by rw [S_len, S_len]; exact small_le (by omega), t ++ part, some x, some (.int (way : Int)), some (.str (S part)), congrArg (fun z : Str => [some (V.ref p), some (.str (S al)), some (.ref tx), some (.int (most : Int)), some (.str z), some x, some (.int (way : Int)), some (.str (S part))]) (S_cat t part), s4, fun c hc => ?_, by rw [List.length_append]; omega⟩
            rcases List.mem_append.mp hc with z | z
            · exact htm c z
            · exact hpm c z
          refine ⟨_, rfl, rfl, _, rfl, ?_⟩
          obtain ⟨e3, he3⟩ : ∃ e : Bool, e = decide (V.int (way : Int) = V.int 3) := ⟨_, rfl⟩
          show (if decide (V.int (way : Int) = V.int 3) = true then _ else _)
          rw [← he3]
          cases e3 with
          | false => exact iteF (key2 part hpm hpl)
          | true =>
            obtain ⟨u, eu, hul, hum⟩ := cutS_sub al (some (Txt.find (S al) (S part))) none
            refine iteT ⟨_, rfl, _, rfl, rfl, _, rfl, S al, S part, rfl, rfl, _, rfl, S al, rfl, hSl, ?_⟩
            rw [eu]
            exact key2 u hum (by omega)
        cases e with
        | false => exact iteF (key [c] H3 sa3 (fun d hd => by rw [List.mem_singleton.mp hd]; exact List.mem_of_getElem? hc) (by rw [List.length_singleton]; omega))
        | true =>
          have hw3 : 3 < way := by have := of_decide_eq_true he.symm; omega
          have htx3 := sa3.lst htp htx
          have hLt : (strV (textsOf al ps)).length = al.length + ps.length := by rw [strV_len, textsOf_len]
          refine iteT ⟨_, rfl, _, rfl, _, rfl, tx, _, rfl, .inl (SqL.of htx3), p, _, rfl, sa3.at1, by rw [hLt]; omega, fun H4 r4 s4 hr4 => ?_⟩
          rw [hLt] at hr4
          have sa4 := sa3.trans s4
          have hr4T : r4 < (textsOf al ps).length := by rw [textsOf_len]; omega
          obtain ⟨u, hu⟩ : ∃ u, u = (textsOf al ps).getD r4 [] := ⟨_, rfl⟩
          have hul : u.length ≤ 40 := by rw [hu]; exact getD_short hprop.short r4
          have hum : ∀ c ∈ u, c ∈ al := fun c hc => by
            rw [hu] at hc
            rcases getD_mem_or (ts := textsOf al ps) (i := r4) with m | m
            · exact textsOf_al _ m c hc
            · rw [m] at hc; cases hc
          refine ⟨tx, _, _, _, rfl, rfl, SqL.of (s4.lst htp htx3), atI_nat (strV_at hr4T), by show 4 ≤ sizeLine; decide, fun L hL => ?_⟩
          rw [← hu]
          obtain ⟨m, hm7, hsel⟩ : ∃ m : Nat, m ≤ 7 ∧ atI [V.int 1, V.int 1, V.int 1, V.int 7] ((way : Int) - 4) = some (V.int (m : Int)) := by
            have : way = 4 ∨ way = 5 ∨ way = 6 ∨ way = 7 := by omega
            rcases this with rfl | rfl | rfl | rfl
            · exact ⟨1, by decide, rfl⟩
            · exact ⟨1, by decide, rfl⟩
            · exact ⟨1, by decide, rfl⟩
            · exact ⟨7, by decide, rfl⟩
          obtain ⟨tt, ett, httm, httl⟩ := mulB u m
          refine ⟨_, rfl, _, _, rfl, rfl, L, _, _, _, rfl, rfl, SqL.of upd_same, hsel, S u, (m : Int), rfl, rfl, mulB_ok hul hm7, ?_⟩
          rw [ett]
          have : u.length * m ≤ 40 * 7 := Nat.mul_le_mul hul hm7
          exact key tt _ (sa4.new hL) (fun c hc => hum c (httm c hc)) (by omega)
      · rw [decide_eq_false (by omega : ¬ (t.length : Int) < (most : Int))]
        exact iteF ⟨t, _, _, _, rfl, sa, htm, htl⟩
    · rintro σ H2 ⟨t, v5, v6, v7, rfl, sa, htm, htl⟩
      refine ⟨_, rfl, _, rfl, _, rfl, S t, rfl, by rw [S_len]; exact small_le (by omega), ?_⟩
      rw [cutS_take]
      exact q H2 _ sa (fun c hc => htm c (List.mem_of_mem_take hc)) (by rw [List.length_take]; omega)
end
end RJ
end

section
set_option maxRecDepth 100000
set_option maxHeartbeats 4000000
namespace RJ
open PySem PySem.Spec PyProof.Rows L2
/-- len(o) by the class's own __len__ -/
theorem call_lenOwn {X : Cx} {k : Nat} {C : Addr} {sp : Sp} (m : C8.Met X.prog X.w X.K X.mg X.base k C "__len__" sp []) (hr : Room (k + 1) X.A) :
    CallR X (.builtin "len") (fun xs H Q => ∃ (a dx : Addr) (fs : List (Str × V)), xs = [.ref a] ∧ H a = some (.ins C dx fs) ∧ sp [.ref a] H (fun v H1 => ∃ n : Nat, v = .int (n : Int) ∧ n < 2 ^ 62 ∧ Q (.int (n : Int)) H1) C8.E0) := by
  intro pins s σ H xs us Q I r h
  obtain ⟨a, dx, fs, rfl, ha, q⟩ := h
  obtain ⟨f, fd, ps, ds, hc, hm, F, b, d⟩ := m.ex
  rw [Vals.ref1 r]
  obtain ⟨mA, O, _⟩ := ins_get I.hok ha
  obtain ⟨od, inst, _⟩ := O.look
  obtain ⟨mm, fr⟩ := I.fr
  refine PySem.W.len_K fr I.ok.mod.kin inst hm.at_ hm.fn ?_
  have vals : Vals ([V.ref a] ++ []) ([Value.ref a] ++ ds) := Vals.append (.cons rfl .nil) d
  have hl : ([Value.ref a] ++ ds).length = ps.length := by rw [← vals.length]; exact F.len _ _ _ _ q
  refine wpAny_call (codeAny_mono (F.run X.A.in1 X.stack s H ⟨[.ref a], []⟩ ([.ref a] ++ ds) ([.ref a] ++ []) _ C8.E0 hr.in1 I.env0.in1 (b s [.ref a] I.kIn hl) vals q) fun r s' hq => ?_)
  cases r with
  | error e => exact False.elim hq
  | ok fl =>
    cases fl with
    | ret u =>
      obtain ⟨v, H', J, rv, n, rfl, hn, qn⟩ := I.after hq
      obtain ⟨t, rfl⟩ := rv
      exact ⟨⟨by omega, by omega⟩, .int (n : Int), H', J.tok _, ⟨_, rfl⟩, qn⟩
    | next => exact False.elim hq
    | brk => exact False.elim hq
    | cont => exact False.elim hq
end RJ
end

section
set_option maxRecDepth 100000
set_option maxHeartbeats 4000000
namespace RJ
open PySem PySem.Spec PyProof.Rows L2
abbrev s_check_number : Stmt := top 14
abbrev N_check_number : List Str := ["number", "end"]
theorem sc_check_number : FnScope N_check_number ["number", "end"] (C8.fnScope s_check_number) := C8.fnScope_by (by decide +kernel)
abbrev s_Joins___len__ : Stmt := inClass (top 28) 2
abbrev N_Joins___len__ : List Str := ["self"]
theorem sc_Joins___len__ : FnScope N_Joins___len__ ["self"] (C8.fnScope s_Joins___len__) := C8.fnScope_by (by decide +kernel)
def sp_check_number : Sp := fun vs H Q _ => ∃ (i n : Int), vs = [.int i, .int n] ∧ 0 ≤ i ∧ i < n ∧ Q .non H
def sp_len (C : Addr) : Sp := fun vs H Q _ => ∃ (p : Addr) (al : List Nat) (ps : List (Nat × Nat)), vs = [.ref p] ∧ JoinsAt C H p al ps ∧ Q (.int (ps.length : Int)) H
def sp_join_allP (C : Addr) : Sp := fun vs H Q _ => ∃ (p a : Addr) (b : Bool) (row al : List Nat) (ps : List (Nat × Nat)) (r : Nat) (pr : Nat × Nat), vs = [.ref p, .ref a, .int (r : Int)] ∧ JoinsAt C H p al ps ∧ WF al.length ps ∧ ps.length ≤ 1000 ∧ RowAt b H a row ∧ row.length ≤ 1000 ∧ al.length ≤ 1000 ∧ ps[r]? = some pr ∧
  ∀ H' q, Same H H' → H' q = some (.tup (iv (pass pr.1 pr.2 (al.length + r) row))) → Q (.ref q) H'
def sp_stagedP (C : Addr) : Sp := fun vs H Q _ => ∃ (p a : Addr) (b : Bool) (row al : List Nat) (ps : List (Nat × Nat)) (m : Nat), vs = [.ref p, .ref a, .int (m : Int)] ∧ JoinsAt C H p al ps ∧ WF al.length ps ∧ ps.length ≤ 1000 ∧ RowAt b H a row ∧ row.length ≤ 1000 ∧ al.length ≤ 1000 ∧ m ≤ ps.length ∧
  ∀ H' q, Same H H' → H' q = some (.tup (iv (cutL al.length (ps.take m) row))) → Q (.ref q) H'
/-- the changes by the joins -/
def hist (b : Nat) (ps : List (Nat × Nat)) (row : List Nat) (n : Nat) : List (Nat × List Nat) := (List.range n).filterMap fun i => if cutL b (ps.take (i + 1)) row = cutL b (ps.take i) row then none else some (i, cutL b (ps.take (i + 1)) row)
theorem hist_succ (b : Nat) (ps : List (Nat × Nat)) (row : List Nat) (n : Nat) : hist b ps row (n + 1) = hist b ps row n ++ (if cutL b (ps.take (n + 1)) row = cutL b (ps.take n) row then [] else [(n, cutL b (ps.take (n + 1)) row)]) := by
  unfold hist
  rw [List.range_succ, List.filterMap_append]
  congr 1
  rw [List.filterMap_cons, List.filterMap_nil]
  split <;> rename_i h
  · split at h
    · rename_i c; rw [if_pos c]
    · cases h
  · split at h
    · cases h
    · rename_i c; rw [if_neg c]; cases h; rfl
theorem hist_len (b : Nat) (ps : List (Nat × Nat)) (row : List Nat) (n : Nat) : (hist b ps row n).length ≤ n := by
  unfold hist
  have := List.length_filterMap_le (fun i => if cutL b (ps.take (i + 1)) row = cutL b (ps.take i) row then none else some (i, cutL b (ps.take (i + 1)) row)) (List.range n)
  rwa [List.length_range] at this
def HistAt (H : Hp) (v : V) (e : Nat × List Nat) : Prop := ∃ q z, v = .ref q ∧ H q = some (.tup [.int (e.1 : Int), .ref z]) ∧ H z = some (.tup (iv e.2))
theorem HistAt.same {H H' : Hp} {v : V} {e : Nat × List Nat} (s : SameT H H') (h : HistAt H v e) : HistAt H' v e := by
  obtain ⟨q, z, h1, h2, h3⟩ := h
  exact ⟨q, z, h1, s _ _ h2, s _ _ h3⟩
def sp_historyP (C : Addr) : Sp := fun vs H Q _ => ∃ (p : Addr) (t al : List Nat) (ps : List (Nat × Nat)), vs = [.ref p, .str (S t)] ∧ JoinsAt C H p al ps ∧ WF al.length ps ∧ ps.length ≤ 500 ∧ (∀ c ∈ t, c ∈ al) ∧ t.length ≤ 1000 ∧ al.length ≤ 1000 ∧
  ∀ H' q us, Same H H' → H' q = some (.tup us) → Paired (HistAt H') us (hist al.length ps (lets al t) ps.length) → Q (.ref q) H'
theorem WF.ne {b : Nat} {ps : List (Nat × Nat)} (h : WF b ps) {r : Nat} {p : Nat × Nat} (e : ps[r]? = some p) : b + r ≠ p.1 := by have := (h r p e).1; omega
section
variable {P : Program} {w : World} {K : PySem.W.Frag} {mg : Str → Option Value} {base : Heap}
theorem ok_check_number {f : Addr} {fd : FuncData} (F : C8.Fun K "check_number" "check_number" s_check_number f fd) (T : Txt K mg) (c_is_number_below : C8.Cal P w K mg base 2 "is_number_below" sp_is_number_below []) : FnOk P w K mg base C8.CX0 3 f fd ["number", "end"] sp_check_number := by
  refine C8.fn0 F sc_check_number (fun vs H Q E h => ?_) (fun cdv A outer s H vs Q E hr h => ?_)
  · obtain ⟨i, n, rfl, _⟩ := h; rfl
  · obtain ⟨i, n, rfl, h0, h1, q⟩ := h
    refine ⟨_, (pss_one (ps_if (pt_not (pt_val (C8.pe_c c_is_number_below hr (by first | decide | omega) (by rfl) (pa_cons (pv 0) (pa_cons (pv 1) pa_nil))))) (pss_one ps_never) pss_nil)), ?_⟩
    refine ⟨_, rfl, _, rfl, .int i, n, rfl, .int i, _, rfl, ?_⟩
    have e : numBelow (.int i) n = true := by show (decide (0 ≤ i) && decide (i < n)) = true; rw [decide_eq_true h0, decide_eq_true h1]; rfl
    rw [e]
    exact iteF q
theorem ok_len {f C : Addr} {fd : FuncData} (F : C8.Fun K "__len__" "Joins.__len__" s_Joins___len__ f fd) (T : Txt K mg) (J : JTxt K C) : FnOk P w K mg base C8.CX0 1 f fd ["self"] (sp_len C) := by
  refine C8.fn0 F sc_Joins___len__ (fun vs H Q E h => ?_) (fun cdv A outer s H vs Q E hr h => ?_)
  · obtain ⟨p, al, ps, rfl, _⟩ := h; rfl
  · obtain ⟨p, al, ps, rfl, ⟨dx, t, tx, d, e, ws, h1, h2, h3, h4, h5, h6⟩, q⟩ := h
    refine ⟨_, (pss_one (ps_ret (pe_callB call_len_seq (by rfl) T.b_len PySem.boot_len (pa_cons (pe_fld (pv 0) rfl) pa_nil)))), ?_⟩
    refine ⟨_, rfl, p, C, dx, _, _, rfl, h1, J.cl, J.n2, f5_pairs al t tx d e, t, ws, rfl, .inr (SqT.of h2), ?_⟩
    rw [h3.length]; exact q
end
end RJ
end

section
set_option maxRecDepth 100000
set_option maxHeartbeats 4000000
namespace RJ
open PySem PySem.Spec PyProof.Rows L2
abbrev s_Page___init__ : Stmt := inClass (top 24) 0
abbrev N_Page___init__ : List Str := ["self", "joins", "text"]
theorem sc_Page___init__ : FnScope N_Page___init__ ["self", "joins", "text"] (C8.fnScope s_Page___init__) := C8.fnScope_by (by decide +kernel)
abbrev s_Page_content : Stmt := inClass (top 24) 1
abbrev N_Page_content : List Str := ["self"]
theorem sc_Page_content : FnScope N_Page_content ["self"] (C8.fnScope s_Page_content) := C8.fnScope_by (by decide +kernel)
abbrev s_Page_cut_row : Stmt := inClass (top 24) 2
abbrev N_Page_cut_row : List Str := ["self"]
theorem sc_Page_cut_row : FnScope N_Page_cut_row ["self"] (C8.fnScope s_Page_cut_row) := C8.fnScope_by (by decide +kernel)
abbrev s_Page___len__ : Stmt := inClass (top 24) 3
abbrev N_Page___len__ : List Str := ["self"]
theorem sc_Page___len__ : FnScope N_Page___len__ ["self"] (C8.fnScope s_Page___len__) := C8.fnScope_by (by decide +kernel)
abbrev s_Page_put_in : Stmt := inClass (top 24) 4
abbrev N_Page_put_in : List Str := ["self", "at", "text"]
theorem sc_Page_put_in : FnScope N_Page_put_in ["self", "at", "text"] (C8.fnScope s_Page_put_in) := C8.fnScope_by (by decide +kernel)
abbrev s_Page_take_out : Stmt := inClass (top 24) 5
abbrev N_Page_take_out : List Str := ["self", "at", "many"]
theorem sc_Page_take_out : FnScope N_Page_take_out ["self", "at", "many"] (C8.fnScope s_Page_take_out) := C8.fnScope_by (by decide +kernel)
abbrev s_Page_change_to : Stmt := inClass (top 24) 6
abbrev N_Page_change_to : List Str := ["self", "text"]
theorem sc_Page_change_to : FnScope N_Page_change_to ["self", "text"] (C8.fnScope s_Page_change_to) := C8.fnScope_by (by decide +kernel)
abbrev s_Page_undo : Stmt := inClass (top 24) 7
abbrev N_Page_undo : List Str := ["self"]
theorem sc_Page_undo : FnScope N_Page_undo ["self"] (C8.fnScope s_Page_undo) := C8.fnScope_by (by decide +kernel)
abbrev s_Page_redo : Stmt := inClass (top 24) 8
abbrev N_Page_redo : List Str := ["self"]
theorem sc_Page_redo : FnScope N_Page_redo ["self"] (C8.fnScope s_Page_redo) := C8.fnScope_by (by decide +kernel)
structure PTxt (K : PySem.W.Frag) (CP : Addr) : Prop where
  cl : Cls K CP
  p1 : NoAttr K CP "_joins"
  p2 : NoAttr K CP "_text"
  p3 : NoAttr K CP "_behind"
  p4 : NoAttr K CP "_ahead"
theorem cutS_uptoP (l : List Nat) (k : Nat) : cutS (S l) none (some (k : Int)) = S (l.take k) := by
  show (⟨(((S l).cps.toList.drop (HT.sIx (S l).length 0 none)).take (HT.sIx (S l).length (S l).length (some (k : Int)) - HT.sIx (S l).length 0 none)).toArray⟩ : Str) = ⟨(l.take k).toArray⟩
  rw [HT.sIx_nat, HT.sIx_none, S_len]
  have e : (l.drop 0).take (min k l.length - 0) = l.take k := by
    rw [List.drop_zero, Nat.sub_zero]
    by_cases h : k ≤ l.length
    · rw [Nat.min_eq_left h]
    · rw [Nat.min_eq_right (by omega), List.take_length, List.take_of_length_le (by omega)]
  exact congrArg (fun z : List Nat => (⟨z.toArray⟩ : Str)) e
theorem cutS_fromP (l : List Nat) (k : Nat) : cutS (S l) (some (k : Int)) none = S (l.drop k) := by
  show (⟨(((S l).cps.toList.drop (HT.sIx (S l).length 0 (some (k : Int)))).take (HT.sIx (S l).length (S l).length none - HT.sIx (S l).length 0 (some (k : Int)))).toArray⟩ : Str) = ⟨(l.drop k).toArray⟩
  rw [HT.sIx_nat, HT.sIx_none, S_len]
  have e : (l.drop (min k l.length)).take (l.length - min k l.length) = l.drop k := by
    by_cases h : k ≤ l.length
    · rw [Nat.min_eq_left h, List.take_of_length_le (by rw [List.length_drop]; omega)]
    · rw [Nat.min_eq_right (by omega), List.drop_eq_nil_of_le (by omega : l.length ≤ k), List.drop_length, List.take_nil]
  exact congrArg (fun z : List Nat => (⟨z.toArray⟩ : Str)) e
/-- a page's fields: the list, the text, the texts behind, the texts ahead -/
def pgF (j b a : Addr) (t : List Nat) : List (Str × V) := [("_joins", .ref j), ("_text", .str (S t)), ("_behind", .ref b), ("_ahead", .ref a)]
theorem pgF_joins (j b a : Addr) (t : List Nat) : (pgF j b a t).lookup ("_joins" : Str) = some (.ref j) := rfl
theorem pgF_text (j b a : Addr) (t : List Nat) : (pgF j b a t).lookup ("_text" : Str) = some (.str (S t)) := rfl
theorem pgF_behind (j b a : Addr) (t : List Nat) : (pgF j b a t).lookup ("_behind" : Str) = some (.ref b) := rfl
theorem pgF_ahead (j b a : Addr) (t : List Nat) : (pgF j b a t).lookup ("_ahead" : Str) = some (.ref a) := rfl
theorem pgF_no (j b a : Addr) (t : List Nat) {m : Str} (h1 : ¬ m = "_joins") (h2 : ¬ m = "_text") (h3 : ¬ m = "_behind") (h4 : ¬ m = "_ahead") : (pgF j b a t).lookup m = none := by
  unfold pgF
  rw [List.lookup_cons, beq_false_of_ne h1, List.lookup_cons, beq_false_of_ne h2, List.lookup_cons, beq_false_of_ne h3, List.lookup_cons, beq_false_of_ne h4]; rfl
theorem pgF_putT (j b a : Addr) (t u : List Nat) : putF "_text" (.str (S u)) (pgF j b a t) = pgF j b a u := rfl
theorem pgF_putA (j b a c : Addr) (t : List Nat) : putF "_ahead" (.ref c) (pgF j b a t) = pgF j b c t := rfl
theorem strV_last (bs : List (List Nat)) (x : List Nat) : (strV (bs ++ [x]))[(strV (bs ++ [x])).length - 1]? = some (.str (S x)) := by
  rw [← strV_snoc, List.length_append, List.length_singleton, Nat.add_sub_cancel, List.getElem?_append_right (Nat.le_refl _), Nat.sub_self]; rfl
theorem strV_drop (bs : List (List Nat)) (x : List Nat) : (strV (bs ++ [x])).dropLast = strV bs := by rw [← strV_snoc, List.dropLast_concat]
theorem pgF_new (j b a : Addr) (t : List Nat) : putF "_ahead" (.ref a) (putF "_behind" (.ref b) (putF "_text" (.str (S t)) (putF "_joins" (.ref j) []))) = pgF j b a t := rfl
def PageAt (CP : Addr) (H : Hp) (pg j b a : Addr) (t : List Nat) (bs as : List (List Nat)) : Prop := ∃ dx, H pg = some (.ins CP dx (pgF j b a t)) ∧ H b = some (.lst (strV bs)) ∧ H a = some (.lst (strV as)) ∧ b ≠ a
theorem PageAt.same {CP : Addr} {H H' : Hp} {pg j b a : Addr} {t : List Nat} {bs as : List (List Nat)} (h : PageAt CP H pg j b a t bs as) (s : Same H H') : PageAt CP H' pg j b a t bs as := by
  obtain ⟨dx, h1, h2, h3, h4⟩ := h
  exact ⟨dx, s _ _ h1, s _ _ h2, s _ _ h3, h4⟩
/-- all but a page's own things as it was -/
def PFr (pg b a : Addr) (H H' : Hp) : Prop := ∀ x o, x ≠ pg → x ≠ b → x ≠ a → H x = some o → H' x = some o
def sp_content (CP : Addr) : Sp := fun vs H Q _ => ∃ (pg j b a : Addr) (t : List Nat) (bs as : List (List Nat)), vs = [.ref pg] ∧ PageAt CP H pg j b a t bs as ∧ Q (.str (S t)) H
def sp_plen (CP : Addr) : Sp := fun vs H Q _ => ∃ (pg j b a : Addr) (t : List Nat) (bs as : List (List Nat)), vs = [.ref pg] ∧ PageAt CP H pg j b a t bs as ∧ t.length ≤ 1000 ∧ Q (.int (t.length : Int)) H
def sp_cut_row (C CP : Addr) : Sp := fun vs H Q _ => ∃ (pg j b a : Addr) (t al : List Nat) (bs as : List (List Nat)) (ps : List (Nat × Nat)), vs = [.ref pg] ∧ PageAt CP H pg j b a t bs as ∧ JoinsAt C H j al ps ∧ WF al.length ps ∧ (∀ c ∈ t, c ∈ al) ∧ t.length ≤ 1000 ∧ al.length ≤ 1000 ∧
  ∀ H' q, Same H H' → H' q = some (.tup (iv (cutL al.length ps (lets al t)))) → Q (.ref q) H'
/-- how an edit leaves a page -/
def Edited (CP : Addr) (pg j b a : Addr) (t u : List Nat) (bs as : List (List Nat)) (H : Hp) (Q : VK) : Prop := ∀ H' a' bs' as', PFr pg b a H H' → PageAt CP H' pg j b a' u bs' as' → (u = t ∧ a' = a ∧ bs' = bs ∧ as' = as ∨ u ≠ t ∧ H a' = none ∧ bs' = bs ++ [t] ∧ as' = []) → Q .non H'
def sp_change (CP : Addr) : Sp := fun vs H Q _ => ∃ (pg j b a : Addr) (t u : List Nat) (bs as : List (List Nat)), vs = [.ref pg, .str (S u)] ∧ PageAt CP H pg j b a t bs as ∧ bs.length ≤ 10000 ∧ Edited CP pg j b a t u bs as H Q
def sp_put (C CP : Addr) : Sp := fun vs H Q _ => ∃ (pg j b a : Addr) (t m al : List Nat) (bs as : List (List Nat)) (ps : List (Nat × Nat)) (i : Nat), vs = [.ref pg, .int (i : Int), .str (S m)] ∧ PageAt CP H pg j b a t bs as ∧ JoinsAt C H j al ps ∧ i ≤ t.length ∧ t.length ≤ 400 ∧ m.length ≤ 400 ∧ (∀ c ∈ m, c ∈ al) ∧ bs.length ≤ 10000 ∧ 1 ≤ al.length ∧
  Edited CP pg j b a t (t.take i ++ m ++ t.drop i) bs as H Q
def sp_take (CP : Addr) : Sp := fun vs H Q _ => ∃ (pg j b a : Addr) (t : List Nat) (bs as : List (List Nat)) (i m : Nat), vs = [.ref pg, .int (i : Int), .int (m : Int)] ∧ PageAt CP H pg j b a t bs as ∧ i + m ≤ t.length ∧ t.length ≤ 400 ∧ bs.length ≤ 10000 ∧
  Edited CP pg j b a t (t.take i ++ t.drop (i + m)) bs as H Q
def sp_undo (CP : Addr) : Sp := fun vs H Q _ => ∃ (pg j b a : Addr) (t x : List Nat) (bs as : List (List Nat)), vs = [.ref pg] ∧ PageAt CP H pg j b a t (bs ++ [x]) as ∧ as.length ≤ 10000 ∧ ∀ H', PFr pg b a H H' → PageAt CP H' pg j b a x bs (as ++ [t]) → Q (.bl true) H'
def sp_redo (CP : Addr) : Sp := fun vs H Q _ => ∃ (pg j b a : Addr) (t x : List Nat) (bs as : List (List Nat)), vs = [.ref pg] ∧ PageAt CP H pg j b a t bs (as ++ [x]) ∧ bs.length ≤ 10000 ∧ ∀ H', PFr pg b a H H' → PageAt CP H' pg j b a x (bs ++ [t]) as → Q (.bl true) H'
def sp_pinit (C CP : Addr) : Sp := fun vs H Q _ => ∃ (pg j dx : Addr) (t al : List Nat) (ps : List (Nat × Nat)), vs = [.ref pg, .ref j, .str (S t)] ∧ H pg = some (.ins CP dx []) ∧ JoinsAt C H j al ps ∧ (∀ c ∈ t, c ∈ al) ∧ t.length ≤ 1000 ∧
  ∀ H' b a, SameX pg H H' → H b = none → H a = none → b ≠ pg → a ≠ pg → PageAt CP H' pg j b a t [] [] → Q .non H'
section
variable {P : Program} {w : World} {K : PySem.W.Frag} {mg : Str → Option Value} {base : Heap}
theorem ok_content {f CP : Addr} {fd : FuncData} (F : C8.Fun K "content" "Page.content" s_Page_content f fd) (T : Txt K mg) (JP : PTxt K CP) : FnOk P w K mg base C8.CX0 1 f fd ["self"] (sp_content CP) := by
  refine C8.fn0 F sc_Page_content (fun vs H Q E h => ?_) (fun cdv A outer s H vs Q E hr h => ?_)
  · obtain ⟨pg, j, b, a, t, bs, as, rfl, _⟩ := h; rfl
  · obtain ⟨pg, j, b, a, t, bs, as, rfl, ⟨dx, h1, h2, h3, h4⟩, q⟩ := h
    refine ⟨_, (pss_one (ps_ret (pe_fld (pv 0) rfl))), ?_⟩
    exact ⟨_, rfl, pg, CP, dx, _, _, rfl, h1, JP.cl, JP.p2, pgF_text j b a t, q⟩
theorem ok_plen {f CP : Addr} {fd : FuncData} (F : C8.Fun K "__len__" "Page.__len__" s_Page___len__ f fd) (T : Txt K mg) (JP : PTxt K CP) : FnOk P w K mg base C8.CX0 1 f fd ["self"] (sp_plen CP) := by
  refine C8.fn0 F sc_Page___len__ (fun vs H Q E h => ?_) (fun cdv A outer s H vs Q E hr h => ?_)
  · obtain ⟨pg, j, b, a, t, bs, as, rfl, _⟩ := h; rfl
  · obtain ⟨pg, j, b, a, t, bs, as, rfl, ⟨dx, h1, h2, h3, h4⟩, hl, q⟩ := h
    refine ⟨_, (pss_one (ps_ret (pe_callB call_len_str (by rfl) T.b_len PySem.boot_len (pa_cons (pe_fld (pv 0) rfl) pa_nil)))), ?_⟩
    refine ⟨_, rfl, pg, CP, dx, _, _, rfl, h1, JP.cl, JP.p2, pgF_text j b a t, S t, rfl, by rw [S_len]; exact small_le hl, ?_⟩
    rw [S_len]; exact q
theorem ok_cut_row {f C CP : Addr} {fd : FuncData} (F : C8.Fun K "cut_row" "Page.cut_row" s_Page_cut_row f fd) (T : Txt K mg) (JP : PTxt K CP) (c_cut : C8.Cal P w K mg base 4 "cut" (sp_cut C) []) : FnOk P w K mg base C8.CX0 5 f fd ["self"] (sp_cut_row C CP) := by
  refine C8.fn0 F sc_Page_cut_row (fun vs H Q E h => ?_) (fun cdv A outer s H vs Q E hr h => ?_)
  · obtain ⟨pg, j, b, a, t, al, bs, as, ps, rfl, _⟩ := h; rfl
  · obtain ⟨pg, j, b, a, t, al, bs, as, ps, rfl, ⟨dx, h1, h2, h3, h4⟩, hj, hw, ht, hl, hal, q⟩ := h
    refine ⟨_, (pss_one (ps_ret (C8.pe_c c_cut hr (by first | decide | omega) (by rfl) (pa_cons (pe_fld (pv 0) rfl) (pa_cons (pe_fld (pv 0) rfl) pa_nil))))), ?_⟩
    refine ⟨_, rfl, pg, CP, dx, _, _, rfl, h1, JP.cl, JP.p1, pgF_joins j b a t, _, rfl, pg, CP, dx, _, _, rfl, h1, JP.cl, JP.p2, pgF_text j b a t, ?_⟩
    exact ⟨j, t, al, ps, rfl, hj, hw, ht, hl, hal, fun H' q' s' hq => q H' q' s' hq⟩
theorem ok_change {f CP : Addr} {fd : FuncData} (F : C8.Fun K "change_to" "Page.change_to" s_Page_change_to f fd) (T : Txt K mg) (JP : PTxt K CP) : FnOk P w K mg base C8.CX0 1 f fd ["self", "text"] (sp_change CP) := by
  refine C8.fn0 F sc_Page_change_to (fun vs H Q E h => ?_) (fun cdv A outer s H vs Q E hr h => ?_)
  · obtain ⟨pg, j, b, a, t, u, bs, as, rfl, _⟩ := h; rfl
  · obtain ⟨pg, j, b, a, t, u, bs, as, rfl, ⟨dx, h1, h2, h3, h4⟩, hbl, q⟩ := h
    refine ⟨_, (pss_one (ps_if (pt_cmpR op_ne (pv 1) (pe_fld (pv 0) rfl) (nomark _)) (pss_cons (ps_expr (pe_bm PySem.F.plainAttrs_list PySem.F.slot_list_append PySem.F.type_list_append mt_append (pe_fld (pv 0) rfl) (pa_cons (pe_fld (pv 0) rfl) pa_nil)))
      (pss_cons (ps_fld (pv 0) (pe_lst pa_nil) rfl)
      (pss_one (ps_fld (pv 0) (pv 1) rfl)))) pss_nil)), ?_⟩
    refine ⟨_, rfl, _, rfl, pg, CP, dx, _, _, rfl, h1, JP.cl, JP.p2, pgF_text j b a t, rfl, _, rfl, ?_⟩
    by_cases hu : u = t
    · subst hu
      rw [decide_eq_true rfl]
      exact iteF (q H a bs as (fun _ _ _ _ _ e => e) ⟨dx, h1, h2, h3, h4⟩ (.inl ⟨rfl, rfl, rfl, rfl⟩))
    · rw [decide_eq_false (fun e => hu (S_inj (V.str.inj e)))]
      have hbp : b ≠ pg := ne_of h2 h1 (fun z => by cases z)
      have hap : a ≠ pg := ne_of h3 h1 (fun z => by cases z)
      refine iteT ⟨_, rfl, pg, CP, dx, _, _, rfl, h1, JP.cl, JP.p3, pgF_behind j b a t, ?_⟩
      have hlb : (strV bs).length < sizeLine := by rw [strV_len]; exact smallB (by omega)
      refine ⟨.inl ⟨rfl, _, SqL.of h2⟩, _, rfl, pg, CP, dx, _, _, rfl, h1, JP.cl, JP.p2, pgF_text j b a t, b, _, _, rfl, rfl, h2, hlb, ?_⟩
      rw [strV_snoc]
      refine ⟨Nat.zero_le _, fun c hc => ?_⟩
      have e1 : (upd H b (.lst (strV (bs ++ [t])))) pg = some (.ins CP dx (pgF j b a t)) := (upd_ne (Ne.symm hbp)).trans h1
      have hcH : H c = none := by
        cases e : H c with
        | none => rfl
        | some o =>
          by_cases hcb : c = b
          · subst hcb; rw [upd_same] at hc; cases hc
          · rw [upd_ne hcb, e] at hc; cases hc
      have hcb : c ≠ b := Ne.symm (ne_of_none h2 hcH)
      have hcp : c ≠ pg := Ne.symm (ne_of_none h1 hcH)
      refine ⟨_, rfl, pg, CP, dx, _, rfl, (upd_ne (Ne.symm hcp)).trans e1, JP.cl, JP.p4, by show 4 < 1000; decide, ?_⟩
      rw [pgF_putA]
      refine ⟨_, rfl, _, rfl, pg, CP, dx, _, rfl, upd_same, JP.cl, JP.p2, by show 4 < 1000; decide, ?_⟩
      rw [pgF_putT]
      refine q _ c _ _ (fun x o x1 x2 x3 e => ?_) ⟨dx, upd_same, ?_, ?_, Ne.symm hcb⟩ (.inr ⟨hu, hcH, rfl, rfl⟩)
      · rw [upd_ne x1, upd_ne x1, upd_ne (ne_of_none e hcH), upd_ne x2]; exact e
      · rw [upd_ne hbp, upd_ne hbp, upd_ne (Ne.symm hcb), upd_same]
      · rw [upd_ne hcp, upd_ne hcp, upd_same]; rfl
theorem ok_undo {f CP : Addr} {fd : FuncData} (F : C8.Fun K "undo" "Page.undo" s_Page_undo f fd) (T : Txt K mg) (JP : PTxt K CP) : FnOk P w K mg base C8.CX0 1 f fd ["self"] (sp_undo CP) := by
  refine C8.fn0 F sc_Page_undo (fun vs H Q E h => ?_) (fun cdv A outer s H vs Q E hr h => ?_)
  · obtain ⟨pg, j, b, a, t, x, bs, as, rfl, _⟩ := h; rfl
  · obtain ⟨pg, j, b, a, t, x, bs, as, rfl, ⟨dx, h1, h2, h3, h4⟩, hbl, q⟩ := h
    have hbp : b ≠ pg := ne_of h2 h1 (fun z => by cases z)
    have hap : a ≠ pg := ne_of h3 h1 (fun z => by cases z)
    refine ⟨_, (pss_cons (ps_if (pt_cmpR op_eq (pe_callB call_len_seq (by rfl) T.b_len PySem.boot_len (pa_cons (pe_fld (pv 0) rfl) pa_nil)) pe_int (nomark _)) (pss_one (ps_ret pe_bl)) pss_nil)
      (pss_cons (ps_expr (pe_bm PySem.F.plainAttrs_list PySem.F.slot_list_append PySem.F.type_list_append mt_append (pe_fld (pv 0) rfl) (pa_cons (pe_fld (pv 0) rfl) pa_nil)))
      (pss_cons (ps_fld (pv 0) (pe_bm0 PySem.F.plainAttrs_list PySem.F.slot_list_pop PySem.F.type_list_pop mt_pop (pe_fld (pv 0) rfl)) rfl)
      (pss_one (ps_ret pe_bl))))), ?_⟩
    have hla : (strV as).length < sizeLine := by rw [strV_len]; exact smallB (by omega)
    refine ⟨_, rfl, pg, CP, dx, _, _, rfl, h1, JP.cl, JP.p3, pgF_behind j b a t, b, _, rfl, .inl (SqL.of h2), rfl, _, rfl, ?_⟩
    rw [decide_eq_false (fun e => by have e2 : (((strV (bs ++ [x])).length : Nat) : Int) = 0 := by injection e
                                     rw [strV_len, List.length_append, List.length_singleton] at e2; omega)]
    refine iteF ⟨_, rfl, pg, CP, dx, _, _, rfl, h1, JP.cl, JP.p4, pgF_ahead j b a t, .inl ⟨rfl, _, SqL.of h3⟩, _, rfl, pg, CP, dx, _, _, rfl, h1, JP.cl, JP.p2, pgF_text j b a t, a, _, _, rfl, rfl, h3, hla, ?_⟩
    rw [strV_snoc]
    have e1 : (upd H a (.lst (strV (as ++ [t])))) pg = some (.ins CP dx (pgF j b a t)) := (upd_ne (Ne.symm hap)).trans h1
    have e2 : (upd H a (.lst (strV (as ++ [t])))) b = some (.lst (strV (bs ++ [x]))) := (upd_ne h4).trans h2
    refine ⟨_, rfl, pg, CP, dx, _, _, rfl, e1, JP.cl, JP.p3, pgF_behind j b a t, ?_⟩
    refine ⟨.inl ⟨rfl, _, SqL.of e2⟩, b, _, .str (S x), rfl, rfl, e2, strV_last bs x, ?_⟩
    rw [strV_drop]
    have e3 : (upd (upd H a (.lst (strV (as ++ [t])))) b (.lst (strV bs))) pg = some (.ins CP dx (pgF j b a t)) := (upd_ne (Ne.symm hbp)).trans e1
    refine ⟨_, rfl, pg, CP, dx, _, rfl, e3, JP.cl, JP.p2, by show 4 < 1000; decide, ?_⟩
    rw [pgF_putT]
    refine q _ (fun y o y1 y2 y3 e => ?_) ⟨dx, upd_same, ?_, ?_, h4⟩
    · rw [upd_ne y1, upd_ne y2, upd_ne y3]; exact e
    · rw [upd_ne hbp, upd_same]
    · rw [upd_ne hap, upd_ne (Ne.symm h4), upd_same]
theorem ok_redo {f CP : Addr} {fd : FuncData} (F : C8.Fun K "redo" "Page.redo" s_Page_redo f fd) (T : Txt K mg) (JP : PTxt K CP) : FnOk P w K mg base C8.CX0 1 f fd ["self"] (sp_redo CP) := by
  refine C8.fn0 F sc_Page_redo (fun vs H Q E h => ?_) (fun cdv A outer s H vs Q E hr h => ?_)
  · obtain ⟨pg, j, b, a, t, x, bs, as, rfl, _⟩ := h; rfl
  · obtain ⟨pg, j, b, a, t, x, bs, as, rfl, ⟨dx, h1, h2, h3, h4⟩, hbl, q⟩ := h
    have hbp : b ≠ pg := ne_of h2 h1 (fun z => by cases z)
    have hap : a ≠ pg := ne_of h3 h1 (fun z => by cases z)
    refine ⟨_, (pss_cons (ps_if (pt_cmpR op_eq (pe_callB call_len_seq (by rfl) T.b_len PySem.boot_len (pa_cons (pe_fld (pv 0) rfl) pa_nil)) pe_int (nomark _)) (pss_one (ps_ret pe_bl)) pss_nil)
      (pss_cons (ps_expr (pe_bm PySem.F.plainAttrs_list PySem.F.slot_list_append PySem.F.type_list_append mt_append (pe_fld (pv 0) rfl) (pa_cons (pe_fld (pv 0) rfl) pa_nil)))
      (pss_cons (ps_fld (pv 0) (pe_bm0 PySem.F.plainAttrs_list PySem.F.slot_list_pop PySem.F.type_list_pop mt_pop (pe_fld (pv 0) rfl)) rfl)
      (pss_one (ps_ret pe_bl))))), ?_⟩
    have hla : (strV bs).length < sizeLine := by rw [strV_len]; exact smallB (by omega)
    refine ⟨_, rfl, pg, CP, dx, _, _, rfl, h1, JP.cl, JP.p4, pgF_ahead j b a t, a, _, rfl, .inl (SqL.of h3), rfl, _, rfl, ?_⟩
    rw [decide_eq_false (fun e => by have e2 : (((strV (as ++ [x])).length : Nat) : Int) = 0 := by injection e
                                     rw [strV_len, List.length_append, List.length_singleton] at e2; omega)]
    refine iteF ⟨_, rfl, pg, CP, dx, _, _, rfl, h1, JP.cl, JP.p3, pgF_behind j b a t, .inl ⟨rfl, _, SqL.of h2⟩, _, rfl, pg, CP, dx, _, _, rfl, h1, JP.cl, JP.p2, pgF_text j b a t, b, _, _, rfl, rfl, h2, hla, ?_⟩
    rw [strV_snoc]
    have e1 : (upd H b (.lst (strV (bs ++ [t])))) pg = some (.ins CP dx (pgF j b a t)) := (upd_ne (Ne.symm hbp)).trans h1
    have e2 : (upd H b (.lst (strV (bs ++ [t])))) a = some (.lst (strV (as ++ [x]))) := (upd_ne (Ne.symm h4)).trans h3
    refine ⟨_, rfl, pg, CP, dx, _, _, rfl, e1, JP.cl, JP.p4, pgF_ahead j b a t, ?_⟩
    refine ⟨.inl ⟨rfl, _, SqL.of e2⟩, a, _, .str (S x), rfl, rfl, e2, strV_last as x, ?_⟩
    rw [strV_drop]
    have e3 : (upd (upd H b (.lst (strV (bs ++ [t])))) a (.lst (strV as))) pg = some (.ins CP dx (pgF j b a t)) := (upd_ne (Ne.symm hap)).trans e1
    refine ⟨_, rfl, pg, CP, dx, _, rfl, e3, JP.cl, JP.p2, by show 4 < 1000; decide, ?_⟩
    rw [pgF_putT]
    refine q _ (fun y o y1 y2 y3 e => ?_) ⟨dx, upd_same, ?_, ?_, h4⟩
    · rw [upd_ne y1, upd_ne y3, upd_ne y2]; exact e
    · rw [upd_ne hbp, upd_ne h4, upd_same]
    · rw [upd_ne hap, upd_same]
theorem ok_put {f C CP : Addr} {fd : FuncData} (F : C8.Fun K "put_in" "Page.put_in" s_Page_put_in f fd) (T : Txt K mg) (JP : PTxt K CP) (c_check_number : C8.Cal P w K mg base 3 "check_number" sp_check_number []) (c_letters_of : C8.Cal P w K mg base 2 "letters_of" (sp_letters_of C) []) (m_change_to : C8.Met P w K mg base 1 CP "change_to" (sp_change CP) []) : FnOk P w K mg base C8.CX0 4 f fd ["self", "at", "text"] (sp_put C CP) := by
  refine C8.fn0 F sc_Page_put_in (fun vs H Q E h => ?_) (fun cdv A outer s H vs Q E hr h => ?_)
  · obtain ⟨pg, j, b, a, t, m, al, bs, as, ps, i, rfl, _⟩ := h; rfl
  · obtain ⟨pg, j, b, a, t, m, al, bs, as, ps, i, rfl, hpg, hj, hi, htl, hml, hm, hbl, hal, q⟩ := h
    obtain ⟨dx, h1, h2, h3, h4⟩ := id hpg
    refine ⟨_, (pss_cons (ps_expr (C8.pe_c c_check_number hr (by first | decide | omega) (by rfl) (pa_cons (pv 1) (pa_cons (pe_op op_add (pe_callB call_len_str (by rfl) T.b_len PySem.boot_len (pa_cons (pe_fld (pv 0) rfl) pa_nil)) pe_int) pa_nil))))
      (pss_cons (ps_expr (C8.pe_c c_letters_of hr (by first | decide | omega) (by rfl) (pa_cons (pe_fld (pv 0) rfl) (pa_cons (pv 2) pa_nil))))
      (pss_one (ps_expr (C8.pe_mt m_change_to hr (by first | decide | omega) (pv 0) (pa_cons (pe_op op_add_str (pe_op op_add_str (pe_slice sl_str (pe_fld (pv 0) rfl) po_none (po_some (pv 1))) (pv 2)) (pe_slice sl_str (pe_fld (pv 0) rfl) (po_some (pv 1)) po_none)) pa_nil)))))), ?_⟩
    refine ⟨_, rfl, _, rfl, pg, CP, dx, _, _, rfl, h1, JP.cl, JP.p2, pgF_text j b a t, S t, rfl, by rw [S_len]; exact small_le (by omega), _, _, rfl, rfl, (i : Int), _, rfl, by omega, by rw [S_len]; omega, ?_⟩
    refine ⟨_, rfl, pg, CP, dx, _, _, rfl, h1, JP.cl, JP.p1, pgF_joins j b a t, _, rfl, j, m, al, ps, rfl, hj, hm, by omega, fun H1 z s1 _ hz => ?_⟩
    have hpg1 := hpg.same s1
    obtain ⟨dx1, g1, g2, g3, g4⟩ := id hpg1
    refine ⟨_, rfl, pg, dx1, _, rfl, g1, pgF_no j b a t (by decide +kernel) (by decide +kernel) (by decide +kernel) (by decide +kernel), ?_⟩
    refine ⟨_, rfl, pg, CP, dx1, _, _, rfl, g1, JP.cl, JP.p2, pgF_text j b a t, _, rfl, _, rfl, S t, rfl, by rw [S_len]; exact small_le (by omega), ?_⟩
    rw [cutS_uptoP]
    refine ⟨_, rfl, _, _, rfl, rfl, by rw [S_len, S_len, List.length_take]; exact small_le (by omega), ?_⟩
    rw [S_cat]
    refine ⟨_, rfl, pg, CP, dx1, _, _, rfl, g1, JP.cl, JP.p2, pgF_text j b a t, _, rfl, _, rfl, S t, rfl, by rw [S_len]; exact small_le (by omega), ?_⟩
    rw [cutS_fromP]
    refine ⟨_, _, rfl, rfl, by rw [S_len, S_len, List.length_append, List.length_take, List.length_drop]; exact small_le (by omega), ?_⟩
    rw [S_cat]
    refine ⟨pg, j, b, a, t, _, bs, as, rfl, hpg1, hbl, fun H' a' bs' as' fr pa alt => ?_⟩
    refine q H' a' bs' as' (fun x o x1 x2 x3 e => fr x o x1 x2 x3 (s1 _ _ e)) pa (alt.imp_right fun h => ⟨h.1, ?_, h.2.2⟩)
    cases e : H a' with
    | none => rfl
    | some o => rw [s1 _ _ e] at h; cases h.2.1
theorem ok_take {f CP : Addr} {fd : FuncData} (F : C8.Fun K "take_out" "Page.take_out" s_Page_take_out f fd) (T : Txt K mg) (JP : PTxt K CP) (c_check_number : C8.Cal P w K mg base 3 "check_number" sp_check_number []) (m_change_to : C8.Met P w K mg base 1 CP "change_to" (sp_change CP) []) : FnOk P w K mg base C8.CX0 4 f fd ["self", "at", "many"] (sp_take CP) := by
  refine C8.fn0 F sc_Page_take_out (fun vs H Q E h => ?_) (fun cdv A outer s H vs Q E hr h => ?_)
  · obtain ⟨pg, j, b, a, t, bs, as, i, m, rfl, _⟩ := h; rfl
  · obtain ⟨pg, j, b, a, t, bs, as, i, m, rfl, hpg, hi, htl, hbl, q⟩ := h
    obtain ⟨dx, h1, h2, h3, h4⟩ := id hpg
    refine ⟨_, (pss_cons (ps_expr (C8.pe_c c_check_number hr (by first | decide | omega) (by rfl) (pa_cons (pv 1) (pa_cons (pe_op op_add (pe_callB call_len_str (by rfl) T.b_len PySem.boot_len (pa_cons (pe_fld (pv 0) rfl) pa_nil)) pe_int) pa_nil))))
      (pss_cons (ps_expr (C8.pe_c c_check_number hr (by first | decide | omega) (by rfl) (pa_cons (pv 2) (pa_cons (pe_op op_add (pe_op op_sub (pe_callB call_len_str (by rfl) T.b_len PySem.boot_len (pa_cons (pe_fld (pv 0) rfl) pa_nil)) (pv 1)) pe_int) pa_nil))))
      (pss_one (ps_expr (C8.pe_mt m_change_to hr (by first | decide | omega) (pv 0) (pa_cons (pe_op op_add_str (pe_slice sl_str (pe_fld (pv 0) rfl) po_none (po_some (pv 1))) (pe_slice sl_str (pe_fld (pv 0) rfl) (po_some (pe_op op_add (pv 1) (pv 2))) po_none)) pa_nil)))))), ?_⟩
    refine ⟨_, rfl, _, rfl, pg, CP, dx, _, _, rfl, h1, JP.cl, JP.p2, pgF_text j b a t, S t, rfl, by rw [S_len]; exact small_le (by omega), _, _, rfl, rfl, (i : Int), _, rfl, by omega, by rw [S_len]; omega, ?_⟩
    refine ⟨_, rfl, _, rfl, pg, CP, dx, _, _, rfl, h1, JP.cl, JP.p2, pgF_text j b a t, S t, rfl, by rw [S_len]; exact small_le (by omega), _, rfl, _, _, rfl, rfl, _, _, rfl, rfl, (m : Int), _, rfl, by omega, by rw [S_len]; omega, ?_⟩
    refine ⟨_, rfl, pg, dx, _, rfl, h1, pgF_no j b a t (by decide +kernel) (by decide +kernel) (by decide +kernel) (by decide +kernel), ?_⟩
    refine ⟨_, rfl, pg, CP, dx, _, _, rfl, h1, JP.cl, JP.p2, pgF_text j b a t, _, rfl, _, rfl, S t, rfl, by rw [S_len]; exact small_le (by omega), ?_⟩
    rw [cutS_uptoP]
    refine ⟨_, rfl, pg, CP, dx, _, _, rfl, h1, JP.cl, JP.p2, pgF_text j b a t, _, rfl, _, rfl, _, _, rfl, rfl, _, rfl, S t, rfl, by rw [S_len]; exact small_le (by omega), ?_⟩
    have e1 : (i : Int) + (m : Int) = ((i + m : Nat) : Int) := by omega
    rw [e1, cutS_fromP]
    refine ⟨_, _, rfl, rfl, by rw [S_len, S_len, List.length_take, List.length_drop]; exact small_le (by omega), ?_⟩
    rw [S_cat]
    exact ⟨pg, j, b, a, t, _, bs, as, rfl, hpg, hbl, q⟩
theorem ok_pinit {f C CP : Addr} {fd : FuncData} (F : C8.Fun K "__init__" "Page.__init__" s_Page___init__ f fd) (T : Txt K mg) (JP : PTxt K CP) (c_letters_of : C8.Cal P w K mg base 2 "letters_of" (sp_letters_of C) []) : FnOk P w K mg base C8.CX0 3 f fd ["self", "joins", "text"] (sp_pinit C CP) := by
  refine C8.fn0 F sc_Page___init__ (fun vs H Q E h => ?_) (fun cdv A outer s H vs Q E hr h => ?_)
  · obtain ⟨pg, j, dx, t, al, ps, rfl, _⟩ := h; rfl
  · obtain ⟨pg, j, dx, t, al, ps, rfl, hp, hj, ht, htl, q⟩ := h
    refine ⟨_, (pss_cons (ps_expr (C8.pe_c c_letters_of hr (by first | decide | omega) (by rfl) (pa_cons (pv 1) (pa_cons (pv 2) pa_nil))))
      (pss_cons (ps_fld (pv 0) (pv 1) rfl)
      (pss_cons (ps_fld (pv 0) (pv 2) rfl)
      (pss_cons (ps_fld (pv 0) (pe_lst pa_nil) rfl)
      (pss_one (ps_fld (pv 0) (pe_lst pa_nil) rfl)))))), ?_⟩
    refine ⟨_, rfl, _, rfl, j, t, al, ps, rfl, hj, ht, htl, fun H1 z s1 _ hz => ?_⟩
    have p1 := s1 _ _ hp
    refine ⟨_, rfl, _, rfl, pg, CP, dx, _, rfl, p1, JP.cl, JP.p1, by show 0 < 1000; decide, ?_⟩
    refine ⟨_, rfl, _, rfl, pg, CP, dx, _, rfl, upd_same, JP.cl, JP.p2, by show 1 < 1000; decide, ?_⟩
    refine ⟨Nat.zero_le _, fun b hb => ?_⟩
    have hpb : b ≠ pg := by
      rintro rfl
      rw [upd_same] at hb; cases hb
    have hbH : H b = none := by
      rw [upd_ne hpb, upd_ne hpb] at hb
      exact s1.free hb
    refine ⟨_, rfl, pg, CP, dx, _, rfl, (upd_ne (Ne.symm hpb)).trans upd_same, JP.cl, JP.p3, by show 2 < 1000; decide, ?_⟩
    refine ⟨Nat.zero_le _, fun a ha => ?_⟩
    have hpa : a ≠ pg := by
      rintro rfl
      rw [upd_same] at ha; cases ha
    have hab : a ≠ b := by
      rintro rfl
      rw [upd_ne hpa, upd_same] at ha; cases ha
    have haH : H a = none := by
      rw [upd_ne hpa, upd_ne hab, upd_ne hpa, upd_ne hpa] at ha
      exact s1.free ha
    refine ⟨_, rfl, pg, CP, dx, _, rfl, (upd_ne (Ne.symm hpa)).trans upd_same, JP.cl, JP.p4, by show 3 < 1000; decide, ?_⟩
    rw [pgF_new]
    refine q _ b a (fun x o hx e => ?_) hbH haH hpb hpa ⟨dx, upd_same, ?_, ?_, Ne.symm hab⟩
    · have xb := ne_of_none e hbH
      have xa := ne_of_none e haH
      rw [upd_ne hx, upd_ne xa, upd_ne hx, upd_ne xb, upd_ne hx, upd_ne hx]
      exact s1 _ _ e
    · rw [upd_ne hpb, upd_ne (Ne.symm hab), upd_ne hpb, upd_same]; rfl
    · rw [upd_ne hpa, upd_same]; rfl
end
end RJ
end

section
set_option maxRecDepth 100000
set_option maxHeartbeats 4000000
namespace RJ
open PySem PySem.Spec PyProof.Rows L2
abbrev s__law_shown : Stmt := top 38
abbrev N__law_shown : List Str := ["page", "pairs", "alphabet", "text"]
theorem sc__law_shown : FnScope N__law_shown ["page", "pairs", "alphabet", "text"] (C8.fnScope s__law_shown) := C8.fnScope_by (by decide +kernel)
theorem kitAny2 {K : PySem.W.Frag} {t a b : Value} {x y : Bool} (h1 : PySem.W.kitOne K t a = some x) (h2 : PySem.W.kitOne K t b = some y) : PySem.W.kitAny K t [a, b] = some (x || y) := by
  unfold PySem.W.kitAny
  rw [h1]
  cases x with
  | true => rfl
  | false =>
    show PySem.W.kitAny K t [b] = _
    unfold PySem.W.kitAny
    rw [h2]
    cases y <;> rfl
def sp_shown (C CP : Addr) : Sp := fun vs H Q _ => ∃ (pg j b a pp : Addr) (t al : List Nat) (bs as : List (List Nat)) (us : List V) (ps : List (Nat × Nat)), vs = [.ref pg, .ref pp, .str (S al), .str (S t)] ∧ PageAt CP H pg j b a t bs as ∧ JoinsAt C H j al ps ∧ H pp = some (.lst us) ∧ PairsAt H us ps ∧ WF al.length ps ∧ (∀ c ∈ t, c ∈ al) ∧ t.length ≤ 400 ∧ al.length ≤ 1000 ∧ ps.length ≤ 1000 ∧
  ∀ H', Same H H' → Q (.bl true) H'
section
variable {P : Program} {w : World} {K : PySem.W.Frag} {mg : Str → Option Value} {base : Heap}
theorem ok_sameP0 {f : Addr} {fd : FuncData} (F : C8.Fun K "_law_same" "_law_same" s__law_same f fd) (T : Txt K mg) : FnOk P w K mg base C8.CX0 1 f fd ["told", "due"] (sp_same 0) := by
  refine C8.fn0 F sc__law_same (fun vs H Q E h => ?_) (fun cdv A outer s H vs Q E hr h => ?_)
  · obtain ⟨x, y, rfl, _⟩ := h; rfl
  · obtain ⟨x, y, rfl, ⟨rfl, hsc⟩, q⟩ := h
    refine ⟨_, (pss_cons (ps_if (pt_val (pe_callB call_isiT (by rfl) T.b_isinstance (by decide +kernel) (pa_cons (pv 1) (pa_cons (pe_tup (pa_cons (pe_bltn (v := .ty "tuple") (u := .type "tuple") rfl T.b_tuple (by decide +kernel) rfl) (pa_cons (pe_bltn (v := .ty "list") (u := .type "list") rfl T.b_list (by decide +kernel) rfl) pa_nil))) pa_nil)))) (pss_cons (ps_if (PW.pt (pw_or (pt_not (pt_val (pe_callB call_isiT (by rfl) T.b_isinstance (by decide +kernel) (pa_cons (pv 0) (pa_cons (pe_tup (pa_cons (pe_bltn (v := .ty "tuple") (u := .type "tuple") rfl T.b_tuple (by decide +kernel) rfl) (pa_cons (pe_bltn (v := .ty "list") (u := .type "list") rfl T.b_list (by decide +kernel) rfl) pa_nil))) pa_nil))))) (pw_or1 (pt_cmpR op_ne (pe_callB call_isi (by rfl) T.b_isinstance (by decide +kernel) (pa_cons (pv 0) (pa_cons (pe_bltn (v := .ty "list") (u := .type "list") rfl T.b_list (by decide +kernel) rfl) pa_nil))) (pe_callB call_isi (by rfl) T.b_isinstance (by decide +kernel) (pa_cons (pv 1) (pa_cons (pe_bltn (v := .ty "list") (u := .type "list") rfl T.b_list (by decide +kernel) rfl) pa_nil))) (nomark _))))) (pss_one (ps_ret pe_bl)) pss_nil)
      (pss_cons (ps_if (pt_cmpR op_ne (pe_callB call_len_seq (by rfl) T.b_len PySem.boot_len (pa_cons (pv 0) pa_nil)) (pe_callB call_len_seq (by rfl) T.b_len PySem.boot_len (pa_cons (pv 1) pa_nil)) (nomark _)) (pss_one (ps_ret pe_bl)) pss_nil)
      (pss_cons (ps_for PassesOwn.never rfl (pi_range1 rfl T.b_range (pa_cons (pe_callB call_len_seq (by rfl) T.b_len PySem.boot_len (pa_cons (pv 1) pa_nil)) pa_nil)) (pg_name (i := 2) sc__law_same.nd rfl (Or.inl rfl)) (pss_one (ps_if (pt_not (pt_val pe_never)) (pss_one (ps_ret pe_bl)) pss_nil)))
      (pss_one (ps_ret pe_bl))))) pss_nil)
      (pss_cons (ps_if (pt_cmpR op_isN (pv 1) pe_non (nomark _)) (pss_one (ps_ret (pe_cmpR op_isN (pv 0) pe_non (nomark _)))) pss_nil)
      (pss_cons (ps_if (pt_val (pe_callB call_isi (by rfl) T.b_isinstance (by decide +kernel) (pa_cons (pv 1) (pa_cons (pe_bltn (v := .ty "bool") (u := .type "bool") rfl T.b_bool (by decide +kernel) rfl) pa_nil)))) (pss_one (ps_ret (pe_and (pe_callB call_isi (by rfl) T.b_isinstance (by decide +kernel) (pa_cons (pv 0) (pa_cons (pe_bltn (v := .ty "bool") (u := .type "bool") rfl T.b_bool (by decide +kernel) rfl) pa_nil))) (pe_one (pe_cmpR op_eq (pv 0) (pv 1) (nomark _)))))) pss_nil)
      (pss_cons (ps_if (pt_val (pe_callB call_isi (by rfl) T.b_isinstance (by decide +kernel) (pa_cons (pv 1) (pa_cons (pe_bltn (v := .ty "str") (u := .type "str") rfl T.b_str (by decide +kernel) rfl) pa_nil)))) (pss_one (ps_ret (pe_and (pe_callB call_isi (by rfl) T.b_isinstance (by decide +kernel) (pa_cons (pv 0) (pa_cons (pe_bltn (v := .ty "str") (u := .type "str") rfl T.b_str (by decide +kernel) rfl) pa_nil))) (pe_one (pe_cmpR op_eq (pv 0) (pv 1) (nomark _)))))) pss_nil)
      (pss_one (ps_ret (pe_and (pe_callB call_isi (by rfl) T.b_isinstance (by decide +kernel) (pa_cons (pv 0) (pa_cons (pe_bltn (v := .ty "int") (u := .type "int") rfl T.b_int (by decide +kernel) rfl) pa_nil))) (pe_and (pe_not (pe_callB call_isi (by rfl) T.b_isinstance (by decide +kernel) (pa_cons (pv 0) (pa_cons (pe_bltn (v := .ty "bool") (u := .type "bool") rfl T.b_bool (by decide +kernel) rfl) pa_nil)))) (pe_one (pe_cmpR op_eq (pv 0) (pv 1) (nomark _))))))))))), ?_⟩
    cases x with
    | non =>
      refine ⟨_, rfl, by show 2 ≤ sizeLine; decide, fun tp htp => ?_⟩
      have stp := same_new (o := .tup [.ty "tuple", .ty "list"]) htp
      exact ⟨_, tp, _, _, _, false, rfl, upd_same, .cons (.ty _) (.cons (.ty _) .nil), .base .non, kitAny2 (x := false) (y := false) (kit_ty (by decide +kernel)) (kit_ty (by decide +kernel)), _, rfl, iteF ⟨_, rfl, rfl, _, rfl, iteT ⟨_, rfl, rfl, q _ stp⟩⟩⟩
    | str z =>
      refine ⟨_, rfl, by show 2 ≤ sizeLine; decide, fun tp htp => ?_⟩
      have stp := same_new (o := .tup [.ty "tuple", .ty "list"]) htp
      refine ⟨_, tp, _, .type "str", _, false, rfl, upd_same, .cons (.ty _) (.cons (.ty _) .nil), .base (.str z), kitAny2 (x := false) (y := false) (kit_ty (by decide +kernel)) (kit_ty (by decide +kernel)), _, rfl, iteF ⟨_, rfl, rfl, _, rfl, iteF ?_⟩⟩
      refine ⟨_, rfl, _, .ty "bool", .type "str", .type "bool", false, rfl, .ty _, .base (.str z), kit_ty (by decide +kernel), _, rfl, iteF ⟨_, rfl, _, .ty "str", .type "str", .type "str", true, rfl, .ty _, .base (.str z), kit_ty (by decide +kernel), _, rfl, iteT ⟨_, rfl, _, .ty "str", .type "str", .type "str", true, rfl, .ty _, .base (.str z), kit_ty (by decide +kernel), _, rfl, iteT ⟨_, rfl, _, rfl, rfl, ?_⟩⟩⟩⟩
      rw [decide_eq_true rfl]; exact q _ stp
    | bl z =>
      refine ⟨_, rfl, by show 2 ≤ sizeLine; decide, fun tp htp => ?_⟩
      have stp := same_new (o := .tup [.ty "tuple", .ty "list"]) htp
      refine ⟨_, tp, _, .type "bool", _, false, rfl, upd_same, .cons (.ty _) (.cons (.ty _) .nil), .base (.bl z), kitAny2 (x := false) (y := false) (kit_ty (by decide +kernel)) (kit_ty (by decide +kernel)), _, rfl, iteF ⟨_, rfl, rfl, _, rfl, iteF ?_⟩⟩
      refine ⟨_, rfl, _, .ty "bool", .type "bool", .type "bool", true, rfl, .ty _, .base (.bl z), kit_ty (by decide +kernel), _, rfl, iteT ⟨_, rfl, _, .ty "bool", .type "bool", .type "bool", true, rfl, .ty _, .base (.bl z), kit_ty (by decide +kernel), _, rfl, iteT ⟨_, rfl, _, rfl, rfl, ?_⟩⟩⟩
      rw [decide_eq_true rfl]; exact q _ stp
    | int z =>
      refine ⟨_, rfl, by show 2 ≤ sizeLine; decide, fun tp htp => ?_⟩
      have stp := same_new (o := .tup [.ty "tuple", .ty "list"]) htp
      refine ⟨_, tp, _, .type "int", _, false, rfl, upd_same, .cons (.ty _) (.cons (.ty _) .nil), .base (.int z), kitAny2 (x := false) (y := false) (kit_ty (by decide +kernel)) (kit_ty (by decide +kernel)), _, rfl, iteF ⟨_, rfl, rfl, _, rfl, iteF ?_⟩⟩
      refine ⟨_, rfl, _, .ty "bool", .type "int", .type "bool", false, rfl, .ty _, .base (.int z), kit_ty (by decide +kernel), _, rfl, iteF ⟨_, rfl, _, .ty "str", .type "int", .type "str", false, rfl, .ty _, .base (.int z), kit_ty (by decide +kernel), _, rfl, iteF ⟨_, rfl, _, .ty "int", .type "int", .type "int", true, rfl, .ty _, .base (.int z), kit_ty (by decide +kernel), _, rfl, iteT ⟨_, rfl, _, .ty "bool", .type "int", .type "bool", false, rfl, .ty _, .base (.int z), kit_ty (by decide +kernel), _, rfl, _, rfl, iteT ⟨_, rfl, _, rfl, rfl, ?_⟩⟩⟩⟩⟩
      rw [decide_eq_true rfl]; exact q _ stp
    | byt z => cases hsc
    | flt z => cases hsc
    | ref z => cases hsc
    | ty z => cases hsc
theorem ok_samePS {f : Addr} {fd : FuncData} {n k : Nat} (F : C8.Fun K "_law_same" "_law_same" s__law_same f fd) (T : Txt K mg) (c__law_same : C8.Cal P w K mg base k "_law_same" (sp_same n) []) : FnOk P w K mg base C8.CX0 (k + 1) f fd ["told", "due"] (sp_same (n + 1)) := by
  refine C8.fn0 F sc__law_same (fun vs H Q E h => ?_) (fun cdv A outer s H vs Q E hr h => ?_)
  · obtain ⟨x, y, rfl, _⟩ := h; rfl
  · obtain ⟨x, y, rfl, hxy, q⟩ := h
    refine ⟨_, (pss_cons (ps_if (pt_val (pe_callB call_isiT (by rfl) T.b_isinstance (by decide +kernel) (pa_cons (pv 1) (pa_cons (pe_tup (pa_cons (pe_bltn (v := .ty "tuple") (u := .type "tuple") rfl T.b_tuple (by decide +kernel) rfl) (pa_cons (pe_bltn (v := .ty "list") (u := .type "list") rfl T.b_list (by decide +kernel) rfl) pa_nil))) pa_nil)))) (pss_cons (ps_if (PW.pt (pw_or (pt_not (pt_val (pe_callB call_isiT (by rfl) T.b_isinstance (by decide +kernel) (pa_cons (pv 0) (pa_cons (pe_tup (pa_cons (pe_bltn (v := .ty "tuple") (u := .type "tuple") rfl T.b_tuple (by decide +kernel) rfl) (pa_cons (pe_bltn (v := .ty "list") (u := .type "list") rfl T.b_list (by decide +kernel) rfl) pa_nil))) pa_nil))))) (pw_or1 (pt_cmpR op_ne (pe_callB call_isi (by rfl) T.b_isinstance (by decide +kernel) (pa_cons (pv 0) (pa_cons (pe_bltn (v := .ty "list") (u := .type "list") rfl T.b_list (by decide +kernel) rfl) pa_nil))) (pe_callB call_isi (by rfl) T.b_isinstance (by decide +kernel) (pa_cons (pv 1) (pa_cons (pe_bltn (v := .ty "list") (u := .type "list") rfl T.b_list (by decide +kernel) rfl) pa_nil))) (nomark _))))) (pss_one (ps_ret pe_bl)) pss_nil)
      (pss_cons (ps_if (pt_cmpR op_ne (pe_callB call_len_seq (by rfl) T.b_len PySem.boot_len (pa_cons (pv 0) pa_nil)) (pe_callB call_len_seq (by rfl) T.b_len PySem.boot_len (pa_cons (pv 1) pa_nil)) (nomark _)) (pss_one (ps_ret pe_bl)) pss_nil)
      (pss_cons (ps_for PassesOwn.never rfl (pi_range1 rfl T.b_range (pa_cons (pe_callB call_len_seq (by rfl) T.b_len PySem.boot_len (pa_cons (pv 1) pa_nil)) pa_nil)) (pg_name (i := 2) sc__law_same.nd rfl (Or.inl rfl)) (pss_one (ps_if (pt_not (pt_val (C8.pe_c c__law_same hr (by first | decide | omega) (by rfl) (pa_cons (pe_ix ix_tup (pv 0) (pv 2) (fun _ _ => rfl)) (pa_cons (pe_ix ix_tup (pv 1) (pv 2) (fun _ _ => rfl)) pa_nil))))) (pss_one (ps_ret pe_bl)) pss_nil)))
      (pss_one (ps_ret pe_bl))))) pss_nil)
      (pss_cons (ps_if (pt_cmpR op_isN (pv 1) pe_non (nomark _)) (pss_one (ps_ret (pe_cmpR op_isN (pv 0) pe_non (nomark _)))) pss_nil)
      (pss_cons (ps_if (pt_val (pe_callB call_isi (by rfl) T.b_isinstance (by decide +kernel) (pa_cons (pv 1) (pa_cons (pe_bltn (v := .ty "bool") (u := .type "bool") rfl T.b_bool (by decide +kernel) rfl) pa_nil)))) (pss_one (ps_ret (pe_and (pe_callB call_isi (by rfl) T.b_isinstance (by decide +kernel) (pa_cons (pv 0) (pa_cons (pe_bltn (v := .ty "bool") (u := .type "bool") rfl T.b_bool (by decide +kernel) rfl) pa_nil))) (pe_one (pe_cmpR op_eq (pv 0) (pv 1) (nomark _)))))) pss_nil)
      (pss_cons (ps_if (pt_val (pe_callB call_isi (by rfl) T.b_isinstance (by decide +kernel) (pa_cons (pv 1) (pa_cons (pe_bltn (v := .ty "str") (u := .type "str") rfl T.b_str (by decide +kernel) rfl) pa_nil)))) (pss_one (ps_ret (pe_and (pe_callB call_isi (by rfl) T.b_isinstance (by decide +kernel) (pa_cons (pv 0) (pa_cons (pe_bltn (v := .ty "str") (u := .type "str") rfl T.b_str (by decide +kernel) rfl) pa_nil))) (pe_one (pe_cmpR op_eq (pv 0) (pv 1) (nomark _)))))) pss_nil)
      (pss_one (ps_ret (pe_and (pe_callB call_isi (by rfl) T.b_isinstance (by decide +kernel) (pa_cons (pv 0) (pa_cons (pe_bltn (v := .ty "int") (u := .type "int") rfl T.b_int (by decide +kernel) rfl) pa_nil))) (pe_and (pe_not (pe_callB call_isi (by rfl) T.b_isinstance (by decide +kernel) (pa_cons (pv 0) (pa_cons (pe_bltn (v := .ty "bool") (u := .type "bool") rfl T.b_bool (by decide +kernel) rfl) pa_nil)))) (pe_one (pe_cmpR op_eq (pv 0) (pv 1) (nomark _))))))))))), ?_⟩
    rcases hxy with ⟨rfl, hsc⟩ | ⟨a, b, xs, ys, rfl, rfl, ha, hb, hlen, hP⟩
    · cases x with
      | non =>
        refine ⟨_, rfl, by show 2 ≤ sizeLine; decide, fun tp htp => ?_⟩
        have stp := same_new (o := .tup [.ty "tuple", .ty "list"]) htp
        exact ⟨_, tp, _, _, _, false, rfl, upd_same, .cons (.ty _) (.cons (.ty _) .nil), .base .non, kitAny2 (x := false) (y := false) (kit_ty (by decide +kernel)) (kit_ty (by decide +kernel)), _, rfl, iteF ⟨_, rfl, rfl, _, rfl, iteT ⟨_, rfl, rfl, q _ stp⟩⟩⟩
      | str z =>
        refine ⟨_, rfl, by show 2 ≤ sizeLine; decide, fun tp htp => ?_⟩
        have stp := same_new (o := .tup [.ty "tuple", .ty "list"]) htp
        refine ⟨_, tp, _, .type "str", _, false, rfl, upd_same, .cons (.ty _) (.cons (.ty _) .nil), .base (.str z), kitAny2 (x := false) (y := false) (kit_ty (by decide +kernel)) (kit_ty (by decide +kernel)), _, rfl, iteF ⟨_, rfl, rfl, _, rfl, iteF ?_⟩⟩
        refine ⟨_, rfl, _, .ty "bool", .type "str", .type "bool", false, rfl, .ty _, .base (.str z), kit_ty (by decide +kernel), _, rfl, iteF ⟨_, rfl, _, .ty "str", .type "str", .type "str", true, rfl, .ty _, .base (.str z), kit_ty (by decide +kernel), _, rfl, iteT ⟨_, rfl, _, .ty "str", .type "str", .type "str", true, rfl, .ty _, .base (.str z), kit_ty (by decide +kernel), _, rfl, iteT ⟨_, rfl, _, rfl, rfl, ?_⟩⟩⟩⟩
        rw [decide_eq_true rfl]; exact q _ stp
      | bl z =>
        refine ⟨_, rfl, by show 2 ≤ sizeLine; decide, fun tp htp => ?_⟩
        have stp := same_new (o := .tup [.ty "tuple", .ty "list"]) htp
        refine ⟨_, tp, _, .type "bool", _, false, rfl, upd_same, .cons (.ty _) (.cons (.ty _) .nil), .base (.bl z), kitAny2 (x := false) (y := false) (kit_ty (by decide +kernel)) (kit_ty (by decide +kernel)), _, rfl, iteF ⟨_, rfl, rfl, _, rfl, iteF ?_⟩⟩
        refine ⟨_, rfl, _, .ty "bool", .type "bool", .type "bool", true, rfl, .ty _, .base (.bl z), kit_ty (by decide +kernel), _, rfl, iteT ⟨_, rfl, _, .ty "bool", .type "bool", .type "bool", true, rfl, .ty _, .base (.bl z), kit_ty (by decide +kernel), _, rfl, iteT ⟨_, rfl, _, rfl, rfl, ?_⟩⟩⟩
        rw [decide_eq_true rfl]; exact q _ stp
      | int z =>
        refine ⟨_, rfl, by show 2 ≤ sizeLine; decide, fun tp htp => ?_⟩
        have stp := same_new (o := .tup [.ty "tuple", .ty "list"]) htp
        refine ⟨_, tp, _, .type "int", _, false, rfl, upd_same, .cons (.ty _) (.cons (.ty _) .nil), .base (.int z), kitAny2 (x := false) (y := false) (kit_ty (by decide +kernel)) (kit_ty (by decide +kernel)), _, rfl, iteF ⟨_, rfl, rfl, _, rfl, iteF ?_⟩⟩
        refine ⟨_, rfl, _, .ty "bool", .type "int", .type "bool", false, rfl, .ty _, .base (.int z), kit_ty (by decide +kernel), _, rfl, iteF ⟨_, rfl, _, .ty "str", .type "int", .type "str", false, rfl, .ty _, .base (.int z), kit_ty (by decide +kernel), _, rfl, iteF ⟨_, rfl, _, .ty "int", .type "int", .type "int", true, rfl, .ty _, .base (.int z), kit_ty (by decide +kernel), _, rfl, iteT ⟨_, rfl, _, .ty "bool", .type "int", .type "bool", false, rfl, .ty _, .base (.int z), kit_ty (by decide +kernel), _, rfl, _, rfl, iteT ⟨_, rfl, _, rfl, rfl, ?_⟩⟩⟩⟩⟩
        rw [decide_eq_true rfl]; exact q _ stp
      | byt z => cases hsc
      | flt z => cases hsc
      | ref z => cases hsc
      | ty z => cases hsc
    · have el : xs.length = ys.length := hP.length
      refine ⟨_, rfl, by show 2 ≤ sizeLine; decide, fun tp htp => ?_⟩
      have s1 := same_new (o := .tup [.ty "tuple", .ty "list"]) htp
      refine ⟨_, tp, _, .type "tuple", _, true, rfl, upd_same, .cons (.ty _) (.cons (.ty _) .nil), .base (.tup (s1 _ _ hb)), kitAny2 (x := true) (y := false) (kit_ty (by decide +kernel)) (kit_ty (by decide +kernel)), _, rfl, iteT ?_⟩
      generalize upd H tp (.tup [.ty "tuple", .ty "list"]) = H1 at s1 ⊢
      refine ⟨_, rfl, by show 2 ≤ sizeLine; decide, fun tp2 htp2 => ?_⟩
      have s2 := Same.new (o := .tup [.ty "tuple", .ty "list"]) s1 htp2
      refine ⟨_, tp2, _, .type "tuple", _, true, rfl, upd_same, .cons (.ty _) (.cons (.ty _) .nil), .base (.tup (s2 _ _ ha)), kitAny2 (x := true) (y := false) (kit_ty (by decide +kernel)) (kit_ty (by decide +kernel)), _, rfl, ?_⟩
      generalize upd H1 tp2 (.tup [.ty "tuple", .ty "list"]) = H2 at s2 ⊢
      refine iteF ⟨_, rfl, _, .ty "list", .type "tuple", .type "list", false, rfl, .ty _, .base (.tup (s2 _ _ ha)), kit_ty (by decide +kernel), _, rfl, _, .ty "list", .type "tuple", .type "list", false, rfl, .ty _, .base (.tup (s2 _ _ hb)), kit_ty (by decide +kernel), rfl, _, rfl, ?_⟩
      rw [decide_eq_true rfl]
      refine iteF ⟨_, rfl, a, xs, rfl, .inr (SqT.of (s2 _ _ ha)), _, rfl, b, ys, rfl, .inr (SqT.of (s2 _ _ hb)), rfl, _, rfl, ?_⟩
      rw [el, decide_eq_true rfl]
      refine iteF ⟨_, rfl, b, ys, rfl, .inr (SqT.of (s2 _ _ hb)), _, rfl, by omega, by omega, for_it walk_range (fun i σ H' => ∃ v2 : Option V, σ = [some (.ref a), some (.ref b), v2] ∧ Same H H') ⟨none, rfl, s2⟩ (fun _ _ _ _ _ => trivial) ?_ ?_⟩
      · rintro i x σ Ha Hb hi ⟨v2, rfl, sa⟩ ⟨rfl, rfl⟩
        have hi2 : i < ys.length := by simpa using hi
        have hi1 : i < xs.length := by omega
        obtain ⟨y, hy, hsame⟩ := Paired.at hP (List.getElem?_eq_getElem hi1)
        refine ⟨_, rfl, _, rfl, a, xs, _, _, rfl, rfl, SqT.of (sa _ _ ha), at_of (by simp) (List.getElem?_eq_getElem hi1), _, rfl, _, rfl, b, ys, _, _, rfl, rfl, SqT.of (sa _ _ hb), at_of (by simp) hy, _, _, rfl, SameD.mono sa hsame, fun H2 s2 => ⟨_, rfl, iteF ⟨_, rfl, sa.trans s2⟩⟩⟩
      · rintro σ H1 ⟨v2, rfl, sa⟩
        exact q H1 sa
theorem ok_shown {f C CP : Addr} {fd : FuncData} (F : C8.Fun K "_law_shown" "_law_shown" s__law_shown f fd) (T : Txt K mg) (c__law_same : C8.Cal P w K mg base 2 "_law_same" (sp_same 1) []) (c__law_cut : C8.Cal P w K mg base 2 "_law_cut" sp_cutB []) (m_content : C8.Met P w K mg base 1 CP "content" (sp_content CP) []) (m_plen : C8.Met P w K mg base 1 CP "__len__" (sp_plen CP) [])
    (m_cut_row : C8.Met P w K mg base 5 CP "cut_row" (sp_cut_row C CP) []) : FnOk P w K mg base C8.CX0 6 f fd ["page", "pairs", "alphabet", "text"] (sp_shown C CP) := by
  refine C8.fn0 F sc__law_shown (fun vs H Q E h => ?_) (fun cdv A outer s H vs Q E hr h => ?_)
  · obtain ⟨pg, j, b, a, pp, t, al, bs, as, us, ps, rfl, _⟩ := h; rfl
  · obtain ⟨pg, j, b, a, pp, t, al, bs, as, us, ps, rfl, hpg, hj, hpp, hps, hw, ht, htl, hal, hpl, q⟩ := h
    obtain ⟨dx, h1, h2, h3, h4⟩ := id hpg
    refine ⟨_, (pss_cons (ps_if (PW.pt (pw_or (pt_not (pt_val (C8.pe_c c__law_same hr (by first | decide | omega) (by rfl) (pa_cons (C8.pe_mt0 m_content hr (by first | decide | omega) (pv 0)) (pa_cons (pv 3) pa_nil))))) (pw_or1 (pt_not (pt_val (C8.pe_c c__law_same hr (by first | decide | omega) (by rfl) (pa_cons (pe_callB (call_lenOwn m_plen (hr.mono (by decide))) (by rfl) T.b_len PySem.boot_len (pa_cons (pv 0) pa_nil)) (pa_cons (pe_callB call_len_str (by rfl) T.b_len PySem.boot_len (pa_cons (pv 3) pa_nil)) pa_nil)))))))) (pss_one (ps_ret pe_bl)) pss_nil)
      (pss_one (ps_ret (C8.pe_c c__law_same hr (by first | decide | omega) (by rfl) (pa_cons (C8.pe_mt0 m_cut_row hr (by first | decide | omega) (pv 0)) (pa_cons (pe_tupleOf (by rfl) T.b_tuple (C8.pe_c c__law_cut hr (by first | decide | omega) (by rfl) (pa_cons (pv 1) (pa_cons (pv 2) (pa_cons (pv 3) pa_nil))))) pa_nil)))))), ?_⟩
    refine ⟨_, rfl, pg, dx, _, rfl, h1, pgF_no j b a t (by decide +kernel) (by decide +kernel) (by decide +kernel) (by decide +kernel), ?_⟩
    refine ⟨pg, j, b, a, t, bs, as, rfl, hpg, _, rfl, .str (S t), .str (S t), rfl, SameD.flat rfl 1, fun H1 s1 => ⟨_, rfl, iteF ?_⟩⟩
    have hpg1 := hpg.same s1
    obtain ⟨dx1, g1, g2, g3, g4⟩ := id hpg1
    refine ⟨_, rfl, pg, dx1, _, rfl, g1, pg, j, b, a, t, bs, as, rfl, hpg1, by omega, t.length, rfl, by omega, _, rfl, S t, rfl, by rw [S_len]; exact small_le (by omega), ?_⟩
    rw [S_len]
    refine ⟨.int (t.length : Int), .int (t.length : Int), rfl, SameD.flat rfl 1, fun H2 s2 => ⟨_, rfl, iteF ?_⟩⟩
    have s12 := s1.trans s2
    have hpg2 := hpg1.same s2
    obtain ⟨dx2, k1, k2, k3, k4⟩ := id hpg2
    refine ⟨_, rfl, pg, dx2, _, rfl, k1, pgF_no j b a t (by decide +kernel) (by decide +kernel) (by decide +kernel) (by decide +kernel), ?_⟩
    refine ⟨pg, j, b, a, t, al, bs, as, ps, rfl, hpg2, hj.same s12, hw, ht, by omega, hal, fun H3 c3 s3 hc3 => ?_⟩
    have s13 := s12.trans s3
    refine ⟨_, rfl, _, rfl, _, rfl, pp, us, ps, al, t, rfl, s13 _ _ hpp, hps.same (Same.t s13), hw, hpl, hal, ht, by omega, fun H4 z s4 _ hz => ?_⟩
    refine .inl ⟨z, _, rfl, SqL.of hz, fun w hw2 => ?_⟩
    have sw := same_new (o := .tup (iv (cutL al.length ps (lets al t)))) hw2
    have hcl := cutL_len al.length ps (lets al t)
    have hll : (lets al t).length = t.length := by rw [lets, List.length_map]
    exact ⟨.ref c3, .ref w, rfl, SameD.row (l := cutL al.length ps (lets al t)) (sw _ _ (s4 _ _ hc3)) upd_same (by omega), fun H5 s5 => q H5 (((s13.trans s4).trans sw).trans s5)⟩
end
end RJ
end

section
set_option maxRecDepth 100000
set_option maxHeartbeats 16000000
namespace RJ
open PySem PySem.Spec PyProof.Rows L2
/-- a page and the texts that are carried along with it -/
structure PgS where
  pg : Addr
  b : Addr
  a : Addr
  B : Addr
  A : Addr
  t : List Nat
  bs : List (List Nat)
  as : List (List Nat)
def OKT (al t : List Nat) : Prop := (∀ c ∈ t, c ∈ al) ∧ t.length ≤ 80
def OneP (CP y : Addr) (al : List Nat) (n : Nat) (H : Hp) (U : PgS) : Prop := PageAt CP H U.pg y U.b U.a U.t U.bs U.as ∧ H U.B = some (.lst (strV U.bs)) ∧ H U.A = some (.lst (strV U.as)) ∧ OKT al U.t ∧ (∀ u ∈ U.bs, OKT al u) ∧ (∀ u ∈ U.as, OKT al u) ∧ U.bs.length ≤ n ∧ U.as.length ≤ n
def pair2 {α : Type} (o : Nat) (x y : α) : List α := if o = 0 then [x, y] else [y, x]
def adr (PP BB AA X : Addr) (U W : PgS) : List Addr := [PP, BB, AA, X, U.pg, U.b, U.a, U.B, U.A, W.pg, W.b, W.a, W.B, W.A]
structure Inv31 (CP y p : Addr) (al : List Nat) (H5 : Hp) (PP BB AA X : Addr) (n o : Nat) (H : Hp) (U W : PgS) : Prop where
  ps : PSame p H5 H
  pp : H PP = some (.lst (pair2 o (.ref U.pg) (.ref W.pg)))
  bb : H BB = some (.lst (pair2 o (.ref U.B) (.ref W.B)))
  aa : H AA = some (.lst (pair2 o (.ref U.A) (.ref W.A)))
  x : H X = some (.lst (pair2 o (.str (S U.t)) (.str (S W.t))))
  u : OneP CP y al n H U
  w : OneP CP y al n H W
  nd : (adr PP BB AA X U W).Nodup
  fr : ∀ z ∈ adr PP BB AA X U W, H5 z = none
theorem nd_ne {l : List Addr} (h : l.Nodup) {i j : Nat} {x y : Addr} (hx : l[i]? = some x) (hy : l[j]? = some y) (hij : i ≠ j) : x ≠ y := by
  rintro rfl
  obtain ⟨h1, e1⟩ := List.getElem?_eq_some_iff.mp hx
  obtain ⟨h2, e2⟩ := List.getElem?_eq_some_iff.mp hy
  rcases Nat.lt_or_gt_of_ne hij with c | c
  · exact List.pairwise_iff_getElem.mp h i j h1 h2 c (e1.trans e2.symm)
  · exact List.pairwise_iff_getElem.mp h j i h2 h1 c (e2.trans e1.symm)
theorem OneP.keep {CP y : Addr} {al : List Nat} {n : Nat} {H H' : Hp} {U : PgS} (h : OneP CP y al n H U) (k : ∀ z ∈ [U.pg, U.b, U.a, U.B, U.A], ∀ o, H z = some o → H' z = some o) : OneP CP y al n H' U := by
  obtain ⟨⟨dx, h1, h2, h3, h4⟩, h5, h6, h7⟩ := h
  exact ⟨⟨dx, k _ (by simp) _ h1, k _ (by simp) _ h2, k _ (by simp) _ h3, h4⟩, k _ (by simp) _ h5, k _ (by simp) _ h6, h7⟩
theorem OneP.live {CP y : Addr} {al : List Nat} {n : Nat} {H : Hp} {U : PgS} (h : OneP CP y al n H U) : ∀ z ∈ [U.pg, U.b, U.a, U.B, U.A], ∃ o, H z = some o := by
  obtain ⟨⟨dx, h1, h2, h3, h4⟩, h5, h6, h7⟩ := h
  intro z hz
  simp only [List.mem_cons, List.not_mem_nil, or_false] at hz
  rcases hz with rfl | rfl | rfl | rfl | rfl
  · exact ⟨_, h1⟩
  · exact ⟨_, h2⟩
  · exact ⟨_, h3⟩
  · exact ⟨_, h5⟩
  · exact ⟨_, h6⟩
theorem OneP.le {CP y : Addr} {al : List Nat} {n m : Nat} {H : Hp} {U : PgS} (h : OneP CP y al n H U) (l : n ≤ m) : OneP CP y al m H U := by
  obtain ⟨h1, h5, h6, h7, h8, h9, h10, h11⟩ := h
  exact ⟨h1, h5, h6, h7, h8, h9, by omega, by omega⟩
theorem pair2_swap {α : Type} {o : Nat} (h : o < 2) (x y : α) : pair2 (1 - o) y x = pair2 o x y := by
  match o, h with
  | 0, _ => rfl
  | 1, _ => rfl
theorem pair2_at {o : Nat} (h : o < 2) (x y : V) : atI (pair2 o x y) (o : Int) = some x := by
  match o, h with
  | 0, _ => rfl
  | 1, _ => rfl
theorem pair2_set {o : Nat} (h : o < 2) (x y z : V) : (pair2 o x y).set o z = pair2 o z y := by
  match o, h with
  | 0, _ => rfl
  | 1, _ => rfl
section
variable {CP y p : Addr} {al : List Nat} {H5 H H' : Hp} {PP BB AA X : Addr} {n o : Nat} {U W : PgS}
theorem Inv31.free (I : Inv31 CP y p al H5 PP BB AA X n o H U W) : ∀ z ∈ adr PP BB AA X U W, z ≠ p := fun z hz => I.ps.at0.free (I.fr z hz)
theorem Inv31.live (I : Inv31 CP y p al H5 PP BB AA X n o H U W) : ∀ z ∈ adr PP BB AA X U W, ∃ o, H z = some o := by
  intro z hz
  have h1 := I.u.live
  have h2 := I.w.live
  unfold adr at hz
  simp only [List.mem_cons, List.not_mem_nil, or_false] at hz h1 h2
  rcases hz with rfl | rfl | rfl | rfl | h
  · exact ⟨_, I.pp⟩
  · exact ⟨_, I.bb⟩
  · exact ⟨_, I.aa⟩
  · exact ⟨_, I.x⟩
  · rcases h with h | h | h | h | h | h
    · exact h1 z (.inl h)
    · exact h1 z (.inr (.inl h))
    · exact h1 z (.inr (.inr (.inl h)))
    · exact h1 z (.inr (.inr (.inr (.inl h))))
    · exact h1 z (.inr (.inr (.inr (.inr h))))
    · exact h2 z h
theorem Inv31.psame (I : Inv31 CP y p al H5 PP BB AA X n o H U W) (s : PSame p H H') : Inv31 CP y p al H5 PP BB AA X n o H' U W := by
  have k : ∀ z ∈ adr PP BB AA X U W, ∀ o, H z = some o → H' z = some o := fun z hz o e => s.x z o (I.free z hz) e
  refine ⟨I.ps.trans s, k _ (by simp [adr]) _ I.pp, k _ (by simp [adr]) _ I.bb, k _ (by simp [adr]) _ I.aa, k _ (by simp [adr]) _ I.x, I.u.keep fun z hz => k z ?_, I.w.keep fun z hz => k z ?_, I.nd, I.fr⟩
  · unfold adr; simp only [List.mem_cons, List.not_mem_nil, or_false] at hz ⊢
    rcases hz with h | h | h | h | h <;> simp [h]
  · unfold adr; simp only [List.mem_cons, List.not_mem_nil, or_false] at hz ⊢
    rcases hz with h | h | h | h | h <;> simp [h]
theorem Inv31.swap (I : Inv31 CP y p al H5 PP BB AA X n o H U W) (h : o < 2) : Inv31 CP y p al H5 PP BB AA X n (1 - o) H W U := by
  have hp : (adr PP BB AA X W U).Perm (adr PP BB AA X U W) := by
    unfold adr
    refine .cons _ (.cons _ (.cons _ (.cons _ ?_)))
    exact List.perm_append_comm (l₁ := [W.pg, W.b, W.a, W.B, W.A]) (l₂ := [U.pg, U.b, U.a, U.B, U.A])
  refine ⟨I.ps, ?_, ?_, ?_, ?_, I.w, I.u, hp.nodup_iff.mpr I.nd, fun z hz => I.fr z (hp.mem_iff.mp hz)⟩
  · rw [pair2_swap h]; exact I.pp
  · rw [pair2_swap h]; exact I.bb
  · rw [pair2_swap h]; exact I.aa
  · rw [pair2_swap h]; exact I.x
/-- a step on one page -/
theorem Inv31.step {m : Nat} {U' : PgS} (I : Inv31 CP y p al H5 PP BB AA X n o H U W) (hm : n ≤ m) (f : ∀ z ob, z ∉ [X, U.pg, U.b, U.a, U.B, U.A] → H z = some ob → H' z = some ob) (e1 : U'.pg = U.pg) (e2 : U'.b = U.b) (e3 : U'.B = U.B) (e4 : U'.A = U.A) (e5 : U'.a = U.a ∨ H U'.a = none)
    (one : OneP CP y al m H' U') (hx : H' X = some (.lst (pair2 o (.str (S U'.t)) (.str (S W.t))))) : Inv31 CP y p al H5 PP BB AA X m o H' U' W := by
  have own : ∀ z ∈ [X, U.pg, U.b, U.a, U.B, U.A], H5 z = none := fun z hz => I.fr z (by
    unfold adr; simp only [List.mem_cons, List.not_mem_nil, or_false] at hz ⊢
    rcases hz with h | h | h | h | h | h <;> simp [h])
  have ps' : PSame p H5 H' := by
    refine ⟨fun b ob hb e => f b ob (fun hz => by rw [own b hz] at e; cases e) (I.ps.x b ob hb e), I.ps.at0, ?_⟩
    obtain ⟨ns, k1, k2⟩ := I.ps.at1
    obtain ⟨ns0, j1, _⟩ := I.ps.at0
    exact ⟨ns, f _ _ (fun hz => by rw [own p hz] at j1; cases j1) k1, k2⟩
  have nn : ∀ {i : Nat} {z : Addr}, (adr PP BB AA X U W)[i]? = some z → (i < 3 ∨ 8 < i) → z ∉ [X, U.pg, U.b, U.a, U.B, U.A] := by
    intro i z hz hi hm
    simp only [List.mem_cons, List.not_mem_nil, or_false] at hm
    rcases hm with h | h | h | h | h | h
    · exact nd_ne I.nd hz (show (adr PP BB AA X U W)[3]? = some X from rfl) (by omega) h
    · exact nd_ne I.nd hz (show (adr PP BB AA X U W)[4]? = some U.pg from rfl) (by omega) h
    · exact nd_ne I.nd hz (show (adr PP BB AA X U W)[5]? = some U.b from rfl) (by omega) h
    · exact nd_ne I.nd hz (show (adr PP BB AA X U W)[6]? = some U.a from rfl) (by omega) h
    · exact nd_ne I.nd hz (show (adr PP BB AA X U W)[7]? = some U.B from rfl) (by omega) h
    · exact nd_ne I.nd hz (show (adr PP BB AA X U W)[8]? = some U.A from rfl) (by omega) h
  obtain ⟨pg, b, a, B, A, t, bs, as⟩ := U
  obtain ⟨pg', b', a', B', A', t', bs', as'⟩ := U'
  dsimp only at e1 e2 e3 e4 e5 hx
  subst e1 e2 e3 e4
  refine ⟨ps', f _ _ (nn (i := 0) rfl (by omega)) I.pp, f _ _ (nn (i := 1) rfl (by omega)) I.bb, f _ _ (nn (i := 2) rfl (by omega)) I.aa, hx, one, (I.w.le hm).keep fun z hz => ?_, ?_, ?_⟩
  · intro ob e
    simp only [List.mem_cons, List.not_mem_nil, or_false] at hz
    rcases hz with rfl | rfl | rfl | rfl | rfl
    · exact f _ _ (nn (i := 9) rfl (by omega)) e
    · exact f _ _ (nn (i := 10) rfl (by omega)) e
    · exact f _ _ (nn (i := 11) rfl (by omega)) e
    · exact f _ _ (nn (i := 12) rfl (by omega)) e
    · exact f _ _ (nn (i := 13) rfl (by omega)) e
  · rcases e5 with h | h
    · subst h; exact I.nd
    · have ln : ∀ z ∈ adr PP BB AA X ⟨pg', b', a, B', A', t, bs, as⟩ W, z ≠ a' := fun z hz e => by
        obtain ⟨ob, e6⟩ := I.live z hz
        rw [e, h] at e6; cases e6
      have p1 : (adr PP BB AA X ⟨pg', b', a, B', A', t, bs, as⟩ W).Perm (a :: [PP, BB, AA, X, pg', b', B', A', W.pg, W.b, W.a, W.B, W.A]) := List.perm_middle (l₁ := [PP, BB, AA, X, pg', b'])
      have p2 : (adr PP BB AA X ⟨pg', b', a', B', A', t', bs', as'⟩ W).Perm (a' :: [PP, BB, AA, X, pg', b', B', A', W.pg, W.b, W.a, W.B, W.A]) := List.perm_middle (l₁ := [PP, BB, AA, X, pg', b'])
      have h1 := p1.nodup_iff.mp I.nd
      rw [List.nodup_cons] at h1
      refine p2.nodup_iff.mpr (List.nodup_cons.mpr ⟨fun hz => ln a' (p1.mem_iff.mpr (List.mem_cons_of_mem _ hz)) rfl, h1.2⟩)
  · intro z hz
    rcases e5 with h | h
    · subst h; exact I.fr z hz
    · by_cases c : z = a'
      · subst c
        exact I.ps.none h
      · refine I.fr z ?_
        unfold adr at hz ⊢
        simp only [List.mem_cons, List.not_mem_nil, or_false] at hz ⊢
        rcases hz with h | h | h | h | h | h | h | h | h | h | h | h | h | h <;> first | exact absurd h c | simp [h]
/-- what an edit and the texts carried along come to -/
theorem Inv31.made {m : Nat} {He : Hp} {a' : Addr} {t' : List Nat} {bs' as' : List (List Nat)} (I : Inv31 CP y p al H5 PP BB AA X n o H U W) (hm : n ≤ m) (fr : PFr U.pg U.b U.a H He) (pe : PageAt CP He U.pg y U.b a' t' bs' as') (ha : a' = U.a ∨ H a' = none) (okt : OKT al t') (okb : ∀ u ∈ bs', OKT al u) (oka : ∀ u ∈ as', OKT al u) (lb : bs'.length ≤ m) (la : as'.length ≤ m)
    (f2 : ∀ z ob, z ∉ [X, U.B, U.A] → He z = some ob → H' z = some ob) (hB : H' U.B = some (.lst (strV bs'))) (hA : H' U.A = some (.lst (strV as'))) (hx : H' X = some (.lst (pair2 o (.str (S t')) (.str (S W.t))))) : Inv31 CP y p al H5 PP BB AA X m o H' ⟨U.pg, U.b, a', U.B, U.A, t', bs', as'⟩ W := by
  have nn : ∀ {i : Nat} {z : Addr}, (adr PP BB AA X U W)[i]? = some z → i ≠ 3 → i ≠ 7 → i ≠ 8 → z ∉ [X, U.B, U.A] := by
    intro i z hz h3 h7 h8 hm
    simp only [List.mem_cons, List.not_mem_nil, or_false] at hm
    rcases hm with h | h | h
    · exact nd_ne I.nd hz (show (adr PP BB AA X U W)[3]? = some X from rfl) h3 h
    · exact nd_ne I.nd hz (show (adr PP BB AA X U W)[7]? = some U.B from rfl) h7 h
    · exact nd_ne I.nd hz (show (adr PP BB AA X U W)[8]? = some U.A from rfl) h8 h
  have na : a' ∉ [X, U.B, U.A] := by
    rcases ha with rfl | h
    · exact nn (i := 6) rfl (by decide) (by decide) (by decide)
    · intro hm
      have hm' : a' ∈ adr PP BB AA X U W := by
        unfold adr
        simp only [List.mem_cons, List.not_mem_nil, or_false] at hm ⊢
        rcases hm with e | e | e <;> simp [e]
      obtain ⟨ob, e⟩ := I.live a' hm'
      rw [h] at e; cases e
  obtain ⟨dx, h1, h2, h3, h4⟩ := pe
  refine I.step hm (fun z ob hz e => ?_) rfl rfl rfl rfl ha ⟨⟨dx, f2 _ _ (nn (i := 4) rfl (by decide) (by decide) (by decide)) h1, f2 _ _ (nn (i := 5) rfl (by decide) (by decide) (by decide)) h2, f2 _ _ na h3, h4⟩, hB, hA, okt, okb, oka, lb, la⟩ hx
  simp only [List.mem_cons, List.not_mem_nil, or_false, not_or] at hz
  refine f2 z ob ?_ (fr z ob hz.2.1 hz.2.2.1 hz.2.2.2.1 e)
  simp only [List.mem_cons, List.not_mem_nil, or_false, not_or]
  exact ⟨hz.1, hz.2.2.2.2.1, hz.2.2.2.2.2⟩
end
end RJ
end

section
set_option maxRecDepth 100000
set_option maxHeartbeats 16000000
namespace RJ
open PySem PySem.Spec PyProof.Rows L2
def sp_law (K : PySem.W.Frag) : Sp := fun vs H Q _ => ∃ (a : Addr) (zs : List Int), vs = [.ref a] ∧ SqL K H a (zs.map V.int) ∧ zs.length ≤ 63 ∧ ∀ H', Q (.bl true) H'
theorem mkPage {C CP y pg dx : Addr} {al tt : List Nat} {ps : List (Nat × Nat)} {Hc : Hp} {Q : VK} {E : XK} (hj : JoinsAt C Hc y al ps) (ht : ∀ c ∈ tt, c ∈ al) (hl : tt.length ≤ 1000) (npg : Hc pg = none) (nd : Hc dx = none)
    (q : ∀ Hd b a, Same Hc Hd → Hc b = none → Hc a = none → pg ≠ b → pg ≠ a → PageAt CP Hd pg y b a tt [] [] → Q .non Hd) : sp_pinit C CP [.ref pg, .ref y, .str (S tt)] (upd (upd Hc dx (.own pg)) pg (.ins CP dx [])) Q E := by
  have sM : Same Hc (upd (upd Hc dx (.own pg)) pg (.ins CP dx [])) := fun b o e => by
    rw [upd_ne (ne_of_none e npg), upd_ne (ne_of_none e nd)]; exact e
  refine ⟨pg, y, dx, tt, al, ps, rfl, upd_same, hj.same sM, ht, hl, fun H' b a sx hb ha nb na hpg => q H' b a (fun x o e => sx x o (ne_of_none e npg) (sM x o e)) (sM.free hb) (sM.free ha) (Ne.symm nb) (Ne.symm na) hpg⟩
/-- addresses that differ and stand -/
structure NdL (l : List Addr) (H : Hp) : Prop where
  nd : l.Nodup
  lv : ∀ z ∈ l, ∃ o, H z = some o
theorem NdL.same {l : List Addr} {H H' : Hp} (h : NdL l H) (s : Same H H') : NdL l H' := ⟨h.nd, fun z hz => (h.lv z hz).imp fun o e => s _ _ e⟩
theorem NdL.cons {l : List Addr} {H H' : Hp} {z : Addr} (h : NdL l H) (s : Same H H') (hz : H z = none) (hl : ∃ o, H' z = some o) : NdL (z :: l) H' := by
  refine ⟨List.nodup_cons.mpr ⟨fun hm => ?_, h.nd⟩, fun x hx => ?_⟩
  · obtain ⟨o, e⟩ := h.lv z hm
    rw [hz] at e; cases e
  · rcases List.mem_cons.mp hx with rfl | hx
    · exact hl
    · exact (h.lv x hx).imp fun o e => s _ _ e
theorem reidx {l : List Addr} (h : l.Nodup) {σ : List Nat} (hs : σ.Nodup) (hb : ∀ i ∈ σ, i < l.length) : (σ.map fun i => l.getD i 0).Nodup := by
  induction σ with
  | nil => exact .nil
  | cons i σ ih =>
    rw [List.nodup_cons] at hs
    rw [List.map_cons, List.nodup_cons]
    refine ⟨fun hm => ?_, ih hs.2 fun j hj => hb j (List.mem_cons_of_mem _ hj)⟩
    obtain ⟨j, hj, e⟩ := List.mem_map.mp hm
    have h1 := hb i List.mem_cons_self
    have h2 := hb j (List.mem_cons_of_mem _ hj)
    refine nd_ne h (i := j) (j := i) (x := l.getD j 0) (y := l.getD i 0) ?_ ?_ (fun z => hs.1 (z ▸ hj)) e
    · rw [List.getD_eq_getElem?_getD, List.getElem?_eq_getElem h2]; rfl
    · rw [List.getD_eq_getElem?_getD, List.getElem?_eq_getElem h1]; rfl
section
variable {P : Program} {w : World} {K : PySem.W.Frag} {mg : Str → Option Value} {base : Heap}
theorem ok_law {f C CP : Addr} {fd : FuncData} (F : C8.Fun K "law" "law" s_law f fd) (T : Txt K mg) (J : JTxt K C) (JP : PTxt K CP) (c__law_pool : C8.Cal P w K mg base 1 "_law_pool" (sp_pool K) []) (c__law_alphabet : C8.Cal P w K mg base 2 "_law_alphabet" sp_alphabetB []) (c__law_pairs : C8.Cal P w K mg base 3 "_law_pairs" sp_pairsB [])
    (c__law_draw : C8.Cal P w K mg base 1 "_law_draw" sp_drawB []) (k_Joins : C8.Mak P w K mg base 4 "Joins" C (sp_init C) []) (c__law_text : C8.Cal P w K mg base 2 "_law_text" sp_textB []) (k_Page : C8.Mak P w K mg base 3 "Page" CP (sp_pinit C CP) []) (m_undo : C8.Met P w K mg base 1 CP "undo" (sp_undo CP) []) (m_redo : C8.Met P w K mg base 1 CP "redo" (sp_redo CP) [])
    (m_put_in : C8.Met P w K mg base 4 CP "put_in" (sp_put C CP) []) (m_take_out : C8.Met P w K mg base 4 CP "take_out" (sp_take CP) []) (m_cut_row : C8.Met P w K mg base 5 CP "cut_row" (sp_cut_row C CP) []) (c__law_shown : C8.Cal P w K mg base 6 "_law_shown" (sp_shown C CP) []) (c__law_same : C8.Cal P w K mg base 2 "_law_same" (sp_same 1) []) : FnOk P w K mg base C8.CX0 7 f fd ["script"] (sp_law K) := by
  refine C8.fn0 F sc_law (fun vs H Q E h => ?_) (fun cdv A outer s H vs Q E hr h => ?_)
  · obtain ⟨a, zs, rfl, _⟩ := h; rfl
  · obtain ⟨a, zs, rfl, hS, hlen, q⟩ := h
    refine ⟨_, (pss_cons (ps_set (i := 1) sc_law.nd rfl (Or.inl rfl) (C8.pe_c c__law_pool hr (by first | decide | omega) (by rfl) (pa_cons (pv 0) (pa_cons pe_int pa_nil))))
      (pss_cons (ps_set (i := 2) sc_law.nd rfl (Or.inl rfl) (C8.pe_c c__law_alphabet hr (by first | decide | omega) (by rfl) (pa_cons (pv 1) pa_nil)))
      (pss_cons (ps_set (i := 3) sc_law.nd rfl (Or.inl rfl) (C8.pe_c c__law_pairs hr (by first | decide | omega) (by rfl) (pa_cons (pv 1) (pa_cons (pv 2) (pa_cons (C8.pe_c c__law_draw hr (by first | decide | omega) (by rfl) (pa_cons (pv 1) (pa_cons pe_int pa_nil))) pa_nil)))))
      (pss_cons (ps_set (i := 4) sc_law.nd rfl (Or.inl rfl) (C8.pe_mk k_Joins hr (by first | decide | omega) (by rfl) (pa_cons (pv 2) (pa_cons (pe_callTy call_list_of (by rfl) T.b_list (by decide +kernel) (pa_cons (pe_ix ix_tup (pv 3) pe_int (fun _ _ => rfl)) pa_nil)) pa_nil))))
      (pss_cons (ps_set (i := 5) sc_law.nd rfl (Or.inl rfl) (pe_lst (pa_cons (C8.pe_c c__law_text hr (by first | decide | omega) (by rfl) (pa_cons (pv 1) (pa_cons (pv 2) (pa_cons (pe_ix ix_tup (pv 3) pe_int (fun _ _ => rfl)) (pa_cons pe_int pa_nil))))) (pa_cons (C8.pe_c c__law_text hr (by first | decide | omega) (by rfl) (pa_cons (pv 1) (pa_cons (pv 2) (pa_cons (pe_ix ix_tup (pv 3) pe_int (fun _ _ => rfl)) (pa_cons pe_int pa_nil))))) pa_nil))))
      (pss_cons (ps_set (i := 6) sc_law.nd rfl (Or.inl rfl) (pe_lst (pa_cons (C8.pe_mk k_Page hr (by first | decide | omega) (by rfl) (pa_cons (pv 4) (pa_cons (pe_ix ix_list (pv 5) pe_int (fun _ _ => rfl)) pa_nil))) (pa_cons (C8.pe_mk k_Page hr (by first | decide | omega) (by rfl) (pa_cons (pv 4) (pa_cons (pe_ix ix_list (pv 5) pe_int (fun _ _ => rfl)) pa_nil))) pa_nil))))
      (pss_cons (ps_set (i := 7) sc_law.nd rfl (Or.inl rfl) (pe_lst (pa_cons (pe_lst pa_nil) (pa_cons (pe_lst pa_nil) pa_nil))))
      (pss_cons (ps_set (i := 8) sc_law.nd rfl (Or.inl rfl) (pe_lst (pa_cons (pe_lst pa_nil) (pa_cons (pe_lst pa_nil) pa_nil))))
      (pss_cons (ps_for PassesOwn.never rfl (pi_range1 rfl T.b_range (pa_cons (C8.pe_c c__law_draw hr (by first | decide | omega) (by rfl) (pa_cons (pv 1) (pa_cons (pe_ix ix_list (pe_lst (pa_cons pe_int (pa_cons pe_int pa_nil))) (pe_callTy call_int1 (by rfl) T.b_int (by decide +kernel) (pa_cons (pe_cmpR op_gt (pe_callB call_len_seq (by rfl) T.b_len PySem.boot_len (pa_cons (pe_ix ix_tup (pv 3) pe_int (fun _ _ => rfl)) pa_nil)) pe_int (nomark _)) pa_nil)) (fun _ _ => rfl)) pa_nil))) pa_nil)) (pg_name (i := 9) sc_law.nd rfl (Or.inl rfl)) (pss_cons (ps_set (i := 10) sc_law.nd rfl (Or.inl rfl) (C8.pe_c c__law_draw hr (by first | decide | omega) (by rfl) (pa_cons (pv 1) (pa_cons pe_int pa_nil))))
      (pss_cons (ps_set (i := 11) sc_law.nd rfl (Or.inl rfl) (pe_ix ix_list (pv 6) (pv 10) (fun _ _ => rfl)))
      (pss_cons (ps_set (i := 12) sc_law.nd rfl (Or.inl rfl) (pe_ix ix_list (pv 5) (pv 10) (fun _ _ => rfl)))
      (pss_cons (ps_set (i := 13) sc_law.nd rfl (Or.inl rfl) (pe_ix ix_list (pv 7) (pv 10) (fun _ _ => rfl)))
      (pss_cons (ps_set (i := 14) sc_law.nd rfl (Or.inl rfl) (pe_ix ix_list (pv 8) (pv 10) (fun _ _ => rfl)))
      (pss_cons (ps_set (i := 15) sc_law.nd rfl (Or.inl rfl) (C8.pe_c c__law_draw hr (by first | decide | omega) (by rfl) (pa_cons (pv 1) (pa_cons pe_int pa_nil))))
      (pss_cons (ps_if (PW.pt (pw_and (pt_cmpR op_eq (pv 15) pe_int (nomark _)) (pw_and1 (pt_cmpR op_gt (pe_callB call_len_seq (by rfl) T.b_len PySem.boot_len (pa_cons (pv 13) pa_nil)) pe_int (nomark _))))) (pss_cons (ps_expr (C8.pe_mt0 m_undo hr (by first | decide | omega) (pv 11)))
      (pss_cons (ps_expr (pe_bm PySem.F.plainAttrs_list PySem.F.slot_list_append PySem.F.type_list_append mt_append (pv 14) (pa_cons (pv 12) pa_nil)))
      (pss_one (ps_asg (pe_bm0 PySem.F.plainAttrs_list PySem.F.slot_list_pop PySem.F.type_list_pop mt_pop (pv 13)) (pg_sub (pv 5) (pv 10) set_list))))) (pss_one (ps_if (PW.pt (pw_and (pt_cmpR op_eq (pv 15) pe_int (nomark _)) (pw_and1 (pt_cmpR op_gt (pe_callB call_len_seq (by rfl) T.b_len PySem.boot_len (pa_cons (pv 14) pa_nil)) pe_int (nomark _))))) (pss_cons (ps_expr (C8.pe_mt0 m_redo hr (by first | decide | omega) (pv 11)))
      (pss_cons (ps_expr (pe_bm PySem.F.plainAttrs_list PySem.F.slot_list_append PySem.F.type_list_append mt_append (pv 13) (pa_cons (pv 12) pa_nil)))
      (pss_one (ps_asg (pe_bm0 PySem.F.plainAttrs_list PySem.F.slot_list_pop PySem.F.type_list_pop mt_pop (pv 14)) (pg_sub (pv 5) (pv 10) set_list))))) (pss_cons (ps_set (i := 16) sc_law.nd rfl (Or.inl rfl) (C8.pe_c c__law_draw hr (by first | decide | omega) (by rfl) (pa_cons (pv 1) (pa_cons (pe_op op_add (pe_callB call_len_str (by rfl) T.b_len PySem.boot_len (pa_cons (pv 12) pa_nil)) pe_int) pa_nil))))
      (pss_cons (ps_set (i := 17) sc_law.nd rfl (Or.inl rfl) (pe_op op_add_str (pe_ix ix_str (pv 2) (C8.pe_c c__law_draw hr (by first | decide | omega) (by rfl) (pa_cons (pv 1) (pa_cons (pe_callB call_len_str (by rfl) T.b_len PySem.boot_len (pa_cons (pv 2) pa_nil)) pa_nil))) (fun _ _ => rfl)) (C8.pe_c c__law_text hr (by first | decide | omega) (by rfl) (pa_cons (pv 1) (pa_cons (pv 2) (pa_cons (pe_ix ix_tup (pv 3) pe_int (fun _ _ => rfl)) (pa_cons pe_int pa_nil)))))))
      (pss_cons (ps_set (i := 18) sc_law.nd rfl (Or.inl rfl) (pe_callB (call_min2 rfl) (by rfl) T.b_min (by decide +kernel) (pa_cons (pe_op op_add pe_int (C8.pe_c c__law_draw hr (by first | decide | omega) (by rfl) (pa_cons (pv 1) (pa_cons pe_int pa_nil)))) (pa_cons (pe_op op_sub (pe_callB call_len_str (by rfl) T.b_len PySem.boot_len (pa_cons (pv 12) pa_nil)) (pv 16)) pa_nil))))
      (pss_cons (ps_if (PW.pt (pw_and (pt_cmpR op_lt (pv 15) pe_int (nomark _)) (pw_and1 (pt_cmpR op_lt (pe_callB call_len_str (by rfl) T.b_len PySem.boot_len (pa_cons (pv 12) pa_nil)) pe_int (nomark _))))) (pss_cons (ps_expr (C8.pe_mt m_put_in hr (by first | decide | omega) (pv 11) (pa_cons (pv 16) (pa_cons (pv 17) pa_nil))))
      (pss_one (ps_asg (pe_op op_add_str (pe_op op_add_str (pe_slice sl_str (pv 12) po_none (po_some (pv 16))) (pv 17)) (pe_slice sl_str (pv 12) (po_some (pv 16)) po_none)) (pg_sub (pv 5) (pv 10) set_list)))) (pss_one (ps_if (pt_cmpR op_gt (pv 18) pe_int (nomark _)) (pss_cons (ps_expr (C8.pe_mt m_take_out hr (by first | decide | omega) (pv 11) (pa_cons (pv 16) (pa_cons (pv 18) pa_nil))))
      (pss_one (ps_asg (pe_op op_add_str (pe_slice sl_str (pv 12) po_none (po_some (pv 16))) (pe_slice sl_str (pv 12) (po_some (pe_op op_add (pv 16) (pv 18))) po_none)) (pg_sub (pv 5) (pv 10) set_list)))) pss_nil)))
      (pss_one (ps_if (pt_cmpR op_ne (pe_ix ix_list (pv 5) (pv 10) (fun _ _ => rfl)) (pv 12) (nomark _)) (pss_cons (ps_expr (pe_bm PySem.F.plainAttrs_list PySem.F.slot_list_append PySem.F.type_list_append mt_append (pv 13) (pa_cons (pv 12) pa_nil)))
      (pss_one (ps_expr (pe_bm0 PySem.F.plainAttrs_list PySem.F.slot_list_clear PySem.F.type_list_clear mt_clear (pv 14))))) pss_nil)))))))))
      (pss_cons (ps_if (pt_not (pt_val (C8.pe_c c__law_shown hr (by first | decide | omega) (by rfl) (pa_cons (pv 11) (pa_cons (pe_ix ix_tup (pv 3) pe_int (fun _ _ => rfl)) (pa_cons (pv 2) (pa_cons (pe_ix ix_list (pv 5) (pv 10) (fun _ _ => rfl)) pa_nil))))))) (pss_one (ps_ret pe_bl)) pss_nil)
      (pss_one (ps_if (pt_cmpR op_eq (pe_op op_mod (pv 9) pe_int) pe_int (nomark _)) (pss_cons (ps_set (i := 19) sc_law.nd rfl (Or.inl rfl) (pe_ix ix_list (pv 6) (pe_op op_sub pe_int (pv 10)) (fun _ _ => rfl)))
      (pss_cons (ps_if (pt_not (pt_val (C8.pe_c c__law_same hr (by first | decide | omega) (by rfl) (pa_cons (C8.pe_mt0 m_cut_row hr (by first | decide | omega) (C8.pe_mk k_Page hr (by first | decide | omega) (by rfl) (pa_cons (pv 4) (pa_cons (pe_ix ix_list (pv 5) (pv 10) (fun _ _ => rfl)) pa_nil)))) (pa_cons (C8.pe_mt0 m_cut_row hr (by first | decide | omega) (pv 11)) pa_nil))))) (pss_one (ps_ret pe_bl)) pss_nil)
      (pss_one (ps_if (pt_not (pt_val (C8.pe_c c__law_shown hr (by first | decide | omega) (by rfl) (pa_cons (pv 19) (pa_cons (pe_ix ix_tup (pv 3) pe_int (fun _ _ => rfl)) (pa_cons (pv 2) (pa_cons (pe_ix ix_list (pv 5) (pe_op op_sub pe_int (pv 10)) (fun _ _ => rfl)) pa_nil))))))) (pss_one (ps_ret pe_bl)) pss_nil)))) pss_nil)))))))))))
      (pss_one (ps_ret pe_bl))))))))))), ?_⟩
    refine ⟨_, rfl, a, zs, 840, rfl, hS, hlen, by decide, fun H1 p s1 hp1 hP1 => ?_⟩
    refine ⟨_, rfl, p, rfl, hP1, fun H2 al s2 hok hnd h1 h30 hSG => ?_⟩
    refine ⟨_, rfl, _, rfl, _, rfl, p, 11, rfl, s2.at1, by decide, fun H3 m s3 hm => ⟨p, al, m, rfl, s3.at1, hnd, h1, h30, by omega, fun H4 r pp tx us ps s4 hppp htxp hr0 hpp hps htx hprop hpl => ?_⟩⟩
    -- the list
    refine ⟨_, rfl, _, rfl, r, _, _, _, rfl, rfl, SqT.of hr0, rfl, pp, us, rfl, .inl (SqL.of hpp), fun pa hpa y dx ny ndx nex => ?_⟩
    have npa : pa ≠ y := ne_of_none upd_same ny
    have npd : pa ≠ dx := ne_of_none upd_same ndx
    have sM : ∀ (b : Addr) (o : HO), H4 b = some o → b ≠ y ∧ (upd (upd (upd H4 pa (.lst us)) dx (.own y)) y (.ins C dx [])) b = some o := fun b o e => by
      have e1 : (upd H4 pa (.lst us)) b = some o := (upd_ne (ne_of_none e hpa)).trans e
      have hby := ne_of_none e1 ny
      exact ⟨hby, (upd_ne hby).trans ((upd_ne (ne_of_none e1 ndx)).trans e1)⟩
    refine ⟨y, pa, dx, true, al, ps, us, rfl, upd_same, (upd_ne npa).trans ((upd_ne npd).trans upd_same), hps.same (fun b xs e => (sM b _ e).2), hok, hnd, h30, hprop, by omega, fun H5 sx hj => ⟨rfl, ?_⟩⟩
    have s5 : Same H4 H5 := fun b o e => sx b o (sM b o e).1 (sM b o e).2
    clear sM sx
    have hP5 := s4.at1.same s5
    have hr5 := s5 _ _ hr0
    have hpp5 := s5 _ _ hpp
    have hps5 := hps.same (Same.t s5)
    have htx5 := s5 _ _ htx
    clear hr0 hpp hps htx
    have hjl : ∀ {H'}, PSame p H5 H' → JoinsAt C H' y al ps := fun s => hj.pool s h1
    -- texts
    refine ⟨_, rfl, _, rfl, _, rfl, r, _, _, _, rfl, rfl, SqT.of hr5, rfl, p, tx, al, ps, 36, rfl, hP5, htx5, htxp, hprop, h1, h30, by omega, by decide, fun H6 t0 s6 htm0 htl0 => ?_⟩
    refine ⟨_, rfl, _, rfl, _, rfl, r, _, _, _, rfl, rfl, SqT.of (s6.tup hr5), rfl, p, tx, al, ps, 36, rfl, s6.at1, s6.lst htxp htx5, htxp, hprop, h1, h30, by omega, by decide, fun H7 t1 s7' htm1 htl1 => ?_⟩
    have s7 := s6.trans s7'
    refine ⟨by show 2 ≤ sizeLine; decide, fun X hX => ?_⟩
    have s8 := s7.new (o := .lst [.str (S t0), .str (S t1)]) hX
    have zX : H5 X = none := s7.none hX
    have fX : (upd H7 X (.lst [.str (S t0), .str (S t1)])) X = some (.lst [.str (S t0), .str (S t1)]) := upd_same
    have npX : X ≠ p := s7.at1.free hX
    generalize upd H7 X (.lst [.str (S t0), .str (S t1)]) = H8 at s8 fX ⊢
    have n0 : NdL [X] H8 := ⟨List.nodup_cons.mpr ⟨List.not_mem_nil, List.nodup_nil⟩, fun z hz => by rw [List.mem_singleton.mp hz]; exact ⟨_, fX⟩⟩
    -- pages
    refine ⟨_, rfl, _, rfl, X, _, _, _, rfl, rfl, SqL.of fX, rfl, fun pg0 dx0 ny0 nd0 ne0 => ?_⟩
    refine mkPage (hjl s8) htm0 (by omega) ny0 nd0 fun H9 b0 a0 sp0 hb0 ha0 xb0 xa0 hg0 => ⟨rfl, ?_⟩
    have s9 := s8.then sp0
    have fX9 := sp0 _ _ fX
    refine ⟨_, rfl, _, rfl, X, _, _, _, rfl, rfl, SqL.of fX9, rfl, fun pg1 dx1 ny1 nd1 ne1 => ?_⟩
    refine mkPage (hjl s9) htm1 (by omega) ny1 nd1 fun H10 b1 a1 sp1 hb1 ha1 xb1 xa1 hg1 => ⟨rfl, ?_⟩
    have s10 := s9.then sp1
    have zpg0 := s8.none ny0
    have zb0 := s8.none hb0
    have za0 := s8.none ha0
    have zpg1 := s9.none ny1
    have zb1 := s9.none hb1
    have za1 := s9.none ha1
    have n1 : NdL [a0, b0, pg0, X] H9 := by
      obtain ⟨dx, g1, g2, g3, g4⟩ := id hg0
      have k := (n0.same sp0)
      refine ⟨List.nodup_cons.mpr ⟨?_, List.nodup_cons.mpr ⟨?_, List.nodup_cons.mpr ⟨?_, List.nodup_cons.mpr ⟨List.not_mem_nil, List.nodup_nil⟩⟩⟩⟩, ?_⟩
      · simp only [List.mem_cons, List.not_mem_nil, or_false, not_or]
        exact ⟨Ne.symm g4, Ne.symm xa0, Ne.symm (ne_of_none fX ha0)⟩
      · simp only [List.mem_cons, List.not_mem_nil, or_false, not_or]
        exact ⟨Ne.symm xb0, Ne.symm (ne_of_none fX hb0)⟩
      · simp only [List.mem_cons, List.not_mem_nil, or_false, not_or]
        exact Ne.symm (ne_of_none fX ny0)
      · intro z hz
        simp only [List.mem_cons, List.not_mem_nil, or_false] at hz
        rcases hz with rfl | rfl | rfl | rfl
        · exact ⟨_, g3⟩
        · exact ⟨_, g2⟩
        · exact ⟨_, g1⟩
        · exact ⟨_, fX9⟩
    have n2 : NdL [a1, b1, pg1, a0, b0, pg0, X] H10 := by
      obtain ⟨dx, g1, g2, g3, g4⟩ := id hg1
      have fresh : ∀ {z : Addr}, H9 z = none → z ∉ [a0, b0, pg0, X] := fun hz hm => by
        obtain ⟨o, e⟩ := n1.lv _ hm
        rw [hz] at e; cases e
      refine ⟨List.nodup_cons.mpr ⟨?_, List.nodup_cons.mpr ⟨?_, List.nodup_cons.mpr ⟨fresh ny1, n1.nd⟩⟩⟩, ?_⟩
      · rw [List.mem_cons, List.mem_cons, not_or, not_or]
        exact ⟨Ne.symm g4, Ne.symm xa1, fresh ha1⟩
      · rw [List.mem_cons, not_or]
        exact ⟨Ne.symm xb1, fresh hb1⟩
      · intro z hz
        rcases List.mem_cons.mp hz with rfl | hz
        · exact ⟨_, g3⟩
        rcases List.mem_cons.mp hz with rfl | hz
        · exact ⟨_, g2⟩
        rcases List.mem_cons.mp hz with rfl | hz
        · exact ⟨_, g1⟩
        exact (n1.lv z hz).imp fun o e => sp1 _ _ e
    have n2s := s10
    refine ⟨by show 2 ≤ sizeLine; decide, fun PP hPP => ?_⟩
    have zPP : H5 PP = none := n2s.none hPP
    have n3s := n2s.new (o := .lst [.ref pg0, .ref pg1]) hPP
    have yPP := same_new (o := .lst [.ref pg0, .ref pg1]) hPP
    have fPP : (upd H10 PP (.lst [.ref pg0, .ref pg1])) PP = some (.lst [.ref pg0, .ref pg1]) := upd_same
    generalize upd H10 PP (.lst [.ref pg0, .ref pg1]) = H11 at n3s yPP fPP ⊢
    have n3 := n2.cons yPP hPP ⟨_, fPP⟩
    refine ⟨by show 0 ≤ sizeLine; decide, fun B0 hB0 => ?_⟩
    have zB0 : H5 B0 = none := n3s.none hB0
    have n4s := n3s.new (o := .lst []) hB0
    have yB0 := same_new (o := .lst []) hB0
    have fB0 : (upd H11 B0 (.lst [])) B0 = some (.lst []) := upd_same
    generalize upd H11 B0 (.lst []) = H12 at n4s yB0 fB0 ⊢
    have n4 := n3.cons yB0 hB0 ⟨_, fB0⟩
    refine ⟨by show 0 ≤ sizeLine; decide, fun B1 hB1 => ?_⟩
    have zB1 : H5 B1 = none := n4s.none hB1
    have n5s := n4s.new (o := .lst []) hB1
    have yB1 := same_new (o := .lst []) hB1
    have fB1 : (upd H12 B1 (.lst [])) B1 = some (.lst []) := upd_same
    generalize upd H12 B1 (.lst []) = H13 at n5s yB1 fB1 ⊢
    have n5 := n4.cons yB1 hB1 ⟨_, fB1⟩
    refine ⟨by show 2 ≤ sizeLine; decide, fun BB hBB => ?_⟩
    have zBB : H5 BB = none := n5s.none hBB
    have n6s := n5s.new (o := .lst [.ref B0, .ref B1]) hBB
    have yBB := same_new (o := .lst [.ref B0, .ref B1]) hBB
    have fBB : (upd H13 BB (.lst [.ref B0, .ref B1])) BB = some (.lst [.ref B0, .ref B1]) := upd_same
    generalize upd H13 BB (.lst [.ref B0, .ref B1]) = H14 at n6s yBB fBB ⊢
    have n6 := n5.cons yBB hBB ⟨_, fBB⟩
    refine ⟨by show 0 ≤ sizeLine; decide, fun A0 hA0 => ?_⟩
    have zA0 : H5 A0 = none := n6s.none hA0
    have n7s := n6s.new (o := .lst []) hA0
    have yA0 := same_new (o := .lst []) hA0
    have fA0 : (upd H14 A0 (.lst [])) A0 = some (.lst []) := upd_same
    generalize upd H14 A0 (.lst []) = H15 at n7s yA0 fA0 ⊢
    have n7 := n6.cons yA0 hA0 ⟨_, fA0⟩
    refine ⟨by show 0 ≤ sizeLine; decide, fun A1 hA1 => ?_⟩
    have zA1 : H5 A1 = none := n7s.none hA1
    have n8s := n7s.new (o := .lst []) hA1
    have yA1 := same_new (o := .lst []) hA1
    have fA1 : (upd H15 A1 (.lst [])) A1 = some (.lst []) := upd_same
    generalize upd H15 A1 (.lst []) = H16 at n8s yA1 fA1 ⊢
    have n8 := n7.cons yA1 hA1 ⟨_, fA1⟩
    refine ⟨by show 2 ≤ sizeLine; decide, fun AA hAA => ?_⟩
    have zAA : H5 AA = none := n8s.none hAA
    have n9s := n8s.new (o := .lst [.ref A0, .ref A1]) hAA
    have yAA := same_new (o := .lst [.ref A0, .ref A1]) hAA
    have fAA : (upd H16 AA (.lst [.ref A0, .ref A1])) AA = some (.lst [.ref A0, .ref A1]) := upd_same
    generalize upd H16 AA (.lst [.ref A0, .ref A1]) = H17 at n9s yAA fAA ⊢
    have n9 := n8.cons yAA hAA ⟨_, fAA⟩
    have I0 : Inv31 CP y p al H5 PP BB AA X 0 0 H17 ⟨pg0, b0, a0, B0, A0, t0, [], []⟩ ⟨pg1, b1, a1, B1, A1, t1, [], []⟩ := by
      have k10 : Same H10 H17 := fun b o e => yAA _ _ (yA1 _ _ (yA0 _ _ (yBB _ _ (yB1 _ _ (yB0 _ _ (yPP _ _ e))))))
      refine ⟨n9s, yAA _ _ (yA1 _ _ (yA0 _ _ (yBB _ _ (yB1 _ _ (yB0 _ _ fPP))))), yAA _ _ (yA1 _ _ (yA0 _ _ fBB)), fAA, k10 _ _ (sp1 _ _ fX9), ?_, ?_, ?_, ?_⟩
      · exact ⟨(hg0.same sp1).same k10, yAA _ _ (yA1 _ _ (yA0 _ _ (yBB _ _ (yB1 _ _ fB0)))), yAA _ _ (yA1 _ _ fA0), ⟨htm0, by show t0.length ≤ 80; omega⟩, fun u hu => absurd hu (by simp), fun u hu => absurd hu (by simp), Nat.le_refl _, Nat.le_refl _⟩
      · exact ⟨hg1.same k10, yAA _ _ (yA1 _ _ (yA0 _ _ (yBB _ _ fB1))), yAA _ _ fA1, ⟨htm1, by show t1.length ≤ 80; omega⟩, fun u hu => absurd hu (by simp), fun u hu => absurd hu (by simp), Nat.le_refl _, Nat.le_refl _⟩
      · exact reidx n9.nd (σ := [6, 3, 0, 13, 12, 11, 10, 5, 2, 9, 8, 7, 4, 1]) (by decide) (by show ∀ i ∈ [6, 3, 0, 13, 12, 11, 10, 5, 2, 9, 8, 7, 4, 1], i < 14; decide)
      · intro z hz
        unfold adr at hz
        simp only [List.mem_cons, List.not_mem_nil, or_false] at hz
        rcases hz with rfl | rfl | rfl | rfl | rfl | rfl | rfl | rfl | rfl | rfl | rfl | rfl | rfl | rfl <;> assumption
    clear n0 n1 n2 n3 n4 n5 n6 n7 n8 n9 n2s n3s n4s n5s n6s n7s n8s hg0 hg1
    refine ⟨_, rfl, by show 2 ≤ sizeLine; decide, fun L0 hL0 => ?_⟩
    have sL0 := same_new (o := .lst [V.int 29, V.int 9]) hL0
    have hL0v : (upd H17 L0 (.lst [V.int 29, V.int 9])) L0 = some (.lst [V.int 29, V.int 9]) := upd_same
    have I1 := I0.psame (PSame.of I0.ps.at1 sL0)
    generalize upd H17 L0 (.lst [V.int 29, V.int 9]) = Hx at sL0 hL0v I1 ⊢
    refine ⟨_, rfl, r, _, _, _, rfl, rfl, SqT.of (I1.ps.tup hr5), rfl, pp, us, rfl, .inl (SqL.of (I1.ps.lst hppp hpp5)), _, _, rfl, rfl, .inr ⟨_, rfl, ?_⟩⟩
    obtain ⟨mo, hat, hmo, hmo1⟩ : ∃ mo : Nat, atI [V.int 29, V.int 9] (if decide ((12 : Int) < (us.length : Int)) = true then 1 else 0) = some (.int (mo : Int)) ∧ mo ≤ 29 ∧ 0 < mo := by
      cases decide ((12 : Int) < (us.length : Int)) with
      | true => exact ⟨9, rfl, by decide, by decide⟩
      | false => exact ⟨29, rfl, by decide, by decide⟩
    refine ⟨L0, _, _, _, rfl, rfl, SqL.of hL0v, hat, p, mo, rfl, I1.ps.at1, by omega, fun Hy nk sy hnk => ?_⟩
    have I2 := I1.psame sy
    refine ⟨_, rfl, by omega, by omega, for_it walk_range (fun i σ H' => ∃ v9 v10 v11 v12 v13 v14 v15 v16 v17 v18 v19 : Option V, σ = [some (.ref a), some (.ref p), some (.str (S al)), some (.ref r), some (.ref y), some (.ref X), some (.ref PP), some (.ref BB), some (.ref AA), v9, v10, v11, v12, v13, v14, v15, v16, v17, v18, v19] ∧ ∃ U W, Inv31 CP y p al H5 PP BB AA X i 0 H' U W) ⟨none, none, none, none, none, none, none, none, none, none, none, rfl, _, _, I2⟩ (fun _ _ _ _ _ => trivial) ?_ ?_⟩
    rotate_left
    · rintro σ H9 _
      exact q H9
    rintro k x σ Ha Hb hk ⟨v9, v10, v11, v12, v13, v14, v15, v16, v17, v18, v19, rfl, U0, W0, Ia⟩ ⟨rfl, hx⟩
    obtain rfl : x = V.int (k : Int) := hx.trans (congrArg V.int (Int.zero_add _))
    have hk29 : k < 29 := by have : k < nk := by simpa using hk
                             omega
    refine ⟨_, rfl, p, 2, rfl, Ia.ps.at1, by decide, fun Hc o sc ho => ?_⟩
    have ho2 : o < 2 := by omega
    obtain ⟨U, W, Io⟩ : ∃ U W, Inv31 CP y p al H5 PP BB AA X k o Hc U W := by
      have I' := Ia.psame sc
      match o, ho2 with
      | 0, _ => exact ⟨_, _, I'⟩
      | 1, _ => exact ⟨_, _, I'.swap (by decide)⟩
    refine ⟨_, rfl, _, rfl, PP, _, _, _, rfl, rfl, SqL.of Io.pp, pair2_at ho2 _ _, ?_⟩
    refine ⟨_, rfl, _, rfl, X, _, _, _, rfl, rfl, SqL.of Io.x, pair2_at ho2 _ _, ?_⟩
    refine ⟨_, rfl, _, rfl, BB, _, _, _, rfl, rfl, SqL.of Io.bb, pair2_at ho2 _ _, ?_⟩
    refine ⟨_, rfl, _, rfl, AA, _, _, _, rfl, rfl, SqL.of Io.aa, pair2_at ho2 _ _, ?_⟩
    refine ⟨_, rfl, p, 6, rfl, Io.ps.at1, by decide, fun Hd way sd hway => ?_⟩
    have Id := Io.psame sd
    generalize hT : tSeq (tIfS (tNot (tB (tCall (sp_shown C CP) _ _ _))) _ _) _ = T3
    have hwf := hprop.wf
    have key : ∀ D He U' v12 v13 v14 v15 v16 v17 v18, U'.pg = U.pg → Inv31 CP y p al H5 PP BB AA X (k + 1) o He U' W →
        (∀ σ H', (∃ v9 v10 v11 v12 v13 v14 v15 v16 v17 v18 v19 : Option V, σ = [some (.ref a), some (.ref p), some (.str (S al)), some (.ref r), some (.ref y), some (.ref X), some (.ref PP), some (.ref BB), some (.ref AA), v9, v10, v11, v12, v13, v14, v15, v16, v17, v18, v19] ∧ ∃ U W, Inv31 CP y p al H5 PP BB AA X (k + 1) 0 H' U W) → D.nx σ H') →
        T3 D [some (.ref a), some (.ref p), some (.str (S al)), some (.ref r), some (.ref y), some (.ref X), some (.ref PP), some (.ref BB), some (.ref AA), some (.int (k : Int)), some (.int (o : Int)), some (.ref U.pg), v12, v13, v14, v15, v16, v17, v18, v19] He := by
      clear Ia Io Id I0 I1 I2 sc sd sy
      subst hT
      intro D He U' v12 v13 v14 v15 v16 v17 v18 epg Ie hD
      have back : ∀ {H'}, Inv31 CP y p al H5 PP BB AA X (k + 1) o H' U' W → ∃ U W, Inv31 CP y p al H5 PP BB AA X (k + 1) 0 H' U W := fun I' => by
        match o, ho2 with
        | 0, _ => exact ⟨_, _, I'⟩
        | 1, _ => exact ⟨_, _, I'.swap (by decide)⟩
      rw [← epg]
      obtain ⟨hpgE, _, _, ⟨htE, htlE⟩, _⟩ := id Ie.u
      refine ⟨_, rfl, _, rfl, r, _, _, _, rfl, rfl, SqT.of (Ie.ps.tup hr5), rfl, _, rfl, _, rfl, _, rfl, X, _, _, _, rfl, rfl, SqL.of Ie.x, pair2_at ho2 _ _, ?_⟩
      refine ⟨U'.pg, y, U'.b, U'.a, pp, U'.t, al, U'.bs, U'.as, us, ps, rfl, hpgE, hjl Ie.ps, Ie.ps.lst hppp hpp5, hps5.same Ie.ps.tt, hwf, htE, by omega, by omega, by omega, fun Hf sf => ⟨_, rfl, iteF ?_⟩⟩
      have If := Ie.psame (PSame.of Ie.ps.at1 sf)
      refine ⟨_, rfl, _, _, rfl, rfl, by show (0 : Int) < 8; decide, rfl, _, rfl, ?_⟩
      obtain ⟨e, he⟩ : ∃ e : Bool, e = decide (V.int ((k : Int) % 8) = V.int 0) := ⟨_, rfl⟩
      show (if decide (V.int ((k : Int) % 8) = V.int 0) = true then _ else _)
      rw [← he]
      cases e with
      | false => exact iteF (hD _ _ ⟨_, _, _, _, _, _, _, _, _, _, _, rfl, back If⟩)
      | true =>
        have hoth : ∀ x z : V, atI (pair2 o x z) ((1 : Int) - (o : Int)) = some z := fun x z => by
          match o, ho2 with
          | 0, _ => rfl
          | 1, _ => rfl
        refine iteT ⟨_, rfl, _, rfl, _, _, rfl, rfl, PP, _, _, _, rfl, rfl, SqL.of If.pp, hoth _ _, ?_⟩
        refine ⟨_, rfl, _, rfl, _, rfl, X, _, _, _, rfl, rfl, SqL.of If.x, pair2_at ho2 _ _, fun pg2 dx2 ny2 nd2 ne2 => ?_⟩
        refine mkPage (hjl If.ps) htE (by omega) ny2 nd2 fun Hg b2 a2 sg hb2 ha2 _ _ hg2 => ⟨rfl, ?_⟩
        have Ig := If.psame (PSame.of If.ps.at1 sg)
        obtain ⟨dy, g1, g2, g3, g4⟩ := id hg2
        refine ⟨pg2, dy, _, rfl, g1, pgF_no _ _ _ _ (by decide +kernel) (by decide +kernel) (by decide +kernel) (by decide +kernel), ?_⟩
        refine ⟨pg2, y, b2, a2, U'.t, al, [], [], ps, rfl, hg2, hjl Ig.ps, hwf, htE, by omega, by omega, fun Hh c1 sh hc1 => ?_⟩
        have Ih := Ig.psame (PSame.of Ig.ps.at1 sh)
        obtain ⟨hpgH, _⟩ := id Ih.u
        obtain ⟨dz, k1, k2, k3, k4⟩ := id hpgH
        refine ⟨_, rfl, U'.pg, dz, _, rfl, k1, pgF_no _ _ _ _ (by decide +kernel) (by decide +kernel) (by decide +kernel) (by decide +kernel), ?_⟩
        refine ⟨U'.pg, y, U'.b, U'.a, U'.t, al, U'.bs, U'.as, ps, rfl, hpgH, hjl Ih.ps, hwf, htE, by omega, by omega, fun Hi c2 si hc2 => ?_⟩
        have hcl := cutL_len al.length ps (lets al U'.t)
        have hll : (lets al U'.t).length = U'.t.length := by rw [lets, List.length_map]
        refine ⟨.ref c1, .ref c2, rfl, SameD.row (l := cutL al.length ps (lets al U'.t)) (si _ _ hc1) hc2 (by omega), fun Hj sj => ⟨_, rfl, iteF ?_⟩⟩
        have Ij := (Ih.psame (PSame.of Ih.ps.at1 si)).psame (PSame.of (Ih.ps.at1.same si) sj)
        obtain ⟨hpgW, _, _, ⟨htW, htlW⟩, _⟩ := id Ij.w
        refine ⟨_, rfl, _, rfl, r, _, _, _, rfl, rfl, SqT.of (Ij.ps.tup hr5), rfl, _, rfl, _, rfl, _, rfl, _, _, rfl, rfl, X, _, _, _, rfl, rfl, SqL.of Ij.x, hoth _ _, ?_⟩
        refine ⟨W.pg, y, W.b, W.a, pp, W.t, al, W.bs, W.as, us, ps, rfl, hpgW, hjl Ij.ps, Ij.ps.lst hppp hpp5, hps5.same Ij.ps.tt, hwf, htW, by omega, by omega, by omega, fun Hk sk => ⟨_, rfl, iteF ?_⟩⟩
        exact hD _ _ ⟨_, _, _, _, _, _, _, _, _, _, _, rfl, back (Ij.psame (PSame.of Ij.ps.at1 sk))⟩
    obtain ⟨hpg, hB, hA, hokt, hbs, has, hbl, hal⟩ := id Id.u
    have hix : ixN 2 (o : Int) = some o := by
      match o, ho2 with
      | 0, _ => rfl
      | 1, _ => rfl
    have lpr : ∀ x z : V, (pair2 o x z).length = 2 := fun x z => by
      match o, ho2 with
      | 0, _ => rfl
      | 1, _ => rfl
    have ne : ∀ {i j : Nat} {x z : Addr}, (adr PP BB AA X U W)[i]? = some x → (adr PP BB AA X U W)[j]? = some z → i ≠ j → x ≠ z := fun h1 h2 h3 => nd_ne Id.nd h1 h2 h3
    have nXB : X ≠ U.B := ne (i := 3) (j := 7) rfl rfl (by decide)
    have nXA : X ≠ U.A := ne (i := 3) (j := 8) rfl rfl (by decide)
    have nAB : U.A ≠ U.B := ne (i := 8) (j := 7) rfl rfl (by decide)
    have keep : ∀ {He : Hp}, PFr U.pg U.b U.a Hd He → He X = some (.lst (pair2 o (.str (S U.t)) (.str (S W.t)))) ∧ He U.B = some (.lst (strV U.bs)) ∧ He U.A = some (.lst (strV U.as)) := fun fr =>
      ⟨fr _ _ (ne (i := 3) (j := 4) rfl rfl (by decide)) (ne (i := 3) (j := 5) rfl rfl (by decide)) (ne (i := 3) (j := 6) rfl rfl (by decide)) Id.x, fr _ _ (ne (i := 7) (j := 4) rfl rfl (by decide)) (ne (i := 7) (j := 5) rfl rfl (by decide)) (ne (i := 7) (j := 6) rfl rfl (by decide)) hB, fr _ _ (ne (i := 8) (j := 4) rfl rfl (by decide)) (ne (i := 8) (j := 5) rfl rfl (by decide)) (ne (i := 8) (j := 6) rfl rfl (by decide)) hA⟩
    generalize hT2 : tIfS (tAnd (tTest (tOp rEq (tVar 15) (tC (V.int 1)))) _) _ _ = T2
    have key2 : ∀ D, (∀ He U' v12 v13 v14 v15 v16 v17 v18, U'.pg = U.pg → Inv31 CP y p al H5 PP BB AA X (k + 1) o He U' W → D.nx [some (.ref a), some (.ref p), some (.str (S al)), some (.ref r), some (.ref y), some (.ref X), some (.ref PP), some (.ref BB), some (.ref AA), some (.int (k : Int)), some (.int (o : Int)), some (.ref U.pg), v12, v13, v14, v15, v16, v17, v18, v19] He) → T2 D [some (.ref a), some (.ref p), some (.str (S al)), some (.ref r), some (.ref y), some (.ref X), some (.ref PP), some (.ref BB), some (.ref AA), some (.int (k : Int)), some (.int (o : Int)), some (.ref U.pg), some (.str (S U.t)), some (.ref U.B), some (.ref U.A), some (.int (way : Int)), v16, v17, v18, v19] Hd := by
      clear key hT
      subst hT2
      intro D hD
      generalize hT1 : tSeq (tAsg (tCall sp_drawB _ _ _) (gName 16)) _ = T1
      have key1 : T1 D [some (.ref a), some (.ref p), some (.str (S al)), some (.ref r), some (.ref y), some (.ref X), some (.ref PP), some (.ref BB), some (.ref AA), some (.int (k : Int)), some (.int (o : Int)), some (.ref U.pg), some (.str (S U.t)), some (.ref U.B), some (.ref U.A), some (.int (way : Int)), v16, v17, v18, v19] Hd := by
        subst hT1
        obtain ⟨hokm, hokl⟩ := id hokt
        have zt : (S U.t).length ≤ sizeLine := by rw [S_len]; exact small_le (by omega)
        refine ⟨_, rfl, _, rfl, S U.t, rfl, zt, _, _, rfl, rfl, p, _, rfl, Id.ps.at1, by rw [S_len]; omega, fun He at_ se hat => ?_⟩
        rw [S_len] at hat
        have hat' : at_ ≤ U.t.length := by omega
        have I3 := Id.psame se
        refine ⟨_, rfl, _, rfl, _, rfl, S al, rfl, by rw [S_len]; exact small_le (by omega), p, _, rfl, I3.ps.at1, by rw [S_len]; omega, fun Hf ci sf hci => ?_⟩
        rw [S_len] at hci
        have I4 := I3.psame sf
        obtain ⟨c, hc⟩ : ∃ c, al[ci]? = some c := ⟨_, List.getElem?_eq_getElem (by omega)⟩
        have hcm : c ∈ al := List.mem_of_getElem? hc
        refine ⟨S al, _, c, rfl, rfl, by rw [S_len]; exact small_le (by omega), atI_nat hc, ?_⟩
        refine ⟨_, rfl, _, rfl, _, rfl, r, _, _, _, rfl, rfl, SqT.of (I4.ps.tup hr5), rfl, p, tx, al, ps, 11, rfl, I4.ps.at1, I4.ps.lst htxp htx5, htxp, hprop, h1, h30, by omega, by decide, fun Hg mt sg htm htl => ?_⟩
        have I5 := I4.psame sg
        refine ⟨_, _, rfl, rfl, by rw [S_len]; exact small_le (show 1 + mt.length ≤ 1000 by omega), ?_⟩
        rw [show ((⟨#[c]⟩ : Str) ++ S mt) = S (c :: mt) from S_cat [c] mt]
        refine ⟨_, rfl, p, 12, rfl, I5.ps.at1, by decide, fun Hh mn sh hmn => ⟨_, _, rfl, rfl, _, rfl, S U.t, rfl, zt, _, rfl, _, _, rfl, rfl, _, _, rfl, ?_⟩⟩
        have Ih := I5.psame sh
        rw [S_len]
        obtain ⟨many, hmany, hmany2, hmany3⟩ : ∃ many : Nat, (if (U.t.length : Int) - (at_ : Int) < 1 + (mn : Int) then (U.t.length : Int) - (at_ : Int) else 1 + (mn : Int)) = (many : Int) ∧ at_ + many ≤ U.t.length ∧ many ≤ 400 := by
          by_cases c : (U.t.length : Int) - (at_ : Int) < 1 + (mn : Int)
          · exact ⟨U.t.length - at_, by rw [if_pos c]; omega, by omega, by omega⟩
          · exact ⟨1 + mn, by rw [if_neg c]; omega, by omega, by omega⟩
        rw [hmany]
        clear sh sg sf se I3 I4 I5
        obtain ⟨hpgH, hBH, hAH, _⟩ := id Ih.u
        have keepH : ∀ {He : Hp}, PFr U.pg U.b U.a Hh He → He X = some (.lst (pair2 o (.str (S U.t)) (.str (S W.t)))) ∧ He U.B = some (.lst (strV U.bs)) ∧ He U.A = some (.lst (strV U.as)) := fun fr =>
          ⟨fr _ _ (ne (i := 3) (j := 4) rfl rfl (by decide)) (ne (i := 3) (j := 5) rfl rfl (by decide)) (ne (i := 3) (j := 6) rfl rfl (by decide)) Ih.x, fr _ _ (ne (i := 7) (j := 4) rfl rfl (by decide)) (ne (i := 7) (j := 5) rfl rfl (by decide)) (ne (i := 7) (j := 6) rfl rfl (by decide)) hBH, fr _ _ (ne (i := 8) (j := 4) rfl rfl (by decide)) (ne (i := 8) (j := 5) rfl rfl (by decide)) (ne (i := 8) (j := 6) rfl rfl (by decide)) hAH⟩
        generalize hT0 : tIfS (tTest (tOp rNe (tOp (rIxL _) (tVar 5) (tVar 10)) (tVar 12))) _ _ = T0
        have key0 : ∀ (He Hk : Hp) (t' : List Nat) (a' : Addr) (bs' as' : List (List Nat)), PFr U.pg U.b U.a Hh He → PageAt CP He U.pg y U.b a' t' bs' as' → (t' = U.t ∧ a' = U.a ∧ bs' = U.bs ∧ as' = U.as ∨ t' ≠ U.t ∧ Hh a' = none ∧ bs' = U.bs ++ [U.t] ∧ as' = []) → OKT al t' → Hk X = some (.lst (pair2 o (.str (S t')) (.str (S W.t)))) → (∀ z ob, z ≠ X → He z = some ob → Hk z = some ob) → T0 D [some (.ref a), some (.ref p), some (.str (S al)), some (.ref r), some (.ref y), some (.ref X), some (.ref PP), some (.ref BB), some (.ref AA), some (.int (k : Int)), some (.int (o : Int)), some (.ref U.pg), some (.str (S U.t)), some (.ref U.B), some (.ref U.A), some (.int (way : Int)), some (.int (at_ : Int)), some (.str (S (c :: mt))), some (.int (many : Int)), v19] Hk := by
          subst hT0
          intro He Hk t' a' bs' as' fr pe alt ok hX fk
          obtain ⟨_, kB, kA⟩ := keepH fr
          have kB1 := fk _ _ (Ne.symm nXB) kB
          have kA1 := fk _ _ (Ne.symm nXA) kA
          refine ⟨_, rfl, _, rfl, X, _, _, _, rfl, rfl, SqL.of hX, pair2_at ho2 _ _, _, rfl, rfl, _, rfl, ?_⟩
          show (if (!decide (V.str (S t') = V.str (S U.t))) = true then _ else _)
          rcases alt with ⟨rfl, rfl, rfl, rfl⟩ | ⟨hne, hfr, rfl, rfl⟩
          · rw [decide_eq_true rfl]
            refine iteF (hD _ ⟨U.pg, U.b, U.a, U.B, U.A, U.t, U.bs, U.as⟩ _ _ _ _ _ _ _ rfl (Ih.made (by omega) fr pe (.inl rfl) ok hbs has (by omega) (by omega) (fun z ob hz e => ?_) kB1 kA1 hX))
            simp only [List.mem_cons, List.not_mem_nil, or_false, not_or] at hz
            exact fk z ob hz.1 e
          · rw [decide_eq_false (fun e => hne (S_inj (V.str.inj e)))]
            refine iteT ⟨_, rfl, .inl ⟨rfl, _, SqL.of kB1⟩, _, rfl, U.B, _, _, rfl, rfl, kB1, by rw [strV_len]; exact smallB (by omega), ?_⟩
            rw [strV_snoc]
            have kA2 : (upd Hk U.B (.lst (strV (U.bs ++ [U.t])))) U.A = some (.lst (strV U.as)) := (upd_ne nAB).trans kA1
            refine ⟨_, rfl, .inl ⟨rfl, _, SqL.of kA2⟩, U.A, _, rfl, rfl, kA2, ?_⟩
            refine hD _ ⟨U.pg, U.b, a', U.B, U.A, t', U.bs ++ [U.t], []⟩ _ _ _ _ _ _ _ rfl (Ih.made (by omega) fr pe (.inr hfr) ok (fun u hu => ?_) (fun u hu => absurd hu (by simp)) (by rw [List.length_append, List.length_singleton]; omega) (Nat.zero_le _) (fun z ob hz e => ?_) ?_ upd_same ?_)
            · rcases List.mem_append.mp hu with h | h
              · exact hbs u h
              · rw [List.mem_singleton.mp h]; exact hokt
            · simp only [List.mem_cons, List.not_mem_nil, or_false, not_or] at hz
              rw [upd_ne hz.2.2, upd_ne hz.2.1]; exact fk z ob hz.1 e
            · rw [upd_ne (Ne.symm nAB), upd_same]
            · rw [upd_ne nXA, upd_ne nXB]; exact hX
        clear hT0
        obtain ⟨dx, g1, g2, g3, g4⟩ := id hpgH
        generalize hE : tIfS (tTest (tOp (rI0 _) (tVar 18) _)) _ tNext = E1
        have keyE : ∀ D', (∀ Hk, T0 D [some (.ref a), some (.ref p), some (.str (S al)), some (.ref r), some (.ref y), some (.ref X), some (.ref PP), some (.ref BB), some (.ref AA), some (.int (k : Int)), some (.int (o : Int)), some (.ref U.pg), some (.str (S U.t)), some (.ref U.B), some (.ref U.A), some (.int (way : Int)), some (.int (at_ : Int)), some (.str (S (c :: mt))), some (.int (many : Int)), v19] Hk → D'.nx [some (.ref a), some (.ref p), some (.str (S al)), some (.ref r), some (.ref y), some (.ref X), some (.ref PP), some (.ref BB), some (.ref AA), some (.int (k : Int)), some (.int (o : Int)), some (.ref U.pg), some (.str (S U.t)), some (.ref U.B), some (.ref U.A), some (.int (way : Int)), some (.int (at_ : Int)), some (.str (S (c :: mt))), some (.int (many : Int)), v19] Hk) → E1 D' [some (.ref a), some (.ref p), some (.str (S al)), some (.ref r), some (.ref y), some (.ref X), some (.ref PP), some (.ref BB), some (.ref AA), some (.int (k : Int)), some (.int (o : Int)), some (.ref U.pg), some (.str (S U.t)), some (.ref U.B), some (.ref U.A), some (.int (way : Int)), some (.int (at_ : Int)), some (.str (S (c :: mt))), some (.int (many : Int)), v19] Hh := by
          subst hE
          intro D' hD'
          refine ⟨_, rfl, _, _, rfl, rfl, _, rfl, ?_⟩
          by_cases hm0 : 0 < many
          · rw [decide_eq_true (by omega : (0 : Int) < (many : Int))]
            refine iteT ⟨_, rfl, U.pg, dx, _, rfl, g1, pgF_no _ _ _ _ (by decide +kernel) (by decide +kernel) (by decide +kernel) (by decide +kernel), _, rfl, _, rfl, U.pg, y, U.b, U.a, U.t, U.bs, U.as, at_, many, rfl, hpgH, hmany2, by omega, by omega, fun He a' bs' as' fr pe alt => ?_⟩
            refine ⟨_, rfl, _, rfl, _, rfl, S U.t, rfl, zt, ?_⟩
            rw [cutS_uptoP]
            refine ⟨_, rfl, _, rfl, _, rfl, _, _, rfl, rfl, _, rfl, S U.t, rfl, zt, ?_⟩
            have e1 : (at_ : Int) + (many : Int) = ((at_ + many : Nat) : Int) := by omega
            rw [e1, cutS_fromP]
            refine ⟨_, _, rfl, rfl, by rw [S_len, S_len, List.length_take, List.length_drop]; exact small_le (by omega), ?_⟩
            rw [S_cat]
            obtain ⟨kX, _, _⟩ := keepH fr
            refine ⟨_, rfl, _, rfl, X, _, _, o, rfl, rfl, kX, by rw [lpr]; exact hix, ?_⟩
            rw [pair2_set ho2]
            refine hD' _ (key0 He _ _ a' bs' as' fr pe alt ⟨fun x hx => ?_, ?_⟩ upd_same (fun z ob hz e => (upd_ne hz).trans e))
            · rcases List.mem_append.mp hx with h | h
              · exact hokm x (List.mem_of_mem_take h)
              · exact hokm x (List.mem_of_mem_drop h)
            · rw [List.length_append, List.length_take, List.length_drop]; omega
          · rw [decide_eq_false (by omega : ¬ (0 : Int) < (many : Int))]
            exact iteF (hD' _ (key0 Hh Hh U.t U.a U.bs U.as (fun _ _ _ _ _ e => e) hpgH (.inl ⟨rfl, rfl, rfl, rfl⟩) hokt Ih.x (fun _ _ _ e => e)))
        clear hE
        refine ⟨_, rfl, _, _, rfl, rfl, _, rfl, ?_⟩
        by_cases hw4 : way < 4
        rotate_left
        · rw [decide_eq_false (by omega : ¬ (way : Int) < 4)]
          exact iteF (keyE _ fun Hk h => h)
        · rw [decide_eq_true (by omega : (way : Int) < 4)]
          refine iteT ⟨_, rfl, S U.t, rfl, zt, _, _, rfl, rfl, _, rfl, ?_⟩
          rw [S_len]
          by_cases h60 : U.t.length < 60
          rotate_left
          · rw [decide_eq_false (by omega : ¬ (U.t.length : Int) < 60)]
            exact iteF (keyE _ fun Hk h => h)
          · rw [decide_eq_true (by omega : (U.t.length : Int) < 60)]
            have hmm : ∀ x ∈ c :: mt, x ∈ al := fun x hx => by
              rcases List.mem_cons.mp hx with rfl | h
              · exact hcm
              · exact htm x h
            have hml : (c :: mt).length ≤ 12 := by rw [List.length_cons]; omega
            refine iteT ⟨_, rfl, U.pg, dx, _, rfl, g1, pgF_no _ _ _ _ (by decide +kernel) (by decide +kernel) (by decide +kernel) (by decide +kernel), _, rfl, _, rfl, U.pg, y, U.b, U.a, U.t, c :: mt, al, U.bs, U.as, ps, at_, rfl, hpgH, hjl Ih.ps, hat', by omega, by omega, hmm, by omega, h1, fun He a' bs' as' fr pe alt => ?_⟩
            refine ⟨_, rfl, _, rfl, _, rfl, S U.t, rfl, zt, ?_⟩
            rw [cutS_uptoP]
            refine ⟨_, rfl, _, _, rfl, rfl, by rw [S_len, S_len, List.length_take]; exact small_le (by omega), ?_⟩
            rw [S_cat]
            refine ⟨_, rfl, _, rfl, _, rfl, S U.t, rfl, zt, ?_⟩
            rw [cutS_fromP]
            refine ⟨_, _, rfl, rfl, by rw [S_len, S_len, List.length_append, List.length_take, List.length_drop]; exact small_le (by omega), ?_⟩
            rw [S_cat]
            obtain ⟨kX, _, _⟩ := keepH fr
            refine ⟨_, rfl, _, rfl, X, _, _, o, rfl, rfl, kX, by rw [lpr]; exact hix, ?_⟩
            rw [pair2_set ho2]
            refine key0 He _ _ a' bs' as' fr pe alt ⟨fun x hx => ?_, ?_⟩ upd_same (fun z ob hz e => (upd_ne hz).trans e)
            · rcases List.mem_append.mp hx with h | h
              · rcases List.mem_append.mp h with h | h
                · exact hokm x (List.mem_of_mem_take h)
                · exact hmm x h
              · exact hokm x (List.mem_of_mem_drop h)
            · rw [List.length_append, List.length_append, List.length_take, List.length_drop]; omega
      clear hT1
      refine ⟨_, rfl, rfl, _, rfl, ?_⟩
      by_cases c0 : way = 1
      rotate_left
      · rw [decide_eq_false (fun e => c0 (by injection e with e; omega))]
        exact iteF key1
      · subst c0
        rw [decide_eq_true (show V.int ((1 : Nat) : Int) = V.int 1 from rfl)]
        refine iteT ⟨_, rfl, U.A, _, rfl, .inl (SqL.of hA), _, _, rfl, rfl, _, rfl, ?_⟩
        by_cases hb0 : U.as = []
        · rw [hb0]
          exact iteF key1
        · obtain ⟨as0, x, hx⟩ : ∃ bs0 x, U.as = bs0 ++ [x] := ⟨_, _, (List.dropLast_concat_getLast hb0).symm⟩
          have hal2 : as0.length + 1 ≤ k := by rw [hx, List.length_append, List.length_singleton] at hal; exact hal
          rw [decide_eq_true (by rw [strV_len, hx, List.length_append, List.length_singleton]; omega)]
          obtain ⟨dx, g1, g2, g3, g4⟩ := id hpg
          refine iteT ⟨_, rfl, U.pg, dx, _, rfl, g1, pgF_no _ _ _ _ (by decide +kernel) (by decide +kernel) (by decide +kernel) (by decide +kernel), U.pg, y, U.b, U.a, U.t, x, U.bs, as0, rfl, by rw [← hx]; exact hpg, by omega, fun He fr hpe => ?_⟩
          obtain ⟨kX, kB, kA⟩ := keep fr
          rw [hx] at kA
          refine ⟨_, rfl, .inl ⟨rfl, _, SqL.of kB⟩, _, rfl, U.B, _, _, rfl, rfl, kB, by rw [strV_len]; exact smallB (by omega), ?_⟩
          rw [strV_snoc]
          have kA1 : (upd He U.B (.lst (strV (U.bs ++ [U.t])))) U.A = some (.lst (strV (as0 ++ [x]))) := (upd_ne nAB).trans kA
          refine ⟨_, rfl, .inl ⟨rfl, _, SqL.of kA1⟩, U.A, _, .str (S x), rfl, rfl, kA1, strV_last as0 x, ?_⟩
          rw [strV_drop]
          have kX1 : (upd (upd He U.B (.lst (strV (U.bs ++ [U.t])))) U.A (.lst (strV as0))) X = some (.lst (pair2 o (.str (S U.t)) (.str (S W.t)))) := (upd_ne nXA).trans ((upd_ne nXB).trans kX)
          refine ⟨_, rfl, _, rfl, X, _, _, o, rfl, rfl, kX1, by rw [lpr]; exact hix, ?_⟩
          rw [pair2_set ho2]
          refine hD _ ⟨U.pg, U.b, U.a, U.B, U.A, x, U.bs ++ [U.t], as0⟩ _ _ _ _ _ _ _ rfl (Id.made (by omega) fr hpe (.inl rfl) (has x (by rw [hx]; simp)) (fun u hu => ?_) (fun u hu => has u (by rw [hx]; exact List.mem_append_left _ hu)) (by rw [List.length_append, List.length_singleton]; omega) (by omega) (fun z ob hz e => ?_) ?_ ?_ upd_same)
          · rcases List.mem_append.mp hu with h | h
            · exact hbs u h
            · rw [List.mem_singleton.mp h]; exact hokt
          · simp only [List.mem_cons, List.not_mem_nil, or_false, not_or] at hz
            rw [upd_ne hz.1, upd_ne hz.2.2, upd_ne hz.2.1]; exact e
          · rw [upd_ne (Ne.symm nXB), upd_ne (Ne.symm nAB), upd_same]
          · rw [upd_ne (Ne.symm nXA), upd_same]
    clear hT2
    refine ⟨_, rfl, rfl, _, rfl, ?_⟩
    by_cases c0 : way = 0
    rotate_left
    · rw [decide_eq_false (fun e => c0 (by injection e with e; omega))]
      refine iteF ?_
      refine key2 _ fun He U' v12 v13 v14 v15 v16 v17 v18 hp' I' => key _ He U' v12 v13 v14 v15 v16 v17 v18 hp' I' fun σ H' h => h
    · subst c0
      rw [decide_eq_true (show V.int ((0 : Nat) : Int) = V.int 0 from rfl)]
      refine iteT ⟨_, rfl, U.B, _, rfl, .inl (SqL.of hB), _, _, rfl, rfl, _, rfl, ?_⟩
      by_cases hb0 : U.bs = []
      · rw [hb0]
        refine iteF (key2 _ fun He U' v12 v13 v14 v15 v16 v17 v18 hp' I' => key _ He U' v12 v13 v14 v15 v16 v17 v18 hp' I' fun σ H' h => h)
      · obtain ⟨bs0, x, hx⟩ : ∃ bs0 x, U.bs = bs0 ++ [x] := ⟨_, _, (List.dropLast_concat_getLast hb0).symm⟩
        have hbl2 : bs0.length + 1 ≤ k := by rw [hx, List.length_append, List.length_singleton] at hbl; exact hbl
        rw [decide_eq_true (by rw [strV_len, hx, List.length_append, List.length_singleton]; omega)]
        obtain ⟨dx, g1, g2, g3, g4⟩ := id hpg
        refine iteT ⟨_, rfl, U.pg, dx, _, rfl, g1, pgF_no _ _ _ _ (by decide +kernel) (by decide +kernel) (by decide +kernel) (by decide +kernel), U.pg, y, U.b, U.a, U.t, x, bs0, U.as, rfl, by rw [← hx]; exact hpg, by omega, fun He fr hpe => ?_⟩
        obtain ⟨kX, kB, kA⟩ := keep fr
        rw [hx] at kB
        refine ⟨_, rfl, .inl ⟨rfl, _, SqL.of kA⟩, _, rfl, U.A, _, _, rfl, rfl, kA, by rw [strV_len]; exact smallB (by omega), ?_⟩
        rw [strV_snoc]
        have kB1 : (upd He U.A (.lst (strV (U.as ++ [U.t])))) U.B = some (.lst (strV (bs0 ++ [x]))) := (upd_ne (Ne.symm nAB)).trans kB
        refine ⟨_, rfl, .inl ⟨rfl, _, SqL.of kB1⟩, U.B, _, .str (S x), rfl, rfl, kB1, strV_last bs0 x, ?_⟩
        rw [strV_drop]
        have kX1 : (upd (upd He U.A (.lst (strV (U.as ++ [U.t])))) U.B (.lst (strV bs0))) X = some (.lst (pair2 o (.str (S U.t)) (.str (S W.t)))) := (upd_ne nXB).trans ((upd_ne nXA).trans kX)
        refine ⟨_, rfl, _, rfl, X, _, _, o, rfl, rfl, kX1, by rw [lpr]; exact hix, ?_⟩
        rw [pair2_set ho2]
        refine key _ _ ⟨U.pg, U.b, U.a, U.B, U.A, x, bs0, U.as ++ [U.t]⟩ _ _ _ _ _ _ _ rfl (Id.made (by omega) fr hpe (.inl rfl) (hbs x (by rw [hx]; simp)) (fun u hu => hbs u (by rw [hx]; exact List.mem_append_left _ hu)) (fun u hu => ?_) (by omega) (by rw [List.length_append, List.length_singleton]; omega) (fun z ob hz e => ?_) ?_ ?_ upd_same) fun σ H' h => h
        · rcases List.mem_append.mp hu with h | h
          · exact has u h
          · rw [List.mem_singleton.mp h]; exact hokt
        · simp only [List.mem_cons, List.not_mem_nil, or_false, not_or] at hz
          rw [upd_ne hz.1, upd_ne hz.2.1, upd_ne hz.2.2]; exact e
        · rw [upd_ne (Ne.symm nXB), upd_same]
        · rw [upd_ne (Ne.symm nXA), upd_ne nAB, upd_same]
end
end RJ
end

section
set_option maxRecDepth 100000
set_option maxHeartbeats 4000000
namespace RJ
open PySem PySem.Spec PyProof.Rows L2
theorem all_mk {l : PySem.W.OpenLaw} {w : World} {K : PySem.W.Frag} {h : Heap} {mg : Str → Option Value} {fa C CP f0 f1 f2 f3 f4 f5 f6 f7 f8 f9 f10 f11 f12 f13 f14 f15 f16 f17 f18 f19 f20 f21 f22 f23 f24 f25 f26 f27 f28 f29 f30 f31 f32 f33 f34 : Addr} (X : K.In h) (G : h.Ns mainGlobals mg) (hfa : mg "law" = some (.ref fa))
    {od0 an0 od1 an1 od2 an2 od3 an3 od4 an4 od5 an5 od6 an6 od7 an7 od8 an8 od9 an9 od10 an10 od11 an11 od12 an12 od13 an13 od14 an14 od15 an15 od16 an16 od17 an17 od18 an18 od19 an19 od20 an20 od21 an21 od22 an22 od23 an23 od24 an24 od25 an25 od26 an26 od27 an27 od28 an28 od29 an29 od30 an30 od31 an31 od32 an32 od33 an33 od34 an34 : Option Addr} {sl0 sl1 sl2 sl3 sl4 sl5 sl6 sl7 sl8 sl9 sl10 sl11 sl12 sl13 sl14 sl15 sl16 sl17 sl18 sl19 sl20 sl21 sl22 sl23 sl24 sl25 sl26 sl27 sl28 sl29 sl30 sl31 sl32 sl33 sl34 : Array (Option Value)} {oc0 kV0 dc0 pm0 cd0 ct0 oc1 kV1 dc1 pm1 cd1 ct1 oc2 kV2 dc2 pm2 cd2 ct2 oc3 kV3 dc3 pm3 cd3 ct3 oc4 kV4 dc4 pm4 cd4 ct4 oc5 kV5 dc5 pm5 cd5 ct5 oc6 kV6 dc6 pm6 cd6 ct6 oc7 kV7 dc7 pm7 cd7 ct7 oc8 kV8 dc8 pm8 cd8 ct8 oc9 kV9 dc9 pm9 cd9 ct9 oc10 kV10 dc10 pm10 cd10 ct10 oc11 kV11 dc11 pm11 cd11 ct11 oc12 kV12 dc12 pm12 cd12 ct12 oc13 kV13 dc13 pm13 cd13 ct13 oc14 kV14 dc14 pm14 cd14 ct14 oc15 kV15 dc15 pm15 cd15 ct15 oc16 kV16 dc16 pm16 cd16 ct16 oc17 kV17 dc17 pm17 cd17 ct17 oc18 kV18 dc18 pm18 cd18 ct18 oc19 kV19 dc19 pm19 cd19 ct19 oc20 kV20 dc20 pm20 cd20 ct20 oc21 kV21 dc21 pm21 cd21 ct21 oc22 kV22 dc22 pm22 cd22 ct22 oc23 kV23 dc23 pm23 cd23 ct23 oc24 kV24 dc24 pm24 cd24 ct24 oc25 kV25 dc25 pm25 cd25 ct25 oc26 kV26 dc26 pm26 cd26 ct26 oc27 kV27 dc27 pm27 cd27 ct27 oc28 kV28 dc28 pm28 cd28 ct28 oc29 kV29 dc29 pm29 cd29 ct29 oc30 kV30 dc30 pm30 cd30 ct30 oc31 kV31 dc31 pm31 cd31 ct31 oc32 kV32 dc32 pm32 cd32 ct32 oc33 kV33 dc33 pm33 cd33 ct33 oc34 kV34 dc34 pm34 cd34 ct34 : Value} {tk0 tk1 : Tok}
    (aC : PySem.W.nsIn K mainGlobals "Joins" = some (some (.ref C))) (aCP : PySem.W.nsIn K mainGlobals "Page" = some (some (.ref CP))) (a0 : PySem.W.nsIn K mainGlobals "is_integer" = some (some (.ref f0))) (l0 : K.lookup f0 = some ⟨oc0, od0, .func (PySem.W.fnOf "is_integer" "is_integer" (C8.fnArgs s_is_integer) (C8.fnBody s_is_integer) (C8.fnScope s_is_integer) .none kV0 dc0 pm0 an0 cd0 ct0), sl0⟩)
    (c0 : PySem.W.codeIn K cd0 "is_integer" = true) (k0 : PySem.W.keepIn K (.ref f0) = true) (a1 : PySem.W.nsIn K mainGlobals "is_number_below" = some (some (.ref f1))) (l1 : K.lookup f1 = some ⟨oc1, od1, .func (PySem.W.fnOf "is_number_below" "is_number_below" (C8.fnArgs s_is_number_below) (C8.fnBody s_is_number_below) (C8.fnScope s_is_number_below) .none kV1 dc1 pm1 an1 cd1 ct1), sl1⟩)
    (c1 : PySem.W.codeIn K cd1 "is_number_below" = true) (k1 : PySem.W.keepIn K (.ref f1) = true) (a2 : PySem.W.nsIn K mainGlobals "is_sign" = some (some (.ref f2))) (l2 : K.lookup f2 = some ⟨oc2, od2, .func (PySem.W.fnOf "is_sign" "is_sign" (C8.fnArgs s_is_sign) (C8.fnBody s_is_sign) (C8.fnScope s_is_sign) .none kV2 dc2 pm2 an2 cd2 ct2), sl2⟩)
    (c2 : PySem.W.codeIn K cd2 "is_sign" = true) (k2 : PySem.W.keepIn K (.ref f2) = true) (a3 : PySem.W.nsIn K mainGlobals "is_alphabet" = some (some (.ref f3))) (l3 : K.lookup f3 = some ⟨oc3, od3, .func (PySem.W.fnOf "is_alphabet" "is_alphabet" (C8.fnArgs s_is_alphabet) (C8.fnBody s_is_alphabet) (C8.fnScope s_is_alphabet) .none kV3 dc3 pm3 an3 cd3 ct3), sl3⟩)
    (c3 : PySem.W.codeIn K cd3 "is_alphabet" = true) (k3 : PySem.W.keepIn K (.ref f3) = true) (a4 : PySem.W.nsIn K mainGlobals "check_alphabet" = some (some (.ref f4))) (l4 : K.lookup f4 = some ⟨oc4, od4, .func (PySem.W.fnOf "check_alphabet" "check_alphabet" (C8.fnArgs s_check_alphabet) (C8.fnBody s_check_alphabet) (C8.fnScope s_check_alphabet) .none kV4 dc4 pm4 an4 cd4 ct4), sl4⟩)
    (c4 : PySem.W.codeIn K cd4 "check_alphabet" = true) (k4 : PySem.W.keepIn K (.ref f4) = true) (a5 : PySem.W.nsIn K mainGlobals "check_number" = some (some (.ref f5))) (l5 : K.lookup f5 = some ⟨oc5, od5, .func (PySem.W.fnOf "check_number" "check_number" (C8.fnArgs s_check_number) (C8.fnBody s_check_number) (C8.fnScope s_check_number) .none kV5 dc5 pm5 an5 cd5 ct5), sl5⟩)
    (c5 : PySem.W.codeIn K cd5 "check_number" = true) (k5 : PySem.W.keepIn K (.ref f5) = true) (a6 : PySem.W.nsIn K mainGlobals "letter_row" = some (some (.ref f6))) (l6 : K.lookup f6 = some ⟨oc6, od6, .func (PySem.W.fnOf "letter_row" "letter_row" (C8.fnArgs s_letter_row) (C8.fnBody s_letter_row) (C8.fnScope s_letter_row) .none kV6 dc6 pm6 an6 cd6 ct6), sl6⟩)
    (c6 : PySem.W.codeIn K cd6 "letter_row" = true) (k6 : PySem.W.keepIn K (.ref f6) = true) (a7 : PySem.W.nsIn K mainGlobals "join_neighbors" = some (some (.ref f7))) (l7 : K.lookup f7 = some ⟨oc7, od7, .func (PySem.W.fnOf "join_neighbors" "join_neighbors" (C8.fnArgs s_join_neighbors) (C8.fnBody s_join_neighbors) (C8.fnScope s_join_neighbors) .none kV7 dc7 pm7 an7 cd7 ct7), sl7⟩)
    (c7 : PySem.W.codeIn K cd7 "join_neighbors" = true) (k7 : PySem.W.keepIn K (.ref f7) = true) (a8 : PySem.W.nsIn K mainGlobals "lowest_join" = some (some (.ref f8))) (l8 : K.lookup f8 = some ⟨oc8, od8, .func (PySem.W.fnOf "lowest_join" "lowest_join" (C8.fnArgs s_lowest_join) (C8.fnBody s_lowest_join) (C8.fnScope s_lowest_join) .none kV8 dc8 pm8 an8 cd8 ct8), sl8⟩)
    (c8 : PySem.W.codeIn K cd8 "lowest_join" = true) (k8 : PySem.W.keepIn K (.ref f8) = true) (a9 : PySem.W.nsIn K mainGlobals "join_down" = some (some (.ref f9))) (l9 : K.lookup f9 = some ⟨oc9, od9, .func (PySem.W.fnOf "join_down" "join_down" (C8.fnArgs s_join_down) (C8.fnBody s_join_down) (C8.fnScope s_join_down) .none kV9 dc9 pm9 an9 cd9 ct9), sl9⟩)
    (c9 : PySem.W.codeIn K cd9 "join_down" = true) (k9 : PySem.W.keepIn K (.ref f9) = true) (a10 : PySem.W.nsIn K mainGlobals "letters_of" = some (some (.ref f10))) (l10 : K.lookup f10 = some ⟨oc10, od10, .func (PySem.W.fnOf "letters_of" "letters_of" (C8.fnArgs s_letters_of) (C8.fnBody s_letters_of) (C8.fnScope s_letters_of) .none kV10 dc10 pm10 an10 cd10 ct10), sl10⟩)
    (c10 : PySem.W.codeIn K cd10 "letters_of" = true) (k10 : PySem.W.keepIn K (.ref f10) = true) (a11 : PySem.W.nsIn K mainGlobals "cut" = some (some (.ref f11))) (l11 : K.lookup f11 = some ⟨oc11, od11, .func (PySem.W.fnOf "cut" "cut" (C8.fnArgs s_cut) (C8.fnBody s_cut) (C8.fnScope s_cut) .none kV11 dc11 pm11 an11 cd11 ct11), sl11⟩)
    (c11 : PySem.W.codeIn K cd11 "cut" = true) (k11 : PySem.W.keepIn K (.ref f11) = true) (a12 : PySem.W.findIn K (.ref CP) "__init__" = some (some (.ref f12))) (i12 : PySem.W.isFn K (.ref f12) = true)
    (l12 : K.lookup f12 = some ⟨oc12, od12, .func (PySem.W.fnOf "__init__" "Page.__init__" (C8.fnArgs s_Page___init__) (C8.fnBody s_Page___init__) (C8.fnScope s_Page___init__) .none kV12 dc12 pm12 an12 cd12 ct12), sl12⟩) (c12 : PySem.W.codeIn K cd12 "Page.__init__" = true) (k12 : PySem.W.keepIn K (.ref f12) = true) (a13 : PySem.W.findIn K (.ref CP) "content" = some (some (.ref f13)))
    (i13 : PySem.W.isFn K (.ref f13) = true) (l13 : K.lookup f13 = some ⟨oc13, od13, .func (PySem.W.fnOf "content" "Page.content" (C8.fnArgs s_Page_content) (C8.fnBody s_Page_content) (C8.fnScope s_Page_content) .none kV13 dc13 pm13 an13 cd13 ct13), sl13⟩) (c13 : PySem.W.codeIn K cd13 "Page.content" = true) (k13 : PySem.W.keepIn K (.ref f13) = true)
    (a14 : PySem.W.findIn K (.ref CP) "cut_row" = some (some (.ref f14))) (i14 : PySem.W.isFn K (.ref f14) = true) (l14 : K.lookup f14 = some ⟨oc14, od14, .func (PySem.W.fnOf "cut_row" "Page.cut_row" (C8.fnArgs s_Page_cut_row) (C8.fnBody s_Page_cut_row) (C8.fnScope s_Page_cut_row) .none kV14 dc14 pm14 an14 cd14 ct14), sl14⟩) (c14 : PySem.W.codeIn K cd14 "Page.cut_row" = true)
    (k14 : PySem.W.keepIn K (.ref f14) = true) (a15 : PySem.W.findIn K (.ref CP) "__len__" = some (some (.ref f15))) (i15 : PySem.W.isFn K (.ref f15) = true) (l15 : K.lookup f15 = some ⟨oc15, od15, .func (PySem.W.fnOf "__len__" "Page.__len__" (C8.fnArgs s_Page___len__) (C8.fnBody s_Page___len__) (C8.fnScope s_Page___len__) .none kV15 dc15 pm15 an15 cd15 ct15), sl15⟩)
    (c15 : PySem.W.codeIn K cd15 "Page.__len__" = true) (k15 : PySem.W.keepIn K (.ref f15) = true) (a16 : PySem.W.findIn K (.ref CP) "put_in" = some (some (.ref f16))) (i16 : PySem.W.isFn K (.ref f16) = true)
    (l16 : K.lookup f16 = some ⟨oc16, od16, .func (PySem.W.fnOf "put_in" "Page.put_in" (C8.fnArgs s_Page_put_in) (C8.fnBody s_Page_put_in) (C8.fnScope s_Page_put_in) .none kV16 dc16 pm16 an16 cd16 ct16), sl16⟩) (c16 : PySem.W.codeIn K cd16 "Page.put_in" = true) (k16 : PySem.W.keepIn K (.ref f16) = true) (a17 : PySem.W.findIn K (.ref CP) "take_out" = some (some (.ref f17)))
    (i17 : PySem.W.isFn K (.ref f17) = true) (l17 : K.lookup f17 = some ⟨oc17, od17, .func (PySem.W.fnOf "take_out" "Page.take_out" (C8.fnArgs s_Page_take_out) (C8.fnBody s_Page_take_out) (C8.fnScope s_Page_take_out) .none kV17 dc17 pm17 an17 cd17 ct17), sl17⟩) (c17 : PySem.W.codeIn K cd17 "Page.take_out" = true) (k17 : PySem.W.keepIn K (.ref f17) = true)
    (a18 : PySem.W.findIn K (.ref CP) "change_to" = some (some (.ref f18))) (i18 : PySem.W.isFn K (.ref f18) = true) (l18 : K.lookup f18 = some ⟨oc18, od18, .func (PySem.W.fnOf "change_to" "Page.change_to" (C8.fnArgs s_Page_change_to) (C8.fnBody s_Page_change_to) (C8.fnScope s_Page_change_to) .none kV18 dc18 pm18 an18 cd18 ct18), sl18⟩) (c18 : PySem.W.codeIn K cd18 "Page.change_to" = true)
    (k18 : PySem.W.keepIn K (.ref f18) = true) (a19 : PySem.W.findIn K (.ref CP) "undo" = some (some (.ref f19))) (i19 : PySem.W.isFn K (.ref f19) = true) (l19 : K.lookup f19 = some ⟨oc19, od19, .func (PySem.W.fnOf "undo" "Page.undo" (C8.fnArgs s_Page_undo) (C8.fnBody s_Page_undo) (C8.fnScope s_Page_undo) .none kV19 dc19 pm19 an19 cd19 ct19), sl19⟩)
    (c19 : PySem.W.codeIn K cd19 "Page.undo" = true) (k19 : PySem.W.keepIn K (.ref f19) = true) (a20 : PySem.W.findIn K (.ref CP) "redo" = some (some (.ref f20))) (i20 : PySem.W.isFn K (.ref f20) = true)
    (l20 : K.lookup f20 = some ⟨oc20, od20, .func (PySem.W.fnOf "redo" "Page.redo" (C8.fnArgs s_Page_redo) (C8.fnBody s_Page_redo) (C8.fnScope s_Page_redo) .none kV20 dc20 pm20 an20 cd20 ct20), sl20⟩) (c20 : PySem.W.codeIn K cd20 "Page.redo" = true) (k20 : PySem.W.keepIn K (.ref f20) = true) (a21 : PySem.W.nsIn K mainGlobals "may_follow" = some (some (.ref f21)))
    (l21 : K.lookup f21 = some ⟨oc21, od21, .func (PySem.W.fnOf "may_follow" "may_follow" (C8.fnArgs s_may_follow) (C8.fnBody s_may_follow) (C8.fnScope s_may_follow) .none kV21 dc21 pm21 an21 cd21 ct21), sl21⟩) (c21 : PySem.W.codeIn K cd21 "may_follow" = true) (k21 : PySem.W.keepIn K (.ref f21) = true) (a22 : PySem.W.findIn K (.ref C) "__init__" = some (some (.ref f22)))
    (i22 : PySem.W.isFn K (.ref f22) = true) (l22 : K.lookup f22 = some ⟨oc22, od22, .func (PySem.W.fnOf "__init__" "Joins.__init__" (C8.fnArgs s_Joins___init__) (C8.fnBody s_Joins___init__) (C8.fnScope s_Joins___init__) .none kV22 dc22 pm22 an22 cd22 ct22), sl22⟩) (c22 : PySem.W.codeIn K cd22 "Joins.__init__" = true) (k22 : PySem.W.keepIn K (.ref f22) = true)
    (a23 : PySem.W.findIn K (.ref C) "__len__" = some (some (.ref f23))) (i23 : PySem.W.isFn K (.ref f23) = true) (l23 : K.lookup f23 = some ⟨oc23, od23, .func (PySem.W.fnOf "__len__" "Joins.__len__" (C8.fnArgs s_Joins___len__) (C8.fnBody s_Joins___len__) (C8.fnScope s_Joins___len__) .none kV23 dc23 pm23 an23 cd23 ct23), sl23⟩) (c23 : PySem.W.codeIn K cd23 "Joins.__len__" = true)
    (k23 : PySem.W.keepIn K (.ref f23) = true) (a24 : PySem.W.findIn K (.ref C) "join_row" = some (some (.ref f24))) (i24 : PySem.W.isFn K (.ref f24) = true) (l24 : K.lookup f24 = some ⟨oc24, od24, .func (PySem.W.fnOf "join_row" "Joins.join_row" (C8.fnArgs s_Joins_join_row) (C8.fnBody s_Joins_join_row) (C8.fnScope s_Joins_join_row) .none kV24 dc24 pm24 an24 cd24 ct24), sl24⟩)
    (c24 : PySem.W.codeIn K cd24 "Joins.join_row" = true) (k24 : PySem.W.keepIn K (.ref f24) = true) (a25 : PySem.W.nsIn K mainGlobals "_law_pool" = some (some (.ref f25))) (l25 : K.lookup f25 = some ⟨oc25, od25, .func (PySem.W.fnOf "_law_pool" "_law_pool" (C8.fnArgs s__law_pool) (C8.fnBody s__law_pool) (C8.fnScope s__law_pool) .none kV25 dc25 pm25 an25 cd25 ct25), sl25⟩)
    (c25 : PySem.W.codeIn K cd25 "_law_pool" = true) (k25 : PySem.W.keepIn K (.ref f25) = true) (a26 : PySem.W.nsIn K mainGlobals "_law_draw" = some (some (.ref f26))) (l26 : K.lookup f26 = some ⟨oc26, od26, .func (PySem.W.fnOf "_law_draw" "_law_draw" (C8.fnArgs s__law_draw) (C8.fnBody s__law_draw) (C8.fnScope s__law_draw) .none kV26 dc26 pm26 an26 cd26 ct26), sl26⟩)
    (c26 : PySem.W.codeIn K cd26 "_law_draw" = true) (k26 : PySem.W.keepIn K (.ref f26) = true) (a27 : PySem.W.nsIn K mainGlobals "_law_alphabet" = some (some (.ref f27))) (l27 : K.lookup f27 = some ⟨oc27, od27, .func (PySem.W.fnOf "_law_alphabet" "_law_alphabet" (C8.fnArgs s__law_alphabet) (C8.fnBody s__law_alphabet) (C8.fnScope s__law_alphabet) .none kV27 dc27 pm27 an27 cd27 ct27), sl27⟩)
    (c27 : PySem.W.codeIn K cd27 "_law_alphabet" = true) (k27 : PySem.W.keepIn K (.ref f27) = true) (a28 : PySem.W.nsIn K mainGlobals "_law_staged" = some (some (.ref f28))) (l28 : K.lookup f28 = some ⟨oc28, od28, .func (PySem.W.fnOf "_law_staged" "_law_staged" (C8.fnArgs s__law_staged) (C8.fnBody s__law_staged) (C8.fnScope s__law_staged) .none kV28 dc28 pm28 an28 cd28 ct28), sl28⟩)
    (c28 : PySem.W.codeIn K cd28 "_law_staged" = true) (k28 : PySem.W.keepIn K (.ref f28) = true) (a29 : PySem.W.nsIn K mainGlobals "_law_cut" = some (some (.ref f29))) (l29 : K.lookup f29 = some ⟨oc29, od29, .func (PySem.W.fnOf "_law_cut" "_law_cut" (C8.fnArgs s__law_cut) (C8.fnBody s__law_cut) (C8.fnScope s__law_cut) .none kV29 dc29 pm29 an29 cd29 ct29), sl29⟩)
    (c29 : PySem.W.codeIn K cd29 "_law_cut" = true) (k29 : PySem.W.keepIn K (.ref f29) = true) (a30 : PySem.W.nsIn K mainGlobals "_law_pairs" = some (some (.ref f30))) (l30 : K.lookup f30 = some ⟨oc30, od30, .func (PySem.W.fnOf "_law_pairs" "_law_pairs" (C8.fnArgs s__law_pairs) (C8.fnBody s__law_pairs) (C8.fnScope s__law_pairs) .none kV30 dc30 pm30 an30 cd30 ct30), sl30⟩)
    (c30 : PySem.W.codeIn K cd30 "_law_pairs" = true) (k30 : PySem.W.keepIn K (.ref f30) = true) (a31 : PySem.W.nsIn K mainGlobals "_law_text" = some (some (.ref f31))) (l31 : K.lookup f31 = some ⟨oc31, od31, .func (PySem.W.fnOf "_law_text" "_law_text" (C8.fnArgs s__law_text) (C8.fnBody s__law_text) (C8.fnScope s__law_text) .none kV31 dc31 pm31 an31 cd31 ct31), sl31⟩)
    (c31 : PySem.W.codeIn K cd31 "_law_text" = true) (k31 : PySem.W.keepIn K (.ref f31) = true) (a32 : PySem.W.nsIn K mainGlobals "_law_same" = some (some (.ref f32))) (l32 : K.lookup f32 = some ⟨oc32, od32, .func (PySem.W.fnOf "_law_same" "_law_same" (C8.fnArgs s__law_same) (C8.fnBody s__law_same) (C8.fnScope s__law_same) .none kV32 dc32 pm32 an32 cd32 ct32), sl32⟩)
    (c32 : PySem.W.codeIn K cd32 "_law_same" = true) (k32 : PySem.W.keepIn K (.ref f32) = true) (a33 : PySem.W.nsIn K mainGlobals "_law_shown" = some (some (.ref f33))) (l33 : K.lookup f33 = some ⟨oc33, od33, .func (PySem.W.fnOf "_law_shown" "_law_shown" (C8.fnArgs s__law_shown) (C8.fnBody s__law_shown) (C8.fnScope s__law_shown) .none kV33 dc33 pm33 an33 cd33 ct33), sl33⟩)
    (c33 : PySem.W.codeIn K cd33 "_law_shown" = true) (k33 : PySem.W.keepIn K (.ref f33) = true) (a34 : PySem.W.nsIn K mainGlobals "law" = some (some (.ref f34))) (l34 : K.lookup f34 = some ⟨oc34, od34, .func (PySem.W.fnOf "law" "law" (C8.fnArgs s_law) (C8.fnBody s_law) (C8.fnScope s_law) .none kV34 dc34 pm34 an34 cd34 ct34), sl34⟩)
    (c34 : PySem.W.codeIn K cd34 "law" = true) (k34 : PySem.W.keepIn K (.ref f34) = true) (pgC : PySem.W.plainGet K C Str.empty = true) (hdC : PySem.W.hasDictIn K C = true)
    (poC : PySem.W.plainOver K C = true) (saC : PySem.W.findIn K (.ref C) "__setattr__" = some (some (.builtin "object.__setattr__"))) (mkC : PySem.W.makesIn K C = true) (kcC : PySem.W.keepIn K (.ref C) = true)
    (nC0 : PySem.W.findIn K (.ref C) "alphabet" = some none) (nC1 : PySem.W.findIn K (.ref C) "pairs" = some none) (nC2 : PySem.W.findIn K (.ref C) "_texts" = some none) (nC3 : PySem.W.findIn K (.ref C) "_ranks" = some none)
    (nC4 : PySem.W.findIn K (.ref C) "_pieces_by_text" = some none) (pgCP : PySem.W.plainGet K CP Str.empty = true) (hdCP : PySem.W.hasDictIn K CP = true) (poCP : PySem.W.plainOver K CP = true)
    (saCP : PySem.W.findIn K (.ref CP) "__setattr__" = some (some (.builtin "object.__setattr__"))) (mkCP : PySem.W.makesIn K CP = true) (kcCP : PySem.W.keepIn K (.ref CP) = true) (nCP0 : PySem.W.findIn K (.ref CP) "_joins" = some none)
    (nCP1 : PySem.W.findIn K (.ref CP) "_text" = some none) (nCP2 : PySem.W.findIn K (.ref CP) "_behind" = some none) (nCP3 : PySem.W.findIn K (.ref CP) "_ahead" = some none) (z0 : PySem.W.nsIn K mainGlobals "isinstance" = some none)
    (z1 : PySem.W.nsIn K mainGlobals "len" = some none) (z2 : PySem.W.nsIn K mainGlobals "min" = some none) (z3 : PySem.W.nsIn K mainGlobals "all" = some none) (z4 : PySem.W.nsIn K mainGlobals "abs" = some none)
    (z5 : PySem.W.nsIn K mainGlobals "int" = some none) (z6 : PySem.W.nsIn K mainGlobals "bool" = some none) (z7 : PySem.W.nsIn K mainGlobals "str" = some none) (z8 : PySem.W.nsIn K mainGlobals "tuple" = some none)
    (z9 : PySem.W.nsIn K mainGlobals "list" = some none) (z10 : PySem.W.nsIn K mainGlobals "zip" = some none) (z11 : PySem.W.nsIn K mainGlobals "enumerate" = some none) (z12 : PySem.W.nsIn K mainGlobals "range" = some none)
    (z13 : PySem.W.nsIn K mainGlobals "sorted" = some none) (z14 : PySem.W.nsIn K mainGlobals "max" = some none) (z15 : PySem.W.nsIn K mainGlobals "iter" = some none) (v0 : PySem.W.nsIn K mainGlobals "MOST_LETTERS" = some (some (.int 30 tk0)))
    (v1 : PySem.W.nsIn K mainGlobals "MOST_SIGNS_OF_PIECE" = some (some (.int 40 tk1))) :
    ∃ fd : FuncData, (∀ (s : Shared) (v : Value), BindsTo s fd ⟨[v], []⟩ [("script", v)]) ∧ ∀ base : Heap, K.In base → base.Ns mainGlobals mg → FnOk l.prog w K mg base C8.CX0 7 fa fd ["script"] (sp_law K) := by
  have e := hfa.symm.trans (PySem.W.mg_of X G a34)
  cases e
  have T : Txt K mg := ⟨PySem.W.mg_none_of X G z0, PySem.W.mg_none_of X G z1, PySem.W.mg_none_of X G z2, PySem.W.mg_none_of X G z3, PySem.W.mg_none_of X G z4, PySem.W.mg_none_of X G z5, PySem.W.mg_none_of X G z6, PySem.W.mg_none_of X G z7, PySem.W.mg_none_of X G z8, PySem.W.mg_none_of X G z9, PySem.W.mg_none_of X G z10, PySem.W.mg_none_of X G z11, PySem.W.mg_none_of X G z12, PySem.W.mg_none_of X G z13, PySem.W.mg_none_of X G z14, PySem.W.mg_none_of X G z15, ⟨_, PySem.W.mg_of X G v0, ⟨_, rfl⟩⟩, ⟨_, PySem.W.mg_of X G v1, ⟨_, rfl⟩⟩⟩
  have J : JTxt K C := ⟨⟨pgC, hdC, poC, saC⟩, nC0, nC1, nC2, nC3, nC4⟩
  have JP : PTxt K CP := ⟨⟨pgCP, hdCP, poCP, saCP⟩, nCP0, nCP1, nCP2, nCP3⟩
  have F0 : C8.Fun K "is_integer" "is_integer" s_is_integer f0 _ := ⟨⟨_, _, _, _, _, _, _, _, _, _, rfl, l0, c0⟩⟩
  have b0 := F0.binds rfl (ps := ["value"]) fun _ _ _ _ _ _ us hl => match us, hl with | [_], _ => rfl
  have F1 : C8.Fun K "is_number_below" "is_number_below" s_is_number_below f1 _ := ⟨⟨_, _, _, _, _, _, _, _, _, _, rfl, l1, c1⟩⟩
  have b1 := F1.binds rfl (ps := ["value", "end"]) fun _ _ _ _ _ _ us hl => match us, hl with | [_, _], _ => rfl
  have F2 : C8.Fun K "is_sign" "is_sign" s_is_sign f2 _ := ⟨⟨_, _, _, _, _, _, _, _, _, _, rfl, l2, c2⟩⟩
  have b2 := F2.binds rfl (ps := ["sign"]) fun _ _ _ _ _ _ us hl => match us, hl with | [_], _ => rfl
  have F3 : C8.Fun K "is_alphabet" "is_alphabet" s_is_alphabet f3 _ := ⟨⟨_, _, _, _, _, _, _, _, _, _, rfl, l3, c3⟩⟩
  have b3 := F3.binds rfl (ps := ["text"]) fun _ _ _ _ _ _ us hl => match us, hl with | [_], _ => rfl
  have F4 : C8.Fun K "check_alphabet" "check_alphabet" s_check_alphabet f4 _ := ⟨⟨_, _, _, _, _, _, _, _, _, _, rfl, l4, c4⟩⟩
  have b4 := F4.binds rfl (ps := ["text"]) fun _ _ _ _ _ _ us hl => match us, hl with | [_], _ => rfl
  have F5 : C8.Fun K "check_number" "check_number" s_check_number f5 _ := ⟨⟨_, _, _, _, _, _, _, _, _, _, rfl, l5, c5⟩⟩
  have b5 := F5.binds rfl (ps := ["number", "end"]) fun _ _ _ _ _ _ us hl => match us, hl with | [_, _], _ => rfl
  have F6 : C8.Fun K "letter_row" "letter_row" s_letter_row f6 _ := ⟨⟨_, _, _, _, _, _, _, _, _, _, rfl, l6, c6⟩⟩
  have b6 := F6.binds rfl (ps := ["alphabet", "text"]) fun _ _ _ _ _ _ us hl => match us, hl with | [_, _], _ => rfl
  have F7 : C8.Fun K "join_neighbors" "join_neighbors" s_join_neighbors f7 _ := ⟨⟨_, _, _, _, _, _, _, _, _, _, rfl, l7, c7⟩⟩
  have b7 := F7.binds rfl (ps := ["row", "pair", "piece"]) fun _ _ _ _ _ _ us hl => match us, hl with | [_, _, _], _ => rfl
  have F8 : C8.Fun K "lowest_join" "lowest_join" s_lowest_join f8 _ := ⟨⟨_, _, _, _, _, _, _, _, _, _, rfl, l8, c8⟩⟩
  have b8 := F8.binds rfl (ps := ["ranks", "row"]) fun _ _ _ _ _ _ us hl => match us, hl with | [_, _], _ => rfl
  have F9 : C8.Fun K "join_down" "join_down" s_join_down f9 _ := ⟨⟨_, _, _, _, _, _, _, _, _, _, rfl, l9, c9⟩⟩
  have b9 := F9.binds rfl (ps := ["ranks", "letters", "row"]) fun _ _ _ _ _ _ us hl => match us, hl with | [_, _, _], _ => rfl
  have F10 : C8.Fun K "letters_of" "letters_of" s_letters_of f10 _ := ⟨⟨_, _, _, _, _, _, _, _, _, _, rfl, l10, c10⟩⟩
  have b10 := F10.binds rfl (ps := ["joins", "text"]) fun _ _ _ _ _ _ us hl => match us, hl with | [_, _], _ => rfl
  have F11 : C8.Fun K "cut" "cut" s_cut f11 _ := ⟨⟨_, _, _, _, _, _, _, _, _, _, rfl, l11, c11⟩⟩
  have b11 := F11.binds rfl (ps := ["joins", "text"]) fun _ _ _ _ _ _ us hl => match us, hl with | [_, _], _ => rfl
  have F12 : C8.Fun K "__init__" "Page.__init__" s_Page___init__ f12 _ := ⟨⟨_, _, _, _, _, _, _, _, _, _, rfl, l12, c12⟩⟩
  have b12 := F12.binds rfl (ps := ["self", "joins", "text"]) fun _ _ _ _ _ _ us hl => match us, hl with | [_, _, _], _ => rfl
  have F13 : C8.Fun K "content" "Page.content" s_Page_content f13 _ := ⟨⟨_, _, _, _, _, _, _, _, _, _, rfl, l13, c13⟩⟩
  have b13 := F13.binds rfl (ps := ["self"]) fun _ _ _ _ _ _ us hl => match us, hl with | [_], _ => rfl
  have F14 : C8.Fun K "cut_row" "Page.cut_row" s_Page_cut_row f14 _ := ⟨⟨_, _, _, _, _, _, _, _, _, _, rfl, l14, c14⟩⟩
  have b14 := F14.binds rfl (ps := ["self"]) fun _ _ _ _ _ _ us hl => match us, hl with | [_], _ => rfl
  have F15 : C8.Fun K "__len__" "Page.__len__" s_Page___len__ f15 _ := ⟨⟨_, _, _, _, _, _, _, _, _, _, rfl, l15, c15⟩⟩
  have b15 := F15.binds rfl (ps := ["self"]) fun _ _ _ _ _ _ us hl => match us, hl with | [_], _ => rfl
  have F16 : C8.Fun K "put_in" "Page.put_in" s_Page_put_in f16 _ := ⟨⟨_, _, _, _, _, _, _, _, _, _, rfl, l16, c16⟩⟩
  have b16 := F16.binds rfl (ps := ["self", "at", "text"]) fun _ _ _ _ _ _ us hl => match us, hl with | [_, _, _], _ => rfl
  have F17 : C8.Fun K "take_out" "Page.take_out" s_Page_take_out f17 _ := ⟨⟨_, _, _, _, _, _, _, _, _, _, rfl, l17, c17⟩⟩
  have b17 := F17.binds rfl (ps := ["self", "at", "many"]) fun _ _ _ _ _ _ us hl => match us, hl with | [_, _, _], _ => rfl
  have F18 : C8.Fun K "change_to" "Page.change_to" s_Page_change_to f18 _ := ⟨⟨_, _, _, _, _, _, _, _, _, _, rfl, l18, c18⟩⟩
  have b18 := F18.binds rfl (ps := ["self", "text"]) fun _ _ _ _ _ _ us hl => match us, hl with | [_, _], _ => rfl
  have F19 : C8.Fun K "undo" "Page.undo" s_Page_undo f19 _ := ⟨⟨_, _, _, _, _, _, _, _, _, _, rfl, l19, c19⟩⟩
  have b19 := F19.binds rfl (ps := ["self"]) fun _ _ _ _ _ _ us hl => match us, hl with | [_], _ => rfl
  have F20 : C8.Fun K "redo" "Page.redo" s_Page_redo f20 _ := ⟨⟨_, _, _, _, _, _, _, _, _, _, rfl, l20, c20⟩⟩
  have b20 := F20.binds rfl (ps := ["self"]) fun _ _ _ _ _ _ us hl => match us, hl with | [_], _ => rfl
  have F21 : C8.Fun K "may_follow" "may_follow" s_may_follow f21 _ := ⟨⟨_, _, _, _, _, _, _, _, _, _, rfl, l21, c21⟩⟩
  have b21 := F21.binds rfl (ps := ["alphabet", "texts", "ranks", "pair"]) fun _ _ _ _ _ _ us hl => match us, hl with | [_, _, _, _], _ => rfl
  have F22 : C8.Fun K "__init__" "Joins.__init__" s_Joins___init__ f22 _ := ⟨⟨_, _, _, _, _, _, _, _, _, _, rfl, l22, c22⟩⟩
  have b22 := F22.binds rfl (ps := ["self", "alphabet", "pairs"]) fun _ _ _ _ _ _ us hl => match us, hl with | [_, _, _], _ => rfl
  have F23 : C8.Fun K "__len__" "Joins.__len__" s_Joins___len__ f23 _ := ⟨⟨_, _, _, _, _, _, _, _, _, _, rfl, l23, c23⟩⟩
  have b23 := F23.binds rfl (ps := ["self"]) fun _ _ _ _ _ _ us hl => match us, hl with | [_], _ => rfl
  have F24 : C8.Fun K "join_row" "Joins.join_row" s_Joins_join_row f24 _ := ⟨⟨_, _, _, _, _, _, _, _, _, _, rfl, l24, c24⟩⟩
  have b24 := F24.binds rfl (ps := ["self", "row"]) fun _ _ _ _ _ _ us hl => match us, hl with | [_, _], _ => rfl
  have F25 : C8.Fun K "_law_pool" "_law_pool" s__law_pool f25 _ := ⟨⟨_, _, _, _, _, _, _, _, _, _, rfl, l25, c25⟩⟩
  have b25 := F25.binds rfl (ps := ["script", "many"]) fun _ _ _ _ _ _ us hl => match us, hl with | [_, _], _ => rfl
  have F26 : C8.Fun K "_law_draw" "_law_draw" s__law_draw f26 _ := ⟨⟨_, _, _, _, _, _, _, _, _, _, rfl, l26, c26⟩⟩
  have b26 := F26.binds rfl (ps := ["pool", "many"]) fun _ _ _ _ _ _ us hl => match us, hl with | [_, _], _ => rfl
  have F27 : C8.Fun K "_law_alphabet" "_law_alphabet" s__law_alphabet f27 _ := ⟨⟨_, _, _, _, _, _, _, _, _, _, rfl, l27, c27⟩⟩
  have b27 := F27.binds rfl (ps := ["pool"]) fun _ _ _ _ _ _ us hl => match us, hl with | [_], _ => rfl
  have F28 : C8.Fun K "_law_staged" "_law_staged" s__law_staged f28 _ := ⟨⟨_, _, _, _, _, _, _, _, _, _, rfl, l28, c28⟩⟩
  have b28 := F28.binds rfl (ps := ["pairs", "letters", "row", "many"]) fun _ _ _ _ _ _ us hl => match us, hl with | [_, _, _, _], _ => rfl
  have F29 : C8.Fun K "_law_cut" "_law_cut" s__law_cut f29 _ := ⟨⟨_, _, _, _, _, _, _, _, _, _, rfl, l29, c29⟩⟩
  have b29 := F29.binds rfl (ps := ["pairs", "alphabet", "text"]) fun _ _ _ _ _ _ us hl => match us, hl with | [_, _, _], _ => rfl
  have F30 : C8.Fun K "_law_pairs" "_law_pairs" s__law_pairs f30 _ := ⟨⟨_, _, _, _, _, _, _, _, _, _, rfl, l30, c30⟩⟩
  have b30 := F30.binds rfl (ps := ["pool", "alphabet", "most"]) fun _ _ _ _ _ _ us hl => match us, hl with | [_, _, _], _ => rfl
  have F31 : C8.Fun K "_law_text" "_law_text" s__law_text f31 _ := ⟨⟨_, _, _, _, _, _, _, _, _, _, rfl, l31, c31⟩⟩
  have b31 := F31.binds rfl (ps := ["pool", "alphabet", "texts", "most"]) fun _ _ _ _ _ _ us hl => match us, hl with | [_, _, _, _], _ => rfl
  have F32 : C8.Fun K "_law_same" "_law_same" s__law_same f32 _ := ⟨⟨_, _, _, _, _, _, _, _, _, _, rfl, l32, c32⟩⟩
  have b32 := F32.binds rfl (ps := ["told", "due"]) fun _ _ _ _ _ _ us hl => match us, hl with | [_, _], _ => rfl
  have F33 : C8.Fun K "_law_shown" "_law_shown" s__law_shown f33 _ := ⟨⟨_, _, _, _, _, _, _, _, _, _, rfl, l33, c33⟩⟩
  have b33 := F33.binds rfl (ps := ["page", "pairs", "alphabet", "text"]) fun _ _ _ _ _ _ us hl => match us, hl with | [_, _, _, _], _ => rfl
  have F34 : C8.Fun K "law" "law" s_law fa _ := ⟨⟨_, _, _, _, _, _, _, _, _, _, rfl, l34, c34⟩⟩
  refine ⟨PySem.W.fnOf "law" "law" (C8.fnArgs s_law) (C8.fnBody s_law) (C8.fnScope s_law) .none kV34 dc34 pm34 an34 cd34 ct34, fun s v => .of_eq rfl, fun base _ _ => ?_⟩
  have c_is_integer : C8.Cal l.prog w K mg base 1 "is_integer" sp_is_integer [] := ⟨⟨f0, _, _, _, ok_is_integer F0 T, PySem.W.mg_of X G a0, k0, b0, .nil⟩⟩
  have c_is_number_below : C8.Cal l.prog w K mg base 2 "is_number_below" sp_is_number_below [] := ⟨⟨f1, _, _, _, ok_is_number_below F1 T c_is_integer, PySem.W.mg_of X G a1, k1, b1, .nil⟩⟩
  have c_is_sign : C8.Cal l.prog w K mg base 1 "is_sign" sp_is_sign [] := ⟨⟨f2, _, _, _, ok_is_sign F2 T, PySem.W.mg_of X G a2, k2, b2, .nil⟩⟩
  have c_is_alphabet : C8.Cal l.prog w K mg base 2 "is_alphabet" sp_is_alphabet [] := ⟨⟨f3, _, _, _, ok_is_alphabet F3 T c_is_sign, PySem.W.mg_of X G a3, k3, b3, .nil⟩⟩
  have c_check_alphabet : C8.Cal l.prog w K mg base 3 "check_alphabet" sp_check_alphabet [] := ⟨⟨f4, _, _, _, ok_check_alphabet F4 T c_is_alphabet, PySem.W.mg_of X G a4, k4, b4, .nil⟩⟩
  have c_letter_row : C8.Cal l.prog w K mg base 1 "letter_row" sp_letter_row [] := ⟨⟨f6, _, _, _, ok_letter_row F6 T, PySem.W.mg_of X G a6, k6, b6, .nil⟩⟩
  have c_join_neighbors : C8.Cal l.prog w K mg base 1 "join_neighbors" sp_join_neighbors [] := ⟨⟨f7, _, _, _, ok_join_neighbors F7 T, PySem.W.mg_of X G a7, k7, b7, .nil⟩⟩
  have c_lowest_join : C8.Cal l.prog w K mg base 1 "lowest_join" sp_lowest_join [] := ⟨⟨f8, _, _, _, ok_lowest_join F8 T, PySem.W.mg_of X G a8, k8, b8, .nil⟩⟩
  have c_join_down : C8.Cal l.prog w K mg base 2 "join_down" sp_join_down [] := ⟨⟨f9, _, _, _, ok_join_down F9 T c_lowest_join c_join_neighbors, PySem.W.mg_of X G a9, k9, b9, .nil⟩⟩
  have c_may_follow : C8.Cal l.prog w K mg base 3 "may_follow" sp_may_follow [] := ⟨⟨f21, _, _, _, ok_may_follow F21 T c_is_number_below c_join_down c_letter_row, PySem.W.mg_of X G a21, k21, b21, .nil⟩⟩
  have k_Joins : C8.Mak l.prog w K mg base 4 "Joins" C (sp_init C) [] := ⟨⟨f22, _, _, _, ⟨mkC, a22, i22, kcC⟩, ok_init F22 T J c_check_alphabet c_may_follow, PySem.W.mg_of X G aC, b22, .nil⟩⟩
  have m_join_row : C8.Met l.prog w K mg base 3 C "join_row" (sp_join_row C) [] := ⟨⟨f24, _, _, _, J.cl, ⟨a24, i24, k24⟩, ok_join_row F24 T J c_join_down, b24, .nil⟩⟩
  have m___len__ : C8.Met l.prog w K mg base 1 C "__len__" (sp_len C) [] := ⟨⟨f23, _, _, _, J.cl, ⟨a23, i23, k23⟩, ok_len F23 T J, b23, .nil⟩⟩
  have c_check_number : C8.Cal l.prog w K mg base 3 "check_number" sp_check_number [] := ⟨⟨f5, _, _, _, ok_check_number F5 T c_is_number_below, PySem.W.mg_of X G a5, k5, b5, .nil⟩⟩
  have c_letters_of : C8.Cal l.prog w K mg base 2 "letters_of" (sp_letters_of C) [] := ⟨⟨f10, _, _, _, ok_letters_of F10 T J c_letter_row, PySem.W.mg_of X G a10, k10, b10, .nil⟩⟩
  have c_cut : C8.Cal l.prog w K mg base 4 "cut" (sp_cut C) [] := ⟨⟨f11, _, _, _, ok_cut F11 T J c_letters_of m_join_row, PySem.W.mg_of X G a11, k11, b11, .nil⟩⟩
  have c__law_pool : C8.Cal l.prog w K mg base 1 "_law_pool" (sp_pool K) [] := ⟨⟨f25, _, _, _, ok_pool F25 T, PySem.W.mg_of X G a25, k25, b25, .nil⟩⟩
  have c__law_draw : C8.Cal l.prog w K mg base 1 "_law_draw" sp_drawB [] := ⟨⟨f26, _, _, _, ok_drawB F26 T, PySem.W.mg_of X G a26, k26, b26, .nil⟩⟩
  have c__law_alphabet : C8.Cal l.prog w K mg base 2 "_law_alphabet" sp_alphabetB [] := ⟨⟨f27, _, _, _, ok_alphabetB F27 T c__law_draw, PySem.W.mg_of X G a27, k27, b27, .nil⟩⟩
  have c__law_staged : C8.Cal l.prog w K mg base 1 "_law_staged" sp_stagedB [] := ⟨⟨f28, _, _, _, ok_stagedB F28 T, PySem.W.mg_of X G a28, k28, b28, .nil⟩⟩
  have c__law_cut : C8.Cal l.prog w K mg base 2 "_law_cut" sp_cutB [] := ⟨⟨f29, _, _, _, ok_cutB F29 T c__law_staged, PySem.W.mg_of X G a29, k29, b29, .nil⟩⟩
  have c__law_pairs : C8.Cal l.prog w K mg base 3 "_law_pairs" sp_pairsB [] := ⟨⟨f30, _, _, _, ok_pairsB F30 T c__law_draw c__law_cut, PySem.W.mg_of X G a30, k30, b30, .nil⟩⟩
  have c__law_text : C8.Cal l.prog w K mg base 2 "_law_text" sp_textB [] := ⟨⟨f31, _, _, _, ok_textB F31 T c__law_draw, PySem.W.mg_of X G a31, k31, b31, .nil⟩⟩
  have k_Page : C8.Mak l.prog w K mg base 3 "Page" CP (sp_pinit C CP) [] := ⟨⟨f12, _, _, _, ⟨mkCP, a12, i12, kcCP⟩, ok_pinit F12 T JP c_letters_of, PySem.W.mg_of X G aCP, b12, .nil⟩⟩
  have m_content : C8.Met l.prog w K mg base 1 CP "content" (sp_content CP) [] := ⟨⟨f13, _, _, _, JP.cl, ⟨a13, i13, k13⟩, ok_content F13 T JP, b13, .nil⟩⟩
  have m_plen : C8.Met l.prog w K mg base 1 CP "__len__" (sp_plen CP) [] := ⟨⟨f15, _, _, _, JP.cl, ⟨a15, i15, k15⟩, ok_plen F15 T JP, b15, .nil⟩⟩
  have m_cut_row : C8.Met l.prog w K mg base 5 CP "cut_row" (sp_cut_row C CP) [] := ⟨⟨f14, _, _, _, JP.cl, ⟨a14, i14, k14⟩, ok_cut_row F14 T JP c_cut, b14, .nil⟩⟩
  have m_change_to : C8.Met l.prog w K mg base 1 CP "change_to" (sp_change CP) [] := ⟨⟨f18, _, _, _, JP.cl, ⟨a18, i18, k18⟩, ok_change F18 T JP, b18, .nil⟩⟩
  have m_undo : C8.Met l.prog w K mg base 1 CP "undo" (sp_undo CP) [] := ⟨⟨f19, _, _, _, JP.cl, ⟨a19, i19, k19⟩, ok_undo F19 T JP, b19, .nil⟩⟩
  have m_redo : C8.Met l.prog w K mg base 1 CP "redo" (sp_redo CP) [] := ⟨⟨f20, _, _, _, JP.cl, ⟨a20, i20, k20⟩, ok_redo F20 T JP, b20, .nil⟩⟩
  have m_put_in : C8.Met l.prog w K mg base 4 CP "put_in" (sp_put C CP) [] := ⟨⟨f16, _, _, _, JP.cl, ⟨a16, i16, k16⟩, ok_put F16 T JP c_check_number c_letters_of m_change_to, b16, .nil⟩⟩
  have m_take_out : C8.Met l.prog w K mg base 4 CP "take_out" (sp_take CP) [] := ⟨⟨f17, _, _, _, JP.cl, ⟨a17, i17, k17⟩, ok_take F17 T JP c_check_number m_change_to, b17, .nil⟩⟩
  have c_same0 : C8.Cal l.prog w K mg base 1 "_law_same" (sp_same 0) [] := ⟨⟨f32, _, _, _, ok_sameP0 F32 T, PySem.W.mg_of X G a32, k32, b32, .nil⟩⟩
  have c_same1 : C8.Cal l.prog w K mg base 2 "_law_same" (sp_same 1) [] := ⟨⟨f32, _, _, _, ok_samePS F32 T c_same0, PySem.W.mg_of X G a32, k32, b32, .nil⟩⟩
  have c__law_shown : C8.Cal l.prog w K mg base 6 "_law_shown" (sp_shown C CP) [] := ⟨⟨f33, _, _, _, ok_shown F33 T c_same1 c__law_cut m_content m_plen m_cut_row, PySem.W.mg_of X G a33, k33, b33, .nil⟩⟩
  exact ok_law F34 T J JP c__law_pool c__law_alphabet c__law_pairs c__law_draw k_Joins c__law_text k_Page m_undo m_redo m_put_in m_take_out m_cut_row c__law_shown c_same1
theorem walk {l : PySem.W.OpenLaw} {q : Program} {loose : List Str} {XP : (Str → Option Value) → Heap → Prop} {YP : World → Heap → Prop} {d : DefRec} {K : Params → PySem.W.Frag} (hn : l.most = some 63) (hdf : d.params.defaults = [])
    (hY : ∀ (w : World) (h : Heap), YP w h → (K w.params).In h)
    (F : ∀ (w : World) (mg : Str → Option Value) (fa : Addr) (h : Heap), (K w.params).In h → h.Ns mainGlobals mg → mg d.name = some (.ref fa) →
      ∃ fd : FuncData, (∀ (s : Shared) (u : Value), BindsTo s fd ⟨[u], []⟩ [("script", u)]) ∧ ∀ base : Heap, (K w.params).In base → base.Ns mainGlobals mg → FnOk l.prog w (K w.params) mg base C8.CX0 7 fa fd ["script"] (sp_law (K w.params))) :
    PySem.W.WalkO q loose XP YP l.row.toRowW d [] (fun f vs => PySem.call f vs) :=
  L2.walk_of (n := 63) (k := 7) (x := "script") (CX := fun _ => C8.CX0) (sp := fun w => sp_law (K w.params)) hn (by decide) hdf ⟨rfl, by decide, by decide⟩ hY F (fun _ _ a ns hl _ hS => ⟨a, ns, rfl, hS, hl, fun _ => rfl⟩) fun _ _ _ _ _ z => z
end RJ
end

section
open PySem PySem.W PyProof.Rows
set_option maxRecDepth 100000 in
set_option maxHeartbeats 0 in
theorem PySem.Challenge.cw_rankedjoins_k31_whole_behind_any_edits_holds : PySem.Challenge.rw_rankedjoins_k31_whole_behind_any_edits.Holds := by
  w_on; o_law; k_head; (case hw => w_witness2)
  k_fill
  refine RJ.walk (l := PySem.Challenge.rw_rankedjoins_k31_whole_behind_any_edits) rfl rfl (fun w h Y => PySem.W.kIn_of Y) ?F
  case F =>
    intro w mg fa h KX G hmg
    refine' RJ.all_mk KX G hmg ?aC ?aCP ?a0 ?l0 ?c0 ?k0 ?a1 ?l1 ?c1 ?k1 ?a2 ?l2 ?c2 ?k2 ?a3 ?l3 ?c3 ?k3 ?a4 ?l4 ?c4 ?k4 ?a5 ?l5 ?c5 ?k5 ?a6 ?l6 ?c6 ?k6 ?a7 ?l7 ?c7 ?k7 ?a8 ?l8 ?c8 ?k8 ?a9 ?l9 ?c9 ?k9 ?a10 ?l10 ?c10 ?k10 ?a11 ?l11 ?c11 ?k11 ?a12 ?i12 ?l12 ?c12 ?k12 ?a13 ?i13 ?l13 ?c13 ?k13 ?a14 ?i14 ?l14 ?c14 ?k14 ?a15 ?i15 ?l15 ?c15 ?k15 ?a16 ?i16 ?l16 ?c16 ?k16 ?a17 ?i17 ?l17 ?c17 ?k17 ?a18 ?i18 ?l18 ?c18 ?k18 ?a19 ?i19 ?l19 ?c19 ?k19 ?a20 ?i20 ?l20 ?c20 ?k20 ?a21 ?l21 ?c21 ?k21 ?a22 ?i22 ?l22 ?c22 ?k22 ?a23 ?i23 ?l23 ?c23 ?k23 ?a24 ?i24 ?l24 ?c24 ?k24 ?a25 ?l25 ?c25 ?k25 ?a26 ?l26 ?c26 ?k26 ?a27 ?l27 ?c27 ?k27 ?a28 ?l28 ?c28 ?k28 ?a29 ?l29 ?c29 ?k29 ?a30 ?l30 ?c30 ?k30 ?a31 ?l31 ?c31 ?k31 ?a32 ?l32 ?c32 ?k32 ?a33 ?l33 ?c33 ?k33 ?a34 ?l34 ?c34 ?k34 ?pgC ?hdC ?poC ?saC ?mkC ?kcC ?nC0 ?nC1 ?nC2 ?nC3 ?nC4 ?pgCP ?hdCP ?poCP ?saCP ?mkCP ?kcCP ?nCP0 ?nCP1 ?nCP2 ?nCP3 ?z0 ?z1 ?z2 ?z3 ?z4 ?z5 ?z6 ?z7 ?z8 ?z9 ?z10 ?z11 ?z12 ?z13 ?z14 ?z15 ?v0 ?v1
    (case aC => k_is); (case aCP => k_is); (case a0 => k_is); (case l0 => k_is); (case c0 => k_is); (case k0 => k_is)
    (case a1 => k_is); (case l1 => k_is); (case c1 => k_is); (case k1 => k_is); (case a2 => k_is); (case l2 => k_is)
    (case c2 => k_is); (case k2 => k_is); (case a3 => k_is); (case l3 => k_is); (case c3 => k_is); (case k3 => k_is)
    (case a4 => k_is); (case l4 => k_is); (case c4 => k_is); (case k4 => k_is); (case a5 => k_is); (case l5 => k_is)
    (case c5 => k_is); (case k5 => k_is); (case a6 => k_is); (case l6 => k_is); (case c6 => k_is); (case k6 => k_is)
    (case a7 => k_is); (case l7 => k_is); (case c7 => k_is); (case k7 => k_is); (case a8 => k_is); (case l8 => k_is)
    (case c8 => k_is); (case k8 => k_is); (case a9 => k_is); (case l9 => k_is); (case c9 => k_is); (case k9 => k_is)
    (case a10 => k_is); (case l10 => k_is); (case c10 => k_is); (case k10 => k_is); (case a11 => k_is); (case l11 => k_is)
    (case c11 => k_is); (case k11 => k_is); (case a12 => k_is); (case i12 => k_is); (case l12 => k_is); (case c12 => k_is)
    (case k12 => k_is); (case a13 => k_is); (case i13 => k_is); (case l13 => k_is); (case c13 => k_is); (case k13 => k_is)
    (case a14 => k_is); (case i14 => k_is); (case l14 => k_is); (case c14 => k_is); (case k14 => k_is); (case a15 => k_is)
    (case i15 => k_is); (case l15 => k_is); (case c15 => k_is); (case k15 => k_is); (case a16 => k_is); (case i16 => k_is)
    (case l16 => k_is); (case c16 => k_is); (case k16 => k_is); (case a17 => k_is); (case i17 => k_is); (case l17 => k_is)
    (case c17 => k_is); (case k17 => k_is); (case a18 => k_is); (case i18 => k_is); (case l18 => k_is); (case c18 => k_is)
    (case k18 => k_is); (case a19 => k_is); (case i19 => k_is); (case l19 => k_is); (case c19 => k_is); (case k19 => k_is)
    (case a20 => k_is); (case i20 => k_is); (case l20 => k_is); (case c20 => k_is); (case k20 => k_is); (case a21 => k_is)
    (case l21 => k_is); (case c21 => k_is); (case k21 => k_is); (case a22 => k_is); (case i22 => k_is); (case l22 => k_is)
    (case c22 => k_is); (case k22 => k_is); (case a23 => k_is); (case i23 => k_is); (case l23 => k_is); (case c23 => k_is)
    (case k23 => k_is); (case a24 => k_is); (case i24 => k_is); (case l24 => k_is); (case c24 => k_is); (case k24 => k_is)
    (case a25 => k_is); (case l25 => k_is); (case c25 => k_is); (case k25 => k_is); (case a26 => k_is); (case l26 => k_is)
    (case c26 => k_is); (case k26 => k_is); (case a27 => k_is); (case l27 => k_is); (case c27 => k_is); (case k27 => k_is)
    (case a28 => k_is); (case l28 => k_is); (case c28 => k_is); (case k28 => k_is); (case a29 => k_is); (case l29 => k_is)
    (case c29 => k_is); (case k29 => k_is); (case a30 => k_is); (case l30 => k_is); (case c30 => k_is); (case k30 => k_is)
    (case a31 => k_is); (case l31 => k_is); (case c31 => k_is); (case k31 => k_is); (case a32 => k_is); (case l32 => k_is)
    (case c32 => k_is); (case k32 => k_is); (case a33 => k_is); (case l33 => k_is); (case c33 => k_is); (case k33 => k_is)
    (case a34 => k_is); (case l34 => k_is); (case c34 => k_is); (case k34 => k_is); (case pgC => k_is); (case hdC => k_is)
    (case poC => k_is); (case saC => k_is); (case mkC => k_is); (case kcC => k_is); (case nC0 => k_is); (case nC1 => k_is)
    (case nC2 => k_is); (case nC3 => k_is); (case nC4 => k_is); (case pgCP => k_is); (case hdCP => k_is); (case poCP => k_is)
    (case saCP => k_is); (case mkCP => k_is); (case kcCP => k_is); (case nCP0 => k_is); (case nCP1 => k_is); (case nCP2 => k_is)
    (case nCP3 => k_is); (case z0 => k_is); (case z1 => k_is); (case z2 => k_is); (case z3 => k_is); (case z4 => k_is)
    (case z5 => k_is); (case z6 => k_is); (case z7 => k_is); (case z8 => k_is); (case z9 => k_is); (case z10 => k_is)
    (case z11 => k_is); (case z12 => k_is); (case z13 => k_is); (case z14 => k_is); (case z15 => k_is); (case v0 => k_is)
    (case v1 => k_is)
end
