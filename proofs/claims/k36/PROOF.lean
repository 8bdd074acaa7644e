import PyProof.Rows.All
import Wide.All
import OpenK.AllK
import Wide.FinOn
import HandS.ForMost
import HandS.Codes
import HandS.Zip
import HandS.SortKw
import KE.GoesEnum
import KE.GoesZip
import KE.KDictZip
import KE.DataMinMax
import KE.SortData
import PyProof.ListStr
import PyProof.StrBlock2
import HandS.TupAny
import HandS.ExcInit
import HandS.ExcField
import HandS.ExcIs
import HandS.FStr
import HandS.HotCalls
import KE.KExcSuper
import KE.KExcIs
import HandS.IsInst
import HandS.Comp
import KE.KOwnIter
import HandS.MapObj
import HandS.Iter
import KE.KDictPairs
import HandS.Conv
import HandS.Dict
import HandS.Property
import HandS.Style
import PyProof.Rows.StrStep
import PyProof.AutoSeq1
import HandS.DictComp
import HandS.FStrTup
import PyProof.ReprHeads
import PyProof.ReprHeadsEmpty
import HandS.More
import HandS.Walk
import HandS.Replace
import HandS.Deep
import HandS.OwnIter
import PyProof.StrLawsRepr
import HandS.WideBits
import HandS.RevRange
import PySem.Challenge.RW_rankedjoins_k36_numbers_of_cuts_and_back
set_option Elab.async false
set_option linter.all false
section
namespace RJ
/-- neighbors of a row -/
def adjs (row : List Nat) : List (Nat × Nat) := row.zip row.tail
theorem adjs_cons2 (a b : Nat) (t : List Nat) : adjs (a :: b :: t) = (a, b) :: adjs (b :: t) := rfl
theorem adjs_one (a : Nat) : adjs [a] = [] := rfl
theorem adjs_nil : adjs [] = [] := rfl
/-- one pass from left to right -/
def pass (l r m : Nat) : List Nat → List Nat
  | [] => []
  | [a] => [a]
  | a :: b :: t => if a = l ∧ b = r then m :: pass l r m t else a :: pass l r m (b :: t)
theorem pass_id {l r m : Nat} : ∀ {row : List Nat}, (l, r) ∉ adjs row → pass l r m row = row
  | [], _ => rfl
  | [a], _ => rfl
  | a :: b :: t, h => by
    rw [adjs_cons2] at h
    have h1 : ¬ (a = l ∧ b = r) := fun q => h (by rw [q.1, q.2]; exact List.mem_cons_self ..)
    rw [pass, if_neg h1, pass_id (row := b :: t) fun q => h (List.mem_cons_of_mem _ q)]
theorem pass_head {l r m : Nat} : ∀ {a : Nat} {t : List Nat}, ∃ x rest, pass l r m (a :: t) = x :: rest ∧ (x = a ∨ x = m)
  | a, [] => ⟨a, [], rfl, .inl rfl⟩
  | a, b :: t => by
    rw [pass]
    split
    · exact ⟨m, _, rfl, .inr rfl⟩
    · exact ⟨a, _, rfl, .inl rfl⟩
theorem mem_adjs_cons {p : Nat × Nat} {a : Nat} {t : List Nat} (h : p ∈ adjs t) : p ∈ adjs (a :: t) := by
  cases t with
  | nil => rw [adjs_nil] at h; cases h
  | cons b t => rw [adjs_cons2]; exact List.mem_cons_of_mem _ h
theorem pass_adj {l r m : Nat} {p : Nat × Nat} : ∀ {row : List Nat}, p ∈ adjs (pass l r m row) → (p ∈ adjs row ∧ p ≠ (l, r)) ∨ p.1 = m ∨ p.2 = m
  | [], h => by cases h
  | [a], h => by cases h
  | a :: b :: t, h => by
    rw [pass] at h
    split at h
    · rename_i hab
      cases e : pass l r m t with
      | nil => rw [e] at h; cases h
      | cons x rest =>
        rw [e, adjs_cons2] at h
        rcases List.mem_cons.mp h with q | q
        · exact .inr (.inl (by rw [q]))
        · rw [← e] at q
          rcases pass_adj q with ⟨q1, q2⟩ | q
          · exact .inl ⟨mem_adjs_cons (mem_adjs_cons q1), q2⟩
          · exact .inr q
    · rename_i hab
      obtain ⟨x, rest, e, hx⟩ := pass_head (l := l) (r := r) (m := m) (a := b) (t := t)
      rw [e, adjs_cons2] at h
      rcases List.mem_cons.mp h with q | q
      · rcases hx with hx | hx
        · refine .inl ⟨?_, ?_⟩
          · rw [q, hx, adjs_cons2]; exact List.mem_cons_self ..
          · rw [q, hx]; intro z; exact hab ⟨(Prod.mk.inj z).1, (Prod.mk.inj z).2⟩
        · exact .inr (.inr (by rw [q]; exact hx))
      · rw [← e] at q
        rcases pass_adj q with ⟨q1, q2⟩ | q
        · exact .inl ⟨mem_adjs_cons q1, q2⟩
        · exact .inr q
theorem pass_len {l r m : Nat} : ∀ {row : List Nat}, (pass l r m row).length ≤ row.length
  | [] => Nat.le_refl _
  | [a] => Nat.le_refl _
  | a :: b :: t => by
    rw [pass]
    split
    · have := pass_len (l := l) (r := r) (m := m) (row := t)
      simp only [List.length_cons]; omega
    · have := pass_len (l := l) (r := r) (m := m) (row := b :: t)
      simp only [List.length_cons] at this ⊢; omega
theorem pass_lt {l r m : Nat} : ∀ {row : List Nat}, (l, r) ∈ adjs row → (pass l r m row).length < row.length
  | [], h => by cases h
  | [a], h => by cases h
  | a :: b :: t, h => by
    rw [pass]
    split
    · have := pass_len (l := l) (r := r) (m := m) (row := t)
      simp only [List.length_cons]; omega
    · rename_i hab
      rw [adjs_cons2] at h
      rcases List.mem_cons.mp h with q | q
      · exact absurd ⟨(Prod.mk.inj q).1.symm, (Prod.mk.inj q).2.symm⟩ hab
      · have := pass_lt (l := l) (r := r) (m := m) (row := b :: t) q
        simp only [List.length_cons] at this ⊢; omega
theorem pass_mem {l r m x : Nat} : ∀ {row : List Nat}, x ∈ pass l r m row → x ∈ row ∨ x = m
  | [], h => by cases h
  | [a], h => .inl h
  | a :: b :: t, h => by
    rw [pass] at h
    split at h
    · rcases List.mem_cons.mp h with q | q
      · exact .inr q
      · rcases pass_mem q with q | q
        · exact .inl (List.mem_cons_of_mem _ (List.mem_cons_of_mem _ q))
        · exact .inr q
    · rcases List.mem_cons.mp h with q | q
      · exact .inl (by rw [q]; exact List.mem_cons_self ..)
      · rcases pass_mem q with q | q
        · exact .inl (List.mem_cons_of_mem _ q)
        · exact .inr q
/-- the passes of these pairs, the first of which makes b + k -/
def run (b : Nat) : List (Nat × Nat) → Nat → List Nat → List Nat
  | [], _, row => row
  | p :: ps, k, row => run b ps (k + 1) (pass p.1 p.2 (b + k) row)
def cutL (b : Nat) (ps : List (Nat × Nat)) (row : List Nat) : List Nat := run b ps 0 row
theorem run_append (b : Nat) : ∀ (ps qs : List (Nat × Nat)) (k : Nat) (row : List Nat), run b (ps ++ qs) k row = run b qs (k + ps.length) (run b ps k row)
  | [], qs, k, row => rfl
  | p :: ps, qs, k, row => by
    show run b (ps ++ qs) (k + 1) _ = run b qs (k + (ps.length + 1)) (run b ps (k + 1) _)
    rw [run_append b ps qs, show k + 1 + ps.length = k + (ps.length + 1) by omega]
theorem run_none {b : Nat} : ∀ {ps : List (Nat × Nat)} {k : Nat} {row : List Nat}, (∀ p ∈ ps, p ∉ adjs row) → run b ps k row = row
  | [], _, _, _ => rfl
  | p :: ps, k, row, h => by
    show run b ps (k + 1) (pass p.1 p.2 (b + k) row) = row
    rw [pass_id (h p (List.mem_cons_self ..))]
    exact run_none fun q hq => h q (List.mem_cons_of_mem _ hq)
/-- the parts of a join are pieces ahead of it -/
def WF (b : Nat) (ps : List (Nat × Nat)) : Prop := ∀ i p, ps[i]? = some p → p.1 < b + i ∧ p.2 < b + i
theorem WF.take {b : Nat} {ps : List (Nat × Nat)} (h : WF b ps) (n : Nat) : WF b (ps.take n) := fun i p e => by
  rw [List.getElem?_take] at e
  split at e
  · exact h i p e
  · cases e
theorem take_succ_of {α : Type} {l : List α} {n : Nat} {x : α} (h : l[n]? = some x) : l.take (n + 1) = l.take n ++ [x] := by
  rw [List.take_add_one, h]; rfl
theorem take_len_of {α : Type} {l : List α} {n : Nat} {x : α} (h : l[n]? = some x) : (l.take n).length = n := by
  obtain ⟨h1, _⟩ := List.getElem?_eq_some_iff.mp h
  rw [List.length_take]; omega
theorem cutL_snoc (b : Nat) (ps : List (Nat × Nat)) (q : Nat × Nat) (row : List Nat) : cutL b (ps ++ [q]) row = pass q.1 q.2 (b + ps.length) (cutL b ps row) := by
  unfold cutL
  rw [run_append, Nat.zero_add]; rfl
theorem mem_take_get {α : Type} {l : List α} {n : Nat} {x : α} (h : x ∈ l.take n) : ∃ i, i < n ∧ l[i]? = some x := by
  obtain ⟨i, hi⟩ := List.mem_iff_getElem?.mp h
  rw [List.getElem?_take] at hi
  split at hi
  · exact ⟨i, by assumption, hi⟩
  · cases hi
theorem cut_clean_take {b : Nat} {ps : List (Nat × Nat)} (hw : WF b ps) (row : List Nat) : ∀ n, ∀ p ∈ ps.take n, p ∉ adjs (cutL b (ps.take n) row)
  | 0, p, hp => by rw [List.take_zero] at hp; cases hp
  | n + 1, p, hp => by
    cases e : ps[n]? with
    | none =>
      have hle : ps.length ≤ n := List.getElem?_eq_none_iff.mp e
      rw [List.take_of_length_le (by omega)] at hp ⊢
      have := cut_clean_take hw row n p (by rw [List.take_of_length_le hle]; exact hp)
      rw [List.take_of_length_le hle] at this
      exact this
    | some q =>
      rw [take_succ_of e] at hp ⊢
      rw [cutL_snoc, take_len_of e]
      have hq := hw n q e
      intro hm
      rcases pass_adj hm with ⟨h1, h2⟩ | h1
      · rcases List.mem_append.mp hp with z | z
        · exact cut_clean_take hw row n p z h1
        · exact h2 (List.mem_singleton.mp z)
      · have hlt : p.1 < b + n ∧ p.2 < b + n := by
          rcases List.mem_append.mp hp with z | z
          · obtain ⟨i, hi, ei⟩ := mem_take_get z
            have := hw i p ei
            omega
          · rw [List.mem_singleton.mp z]; exact hq
        omega
theorem cut_clean {b : Nat} {ps : List (Nat × Nat)} (hw : WF b ps) (row : List Nat) : ∀ p ∈ ps, p ∉ adjs (cutL b ps row) := by
  have h := cut_clean_take hw row ps.length
  rw [List.take_length] at h
  exact h
theorem split_at {α : Type} {l : List α} {n : Nat} {x : α} (h : l[n]? = some x) : l = l.take n ++ x :: l.drop (n + 1) := by
  obtain ⟨h1, h2⟩ := List.getElem?_eq_some_iff.mp h
  rw [← h2, ← List.drop_eq_getElem_cons h1, List.take_append_drop]
theorem cutL_at {b : Nat} {ps : List (Nat × Nat)} {r : Nat} {p : Nat × Nat} (h : ps[r]? = some p) (row : List Nat) (hno : ∀ j q, j < r → ps[j]? = some q → q ∉ adjs row) :
    cutL b ps row = run b (ps.drop (r + 1)) (r + 1) (pass p.1 p.2 (b + r) row) := by
  have e := split_at h
  have hl := take_len_of h
  unfold cutL
  rw [e, run_append, hl, Nat.zero_add]
  rw [← e]
  rw [run_none (ps := ps.take r) (row := row) fun q hq => by
    obtain ⟨j, hj, ej⟩ := mem_take_get hq
    exact hno j q hj ej]
  rfl
/-- the lowest rank that is there may be joined first -/
theorem cut_step {b : Nat} {ps : List (Nat × Nat)} (hw : WF b ps) {r : Nat} {p : Nat × Nat} (h : ps[r]? = some p) (row : List Nat) (hno : ∀ j q, j < r → ps[j]? = some q → q ∉ adjs row) :
    cutL b ps (pass p.1 p.2 (b + r) row) = cutL b ps row := by
  have hp := hw r p h
  have no2 : ∀ j q, j < r → ps[j]? = some q → q ∉ adjs (pass p.1 p.2 (b + r) row) := fun j q hj ej hm => by
    rcases pass_adj hm with ⟨z, _⟩ | z
    · exact hno j q hj ej z
    · have := hw j q ej; omega
  have no3 : (p.1, p.2) ∉ adjs (pass p.1 p.2 (b + r) row) := fun hm => by
    rcases pass_adj hm with ⟨_, z⟩ | z
    · exact z rfl
    · have z' : p.1 = b + r ∨ p.2 = b + r := z
      omega
  rw [cutL_at h row hno, cutL_at h _ no2, pass_id no3]
theorem cut_done {b : Nat} {ps : List (Nat × Nat)} {row : List Nat} (h : ∀ p ∈ ps, p ∉ adjs row) : cutL b ps row = row := run_none h
theorem adjs_append {u v : List Nat} {x : Nat} : adjs (u ++ x :: v) = adjs (u ++ [x]) ++ adjs (x :: v) := by
  induction u with
  | nil => rfl
  | cons a u ih =>
    cases u with
    | nil => rfl
    | cons c u =>
      show (a, c) :: adjs (c :: u ++ x :: v) = ((a, c) :: adjs (c :: u ++ [x])) ++ adjs (x :: v)
      exact congrArg (fun z => (a, c) :: z) ih
theorem pass_left {l r m : Nat} : ∀ {u v : List Nat}, (l, r) ∉ adjs (u ++ [l]) → pass l r m (u ++ l :: r :: v) = u ++ m :: pass l r m v
  | [], v, _ => by
    show pass l r m (l :: r :: v) = m :: pass l r m v
    rw [pass, if_pos ⟨rfl, rfl⟩]
  | [a], v, h => by
    have h1 : ¬ (a = l ∧ l = r) := fun q => h (by show (l, r) ∈ adjs [a, l]; rw [adjs_cons2, q.1, ← q.2]; exact List.mem_cons_self ..)
    show pass l r m (a :: l :: r :: v) = a :: m :: pass l r m v
    rw [pass, if_neg h1, pass, if_pos ⟨rfl, rfl⟩]
  | a :: c :: u, v, h => by
    have h1 : ¬ (a = l ∧ c = r) := fun q => h (by show (l, r) ∈ adjs (a :: c :: (u ++ [l])); rw [adjs_cons2, q.1, q.2]; exact List.mem_cons_self ..)
    have h2 : (l, r) ∉ adjs ((c :: u) ++ [l]) := fun q => h (by show (l, r) ∈ adjs (a :: c :: (u ++ [l])); exact mem_adjs_cons q)
    show pass l r m (a :: c :: (u ++ l :: r :: v)) = a :: (c :: u ++ m :: pass l r m v)
    rw [pass, if_neg h1]
    exact congrArg (a :: ·) (pass_left (u := c :: u) h2)
theorem pass_over {l r m : Nat} (h1 : m ≠ l) (h2 : m ≠ r) : ∀ {u v : List Nat}, (l, r) ∉ adjs u → pass l r m (u ++ m :: v) = u ++ m :: pass l r m v
  | [], v, _ => by
    cases v with
    | nil => rfl
    | cons c v =>
      show pass l r m (m :: c :: v) = m :: pass l r m (c :: v)
      rw [pass, if_neg fun q => h1 q.1]
  | [a], v, h => by
    show pass l r m (a :: m :: v) = a :: m :: pass l r m v
    rw [pass, if_neg fun q => h2 q.2]
    exact congrArg (a :: ·) (pass_over h1 h2 (u := []) (by rw [adjs_nil]; exact List.not_mem_nil))
  | a :: c :: u, v, h => by
    have hn : ¬ (a = l ∧ c = r) := fun q => h (by rw [adjs_cons2, q.1, q.2]; exact List.mem_cons_self ..)
    show pass l r m (a :: c :: (u ++ m :: v)) = a :: (c :: u ++ m :: pass l r m v)
    rw [pass, if_neg hn]
    exact congrArg (a :: ·) (pass_over h1 h2 (u := c :: u) fun q => h (mem_adjs_cons q))
theorem adjs_sub_left {u v : List Nat} {p : Nat × Nat} (h : p ∈ adjs u) : p ∈ adjs (u ++ v) := by
  induction u with
  | nil => cases h
  | cons a u ih =>
    cases u with
    | nil => cases h
    | cons c u =>
      rw [adjs_cons2] at h
      show p ∈ (a, c) :: adjs (c :: u ++ v)
      rcases List.mem_cons.mp h with q | q
      · rw [q]; exact List.mem_cons_self ..
      · exact List.mem_cons_of_mem _ (ih q)
theorem adjs_sub_right {u v : List Nat} {p : Nat × Nat} (h : p ∈ adjs v) : p ∈ adjs (u ++ v) := by
  induction u with
  | nil => exact h
  | cons a u ih => exact mem_adjs_cons ih
/-- the leftmost place of the lowest rank may be joined first -/
theorem cut_first {b : Nat} {ps : List (Nat × Nat)} (hw : WF b ps) {r : Nat} {p : Nat × Nat} (h : ps[r]? = some p) {u v : List Nat} (hu : p ∉ adjs (u ++ [p.1]))
    (hno : ∀ j q, j < r → ps[j]? = some q → q ∉ adjs (u ++ p.1 :: p.2 :: v)) : cutL b ps (u ++ (b + r) :: v) = cutL b ps (u ++ p.1 :: p.2 :: v) := by
  have hp := hw r p h
  have no2 : ∀ j q, j < r → ps[j]? = some q → q ∉ adjs (u ++ (b + r) :: v) := fun j q hj ej hm => by
    have hq := hw j q ej
    have key : q ∈ adjs u ∨ q ∈ adjs v ∨ q.1 = b + r ∨ q.2 = b + r := by
      rw [adjs_append] at hm
      rcases List.mem_append.mp hm with z | z
      · -- adjs (u ++ [b + r])
        clear hm
        revert z
        clear hu hno
        induction u with
        | nil => intro z; cases z
        | cons a u ih =>
          intro z
          cases u with
          | nil =>
            have z' : q ∈ [(a, b + r)] := z
            rw [List.mem_singleton.mp z']
            exact .inr (.inr (.inr rfl))
          | cons c u =>
            have z' : q ∈ (a, c) :: adjs (c :: u ++ [b + r]) := z
            rcases List.mem_cons.mp z' with w | w
            · refine .inl ?_
              rw [w, adjs_cons2]; exact List.mem_cons_self ..
            · rcases ih w with y | y
              · exact .inl (mem_adjs_cons y)
              · exact .inr y
      · cases v with
        | nil => cases z
        | cons c v =>
          rw [adjs_cons2] at z
          rcases List.mem_cons.mp z with w | w
          · rw [w]; exact .inr (.inr (.inl rfl))
          · exact .inr (.inl w)
    rcases key with z | z | z
    · exact hno j q hj ej (adjs_sub_left z)
    · exact hno j q hj ej (adjs_sub_right (mem_adjs_cons (mem_adjs_cons z)))
    · omega
  rw [cutL_at h _ hno, cutL_at h _ no2, pass_left hu, pass_over (by omega) (by omega) fun q => hu (adjs_sub_left q)]
end RJ
end

section
set_option maxRecDepth 100000
namespace RJ
/-- the row of the letters -/
def lets (al t : List Nat) : List Nat := t.map fun c => al.idxOf c
theorem snoc_ind {α : Type} {M : List α → Prop} (h0 : M []) (h1 : ∀ l a, M l → M (l ++ [a])) (l : List α) : M l := by
  have key : ∀ r : List α, M r.reverse := by
    intro r
    induction r with
    | nil => exact h0
    | cons a r ih => rw [List.reverse_cons]; exact h1 _ _ ih
  rw [← l.reverse_reverse]; exact key _
/-- the texts of the pieces -/
def textsOf (al : List Nat) (ps : List (Nat × Nat)) : List (List Nat) := ps.foldl (fun ts p => ts ++ [ts.getD p.1 [] ++ ts.getD p.2 []]) (al.map fun c => [c])
theorem textsOf_snoc (al : List Nat) (ps : List (Nat × Nat)) (p : Nat × Nat) : textsOf al (ps ++ [p]) = textsOf al ps ++ [(textsOf al ps).getD p.1 [] ++ (textsOf al ps).getD p.2 []] := by
  unfold textsOf
  rw [List.foldl_append]; rfl
theorem textsOf_len (al : List Nat) (ps : List (Nat × Nat)) : (textsOf al ps).length = al.length + ps.length := by
  induction ps using snoc_ind with
  | h0 => unfold textsOf; rw [List.foldl_nil, List.length_map]; rfl
  | h1 ps p ih => rw [textsOf_snoc, List.length_append, ih, List.length_append]; rfl
theorem getD_mem_or {ts : List (List Nat)} {i : Nat} : ts.getD i [] ∈ ts ∨ ts.getD i [] = [] := by
  rw [List.getD_eq_getElem?_getD]
  cases h : ts[i]? with
  | none => exact .inr rfl
  | some t => exact .inl (List.mem_of_getElem? h)
theorem textsOf_al {al : List Nat} {ps : List (Nat × Nat)} : ∀ t ∈ textsOf al ps, ∀ c ∈ t, c ∈ al := by
  induction ps using snoc_ind with
  | h0 =>
    intro t ht c hc
    unfold textsOf at ht
    rw [List.foldl_nil] at ht
    obtain ⟨d, hd, rfl⟩ := List.mem_map.mp ht
    rw [List.mem_singleton.mp hc]; exact hd
  | h1 ps p ih =>
    intro t ht c hc
    rw [textsOf_snoc] at ht
    rcases List.mem_append.mp ht with h | h
    · exact ih t h c hc
    · rw [List.mem_singleton.mp h] at hc
      have key : ∀ i, c ∈ (textsOf al ps).getD i [] → c ∈ al := fun i hi => by
        rcases getD_mem_or (ts := textsOf al ps) (i := i) with m | m
        · exact ih _ m c hi
        · rw [m] at hi; cases hi
      rcases List.mem_append.mp hc with z | z
      · exact key _ z
      · exact key _ z
/-- may the pair be the next join -/
def okP (al : List Nat) (ts : List (List Nat)) (ps : List (Nat × Nat)) (p : Nat × Nat) : Prop :=
  p.1 < ts.length ∧ p.2 < ts.length ∧ (ts.getD p.1 [] ++ ts.getD p.2 []).length ≤ 40 ∧ cutL al.length ps (lets al (ts.getD p.1 [] ++ ts.getD p.2 [])) = [p.1, p.2]
instance (al ts ps p) : Decidable (okP al ts ps p) := by unfold okP; infer_instance
def Proper (al : List Nat) (ps : List (Nat × Nat)) : Prop := ∀ i p, ps[i]? = some p → okP al (textsOf al (ps.take i)) (ps.take i) p
theorem Proper.wf {al : List Nat} {ps : List (Nat × Nat)} (h : Proper al ps) : WF al.length ps := fun i p e => by
  obtain ⟨h1, h2, _⟩ := h i p e
  rw [textsOf_len, take_len_of e] at h1 h2
  exact ⟨h1, h2⟩
theorem Proper.take {al : List Nat} {ps : List (Nat × Nat)} (h : Proper al ps) (n : Nat) : Proper al (ps.take n) := fun i p e => by
  rw [List.getElem?_take] at e
  split at e
  · have := h i p e
    rw [List.take_take, Nat.min_eq_left (by omega)]
    exact this
  · cases e
theorem Proper.nil (al : List Nat) : Proper al [] := fun i p e => by simp at e
theorem Proper.snoc {al : List Nat} {ps : List (Nat × Nat)} {p : Nat × Nat} (h : Proper al ps) (hp : okP al (textsOf al ps) ps p) : Proper al (ps ++ [p]) := fun i q e => by
  by_cases hi : i < ps.length
  · rw [List.getElem?_append_left hi] at e
    rw [List.take_append_of_le_length (by omega)]
    exact h i q e
  · rw [List.getElem?_append_right (by omega)] at e
    have hi0 : i - ps.length = 0 := by
      rcases Nat.eq_zero_or_pos (i - ps.length) with z | z
      · exact z
      · rw [List.getElem?_eq_none (by rw [List.length_singleton]; exact z)] at e; cases e
    rw [hi0] at e
    have e' : p = q := by simpa using e
    subst e'
    have hi' : i = ps.length := by omega
    rw [hi', List.take_left]
    exact hp
theorem Proper.front {al : List Nat} {ps : List (Nat × Nat)} {p : Nat × Nat} (h : Proper al (ps ++ [p])) : Proper al ps ∧ okP al (textsOf al ps) ps p := by
  refine ⟨?_, ?_⟩
  · have := h.take ps.length
    rw [List.take_left] at this; exact this
  · have := h ps.length p (by rw [List.getElem?_append_right (Nat.le_refl _), Nat.sub_self]; rfl)
    rw [List.take_left] at this; exact this
theorem Proper.short {al : List Nat} {ps : List (Nat × Nat)} (h : Proper al ps) : ∀ t ∈ textsOf al ps, t.length ≤ 40 := by
  induction ps using snoc_ind with
  | h0 =>
    intro t ht
    unfold textsOf at ht
    rw [List.foldl_nil] at ht
    obtain ⟨d, hd, rfl⟩ := List.mem_map.mp ht
    simp
  | h1 ps p ih =>
    intro t ht
    obtain ⟨h1, h2⟩ := h.front
    rw [textsOf_snoc] at ht
    rcases List.mem_append.mp ht with q | q
    · exact ih h1 t q
    · rw [List.mem_singleton.mp q]; exact h2.2.2.1
/-- the cut of a piece's text is this piece -/
theorem cut_piece {al : List Nat} (hal : al.Nodup) {ps : List (Nat × Nat)} (h : Proper al ps) : ∀ i t, (textsOf al ps)[i]? = some t → cutL al.length ps (lets al t) = [i] := by
  induction ps using snoc_ind with
  | h0 =>
    intro i t ht
    unfold textsOf at ht
    rw [List.foldl_nil, List.getElem?_map] at ht
    cases e : al[i]? with
    | none => rw [e] at ht; cases ht
    | some c =>
      rw [e] at ht
      have : t = [c] := (Option.some.inj ht).symm
      subst this
      obtain ⟨hi, hc⟩ := List.getElem?_eq_some_iff.mp e
      show [al.idxOf c] = [i]
      have h1 : al.idxOf c < al.length := List.idxOf_lt_length_iff.mpr (List.mem_of_getElem? e)
      have h2 : al[al.idxOf c] = al[i] := by rw [List.getElem_idxOf h1, hc]
      rw [(List.getElem_inj hal).mp h2]
  | h1 ps p ih =>
    intro i t ht
    obtain ⟨h1, h2⟩ := h.front
    rw [cutL_snoc]
    rw [textsOf_snoc] at ht
    by_cases hi : i < (textsOf al ps).length
    · rw [List.getElem?_append_left hi] at ht
      rw [ih h1 i t ht]; rfl
    · rw [List.getElem?_append_right (by omega)] at ht
      have hi0 : i - (textsOf al ps).length = 0 := by
        rcases Nat.eq_zero_or_pos (i - (textsOf al ps).length) with z | z
        · exact z
        · rw [List.getElem?_eq_none (by rw [List.length_singleton]; exact z)] at ht; cases ht
      rw [hi0] at ht
      have e' : (textsOf al ps).getD p.1 [] ++ (textsOf al ps).getD p.2 [] = t := by simpa using ht
      rw [← e', h2.2.2.2]
      have hi' : i = al.length + ps.length := by rw [textsOf_len] at hi0 hi; omega
      show pass p.1 p.2 (al.length + ps.length) [p.1, p.2] = [i]
      rw [pass, if_pos ⟨rfl, rfl⟩, hi']; rfl
theorem texts_inj {al : List Nat} (hal : al.Nodup) {ps : List (Nat × Nat)} (h : Proper al ps) {i j : Nat} {t : List Nat} (hi : (textsOf al ps)[i]? = some t) (hj : (textsOf al ps)[j]? = some t) : i = j := by
  have h1 := cut_piece hal h i t hi
  rw [cut_piece hal h j t hj] at h1
  injection h1 with h1; exact h1.symm
theorem texts_nodup {al : List Nat} (hal : al.Nodup) {ps : List (Nat × Nat)} (h : Proper al ps) : (textsOf al ps).Nodup := by
  refine List.pairwise_iff_getElem.mpr fun i j hi hj hij e => ?_
  have := texts_inj hal h (List.getElem?_eq_getElem hi) (by rw [List.getElem?_eq_getElem hj, ← e])
  omega
/-- the text of a row -/
def textR (ts : List (List Nat)) (row : List Nat) : List Nat := (row.map fun i => ts.getD i []).flatten
theorem getD_short {ts : List (List Nat)} (h : ∀ t ∈ ts, t.length ≤ 40) (i : Nat) : (ts.getD i []).length ≤ 40 := by
  rcases getD_mem_or (ts := ts) (i := i) with m | m
  · exact h _ m
  · rw [m]; exact Nat.zero_le _
theorem run_len (b : Nat) : ∀ (ps : List (Nat × Nat)) (k : Nat) (row : List Nat), (run b ps k row).length ≤ row.length
  | [], _, _ => Nat.le_refl _
  | p :: ps, k, row => Nat.le_trans (run_len b ps (k + 1) _) pass_len
theorem cutL_len (b : Nat) (ps : List (Nat × Nat)) (row : List Nat) : (cutL b ps row).length ≤ row.length := run_len b ps 0 row
theorem textR_cons (ts : List (List Nat)) (a : Nat) (row : List Nat) : textR ts (a :: row) = ts.getD a [] ++ textR ts row := rfl
theorem pass_text {ts : List (List Nat)} {l r m : Nat} (h : ts.getD m [] = ts.getD l [] ++ ts.getD r []) : ∀ row : List Nat, textR ts (pass l r m row) = textR ts row
  | [] => rfl
  | [a] => rfl
  | a :: b :: t => by
    rw [pass]
    split
    · rename_i c
      obtain ⟨rfl, rfl⟩ := c
      rw [textR_cons, textR_cons, textR_cons, pass_text h t, h, List.append_assoc]
    · rw [textR_cons, textR_cons ts a, pass_text h (b :: t)]
theorem run_text {ts : List (List Nat)} {b : Nat} : ∀ (qs : List (Nat × Nat)) (k : Nat) (row : List Nat), (∀ (i : Nat) (q : Nat × Nat), qs[i]? = some q → ts.getD (b + k + i) [] = ts.getD q.1 [] ++ ts.getD q.2 []) → textR ts (run b qs k row) = textR ts row
  | [], _, _, _ => rfl
  | q :: qs, k, row, h => by
    have h0 := h 0 q rfl
    show textR ts (run b qs (k + 1) (pass q.1 q.2 (b + k) row)) = _
    rw [run_text qs (k + 1) _ fun i p e => by
      have := h (i + 1) p e
      rw [show b + (k + 1) + i = b + k + (i + 1) by omega]; exact this]
    exact pass_text h0 row
theorem texts_at {al : List Nat} {ps : List (Nat × Nat)} (h : WF al.length ps) : ∀ (i : Nat) (p : Nat × Nat), ps[i]? = some p → (textsOf al ps).getD (al.length + i) [] = (textsOf al ps).getD p.1 [] ++ (textsOf al ps).getD p.2 [] := by
  induction ps using snoc_ind with
  | h0 => intro i p e; cases e
  | h1 ps q ih =>
    intro i p e
    have hw : WF al.length ps := by have := h.take ps.length; rw [List.take_left] at this; exact this
    have key : ∀ j, j < al.length + ps.length → (textsOf al (ps ++ [q])).getD j [] = (textsOf al ps).getD j [] := fun j hj => by
      rw [textsOf_snoc, List.getD_eq_getElem?_getD, List.getElem?_append_left (by rw [textsOf_len]; exact hj), ← List.getD_eq_getElem?_getD]
    have hp := h i p e
    by_cases c : i < ps.length
    · rw [List.getElem?_append_left c] at e
      rw [key _ (by omega), key _ (by omega), key _ (by omega)]
      exact ih hw i p e
    · have hi : i = ps.length := by
        have := (List.getElem?_eq_some_iff.mp e).1
        rw [List.length_append, List.length_singleton] at this
        omega
      subst hi
      rw [List.getElem?_append_right (Nat.le_refl _), Nat.sub_self] at e
      have e' : q = p := Option.some.inj e
      subst e'
      rw [key q.1 hp.1, key q.2 hp.2, textsOf_snoc, List.getD_eq_getElem?_getD, List.getElem?_append_right (by rw [textsOf_len]; exact Nat.le_refl _), textsOf_len, Nat.sub_self]; rfl
theorem texts_letter {al : List Nat} {ps : List (Nat × Nat)} {i c : Nat} (h : al[i]? = some c) : (textsOf al ps).getD i [] = [c] := by
  have hi := (List.getElem?_eq_some_iff.mp h).1
  induction ps using snoc_ind with
  | h0 =>
    unfold textsOf
    rw [List.foldl_nil, List.getD_eq_getElem?_getD, List.getElem?_map, h]; rfl
  | h1 ps q ih =>
    rw [textsOf_snoc, List.getD_eq_getElem?_getD, List.getElem?_append_left (by rw [textsOf_len]; omega), ← List.getD_eq_getElem?_getD]
    exact ih
theorem text_lets {al : List Nat} {ps : List (Nat × Nat)} {t : List Nat} (h : ∀ c ∈ t, c ∈ al) : textR (textsOf al ps) (lets al t) = t := by
  induction t with
  | nil => rfl
  | cons c t ih =>
    show (textsOf al ps).getD (al.idxOf c) [] ++ textR (textsOf al ps) (lets al t) = c :: t
    rw [ih fun d hd => h d (List.mem_cons_of_mem _ hd), texts_letter (by
      have hc := h c (List.mem_cons_self ..)
      rw [List.getElem?_eq_getElem (List.idxOf_lt_length_of_mem hc), List.getElem_idxOf])]
    rfl
theorem text_cut {al : List Nat} {ps : List (Nat × Nat)} (hw : WF al.length ps) {t : List Nat} (h : ∀ c ∈ t, c ∈ al) : textR (textsOf al ps) (cutL al.length ps (lets al t)) = t := by
  unfold cutL
  rw [run_text ps 0 _ fun i q e => by rw [Nat.add_zero]; exact texts_at hw i q e]
  exact text_lets h
theorem run_mem {b x : Nat} : ∀ (qs : List (Nat × Nat)) (k : Nat) (row : List Nat), x ∈ run b qs k row → x ∈ row ∨ (b + k ≤ x ∧ x < b + k + qs.length)
  | [], _, _, h => .inl h
  | q :: qs, k, row, h => by
    rcases run_mem qs (k + 1) _ h with z | z
    · rcases pass_mem z with y | y
      · exact .inl y
      · exact .inr ⟨by omega, by rw [List.length_cons]; omega⟩
    · exact .inr ⟨by omega, by rw [List.length_cons]; omega⟩
theorem lets_lt {al t : List Nat} (h : ∀ c ∈ t, c ∈ al) : ∀ i ∈ lets al t, i < al.length := fun i hi => by
  obtain ⟨c, hc, rfl⟩ := List.mem_map.mp hi
  exact List.idxOf_lt_length_of_mem (h c hc)
theorem cut_lt {al : List Nat} {ps : List (Nat × Nat)} {t : List Nat} (h : ∀ c ∈ t, c ∈ al) : ∀ i ∈ cutL al.length ps (lets al t), i < al.length + ps.length := fun i hi => by
  rcases run_mem ps 0 _ hi with z | z
  · have := lets_lt h i z; omega
  · omega
theorem cut_nil (b : Nat) (ps : List (Nat × Nat)) : cutL b ps [] = [] := List.eq_nil_of_length_eq_zero (Nat.le_zero.mp (cutL_len b ps []))
def apart (m l r : Nat) (row : List Nat) : List Nat := row.flatMap fun x => if x = m then [l, r] else [x]
theorem apart_nil (m l r : Nat) : apart m l r [] = [] := rfl
theorem apart_cons (m l r x : Nat) (t : List Nat) : apart m l r (x :: t) = (if x = m then [l, r] else [x]) ++ apart m l r t := rfl
theorem apart_app (m l r : Nat) (u v : List Nat) : apart m l r (u ++ v) = apart m l r u ++ apart m l r v := List.flatMap_append
theorem apart_pass {m l r : Nat} : ∀ {row : List Nat}, m ∉ row → apart m l r (pass l r m row) = row
  | [], _ => rfl
  | [a], h => by
    have : a ≠ m := fun e => h (by rw [e]; exact List.mem_cons_self ..)
    show (if a = m then [l, r] else [a]) ++ [] = [a]
    rw [if_neg this]; rfl
  | a :: b :: t, h => by
    have ha : a ≠ m := fun e => h (by rw [e]; exact List.mem_cons_self ..)
    have ht : m ∉ b :: t := fun z => h (List.mem_cons_of_mem _ z)
    rw [pass]
    split
    · rename_i c
      obtain ⟨rfl, rfl⟩ := c
      rw [apart_cons, if_pos rfl, apart_pass (fun z => ht (List.mem_cons_of_mem _ z))]; rfl
    · rw [apart_cons, if_neg ha, apart_pass ht]; rfl
def splitD (b : Nat) (ps : List (Nat × Nat)) (n : Nat) : Nat → List Nat → List Nat
  | 0, row => row
  | k + 1, row => if n ≤ k then splitD b ps n k (apart (b + k) (ps.getD k (0, 0)).1 (ps.getD k (0, 0)).2 row) else row
variable {b n : Nat} {ps : List (Nat × Nat)}
theorem splitD_le {k : Nat} (h : k ≤ n) (row : List Nat) : splitD b ps n k row = row := by
  cases k with
  | zero => rfl
  | succ k => rw [splitD, if_neg (by omega)]
theorem splitD_app : ∀ (k : Nat) (u v : List Nat), splitD b ps n k (u ++ v) = splitD b ps n k u ++ splitD b ps n k v
  | 0, _, _ => rfl
  | k + 1, u, v => by
    rw [splitD, splitD, splitD]
    split
    · rw [apart_app, splitD_app k]
    · rfl
theorem splitD_nil (k : Nat) : splitD b ps n k [] = [] := by
  induction k with
  | zero => rfl
  | succ k ih =>
    rw [splitD, apart_nil, ih]
    split <;> rfl
theorem apart_one {m l r x : Nat} (h : x ≠ m) : apart m l r [x] = [x] := by
  show (if x = m then [l, r] else [x]) ++ [] = [x]
  rw [if_neg h]; rfl
theorem splitD_low {j y : Nat} (hy : y < b + j) : ∀ {k : Nat}, j ≤ k → splitD b ps n k [y] = splitD b ps n j [y]
  | 0, h => by rw [Nat.le_zero.mp h]
  | k + 1, h => by
    by_cases c : j = k + 1
    · rw [c]
    · rw [splitD]
      split
      · rw [apart_one (by omega)]; exact splitD_low hy (by omega)
      · rw [splitD_le (by omega)]
theorem splitD_small {x : Nat} (hx : x < b + n) (k : Nat) : splitD b ps n k [x] = [x] := by
  by_cases h : n ≤ k
  · rw [splitD_low hx h, splitD_le (Nat.le_refl _)]
  · exact splitD_le (by omega) _
theorem splitD_big {j : Nat} {p : Nat × Nat} (hp : ps[j]? = some p) (hn : n ≤ j) (hw : p.1 < b + j ∧ p.2 < b + j) : ∀ {k : Nat}, j < k → splitD b ps n k [b + j] = splitD b ps n k [p.1, p.2]
  | 0, h => absurd h (Nat.not_lt_zero _)
  | k + 1, h => by
    have e1 : splitD b ps n (k + 1) [p.1, p.2] = splitD b ps n j [p.1] ++ splitD b ps n j [p.2] := by
      rw [show [p.1, p.2] = [p.1] ++ [p.2] from rfl, splitD_app, splitD_low hw.1 (by omega), splitD_low hw.2 (by omega)]
    by_cases c : j = k
    · subst c
      rw [e1, splitD, if_pos hn]
      have e : ps.getD j (0, 0) = p := by rw [List.getD_eq_getElem?_getD, hp]; rfl
      rw [e]
      show splitD b ps n j ((if b + j = b + j then [p.1, p.2] else [b + j]) ++ []) = _
      rw [if_pos rfl, ← splitD_app]; rfl
    · rw [e1, splitD, if_pos (by omega), apart_one (by omega), splitD_big hp hn hw (show j < k by omega)]
      rw [show [p.1, p.2] = [p.1] ++ [p.2] from rfl, splitD_app, splitD_low hw.1 (by omega), splitD_low hw.2 (by omega)]
theorem splitD_cut {row : List Nat} (hrow : ∀ x ∈ row, x < b) (hn : n ≤ ps.length) : ∀ k, k ≤ ps.length → n ≤ k → splitD b ps n k (cutL b (ps.take k) row) = cutL b (ps.take n) row
  | 0, _, h => by rw [Nat.le_zero.mp h]; rfl
  | k + 1, hk, h => by
    by_cases c : n = k + 1
    · rw [c, splitD_le (Nat.le_refl _)]
    · obtain ⟨p, hp⟩ : ∃ p, ps[k]? = some p := ⟨_, List.getElem?_eq_getElem (by omega)⟩
      have e : ps.getD k (0, 0) = p := by rw [List.getD_eq_getElem?_getD, hp]; rfl
      rw [splitD, if_pos (by omega), e, take_succ_of hp, cutL_snoc, take_len_of hp, apart_pass fun hm => ?_]
      · exact splitD_cut hrow hn k (by omega) (by omega)
      · rcases run_mem _ 0 _ hm with z | z
        · have := hrow _ z; omega
        · rw [take_len_of hp] at z; omega
theorem apart_text {ts : List (List Nat)} {m l r : Nat} (h : ts.getD m [] = ts.getD l [] ++ ts.getD r []) : ∀ row : List Nat, textR ts (apart m l r row) = textR ts row
  | [] => rfl
  | x :: t => by
    have app : ∀ u v : List Nat, textR ts (u ++ v) = textR ts u ++ textR ts v := fun u v => by unfold textR; rw [List.map_append, List.flatten_append]
    rw [apart_cons, app, apart_text h t, textR_cons ts x]
    split
    · rename_i e
      subst e
      rw [h]
      show (ts.getD l [] ++ (ts.getD r [] ++ [])) ++ _ = _
      rw [List.append_nil]
    · show (ts.getD x [] ++ []) ++ _ = _
      rw [List.append_nil]
theorem splitD_text {al : List Nat} (hw : WF al.length ps) : ∀ (k : Nat) (row : List Nat), k ≤ ps.length → textR (textsOf al ps) (splitD al.length ps n k row) = textR (textsOf al ps) row
  | 0, _, _ => rfl
  | k + 1, row, hk => by
    rw [splitD]
    split
    · obtain ⟨p, hp⟩ : ∃ p, ps[k]? = some p := ⟨_, List.getElem?_eq_getElem (by omega)⟩
      have e : ps.getD k (0, 0) = p := by rw [List.getD_eq_getElem?_getD, hp]; rfl
      rw [splitD_text hw k _ (by omega), e]
      exact apart_text (texts_at hw k p hp) row
    · rfl
theorem splitD_mem (hw : WF b ps) : ∀ (k : Nat) (row : List Nat), k ≤ ps.length → (∀ x ∈ row, x < b + ps.length) → ∀ x ∈ splitD b ps n k row, x < b + ps.length
  | 0, _, _, h => h
  | k + 1, row, hk, h => by
    rw [splitD]
    split
    · obtain ⟨p, hp⟩ : ∃ p, ps[k]? = some p := ⟨_, List.getElem?_eq_getElem (by omega)⟩
      have e : ps.getD k (0, 0) = p := by rw [List.getD_eq_getElem?_getD, hp]; rfl
      refine splitD_mem hw k _ (by omega) fun x hx => ?_
      rw [e] at hx
      obtain ⟨y, hy, hxy⟩ := List.mem_flatMap.mp hx
      have hwk := hw k p hp
      split at hxy
      · rcases List.mem_cons.mp hxy with z | z
        · omega
        · rw [List.mem_singleton.mp z]; omega
      · rw [List.mem_singleton.mp hxy]; exact h y hy
    · exact h
end RJ
end

section
set_option maxRecDepth 100000
namespace RJ
/-! ### spines, crossings and cuts -/
section
variable {b n : Nat} {ps : List (Nat × Nat)}
/-- a row taken back to stage n -/
def Dn (b : Nat) (ps : List (Nat × Nat)) (n : Nat) (row : List Nat) : List Nat := splitD b ps n ps.length row
theorem Dn_app (u v : List Nat) : Dn b ps n (u ++ v) = Dn b ps n u ++ Dn b ps n v := splitD_app _ _ _
theorem Dn_cons (x : Nat) (v : List Nat) : Dn b ps n (x :: v) = Dn b ps n [x] ++ Dn b ps n v := splitD_app _ [x] v
theorem Dn_nil : Dn b ps n [] = [] := splitD_nil _
theorem Dn_small {x : Nat} (hx : x < b + n) : Dn b ps n [x] = [x] := splitD_small hx _
theorem Dn_full (row : List Nat) : Dn b ps ps.length row = row := splitD_le (Nat.le_refl _) row
theorem Dn_big (hw : WF b ps) {j : Nat} {p : Nat × Nat} (hp : ps[j]? = some p) (hn : n ≤ j) : Dn b ps n [b + j] = Dn b ps n [p.1] ++ Dn b ps n [p.2] := by
  have hj := (List.getElem?_eq_some_iff.mp hp).1
  show splitD b ps n ps.length [b + j] = _
  rw [splitD_big hp hn (hw j p hp) hj, show [p.1, p.2] = [p.1] ++ [p.2] from rfl, splitD_app]; rfl
theorem Dn_cut {row : List Nat} (hrow : ∀ x ∈ row, x < b) (hn : n ≤ ps.length) : Dn b ps n (cutL b ps row) = cutL b (ps.take n) row := by
  have := splitD_cut (n := n) hrow hn ps.length (Nat.le_refl _) hn
  rw [List.take_length] at this
  exact this
theorem part_of {x : Nat} (h : x < b + ps.length) : x < b ∨ ∃ j p, x = b + j ∧ ps[j]? = some p := by
  by_cases c : x < b
  · exact .inl c
  · exact .inr ⟨x - b, _, by omega, List.getElem?_eq_getElem (by omega)⟩
theorem Dn_ne (hw : WF b ps) : ∀ (x : Nat), x < b + ps.length → ∃ y t, Dn b ps n [x] = y :: t := by
  intro x
  induction x using Nat.strongRecOn with
  | ind x ih =>
    intro hx
    by_cases c : x < b + n
    · exact ⟨x, [], Dn_small c⟩
    · rcases part_of hx with h | ⟨j, p, rfl, hp⟩
      · omega
      · have hj := hw j p hp
        obtain ⟨y, t, e⟩ := ih p.1 hj.1 (by omega)
        exact ⟨y, t ++ Dn b ps n [p.2], by rw [Dn_big hw hp (by omega), e]; rfl⟩
/-- lists in which each piece is the cut of its letters -/
structure Good (b : Nat) (ps : List (Nat × Nat)) : Prop where
  wf : WF b ps
  one : ∀ x, x < b + ps.length → cutL b ps (Dn b ps 0 [x]) = [x]
  low : ∀ x, x < b + ps.length → ∀ y ∈ Dn b ps 0 [x], y < b
theorem Good.st (G : Good b ps) {x : Nat} (hx : x < b + ps.length) (hn : n ≤ ps.length) : cutL b (ps.take n) (Dn b ps 0 [x]) = Dn b ps n [x] := by
  have := Dn_cut (G.low x hx) hn
  rw [G.one x hx] at this
  exact this.symm
theorem Good.lows (G : Good b ps) : ∀ {row : List Nat}, (∀ x ∈ row, x < b + ps.length) → ∀ y ∈ Dn b ps 0 row, y < b
  | [], _, y, h => by rw [Dn_nil] at h; cases h
  | x :: t, hx, y, h => by
    rw [Dn_cons] at h
    rcases List.mem_append.mp h with z | z
    · exact G.low x (hx x (List.mem_cons_self ..)) y z
    · exact G.lows (fun u hu => hx u (List.mem_cons_of_mem _ hu)) y z
theorem Good.next (G : Good b ps) {x : Nat} (hx : x < b + ps.length) {p : Nat × Nat} (hp : ps[n]? = some p) : pass p.1 p.2 (b + n) (Dn b ps n [x]) = Dn b ps (n + 1) [x] := by
  have hn := (List.getElem?_eq_some_iff.mp hp).1
  rw [← G.st hx (by omega), ← G.st hx (show n + 1 ≤ ps.length by omega), take_succ_of hp, cutL_snoc, take_len_of hp]
/-! passes over two rows -/
theorem last_cons {a : Nat} {l : List Nat} {x : Nat} (h : l.getLast? = some x) : (a :: l).getLast? = some x := by
  rw [List.getLast?_cons, h]; rfl
theorem pass_app {l r m : Nat} (v : List Nat) : ∀ (u : List Nat), ¬ ((pass l r m u).getLast? = some l ∧ v.head? = some r) → pass l r m (u ++ v) = pass l r m u ++ pass l r m v
  | [], _ => rfl
  | [a], h => by
    cases v with
    | nil => rfl
    | cons c t =>
      show pass l r m (a :: c :: t) = a :: pass l r m (c :: t)
      rw [pass, if_neg]
      rintro ⟨rfl, rfl⟩
      exact h ⟨rfl, rfl⟩
  | a :: c :: t, h => by
    show pass l r m (a :: c :: (t ++ v)) = pass l r m (a :: c :: t) ++ pass l r m v
    rw [pass] at h
    rw [pass, pass]
    by_cases q : a = l ∧ c = r
    · rw [if_pos q] at h
      rw [if_pos q, if_pos q, pass_app v t fun z => h ⟨last_cons z.1, z.2⟩]; rfl
    · rw [if_neg q] at h
      rw [if_neg q, if_neg q, show c :: (t ++ v) = (c :: t) ++ v from rfl, pass_app v (c :: t) fun z => h ⟨last_cons z.1, z.2⟩]; rfl
theorem last_cons_ne {m l : Nat} {x : List Nat} (hm : m ≠ l) (h : (m :: x).getLast? = some l) : x.getLast? = some l ∧ x ≠ [] := by
  cases x with
  | nil => exact absurd (Option.some.inj h) hm
  | cons y x =>
    rw [List.getLast?_cons_cons] at h
    exact ⟨h, List.cons_ne_nil _ _⟩
theorem pass_cross {l r m : Nat} (hm : m ≠ l) (t : List Nat) : ∀ (u : List Nat), (pass l r m u).getLast? = some l → pass l r m (u ++ r :: t) = (pass l r m u).dropLast ++ m :: pass l r m t
  | [], h => by cases h
  | [a], h => by
    have e : a = l := Option.some.inj h
    subst e
    show pass a r m (a :: r :: t) = m :: pass a r m t
    rw [pass, if_pos ⟨rfl, rfl⟩]
  | a :: c :: u, h => by
    show pass l r m (a :: c :: (u ++ r :: t)) = _
    rw [pass] at h
    rw [pass, pass]
    by_cases q : a = l ∧ c = r
    · rw [if_pos q] at h
      rw [if_pos q, if_pos q]
      obtain ⟨h1, h2⟩ := last_cons_ne hm h
      rw [pass_cross hm t u h1, List.dropLast_cons_of_ne_nil h2]; rfl
    · rw [if_neg q] at h
      rw [if_neg q, if_neg q]
      obtain ⟨y, s, e, _⟩ := pass_head (l := l) (r := r) (m := m) (a := c) (t := u)
      have h2 : pass l r m (c :: u) ≠ [] := by rw [e]; exact List.cons_ne_nil _ _
      have h1 : (pass l r m (c :: u)).getLast? = some l := by
        rw [e] at h ⊢
        rwa [List.getLast?_cons_cons] at h
      rw [show c :: (u ++ r :: t) = (c :: u) ++ r :: t from rfl, pass_cross hm t (c :: u) h1, List.dropLast_cons_of_ne_nil h2]; rfl
/-! spines -/
inductive Spn (b : Nat) (ps : List (Nat × Nat)) (sd : Nat × Nat → Nat) (x : Nat) : Nat → Option Nat → Prop
  | self : Spn b ps sd x x none
  | step {j : Nat} {p : Nat × Nat} {bd : Option Nat} : Spn b ps sd x (b + j) bd → ps[j]? = some p → Spn b ps sd x (sd p) (some j)
/-- n is not beyond the bound -/
def upTo (n : Nat) (bd : Option Nat) : Prop := ∀ k, bd = some k → n ≤ k
def Side (sd : Nat × Nat → Nat) : Prop := ∀ p, sd p = p.1 ∨ sd p = p.2
theorem side1 : Side Prod.fst := fun _ => .inl rfl
theorem side2 : Side Prod.snd := fun _ => .inr rfl
theorem Spn.lt {sd : Nat × Nat → Nat} (hs : Side sd) (hw : WF b ps) {x y k : Nat} (h : Spn b ps sd x y (some k)) : y < b + k ∧ k < ps.length := by
  cases h with
  | step h hp =>
    have := hw _ _ hp
    refine ⟨?_, (List.getElem?_eq_some_iff.mp hp).1⟩
    rcases hs ‹_› with e | e <;> rw [e] <;> omega
theorem Spn.mem {sd : Nat × Nat → Nat} (hs : Side sd) (hw : WF b ps) {x y : Nat} {bd : Option Nat} (hx : x < b + ps.length) (h : Spn b ps sd x y bd) : y < b + ps.length := by
  cases bd with
  | none => cases h; exact hx
  | some k => have := h.lt hs hw; omega
theorem Spn.ahead {sd : Nat × Nat → Nat} {j y : Nat} {p : Nat × Nat} {bd : Option Nat} (hp : ps[j]? = some p) (h : Spn b ps sd (sd p) y bd) : Spn b ps sd (b + j) y (some (bd.getD j)) := by
  induction h with
  | self => exact .step .self hp
  | step h hq ih => exact .step ih hq
theorem Spn.last (hw : WF b ps) {x y : Nat} {bd : Option Nat} (h : Spn b ps Prod.snd x y bd) : upTo n bd → ∃ pre, Dn b ps n [x] = pre ++ Dn b ps n [y] := by
  induction h with
  | self => exact fun _ => ⟨[], rfl⟩
  | step h hp ih =>
    rename_i j p bd
    intro hu
    have hj := hu j rfl
    obtain ⟨pre, e⟩ := ih fun k ek => by
      subst ek
      have := (h.lt side2 hw).1
      omega
    exact ⟨pre ++ Dn b ps n [p.1], by rw [e, Dn_big hw hp hj, List.append_assoc]⟩
theorem Spn.first (hw : WF b ps) {x y : Nat} {bd : Option Nat} (h : Spn b ps Prod.fst x y bd) : upTo n bd → ∃ post, Dn b ps n [x] = Dn b ps n [y] ++ post := by
  induction h with
  | self => exact fun _ => ⟨[], (List.append_nil _).symm⟩
  | step h hp ih =>
    rename_i j p bd
    intro hu
    have hj := hu j rfl
    obtain ⟨post, e⟩ := ih fun k ek => by
      subst ek
      have := (h.lt side1 hw).1
      omega
    exact ⟨Dn b ps n [p.2] ++ post, by rw [e, Dn_big hw hp hj, List.append_assoc]⟩
theorem getLast_app {u v : List Nat} {x : Nat} (h : v.getLast? = some x) : (u ++ v).getLast? = some x := by
  rw [List.getLast?_append, h]; rfl
theorem head_app {u v : List Nat} {x : Nat} (h : u.head? = some x) : (u ++ v).head? = some x := by
  cases u with
  | nil => cases h
  | cons a u => exact h
theorem last_ex (hw : WF b ps) : ∀ (x : Nat), x < b + ps.length → ∃ y bd, Spn b ps Prod.snd x y bd ∧ upTo n bd ∧ (Dn b ps n [x]).getLast? = some y := by
  intro x
  induction x using Nat.strongRecOn with
  | ind x ih =>
    intro hx
    by_cases c : x < b + n
    · exact ⟨x, none, .self, (fun k e => by cases e), by rw [Dn_small c]; rfl⟩
    · rcases part_of hx with h | ⟨j, p, rfl, hp⟩
      · omega
      · have hj := hw j p hp
        obtain ⟨y, bd, h1, h2, h3⟩ := ih p.2 hj.2 (by omega)
        refine ⟨y, _, h1.ahead hp, fun k e => ?_, ?_⟩
        · have e' : bd.getD j = k := Option.some.inj e
          cases bd with
          | none => have : j = k := e'; omega
          | some i => have : i = k := e'; have := h2 i rfl; omega
        · rw [Dn_big hw hp (by omega)]
          exact getLast_app h3
theorem first_ex (hw : WF b ps) : ∀ (x : Nat), x < b + ps.length → ∃ y bd, Spn b ps Prod.fst x y bd ∧ upTo n bd ∧ (Dn b ps n [x]).head? = some y := by
  intro x
  induction x using Nat.strongRecOn with
  | ind x ih =>
    intro hx
    by_cases c : x < b + n
    · exact ⟨x, none, .self, (fun k e => by cases e), by rw [Dn_small c]; rfl⟩
    · rcases part_of hx with h | ⟨j, p, rfl, hp⟩
      · omega
      · have hj := hw j p hp
        obtain ⟨y, bd, h1, h2, h3⟩ := ih p.1 hj.1 (by omega)
        refine ⟨y, _, h1.ahead hp, fun k e => ?_, ?_⟩
        · have e' : bd.getD j = k := Option.some.inj e
          cases bd with
          | none => have : j = k := e'; omega
          | some i => have : i = k := e'; have := h2 i rfl; omega
        · rw [Dn_big hw hp (by omega)]
          exact head_app h3
/-- the join of rank r puts letters of x and y together, where x stands ahead of y -/
def Cross (b : Nat) (ps : List (Nat × Nat)) (x y r : Nat) : Prop := ∃ (p : Nat × Nat) (bx by' : Option Nat), ps[r]? = some p ∧ Spn b ps Prod.snd x p.1 bx ∧ Spn b ps Prod.fst y p.2 by' ∧ upTo (r + 1) bx ∧ upTo r by'
theorem Cross.lt {x y r : Nat} (h : Cross b ps x y r) : r < ps.length := by
  obtain ⟨p, _, _, hp, _⟩ := h
  exact (List.getElem?_eq_some_iff.mp hp).1
theorem cross_iff (hw : WF b ps) {x y r : Nat} (hx : x < b + ps.length) (hy : y < b + ps.length) : Cross b ps x y r ↔ ∃ p, ps[r]? = some p ∧ (Dn b ps (r + 1) [x]).getLast? = some p.1 ∧ (Dn b ps r [y]).head? = some p.2 := by
  constructor
  · rintro ⟨p, bx, by', hp, h1, h2, u1, u2⟩
    have hpw := hw r p hp
    obtain ⟨pre, e1⟩ := h1.last hw u1
    obtain ⟨post, e2⟩ := h2.first hw u2
    refine ⟨p, hp, ?_, ?_⟩
    · rw [e1, Dn_small (by omega)]; exact getLast_app rfl
    · rw [e2, Dn_small (by omega)]; rfl
  · rintro ⟨p, hp, h1, h2⟩
    obtain ⟨u, bx, a1, a2, a3⟩ := last_ex (n := r + 1) hw x hx
    obtain ⟨v, by', b1, b2, b3⟩ := first_ex (n := r) hw y hy
    rw [h1] at a3
    rw [h2] at b3
    cases a3
    cases b3
    exact ⟨p, bx, by', hp, a1, b1, a2, b2⟩
/-- all adjacent pieces stay apart at rank n -/
def Still (b : Nat) (ps : List (Nat × Nat)) (n : Nat) (row : List Nat) : Prop := ∀ q ∈ adjs row, ¬ Cross b ps q.1 q.2 n
theorem Still.tail {x : Nat} {t : List Nat} (h : Still b ps n (x :: t)) : Still b ps n t := fun q hq => h q (mem_adjs_cons hq)
theorem Still.left {u v : List Nat} (h : Still b ps n (u ++ v)) : Still b ps n u := fun q hq => h q (adjs_sub_left hq)
theorem pass_row (G : Good b ps) {p : Nat × Nat} (hp : ps[n]? = some p) : ∀ {row : List Nat}, (∀ x ∈ row, x < b + ps.length) → Still b ps n row → pass p.1 p.2 (b + n) (Dn b ps n row) = Dn b ps (n + 1) row
  | [], _, _ => by rw [Dn_nil, Dn_nil]; rfl
  | [x], hx, _ => G.next (hx x (List.mem_cons_self ..)) hp
  | x :: y :: t, hx, hs => by
    have hx0 := hx x (List.mem_cons_self ..)
    have hy0 := hx y (List.mem_cons_of_mem _ (List.mem_cons_self ..))
    rw [Dn_cons, Dn_cons x (y :: t), pass_app, G.next hx0 hp, pass_row G hp (fun u hu => hx u (List.mem_cons_of_mem _ hu)) hs.tail]
    rw [G.next hx0 hp]
    rintro ⟨h1, h2⟩
    refine hs (x, y) (by rw [adjs_cons2]; exact List.mem_cons_self ..) ((cross_iff G.wf hx0 hy0).mpr ⟨p, hp, h1, ?_⟩)
    obtain ⟨z, s, e⟩ := Dn_ne (n := n) G.wf y hy0
    rw [Dn_cons, e] at h2
    rw [e]; exact h2
/-- as long as nothing crosses, each piece is staged by itself -/
theorem stage_row (G : Good b ps) {row : List Nat} (hx : ∀ x ∈ row, x < b + ps.length) : ∀ n, n ≤ ps.length → (∀ r, r < n → Still b ps r row) → cutL b (ps.take n) (Dn b ps 0 row) = Dn b ps n row
  | 0, _, _ => rfl
  | n + 1, hn, hs => by
    obtain ⟨p, hp⟩ : ∃ p, ps[n]? = some p := ⟨_, List.getElem?_eq_getElem (by omega)⟩
    rw [take_succ_of hp, cutL_snoc, take_len_of hp, stage_row G hx n (by omega) fun r hr => hs r (by omega), pass_row G hp hx (hs n (by omega))]
/-- the first pair of adjacent ones that is not still -/
theorem first_cross {row : List Nat} (h : ¬ Still b ps n row) : ∃ u x y v, row = u ++ x :: y :: v ∧ Cross b ps x y n ∧ Still b ps n (u ++ [x]) := by
  induction row with
  | nil => exact absurd (fun q hq => by cases hq) h
  | cons a t ih =>
    cases t with
    | nil => exact absurd (fun q hq => by cases hq) h
    | cons c t =>
      by_cases k : Cross b ps a c n
      · exact ⟨[], a, c, t, rfl, k, fun q hq => by cases hq⟩
      · have h2 : ¬ Still b ps n (c :: t) := fun hs => h fun q hq => by
          rw [adjs_cons2] at hq
          rcases List.mem_cons.mp hq with z | z
          · rw [z]; exact k
          · exact hs q z
        obtain ⟨u, x, y, v, e, h3, h4⟩ := ih h2
        refine ⟨a :: u, x, y, v, by rw [e]; rfl, h3, ?_⟩
        cases u with
        | nil =>
          injection e with e1 e2
          subst e1
          intro q hq
          have hq' : q ∈ [(a, c)] := hq
          rw [List.mem_singleton.mp hq']; exact k
        | cons d u =>
          injection e with e1 e2
          subst e1
          intro q hq
          have hq' : q ∈ (a, c) :: adjs (c :: u ++ [x]) := hq
          rcases List.mem_cons.mp hq' with z | z
          · rw [z]; exact k
          · exact h4 q z
/-- what the pass at a crossing makes -/
theorem pass_at_cross (G : Good b ps) {p : Nat × Nat} (hp : ps[n]? = some p) {u v : List Nat} {x y : Nat} (hx : ∀ z ∈ u ++ x :: y :: v, z < b + ps.length) (hc : Cross b ps x y n) (hs : Still b ps n (u ++ [x])) :
    ∃ t, (Dn b ps n (y :: v)) = p.2 :: t ∧ (Dn b ps (n + 1) (u ++ [x])).getLast? = some p.1 ∧ pass p.1 p.2 (b + n) (Dn b ps n (u ++ x :: y :: v)) = (Dn b ps (n + 1) (u ++ [x])).dropLast ++ (b + n) :: pass p.1 p.2 (b + n) t := by
  have hx0 : x < b + ps.length := hx x (by simp)
  have hy0 : y < b + ps.length := hx y (by simp)
  obtain ⟨p', hp', h1, h2⟩ := (cross_iff G.wf hx0 hy0).mp hc
  rw [hp] at hp'
  cases hp'
  obtain ⟨z, s, e⟩ := Dn_ne (n := n) G.wf y hy0
  rw [e] at h2
  have ez : z = p.2 := Option.some.inj h2
  subst ez
  have hl : (Dn b ps (n + 1) (u ++ [x])).getLast? = some p.1 := by rw [Dn_app]; exact getLast_app h1
  have hd : Dn b ps n (y :: v) = p.2 :: (s ++ Dn b ps n v) := by rw [Dn_cons, e]; rfl
  refine ⟨_, hd, hl, ?_⟩
  have hpass := pass_row G hp (row := u ++ [x]) (fun z hz => hx z (by
    rcases List.mem_append.mp hz with w | w
    · exact List.mem_append_left _ w
    · rw [List.mem_singleton.mp w]; simp)) hs
  have hm : b + n ≠ p.1 := by have := (G.wf n p hp).1; omega
  rw [show u ++ x :: y :: v = (u ++ [x]) ++ y :: v by simp, Dn_app, hd, pass_cross hm _ _ (by rw [hpass]; exact hl), hpass]
/-- a row of pieces is the cut of its letters if and only if no two neighbors cross -/
theorem cut_row_iff (G : Good b ps) {row : List Nat} (hx : ∀ x ∈ row, x < b + ps.length) : cutL b ps (Dn b ps 0 row) = row ↔ ∀ q ∈ adjs row, ∀ r, ¬ Cross b ps q.1 q.2 r := by
  constructor
  · intro h q hq r hc
    have hr := hc.lt
    obtain ⟨p, hp⟩ : ∃ p, ps[r]? = some p := ⟨_, List.getElem?_eq_getElem hr⟩
    have hns : ¬ Still b ps r row := fun hs => hs q hq hc
    obtain ⟨u, x, y, v, rfl, hc', hs'⟩ := first_cross hns
    obtain ⟨t, h1, h2, h3⟩ := pass_at_cross G hp hx hc' hs'
    have lows := G.lows hx
    have e1 := Dn_cut (n := r) (ps := ps) lows (by omega)
    have e2 := Dn_cut (n := r + 1) (ps := ps) lows (by omega)
    rw [h] at e1 e2
    rw [take_succ_of hp, cutL_snoc, take_len_of hp, ← e1, h3, show u ++ x :: y :: v = (u ++ [x]) ++ y :: v by simp, Dn_app] at e2
    obtain ⟨ys, ey⟩ := List.getLast?_eq_some_iff.mp h2
    rw [ey, List.dropLast_concat, List.append_assoc] at e2
    have e3 := List.append_cancel_left e2
    injection e3 with e4 e5
    have := (G.wf r p hp).1
    omega
  · intro h
    have := stage_row G hx ps.length (Nat.le_refl _) fun r _ q hq => h q hq r
    rwa [List.take_length, Dn_full] at this
/-- and at the first crossing there is no seam left -/
theorem cross_first (G : Good b ps) {x y c : Nat} (hx : x < b + ps.length) (hy : y < b + ps.length) (hc : Cross b ps x y c) (hno : ∀ r, r < c → ¬ Cross b ps x y r) :
    ∃ A B p, ps[c]? = some p ∧ Dn b ps (c + 1) [x] = A ++ [p.1] ∧ cutL b (ps.take (c + 1)) (Dn b ps 0 [x, y]) = A ++ (b + c) :: B := by
  have hcl := hc.lt
  obtain ⟨p, hp⟩ : ∃ p, ps[c]? = some p := ⟨_, List.getElem?_eq_getElem hcl⟩
  have hxy : ∀ z ∈ [x, y], z < b + ps.length := fun z hz => by
    rcases List.mem_cons.mp hz with w | w
    · rw [w]; exact hx
    · rw [List.mem_singleton.mp w]; exact hy
  obtain ⟨t, h1, h2, h3⟩ := pass_at_cross (u := []) (v := []) G hp hxy hc (fun q hq => by cases hq)
  obtain ⟨ys, ey⟩ := List.getLast?_eq_some_iff.mp h2
  refine ⟨ys, pass p.1 p.2 (b + c) t, p, hp, ey, ?_⟩
  rw [take_succ_of hp, cutL_snoc, take_len_of hp, stage_row G hxy c (by omega) fun r hr q hq => by
    have hq' : q ∈ [(x, y)] := hq
    rw [List.mem_singleton.mp hq']; exact hno r hr]
  rw [show [x, y] = [] ++ x :: y :: [] from rfl, h3, ey, List.dropLast_concat]
end
/-- proper lists are good ones -/
theorem Dn_text {al : List Nat} (hal : al.Nodup) {ps : List (Nat × Nat)} (h : Proper al ps) {x : Nat} (hx : x < al.length + ps.length) : Dn al.length ps 0 [x] = lets al ((textsOf al ps).getD x []) := by
  have ht : (textsOf al ps)[x]? = some ((textsOf al ps).getD x []) := by
    rw [List.getD_eq_getElem?_getD, List.getElem?_eq_getElem (by rw [textsOf_len]; exact hx)]; rfl
  have hm : ∀ c ∈ (textsOf al ps).getD x [], c ∈ al := textsOf_al _ (List.mem_of_getElem? ht)
  have := Dn_cut (n := 0) (ps := ps) (lets_lt hm) (Nat.zero_le _)
  rw [cut_piece hal h x _ ht] at this
  exact this
theorem lets_app (al u v : List Nat) : lets al (u ++ v) = lets al u ++ lets al v := List.map_append
theorem Dn_texts {al : List Nat} (hal : al.Nodup) {ps : List (Nat × Nat)} (h : Proper al ps) : ∀ {row : List Nat}, (∀ x ∈ row, x < al.length + ps.length) → Dn al.length ps 0 row = lets al (textR (textsOf al ps) row)
  | [], _ => Dn_nil
  | x :: t, hx => by
    rw [Dn_cons, Dn_text hal h (hx x (List.mem_cons_self ..)), Dn_texts hal h fun u hu => hx u (List.mem_cons_of_mem _ hu), textR_cons, lets_app]
theorem Proper.good {al : List Nat} (hal : al.Nodup) {ps : List (Nat × Nat)} (h : Proper al ps) : Good al.length ps where
  wf := h.wf
  one := fun x hx => by
    rw [Dn_text hal h hx]
    exact cut_piece hal h x _ (by rw [List.getD_eq_getElem?_getD, List.getElem?_eq_getElem (by rw [textsOf_len]; exact hx)]; rfl)
  low := fun x hx => by
    rw [Dn_text hal h hx]
    exact lets_lt (textsOf_al _ (List.mem_of_getElem? (i := x) (by rw [List.getD_eq_getElem?_getD, List.getElem?_eq_getElem (by rw [textsOf_len]; exact hx)]; rfl)))
section
variable {b : Nat} {ps : List (Nat × Nat)} {sd : Nat × Nat → Nat}
theorem Spn.zero {x y : Nat} {bd : Option Nat} (h : Spn b ps sd x y bd) (e : bd = none) : y = x := by
  cases h with
  | self => rfl
  | step h hp => cases e
theorem Spn.up {x y k : Nat} (h : Spn b ps sd x y (some k)) : b ≤ x := by
  have key : ∀ y bd, Spn b ps sd x y bd → bd = none ∨ b ≤ x := by
    intro y bd h
    induction h with
    | self => exact .inl rfl
    | step h hp ih =>
      rcases ih with e | e
      · have := h.zero e
        exact .inr (by omega)
      · exact .inr e
  rcases key _ _ h with e | e
  · cases e
  · exact e
theorem Spn.down {j y : Nat} {p : Nat × Nat} {bd : Option Nat} (hp : ps[j]? = some p) (h : Spn b ps sd (b + j) y bd) : bd = none ∨ (y = sd p ∧ bd = some j) ∨ ∃ k, bd = some k ∧ Spn b ps sd (sd p) y (some k) := by
  generalize e : b + j = x at h
  induction h with
  | self => exact .inl rfl
  | step h hq ih =>
    rename_i j' q bd0
    refine .inr ?_
    rcases ih with e1 | ⟨e1, e2⟩ | ⟨k, e1, e2⟩
    · have e0 := h.zero e1
      have ej : j = j' := by omega
      subst ej
      rw [hp] at hq
      cases hq
      exact .inl ⟨rfl, rfl⟩
    · refine .inr ⟨j', rfl, ?_⟩
      exact .step (by rw [e1]; exact .self) hq
    · exact .inr ⟨j', rfl, .step e2 hq⟩
/-- all of a spine -/
structure IsSpine (b : Nat) (ps : List (Nat × Nat)) (sd : Nat × Nat → Nat) (x : Nat) (es : List (Nat × Option Nat)) : Prop where
  ok : ∀ e ∈ es, Spn b ps sd x e.1 e.2
  all : ∀ y bd, Spn b ps sd x y bd → (y, bd) ∈ es
/-- the spine up to a last one -/
structure IsSpineTo (b : Nat) (ps : List (Nat × Nat)) (sd : Nat × Nat → Nat) (x : Nat) (es : List (Nat × Option Nat)) (last : Nat) : Prop where
  ok : ∀ e ∈ es, Spn b ps sd x e.1 e.2
  all : ∀ y bd, Spn b ps sd x y bd → (y, bd) ∈ es ∨ ∃ k, bd = some k ∧ Spn b ps sd last y (some k)
  at_ : ∃ bd, (last, bd) ∈ es
theorem IsSpineTo.start (x : Nat) : IsSpineTo b ps sd x [(x, none)] x where
  ok := fun e he => by rw [List.mem_singleton.mp he]; exact .self
  all := fun y bd h => by
    cases bd with
    | none => cases h; exact .inl (List.mem_cons_self ..)
    | some k => exact .inr ⟨k, rfl, h⟩
  at_ := ⟨none, List.mem_cons_self ..⟩
theorem IsSpineTo.next {x j : Nat} {p : Nat × Nat} {es : List (Nat × Option Nat)} (h : IsSpineTo b ps sd x es (b + j)) (hp : ps[j]? = some p) : IsSpineTo b ps sd x (es ++ [(sd p, some j)]) (sd p) where
  ok := fun e he => by
    rcases List.mem_append.mp he with z | z
    · exact h.ok e z
    · rw [List.mem_singleton.mp z]
      obtain ⟨bd, hb⟩ := h.at_
      exact .step (h.ok _ hb) hp
  all := fun y bd hy => by
    rcases h.all y bd hy with z | ⟨k, e, z⟩
    · exact .inl (List.mem_append_left _ z)
    · subst e
      rcases z.down hp with e1 | ⟨e1, e2⟩ | ⟨k', e1, e2⟩
      · cases e1
      · cases e2
        subst e1
        exact .inl (List.mem_append_right _ (List.mem_singleton.mpr rfl))
      · cases e1
        exact .inr ⟨k, rfl, e2⟩
  at_ := ⟨some j, List.mem_append_right _ (List.mem_singleton.mpr rfl)⟩
theorem IsSpineTo.done {x last : Nat} {es : List (Nat × Option Nat)} (h : IsSpineTo b ps sd x es last) (hl : last < b) : IsSpine b ps sd x es where
  ok := h.ok
  all := fun y bd hy => by
    rcases h.all y bd hy with z | ⟨k, e, z⟩
    · exact z
    · have := z.up; omega
/-- the first crossing, if any -/
def CrossIs (b : Nat) (ps : List (Nat × Nat)) (x y : Nat) : Option Nat → Prop
  | none => ∀ r, ¬ Cross b ps x y r
  | some c => Cross b ps x y c ∧ ∀ r, r < c → ¬ Cross b ps x y r
theorem CrossIs.uniq {x y : Nat} : ∀ {c d : Option Nat}, CrossIs b ps x y c → CrossIs b ps x y d → c = d
  | none, none, _, _ => rfl
  | none, some d, h, k => absurd k.1 (h d)
  | some c, none, h, k => absurd h.1 (k c)
  | some c, some d, h, k => by
    rcases Nat.lt_trichotomy c d with z | z | z
    · exact absurd h.1 (k.2 c z)
    · rw [z]
    · exact absurd k.1 (h.2 d z)
theorem least_ex {P : Nat → Prop} (h : ∃ n, P n) : ∃ n, P n ∧ ∀ m, m < n → ¬ P m := by
  obtain ⟨n, hn⟩ := h
  induction n using Nat.strongRecOn with
  | ind n ih =>
    by_cases c : ∃ m, m < n ∧ P m
    · obtain ⟨m, hm, hp⟩ := c
      exact ih m hm hp
    · exact ⟨n, hn, fun m hm hp => c ⟨m, hm, hp⟩⟩
theorem CrossIs.ex (b : Nat) (ps : List (Nat × Nat)) (x y : Nat) : ∃ c, CrossIs b ps x y c := by
  by_cases h : ∃ r, Cross b ps x y r
  · obtain ⟨c, h1, h2⟩ := least_ex h
    exact ⟨some c, h1, h2⟩
  · exact ⟨none, fun r hr => h ⟨r, hr⟩⟩
end
theorem Proper.fresh {al : List Nat} {ps : List (Nat × Nat)} (h : Proper al ps) {i : Nat} {p : Nat × Nat} (hp : ps[i]? = some p) : p ∉ ps.take i := fun hm => by
  obtain ⟨h1, h2, h3, h4⟩ := h i p hp
  have := cut_clean (h.take i).wf (lets al ((textsOf al (ps.take i)).getD p.1 [] ++ (textsOf al (ps.take i)).getD p.2 [])) _ hm
  rw [h4] at this
  exact this (by show (p.1, p.2) ∈ [(p.1, p.2)]; exact List.mem_cons_self ..)
theorem Proper.idx {al : List Nat} {ps : List (Nat × Nat)} (h : Proper al ps) {i : Nat} {p : Nat × Nat} (hp : ps[i]? = some p) : ps.idxOf p = i := by
  have hm : p ∈ ps := List.mem_of_getElem? hp
  have h1 : ps.idxOf p < ps.length := List.idxOf_lt_length_iff.mpr hm
  have h2 : ps[ps.idxOf p]? = some p := by rw [List.getElem?_eq_getElem h1, List.getElem_idxOf h1]
  rcases Nat.lt_trichotomy (ps.idxOf p) i with z | z | z
  · refine absurd ?_ (h.fresh hp)
    refine List.mem_of_getElem? (i := ps.idxOf p) ?_
    rw [List.getElem?_take, if_pos z]; exact h2
  · exact z
  · refine absurd ?_ (h.fresh h2)
    refine List.mem_of_getElem? (i := i) ?_
    rw [List.getElem?_take, if_pos z]; exact hp
/-! ### places behind pieces -/
def marks (ts : List (List Nat)) : Nat → List Nat → List Nat
  | _, [] => []
  | a, x :: t => (a + (ts.getD x []).length) :: marks ts (a + (ts.getD x []).length) t
def szR (ts : List (List Nat)) (row : List Nat) : Nat := (textR ts row).length
theorem szR_cons (ts : List (List Nat)) (x : Nat) (t : List Nat) : szR ts (x :: t) = (ts.getD x []).length + szR ts t := by
  unfold szR
  rw [textR_cons, List.length_append]
theorem textR_app (ts : List (List Nat)) (u v : List Nat) : textR ts (u ++ v) = textR ts u ++ textR ts v := by
  unfold textR; rw [List.map_append, List.flatten_append]
theorem szR_app (ts : List (List Nat)) (u v : List Nat) : szR ts (u ++ v) = szR ts u + szR ts v := by
  unfold szR; rw [textR_app, List.length_append]
theorem marks_app (ts : List (List Nat)) : ∀ (u v : List Nat) (a : Nat), marks ts a (u ++ v) = marks ts a u ++ marks ts (a + szR ts u) v
  | [], v, a => by show marks ts a v = marks ts (a + 0) v; rw [Nat.add_zero]
  | x :: u, v, a => by
    show (a + (ts.getD x []).length) :: marks ts (a + (ts.getD x []).length) (u ++ v) = (a + (ts.getD x []).length) :: (marks ts _ u ++ _)
    rw [marks_app ts u v, szR_cons, Nat.add_assoc]
theorem marks_le {ts : List (List Nat)} : ∀ {row : List Nat} {a n : Nat}, n ∈ marks ts a row → a ≤ n ∧ n ≤ a + szR ts row
  | [], _, _, h => by cases h
  | x :: t, a, n, h => by
    rw [szR_cons]
    rcases List.mem_cons.mp h with z | z
    · omega
    · have := marks_le z; omega
theorem marks_end {ts : List (List Nat)} : ∀ {row : List Nat} {a : Nat}, row ≠ [] → a + szR ts row ∈ marks ts a row
  | [], _, h => absurd rfl h
  | [x], a, _ => by
    rw [szR_cons]
    exact List.mem_cons_self ..
  | x :: y :: t, a, _ => by
    rw [szR_cons, ← Nat.add_assoc]
    exact List.mem_cons_of_mem _ (marks_end (row := y :: t) (List.cons_ne_nil _ _))
theorem marks_len (ts : List (List Nat)) : ∀ (row : List Nat) (a : Nat), (marks ts a row).length = row.length
  | [], _ => rfl
  | x :: t, a => congrArg (· + 1) (marks_len ts t _)
theorem texts_pos {al : List Nat} {ps : List (Nat × Nat)} (hw : WF al.length ps) : ∀ (x : Nat), x < al.length + ps.length → 0 < ((textsOf al ps).getD x []).length := by
  intro x
  induction x using Nat.strongRecOn with
  | ind x ih =>
    intro hx
    rcases part_of hx with h | ⟨j, p, rfl, hp⟩
    · rw [texts_letter (List.getElem?_eq_getElem h)]; exact Nat.one_pos
    · have hj := hw j p hp
      rw [texts_at hw j p hp, List.length_append]
      have := ih p.1 hj.1 (by omega)
      omega
theorem Dn_size {al : List Nat} {ps : List (Nat × Nat)} (hw : WF al.length ps) (n x : Nat) : szR (textsOf al ps) (Dn al.length ps n [x]) = ((textsOf al ps).getD x []).length := by
  unfold szR Dn
  rw [splitD_text hw _ _ (Nat.le_refl _)]
  show (((textsOf al ps).getD x []) ++ []).length = _
  rw [List.append_nil]
/-- as long as nothing crosses there is a seam -/
theorem seam_of_still {al : List Nat} {ps : List (Nat × Nat)} (hal : al.Nodup) (h : Proper al ps) {x y n : Nat} (hx : x < al.length + ps.length) (hy : y < al.length + ps.length) (hn : n ≤ ps.length) (hno : ∀ r, r < n → ¬ Cross al.length ps x y r) :
    ((textsOf al ps).getD x []).length ∈ marks (textsOf al ps) 0 (cutL al.length (ps.take n) (Dn al.length ps 0 [x, y])) := by
  rw [stage_row (h.good hal) (row := [x, y]) (fun z hz => by
    rcases List.mem_cons.mp hz with w | w
    · rw [w]; exact hx
    · rw [List.mem_singleton.mp w]; exact hy) n hn fun r hr q hq => by
    have hq' : q ∈ [(x, y)] := hq
    rw [List.mem_singleton.mp hq']; exact hno r hr]
  rw [Dn_cons, marks_app, ← Dn_size h.wf n x, ← Nat.zero_add (szR _ _)]
  refine List.mem_append_left _ (marks_end ?_)
  obtain ⟨z, s, e⟩ := Dn_ne (n := n) h.wf x hx
  rw [e]; exact List.cons_ne_nil _ _
/-- and at the first crossing there is none -/
theorem no_seam {al : List Nat} {ps : List (Nat × Nat)} (hal : al.Nodup) (h : Proper al ps) {x y c : Nat} (hx : x < al.length + ps.length) (hy : y < al.length + ps.length) (hc : Cross al.length ps x y c) (hno : ∀ r, r < c → ¬ Cross al.length ps x y r) :
    ((textsOf al ps).getD x []).length ∉ marks (textsOf al ps) 0 (cutL al.length (ps.take (c + 1)) (Dn al.length ps 0 [x, y])) := by
  obtain ⟨A, B, p, hp, e1, e2⟩ := cross_first (h.good hal) hx hy hc hno
  have hw := h.wf
  have hpw := hw c p hp
  have hcl := (List.getElem?_eq_some_iff.mp hp).1
  have hsz : ((textsOf al ps).getD x []).length = szR (textsOf al ps) A + ((textsOf al ps).getD p.1 []).length := by
    rw [← Dn_size hw (c + 1) x, e1, szR_app, szR_cons]; rfl
  have p1 := texts_pos hw p.1 (by omega)
  have p2 := texts_pos hw p.2 (by omega)
  intro hm
  rw [e2, marks_app] at hm
  rcases List.mem_append.mp hm with z | z
  · have := marks_le z; omega
  · have hlen : ((textsOf al ps).getD (al.length + c) []).length = ((textsOf al ps).getD p.1 []).length + ((textsOf al ps).getD p.2 []).length := by rw [texts_at hw c p hp, List.length_append]
    rcases List.mem_cons.mp z with w | w
    · omega
    · have := marks_le w; omega
/-- the cut of two pieces' text -/
theorem cut_pair_iff {al : List Nat} {ps : List (Nat × Nat)} (hal : al.Nodup) (h : Proper al ps) {x y : Nat} (hx : x < al.length + ps.length) (hy : y < al.length + ps.length) {c : Option Nat} (hc : CrossIs al.length ps x y c) :
    cutL al.length ps (lets al ((textsOf al ps).getD x [] ++ (textsOf al ps).getD y [])) = [x, y] ↔ c = none := by
  have hxy : ∀ z ∈ [x, y], z < al.length + ps.length := fun z hz => by
    rcases List.mem_cons.mp hz with w | w
    · rw [w]; exact hx
    · rw [List.mem_singleton.mp w]; exact hy
  have e : Dn al.length ps 0 [x, y] = lets al ((textsOf al ps).getD x [] ++ (textsOf al ps).getD y []) := by
    rw [Dn_texts hal h hxy, textR_cons, textR_cons]
    show lets al (_ ++ (_ ++ [])) = _
    rw [List.append_nil]
  rw [← e, cut_row_iff (h.good hal) hxy]
  constructor
  · intro hn
    cases c with
    | none => rfl
    | some c => exact absurd hc.1 (hn (x, y) (by show (x, y) ∈ [(x, y)]; exact List.mem_cons_self ..) c)
  · intro e q hq r
    subst e
    have hq' : q ∈ [(x, y)] := hq
    rw [List.mem_singleton.mp hq']; exact hc r
end RJ
end

section
set_option maxRecDepth 100000
namespace RJ
open PySem PySem.Spec PyProof.Rows L2
/-- what an iterator at it draws: n items, the i-th one PV i; G: what must stay tracked -/
structure DrawK (P : Program) (w : World) (K : PySem.W.Frag) (it : Addr) (n : Nat) (tnI : Nat → Heap → Prop) (G : Hp → Prop) (PV : Nat → V → Prop) : Prop where
  obj : ∀ i h, tnI i h → ∃ o, h.get? it = some o ∧ ∀ v, o.data ≠ .cell v
  keep : ∀ i h h', tnI i h → (∀ o, h.get? it = some o → h'.get? it = some o) → tnI i h'
  draws : ∀ (X : Cx), X.prog = P → X.w = w → X.K = K → X.calm = true → ∀ (i : Nat) (pins : List (Addr × Obj)) (s : Shared) (σ : L2.St) (H : Hp), Inv X pins σ H s → G H → H it = none → tnI i s.heap →
    ∃ (fp : List Addr) (PD : Nat → Value → Prop) (StD : Nat → Heap → Prop), Draws P w X.A.in1 it fp n PD StD ∧ StD i s.heap ∧ it ∈ fp ∧ (∀ b ∈ fp, b = it ∨ (∃ o, H b = some o)) ∧
      (∀ j h, StD j h → tnI j h) ∧ ∀ j v, PD j v → ∃ x, PV j x ∧ RelV x v
theorem drawK_str {P : Program} {w : World} {K : PySem.W.Frag} (it : Addr) (x : Str) (t : Tok) :
    DrawK P w K it x.cps.size (fun i h => h.IsStrIter it (strIterType x) x t i) (fun _ => True) (fun i v => ∃ c, x.cps[i]? = some c ∧ v = .str ⟨#[c]⟩) where
  obj := fun i h st => by
    obtain ⟨o, e, c, d⟩ := st
    exact ⟨o, e, fun v z => by rw [d] at z; cases z⟩
  keep := fun i h h' st k => let ⟨o, ho, r⟩ := st; ⟨o, k o ho, r⟩
  draws := fun X hP hw hK hc i pins s σ H I _ _ st => by
    subst hP hw hK
    exact ⟨[it], _, _, Draws.text (A := X.A.in1) (I.ok.hd hc) it x t, st, by simp, fun b hb => .inl (by simpa using hb), fun j h q => q, fun j v ⟨c, u, hx, e⟩ => ⟨_, ⟨c, hx, rfl⟩, by rw [e]; exact ⟨u, rfl⟩⟩⟩
theorem drawK_tup {P : Program} {w : World} {K : PySem.W.Frag} (it a : Addr) (xs : List V) :
    DrawK P w K it xs.length (fun i h => h.IsTupleIter it a i) (fun H => H a = some (.tup xs)) (fun i v => xs[i]? = some v) where
  obj := fun i h st => by
    obtain ⟨o, e, c, d⟩ := st
    exact ⟨o, e, fun v z => by rw [d] at z; cases z⟩
  keep := fun i h h' st k => st.at k
  draws := fun X hP hw hK hc i pins s σ H I hG hn st => by
    subst hP hw hK
    have hne : a ≠ it := ne_of_none hG hn
    obtain ⟨its, rv, p, _⟩ := I.tuple (SqT.of hG)
    have hl := rv.length
    have e : its.toArray.size = xs.length := by simp [hl]
    have D := Draws.tuple (prog := X.prog) (w := X.w) (A := X.A.in1) (I.ok.hd hc) it a hne its.toArray
    rw [e] at D
    refine ⟨[it, a], _, _, D, ⟨st, p⟩, by simp, fun b hb => ?_, fun j h q => q.1, fun j v q => ?_⟩
    · rcases List.mem_cons.mp hb with z | z
      · exact .inl z
      · exact .inr ⟨_, by rw [List.mem_singleton.mp z]; exact hG⟩
    · have q' : its[j]? = some v := by simpa using q
      have hj : j < xs.length := by
        have := (List.getElem?_eq_some_iff.mp q').1
        omega
      obtain ⟨u, hu, ru⟩ := rv.get (List.getElem?_eq_getElem hj)
      rw [q'] at hu
      cases hu
      exact ⟨_, List.getElem?_eq_getElem hj, ru⟩
theorem drawK_list {P : Program} {w : World} {K : PySem.W.Frag} (it a : Addr) (xs : List V) :
    DrawK P w K it xs.length (fun i h => h.IsListIter it a i) (fun H => H a = some (.lst xs)) (fun i v => xs[i]? = some v) where
  obj := fun i h st => by
    obtain ⟨o, e, c, d⟩ := st
    exact ⟨o, e, fun v z => by rw [d] at z; cases z⟩
  keep := fun i h h' st k => st.at k
  draws := fun X hP hw hK hc i pins s σ H I hG hn st => by
    subst hP hw hK
    have hne : a ≠ it := ne_of_none hG hn
    obtain ⟨its, rv, p, _⟩ := I.list (SqL.of hG)
    have hl := rv.length
    have e : its.toArray.size = xs.length := by simp [hl]
    have D := Draws.list (prog := X.prog) (w := X.w) (A := X.A.in1) (I.ok.hd hc) it a hne its.toArray
    rw [e] at D
    refine ⟨[it, a], _, _, D, ⟨st, p.isList⟩, by simp, fun b hb => ?_, fun j h q => q.1, fun j v q => ?_⟩
    · rcases List.mem_cons.mp hb with z | z
      · exact .inl z
      · exact .inr ⟨_, by rw [List.mem_singleton.mp z]; exact hG⟩
    · have q' : its[j]? = some v := by simpa using q
      have hj : j < xs.length := by
        have := (List.getElem?_eq_some_iff.mp q').1
        omega
      obtain ⟨u, hu, ru⟩ := rv.get (List.getElem?_eq_getElem hj)
      rw [q'] at hu
      cases hu
      exact ⟨_, List.getElem?_eq_getElem hj, ru⟩
/-- n turns, each with a new tuple of xs, PX i xs, while G stands -/
def ItG (n : Nat) (G : Hp → Prop) (PX : Nat → List V → Prop) : It :=
  ⟨fun i H => G H ∧ i < n, fun i H v H' => ∃ T xs, v = .ref T ∧ H T = none ∧ H' = upd H T (.tup xs) ∧ PX i xs, fun i H => G H ∧ n ≤ i⟩
theorem two {a b : Addr} {p : Addr → Prop} (h1 : p a) (h2 : p b) : ∀ c ∈ [a, b], p c := fun c hc => by
  simp only [List.mem_cons, List.not_mem_nil, or_false] at hc
  rcases hc with e | e <;> rw [e] <;> assumption
theorem out2 {a b c : Addr} (h : c ∉ [a, b]) : c ≠ a ∧ c ≠ b := by
  simp only [List.mem_cons, List.not_mem_nil, or_false, not_or] at h; exact h
/-- an enumerate between two turns -/
def EnumT (e it : Addr) (n : Nat) (tnI : Nat → Heap → Prop) (i : Nat) (h : Heap) : Prop := i ≤ n ∧ (∃ old, IsEnum h e it ((i : Nat) : Int) old) ∧ tnI i h ∧ e ≠ it
theorem turn_enumG {P : Program} {w : World} {K : PySem.W.Frag} {elts : List Expr} {kk : Nat} {tpos : Pos} {e it : Addr} {n : Nat} {tnI : Nat → Heap → Prop} {G : Hp → Prop} {PV : Nat → V → Prop} (D : DrawK P w K it n tnI G PV) :
    Turn P w K (.Tuple elts kk tpos) (ItG n G fun i xs => ∃ v, PV i v ∧ xs = [.int (i : Nat), v]) [e, it] e (EnumT e it n tnI) where
  mem := List.mem_cons_self ..
  obj := fun i h ⟨_, ⟨_, a⟩, b, _⟩ => two (p := fun c => ∃ o, h.get? c = some o ∧ _) ⟨_, a, fun _ q => nomatch q⟩ (D.obj i h b)
  keep := fun i h h' ⟨l, ⟨old, a⟩, b, n⟩ k => ⟨l, ⟨old, k e (by simp) _ a⟩, D.keep i h h' b fun o => k it (by simp) o, n⟩
  item := by
    rintro X hP hw hK hc i pins s σ H E I hf ⟨hle, ⟨old, he⟩, hit, hne⟩ ⟨hG, hlt⟩
    obtain ⟨fp, PD, StD, DD, c1, m1, q1, back, val⟩ := D.draws X hP hw hK hc i pins s σ H I hG (hf it (by simp)).1 hit
    subst hP hw hK
    have apart : e ∉ fp := fun z => by
      rcases q1 e z with q | ⟨o, q⟩
      · exact hne q
      · rw [(hf e (by simp)).1] at q; cases q
    have lt2 : ∀ c ∈ [e, it], c < s.heap.objs.size := by
      obtain ⟨_, q⟩ := DD.live _ _ c1
      exact two (Heap.lt_size he) (Heap.lt_size q)
    refine wpAny_pyNext_enum_itemC DD he c1 hlt hne apart fun u h' tk hu ho j1 hT _ hk => ⟨_, rfl, ?_⟩
    obtain ⟨x, hx, ru⟩ := val i u hu
    refine wpAny_letOwnedTupleGo_enum (s := { s with heap := h', toks := tk + 1 }) ho fun g zg sg => ?_
    have on : ∀ {c : Addr} {o : Obj}, c ≠ e → h'.get? c = some o → g.get? c = some o := fun n a => (sg.2 _ n).trans a
    have made : ObjOk X.prog X.w (upd H s.heap.objs.size (.tup [.int (i : Nat), x])) g s.heap.objs.size (.tup [.int (i : Nat), x]) := ⟨by show 2 ≤ sizeLine; decide, [.int i tk, u], .cons ⟨_, rfl⟩ (.cons ru .nil), ⟨_, on (Nat.ne_of_gt (lt2 e (by simp))) hT, rfl, _, rfl⟩⟩
    have J : Inv X pins σ (upd H s.heap.objs.size (.tup [.int (i : Nat), x])) { s with heap := g, toks := tk + 1 } := I.turnedNew (ch := [e, it]) (fun c o hb q => on (out2 hb).1 (hk c o (out2 hb).1 (out2 hb).2 q)) hf (Nat.le_refl _) made
    have next : IsEnum g e it ((i + 1 : Nat) : Int) u := by rw [show ((i + 1 : Nat) : Int) = (i : Int) + 1 by omega]; exact zg
    exact ⟨.ref s.heap.objs.size, _, J, rfl, ⟨_, _, rfl, I.hok.fresh (Nat.le_refl _), rfl, x, hx, rfl⟩, ⟨hlt, ⟨u, next⟩, D.keep _ _ _ (back _ _ j1) fun _ => on (Ne.symm hne), hne⟩, fun c hcm => (upd_ne (Nat.ne_of_lt (lt2 c hcm))).trans (hf c hcm).1⟩
  done := by
    rintro X hP hw hK hc i pins s σ H E I hf ⟨hle, ⟨old, he⟩, hit, hne⟩ ⟨hG, hge⟩
    obtain ⟨fp, PD, StD, DD, c1, m1, q1, back, val⟩ := D.draws X hP hw hK hc i pins s σ H I hG (hf it (by simp)).1 hit
    subst hP hw hK
    obtain rfl : i = n := Nat.le_antisymm hle hge
    exact wpAny_pyNext_enum_endD DD he c1 fun h' eb => ⟨rfl, I.turnedL (t' := s.toks) (ch := [e, it]) (fun c o hb q => eb c o (out2 hb).2 q) hf⟩
  self := fun A i s Q E st h => by
    obtain ⟨_, ⟨_, he⟩, _⟩ := st
    exact wpAny_pyIter_enum he h
end RJ
end

section
set_option maxRecDepth 100000
namespace PySem
abbrev enumNew (it : Addr) : Obj := { cls := .type "enumerate", data := .fields #[.none, .bool false, .ref it, rawInt 0, .none, .none] }
set_option maxHeartbeats 1000000 in
/-- enumerate(v): an iterator of v, and the enumerate behind it -/
theorem rj_enum_made {v : Value} {o : Obj} {H : Heap → Prop} (B : Begins v o H) : Meets (Builtin.«enumerate.__new__» ⟨[.type "enumerate", v], []⟩) (fun _ R s => H s.heap ∧ R (.ok (.ret (.ref (s.heap.push o).objs.size))) { s with heap := (s.heap.push o).push (enumNew s.heap.objs.size) }) :=
  .of_wp fun prog w A R s ⟨src, fin⟩ => by
    have sub := sub_enumerate
    have it : ∀ {A' : Around} {E Q : Value → Shared → Prop}, Q (.ref s.heap.objs.size) { s with heap := s.heap.push o } → wpAny (model prog w) A' (pyIter v) Q E s := fun q => B.iter prog w _ _ s _ src q
    wp_walk using it
    refine wpAny_stack_any fun _ => wpAny_pure ?_; split
    · rename_i c _ _ _ _ _
      cases (c == Value.type "enumerate") <;> (wp_walk using it; exact ⟨_, rfl, fin⟩)
    · wp_walk using it; exact ⟨_, rfl, fin⟩
theorem rj_enum_begins {prog : Program} {w : World} {A : Around} {E Q : Value → Shared → Prop} {s : Shared} {v : Value} {o : Obj} {H : Heap → Prop} (B : Begins v o H) (src : H s.heap)
    (fin : ∀ h', IsEnum h' (s.heap.objs.size + 1) s.heap.objs.size 0 .none → h'.get? s.heap.objs.size = some o → h'.objs.size = s.heap.objs.size + 2 → (∀ b u, s.heap.get? b = some u → h'.get? b = some u) → Q (.ref (s.heap.objs.size + 1)) { s with heap := h' }) :
    wpAny (model prog w) A (call (.type "enumerate") [v]) Q E s := by
  have one : (s.heap.push o).objs.size = s.heap.objs.size + 1 := Heap.size_push ..
  have at1 : IsEnum ((s.heap.push o).push (enumNew s.heap.objs.size)) (s.heap.push o).objs.size s.heap.objs.size 0 .none := Heap.get?_push_size _ rfl
  have at0 : ((s.heap.push o).push (enumNew s.heap.objs.size)).get? s.heap.objs.size = some o := Heap.get?_push_of_some _ (Heap.get?_push_size _ B.free)
  have all := callType_new (prog := prog) (w := w) (A := A) (E := E) (Q := Q) F.called_enumerate (by decide) (F.typeCall_enumerate_1 v) (F.newCall_enumerate_1 v) (fun obj => F.args_object_init_2 obj _) F.entry_enumerate_new (rj_enum_made B) (s := s)
  refine all ⟨src, ?_⟩; show _ ∧ _
  rw [one] at at1 ⊢
  exact ⟨⟨_, at1, rfl⟩, fin _ at1 at0 (by rw [Heap.size_push, one]) fun b u e => Heap.get?_push_of_some _ (Heap.get?_push_of_some _ e)⟩
end PySem
namespace RJ
open PySem PySem.Spec PyProof.Rows L2
/-- iter of v begins something that draws -/
structure BegK (X : Cx) (n : Nat) (G : Hp → Prop) (PV : Nat → V → Prop) (H : Hp) (s : Shared) (v : Value) : Prop where
  ex : ∃ (o : Obj) (HH : Heap → Prop), Begins v o HH ∧ HH s.heap ∧ G H ∧ ∀ it, ∃ tnI : Nat → Heap → Prop, DrawK X.prog X.w X.K it n tnI G PV ∧ ∀ h : Heap, h.get? it = some o → tnI 0 h
theorem begK_str {X : Cx} {H : Hp} {s : Shared} (x : Str) (t : Tok) : BegK X x.cps.size (fun _ => True) (fun i v => ∃ c, x.cps[i]? = some c ∧ v = .str ⟨#[c]⟩) H s (.str x t) :=
  ⟨_, _, begins_text x t, trivial, trivial, fun it => ⟨_, drawK_str it x t, fun h e => ⟨_, e, rfl, rfl⟩⟩⟩
theorem begK_tup {X : Cx} {pins : List (Addr × Obj)} {σ : L2.St} {H : Hp} {s : Shared} {a : Addr} {xs : List V} (I : Inv X pins σ H s) (ha : H a = some (.tup xs)) : BegK X xs.length (fun H => H a = some (.tup xs)) (fun i v => xs[i]? = some v) H s (.ref a) := by
  obtain ⟨its, rv, p, _⟩ := I.tuple (SqT.of ha)
  exact ⟨_, _, begins_tuple a its.toArray, p, ha, fun it => ⟨_, drawK_tup it a xs, fun h e => ⟨_, e, rfl, rfl⟩⟩⟩
theorem begK_list {X : Cx} {pins : List (Addr × Obj)} {σ : L2.St} {H : Hp} {s : Shared} {a : Addr} {xs : List V} (I : Inv X pins σ H s) (ha : H a = some (.lst xs)) : BegK X xs.length (fun H => H a = some (.lst xs)) (fun i v => xs[i]? = some v) H s (.ref a) := by
  obtain ⟨its, rv, p, _⟩ := I.list (SqL.of ha)
  exact ⟨_, _, begins_list a its.toArray, p.isList, ha, fun it => ⟨_, drawK_list it a xs, fun h e => ⟨_, e, rfl, rfl⟩⟩⟩
/-- what an iterable value draws -/
def SrcV (H : Hp) (v : V) (n : Nat) (G : Hp → Prop) (PV : Nat → V → Prop) : Prop :=
  (∃ x : Str, v = .str x ∧ n = x.cps.size ∧ G = (fun _ => True) ∧ PV = fun i v => ∃ c, x.cps[i]? = some c ∧ v = .str ⟨#[c]⟩) ∨
  (∃ (a : Addr) (xs : List V), v = .ref a ∧ H a = some (.tup xs) ∧ n = xs.length ∧ G = (fun H => H a = some (.tup xs)) ∧ PV = fun i v => xs[i]? = some v) ∨
  (∃ (a : Addr) (xs : List V), v = .ref a ∧ H a = some (.lst xs) ∧ n = xs.length ∧ G = (fun H => H a = some (.lst xs)) ∧ PV = fun i v => xs[i]? = some v)
theorem SrcV.beg {X : Cx} {pins : List (Addr × Obj)} {σ : L2.St} {H : Hp} {s : Shared} {v : V} {u : Value} {n : Nat} {G : Hp → Prop} {PV : Nat → V → Prop} (I : Inv X pins σ H s) (r : RelV v u) (h : SrcV H v n G PV) : BegK X n G PV H s u := by
  rcases h with ⟨x, rfl, rfl, rfl, rfl⟩ | ⟨a, xs, rfl, ha, rfl, rfl, rfl⟩ | ⟨a, xs, rfl, ha, rfl, rfl, rfl⟩
  · obtain ⟨t, rfl⟩ := r
    exact begK_str x t
  · cases r
    exact begK_tup I ha
  · cases r
    exact begK_list I ha
/-- enumerate(v), v a text, a tuple or a list -/
def iEnumG (ta : TA) : TI := fun σ H R => ta σ H fun vs H1 => ∃ v n G PV, vs = [v] ∧ SrcV H1 v n G PV ∧ R (ItG n G fun i xs => ∃ v, PV i v ∧ xs = [.int (i : Nat), v]) H1
theorem pi_enumG {X : Cx} {e : Expr} {ta : TA} {p pos tpos : Pos} {elts : List Expr} {kk : Nat} (hg : Gl X "enumerate") (hm : X.mg "enumerate" = none) (ha : PA X [e] ta) (hs : starEach [e] X.env = [(false, eval e X.env)] := by rfl) :
    PI X (.Tuple elts kk tpos) (.Call (.Name "enumerate" p) [e] [] pos) (iEnumG ta) := by
  refine ⟨fun pins s σ H R I h => ?_⟩
  refine Call_ (ld_blt I hg hm boot_enumerate (PyProof.Rows.callWith_type1 (thn (ha.run pos pins s σ H _ I h) fun us s1 ⟨vs, H1, I1, r1, q1⟩ => ?_) hs rfl))
  obtain ⟨v, n, G, PV, ex, hsrc, q⟩ := q1
  subst ex
  cases r1 with
  | cons r rr =>
    cases rr
    obtain ⟨o, HH, B, h1, hG, hd⟩ := (hsrc.beg I1 r).ex
    refine rj_enum_begins B h1 fun h' he hit hsz hk => wpAny_pyIter_enum he ?_
    have I2 : Inv X pins σ H1 { s1 with heap := h' } := I1.kept (t' := s1.toks) hk
    obtain ⟨tnI, D, hst⟩ := hd s1.heap.objs.size
    have ge2 : ∀ c ∈ [s1.heap.objs.size + 1, s1.heap.objs.size], s1.heap.objs.size ≤ c := two (p := fun c => s1.heap.objs.size ≤ c) (Nat.le_succ _) (Nat.le_refl _)
    exact ⟨s1.heap.objs.size + 1, [s1.heap.objs.size + 1, s1.heap.objs.size], _, _, H1, rfl, I2, turn_enumG D, ⟨Nat.zero_le _, ⟨.none, he⟩, hst _ hit, Nat.succ_ne_self _⟩, fun c hc => I1.fpOk (ge2 c hc) (I1.hok.fresh (ge2 c hc)), q⟩
/-- the walks of ItG as the loops of HandS take them -/
theorem walk_ItG {n : Nat} {G : Hp → Prop} {PX : Nat → List V → Prop} {g : TG} {tb : TS} {D : Ends} {σ : L2.St} {H : Hp} (Pv : Nat → L2.St → Hp → Prop) (h0 : Pv 0 σ H) (hG : ∀ i σ H, i ≤ n → Pv i σ H → G H)
    (hs : ∀ i xs T σ H, i < n → Pv i σ H → PX i xs → H T = none → g (.ref T) σ (upd H T (.tup xs)) fun σ2 H2 => tb { D with nx := Pv (i + 1), ct := Pv (i + 1), bk := D.nx } σ2 H2) (hd : ∀ σ H, Pv n σ H → D.nx σ H) :
    ∃ W : Nat → Nat → L2.St → Hp → Prop, (∃ m, W 0 m σ H) ∧ ∀ i m σ H, W i m σ H → ((ItG n G PX).stop i H ∧ D.nx σ H) ∨ ((ItG n G PX).go i H ∧ ∃ N : L2.St → Hp → Prop, (∀ σ' H', N σ' H' → ∃ m', m' < m ∧ W (i + 1) m' σ' H') ∧
      ∀ x H', (ItG n G PX).yld i H x H' → g x σ H' fun σ2 H2 => tb { D with nx := N, ct := N, bk := D.nx } σ2 H2) := by
  refine ⟨fun i m σ H => m = n - i ∧ i ≤ n ∧ Pv i σ H, ⟨n, rfl, Nat.zero_le _, h0⟩, ?_⟩
  rintro i m σ H ⟨rfl, hi, p⟩
  by_cases hlt : i < n
  · refine .inr ⟨⟨hG i σ H hi p, hlt⟩, Pv (i + 1), fun σ' H' p' => ⟨n - (i + 1), by omega, rfl, hlt, p'⟩, fun v H' y => ?_⟩
    obtain ⟨T, xs, rfl, hT, rfl, hx⟩ := y
    exact hs i xs T σ H hlt p hx hT
  · have e : i = n := by omega
    subst e
    exact .inl ⟨⟨hG _ σ H hi p, Nat.le_refl _⟩, hd σ H p⟩
end RJ
end

section
set_option maxRecDepth 100000
namespace RJ
open PySem PySem.Spec PyProof.Rows L2
theorem five {z TI TO i1 i2 : Addr} {p : Addr → Prop} (h1 : p z) (h2 : p TI) (h3 : p TO) (h4 : p i1) (h5 : p i2) : ∀ c ∈ [z, TI, TO, i1, i2], p c := fun c hc => by
  simp only [List.mem_cons, List.not_mem_nil, or_false] at hc
  rcases hc with e | e | e | e | e <;> rw [e] <;> assumption
theorem zip_cells {N : Nat} : ∀ c ∈ [N + 4, N + 2, N + 3, N, N + 1], N ≤ c := five (p := fun c => N ≤ c) (Nat.le_add_right N 4) (Nat.le_add_right N 2) (Nat.le_add_right N 3) (Nat.le_refl N) (Nat.le_add_right N 1)
/-- five cells apart -/
structure Ap5 (z TI TO i1 i2 : Addr) : Prop where
  TIz : TI ≠ z
  TOz : TO ≠ z
  TITO : TI ≠ TO
  TIi1 : TI ≠ i1
  TIi2 : TI ≠ i2
  TOi1 : TO ≠ i1
  TOi2 : TO ≠ i2
  zi1 : z ≠ i1
  zi2 : z ≠ i2
  i12 : i1 ≠ i2
theorem ap5 (N : Nat) : Ap5 (N + 4) (N + 2) (N + 3) N (N + 1) :=
  ⟨show (N + 2 : Nat) ≠ N + 4 by omega, show (N + 3 : Nat) ≠ N + 4 by omega, show (N + 2 : Nat) ≠ N + 3 by omega, show (N + 2 : Nat) ≠ N by omega, show (N + 2 : Nat) ≠ N + 1 by omega,
    show (N + 3 : Nat) ≠ N by omega, show (N + 3 : Nat) ≠ N + 1 by omega, show (N + 4 : Nat) ≠ N by omega, show (N + 4 : Nat) ≠ N + 1 by omega, show (N : Nat) ≠ N + 1 by omega⟩
theorem Ap5.sep {z TI TO i1 i2 : Addr} (D : Ap5 z TI TO i1 i2) {H : Hp} {fp1 fp2 : List Addr} (m1 : i1 ∈ fp1) (m2 : i2 ∈ fp2) (f1 : ∀ b ∈ fp1, b = i1 ∨ ∃ o, H b = some o) (f2 : ∀ b ∈ fp2, b = i2 ∨ ∃ o, H b = some o)
    (hz : H z = none) (hTO : H TO = none) (h1 : H i1 = none) (h2 : H i2 = none) : ZipSep2 z TI TO i1 i2 fp1 fp2 where
  TIz := D.TIz
  TOz := D.TOz
  TITO := D.TITO
  TIi1 := D.TIi1
  mem1 := m1
  zf1 := fun q => by
    rcases f1 _ q with e | ⟨o, e⟩
    · exact D.zi1 e
    · rw [hz] at e; cases e
  Tf1 := fun q => by
    rcases f1 _ q with e | ⟨o, e⟩
    · exact D.TOi1 e
    · rw [hTO] at e; cases e
  TIi2 := D.TIi2
  mem2 := m2
  zf2 := fun q => by
    rcases f2 _ q with e | ⟨o, e⟩
    · exact D.zi2 e
    · rw [hz] at e; cases e
  Tf2 := fun q => by
    rcases f2 _ q with e | ⟨o, e⟩
    · exact D.TOi2 e
    · rw [hTO] at e; cases e
  sep1_2 := fun q => by
    rcases f2 _ q with e | ⟨o, e⟩
    · exact D.i12 e
    · rw [h1] at e; cases e
  sep2_1 := fun q => by
    rcases f1 _ q with e | ⟨o, e⟩
    · exact D.i12 e.symm
    · rw [h2] at e; cases e
theorem out5 {z TI TO i1 i2 c : Addr} (h : c ∉ [z, TI, TO, i1, i2]) : c ≠ z ∧ c ≠ TI ∧ c ≠ TO ∧ c ≠ i1 ∧ c ≠ i2 := by
  simp only [List.mem_cons, List.not_mem_nil, or_false, not_or] at h; exact h
/-- a zip whose tuples are taken apart at once -/
def ZipTt (z TI TO i1 i2 : Addr) (n : Nat) (tn1 tn2 : Nat → Heap → Prop) (i : Nat) (h : Heap) : Prop := i ≤ n ∧ IsZip h z TI TO .none ∧ IsTupOf2 h TI (.ref i1) (.ref i2) ∧ (∃ x y, IsTupOf2 h TO x y) ∧ tn1 i h ∧ tn2 i h
section
variable {P : Program} {w : World} {K : PySem.W.Frag} {elts : List Expr} {kk : Nat} {tpos : Pos} {z TI TO i1 i2 : Addr} {n1 n2 : Nat} {tn1 tn2 : Nat → Heap → Prop} {G1 G2 : Hp → Prop} {PV1 PV2 : Nat → V → Prop}
theorem turn_zipG (A5 : Ap5 z TI TO i1 i2) (D1 : DrawK P w K i1 n1 tn1 G1 PV1) (D2 : DrawK P w K i2 n2 tn2 G2 PV2) :
    Turn P w K (.Tuple elts kk tpos) (ItG (min n1 n2) (fun H => G1 H ∧ G2 H) fun i xs => ∃ v1 v2, PV1 i v1 ∧ PV2 i v2 ∧ xs = [v1, v2]) [z, TI, TO, i1, i2] z (ZipTt z TI TO i1 i2 (min n1 n2) tn1 tn2) where
  mem := List.mem_cons_self ..
  obj := fun i h ⟨_, a, b, ⟨_, _, c⟩, d, e⟩ => five (p := fun c => ∃ o, h.get? c = some o ∧ _) ⟨_, a, fun _ q => nomatch q⟩ ⟨_, b, fun _ q => nomatch q⟩ ⟨_, c, fun _ q => nomatch q⟩ (D1.obj i h d) (D2.obj i h e)
  keep := fun i h h' ⟨l, a, b, ⟨_, _, c⟩, d, e⟩ k => ⟨l, k _ (by simp) _ a, k _ (by simp) _ b, ⟨_, _, k _ (by simp) _ c⟩, D1.keep _ _ _ d fun o => k i1 (by simp) o, D2.keep _ _ _ e fun o => k i2 (by simp) o⟩
  item := by
    rintro X hP hw hK hc i pins s σ H E I hf ⟨hl, hz, hTI, ⟨x0, y0, hTO⟩, h1, h2⟩ ⟨⟨hG1, hG2⟩, hlt⟩
    have none4 : H z = none ∧ H TO = none ∧ H i1 = none ∧ H i2 = none := ⟨(hf _ (by simp)).1, (hf _ (by simp)).1, (hf _ (by simp)).1, (hf _ (by simp)).1⟩
    obtain ⟨fp1, PD1, St1, DD1, c1, m1, q1, back1, val1⟩ := D1.draws X hP hw hK hc i pins s σ H I hG1 none4.2.2.1 h1
    obtain ⟨fp2, PD2, St2, DD2, c2, m2, q2, back2, val2⟩ := D2.draws X hP hw hK hc i pins s σ H I hG2 none4.2.2.2 h2
    subst hP hw hK
    have lt5 : ∀ c ∈ [z, TI, TO, i1, i2], c < s.heap.objs.size := by
      obtain ⟨_, e1⟩ := DD1.live _ _ c1
      obtain ⟨_, e2⟩ := DD2.live _ _ c2
      exact five (Heap.lt_size hz) (Heap.lt_size hTI) (Heap.lt_size hTO) (Heap.lt_size e1) (Heap.lt_size e2)
    refine wpAny_pyNext_zipD2_item (A5.sep m1 m2 q1 q2 none4.1 none4.2.1 none4.2.2.1 none4.2.2.2) DD1 DD2 hz hTI hTO c1 c2 (by omega) (by omega) fun u u2 h' tk p1 p2 z' TO' j1 j2 hT _ hk => ⟨_, rfl, ?_⟩
    obtain ⟨v, hv, rv⟩ := val1 i u p1
    obtain ⟨v2, hv2, rv2⟩ := val2 i u2 p2
    refine wpAny_letOwnedTupleGo_zip (s := { s with heap := h', toks := tk }) z' fun g zg sg => ?_
    have on : ∀ {c : Addr} {o : Obj}, c ≠ z → h'.get? c = some o → g.get? c = some o := fun n e => (sg.2 _ n).trans e
    have made : ObjOk X.prog X.w (upd H s.heap.objs.size (.tup [v, v2])) g s.heap.objs.size (.tup [v, v2]) := ⟨by show 2 ≤ sizeLine; decide, [u, u2], .cons rv (.cons rv2 .nil), ⟨_, on (Nat.ne_of_gt (lt5 z (by simp))) hT, rfl, _, rfl⟩⟩
    have J : Inv X pins σ (upd H s.heap.objs.size (.tup [v, v2])) { s with heap := g, toks := tk } := I.turnedNew (ch := [z, TI, TO, i1, i2]) (fun c o hb q => by
      obtain ⟨a, _, b, d, e⟩ := out5 hb
      exact on a (hk c o a b d e q)) hf (Nat.le_refl _) made
    exact ⟨.ref s.heap.objs.size, _, J, rfl, ⟨_, _, rfl, I.hok.fresh (Nat.le_refl _), rfl, v, v2, hv, hv2, rfl⟩, ⟨hlt, zg, on A5.TIz (hk _ _ A5.TIz A5.TITO A5.TIi1 A5.TIi2 hTI), ⟨u, u2, on A5.TOz TO'⟩, D1.keep _ _ _ (back1 _ _ j1) fun _ => on A5.zi1.symm, D2.keep _ _ _ (back2 _ _ j2) fun _ => on A5.zi2.symm⟩,
      fun c hcm => (upd_ne (Nat.ne_of_lt (lt5 c hcm))).trans (hf c hcm).1⟩
  done := by
    rintro X hP hw hK hc i pins s σ H E I hf ⟨hl, hz, hTI, ⟨x0, y0, hTO⟩, h1, h2⟩ ⟨⟨hG1, hG2⟩, hge⟩
    have none4 : H z = none ∧ H TO = none ∧ H i1 = none ∧ H i2 = none := ⟨(hf _ (by simp)).1, (hf _ (by simp)).1, (hf _ (by simp)).1, (hf _ (by simp)).1⟩
    obtain ⟨fp1, PD1, St1, DD1, c1, m1, q1, back1, val1⟩ := D1.draws X hP hw hK hc i pins s σ H I hG1 none4.2.2.1 h1
    obtain ⟨fp2, PD2, St2, DD2, c2, m2, q2, back2, val2⟩ := D2.draws X hP hw hK hc i pins s σ H I hG2 none4.2.2.2 h2
    subst hP hw hK
    exact wpAny_pyNext_zipD2_end (A5.sep m1 m2 q1 q2 none4.1 none4.2.1 none4.2.2.1 none4.2.2.2) DD1 DD2 hz hTI hTO c1 c2 (by omega) (by omega) (by omega) fun h' tk hk => ⟨rfl, I.turnedL (t' := tk) (ch := [z, TI, TO, i1, i2]) (fun c o hb q => by
      obtain ⟨a, _, b, d, e⟩ := out5 hb
      exact hk c o a b d e q) hf⟩
  self := fun A i s Q E st h => wpAny_pyIter_zip st.2.1 h
end
def iZipG (ta : TA) : TI := fun σ H R => ta σ H fun vs H1 => ∃ v1 v2 n1 n2 G1 G2 PV1 PV2, vs = [v1, v2] ∧ SrcV H1 v1 n1 G1 PV1 ∧ SrcV H1 v2 n2 G2 PV2 ∧ R (ItG (min n1 n2) (fun H => G1 H ∧ G2 H) fun i xs => ∃ v1 v2, PV1 i v1 ∧ PV2 i v2 ∧ xs = [v1, v2]) H1
theorem pi_zipGen {X : Cx} {tg e e2 : Expr} {ta : TA} {p pos : Pos} (hg : Gl X "zip") (hm : X.mg "zip" = none) (ha : PA X [e, e2] ta)
    (ht : ∀ {z TI TO i1 i2 : Addr} {n1 n2 : Nat} {tn1 tn2 : Nat → Heap → Prop} {G1 G2 : Hp → Prop} {PV1 PV2 : Nat → V → Prop} (A5 : Ap5 z TI TO i1 i2) (D1 : DrawK X.prog X.w X.K i1 n1 tn1 G1 PV1) (D2 : DrawK X.prog X.w X.K i2 n2 tn2 G2 PV2),
      ∃ tn : Nat → Heap → Prop, Turn X.prog X.w X.K tg (ItG (min n1 n2) (fun H => G1 H ∧ G2 H) fun i xs => ∃ v1 v2, PV1 i v1 ∧ PV2 i v2 ∧ xs = [v1, v2]) [z, TI, TO, i1, i2] z tn ∧
        ∀ h, IsZip h z TI TO .none → IsTupOf2 h TI (.ref i1) (.ref i2) → IsTupOf2 h TO .none .none → tn1 0 h → tn2 0 h → tn 0 h)
    (hs : starEach [e, e2] X.env = (false, eval e X.env) :: starEach [e2] X.env := by rfl) (hpl : (backTo pos (starEach [e2] X.env)).any (·.1) = false := by rfl) :
    PI X tg (.Call (.Name "zip" p) [e, e2] [] pos) (iZipG ta) := by
  refine ⟨fun pins s σ H R I h => ?_⟩
  refine Call_ (ld_blt I hg hm PyProof.Rows.boot_zip (PyProof.Rows.callWith_type1 (thn (ha.run pos pins s σ H _ I h) fun us s1 ⟨vs, H1, I1, r1, q1⟩ => ?_) hs hpl))
  obtain ⟨v1, v2, n1, n2, G1, G2, PV1, PV2, ex, hs1, hs2, q⟩ := q1
  subst ex
  cases r1 with
  | cons r rr =>
    cases rr with
    | cons r' rr =>
      cases rr
      obtain ⟨o1, HH1, B1, b1, hG1, hd1⟩ := (hs1.beg I1 r).ex
      obtain ⟨o2, HH2, B2, b2, hG2, hd2⟩ := (hs2.beg I1 r').ex
      refine zip_begins2 B1 B2 b1 b2 fun h' hz hTI hTO g1 g2 hsz hk => wpAny_pyIter_zip hz ?_
      have I2 : Inv X pins σ H1 { s1 with heap := h' } := I1.kept (t' := s1.toks) hk
      obtain ⟨tn1, D1, st1⟩ := hd1 s1.heap.objs.size
      obtain ⟨tn2, D2, st2⟩ := hd2 (s1.heap.objs.size + 1)
      obtain ⟨tn, T, h0⟩ := ht (ap5 s1.heap.objs.size) D1 D2
      exact ⟨s1.heap.objs.size + 4, [s1.heap.objs.size + 4, s1.heap.objs.size + 2, s1.heap.objs.size + 3, s1.heap.objs.size, s1.heap.objs.size + 1], tn, _, H1, rfl, I2, T, h0 _ hz hTI hTO (st1 _ g1) (st2 _ g2),
        fun c hcm => I1.fpOk (zip_cells c hcm) (I1.hok.fresh (zip_cells c hcm)), q⟩
/-- for a, b in zip(v1, v2): texts, tuples, lists -/
theorem pi_zipT2 {X : Cx} {e e2 : Expr} {ta : TA} {p pos tpos : Pos} {elts : List Expr} {kk : Nat} (hg : Gl X "zip") (hm : X.mg "zip" = none) (ha : PA X [e, e2] ta)
    (hs : starEach [e, e2] X.env = (false, eval e X.env) :: starEach [e2] X.env := by rfl) (hpl : (backTo pos (starEach [e2] X.env)).any (·.1) = false := by rfl) :
    PI X (.Tuple elts kk tpos) (.Call (.Name "zip" p) [e, e2] [] pos) (iZipG ta) :=
  pi_zipGen hg hm ha (fun A5 D1 D2 => ⟨_, turn_zipG A5 D1 D2, fun h hz hTI hTO h1 h2 => ⟨Nat.zero_le _, hz, hTI, ⟨_, _, hTO⟩, h1, h2⟩⟩) hs hpl
end RJ
end

section
set_option maxRecDepth 100000
namespace PySem
/-- nothing but these four cells has changed -/
def Beside (z TO i1 i2 : Addr) (h h' : Heap) : Prop := ∀ c o, c ≠ z → c ≠ TO → c ≠ i1 → c ≠ i2 → h.get? c = some o → h'.get? c = some o
/-- a zip, whatever tuple it holds to be out -/
abbrev RjZ (h : Heap) (z TI TO : Addr) (f0 : Value) (f1 : Bool) : Prop := h.get? z = some { cls := .type "zip", dict := none, data := .fields #[f0, .bool f1, .bool false, .ref TI, .ref TO], slots := #[] }
/-- .. between two turns -/
def ZipIdle (h : Heap) (z TI TO : Addr) : Prop := ∃ f0 f1, RjZ h z TI TO f0 f1 ∧ (f0 = .none ∨ ∃ T : Addr, f0 = rawInt T)
/-- the tuple it keeps -/
def KeepsPair (h : Heap) (TO : Addr) : Prop := ∃ x y, IsTupOf2 h TO x y
section
variable {prog : Program} {w : World} {A : Around} {E : Value → Shared → Prop} {s : Shared} {z TI TO i1 i2 : Addr} {fp1 fp2 : List Addr} {n1 n2 i : Nat} {P1 P2 : Nat → Value → Prop} {St1 St2 : Nat → Heap → Prop}
theorem rj_alive {a : Addr} {Q : Option Obj → Shared → Prop} (h : Q (s.heap.get? a) s) : wpAny (model prog w) A (loadIfAlive a) Q E s := fun _ _ _ => h
/-- is the tuple that went out free? both answers -/
theorem rj_isFree {f0 : Value} {f1 : Bool} {Q : Bool → Shared → Prop} (hz : RjZ s.heap z TI TO f0 f1) (hf : f0 = .none ∨ ∃ T : Addr, f0 = rawInt T) (yes : Q true s)
    (no : ∀ h', RjZ h' z TI TO f0 true → Heap.SameBut z s.heap h' → Q false { s with heap := h' }) : wpAny (model prog w) A (Builtin.SmallTypes.ownedTupleIsFree (.ref z)) Q E s := by
  have last : wpAny (model prog w) A (field (.ref z) 1) (fun v s' => v = .bool f1 ∧ s' = s) E s := wpAny_field hz rfl (x := .bool f1) rfl ⟨rfl, rfl⟩
  unfold Builtin.SmallTypes.ownedTupleIsFree; refine wpAny_bind (wpAny_field hz rfl (x := f0) rfl ?_)
  rcases hf with e | ⟨T, e⟩ <;> subst e
  · exact wpAny_pure yes
  show wpAny _ _ (loadIfAlive ((T : Int).toNat) >>= _) _ _ _
  refine wpAny_bind (rj_alive ?_)
  cases s.heap.get? ((T : Int).toNat)
  · simp only [Option.isNone_none, if_true]; exact wpAny_pure yes
  simp only [Option.isNone_some, Bool.false_eq_true, if_false]
  refine wpAny_bind (wpAny_mono last ?_ fun _ _ e => e); rintro _ _ ⟨rfl, rfl⟩
  cases f1
  · rw [if_pos (by rfl)]; exact wpAny_bind (wpAny_setField_rec hz (by simp) fun k hk sk => wpAny_pure (no k hk sk))
  · rw [if_neg (by decide)]; exact wpAny_pure (no _ hz (Heap.SameBut.refl _ _))
/-- one call of next: an item of each, or the end of one -/
theorem rj_next {Q : Value → Shared → Prop} (S : ZipSep2 z TI TO i1 i2 fp1 fp2) (D1 : Draws prog w A i1 fp1 n1 P1 St1) (D2 : Draws prog w A i2 fp2 n2 P2 St2) (hz : ZipIdle s.heap z TI TO)
    (hTI : IsTupOf2 s.heap TI (.ref i1) (.ref i2)) (hTO : KeepsPair s.heap TO) (st1 : St1 i s.heap) (st2 : St2 i s.heap) (le1 : i ≤ n1) (le2 : i ≤ n2)
    (got : ∀ x y h' tk, i < n1 → i < n2 → P1 i x → P2 i y → ZipIdle h' z TI TO → KeepsPair h' TO → St1 (i + 1) h' → St2 (i + 1) h' → IsTupOf2 h' s.heap.objs.size x y → Beside z TO i1 i2 s.heap h' → Q (.ref s.heap.objs.size) { s with heap := h', toks := tk })
    (out : ∀ h' tk e, i = n1 ∨ i = n2 → Beside z TO i1 i2 s.heap h' → (∃ o, h'.get? e = some o ∧ o.cls = .type "StopIteration") → E (.ref e) { s with heap := h', toks := tk }) :
    wpAny (model prog w) A (Builtin.«zip.__next__» ⟨[.ref z], []⟩) (fun fin s' => ∃ v, fin = .done (.ret v) ∧ Q v s') E s := by
  obtain ⟨f0, f1, zz, hf⟩ := hz
  obtain ⟨p, q, hTO⟩ := hTO
  obtain ⟨hp, g, d, k0, os⟩ := s
  have zl : z < hp.objs.size := Heap.lt_size zz
  show wpAny _ _ (field (.ref z) 2 >>= _) _ _ _; refine wpAny_bind (wpAny_field zz rfl (x := .bool false) rfl ?_)
  show wpAny _ _ (field (.ref z) 3 >>= _) _ _ _; refine wpAny_bind (wpAny_field zz rfl (x := .ref TI) rfl (wpAny_bind (wpAny_seqItems hTI rfl ?_)))
  show wpAny _ _ (Builtin.SmallTypes.ownedTupleIsFree (.ref z) >>= _) _ _ _; refine wpAny_bind (rj_isFree zz hf ?_ fun a za sa => ?_)
  · -- the kept tuple is filled anew
    simp only [if_true]; refine wpAny_bind (wpAny_rule (wpAny_bind (wpAny_field zz rfl (x := .ref TO) rfl (wpAny_bind (wpAny_setField_rec zz (by simp) fun a za sa => ?_)))))
    replace za : RjZ a z TI TO .ellipsis f1 := za
    replace sa : Heap.SameBut z hp a := sa
    have stop : ∀ (tk : Nat) (h h' : Heap) (e : Addr) (o : Obj), (i = n1 ∨ i = n2) → RjZ h z TI TO .ellipsis f1 → Beside z TO i1 i2 hp h → h.get? e = some o → o.cls = .type "StopIteration" → Heap.SameBut z h h' → E (.ref e) ⟨h', g, d, tk, os⟩ := fun tk h h' e o c zh b he ho sh =>
      out h' tk e c (fun c o cz cT c1 c2 x => sh.extBut _ _ cz (b c o cz cT c1 c2 x)) ⟨o, sh.extBut _ _ (fun x => by subst x; rw [zh] at he; cases he; simp at ho) he, ho⟩
    refine wpAny_bind ?_; simp only [List.zipIdx_cons, List.zipIdx_nil, List.forIn_cons, List.forIn_nil]; refine wpAny_bind (wpAny_bind (wpAny_onRaise ?_))
    show wpAny _ _ (Builtin.SmallTypes.nextOf (.ref i1) >>= _) _ _ ⟨a, g, d, k0, os⟩
    have ta := D1.over st1 sa S.zf1
    by_cases l1 : i < n1
    · refine wpAny_bind (D1.item i _ _ _ l1 ta fun x b k1 hx tb sb => wpAny_pure ?_)
      replace sb : Heap.SameBut i1 a b := sb
      have ub : IsTupOf2 b TO p q := sb.extBut _ _ S.Ti1 (sa.extBut _ _ S.TOz hTO)
      refine wpAny_bind (wpAny_seqItems (s := ⟨b, g, d, k1, os⟩) ub rfl (wpAny_bind (updateSeq_IsTupOf2 (s := ⟨b, g, d, k1, os⟩) ub fun c uc sc => wpAny_bind (wpAny_letGo (wpAny_pure ?_)))))
      replace uc : IsTupOf2 c TO x q := uc
      replace sc : Heap.SameBut TO b c := sc
      have zc : RjZ c z TI TO .ellipsis f1 := sc.extBut _ _ S.TOz.symm (sb.extBut _ _ S.zi1 za)
      have bc : Beside z TO i1 i2 hp c := fun c o cz cT c1 c2 e => sc.extBut _ _ cT (sb.extBut _ _ c1 (sa.extBut _ _ cz e))
      have tc := D2.over (D2.over (D2.over st2 sa S.zf2) sb S.sep1_2) sc S.Tf2
      refine wpAny_bind (wpAny_bind (wpAny_onRaise ?_)); show wpAny _ _ (Builtin.SmallTypes.nextOf (.ref i2) >>= _) _ _ ⟨c, g, d, k1, os⟩
      by_cases l2 : i < n2
      · refine wpAny_bind (D2.item i _ _ _ l2 tc fun y e k2 hy te se => wpAny_pure ?_)
        replace se : Heap.SameBut i2 c e := se
        have ue : IsTupOf2 e TO x q := se.extBut _ _ S.Ti2 uc
        refine wpAny_bind (wpAny_seqItems (s := ⟨e, g, d, k2, os⟩) ue rfl (wpAny_bind (updateSeq_IsTupOf2 (s := ⟨e, g, d, k2, os⟩) ue fun r ur sr => wpAny_bind (wpAny_letGo (wpAny_pure (wpAny_pure ?_))))))
        replace ur : IsTupOf2 r TO x y := ur
        replace sr : Heap.SameBut TO e r := sr
        have zr : RjZ r z TI TO .ellipsis f1 := sr.extBut _ _ S.TOz.symm (se.extBut _ _ S.zi2 zc)
        have size : r.objs.size = hp.objs.size := by rw [sr.1, se.1, sc.1, sb.1, sa.1]
        have j1 : St1 (i + 1) r := D1.over (D1.over (D1.over tb sc S.Tf1) se S.sep2_1) sr S.Tf1
        have j2 : St2 (i + 1) r := D2.over te sr S.Tf2
        refine wpAny_bind (wpAny_seqItems (s := ⟨r, g, d, k2, os⟩) ur rfl (wpAny_bind (wpAny_newTuple ?_)))
        show wpAny _ _ (Builtin.SmallTypes.ownedTupleHandOut (.ref z) (.ref r.objs.size) >>= _) _ _ ⟨r.push { cls := .type "tuple", data := .seq #[x, y] }, g, d, k2, os⟩
        generalize hv : r.push { cls := .type "tuple", data := .seq #[x, y] } = v
        have up : ∀ c o, r.get? c = some o → v.get? c = some o := fun c o e => hv ▸ Heap.get?_push_of_some _ e
        have tv : IsTupOf2 v r.objs.size x y := hv ▸ Heap.get?_push_size _ rfl
        unfold Builtin.SmallTypes.ownedTupleHandOut; refine wpAny_bind ?_
        refine wpAny_bind (wpAny_setField_rec (s := ⟨v, g, d, k2, os⟩) (up _ _ zr) (by simp) fun m zm sm => wpAny_setField_rec (s := ⟨m, g, d, k2, os⟩) zm (by simp) fun t zt stt => ?_)
        replace zt : RjZ t z TI TO (rawInt r.objs.size) false := zt
        replace sm : Heap.SameBut z v m := sm
        replace stt : Heap.SameBut z m t := stt
        have on : ∀ c o, c ≠ z → r.get? c = some o → t.get? c = some o := fun c o n e => stt.extBut _ _ n (sm.extBut _ _ n (up _ _ e))
        refine wpAny_pure ⟨_, rfl, ?_⟩
        show Q (.ref r.objs.size) ⟨t, g, d, k2, os⟩; rw [size]
        refine got x y t k2 l1 l2 hx hy ⟨_, _, zt, .inr ⟨_, rfl⟩⟩ ⟨_, _, on _ _ S.TOz ur⟩ (D1.frame _ _ _ j1 fun b hb o e => on b o (fun q => S.zf1 (q ▸ hb)) e) (D2.frame _ _ _ j2 fun b hb o e => on b o (fun q => S.zf2 (q ▸ hb)) e) ?_
          fun c o cz cT c1 c2 e => on c o cz (sr.extBut _ _ cT (se.extBut _ _ c2 (bc c o cz cT c1 c2 e)))
        have away : r.objs.size ≠ z := by rw [size]; exact Nat.ne_of_gt zl
        have := stt.extBut _ _ away (sm.extBut _ _ away tv); rwa [size] at this
      · have c2 : i = n2 := by omega
        refine wpAny_bind (D2.done ⟨c, g, d, k1, os⟩ _ _ (c2 ▸ tc) fun e x he hx => ?_); obtain ⟨o, ho, oc⟩ := hx
        have ze : RjZ e z TI TO .ellipsis f1 := he _ _ S.zi2 zc
        exact wpAny_setField_rec (s := ⟨e, g, d, k1, os⟩) ze (by simp) fun e' _ se => stop k1 e e' x o (.inr c2) ze (fun c o cz cT c1 c2 y => he _ _ c2 (bc c o cz cT c1 c2 y)) ho oc se
    · have c1 : i = n1 := by omega
      refine wpAny_bind (D1.done ⟨a, g, d, k0, os⟩ _ _ (c1 ▸ ta) fun e x he hx => ?_); obtain ⟨o, ho, oc⟩ := hx
      have ze : RjZ e z TI TO .ellipsis f1 := he _ _ S.zi1 za
      exact wpAny_setField_rec (s := ⟨e, g, d, k0, os⟩) ze (by simp) fun e' _ se => stop k0 e e' x o (.inl c1) ze (fun c o cz cT c1 c2 y => he _ _ c1 (sa.extBut _ _ cz y)) ho oc se
  · -- a tuple of its own
    replace za : RjZ a z TI TO f0 true := za
    replace sa : Heap.SameBut z hp a := sa
    have ta := D1.over st1 sa S.zf1
    simp only [Bool.false_eq_true, if_false]; refine wpAny_bind ?_; rw [← Array.forIn_toList]; simp only [List.forIn_cons, List.forIn_nil]; refine wpAny_bind (wpAny_bind (wpAny_holding ?_))
    show wpAny _ _ (Builtin.SmallTypes.nextOf (.ref i1) >>= _) _ _ ⟨a, g, d, k0, os⟩
    by_cases l1 : i < n1
    · refine wpAny_bind (D1.item i _ _ _ l1 ta fun x b k1 hx tb sb => wpAny_pure (wpAny_pure (wpAny_bind (wpAny_bind (wpAny_holding ?_)))))
      replace sb : Heap.SameBut i1 a b := sb
      have bb : Beside z TO i1 i2 hp b := fun c o cz _ c1 _ e => sb.extBut _ _ c1 (sa.extBut _ _ cz e)
      have tc := D2.over (D2.over st2 sa S.zf2) sb S.sep1_2
      show wpAny _ _ (Builtin.SmallTypes.nextOf (.ref i2) >>= _) _ _ ⟨b, g, d, k1, os⟩
      by_cases l2 : i < n2
      · refine wpAny_bind (D2.item i _ _ _ l2 tc fun y e k2 hy te se => wpAny_pure (wpAny_pure (wpAny_pure ?_)))
        replace se : Heap.SameBut i2 b e := se
        have size : e.objs.size = hp.objs.size := by rw [se.1, sb.1, sa.1]
        have ze : RjZ e z TI TO f0 true := se.extBut _ _ S.zi2 (sb.extBut _ _ S.zi1 za)
        have ue : IsTupOf2 e TO p q := se.extBut _ _ S.Ti2 (sb.extBut _ _ S.Ti1 (sa.extBut _ _ S.TOz hTO))
        have j1 : St1 (i + 1) e := D1.over tb se S.sep2_1
        show wpAny _ _ (newTuple [x, y] >>= _) _ _ ⟨e, g, d, k2, os⟩; refine wpAny_bind (wpAny_newTuple (wpAny_pure ⟨_, rfl, ?_⟩))
        show Q (.ref e.objs.size) ⟨e.push { cls := .type "tuple", data := .seq #[x, y] }, g, d, k2, os⟩
        have tv : IsTupOf2 (e.push { cls := .type "tuple", data := .seq #[x, y] }) e.objs.size x y := Heap.get?_push_size _ rfl
        rw [size] at tv ⊢
        exact got x y _ k2 l1 l2 hx hy ⟨_, _, Heap.get?_push_of_some _ ze, hf⟩ ⟨_, _, Heap.get?_push_of_some _ ue⟩ (D1.frame _ _ _ j1 fun _ _ _ e => Heap.get?_push_of_some _ e) (D2.frame _ _ _ te fun _ _ _ e => Heap.get?_push_of_some _ e) tv
          fun c o cz cT c1 c2 e => Heap.get?_push_of_some _ (se.extBut _ _ c2 (bb c o cz cT c1 c2 e))
      · have c2 : i = n2 := by omega
        exact wpAny_bind (D2.done ⟨b, g, d, k1, os⟩ _ _ (c2 ▸ tc) fun e x he hx => out e k1 x (.inr c2) (fun c o cz cT c1 c2 y => he _ _ c2 (bb c o cz cT c1 c2 y)) hx)
    · have c1 : i = n1 := by omega
      exact wpAny_bind (D1.done ⟨a, g, d, k0, os⟩ _ _ (c1 ▸ ta) fun e x he hx => out e k0 x (.inl c1) (fun c o cz _ c1 _ y => he _ _ c1 (sa.extBut _ _ cz y)) hx)
theorem rj_pyNext {Q : Option Value → Shared → Prop} (S : ZipSep2 z TI TO i1 i2 fp1 fp2) (D1 : Draws prog w A.in1 i1 fp1 n1 P1 St1) (D2 : Draws prog w A.in1 i2 fp2 n2 P2 St2) (hz : ZipIdle s.heap z TI TO)
    (hTI : IsTupOf2 s.heap TI (.ref i1) (.ref i2)) (hTO : KeepsPair s.heap TO) (st1 : St1 i s.heap) (st2 : St2 i s.heap) (le1 : i ≤ n1) (le2 : i ≤ n2)
    (got : ∀ x y h' tk, i < n1 → i < n2 → P1 i x → P2 i y → ZipIdle h' z TI TO → KeepsPair h' TO → St1 (i + 1) h' → St2 (i + 1) h' → IsTupOf2 h' s.heap.objs.size x y → Beside z TO i1 i2 s.heap h' → Q (some (.ref s.heap.objs.size)) { s with heap := h', toks := tk })
    (out : ∀ h' tk, i = n1 ∨ i = n2 → Beside z TO i1 i2 s.heap h' → Q none { s with heap := h', toks := tk }) : wpAny (model prog w) A (pyNext (.ref z)) Q E s := by
  have ty : s.TypeIs (.ref z) "zip" := by obtain ⟨_, _, e, _⟩ := hz; exact ⟨_, e, rfl⟩
  unfold pyNext; refine wpAny_bind (wpAny_attempt (wpAny_callSpecial?_slot (name := Str.ofString "__next__") ty F.slot_zip_next (wpAny_call_entry F.slot_zip_next ty F.entry_zip_next ?_ (F.args_zip_next_1 _))))
  refine rj_next S D1 D2 hz hTI hTO st1 st2 le1 le2 (fun x y h' tk a b c e f g j k l m => wpAny_pure (got x y h' tk a b c e f g j k l m)) fun h' tk e c b he => ?_
  obtain ⟨o, ho, hc⟩ := he
  exact wpAny_bind (wpAny_isInstance (T := "StopIteration") (b := true) ⟨o, ho, hc⟩ isSubtype_stop (wpAny_pure (out _ _ c b)))
end
end PySem
namespace RJ
open PySem PySem.Spec PyProof.Rows L2
theorem Beside.out {z TI TO i1 i2 : Addr} {h h' : Heap} (b : Beside z TO i1 i2 h h') {c : Addr} {o : Obj} (hc : c ∉ [z, TI, TO, i1, i2]) : h.get? c = some o → h'.get? c = some o := by
  simp only [List.mem_cons, List.not_mem_nil, or_false, not_or] at hc
  exact b c o hc.1 hc.2.2.1 hc.2.2.2.1 hc.2.2.2.2
section
variable {P : Program} {w : World} {K : PySem.W.Frag} {x : Str} {tpos : Pos} {z TI TO i1 i2 : Addr} {n1 n2 : Nat} {tn1 tn2 : Nat → Heap → Prop} {G1 G2 : Hp → Prop} {PV1 PV2 : Nat → V → Prop}
/-- a zip whose tuples go out under a name -/
def ZipTn (z TI TO i1 i2 : Addr) (n : Nat) (tn1 tn2 : Nat → Heap → Prop) (i : Nat) (h : Heap) : Prop := i ≤ n ∧ ZipIdle h z TI TO ∧ IsTupOf2 h TI (.ref i1) (.ref i2) ∧ KeepsPair h TO ∧ tn1 i h ∧ tn2 i h
theorem turn_zipN (A5 : Ap5 z TI TO i1 i2) (D1 : DrawK P w K i1 n1 tn1 G1 PV1) (D2 : DrawK P w K i2 n2 tn2 G2 PV2) :
    Turn P w K (.Name x tpos) (ItG (min n1 n2) (fun H => G1 H ∧ G2 H) fun i xs => ∃ v1 v2, PV1 i v1 ∧ PV2 i v2 ∧ xs = [v1, v2]) [z, TI, TO, i1, i2] z (ZipTn z TI TO i1 i2 (min n1 n2) tn1 tn2) where
  mem := List.mem_cons_self ..
  obj := fun i h ⟨_, ⟨_, _, a, _⟩, b, ⟨_, _, c⟩, d, e⟩ => five (p := fun c => ∃ o, h.get? c = some o ∧ _) ⟨_, a, fun _ q => nomatch q⟩ ⟨_, b, fun _ q => nomatch q⟩ ⟨_, c, fun _ q => nomatch q⟩ (D1.obj i h d) (D2.obj i h e)
  keep := fun i h h' ⟨l, ⟨_, _, a, f⟩, b, ⟨_, _, c⟩, d, e⟩ k => ⟨l, ⟨_, _, k _ (by simp) _ a, f⟩, k _ (by simp) _ b, ⟨_, _, k _ (by simp) _ c⟩, D1.keep _ _ _ d fun o => k i1 (by simp) o, D2.keep _ _ _ e fun o => k i2 (by simp) o⟩
  item := by
    rintro X hP hw hK hc i pins s σ H E I hf ⟨hl, hz, hTI, hTO, h1, h2⟩ ⟨⟨hG1, hG2⟩, hlt⟩
    have none5 : H z = none ∧ H TI = none ∧ H TO = none ∧ H i1 = none ∧ H i2 = none := ⟨(hf _ (by simp)).1, (hf _ (by simp)).1, (hf _ (by simp)).1, (hf _ (by simp)).1, (hf _ (by simp)).1⟩
    obtain ⟨fp1, PD1, St1, DD1, c1, m1, q1, back1, val1⟩ := D1.draws X hP hw hK hc i pins s σ H I hG1 none5.2.2.2.1 h1
    obtain ⟨fp2, PD2, St2, DD2, c2, m2, q2, back2, val2⟩ := D2.draws X hP hw hK hc i pins s σ H I hG2 none5.2.2.2.2 h2
    subst hP hw hK
    refine rj_pyNext (A5.sep m1 m2 q1 q2 none5.1 none5.2.2.1 none5.2.2.2.1 none5.2.2.2.2) DD1 DD2 hz hTI hTO c1 c2 (by omega) (by omega) (fun u u2 h' tk _ _ p1 p2 z' TO' j1 j2 hT hk => ?_) fun h' tk e => absurd e (by omega)
    obtain ⟨v, hv, rv⟩ := val1 i u p1
    obtain ⟨v2, hv2, rv2⟩ := val2 i u2 p2
    have made : ObjOk X.prog X.w (upd H s.heap.objs.size (.tup [v, v2])) h' s.heap.objs.size (.tup [v, v2]) := ⟨by show 2 ≤ sizeLine; decide, [u, u2], .cons rv (.cons rv2 .nil), ⟨_, hT, rfl, _, rfl⟩⟩
    have J : Inv X pins σ (upd H s.heap.objs.size (.tup [v, v2])) { s with heap := h', toks := tk } := I.turnedNew (ch := [z, TI, TO, i1, i2]) (fun c o hb q => Beside.out hk hb q) hf (Nat.le_refl _) made
    have lt5 : ∀ c ∈ [z, TI, TO, i1, i2], c < s.heap.objs.size := by
      obtain ⟨_, _, a, _⟩ := hz
      obtain ⟨_, _, b⟩ := hTO
      obtain ⟨_, e1⟩ := DD1.live _ _ c1
      obtain ⟨_, e2⟩ := DD2.live _ _ c2
      exact five (Heap.lt_size a) (Heap.lt_size hTI) (Heap.lt_size b) (Heap.lt_size e1) (Heap.lt_size e2)
    exact ⟨_, rfl, wpAny_pure ⟨.ref s.heap.objs.size, _, J, rfl, ⟨_, _, rfl, I.hok.fresh (Nat.le_refl _), rfl, v, v2, hv, hv2, rfl⟩, ⟨hlt, z', hk _ _ A5.TIz A5.TITO A5.TIi1 A5.TIi2 hTI, TO', back1 _ _ j1, back2 _ _ j2⟩,
      fun c hcm => (upd_ne (Nat.ne_of_lt (lt5 c hcm))).trans (hf c hcm).1⟩⟩
  done := by
    rintro X hP hw hK hc i pins s σ H E I hf ⟨hl, hz, hTI, hTO, h1, h2⟩ ⟨⟨hG1, hG2⟩, hge⟩
    have none5 : H z = none ∧ H TO = none ∧ H i1 = none ∧ H i2 = none := ⟨(hf _ (by simp)).1, (hf _ (by simp)).1, (hf _ (by simp)).1, (hf _ (by simp)).1⟩
    obtain ⟨fp1, PD1, St1, DD1, c1, m1, q1, back1, val1⟩ := D1.draws X hP hw hK hc i pins s σ H I hG1 none5.2.2.1 h1
    obtain ⟨fp2, PD2, St2, DD2, c2, m2, q2, back2, val2⟩ := D2.draws X hP hw hK hc i pins s σ H I hG2 none5.2.2.2 h2
    subst hP hw hK
    exact rj_pyNext (A5.sep m1 m2 q1 q2 none5.1 none5.2.1 none5.2.2.1 none5.2.2.2) DD1 DD2 hz hTI hTO c1 c2 (by omega) (by omega) (fun _ _ _ _ a b => absurd a (by omega)) fun h' tk _ hk => ⟨rfl, I.turnedL (t' := tk) (ch := [z, TI, TO, i1, i2]) (fun c o hb q => Beside.out hk hb q) hf⟩
  self := fun A i s Q E st h => by
    obtain ⟨_, ⟨_, _, a, _⟩, _⟩ := st
    exact wpAny_pyIter_slot ⟨_, a, rfl⟩ F.slot_zip_iter (wpAny_call_entry F.slot_zip_iter ⟨_, a, rfl⟩ F.entry_zip_iter (show wpAny _ _ (ret (.ref z)) _ _ s from wpAny_pure ⟨_, rfl, "zip", _, ⟨_, a, rfl⟩, F.slot_zip_next.lookup, h⟩) (F.args_zip_iter_1 _))
end
/-- for p in zip(v1, v2) -/
theorem pi_zipN {X : Cx} {x : Str} {e e2 : Expr} {ta : TA} {p pos tpos : Pos} (hg : Gl X "zip") (hm : X.mg "zip" = none) (ha : PA X [e, e2] ta)
    (hs : starEach [e, e2] X.env = (false, eval e X.env) :: starEach [e2] X.env := by rfl) (hpl : (backTo pos (starEach [e2] X.env)).any (·.1) = false := by rfl) :
    PI X (.Name x tpos) (.Call (.Name "zip" p) [e, e2] [] pos) (iZipG ta) :=
  pi_zipGen hg hm ha (fun A5 D1 D2 => ⟨_, turn_zipN A5 D1 D2, fun h hz hTI hTO h1 h2 => ⟨Nat.zero_le _, ⟨_, _, hz, .inl rfl⟩, hTI, ⟨_, _, hTO⟩, h1, h2⟩⟩) hs hpl
end RJ
end

section
set_option maxRecDepth 100000
namespace RJ
open PySem PySem.Spec PyProof.Rows L2
open PySem.W (minD AlikeAll alike alikeAll dataLt)
theorem minD_mem : ∀ (ys : List PyData) (y : PyData), minD y ys ∈ y :: ys
  | [], y => List.mem_cons_self ..
  | z :: zs, y => by
    show zs.foldl _ (if dataLt z y = true then z else y) ∈ y :: z :: zs
    have h := minD_mem zs (if dataLt z y = true then z else y)
    have h' : minD (if dataLt z y = true then z else y) zs ∈ (if dataLt z y = true then z else y) :: zs := h
    rcases List.mem_cons.mp h' with e | e
    · show minD (if dataLt z y = true then z else y) zs ∈ _
      rw [e]
      by_cases c : dataLt z y = true
      · rw [if_pos c]; exact List.mem_cons_of_mem _ (List.mem_cons_self ..)
      · rw [if_neg c]; exact List.mem_cons_self ..
    · exact List.mem_cons_of_mem _ (List.mem_cons_of_mem _ e)
/-- a measure that < respects falls to its least value -/
theorem minD_le {rk : PyData → Int} {Ok : PyData → Prop} (h1 : ∀ x y, Ok x → Ok y → dataLt x y = true → rk x ≤ rk y) (h2 : ∀ x y, Ok x → Ok y → dataLt x y = false → rk y ≤ rk x) :
    ∀ (ys : List PyData) (y : PyData), (∀ z ∈ y :: ys, Ok z) → ∀ z ∈ y :: ys, rk (minD y ys) ≤ rk z
  | [], y, _, z, hz => by
    rw [List.mem_singleton.mp hz]; exact Int.le_refl _
  | w :: ws, y, hok, z, hz => by
    have oky := hok y (List.mem_cons_self ..)
    have okw := hok w (List.mem_cons_of_mem _ (List.mem_cons_self ..))
    have step : rk (if dataLt w y = true then w else y) ≤ rk y ∧ rk (if dataLt w y = true then w else y) ≤ rk w := by
      cases c : dataLt w y with
      | true => exact ⟨h1 w y okw oky c, Int.le_refl _⟩
      | false => exact ⟨Int.le_refl _, h2 w y okw oky c⟩
    have ih := minD_le h1 h2 ws (if dataLt w y = true then w else y) (fun v hv => by
      rcases List.mem_cons.mp hv with e | e
      · rw [e]; split
        · exact okw
        · exact oky
      · exact hok v (List.mem_cons_of_mem _ (List.mem_cons_of_mem _ e)))
    show rk (minD (if dataLt w y = true then w else y) ws) ≤ rk z
    rcases List.mem_cons.mp hz with e | e
    · rw [e]; exact Int.le_trans (ih _ (List.mem_cons_self ..)) step.1
    · rcases List.mem_cons.mp e with e | e
      · rw [e]; exact Int.le_trans (ih _ (List.mem_cons_self ..)) step.2
      · exact ih z (List.mem_cons_of_mem _ e)
/-- min(l, default=None) of alike data -/
def rMinD (K : PySem.W.Frag) : List V → List V → Hp → VK → Prop := fun vs zs H Q => ∃ (a : Addr) (xs : List V) (ds : List PyData), vs = [V.ref a] ∧ zs = [V.non] ∧ H a = some (.lst xs) ∧ DpAll K H xs ds ∧ AlikeAll ds ∧ PyData.depthAll ds ≤ 60 ∧
  (ds = [] → Q .non H) ∧ ∀ (d : PyData) (ds' : List PyData) (i : Nat) (x : V), ds = d :: ds' → xs[i]? = some x → ds[i]? = some (minD d ds') → Q x H
theorem readsAll_ix {h : Heap} : ∀ {us : List Value} {ds : List PyData} {as : List Addr} {i : Nat} {u : Value}, ReadsAll h us ds as → us[i]? = some u → ∃ d bs, ds[i]? = some d ∧ Reads h u d bs
  | _, _, _, 0, u, .cons (d := d) (as := as) r _, e => by
    cases e
    exact ⟨d, as, rfl, r⟩
  | _, _, _, i + 1, u, .cons _ t, e => by
    obtain ⟨d, bs, h1, h2⟩ := readsAll_ix (i := i) t e
    exact ⟨d, bs, h1, h2⟩
theorem cr_minD {X : Cx} (hc : X.calm = true) (hu : X.A.units + 64 < cLine) : CallRK X (.builtin "min") [Str.ofString "default"] (rMinD X.K) := by
  intro pins s σ H xs0 zs us ws Q I r rz h
  obtain ⟨a, xs, ds, rfl, rfl, ha, hd, hal, hdep, q0, q1⟩ := h
  obtain ⟨its, rv, hl, _⟩ := I.list (SqL.of ha)
  rw [Vals.ref1 r]
  obtain ⟨u, rfl, ru⟩ := vals1 rz
  cases ru
  obtain ⟨as, hr⟩ := Dp.readsAll I ds xs its hd rv
  show wpAny _ _ (call (.builtin "min") [.ref a] [(Str.ofString "default", Value.none)]) _ _ s
  refine PySem.W.min_list_default (I.ok.hd hc) hl.isList hr hal (by omega) (fun e h' tk hk => ⟨.non, H, I.kept hk, rfl, q0 e⟩) fun y ys i v h' tk bs e hv hrd hk => ?_
  have hv' : its[i]? = some v := by simpa using hv
  have hl2 := rv.length
  have hi : i < xs.length := by
    have := (List.getElem?_eq_some_iff.mp hv').1
    omega
  obtain ⟨u2, hu2, ru2⟩ := rv.get (List.getElem?_eq_getElem hi)
  rw [hv'] at hu2
  cases hu2
  obtain ⟨d2, bs2, hd2, hr2⟩ := readsAll_ix hr hv'
  have heq : d2 = minD y ys := ((PyProof.Rows.reads_det (h := s.heap) (h' := h') (fun b o e _ => hk b o e) hr2 hrd).1).symm
  exact ⟨xs[i], H, I.kept hk, ru2, q1 y ys i _ e (List.getElem?_eq_getElem hi) (by rw [hd2, heq])⟩
end RJ
end

section
set_option maxRecDepth 100000
namespace RJ
open PySem PySem.Spec PyProof.Rows L2
/-- the signs of a text, each a text -/
def signsV (x : Str) : List V := x.cps.toList.map fun c => V.str ⟨#[c]⟩
theorem call_list_text {X : Cx} (hc : X.calm = true) : CallR X (.type "list") (fun xs H Q => ∃ x : Str, xs = [.str x] ∧ x.cps.size ≤ sizeLine ∧ ∀ l, H l = none → Q (.ref l) (upd H l (.lst (signsV x)))) := by
  intro pins s σ H xs us Q I r h
  obtain ⟨x, rfl, hz, q⟩ := h
  obtain ⟨u, rfl, rx⟩ := vals1 r
  obtain ⟨t, rfl⟩ := rx
  refine PySem.call_list_str (I.ok.hd hc) x t (hn := hz) fun h' tk acc c' hk hS hacc => ?_
  have hv : Vals (signsV x) acc.toList := by
    have hl : (signsV x).length = acc.toList.length := by
      rw [signsV, List.length_map, Array.length_toList, Array.length_toList]; exact hacc.1.symm
    have key : ∀ j u, acc.toList[j]? = some u → ∃ v, (signsV x)[j]? = some v ∧ RelV v u := fun j u hu => by
      obtain ⟨c, t', hcx, rfl⟩ := hacc.2 j u (by rw [← Array.getElem?_toList]; exact hu)
      exact ⟨.str ⟨#[c]⟩, by rw [signsV, List.getElem?_map]; simp [hcx], ⟨t', rfl⟩⟩
    clear hacc hS hk
    revert hl key
    generalize signsV x = vs
    generalize acc.toList = ws
    intro hl key
    induction vs generalizing ws with
    | nil =>
      cases ws with
      | nil => exact .nil
      | cons _ _ => cases hl
    | cons v vs ih =>
      cases ws with
      | nil => cases hl
      | cons w ws =>
        obtain ⟨v', e, r⟩ := key 0 w rfl
        cases e
        exact .cons r (ih ws (Nat.succ.inj hl) fun j u hu => key (j + 1) u hu)
  refine ⟨.ref s.heap.objs.size, _, I.laid (t' := tk) hk (Nat.le_refl _) (show ObjOk X.prog X.w _ h' _ (.lst (signsV x)) from ⟨?_, acc.toList, c', hv, by simpa using hS⟩), rfl, q _ (I.hok.fresh (Nat.le_refl _))⟩
  rw [signsV, List.length_map, Array.length_toList]; exact hz
theorem op_mul_text {X : Cx} : OpR X (binaryOp .Mult) (fun x y H Q => ∃ (a : Str) (n : Int), x = .str a ∧ y = .int n ∧ MulOk a n ∧ Q (.str (Txt.mul a n)) H) := by
  intro pins s σ H x y v u Q I rx ry h
  obtain ⟨a, n, rfl, rfl, hok, q⟩ := h
  obtain ⟨t, rfl⟩ := rx
  obtain ⟨t2, rfl⟩ := ry
  exact PySem.SB.mul hok fun t' k => ⟨.str _, H, I.kept (t' := k) fun _ _ z => z, ⟨_, rfl⟩, q⟩
end RJ
end

section
set_option maxRecDepth 100000
namespace RJ
open PySem PySem.Spec PyProof.Rows L2
/-! ### rules that name the written part: within a comprehension it can't be found -/
section
variable {X : Cx} {K : PySem.W.Frag}
theorem ix_listK (h : X.K = K) : IxR X (rIxL K) := h ▸ ix_list
theorem ix_tupK (h : X.K = K) : IxR X (rIxT K) := h ▸ ix_tup
theorem sl_listK (h : X.K = K) : SlR X (rSlL K) := h ▸ sl_list
theorem sl_tupAK (h : X.K = K) : SlR X (rSlA K) := h ▸ sl_tupA
theorem call_len_seqK (h : X.K = K) : CallR X (.builtin "len") (fun xs H Q => ∃ p ys, xs = [V.ref p] ∧ (SqL K H p ys ∨ SqT K H p ys) ∧ Q (.int (ys.length : Int)) H) := by subst h; exact call_len_seq
theorem call_list_ofK (h : X.K = K) : CallR X (.type "list") (fun xs H Q => ∃ p ys, xs = [V.ref p] ∧ (SqL K H p ys ∨ SqT K H p ys) ∧ ∀ l, H l = none → Q (.ref l) (upd H l (.lst ys))) := by subst h; exact call_list_of
theorem op_in_seqK (h : X.K = K) : OpR X (compareOp .In) (rIn K false) := h ▸ op_in_seq
theorem op_notIn_seqK (h : X.K = K) : OpR X (compareOp .NotIn) (rIn K true) := h ▸ op_notIn_seq
theorem pe_fldK {e : Expr} {f : Str} {pos : Pos} {ta : TE} (h : X.K = K) (he : PE X e ta) (hb : attributeBase e f X.env (eval e X.env) = eval e X.env) : PE X (.Attribute e f pos) (tFld K ta f) := by subst h; exact pe_fld he hb
theorem pe_bmK {T id : String} {name : Str} {r : V → List V → Hp → VK → Prop} {o e : Expr} {es : List Expr} {apos cpos : Pos} {to : TE} {t : TA} (h : X.K = K) (pa : PlainAttrs T) (slot : Slot T name id) (hty : typeOf (.builtin id) = pure (.type "method_descriptor")) (hm : MtR X id r) (ho : PE X o to) (ha : PA X (e :: es) t)
    (hbase : attributeBase o name X.env (eval o X.env) = eval o X.env := by rfl)
    (hfew : ((backTo cpos (starEach (e :: es) X.env)).all (fun x => !x.1) && (backToKw cpos (keywordEach [] X.env)).all (fun x => x.1.isSome)
      && decide ((e :: es).length + ([] : List Keyword).length + (if ([] : List Keyword).isEmpty then 0 else 1) < 30)) = true := by rfl)
    (hline : (apos.endLine == cpos.line) = true := by rfl) (hs : starEach (e :: es) X.env = (false, eval e X.env) :: starEach es X.env := by rfl) (hplain : (backTo cpos (starEach es X.env)).any (·.1) = false := by rfl) :
    PE X (.Call (.Attribute o name apos) (e :: es) [] cpos) (tBM K T r to t) := by subst h; exact pe_bm pa slot hty hm ho ha hbase hfew hline hs hplain
end
end RJ
end

section
set_option maxRecDepth 100000
set_option maxHeartbeats 2000000
namespace RJ
open PySem PySem.Spec PyProof.Rows L2

/-- an error's own __init__, that calls the one above it by super() -/
structure SupF (P : Program) (K : PySem.W.Frag) (C : Addr) (qual : Str) (st : Stmt) (f : Addr) (fd : FuncData) : Prop where
  ex : ∃ (oc : Value) (od : Option Addr) (dV kV doc pm : Value) (an : Option Addr) (cda : Addr) (ct : Value) (osl : Array (Option Value)) (cc : Addr),
    fd = PySem.W.ksFn "__init__" qual (C8.fnArgs st) (C8.fnBody st) (C8.fnScope st) dV kV doc pm an (.ref cda) ct cc ∧ K.lookup f = some ⟨oc, od, .func fd, osl⟩ ∧ PySem.W.codeIn K (.ref cda) qual = true ∧
    (∃ (ccl : Value) (cdd : Option Addr) (vs : Array Value) (ccs : Array (Option Value)) (file : Str) (tf : Tok), K.lookup cda = some ⟨ccl, cdd, .fields vs, ccs⟩ ∧ vs[2]? = some (.str file tf) ∧ ((P.main.file : Str) == file) = true) ∧
    ∃ (cl : Value) (cld : Option Addr) (csl : Array (Option Value)), K.lookup cc = some ⟨cl, cld, .cell (some (.ref C)), csl⟩
  top : (P.main.scope.names.lookup ("super" : Str)).isSome = false
  sup : PySem.W.ks_superIn K C C "__init__" = some (some (.builtin "ValueError.__init__"))
  sub : PySem.W.subIn K (.ref C) (.type "ValueError") = some true
  mro : PySem.W.mroIn K C (.ref C) = some true
  opq : PySem.W.nsIn K PySem.cStatics "thirdparty.any" = some none
  oex : OexC K C

/-- a look at the names of such a def -/
def supB (N ps : List Str) (sc : Scope) : Bool :=
  decide (sc.kind = .function) && (!sc.isCoroutine && (!sc.isGenerator && (decide N.Nodup && (decide (N.take ps.length = ps) && (ps.all (fun x => decide (sc.names.lookup x = some .local)) && (sc.names.all (fun y => !decide (y.2 = .cell)) &&
    (sc.names.all (fun y => !decide (y.2 = .free) || decide (y.1 = "__class__")) && (decide (sc.names.lookup ("__class__" : Str) = some .free) && decide (sc.names.lookup ("super" : Str) = some .globalImplicit)))))))))
structure SupS (N ps : List Str) (sc : Scope) : Prop where
  kind : sc.kind = .function
  co : sc.isCoroutine = false
  gen : sc.isGenerator = false
  nd : N.Nodup
  pre : N.take ps.length = ps
  par : ∀ x ∈ ps, sc.names.lookup x = some .local
  nocell : ∀ y ∈ sc.names, y.2 ≠ .cell
  only : ∀ y ∈ sc.names, y.2 = .free → y.1 = "__class__"
  cls : sc.names.lookup ("__class__" : Str) = some .free
  sup : sc.names.lookup ("super" : Str) = some .globalImplicit
theorem supS_of {N ps : List Str} {sc : Scope} (h : supB N ps sc = true) : SupS N ps sc := by
  unfold supB at h
  simp only [Bool.and_eq_true, Bool.not_eq_true', decide_eq_true_eq, List.all_eq_true, Bool.or_eq_true, decide_eq_false_iff_not] at h
  obtain ⟨h1, h2, h3, h4, h5, h6, h7, h8, h9, h10⟩ := h
  exact ⟨h1, h2, h3, h4, h5, h6, h7, fun y hy e => (h8 y hy).elim (fun z => absurd e z) id, h9, h10⟩

theorem lookup_one {y : Str} {u : Value} : ∀ {l : List (Str × Value)}, (y, u) ∈ l → (∀ u', (y, u') ∈ l → u' = u) → l.lookup y = some u
  | [], h, _ => absurd h (by simp)
  | (a, b) :: l, h, hu => by
    by_cases e : y = a
    · subst e
      have := hu b (by simp)
      subst this
      simp [List.lookup]
    · have hb : (y == a) = false := by simpa using e
      have h' : (y, u) ∈ l := by
        rcases List.mem_cons.mp h with z | z
        · exact absurd (congrArg Prod.fst z) e
        · exact z
      show (match y == a with | true => some b | false => l.lookup y) = some u
      rw [hb]
      exact lookup_one h' fun u' z => hu u' (List.mem_cons_of_mem _ z)
theorem zip_lookup {ps : List Str} {us : List Value} {i : Nat} {y : Str} {u : Value} (nd : ps.Nodup) (h1 : ps[i]? = some y) (h2 : us[i]? = some u) : (ps.zip us).reverse.lookup y = some u := by
  refine lookup_one ?_ fun u' z => ?_
  · rw [List.mem_reverse]
    have : (ps.zip us)[i]? = some (y, u) := by rw [List.getElem?_zip_eq_some]; exact ⟨h1, h2⟩
    exact List.mem_of_getElem? this
  · rw [List.mem_reverse] at z
    obtain ⟨j, hj⟩ := List.mem_iff_getElem?.mp z
    rw [List.getElem?_zip_eq_some] at hj
    have e := nodup_ix nd h1 hj.1
    subst e
    exact Option.some.inj (hj.2.symm.trans h2)

/-- the body's context -/
def cxS (P : Program) (w : World) (K : PySem.W.Frag) (mg : Str → Option Value) (base : Heap) (N : List Str) (qual : Str) (sc : Scope) (f cda cc : Addr) (A : Around) (outer : List Env) (s : Shared) (H : Hp) : Cx where
  prog := P
  w := w
  K := K
  mg := mg
  base := base
  A := A.deeper (PySem.W.ksEnv qual sc s.heap.objs.size f (.ref cda) cc)
  N := N
  s_0 := s
  H_0 := H
  env := PySem.W.ksEnv qual sc s.heap.objs.size f (.ref cda) cc
  outer := outer
  stack := PySem.W.ksEnv qual sc s.heap.objs.size f (.ref cda) cc :: outer
  ex := []
  calm := true
  fn := fun _ => false
  pn := []
  xe := fun _ _ => False

section
variable {P : Program} {w : World} {K : PySem.W.Frag} {mg : Str → Option Value} {base : Heap} {N ps : List Str} {qual : Str} {sc : Scope} {f cda cc : Addr} {A : Around} {outer : List Env} {s : Shared} {H : Hp} {us : List Value} {vs : List V}
theorem inv_startS {cv : Value} (S : SupS N ps sc) (hd : A.handled = none) (e0 : Env0 P w K mg base A outer s H) (hl : vs.length = ps.length) (r : Vals vs us) {h1 : Heap} {tk : Nat}
    (hns : h1.Ns s.heap.objs.size fun x => (ps.zip us).reverse.lookup x) (hk : ∀ b o, s.heap.get? b = some o → h1.get? b = some o) (hcc : base.IsCell cc (some cv)) :
    Inv (cxS P w K mg base N qual sc f cda cc A outer s H) [] (L2.start N vs) H { s with heap := h1, toks := tk } := by
  have hpl : ps.length ≤ N.length := by have := congrArg List.length S.pre; rw [List.length_take] at this; omega
  have noA : ∀ b : Addr, b ∉ (cxS P w K mg base N qual sc f cda cc A outer s H).ex := fun b z => absurd (show b ∈ ([] : List Addr) from z) (by simp)
  obtain ⟨oc, hoc, hdc⟩ := hcc
  have cl : ∀ (y : Str) (c : Addr), (cxS P w K mg base N qual sc f cda cc A outer s H).env.cells.lookup y = some c → c = cc ∧ y = "__class__" := fun y c h => by
    have h' : ([("__class__", cc)] : List (Str × Addr)).lookup y = some c := h
    by_cases e : y = "__class__"
    · subst e; exact ⟨(Option.some.inj h').symm, rfl⟩
    · have hb : (y == ("__class__" : Str)) = false := by simpa using e
      have : (match y == ("__class__" : Str) with | true => some cc | false => none) = some c := h'
      rw [hb] at this; cases this
  refine ⟨⟨e0.mod, S.kind, rfl, rfl, Nat.le_refl _, fun y z c p q => (cl y c p).2.trans (cl z c q).2.symm, fun y hy => ?_, fun y c z _ => Bool.noConfusion (show false = true from z), fun _ => hd, Around.frames_deeper e0.frames, .inr ⟨rfl, rfl⟩,
    fun b z => absurd z (noA b), e0.bs, e0.bsz, fun b _ _ => noA b, fun b z => absurd z (noA b), e0.funs, e0.frf⟩, rfl, e0.bare, Un.kept hk, ⟨_, hns, fun i y v p q z => ?_⟩, fun y c p => ?_, e0.hok.fresh (Nat.le_refl _), fun y c p => ?_,
    fun p hp => absurd (show p ∈ ([] : List (Addr × Obj)) from hp) (by simp), e0.hok.kept hk, ?_⟩
  · have hy : sc.names.lookup y = some .cell ∨ sc.names.lookup y = some .free := hy
    rcases hy with hy | hy
    · exact absurd rfl (S.nocell _ (PySem.mem_of_lookup hy))
    · have := S.only _ (PySem.mem_of_lookup hy) rfl
      subst this
      exact ⟨cc, rfl⟩
  · have hi : i < vs.length := by
      unfold L2.start at q
      by_cases hi : i < vs.length
      · exact hi
      · rw [List.getElem?_append_right (by simpa using hi), List.getElem?_replicate] at q
        split at q <;> cases q
    have ha : vs[i]? = some v := by
      unfold L2.start at q
      rw [List.getElem?_append_left (by simpa using hi), List.getElem?_map] at q
      cases e : vs[i]? with
      | none => rw [e] at q; cases q
      | some a => rw [e] at q; cases q; rfl
    obtain ⟨u, hu, rv⟩ := r.get ha
    have hp : ps[i]? = some y := by rw [← S.pre, List.getElem?_take_of_lt (by omega)]; exact p
    exact ⟨u, rv, .inl ⟨S.par y (List.mem_of_getElem? hp), zip_lookup (by rw [← S.pre]; exact S.nd.sublist (List.take_sublist _ _)) hp hu⟩⟩
  · obtain ⟨rfl, _⟩ := cl y c p
    exact ⟨some cv, oc, hk _ _ (e0.bs _ _ hoc).1, hdc⟩
  · obtain ⟨rfl, _⟩ := cl y c p
    exact (e0.bs _ _ hoc).2
  · unfold L2.start
    show _ = N.length
    rw [List.length_append, List.length_map, List.length_replicate]
    omega
end

section
variable {X : Cx} {pins : List (Addr × Obj)} {σ : L2.St} {H : Hp} {s : Shared} {a C u : Addr} {us : List Value} {Q : Value → Shared → Prop} {E : Value → Shared → Prop} {A : Around}
/-- the bound __init__ of ValueError called: what it lays down is not told -/
theorem call_mw (T : OexC X.K C) (I : Inv X pins σ H s) (e : H a = some (exo a C none)) (hu : s.heap.get? u = some (PySem.W.kxs_mw "ValueError.__init__" a)) (hl : us.length ≤ sizeLine) (h : ∀ s', Inv X pins σ H s' → Q .none s') :
    wpAny (model X.prog X.w) A (call (.ref u) us) Q E s := by
  obtain ⟨nm, q, N, bs, bm, sn, sub, ab, col, dd, k0, k1, k2, k3, k5, hC, hbm⟩ := T.cls
  obtain ⟨t1, ho⟩ := exo_at I.hok e
  have hCs := I.kIn _ _ hC
  obtain ⟨hp, g, d, t, os⟩ := s
  refine wpAny_call (codeAny_of_tree ?_)
  show wpAny _ A.in1 (callAny (.ref u) _) _ _ _
  unfold callAny
  refine wpAny_bind (wpAny_load hu ?_)
  simp only [PySem.W.kxs_mw, (by decide : (Value.type "method-wrapper" == Value.type "method" || Value.type "method-wrapper" == Value.type "builtin_function_or_method" || Value.type "method-wrapper" == Value.type "method-wrapper") = true), if_true]
  refine PySem.W.KFB.if_so (by decide) (wpAny_bind (PySem.W.check_bound_init F.excBase_ValueError.toExcCallFacts hCs ho rfl (wpAny_bind (wpAny_pure (wpAny_pure ⟨plainId_quiet F.excBase_ValueError.init.plain _, codeAny_builtin F.excBase_ValueError.initEntry ?_⟩)))))
  refine PySem.W.exc_init_tree (cls := .ref C) (t0 := t1) (dv := none) (c2 := .none) (c3 := .none) (b4 := .bool false) ho hl fun h' k hx _ => ?_
  have J := I.write (t' := t) (x := a) (e := a) (o := exo a C none) (by rw [e]; exact True.intro) (.inl rfl) k ⟨_, hx⟩ (exo_ok hx)
  have eu : upd H a (exo a C none) = H := funext fun b => by
    by_cases hb : b = a
    · subst hb; rw [upd_same, e]
    · rw [upd_ne hb]
  rw [eu] at J
  exact h _ J
end

section
variable {X : Cx} {σ : L2.St} {H : Hp} {s : Shared} {a C f cda cc : Addr} {qual : Str} {st : Stmt} {fd : FuncData} {e : Expr} {ta : TA} {p0 p1 p2 p3 p4 : Pos} {ar : Arg} {body : List Stmt} {pl : Sem Bool}
/-- super().__init__(e), where C is the class around the def and the object's own -/
theorem super_expr (F : SupF X.prog X.K C qual st f fd) (hm : X.mg "super" = none) (hc1 : X.env.kindOf "super" = some .globalImplicit) (hc2 : X.env.kindOf "__class__" = some .free) (hc3 : X.env.kindOf ar.arg = some .local) (hfu : X.env.func = some f)
    (hcl : ∀ cc', (∃ cl cld csl, X.K.lookup cc' = some ⟨cl, cld, .cell (some (.ref C)), csl⟩) → cc' = cc → X.env.cells.lookup ("__class__" : Str) = some cc') (hcc : ∃ (cl : Value) (cld : Option Addr) (csl : Array (Option Value)), X.K.lookup cc = some ⟨cl, cld, .cell (some (.ref C)), csl⟩) (hco : X.env.code = .ref cda)
    (hcd : ∃ (ccl : Value) (cdd : Option Addr) (vs : Array Value) (ccs : Array (Option Value)) (file : Str) (tf : Tok), X.K.lookup cda = some ⟨ccl, cdd, .fields vs, ccs⟩ ∧ vs[2]? = some (.str file tf) ∧ ((X.prog.main.file : Str) == file) = true)
    (hp : (fd.params.posonlyargs ++ fd.params.args).head? = some ar) (hi : interactive X.env = false) (hs : swapsWith (.Call (.Attribute (.Call (.Name "super" p0) [] [] p1) "__init__" p2) [e] [] p3) none p4.line X.env = pure false)
    (hev : eval (.Call (.Attribute (.Call (.Name "super" p0) [] [] p1) "__init__" p2) [e] [] p3) X.env = (do
      let ov ← attributeBase (.Call (.Name "super" p0) [] [] p1) "__init__" X.env (eval (.Call (.Name "super" p0) [] [] p1) X.env)
      standAt p2.atName
      let (g, first) ← holding [ov] (getMethod ov "__init__" pl)
      callWith p3 g first (backTo p3 (starEach [e] X.env)) []))
    (hst : starEach [e] X.env = (false, eval e X.env) :: starEach [] X.env) (hN : X.N[0]? = some ar.arg) (hσ : σ[0]? = some (some (.ref a))) (I : Inv X [] σ H s) (ea : H a = some (exo a C none)) (hta : PA X [e] ta) (q : ta σ H fun xs H1 => H1 = H ∧ xs.length ≤ 1000) :
    _root_.PySem.wpAt (model X.prog X.w) X.A (.func body X.env) (exec (.Expr (.Call (.Attribute (.Call (.Name "super" p0) [] [] p1) "__init__" p2) [e] [] p3) p4) X.env) (fun fl s' => fl = .next ∧ Inv X [] σ H s') X.xe s := by
  obtain ⟨oc, od, dV, kV, doc, pm, an, cda', ct, osl, cc', hfd, lk, -⟩ := F.ex
  obtain ⟨ccl, cdd, vc, ccs, file, tf, hcode, hvc, hfile⟩ := hcd
  obtain ⟨cl, cld, csl, hcell⟩ := hcc
  obtain ⟨mb, hb1, hb2⟩ := I.mod.blt
  obtain ⟨m, hns, hlk⟩ := id I.loc
  obtain ⟨u, ru, hu⟩ := hlk 0 ar.arg (.ref a) hN hσ (.inl hc3)
  obtain rfl : u = Value.ref a := ru
  have hma : m ar.arg = some (.ref a) := by
    rcases hu with ⟨_, z⟩ | ⟨z, _⟩
    · exact z
    · rcases z with z | z <;> (rw [hc3] at z; cases z)
  obtain ⟨nm, qn, N0, bs, bm, sn, sub, ab, col, dd, k0, k1, k2, k3, k5, hC, hbm⟩ := F.oex.cls
  obtain ⟨t1, ho⟩ := exo_at I.hok ea
  have KX := I.kIn
  have hCs := KX _ _ hC
  have hsc : ∃ cd, PySem.W.clsIn X.K C = some cd := by unfold PySem.W.clsIn; rw [hC]; exact ⟨_, rfl⟩
  obtain ⟨cdC, hcdC⟩ := hsc
  have hal : PySem.W.alongIn X.K "__init__" ((cdC.mro.dropWhile (· != .ref C)).drop 1) = some (some (.builtin "ValueError.__init__")) := by
    have z := F.sup
    unfold PySem.W.ks_superIn at z
    rw [hcdC] at z
    exact z
  have hxC : a ≠ C := fun z => by
    rw [z, hCs] at ho
    cases ho
  refine ks_wpAt_Expr_any (ks_wpAt_MethodCall (pl := pl) (ks_wpAt_super_base (of := ⟨oc, od, .func fd, osl⟩) hc1 hc2 (by decide) hfu (KX _ _ lk) rfl hp hco (KX _ _ hcode) rfl hvc hfile F.top ?_) hev) hi hs
  · refine PySem.W.ks_loadName_global I.ok.kind hc1 (Calls.loadGlobal_builtin (by rw [I.ok.glob]; exact I.mod.glob.keeps I.bk) hm (by rw [I.ok.blt]; exact hb1.keeps I.bk) ((hb2 "super" (by decide)).trans (by decide +kernel : bootBuiltins "super" = some (.type "super"))) ⟨rfl, ?_⟩)
    refine wpAny_loadName_free I.ok.kind hc2 (hcl cc ⟨_, _, _, hcell⟩ rfl) ⟨_, KX _ _ hcell, rfl⟩ (wpAny_loadName_local I.ok.kind hc3 hns hma (ks_wpAny_isType_cls hCs rfl ⟨rfl, ?_⟩))
    obtain ⟨hp, g, d, t, os⟩ := s
    refine ks_wpAny_call_super hCs rfl ho rfl (fun c z => by cases z) (PySem.W.looks_mroIn KX F.mro) fun h' e1 k => ?_
    have I1 : Inv X [] σ H ⟨h', g, d, t, os⟩ := I.kept (t' := t) k
    have I2 : W.InstAt h' a { cls := .ref C, dict := none, data := .fields #[.ref t1, .none, .none, .none, .bool false, .none] } C none := ⟨k _ _ ho, rfl, rfl, trivial⟩
    have hmr : W.Looks (model X.prog X.w) h' (mroOf (.ref C)) cdC.mro := (W.looks_clsIn I1.kIn hcdC).andThen .now
    refine PySem.W.kxs_getMethod PySem.W.kxs_ValueError e1 (PySem.W.looks_opaque I1.kIn F.opq) hmr rfl I1.kIn hal (I2.type.andThen (PySem.W.looks_subIn I1.kIn F.sub)) hxC (by decide) ?_
    have I3 : Inv X [] σ H ⟨h'.push (PySem.W.kxs_mw "ValueError.__init__" a), g, d, t + 1, os⟩ := I1.kept (t' := t + 1) fun b o z => Heap.get?_push_of_some _ z
    have hu3 : (h'.push (PySem.W.kxs_mw "ValueError.__init__" a)).get? h'.objs.size = some (PySem.W.kxs_mw "ValueError.__init__" a) := Heap.get?_push_at rfl rfl
    have I4 : Inv X [(h'.objs.size, PySem.W.kxs_mw "ValueError.__init__" a)] σ H ⟨h'.push (PySem.W.kxs_mw "ValueError.__init__" a), g, d, t + 1, os⟩ := I3.pins_of fun p hp => by
      obtain rfl : p = (h'.objs.size, PySem.W.kxs_mw "ValueError.__init__" a) := by simpa using hp
      exact ⟨hu3, I1.hok.fresh (Nat.le_refl _), Nat.ne_of_gt I1.lt, I1.nofs (Nat.le_refl _), fun v z => by cases z⟩
    show wpAny _ _ (callWith p3 (.ref h'.objs.size) [] (backTo p3 (starEach [e] X.env)) []) _ _ _
    have hrun := hta.run p3 [(h'.objs.size, PySem.W.kxs_mw "ValueError.__init__" a)] _ σ H _ I4 q
    rw [hst] at hrun ⊢
    refine PySem.W.kxs_callWith (i := "ValueError.__init__") (x := a) rfl (Calls.evalArgs_plain (thn hrun fun us s1 hh => ?_))
    obtain ⟨vs, H1, I5, r5, e5, hl5⟩ := hh
    subst e5
    have hlu : us.length ≤ sizeLine := by
      rw [← Paired.length r5, sizeLine_eq]
      omega
    refine ⟨(I5.pin (h'.objs.size, PySem.W.kxs_mw "ValueError.__init__" a) (List.mem_append_right _ List.mem_cons_self)).1, ?_⟩
    exact call_mw F.oex I5 ea (I5.pin (h'.objs.size, PySem.W.kxs_mw "ValueError.__init__" a) (List.mem_append_right _ List.mem_cons_self)).1 hlu fun s' J => ⟨rfl, J.pins_of fun p hp => absurd hp (by simp)⟩
end

section
variable {P : Program} {w : World} {K : PySem.W.Frag} {mg : Str → Option Value} {base : Heap}
/-- the def by its body: super().__init__(e), then the fields -/
theorem fn_super {C : Addr} {qual : Str} {st : Stmt} {f : Addr} {fd : FuncData} {N ps : List Str} {k : Nat} {sp : Sp} {e : Expr} {rest : List Stmt} {p0 p1 p2 p3 p4 : Pos} {ar : Arg} {p' : List Str} (F : SupF P K C qual st f fd) (hm : mg "super" = none)
    (S : SupS N ps (C8.fnScope st)) (hb : C8.fnBody st = .Expr (.Call (.Attribute (.Call (.Name "super" p0) [] [] p1) "__init__" p2) [e] [] p3) p4 :: rest) (hp : ((C8.fnArgs st).posonlyargs ++ (C8.fnArgs st).args).head? = some ar) (hps : ps = ar.arg :: p')
    (len : ∀ vs H Q E, sp vs H Q E → vs.length = ps.length) (self0 : ∀ vs H Q E, sp vs H Q E → ∃ a vs', vs = .ref a :: vs' ∧ H a = some (exo a C none))
    {pl : Env → Sem Bool} (hev : ∀ env : Env, eval (.Call (.Attribute (.Call (.Name "super" p0) [] [] p1) "__init__" p2) [e] [] p3) env = (do
      let ov ← attributeBase (.Call (.Name "super" p0) [] [] p1) "__init__" env (eval (.Call (.Name "super" p0) [] [] p1) env)
      standAt p2.atName
      let (g, first) ← holding [ov] (getMethod ov "__init__" (pl env))
      callWith p3 g first (backTo p3 (starEach [e] env)) []))
    (he : ∀ env : Env, starEach [e] env = (false, eval e env) :: starEach [] env) (hs : ∀ (env : Env) o, swapsWith (.Call (.Attribute (.Call (.Name "super" p0) [] [] p1) "__init__" p2) [e] [] p3) none o env = pure false)
    (hbody : ∀ (cda cc : Addr) (A : Around) (outer : List Env) (s : Shared) (H : Hp) (vs : List V) (Q : VK) (E : XK), Room k (A.deeper (PySem.W.ksEnv qual (C8.fnScope st) s.heap.objs.size f (.ref cda) cc)) → sp vs H Q E →
      ∃ ta t, PA (cxS P w K mg base N qual (C8.fnScope st) f cda cc A outer s H) [e] ta ∧ PSs (cxS P w K mg base N qual (C8.fnScope st) f cda cc A outer s H) rest t ∧
        (ta (L2.start N vs) H fun xs H1 => H1 = H ∧ xs.length ≤ 1000) ∧ t { nx := fun _ H' => Q .non H', rt := Q } (L2.start N vs) H) : FnOk P w K mg base C8.CX0 (k + 1) f fd ps sp := by
  refine ⟨len, fun A outer s H args us vs Q E hr e0 hbd r hsp => ?_⟩
  have hl := len _ _ _ _ hsp
  obtain ⟨a, vs', rfl, ea⟩ := self0 _ _ _ _ hsp
  obtain ⟨oc, od, dV, kV, doc, pm, an, cda, ct, osl, cc, rfl, lk, hcd, ⟨ccl, cdd, vc, ccs, file, tf, hcode, hvc, hfile⟩, cl, cld, csl, hcell⟩ := F.ex
  have KX : K.In s.heap := e0.mod.kin.keeps fun b o e => (e0.bs b o e).1
  have lim : s.heap.NoLimit := e0.mod.nolimit.keeps fun b o e => (e0.bs b o e).1
  refine PySem.ks_codeAny_call_defAt (body := C8.fnBody st) hr.depth (KX _ _ lk) rfl lim (PySem.W.codeRec_of KX hcd) rfl hbd S.nocell (fun y hy => S.par _ (List.of_mem_zip (a := y.1) (b := y.2) hy).1) (fun h1 hns hk => ?_) S.co S.gen S.kind
  have I : Inv (cxS P w K mg base N qual (C8.fnScope st) f cda cc A outer s H) [] (L2.start N (.ref a :: vs')) H { s with heap := h1, toks := s.toks + (ps.zip us).length } := inv_startS (cv := .ref C) S hr.hd e0 hl r hns hk ⟨_, e0.mod.kin _ _ hcell, rfl⟩
  obtain ⟨ta, t, hta, ht, hq, hq2⟩ := hbody cda cc A outer s H _ Q E (hr.deeper _) hsp
  rw [hb]
  have hN0 : N[0]? = some ar.arg := by
    have : (N.take ps.length)[0]? = some ar.arg := by rw [S.pre, hps]; rfl
    rwa [List.getElem?_take_of_lt (by rw [hps]; simp)] at this
  refine ks_wpAt_execs_cons (ks_wpAt_mono (super_expr (X := cxS P w K mg base N qual (C8.fnScope st) f cda cc A outer s H) (cc := cc) (cda := cda) (ar := ar) F hm S.sup S.cls (S.par _ (by rw [hps]; simp)) rfl (fun cc' _ z => by rw [z]; rfl) ⟨cl, cld, csl, hcell⟩ rfl ⟨ccl, cdd, vc, ccs, file, tf, hcode, hvc, hfile⟩ hp (by show (decide _ && _) = false; first | rfl | simp [cxS, S.kind]) (hs _ _) (hev _) (he _) hN0 rfl I ea hta hq) (fun fl s' hh => ?_) fun _ _ z => z.elim)
  obtain ⟨rfl, J⟩ := hh
  refine wpAt_of_wpAny (wpAny_mono (ht.run [] s' (L2.start N (.ref a :: vs')) H _ J hq2) (fun fl s2 h2 => ?_) fun _ _ z => z.elim)
  have fin : ∀ {σ' : L2.St} {H' : Hp} {v : V} {u : Value}, L2.Inv (cxS P w K mg base N qual (C8.fnScope st) f cda cc A outer s H) [] σ' H' s2 → L2.RelV v u → Q v H' → CE outer P w H s Q u s2 := fun {σ' H' v u} J rv q => ⟨v, H', J.os, J.bare, J.base, J.hok, rv, q⟩
  cases fl with
  | next =>
    obtain ⟨_, _, J2, q2⟩ := h2
    exact fin (v := V.non) J2 rfl q2
  | ret u =>
    obtain ⟨_, _, _, J2, rv, q2⟩ := h2
    exact fin J2 rv q2
  | brk => exact h2.elim fun _ z => z.elim fun _ y => y.2.elim
  | cont => exact h2.elim fun _ z => z.elim fun _ y => y.2.elim
end
end RJ
end

section
set_option maxRecDepth 100000
set_option maxHeartbeats 2000000
namespace RJ
open PySem PySem.Spec PyProof.Rows L2

/-! ### defs that may raise -/
/-- what lets errors out -/
abbrev CXN (P : Program) (w : World) : CXT := L2N.CX P w
structure CalX (P : Program) (w : World) (K : PySem.W.Frag) (mg : Str → Option Value) (base : Heap) (k : Nat) (x : Str) (sp : Sp) : Prop where
  ex : ∃ (f : Addr) (fd : FuncData) (ps : List Str), FnOk P w K mg base (CXN P w) k f fd ps sp ∧ mg x = some (.ref f) ∧ PySem.W.keepIn K (.ref f) = true ∧ Binds K fd ps []
structure MetX (P : Program) (w : World) (K : PySem.W.Frag) (mg : Str → Option Value) (base : Heap) (k : Nat) (C : Addr) (m : Str) (sp : Sp) : Prop where
  ex : ∃ (f : Addr) (fd : FuncData) (ps : List Str), Cls K C ∧ Meth K C m f ∧ FnOk P w K mg base (CXN P w) k f fd ps sp ∧ Binds K fd ps []
section
variable {P : Program} {w : World} {K : PySem.W.Frag} {mg : Str → Option Value} {base : Heap}
theorem fnX {x qual : Str} {st : Stmt} {f : Addr} {fd : FuncData} {N ps : List Str} {k : Nat} {sp : Sp} (F : C8.Fun K x qual st f fd) (S : FnScope N ps (C8.fnScope st)) (len : ∀ vs H Q E, sp vs H Q E → vs.length = ps.length)
    (hb : ∀ (cdv : Value) (A : Around) (outer : List Env) (s : Shared) (H : Hp) (vs : List V) (Q : VK) (E : XK), Room k (A.deeper (envOfC qual (C8.fnScope st) s.heap.objs.size f cdv)) → sp vs H Q E →
      L2N.Takes (cxOf (CXN P w) P w K mg base N qual (C8.fnScope st) f cdv A outer s H E) (fun cls d _ H' => E cls d H') →
      ∃ t, PSs (cxOf (CXN P w) P w K mg base N qual (C8.fnScope st) f cdv A outer s H E) (C8.fnBody st) t ∧ t { nx := fun _ H' => Q .non H', rt := Q } (start N vs) H) : FnOk P w K mg base (CXN P w) (k + 1) f fd ps sp := by
  obtain ⟨oc, od, dV, kV, doc, pm, an, cdv, ct, osl, rfl, lk, hcd⟩ := F.ex
  exact fn_of lk hcd S len fun A outer s H vs Q E hr hsp => hb cdv A outer s H vs Q E hr hsp (L2N.takes_of rfl rfl rfl rfl)
end
section
variable {X : Cx} {k j : Nat} {C : Addr} {x m : Str} {sp : Sp} {p pos apos : Pos} {e o : Expr} {es : List Expr} {ta : TE} {t : TA} {W : WX}
theorem pe_cx (c : CalX X.prog X.w X.K X.mg X.base k x sp) (hr : Room j X.A) (hk : k ≤ j) (tk : L2N.Takes X W) (hg : Gl X x) (ha : PA X (e :: es) t)
    (hdb : (x == ("__debug__" : Str)) = false := by decide) (he : starEach (e :: es) X.env = (false, eval e X.env) :: starEach es X.env := by rfl) (hpl : (backTo pos (starEach es X.env)).any (·.1) = false := by rfl) :
    PE X (.Call (.Name x p) (e :: es) [] pos) (tCallS sp (WE W) t) := by
  obtain ⟨f, fd, ps, F, hm, kp, b⟩ := c.ex
  exact pe_callS F (hr.mono hk) hg hm kp b (L2N.passAt tk) ha hdb he hpl
/-- an error's class, whose __init__ keeps sp -/
structure ErrC (P : Program) (w : World) (K : PySem.W.Frag) (mg : Str → Option Value) (base : Heap) (x : Str) (C : Addr) (sp : Sp) : Prop where
  oex : OexC K C
  mgc : mg x = some (.ref C)
  ini : ∃ (f : Addr) (fd : FuncData) (ps : List Str), PySem.W.findIn K (.ref C) "__init__" = some (some (.ref f)) ∧ PySem.W.typeIn K (.ref f) = some (.type "function") ∧ FnOk P w K mg base C8.CX0 1 f fd ps sp ∧ Binds K fd ps []
/-- C(e, ..), an error over ValueError -/
theorem pmk_err {e : Expr} {es : List Expr} {ta : TA} (T : ErrC X.prog X.w X.K X.mg X.base x C sp) (hr : Room j X.A) (hj : 2 ≤ j) (hg : Gl X x) (ha : PA X (e :: es) ta)
    (hdb : (x == ("__debug__" : Str)) = false := by decide) (he : starEach (e :: es) X.env = (false, eval e X.env) :: starEach es X.env := by rfl) (hpl : (backTo pos (starEach es X.env)).any (·.1) = false := by rfl) :
    L2N.PMk X (.Call (.Name x p) (e :: es) [] pos) (tMkO C sp [] ta) := by
  intro pins s σ H Q I h
  obtain ⟨fI, fd, ps, iC, tI, F1, hb⟩ := T.ini
  obtain ⟨nm, q, N, bs, bm, sn, sub, ab, col, dd, k0, k1, k2, k3, k5, hC, hbm⟩ := T.oex.cls
  refine wpAny_Call_Name_kw (ld_glob I hg T.mgc (PySem.W.callWith_K (h₀ := X.base) I.ok.mod.kin T.oex.kC (thn (ha.run pos pins s σ H _ I h) fun us s1 hh => ?_) he hpl) hdb)
  obtain ⟨vs, H1, I1, r1, hz, q1⟩ := hh
  refine ⟨I1.kIn, (show wpAny _ _ (call (.ref C) us) _ _ _ from ?_)⟩
  obtain ⟨hp, g, dr, tk, os⟩ := s1
  have hsz : hp.objs.size ≤ hp.objs.size + 1 := by omega
  have hq := q1 _ (I1.hok.fresh hsz)
  have kk : ∀ b o, hp.get? b = some o → ((hp.push (PySem.W.kdv_tup us)).push (PySem.HandSPX.excO C hp.objs.size)).get? b = some o := fun b o z => Heap.get?_push_of_some _ (Heap.get?_push_of_some _ z)
  have hnew : ((hp.push (PySem.W.kdv_tup us)).push (PySem.HandSPX.excO C hp.objs.size)).get? (hp.objs.size + 1) = some (PySem.HandSPX.excO C hp.objs.size) := by heap_get
  have I2 : Inv X pins σ (upd H1 (hp.objs.size + 1) (exo (hp.objs.size + 1) C none)) ⟨_, g, dr, tk, os⟩ := I1.laid (t' := tk) (a := hp.objs.size + 1) (o := exo (hp.objs.size + 1) C none) (h' := (hp.push (PySem.W.kdv_tup us)).push (PySem.HandSPX.excO C hp.objs.size)) kk hsz (exo_ok hnew)
  have r2 : Vals (V.ref (hp.objs.size + 1) :: (vs ++ [])) (Value.ref (hp.objs.size + 1) :: us) := by rw [List.append_nil]; exact .cons rfl r1
  have hl : (Value.ref (hp.objs.size + 1) :: us).length = ps.length := by rw [← r2.length]; exact F1.len _ _ _ _ hq
  have hbb := hb _ (Value.ref (hp.objs.size + 1) :: us) I2.kIn (by rw [List.append_nil]; exact hl)
  rw [List.append_nil] at hbb
  have hus : us.length ≤ sizeLine := by rw [← Paired.length r1, sizeLine_eq]; omega
  have hr2 : Room (1 + 1) X.A := hr.mono hj
  refine wpAny_call (PySem.HandSPX.call_own F.excBase_ValueError (fun Y => PySem.HandSPX.refsVE_contains Y bm hbm) (I1.kIn _ _ hC) (PySem.W.looks_findIn I1.kIn iC) (fun self => PySem.W.bind_fn I1.kIn self tI) hus
    (codeAny_mono (F1.run _ X.stack _ _ ⟨Value.ref (hp.objs.size + 1) :: us, []⟩ (Value.ref (hp.objs.size + 1) :: us) _ _ (fun _ _ _ => False) (hr2.make C us []) (I2.env0.make C us []) hbb r2 hq) fun r s' hq' => ?_))
  cases r with
  | error er => exact hq'.elim
  | ok fl =>
    cases fl with
    | next => exact hq'.elim
    | brk => exact hq'.elim
    | cont => exact hq'.elim
    | ret u =>
      obtain ⟨v, H2, os2, bare2, un2, hok2, rv, ev, d, fs, ea, ed, hd1, q2⟩ := hq'
      subst ev
      obtain ⟨h2, g2, d2, t2, os'⟩ := s'
      obtain ⟨t0, G, J, kG, ge, hoe, na⟩ := mk_end0 (d2 := d2) (t2 := t2) I1 hsz kk un2 hok2 os2 bare2 ea ed hd1
      exact ⟨rv, _, _, _, ⟨G, g2, d2, t2, os'⟩, _, .ref C, some d, rfl, J, kG, ge, hoe, ⟨rfl, rfl, fun vs' z => by cases z; rfl⟩, rfl, rfl, na, rfl, bare2, raises_own T.oex.exC T.oex.tyC, q2⟩
theorem takes0 : L2N.Takes X (fun _ _ _ _ => False) := fun u s' ⟨_, _, _, _, _, _, _, _, _, _, _, _, _, _, _, _, z⟩ => z.elim
end

/-! ### isinstance of the caught error, its fields -/
/-- what an error's class must say -/
structure ErrI (K : PySem.W.Frag) (D : Addr) : Prop where
  cl : (PySem.W.clsIn K D).isSome = true
  hg : PySem.W.findIn K (.ref D) "__getattribute__" = some (some (.builtin "BaseException.__getattribute__"))
  hk : PySem.W.findIn K (.ref D) "__getattr__" = some none
  hs : PySem.W.subIn K (.ref D) (.type "BaseException") = some true
  ha : PySem.W.findIn K (.ref D) "__class__" = some (some (.builtin "object.__class__"))
  hn : PySem.W.specialIn K (.builtin "object.__class__") "__get__" = some (some (.builtin "getset_descriptor.__get__"))
  ht : PySem.W.takesIn K (.builtin "object.__class__") = some true
  hm : PySem.W.mroIn K D (.type "object") = some true
  hd : PySem.W.hasDictIn K D = true
theorem ErrI.xf {K : PySem.W.Frag} {D : Addr} (h : ErrI K D) : XfC K D := ⟨h.hg, h.hk, h.hs, h.hd⟩
def rIsD (K : PySem.W.Frag) (a : Addr) (cls : Value) (d : Option Addr) : List V → Hp → VK → Prop := fun xs H Q => ∃ (D dd : Addr) (fs : List (Str × V)) (c : V) (cv : Value) (b : Bool), cls = .ref D ∧ d = some dd ∧ ErrI K D ∧ H dd = some (.xd fs) ∧ xs = [.ref a, c] ∧ (∀ u, RelV c u → u = cv) ∧ PySem.W.kitOne K (.ref D) cv = some b ∧ Q (.bl b) H
theorem call_isD {X : Cx} {a : Addr} {oe : Obj} {cls : Value} {d : Option Addr} {pn : List (Addr × Obj)} (hz : Zc cls d oe) (hf : ∃ vs, oe.data = .fields vs) : CallR (X.suite a ((a, oe) :: pn)) (.builtin "isinstance") (rIsD X.K a cls d) := by
  intro pins s σ H xs us Q I r h
  obtain ⟨D, dd, fs, c, cv, b, rfl, rfl, T, ed, rfl, hcv, e, q⟩ := h
  cases r with
  | cons rx rr =>
    cases rr with
    | cons rt rr =>
      cases rr
      cases rx
      have ec := hcv _ rt
      subst ec
      obtain ⟨hget, _⟩ := I.pin (a, oe) (List.mem_append.mpr (.inl List.mem_cons_self))
      obtain ⟨vs, hv⟩ := hf
      have hx : ObjOk X.prog X.w H s.heap dd (.xd fs) := I.hok dd _ ed
      obtain ⟨mA, hns, _⟩ := hx
      obtain ⟨od, ho, _⟩ := lookIn_ns hns
      have J : PySem.W.InstAt s.heap a oe D (some od) := ⟨hget, hz.1, by unfold PySem.W.notCls; rw [hv] <;> rfl, by rw [hz.2]; exact ho⟩
      exact PySem.W.kia_one (PySem.W.kitx_exc T.cl T.hg T.hk T.hs T.ha T.hn T.ht T.hm) I.kIn J e (fun z => nomatch z) fun tk => ⟨.bl b, H, I.kept (t' := tk) fun _ _ z => z, rfl, q⟩
/-- .. both for a class of the program and a built-in one -/
theorem rel_ref {a : Addr} : ∀ u, RelV (.ref a) u → u = .ref a := fun _ h => h
theorem rel_ty {n : String} : ∀ u, RelV (.ty n) u → u = .type n := fun _ h => h

/-! ### defs called where an error is handled -/
structure CalH (P : Program) (w : World) (K : PySem.W.Frag) (mg : Str → Option Value) (base : Heap) (k : Nat) (x : Str) (sp : Sp) : Prop where
  ex : ∃ (f : Addr) (fd : FuncData) (ps : List Str), L2H.FnH P w K mg base C8.CX0 k f fd ps sp ∧ mg x = some (.ref f) ∧ PySem.W.keepIn K (.ref f) = true ∧ Binds K fd ps []
section
variable {P : Program} {w : World} {K : PySem.W.Frag} {mg : Str → Option Value} {base : Heap}
theorem fnH0 {x qual : Str} {st : Stmt} {f : Addr} {fd : FuncData} {N ps : List Str} {k : Nat} {sp : Sp} (F : C8.Fun K x qual st f fd) (S : FnScope N ps (C8.fnScope st)) (len : ∀ vs H Q E, sp vs H Q E → vs.length = ps.length)
    (hb : ∀ (cdv : Value) (A : Around) (outer : List Env) (s : Shared) (H : Hp) (vs : List V) (Q : VK) (E : XK) (p : Addr × Obj), L2H.RoomH k (A.deeper (envOfC qual (C8.fnScope st) s.heap.objs.size f cdv)) → sp vs H Q E →
      L2H.HotC (L2H.cxH C8.CX0 P w K mg base N qual (C8.fnScope st) f cdv A outer s H E p).nox →
      ∃ t, PSs (L2H.cxH C8.CX0 P w K mg base N qual (C8.fnScope st) f cdv A outer s H E p).nox (C8.fnBody st) t ∧ t { nx := fun _ H' => Q .non H', rt := Q } (start N vs) H) : L2H.FnH P w K mg base C8.CX0 (k + 1) f fd ps sp := by
  obtain ⟨oc, od, dV, kV, doc, pm, an, cdv, ct, osl, rfl, lk, hcd⟩ := F.ex
  refine L2H.fn_ofH lk hcd S len fun A outer s H vs Q E p hot hr hsp => ?_
  obtain ⟨t, h, q⟩ := hb cdv A outer s H vs Q E p hr hsp ⟨p, hot, List.mem_singleton.mpr rfl⟩
  exact ⟨t, h.nox, q⟩
end
section
variable {X : Cx} {k j : Nat} {x : Str} {sp : Sp} {p pos : Pos} {e : Expr} {es : List Expr} {t : TA}
theorem pe_ch (c : CalH X.prog X.w X.K X.mg X.base k x sp) (hr : L2H.RoomH j X.A) (hk : k ≤ j) (hc : L2H.HotC X) (hg : Gl X x) (ha : PA X (e :: es) t)
    (hdb : (x == ("__debug__" : Str)) = false := by decide) (he : starEach (e :: es) X.env = (false, eval e X.env) :: starEach es X.env := by rfl) (hpl : (backTo pos (starEach es X.env)).any (·.1) = false := by rfl) :
    PE X (.Call (.Name x p) (e :: es) [] pos) (tCallS sp (fun _ => C8.E0) t) := by
  obtain ⟨f, fd, ps, F, hm, kp, b⟩ := c.ex
  exact L2H.pe_callH F (hr.mono hk) hc hg hm kp b (fun σ pins H s e s' I z => z.elim) ha hdb he hpl
theorem hotS {a : Addr} {oe : Obj} {cls : Value} {d : Option Addr} {pn : List (Addr × Obj)} (hz : L2N.Zn cls d oe) (hf : ∃ vs, oe.data = .fields vs) : L2H.HotC (X.suite a ((a, oe) :: pn)) := by
  obtain ⟨vs, hv⟩ := hf
  exact ⟨(a, oe), ⟨rfl, vs, hv, hz.2.2 vs hv⟩, List.mem_cons_self⟩
theorem roomS {a : Addr} {pn : List (Addr × Obj)} (hr : Room j X.A) : L2H.RoomH j (X.suite a pn).A := ⟨hr.dp, hr.un⟩
end
end RJ
end

section
set_option maxRecDepth 100000
set_option maxHeartbeats 2000000
namespace RJ
open PySem PySem.Spec PyProof.Rows L2
section
variable {P : Program} {w : World} {K : PySem.W.Frag} {mg : Str → Option Value} {base : Heap} {CX : CXT} {k : Nat} {f : Addr} {fd : FuncData} {ps : List Str} {sp sp' : Sp}
/-- a def that raises nothing, where errors are let out -/
theorem FnOk.lift (F : FnOk P w K mg base C8.CX0 k f fd ps sp) : FnOk P w K mg base CX k f fd ps sp :=
  ⟨F.len, fun A outer s H args us vs Q E hr e0 hb r h => codeAny_mono (F.run A outer s H args us vs Q E hr e0 hb r h) fun r s' hq => by
    cases r with
    | error e => exact hq.elim
    | ok fl => cases fl <;> exact hq⟩
/-- two promises of one def -/
theorem FnOk.or (F : FnOk P w K mg base CX k f fd ps sp) (G : FnOk P w K mg base CX k f fd ps sp') : FnOk P w K mg base CX k f fd ps (fun vs H Q E => sp vs H Q E ∨ sp' vs H Q E) :=
  ⟨fun vs H Q E h => h.elim (F.len vs H Q E) (G.len vs H Q E), fun A outer s H args us vs Q E hr e0 hb r h => h.elim (F.run A outer s H args us vs Q E hr e0 hb r) (G.run A outer s H args us vs Q E hr e0 hb r)⟩
end
/-- a class that is made by its name, whose __init__ may raise -/
structure MakX (P : Program) (w : World) (K : PySem.W.Frag) (mg : Str → Option Value) (base : Heap) (k : Nat) (x : Str) (C : Addr) (sp : Sp) : Prop where
  ex : ∃ (f : Addr) (fd : FuncData) (ps : List Str), Mk K C f ∧ FnOk P w K mg base (CXN P w) k f fd ps sp ∧ mg x = some (.ref C) ∧ Binds K fd ps []
section
variable {X : Cx} {k j : Nat} {C f : Addr} {fd : FuncData} {ps : List Str} {x : Str} {sp : Sp} {p pos : Pos} {e : Expr} {es : List Expr} {t : TA} {W : WX}
def tMakeS (C : Addr) (sp : Sp) (E : L2.St → XK) (t : TA) : TE := fun σ H Q => t σ H fun vs H1 => ∀ x dx, H1 x = none → H1 dx = none → dx ≠ x → sp (.ref x :: vs) (upd (upd H1 dx (.own x)) x (.ins C dx [])) (fun v H2 => v = .non ∧ Q (.ref x) H2) (E σ)
theorem run_makeS {pins : List (Addr × Obj)} {σ : L2.St} {H : Hp} {s : Shared} {Q : VK} {us : List Value} {vs : List V} {E : L2.St → XK} (M : Mk X.K C f) (F : FnOk X.prog X.w X.K X.mg X.base (CXN X.prog X.w) k f fd ps sp) (hr : Room (k + 1) X.A) (hb : Binds X.K fd ps [])
    (hx : PassesAt (CXN X.prog X.w) X σ (E σ)) (I : Inv X pins σ H s) (r : Vals vs us)
    (h : ∀ x dx, H x = none → H dx = none → dx ≠ x → sp (.ref x :: vs) (upd (upd H dx (.own x)) x (.ins C dx [])) (fun v H2 => v = .non ∧ Q (.ref x) H2) (E σ)) :
    wpAny (model X.prog X.w) X.A (call (.ref C) us) (EP X pins σ Q) X.xe s := by
  have hq := h (s.heap.objs.size + 1) s.heap.objs.size (I.hok.fresh (Nat.le_succ _)) (I.hok.fresh (Nat.le_refl _)) (Nat.ne_of_lt (Nat.lt_succ_self _))
  have I2 := Inv.made (C := C) I
  have r2 : Vals (V.ref (s.heap.objs.size + 1) :: vs) (Value.ref (s.heap.objs.size + 1) :: us) := .cons rfl r
  have hl : (Value.ref (s.heap.objs.size + 1) :: us).length = ps.length := by rw [← r2.length]; exact F.len _ _ _ _ hq
  have hbb := hb _ (Value.ref (s.heap.objs.size + 1) :: us) I2.kIn (by rw [List.append_nil]; exact hl)
  rw [List.append_nil] at hbb
  refine wpAny_call (make_map (f := f) I.kIn M.makes M.init (beq_iff_eq.mp M.fn) (codeAny_mono (F.run _ X.stack _ _ ⟨Value.ref (s.heap.objs.size + 1) :: us, []⟩ (Value.ref (s.heap.objs.size + 1) :: us) _ _ (E σ) (hr.make C us []) (I2.env0.make C us []) hbb r2 hq) fun r s' hq' => ?_))
  cases r with
  | error e => exact hx pins _ _ e s' I2 hq'
  | ok fl =>
    cases fl with
    | next => exact hq'.elim
    | brk => exact hq'.elim
    | cont => exact hq'.elim
    | ret u =>
      obtain ⟨v, H', I3, rv, ev, q3⟩ := I2.after hq'
      subst ev
      exact ⟨rv, ⟨V.ref (s.heap.objs.size + 1), H', I3, rfl, q3⟩⟩
theorem pe_makeS (c : MakX X.prog X.w X.K X.mg X.base k x C sp) (hr : Room j X.A) (hk : k + 1 ≤ j) (tk : L2N.Takes X W) (hg : Gl X x) (ha : PA X (e :: es) t)
    (hdb : (x == ("__debug__" : Str)) = false := by decide) (he : starEach (e :: es) X.env = (false, eval e X.env) :: starEach es X.env := by rfl) (hpl : (backTo pos (starEach es X.env)).any (·.1) = false := by rfl) :
    PE X (.Call (.Name x p) (e :: es) [] pos) (tMakeS C sp (WE W) t) := by
  obtain ⟨f, fd, ps, M, F, hm, b⟩ := c.ex
  refine ⟨fun pins s σ H Q I h => wpAny_Call_Name_kw (ld_glob I hg hm (PySem.W.callWith_K (h₀ := X.base) I.ok.mod.kin M.kp (thn (ha.run pos pins s σ H _ I h) fun us s1 hh => ?_) he hpl) hdb)⟩
  obtain ⟨vs, H1, I1, r, q⟩ := hh
  exact ⟨I1.kIn, run_makeS M F (hr.mono hk) b (L2N.passAt tk σ) I1 r q⟩
end
/-- isinstance of the caught error against a tuple of classes -/
def rIsDT (K : PySem.W.Frag) (a : Addr) (cls : Value) (d : Option Addr) : List V → Hp → VK → Prop := fun xs H Q => ∃ (D dd tp : Addr) (fs : List (Str × V)) (cs : List V) (ws : List Value) (b : Bool), cls = .ref D ∧ d = some dd ∧ ErrI K D ∧ H dd = some (.xd fs) ∧ xs = [.ref a, .ref tp] ∧ H tp = some (.tup cs) ∧ (∀ us, Vals cs us → us = ws) ∧ PySem.W.kitAny K (.ref D) ws = some b ∧ Q (.bl b) H
theorem call_isDT {X : Cx} {a : Addr} {oe : Obj} {cls : Value} {d : Option Addr} {pn : List (Addr × Obj)} (hz : Zc cls d oe) (hf : ∃ vs, oe.data = .fields vs) : CallR (X.suite a ((a, oe) :: pn)) (.builtin "isinstance") (rIsDT X.K a cls d) := by
  intro pins s σ H xs us Q I r h
  obtain ⟨D, dd, tp, fs, cs, ws, b, rfl, rfl, T, ed, rfl, htp, hws, e, q⟩ := h
  obtain ⟨u1, u2, rfl, r1, r2⟩ := vals2 r
  cases (show u1 = Value.ref a from r1)
  cases (show u2 = Value.ref tp from r2)
  obtain ⟨hget, _⟩ := I.pin (a, oe) (List.mem_append.mpr (.inl List.mem_cons_self))
  obtain ⟨vs, hv⟩ := hf
  have hx : ObjOk X.prog X.w H s.heap dd (.xd fs) := I.hok dd _ ed
  obtain ⟨mA, hns, _⟩ := hx
  obtain ⟨od, ho, _⟩ := lookIn_ns hns
  have J : PySem.W.InstAt s.heap a oe D (some od) := ⟨hget, hz.1, by unfold PySem.W.notCls; rw [hv] <;> rfl, by rw [hz.2]; exact ho⟩
  have hT : ObjOk X.prog X.w H s.heap tp (.tup cs) := I.hok tp _ htp
  obtain ⟨_, its, rv, o, g1, g2, n, g3⟩ := hT
  have e3 := hws its rv
  subst e3
  obtain ⟨oc, od2, dt, sl⟩ := o
  simp only at g2 g3
  subst g2 g3
  exact PySem.W.kia_tup (PySem.W.kitx_exc T.cl T.hg T.hk T.hs T.ha T.hn T.ht T.hm) I.kIn J g1 e (fun z => nomatch z) fun tk => ⟨.bl b, H, I.kept (t' := tk) fun _ _ z => z, rfl, q⟩
theorem vals_refs : ∀ {as : List Addr} {us : List Value}, Vals (as.map V.ref) us → us = as.map Value.ref
  | [], _, .nil => rfl
  | a :: as, _, .cons r t => by rw [vals_refs t, show _ = Value.ref a from r]; rfl
end RJ
end

section
set_option maxRecDepth 100000
set_option maxHeartbeats 2000000
namespace RJ
open PySem PySem.Spec PyProof.Rows L2
/-! ### methods that may raise -/
def tMethX (C : Addr) (m : Str) (sp : Sp) (E : L2.St → XK) (ta : TE) (t : TA) : TE := fun σ H Q => ta σ H fun x H1 => ∃ a dx fs, x = .ref a ∧ H1 a = some (.ins C dx fs) ∧ fs.lookup m = none ∧ t σ H1 fun vs H2 => sp (x :: vs) H2 Q (E σ)
section
variable {X : Cx} {k j : Nat} {C : Addr} {m : Str} {sp : Sp} {p pos apos : Pos} {e o : Expr} {es : List Expr} {ta : TE} {t : TA} {W : WX}
theorem pe_mx {pl : Sem Bool} (c : MetX X.prog X.w X.K X.mg X.base k C m sp) (hr : Room j X.A) (hk : k ≤ j) (tk : L2N.Takes X W) (he : PE X o ta) (ha : PA X (e :: es) t)
    (hst : starEach (e :: es) X.env = (false, eval e X.env) :: starEach es X.env := by rfl) (hpl : (backTo pos (starEach es X.env)).any (·.1) = false := by rfl)
    (ht : eval (.Call (.Attribute o m apos) (e :: es) [] pos) X.env = (do
      let ov ← eval o X.env
      standAt apos.atName
      let (f, first) ← holding [ov] (getMethod ov m pl)
      callWith pos f first (backTo pos (starEach (e :: es) X.env)) (backToKw pos (keywordEach [] X.env))) := by rfl) :
    PE X (.Call (.Attribute o m apos) (e :: es) [] pos) (tMethX C m sp (WE W) ta t) := by
  obtain ⟨f, fd, ps, hc, hm, F, b⟩ := c.ex
  refine ⟨fun pins s σ H Q I h => ?_⟩
  refine PySem.W.methodCall_KW (pl := pl) (thn (he.run pins s σ H _ I h) fun u s1 ⟨x, H1, I1, rx, a, dx, fs, ex, ea, l, q⟩ => ?_) ht
  subst ex
  obtain rfl : u = Value.ref a := rx
  refine getmeth_ok I1 ea hc hm l ?_
  refine PySem.W.callWith_K (first := [.ref a]) (h₀ := X.base) I.ok.mod.kin hm.kp (thn (ha.run pos pins s1 σ H1 _ I1 q) fun us s2 ⟨vs, H2, I2, r, q2⟩ => ⟨I2.kIn, ?_⟩) hst hpl
  exact run_fnS (us := .ref a :: us) (vs := .ref a :: vs) F (hr.mono hk) b (L2N.passAt tk σ) I2 (.cons rfl r) q2
end
end RJ
end

section
set_option maxRecDepth 100000
set_option maxHeartbeats 2000000
namespace RJ
open PySem PySem.Spec PyProof.Rows L2
/-! ### comprehensions whose elements may raise -/
/-- what is due when the block of a comprehension with the frame ce has run -/
def postX (M : Model) (A : Around) (E : Value → Shared → Prop) (use : Option (Value → Sem Unit)) (Q : Value → Shared → Prop) (acc : Value) (ce : Env) (r : Result) (s' : Shared) : Prop :=
  match r with
  | .ok f => compPost M A E use Q acc ce.locals (.ok f) s'
  | .error x => ∃ m, s'.heap.Ns ce.locals m ∧ ∀ h', Heap.SameBut ce.locals s'.heap h' → wpAny M A (passOn "comprehension.variables-let-go" x ce : Sem Value) (fun _ _ => False) E { s' with heap := h' }
theorem noteFrame_eq {x : Value} {e1 e2 : Env} (h : e1.frame = e2.frame) : noteFrame x e1 = noteFrame x e2 := by
  unfold noteFrame PySem.frameOf
  rw [h]
theorem passOn_eq {α : Type} {w : String} {x : Value} {e1 e2 : Env} (h : e1.frame = e2.frame) : (passOn w x e1 : Sem α) = passOn w x e2 := by
  unfold PySem.passOn
  rw [h]
section
variable {M : Model} {A : Around} {E : Value → Shared → Prop} {s : Shared} {env : Env}
theorem comp_run {e : Expr} {scope : Scope} {pos : Pos} {newAcc first : Sem Value} {g : Comprehension} {gs : List Comprehension} {cl : List (Str × Addr)} {use : Option (Value → Sem Unit)} {Q : Value → Shared → Prop}
    (hcl : clausesOf e = g :: gs) (hs : ∀ x, foldedSetIterable g.iter env x = pure x) (hclos : closureFor scope env = pure cl) (hkind : scope.kind = .function)
    (hnames : ∀ x ∈ scope.names, x.2 = .local → scope.names.lookup x.1 = some .local)
    (h : wpAny M A first (fun x s₁ => wpAny M A (pyIter x) (fun it s₂ => wpAny M A newAcc (fun acc s₃ =>
      wpAny M A (newFunctionEnv scope env.globals cl [] env.qual none .none (some env)) (fun cenv s₄ =>
        codeAny M A (.compStart e 0 it acc { cenv with scope := relabel scope env }) (postX M A E use Q acc { cenv with scope := relabel scope env }) s₄) E s₃) E s₂) E s₁) E s) :
    wpAny M A (comprehension e scope env pos newAcc false first use) Q E s := by
  have err : ∀ {α : Type} {t : Sem α} {P P' : α → Shared → Prop} {s : Shared}, wpAny M A t P E s → (∀ a s, P a s → P' a s) → wpAny M A t P' E s := fun x y => wpAny_mono x y fun _ _ z => z
  unfold comprehension
  rw [hclos, hcl]
  refine wpAny_bind (err h fun x s₁ h₁ => wpAny_bind (wpAny_standAt (wpAny_bind (wpAny_of_eq (hs x) (wpAny_bind (wpAny_holding (err h₁ fun it s₂ h₂ => ?_)))))))
  refine wpAny_standIf (wpAny_bind (err h₂ fun acc s₃ h₃ => wpAny_bind (wpAny_pure (wpAny_bind (err h₃ fun cenv s₄ h₄ => ?_)))))
  dsimp only
  have loc : ∀ x ∈ (scope.names.filter fun x => (x.2 == .local || x.2 == .cell) && x.1 != (".0" : Str)).reverse, x.2 = .local →
      Env.kindOf { cenv with scope := relabel scope env } x.1 = some .local := fun x hx hl => lookup_relabel_local (hnames x (List.mem_filter.mp (List.mem_reverse.mp hx)).1 hl)
  have loc' : ∀ x ∈ (scope.names.filter fun x => (x.2 == .local || x.2 == .cell) && x.1 != (".0" : Str)).reverse.drop 1 ++ (scope.names.filter fun x => (x.2 == .local || x.2 == .cell) && x.1 != (".0" : Str)).reverse.take 1,
      x.2 = .local → Env.kindOf { cenv with scope := relabel scope env } x.1 = some .local := fun x hx => (List.mem_append.mp hx).elim (fun z => loc x (List.mem_of_mem_drop z)) fun z => loc x (List.mem_of_mem_take z)
  refine wpAny_holding (wpAny_bind (wpAny_attempt (wpAny_holding (wpAny_run (codeAny_mono h₄ fun r s' hr => ?_)))))
  cases r with
  | error x =>
    obtain ⟨m, hn, k⟩ := hr
    exact wpAny_bind (wpAny_holding (wpAny_comp_letGo (cenv := { cenv with scope := relabel scope env }) hkind _ s' m loc hn fun h' _ _ sb => err (k h' sb) fun _ _ z => z.elim))
  | ok f =>
    cases use with
    | none =>
      obtain ⟨m, hn, k⟩ := hr
      exact wpAny_bind (wpAny_holding (wpAny_comp_letGo (cenv := { cenv with scope := relabel scope env }) hkind _ s' m loc hn fun h' _ _ sb => wpAny_pure (k h' sb)))
    | some u =>
      refine wpAny_bind (wpAny_rule (wpAny_bind (wpAny_holding (err hr fun _ s'' hr' => ?_))))
      obtain ⟨m, hn, k⟩ := hr'
      exact wpAny_bind (wpAny_comp_letGo (cenv := { cenv with scope := relabel scope env }) hkind _ s'' m loc' hn fun h' _ _ sb => wpAny_pure (k h' sb))
end

/-! ### an object of the block is let go -/
theorem hide_ne {h : Heap} {C b : Addr} {o : Obj} (e : (PySem.W.hideAll h [C]).get? b = some o) : b ≠ C ∧ h.get? b = some o := by
  refine ⟨fun z => ?_, PySem.W.of_hideAll _ e⟩
  rw [PySem.W.hideAll_none [C] (by simp [z])] at e
  cases e
theorem hide_get {h : Heap} {C b : Addr} {o : Obj} (e : h.get? b = some o) (n : b ≠ C) : (PySem.W.hideAll h [C]).get? b = some o := PySem.W.hideAll_get _ e (by simpa using n)
theorem hide_non {h : Heap} {C b : Addr} (e : h.get? b = none) : (PySem.W.hideAll h [C]).get? b = none := by
  cases q : (PySem.W.hideAll h [C]).get? b with
  | none => rfl
  | some o => rw [(hide_ne q).2] at e; cases e
theorem frames_hide {B h h' : Heap} {C : Addr} (k : ∀ b o, b ≠ C → h.get? b = some o → h'.get? b = some o) : ∀ {l : List Env}, h.FunFrames B l → C ∉ frs l → h'.FunFrames (PySem.W.hideAll B [C]) l
  | [], _, _ => trivial
  | env :: l, x, n => by
    obtain ⟨hk, ⟨L, o, hf, hn, ho, hd⟩, hr⟩ := x
    have m : ∀ b, b ∈ frs l → b ∈ frs (env :: l) := fun b hb => by
      obtain ⟨e, he, q⟩ := List.mem_filterMap.mp hb
      exact List.mem_filterMap.mpr ⟨e, List.mem_cons_of_mem _ he, q⟩
    exact ⟨hk, ⟨L, o, hf, hide_non hn, k L o (fun z => n (z ▸ List.mem_filterMap.mpr ⟨env, List.mem_cons_self, hf⟩)) ho, hd⟩, frames_hide k hr fun z => n (m C z)⟩
theorem held_hide {B h h' : Heap} {l : List Env} {a C L : Addr} {Z : Obj → Prop} {oC : Obj} (x : PySem.HandSPX.HeldZ B l a Z L h) (hC : B.get? C = some oC) (nC : C ∉ frs l) (k : ∀ b o, b ≠ C → h.get? b = some o → h'.get? b = some o) :
    PySem.HandSPX.HeldZ (PySem.W.hideAll B [C]) l a Z L h' := by
  obtain ⟨st, na, ff, oe, vs, T, oT, ts, he, hz, hd, h1, hnT, hTe, hT, hdT, h3⟩ := x
  have ne : ∀ {b : Addr}, B.get? b = none → b ≠ C := fun {b} e z => by rw [z, hC] at e; cases e
  exact ⟨fun b o e => k b o (hide_ne e).1 (st b o (hide_ne e).2), hide_non na, frames_hide k ff nC, oe, vs, T, oT, ts, k a oe (ne na) he, hz, hd, h1, hide_non hnT, hTe, k T oT (ne hnT) hT, hdT, h3⟩
theorem held_pass {M : Model} {A : Around} {E : Value → Shared → Prop} {s : Shared} {B : Heap} {l : List Env} {a L : Addr} {Z : Obj → Prop} {env : Env} {w : String} {Q : Value → Shared → Prop} (x : PySem.HandSPX.HeldZ B l a Z L s.heap) (hf : env.frame = some L)
    (hE : ∀ h', PySem.HandSPX.HeldZ B l a Z L h' → s.heap.UpToSlots h' → E (.ref a) { s with heap := h' }) : wpAny M A (passOn w (.ref a) env : Sem Value) Q E s := by
  obtain ⟨oe, vs, T, oT, ts, he, hz, hd, h1, hnT, hTe, hT, hdT, h3⟩ := x.2.2.2
  unfold PySem.passOn
  refine wpAny_bind (wpAny_field he hd h1 ?_)
  rw [if_neg (show ¬ ((Value.ref T == Value.none) = true) from by simp)]
  rw [hf]
  exact wpAny_bind (PySem.HandSPX.setFlight_onZ x fun h' hh up => wpAny_throw (hE h' hh up))
section
variable {X : Cx} {pins : List (Addr × Obj)} {σ : L2.St} {H : Hp} {s s' : Shared} {W : WX}
/-- an exception over a ground that keeps what is tracked is in our air -/
theorem xe_over (I : Inv X pins σ H s) {a : Addr} {B : Heap} {H' : Hp} {cls : Value} {d : Option Addr} (st : B.StaysIn s'.heap) (sk : L2.Sky B X.stack a (L2N.Zn cls d) X.env.locals s'.heap) (hok : HOk X.prog X.w H' B)
    (ub : UB (frs X.stack) H H' s.heap B s'.heap) (na : H' a = none) (os : s'.os = s.os) (ag : AllBare s'.gens) (w : W cls d σ H') : L2N.XE X W (.ref a) s' := by
  obtain ⟨G, g1, g2⟩ := restrict s'.heap fun b => (B.get? b).isSome || decide (b ∈ frs X.stack)
  have inB : ∀ b o, B.get? b = some o → G.get? b = some o := fun b o e => (g1 b (by simp [e])).trans (st b o e)
  have inF : ∀ b, b ∈ frs X.stack → G.get? b = s'.heap.get? b := fun b hb => g1 b (by simp [hb])
  have out : ∀ b o, G.get? b = some o → s'.heap.get? b = some o ∧ (b ∉ frs X.stack → B.get? b = some o) := fun b o e => by
    by_cases q : ((B.get? b).isSome || decide (b ∈ frs X.stack)) = true
    · rw [g1 b q] at e
      refine ⟨e, fun hb => ?_⟩
      have z : (B.get? b).isSome = true := by simpa [hb] using q
      obtain ⟨o', q'⟩ := Option.isSome_iff_exists.mp z
      rw [st b o' q'] at e
      cases e
      exact q'
    · rw [g2 b (by simpa using q)] at e
      cases e
  have slot : ∀ b o, s.heap.get? b = some o → b ∈ frs X.stack → ∃ sl, G.get? b = some { o with slots := sl } := fun b o e hb => by
    obtain ⟨sl, q⟩ := ub.slot b o e hb
    exact ⟨sl, (inF b hb).trans q⟩
  have J : Inv X pins σ H' { s with heap := G, gens := s'.gens, drawn := s'.drawn, toks := s'.toks } := I.call (ch := []) ⟨fun b o e n hb _ => inB b o (ub.keep b o e n hb), fun b o e _ hb _ => slot b o e hb, fun b o e n _ => ub.free b o e n, fun b o e _ => by
    by_cases hb : b ∈ frs X.stack
    · obtain ⟨sl, q⟩ := slot b o e hb
      exact ⟨_, q⟩
    · obtain ⟨o', q⟩ := ub.there b o e hb
      exact ⟨o', inB b o' q⟩, ub.tups, ub.frzs, ub.tbls⟩ (hok.kept inB) ag (fun _ z => nomatch z)
  exact ⟨a, B, _, pins, σ, H', cls, d, rfl, J, fun b o e hb => (out b o e).2 hb, Heap.UpToSlots.of_keeps fun b o e => (out b o e).1, sk, na, os, ag, w⟩
end
section
variable {X : Cx} {pins : List (Addr × Obj)} {σ : L2.St} {H3 : Hp} {s3 : Shared} {E : XK}
/-- what a call within a comprehension's block lets out goes out of the comprehension -/
theorem blk_out {scope : Scope} {ce : Env} {fp : List Addr} {xe : Value → Shared → Prop} {use : Option (Value → Sem Unit)} {Qf : Value → Shared → Prop} {acc : Value} (hs : X.stack = X.env :: X.outer) (hf : X.env.frame = some X.env.locals)
    (cf : ce.frame = X.env.frame) (cL : ce.locals = s3.heap.objs.size) (I3 : Inv X pins σ H3 s3) (ffp : ∀ b ∈ fp, FpOk X pins H3 b) (tk : L2N.Takes X (fun cls d _ H => E cls d H))
    (hxe : xe = notedBy (model X.prog X.w) X.A ce (fun e s' => postX (model X.prog X.w) X.A X.xe use Qf acc ce (.error e) s')) : ∀ σB : L2.St, PassesAt (CXN X.prog X.w) ((X.blk s3 H3 scope ce fp).tr [] xe) σB E := by
  intro σB pinsB H s u s' IB c
  obtain ⟨a, B, H', cls, d, rfl, fl, hok, ub, na, os, ag, hE⟩ := c
  obtain ⟨m, ⟨oC, es, ep, hoC, rC⟩, _⟩ := IB.loc
  have hoC : s.heap.get? ce.locals = some oC := hoC
  have nC : H ce.locals = none := IB.free
  have hfr : X.A.frames = some (X.env :: X.outer) := by rw [I3.ok.frames, hs]
  have nF : ce.locals ∉ frs X.stack := fun hm => by
    have z := I3.stkSub _ hm
    rw [cL] at z
    rcases List.mem_cons.mp z with z | z
    · exact absurd I3.lt (by rw [← z]; exact Nat.lt_irrefl _)
    · exact I3.nofs (Nat.le_refl _) z
  have kB : B.get? ce.locals = some oC := ub.keep _ oC hoC nC nF
  have nC' : H' ce.locals = none := ub.free _ oC hoC nC
  have J : Inv X pins σ H s := I3.call' (ch := fp) IB.os IB.base IB.hok IB.bare fun b hb => ⟨(ffp b hb).2.2.2.1, (ffp b hb).2.1, (ffp b hb).2.2.2.2.1, (ffp b hb).2.2.2.2.2⟩
  have fC : FpOk X pins H ce.locals := I3.fpOk (by rw [cL]; exact Nat.le_refl _) nC
  have JX : Inv X pins σ H { s with heap := PySem.W.hideAll s.heap [ce.locals] } := J.turned (t' := s.toks) (fun b o hb e => hide_get e hb) fC.1 fC.2.1 fC.2.2.2.1 fC.2.2.2.2.1 fC.2.2.2.2.2
  have flX : PySem.HandSPX.FlyingZ B (X.env :: X.outer) a (L2N.Zn cls d) s'.heap := by
    have z : PySem.HandSPX.FlyingZ B X.stack a (L2N.Zn cls d) s'.heap := fl
    rw [hs] at z
    exact z
  show xe (.ref a) s'
  rw [hxe]
  show wpAny (model X.prog X.w) X.A (noteFrame (.ref a) ce) _ _ s'
  rw [noteFrame_eq cf]
  refine PXN.looks_onZ L2N.Zn.steady hfr hf flX fun h1 hh1 up1 => ?_
  refine ⟨m, ⟨oC, es, ep, hh1.1 _ oC kB, rC⟩, fun h2 sb => ?_⟩
  have k12 : ∀ b o, b ≠ ce.locals → h1.get? b = some o → h2.get? b = some o := fun b o hb e => (sb.2 b hb).trans e
  have nF1 : ce.locals ∉ frs (X.env :: X.outer) := by rw [← hs]; exact nF
  refine held_pass (held_hide hh1 kB nF1 k12) (cf.trans hf) fun h3 hh3 up3 => ?_
  refine tk _ _ (xe_over JX (B := PySem.W.hideAll B [ce.locals]) hh3.1 (.inr (.inr (by rw [hs]; exact hh3))) (fun b u e => (hok b u e).stay (fun c v hc q => hide_get q fun z => ?_) (fun _ q => q) fun _ _ q => q)
    ⟨fun b o e n hb => hide_get (ub.keep b o (hide_ne e).2 n hb) (hide_ne e).1, fun b o e hb => ?_, fun b o e n => ub.free b o (hide_ne e).2 n, fun b o e hb => ?_, ub.tups, ub.frzs, ub.tbls⟩ na os ag hE)
  · rcases hc with hc | hc
    · rw [← hc, z, nC'] at e; cases e
    · rw [z, nC'] at hc; cases hc
  · obtain ⟨_, o₀, e₀, hnf⟩ := J.stack.mem hb
    rw [(hide_ne e).2] at e₀
    cases e₀
    obtain ⟨sl1, q1⟩ := ub.slot b o (hide_ne e).2 hb
    obtain ⟨sl2, q2⟩ := up1 b _ q1 hnf
    obtain ⟨sl3, q3⟩ := up3 b _ (k12 b _ (hide_ne e).1 q2) hnf
    exact ⟨sl3, q3⟩
  · obtain ⟨o', q⟩ := ub.there b o (hide_ne e).2 hb
    exact ⟨o', hide_get q (hide_ne e).1⟩
end
section
variable {X : Cx} {E : XK} {elt tg iter : Expr} {ifs : List Expr} {scope : Scope} {own : List (Str × Nat)} {pos pos' : Pos} {wi : TI} {g : TG} {tt : TT} {te : TE}
/-- a block whose iterator's objects have moved and whose locals are as before -/
structure Turns (X : Cx) (s3 : Shared) (H3 : Hp) (scope : Scope) (ce : Env) (fp : List Addr) (xe : Value → Shared → Prop) (τ : L2.St) (tn : Nat → Heap → Prop) (W : Nat → Nat → Hp → Prop) (n i : Nat) (H : Hp) (s : Shared) : Prop where
  inv : Inv ((X.blk s3 H3 scope ce fp).tr [] xe) [] τ H s
  at_ : tn i s.heap
  non : ∀ b ∈ fp, H b = none
  has : W i n H
theorem lc_coreX {pins : List (Addr × Obj)} {s : Shared} {σ : L2.St} {H : Hp} {Q : VK} {use : Option (Value → Sem Unit)} {Qf : Value → Shared → Prop} (hst : X.stack = X.env :: X.outer) (hf : X.env.frame = some X.env.locals) (tk : L2N.Takes X (fun cls d _ H => E cls d H))
    (hc : X.calm = true) (hN : X.N.Nodup) (I : Inv X pins σ H s) (hi : PI X tg iter wi) (ok : BlkOk X.N X.env.scope scope own)
    (hg : ∀ (s : Shared) (H : Hp) (C : Addr) (cl : List (Str × Addr)) (fp : List Addr) (xe : Value → Shared → Prop), PG ((X.blk s H scope (compEnvC scope cl C X.env) fp).tr [] xe) tg g)
    (ht : ∀ (s : Shared) (H : Hp) (C : Addr) (cl : List (Str × Addr)) (fp : List Addr) (xe : Value → Shared → Prop), (∀ σ : L2.St, PassesAt (CXN X.prog X.w) ((X.blk s H scope (compEnvC scope cl C X.env) fp).tr [] xe) σ E) →
      PTs ((X.blk s H scope (compEnvC scope cl C X.env) fp).tr [] xe) ifs tt)
    (he : ∀ (s : Shared) (H : Hp) (C : Addr) (cl : List (Str × Addr)) (fp : List Addr) (xe : Value → Shared → Prop), (∀ σ : L2.St, PassesAt (CXN X.prog X.w) ((X.blk s H scope (compEnvC scope cl C X.env) fp).tr [] xe) σ E) →
      PE ((X.blk s H scope (compEnvC scope cl C X.env) fp).tr [] xe) elt te)
    (hs : ∀ x, foldedSetIterable iter X.env x = pure x) (h : tLc wi g tt te (own.map (·.2)) σ H Q)
    (hRR : ∀ D C s' m H', Inv X pins σ H' s' → Q (.ref D) H' → s'.heap.Ns C m → FpOk X pins H' C → compPost (model X.prog X.w) X.A X.xe use Qf (.ref D) C (.ok .next) s') :
    wpAny (model X.prog X.w) X.A (comprehension (.ListComp elt [⟨tg, iter, ifs, 0⟩] scope pos) scope X.env pos' (newList []) false (eval iter X.env) use) Qf X.xe s := by
  have hfree : ∀ y ∈ scope.names, y.2 = .free → ∃ c, X.env.cells.lookup y.1 = some c := fun y hy e => I.ok.has _ (ok.free y hy e)
  refine comp_run (use := use) rfl hs (closure_ok hfree) ok.kind (fun y hy e => by rw [ok.uniq y hy, e]) (thn (hi.run pins s σ H _ I h) fun xv s1 hx => thn hx fun itv s2 h2 => ?_)
  obtain ⟨it, fp, tn, J, H2, e, I2, T, st2, f2, q⟩ := h2
  subst e
  refine wpAny_newObj_type (newEnv_comp ?_) (by show 0 ≤ sizeLine; decide)
  generalize hD : s2.heap.objs.size = D
  obtain ⟨W, ⟨m0, w0⟩, turn⟩ := q D (I2.hok.fresh (Nat.le_of_eq hD))
  generalize hs3 : ({ s2 with heap := s2.heap.push { cls := .type "list", data := .seq ([] : List Value).toArray } } : Shared) = s3
  have h3 : s3.heap = s2.heap.push { cls := .type "list", data := .seq ([] : List Value).toArray } := by rw [← hs3]
  have k23 : ∀ b o, s2.heap.get? b = some o → s3.heap.get? b = some o := fun b o e => by rw [h3]; exact Heap.get?_push_of_some _ e
  have I3 : Inv X pins σ (upd H2 D (.lst [])) s3 := by
    rw [← hs3]
    refine I2.laid (t' := s2.toks) (fun b o e => Heap.get?_push_of_some _ e) (Nat.le_of_eq hD) ⟨Nat.zero_le _, [], 0, .nil, ?_⟩
    rw [← hD]
    exact Heap.get?_push_size _ rfl
  have f3 : ∀ b ∈ fp, FpOk X pins (upd H2 D (.lst [])) b ∧ b < s3.heap.objs.size := fun b hb => by
    obtain ⟨o, e, _⟩ := T.obj _ _ st2 b hb
    have lt := Heap.lt_size e
    refine ⟨⟨?_, (f2 b hb).2⟩, Heap.lt_size (k23 b o e)⟩
    rw [upd_ne (by rw [← hD]; exact Nat.ne_of_lt lt)]
    exact (f2 b hb).1
  generalize hce : compEnvC scope (cellsFrom (s3.heap.objs.size + 1) scope.names (cloFrom X.env.cells scope.names [])) s3.heap.objs.size X.env = ce
  have cL : ce.locals = s3.heap.objs.size := by subst hce; rfl
  have cf : ce.frame = X.env.frame := by subst hce; rfl
  have I4 := block_start I3 ok hN f3
  rw [hce] at I4
  show codeAny _ _ (.compStart (.ListComp elt [⟨tg, iter, ifs, 0⟩] scope pos) 0 (.ref it) (.ref D) (compEnvC scope (cellsFrom (s3.heap.objs.size + 1) scope.names (cloFrom X.env.cells scope.names [])) s3.heap.objs.size X.env))
    (postX (model X.prog X.w) X.A X.xe use Qf (.ref D) (compEnvC scope (cellsFrom (s3.heap.objs.size + 1) scope.names (cloFrom X.env.cells scope.names [])) s3.heap.objs.size X.env)) { s3 with heap := pushCells (s3.heap.push { cls := .type "dict", data := .dict #[] }) scope.names }
  rw [hce]
  generalize hxe : notedBy (model X.prog X.w) X.A ce (fun e s' => postX (model X.prog X.w) X.A X.xe use Qf (.ref D) ce (.error e) s') = xe
  generalize hH3 : upd H2 D (.lst []) = H3 at I3 I4 w0 f3
  have pass := blk_out (scope := scope) (ce := ce) (fp := fp) (use := use) (Qf := Qf) (acc := .ref D) hst hf cf cL I3 (fun b hb => (f3 b hb).1) tk hxe.symm
  have pg := hg s3 H3 s3.heap.objs.size (cellsFrom (s3.heap.objs.size + 1) scope.names (cloFrom X.env.cells scope.names [])) fp xe
  have pt := ht s3 H3 s3.heap.objs.size (cellsFrom (s3.heap.objs.size + 1) scope.names (cloFrom X.env.cells scope.names [])) fp xe
  have pe := he s3 H3 s3.heap.objs.size (cellsFrom (s3.heap.objs.size + 1) scope.names (cloFrom X.env.cells scope.names [])) fp xe
  rw [hce] at pg pt pe
  have pe := pe pass
  have pt := pt pass
  have I5 : Inv ((X.blk s3 H3 scope ce fp).tr [] xe) [] (wipe σ (own.map (·.2))) H3 { s3 with heap := pushCells (s3.heap.push { cls := .type "dict", data := .dict #[] }) scope.names } := I4.toTry xe
  have st5 : tn 0 (pushCells (s3.heap.push { cls := .type "dict", data := .dict #[] }) scope.names) := T.keep _ _ _ st2 fun b _ o e => pushCells_keeps _ _ _ _ (Heap.get?_push_of_some _ (k23 b o e))
  have fps : ∀ {σ' : L2.St} {H' : Hp} {s' : Shared}, Inv ((X.blk s3 H3 scope ce fp).tr [] xe) [] σ' H' s' → (∀ b ∈ fp, H' b = none) → ∀ b ∈ fp, FpOk ((X.blk s3 H3 scope ce fp).tr [] xe) [] H' b := fun {σ' H' s'} I' hn b hb =>
    ⟨hn b hb, (I'.ok.exf b hb).1, I'.ok.exfs b hb, .inl hb, (I'.ok.exf b hb).2, fun p hp => absurd (show p ∈ ([] : List (Addr × Obj)) ++ [] from hp) (by simp)⟩
  have loop : codeAny (model X.prog X.w) X.A (.compLoop (.ListComp elt [⟨tg, iter, ifs, 0⟩] scope pos) 0 (.ref it) (.ref D) ce) (postX (model X.prog X.w) X.A X.xe use Qf (.ref D) ce)
      { s3 with heap := pushCells (s3.heap.push { cls := .type "dict", data := .dict #[] }) scope.names } := by
    refine compLoop_any (fun n s' => ∃ i H', Turns X s3 H3 scope ce fp xe (wipe σ (own.map (·.2))) tn W n i H' s') ?_ m0 ⟨0, H3, I5, st5, fun b hb => (f3 b hb).1.1, w0⟩
    rw [hxe]
    rintro n s6 ⟨i, H6, t6⟩
    rcases turn i n H6 t6.has with ⟨stop, qq⟩ | ⟨go, Nx, hNx, step⟩
    · refine thn (T.done ((X.blk s3 H3 scope ce fp).tr [] xe) rfl rfl rfl hc i [] s6 _ H6 xe t6.inv (fps t6.inv t6.non) t6.at_ stop) fun r s7 ⟨hr, I7⟩ => ?_
      subst hr
      have back : Inv X pins σ H6 s7 := I3.call' (ch := fp) I7.os I7.base I7.hok I7.bare fun b hb => ⟨(f3 b hb).1.2.2.2.1, (f3 b hb).1.2.1, (f3 b hb).1.2.2.2.2.1, (f3 b hb).1.2.2.2.2.2⟩
      obtain ⟨m, hn, _⟩ := I7.loc
      exact hRR D ce.locals s7 m H6 back qq hn (I3.fpOk (by rw [cL]; exact Nat.le_refl _) I7.free)
    · refine thn (T.item ((X.blk s3 H3 scope ce fp).tr [] xe) rfl rfl rfl hc i [] s6 _ H6 xe t6.inv (fps t6.inv t6.non) t6.at_ go) fun r s7 ⟨u, hr, h7⟩ => ?_
      subst hr
      refine thn h7 fun _ s8 ⟨x, H8, I8, r8, y8, st8, n8⟩ => ?_
      have I8' := I8.pinned (fps I8 n8) (T.obj _ _ st8)
      refine thn (pg.run _ s8 _ H8 x u _ I8' r8 (step x H8 y8)) fun _ s9 ⟨σ9, H9, I9, hw, q9⟩ => ?_
      refine thn (pt.run _ s9 σ9 H9 _ I9 q9) fun b s10 ⟨H10, I10, q10⟩ => ?_
      have next : ∀ {s' : Shared} {H' : Hp}, Inv ((X.blk s3 H3 scope ce fp).tr [] xe) ([] ++ pinsAt fp s8.heap) σ9 H' s' → Nx H' → ∃ m, m < n ∧ ∃ i H', Turns X s3 H3 scope ce fp xe (wipe σ (own.map (·.2))) tn W m i H' s' := fun {s' H'} I' nx => by
        obtain ⟨m', hm, w'⟩ := hNx H' nx
        have kept : ∀ b ∈ fp, ∀ o, s8.heap.get? b = some o → s'.heap.get? b = some o ∧ H' b = none := fun b hb o e =>
          have z := I'.pin (b, o) (List.mem_append_right _ (List.mem_append_right _ (mem_pinsAt hb e)))
          ⟨z.1, z.2.1⟩
        refine ⟨m', hm, i + 1, H', (I'.unpinned (pins := [])).weak (by rw [← hw, wipe_length]) (fun j v e => (wipe_some (by rw [hw]; exact e)).1), T.keep _ _ _ st8 fun b hb o e => (kept b hb o e).1, fun b hb => ?_, w'⟩
        obtain ⟨o, e, _⟩ := T.obj _ _ st8 b hb
        exact (kept b hb o e).2
      cases b with
      | false =>
        simp only [Bool.false_eq_true, if_false] at q10 ⊢
        exact next I10 q10
      | true =>
        simp only [if_true] at q10 ⊢
        refine thn (pe.run _ s10 σ9 H10 _ I10 q10) fun z s11 ⟨yv, H11, I11, r11, acc, hD11, hz, nx⟩ => ?_
        exact app_ok (X := (X.blk s3 H3 scope ce fp).tr [] xe) I11 hD11 hz r11 fun s12 I12 => next I12 nx
  exact codeAny_compStart_list loop (T.self X.A 0 _ _ _ st5 loop)
theorem pe_lcX (hst : X.stack = X.env :: X.outer) (hf : X.env.frame = some X.env.locals) (tk : L2N.Takes X (fun cls d _ H => E cls d H)) (hc : X.calm = true) (hN : X.N.Nodup) (hi : PI X tg iter wi) (ok : BlkOk X.N X.env.scope scope own)
    (hg : ∀ (s : Shared) (H : Hp) (C : Addr) (cl : List (Str × Addr)) (fp : List Addr) (xe : Value → Shared → Prop), PG ((X.blk s H scope (compEnvC scope cl C X.env) fp).tr [] xe) tg g)
    (ht : ∀ (s : Shared) (H : Hp) (C : Addr) (cl : List (Str × Addr)) (fp : List Addr) (xe : Value → Shared → Prop), (∀ σ : L2.St, PassesAt (CXN X.prog X.w) ((X.blk s H scope (compEnvC scope cl C X.env) fp).tr [] xe) σ E) →
      PTs ((X.blk s H scope (compEnvC scope cl C X.env) fp).tr [] xe) ifs tt)
    (he : ∀ (s : Shared) (H : Hp) (C : Addr) (cl : List (Str × Addr)) (fp : List Addr) (xe : Value → Shared → Prop), (∀ σ : L2.St, PassesAt (CXN X.prog X.w) ((X.blk s H scope (compEnvC scope cl C X.env) fp).tr [] xe) σ E) →
      PE ((X.blk s H scope (compEnvC scope cl C X.env) fp).tr [] xe) elt te)
    (hs : ∀ x, foldedSetIterable iter X.env x = pure x := by intro _; rfl) : PE X (.ListComp elt [⟨tg, iter, ifs, 0⟩] scope pos) (tLc wi g tt te (own.map (·.2))) := by
  refine ⟨fun pins s σ H Q I h => ?_⟩
  rw [eval_ListComp]
  refine lc_coreX hst hf tk hc hN I hi ok hg ht he hs h fun D C s' m H' J q hn f => ⟨m, hn, fun h' sb => ?_⟩
  exact ⟨.ref D, H', J.turned (t' := s'.toks) (fun b o hb e => (sb.2 b hb).trans e) f.1 f.2.1 f.2.2.2.1 f.2.2.2.2.1 f.2.2.2.2.2, rfl, q⟩
/-- name = [..] on one line, the name a local -/
theorem ps_setLcX {i : Nat} {y : Str} {py spos : Pos} (hst : X.stack = X.env :: X.outer) (hf : X.env.frame = some X.env.locals) (tk : L2N.Takes X (fun cls d _ H => E cls d H)) (hc : X.calm = true) (hN : X.N.Nodup) (hy : X.N[i]? = some y) (hyl : X.env.scope.names.lookup y = some .local)
    (hsw : swapsWith (.ListComp elt [⟨tg, iter, ifs, 0⟩] scope pos) (some (.Name y py)) spos.line X.env = pure true) (hi : PI X tg iter wi) (ok : BlkOk X.N X.env.scope scope own)
    (hg : ∀ (s : Shared) (H : Hp) (C : Addr) (cl : List (Str × Addr)) (fp : List Addr) (xe : Value → Shared → Prop), PG ((X.blk s H scope (compEnvC scope cl C X.env) fp).tr [] xe) tg g)
    (ht : ∀ (s : Shared) (H : Hp) (C : Addr) (cl : List (Str × Addr)) (fp : List Addr) (xe : Value → Shared → Prop), (∀ σ : L2.St, PassesAt (CXN X.prog X.w) ((X.blk s H scope (compEnvC scope cl C X.env) fp).tr [] xe) σ E) →
      PTs ((X.blk s H scope (compEnvC scope cl C X.env) fp).tr [] xe) ifs tt)
    (he : ∀ (s : Shared) (H : Hp) (C : Addr) (cl : List (Str × Addr)) (fp : List Addr) (xe : Value → Shared → Prop), (∀ σ : L2.St, PassesAt (CXN X.prog X.w) ((X.blk s H scope (compEnvC scope cl C X.env) fp).tr [] xe) σ E) →
      PE ((X.blk s H scope (compEnvC scope cl C X.env) fp).tr [] xe) elt te)
    (hs : ∀ x, foldedSetIterable iter X.env x = pure x := by intro _; rfl) : PS X (.Assign [.Name y py] (.ListComp elt [⟨tg, iter, ifs, 0⟩] scope pos) spos) (tAsg (tLc wi g tt te (own.map (·.2))) (gName i)) := by
  refine ⟨fun pins s σ H D I h => ?_⟩
  rw [exec_Assign_Name_used _ _ _ _ hsw]
  refine wpAny_bind (wpAny_standAt (wpAny_bind ?_))
  show wpAny _ X.A (do let _ ← comprehension (.ListComp elt [⟨tg, iter, ifs, 0⟩] scope pos) scope X.env (firstIterPos [⟨tg, iter, ifs, 0⟩] pos) (newList []) false (eval iter X.env) (some (assign (.Name y py) X.env))) _ _ s
  have h : tLc wi g tt te (own.map (·.2)) σ H (fun x H1 => gName i x σ H1 D.nx) := h
  refine wpAny_bind (thn (lc_coreX (Qf := fun _ s' => SP X pins D .next s') hst hf tk hc hN I hi ok hg ht he hs h fun L C s' m H' J q hn f => ?_) fun _ _ hq => wpAny_pure (wpAny_pure hq))
  show wpAny _ _ (assign (.Name y py) X.env (.ref L)) _ _ _
  refine wpAny_assign_Name (store_ok2 (v := V.ref L) J hN hy (.inl hyl) rfl (fun s2 J2 ⟨a, sb, ha⟩ => ?_) (.inr hyl))
  have away : C ≠ a := ha.elim (fun z => z ▸ f.2.1) fun z e => f.2.2.2.2.1 y a z e.symm
  exact ⟨m, hn.sameBut sb away, fun h' sb' => ⟨_, H', J2.turned (t' := s2.toks) (fun b o hb e => (sb'.2 b hb).trans e) f.1 f.2.1 f.2.2.2.1 f.2.2.2.2.1 f.2.2.2.2.2, q⟩⟩
end
/-! ### calls within such a block -/
section
variable {X : Cx} {E : XK} {k j : Nat} {C : Addr} {x m : Str} {sp : Sp} {p pos apos : Pos} {e o : Expr} {es : List Expr} {ta : TE} {t : TA}
theorem pe_cxB (c : CalX X.prog X.w X.K X.mg X.base k x sp) (hr : Room j X.A) (hk : k ≤ j) (hx : ∀ σ : L2.St, PassesAt (CXN X.prog X.w) X σ E) (hg : Gl X x) (ha : PA X (e :: es) t)
    (hdb : (x == ("__debug__" : Str)) = false := by decide) (he : starEach (e :: es) X.env = (false, eval e X.env) :: starEach es X.env := by rfl) (hpl : (backTo pos (starEach es X.env)).any (·.1) = false := by rfl) :
    PE X (.Call (.Name x p) (e :: es) [] pos) (tCallS sp (fun _ => E) t) := by
  obtain ⟨f, fd, ps, F, hm, kp, b⟩ := c.ex
  exact pe_callS F (hr.mono hk) hg hm kp b hx ha hdb he hpl
end
end RJ
end

section
set_option maxRecDepth 100000
set_option maxHeartbeats 2000000
namespace RJ
open PySem PySem.Spec PyProof.Rows L2
section
variable {X : Cx} {E : XK} {k j : Nat} {C : Addr} {m : Str} {sp : Sp} {p pos apos : Pos} {e o : Expr} {es : List Expr} {ta : TE} {t : TA}
/-- a method that may raise, within a comprehension's block -/
theorem pe_mxB {pl : Sem Bool} (c : MetX X.prog X.w X.K X.mg X.base k C m sp) (hr : Room j X.A) (hk : k ≤ j) (hx : ∀ σ : L2.St, PassesAt (CXN X.prog X.w) X σ E) (he : PE X o ta) (ha : PA X (e :: es) t)
    (hst : starEach (e :: es) X.env = (false, eval e X.env) :: starEach es X.env := by rfl) (hpl : (backTo pos (starEach es X.env)).any (·.1) = false := by rfl)
    (ht : eval (.Call (.Attribute o m apos) (e :: es) [] pos) X.env = (do
      let ov ← eval o X.env
      standAt apos.atName
      let (f, first) ← holding [ov] (getMethod ov m pl)
      callWith pos f first (backTo pos (starEach (e :: es) X.env)) (backToKw pos (keywordEach [] X.env))) := by rfl) :
    PE X (.Call (.Attribute o m apos) (e :: es) [] pos) (tMethX C m sp (fun _ => E) ta t) := by
  obtain ⟨f, fd, ps, hc, hm, F, b⟩ := c.ex
  refine ⟨fun pins s σ H Q I h => ?_⟩
  refine PySem.W.methodCall_KW (pl := pl) (thn (he.run pins s σ H _ I h) fun u s1 ⟨x, H1, I1, rx, a, dx, fs, ex, ea, l, q⟩ => ?_) ht
  subst ex
  obtain rfl : u = Value.ref a := rx
  refine getmeth_ok I1 ea hc hm l ?_
  refine PySem.W.callWith_K (first := [.ref a]) (h₀ := X.base) I.ok.mod.kin hm.kp (thn (ha.run pos pins s1 σ H1 _ I1 q) fun us s2 ⟨vs, H2, I2, r, q2⟩ => ⟨I2.kIn, ?_⟩) hst hpl
  exact run_fnS (E := fun _ => E) (us := .ref a :: us) (vs := .ref a :: vs) F (hr.mono hk) b (hx σ) I2 (.cons rfl r) q2
end
end RJ
end

section
set_option maxRecDepth 100000
set_option maxHeartbeats 4000000
namespace PySem
/-- enumerate(v), whatever the iterator of v is -/
theorem rj_new_en {prog : Program} {w : World} (v : Value) : MeetsIn prog w (Builtin.«enumerate.__new__» ⟨[.type "enumerate", v], []⟩)
    (fun A R s => wpAny (model prog w) A.in1 (pyIter v) (fun itv s1 => R (.ok (.ret (.ref s1.heap.objs.size))) { s1 with heap := s1.heap.push { cls := .type "enumerate", data := .fields #[.none, .bool false, itv, rawInt 0, .none, .none] } }) (fun e s1 => R (.error e) s1) s) :=
  .of_wp fun A R s h => by
    have sub := sub_enumerate
    have it : ∀ {Q : Value → Shared → Prop}, (∀ itv s1, R (.ok (.ret (.ref s1.heap.objs.size))) { s1 with heap := s1.heap.push { cls := .type "enumerate", data := .fields #[.none, .bool false, itv, rawInt 0, .none, .none] } } → Q itv s1) → wpAny (model prog w) A.in1 (pyIter v) Q (fun e s1 => R (.error e) s1) s := fun q => wpAny_mono h q fun _ _ z => z
    wp_walk using it
    refine wpAny_stack_any fun _ => wpAny_pure ?_
    split
    · rename_i c _ _ _ _ _
      cases (c == Value.type "enumerate") <;> (wp_walk using it; intro itv s1 hR; wp_walk; exact ⟨_, rfl, hR⟩)
    · wp_walk using it
      intro itv s1 hR
      wp_walk
      exact ⟨_, rfl, hR⟩
end PySem
namespace PySem
section
variable {prog : Program} {w : World} {A : Around} {E : Value → Shared → Prop} {s : Shared}
theorem rj_call_en {v : Value} {Q : Value → Shared → Prop}
    (hx : wpAny (model prog w) A.in1.in1 (pyIter v) (fun itv s1 => ∀ h', h'.get? s1.heap.objs.size = some { cls := .type "enumerate", data := .fields #[.none, .bool false, itv, rawInt 0, .none, .none] } → h'.objs.size = s1.heap.objs.size + 1 →
      (∀ c o, s1.heap.get? c = some o → h'.get? c = some o) → Q (.ref s1.heap.objs.size) { s1 with heap := h' }) E s) : wpAny (model prog w) A (call (.type "enumerate") [v]) Q E s := by
  refine callType_newIn F.called_enumerate (by decide) (F.typeCall_enumerate_1 v) (F.newCall_enumerate_1 v) (fun obj => F.args_object_init_2 obj _) F.entry_enumerate_new (rj_new_en v) ?_
  show wpAny (model prog w) A.in1.in1 (pyIter v) _ _ _
  refine wpAny_mono hx (fun itv s1 h => ?_) fun _ _ z => z
  have gm : (s1.heap.push { cls := .type "enumerate", data := .fields #[.none, .bool false, itv, rawInt 0, .none, .none] }).get? s1.heap.objs.size = some { cls := .type "enumerate", data := .fields #[.none, .bool false, itv, rawInt 0, .none, .none] } := Heap.get?_push_size _ rfl
  show _ ∧ _
  exact ⟨⟨_, gm, rfl⟩, h _ gm (Heap.size_push ..) fun c o e => Heap.get?_push_of_some _ e⟩
/-- a tuple's iterator that has ended -/
def EndedT (h : Heap) (a : Addr) (i : Nat) : Prop := ∃ o, h.get? a = some o ∧ o.cls = .type "tuple_iterator" ∧ o.data = .fields #[.none, .int i 0]
theorem rj_tuple_end {it t : Addr} {i : Nat} {items : Array Value} {Q : Value → Shared → Prop} (hh : A.handled = none) (hit : s.heap.IsTupleIter it t i) (ht : s.heap.IsTuple t items) (hx : items[i]? = none)
    (hE : ∀ h' e, Heap.ExtBut it s.heap h' → EndedT h' it i → (∃ o, h'.get? e = some o ∧ o.cls = .type "StopIteration") → E (.ref e) { s with heap := h' }) : wpAny (model prog w) A (Builtin.SmallTypes.nextOf (.ref it)) Q E s := by
  obtain ⟨o, ho, hc, hd⟩ := id hit
  obtain ⟨ol, hol, _, nl, hdl⟩ := ht
  unfold Builtin.SmallTypes.nextOf
  refine wpAny_bind (wpAny_callSpecial?_slot (name := Str.ofString "__next__") hit.typeIs F.slot_tuple_iterator_next
    (wpAny_call_entry F.slot_tuple_iterator_next hit.typeIs F.entry_tuple_iterator_next ?_ (F.args_tuple_iterator_next_1 _)))
  show wpAny _ _ (field (.ref it) 0 >>= _) _ _ s
  refine wpAny_bind (wpAny_field ho hd (x := .ref t) rfl ?_)
  show wpAny _ _ (if (Value.ref t == Value.none) = true then _ else _) _ _ s
  rw [if_neg (show ¬ ((Value.ref t == Value.none) = true) from Bool.false_ne_true)]
  show wpAny _ _ (field (.ref it) 1 >>= _) _ _ s
  refine wpAny_bind (wpAny_field ho hd (x := .int i 0) rfl ?_)
  show wpAny _ _ (seqItems? (.ref t) >>= _) _ _ s
  refine wpAny_bind (wpAny_seqItems hol hdl ?_)
  simp only [Int.toNat_natCast, hx]
  refine wpAny_bind (wpAny_rule (wpAny_bind (wpAny_setField ho hd (by simp) ?_)))
  show wpAny _ _ (newExc (.type "StopIteration") [] >>= _) _ _ _
  refine wpAny_bind ?_
  simp only [newExc, newTuple]
  refine wpAny_bind (wpAny_newObj_type ?_ (by size_fits))
  refine wpAny_bind (m := firstArgMember _ _) (wpAny_of_eq (a := Value.none) (by first | rfl | (simp only [firstArgMember]; rfl)) ?_)
  refine wpAny_newObj_type ?_ (by size_fits)
  simp only [raiseNew]
  refine wpAny_bind (wpAny_handled ?_)
  first | rw [show A.in1.handled = none from hh] | rw [hh]
  refine wpAny_bind (wpAny_pure (wpAny_throw ?_))
  exact hE _ _ (((Heap.SameBut.update ..).extBut.push _).push _) ⟨_, Heap.get?_push_of_some _ (Heap.get?_push_of_some _ (Heap.get?_update_self _ ho (Obj.isFreed_of_fields (Obj.data_mapFields hd _)))), (Obj.cls_mapFields ..).trans hc, by
    rw [Obj.data_mapFields hd]; simp⟩ ⟨_, Heap.get?_push_size _ rfl, rfl⟩
theorem rj_tuple_ended {it : Addr} {i : Nat} {Q : Value → Shared → Prop} (hh : A.handled = none) (hit : EndedT s.heap it i)
    (hE : ∀ h' e, (∀ b o, s.heap.get? b = some o → h'.get? b = some o) → (∃ o, h'.get? e = some o ∧ o.cls = .type "StopIteration") → E (.ref e) { s with heap := h' }) : wpAny (model prog w) A (Builtin.SmallTypes.nextOf (.ref it)) Q E s := by
  obtain ⟨o, ho, hc, hd⟩ := id hit
  have hT : s.TypeIs (.ref it) "tuple_iterator" := ⟨o, ho, hc⟩
  unfold Builtin.SmallTypes.nextOf
  refine wpAny_bind (wpAny_callSpecial?_slot (name := Str.ofString "__next__") hT F.slot_tuple_iterator_next
    (wpAny_call_entry F.slot_tuple_iterator_next hT F.entry_tuple_iterator_next ?_ (F.args_tuple_iterator_next_1 _)))
  show wpAny _ _ (field (.ref it) 0 >>= _) _ _ s
  refine wpAny_bind (wpAny_field ho hd (x := .none) rfl ?_)
  show wpAny _ _ (if (Value.none == Value.none) = true then _ else _) _ _ s
  rw [if_pos (show ((Value.none == Value.none) = true) from rfl)]
  refine wpAny_bind (wpAny_rule (wpAny_bind ?_))
  show wpAny _ _ (newExc (.type "StopIteration") [] >>= _) _ _ _
  refine wpAny_bind ?_
  simp only [newExc, newTuple]
  refine wpAny_bind (wpAny_newObj_type ?_ (by size_fits))
  refine wpAny_bind (m := firstArgMember _ _) (wpAny_of_eq (a := Value.none) (by first | rfl | (simp only [firstArgMember]; rfl)) ?_)
  refine wpAny_newObj_type ?_ (by size_fits)
  simp only [raiseNew]
  refine wpAny_bind (wpAny_handled ?_)
  first | rw [show A.in1.handled = none from hh] | rw [hh]
  refine wpAny_bind (wpAny_pure (wpAny_throw ?_))
  exact hE _ _ (fun b o e => Heap.get?_push_of_some _ (Heap.get?_push_of_some _ e)) ⟨_, Heap.get?_push_size _ rfl, rfl⟩
theorem rj_enum_end {e it : Addr} {i : Int} {old : Value} {G : Heap → Prop} {Q : Option Value → Shared → Prop} (he : IsEnum s.heap e it i old)
    (hn : ∀ (Q E : Value → Shared → Prop), (∀ h' x, G h' → (∃ o, h'.get? x = some o ∧ o.cls = .type "StopIteration") → E (.ref x) { s with heap := h' }) → wpAny (model prog w) A.in1 (Builtin.SmallTypes.nextOf (.ref it)) Q E s)
    (hQ : ∀ h', G h' → Q none { s with heap := h' }) : wpAny (model prog w) A (pyNext (.ref e)) Q E s := by
  have hT : s.TypeIs (.ref e) "enumerate" := ⟨_, he, rfl⟩
  unfold pyNext
  refine wpAny_bind (wpAny_attempt (wpAny_callSpecial?_slot (name := Str.ofString "__next__") hT F.slot_enumerate_next
    (wpAny_call_entry F.slot_enumerate_next hT F.entry_enumerate_next ?_ (F.args_enumerate_next_1 _))))
  show wpAny _ _ (field (.ref e) 2 >>= _) _ _ _
  refine wpAny_bind (wpAny_field he rfl (x := .ref it) rfl ?_)
  refine wpAny_bind (hn _ _ fun h' x he' hx' => ?_)
  obtain ⟨o, ho, hc⟩ := hx'
  refine wpAny_bind (wpAny_isInstance (T := "StopIteration") (b := true) ⟨o, ho, hc⟩ isSubtype_stop ?_)
  exact wpAny_pure (hQ _ he')
end
end PySem
namespace PySem
section
variable {prog : Program} {w : World} {A : Around} {E : Value → Shared → Prop} {s : Shared}
theorem rj_call_iterT {l : Addr} {items : Array Value} {Q : Value → Shared → Prop} (hl : s.heap.IsTuple l items) (h : Q (.ref s.heap.objs.size) { s with heap := s.heap.push { cls := .type "tuple_iterator", data := .fields #[.ref l, .int 0 0] } }) : wpAny (model prog w) A (call (.builtin "iter") [.ref l]) Q E s := by
  refine Calls.call_function_entry (by decide +kernel) (by decide +kernel) PySem.W.kdk_entry_iter (PySem.W.kdk_args_iter _) ?_
  unfold Builtin.«iter»
  refine wpAny_bind (m := someArgs "iter" 1 2 _) (wpAny_of_eq (a := [Value.ref l]) (by first | rfl | kernel_rfl!) ?_)
  show wpAny _ _ (pyIter (.ref l) >>= _) _ _ _
  refine wpAny_bind (wpAny_pyIter_tuple hl ?_)
  exact wpAny_pure ⟨_, rfl, h⟩
end
end PySem
namespace RJ
open PySem PySem.Spec PyProof.Rows L2
/-! ### the walk over an own object that gives a tuple's iterator, by enumerate -/
/-- an iterator of the tuple at t, of n items, that has given i -/
def TupI (it t : Addr) (n i : Nat) : HO := .ext fun h => h.IsTupleIter it t i ∨ (n ≤ i ∧ EndedT h it i)
theorem tupI_ok {P : Program} {w : World} {H : Hp} {h : Heap} {it t : Addr} {n i : Nat} (e : h.IsTupleIter it t i ∨ (n ≤ i ∧ EndedT h it i)) : ObjOk P w H h it (TupI it t n i) := by
  refine ⟨e, ?_, fun h1 h2 q k => ?_⟩
  · rcases e with ⟨o, ho, _⟩ | ⟨_, o, ho, _⟩
    · exact ⟨o, ho⟩
    · exact ⟨o, ho⟩
  · rcases q with ⟨o, ho, r⟩ | ⟨l, o, ho, r⟩
    · exact .inl ⟨o, k _ ho, r⟩
    · exact .inr ⟨l, o, k _ ho, r⟩
/-- iter(t), t a tuple -/
def rIterT : List V → Hp → VK → Prop := fun xs H Q => ∃ (l : Addr) (zs : List V), xs = [.ref l] ∧ H l = some (.tup zs) ∧ ∀ it, H it = none → Q (.ref it) (upd H it (TupI it l zs.length 0))
theorem call_iterT {X : Cx} : CallR X (.builtin "iter") rIterT := by
  intro pins s σ H xs us Q I r h
  obtain ⟨l, zs, rfl, hq, q⟩ := h
  obtain rfl := Vals.ref1 r
  obtain ⟨its, rv, pl, hz⟩ := I.tuple (SqT.of hq)
  refine rj_call_iterT pl ?_
  exact ⟨.ref s.heap.objs.size, _, I.laid (t' := s.toks) (fun b u e => Heap.get?_push_of_some _ e) (Nat.le_refl _) (tupI_ok (.inl ⟨_, Heap.get?_push_size _ rfl, rfl, rfl⟩)), rfl, q _ (I.hok.fresh (Nat.le_refl _))⟩
/-- each turn gives a new tuple (its number, the item) -/
def ItEO (it0 pa : Addr) (xs : List V) : It :=
  ⟨fun i H => H pa = some (.tup xs) ∧ H it0 = some (TupI it0 pa xs.length i) ∧ i < xs.length,
   fun i H v H' => ∃ T x, v = .ref T ∧ H T = none ∧ xs[i]? = some x ∧ H' = upd (upd H it0 (TupI it0 pa xs.length (i + 1))) T (.tup [.int (i : Nat), x]),
   fun i H => H pa = some (.tup xs) ∧ H it0 = some (TupI it0 pa xs.length i) ∧ i = xs.length⟩
def EnumO (e it0 : Addr) (i : Nat) (h : Heap) : Prop := (∃ old, IsEnum h e it0 ((i : Nat) : Int) old) ∧ e ≠ it0
theorem turn_enumO {P : Program} {w : World} {K : PySem.W.Frag} {elts : List Expr} {kk : Nat} {tpos : Pos} {e it0 pa : Addr} {xs : List V} : Turn P w K (.Tuple elts kk tpos) (ItEO it0 pa xs) [e] e (EnumO e it0) where
  mem := List.mem_cons_self ..
  obj := fun i h ⟨⟨_, a⟩, _⟩ b hb => by rw [List.mem_singleton.mp hb]; exact ⟨_, a, fun _ q => nomatch q⟩
  keep := fun i h h' ⟨⟨old, a⟩, n⟩ k => ⟨⟨old, k e (by simp) _ a⟩, n⟩
  item := by
    rintro X hP hw hK hc i pins s σ H E I hf ⟨⟨old, he⟩, hne⟩ ⟨hpa, hit, hlt⟩
    subst hP hw hK
    have hfe := hf e (by simp)
    have hne2 : pa ≠ it0 := fun z => by rw [z, hit] at hpa; cases hpa
    obtain ⟨its, rv, p, _⟩ := I.tuple (SqT.of hpa)
    have hl := rv.length
    have esz : its.toArray.size = xs.length := by simp [hl]
    have DD := Draws.tuple (prog := X.prog) (w := X.w) (A := X.A.in1) (I.ok.hd hc) it0 pa hne2 its.toArray
    rw [esz] at DD
    have hex : s.heap.IsTupleIter it0 pa i := by
      rcases (I.hok it0 _ hit).1 with q | ⟨q, _⟩
      · exact q
      · omega
    have apart : e ∉ [it0, pa] := fun z => by
      rcases List.mem_cons.mp z with z | z
      · exact hne z
      · rw [← List.mem_singleton.mp z, hfe.1] at hpa; cases hpa
    refine wpAny_pyNext_enum_itemC DD he ⟨hex, p⟩ hlt hne apart fun u h' tk hu ho j1 hT _ hk => ⟨_, rfl, ?_⟩
    obtain ⟨x, hx, ru⟩ : ∃ x, xs[i]? = some x ∧ RelV x u := by
      have q' : its[i]? = some u := by simpa using hu
      obtain ⟨u', hu', ru⟩ := rv.get (List.getElem?_eq_getElem hlt)
      rw [q'] at hu'
      cases hu'
      exact ⟨_, List.getElem?_eq_getElem hlt, ru⟩
    refine wpAny_letOwnedTupleGo_enum (s := { s with heap := h', toks := tk + 1 }) ho fun g zg sg => ?_
    have on : ∀ {c : Addr} {o : Obj}, c ≠ e → h'.get? c = some o → g.get? c = some o := fun n a => (sg.2 _ n).trans a
    have elt : e < s.heap.objs.size := Heap.lt_size he
    have ilt : it0 < s.heap.objs.size := by obtain ⟨o, ho, _⟩ := hex; exact Heap.lt_size ho
    have hgT := on (Nat.ne_of_gt elt) hT
    have hgi : g.IsTupleIter it0 pa (i + 1) := by
      obtain ⟨o, ho, r⟩ := j1.1
      exact ⟨o, on (Ne.symm hne) ho, r⟩
    have next : IsEnum g e it0 ((i + 1 : Nat) : Int) u := by rw [show ((i + 1 : Nat) : Int) = (i : Int) + 1 by omega]; exact zg
    have fT : H s.heap.objs.size = none := I.hok.fresh (Nat.le_refl _)
    have kk : ∀ b o, b ≠ e → b ≠ it0 → s.heap.get? b = some o → g.get? b = some o := fun b o h1 h2 q => on h1 (hk b o h1 h2 q)
    generalize hT0 : s.heap.objs.size = T at hgT fT
    have nT : ∀ b o, s.heap.get? b = some o → b ≠ T := fun b o q => by rw [← hT0]; exact Nat.ne_of_lt (Heap.lt_size q)
    obtain ⟨H2, hH2⟩ : ∃ H2, H2 = upd (upd H it0 (TupI it0 pa xs.length (i + 1))) T (.tup [.int (i : Nat), x]) := ⟨_, rfl⟩
    have h2T : H2 T = some (.tup [.int (i : Nat), x]) := by rw [hH2]; exact upd_same
    have h2i : H2 it0 = some (TupI it0 pa xs.length (i + 1)) := by rw [hH2, upd_ne (fun z => by rw [z, fT] at hit; cases hit)]; exact upd_same
    have h2o : ∀ b, b ≠ it0 → b ≠ T → H2 b = H b := fun b h1 h2 => by rw [hH2, upd_ne h2, upd_ne h1]
    have nob : ∀ b u, H b = some u → b ≠ T := fun b u q z => by rw [z, fT] at q; cases q
    have J : Inv X pins σ H2 { s with heap := g, gens := s.gens, drawn := s.drawn, toks := tk + 1 } := by
      refine I.call (ch := [e]) ⟨fun b o q n hb hc => ?_, fun b o q n hb hc => ?_, fun b o q n hc => ?_, fun b o q hc => ?_, fun b ys q => ?_, fun b o u q => ?_, fun b ps q => ?_⟩ (fun b u q => ?_) I.bare (fun b hb => ?_)
      · exact kk b o (fun z => hc (by simp [z])) (fun z => by rw [z, hit] at n; cases n) q
      · exact ⟨o.slots, kk b o (fun z => hc (by simp [z])) (fun z => by rw [z, hit] at n; cases n) q⟩
      · rw [h2o b (fun z => by rw [z, hit] at n; cases n) (nT b o q)]; exact n
      · by_cases z : b = it0
        · obtain ⟨o', q', _⟩ := hgi
          exact ⟨o', by rw [z]; exact q'⟩
        · exact ⟨o, kk b o (fun z => hc (by simp [z])) z q⟩
      · rw [h2o b (fun z => by rw [z, hit] at q; cases q) (nob b _ q)]; exact q
      · rw [h2o b (fun z => by rw [z, hit] at q; cases q) (nob b _ q)]; exact q
      · exact ⟨#[], by rw [h2o b (fun z => by rw [z, hit] at q; cases q) (nob b _ q), q]; simp⟩
      · by_cases z1 : b = T
        · subst z1
          rw [h2T] at q
          cases q
          exact ⟨by show 2 ≤ sizeLine; decide, [.int i tk, u], .cons ⟨_, rfl⟩ (.cons ru .nil), ⟨_, hgT, rfl, _, rfl⟩⟩
        · by_cases z2 : b = it0
          · subst z2
            rw [h2i] at q
            cases q
            exact tupI_ok (.inl hgi)
          · rw [h2o b z2 z1] at q
            refine (I.hok b u q).stay (fun c v hc q' => ?_) (fun c q' => ?_) fun c ys q' => ?_
            · rcases hc with hc | hc
              · subst hc
                exact kk c v (fun z => by rw [z, hfe.1] at q; cases q) z2 q'
              · exact kk c v (fun z => by rw [z, hfe.1] at hc; cases hc) (fun z => by rw [z, hit] at hc; cases hc) q'
            · rw [h2o c (fun z => by rw [z, hit] at q'; cases q') (nob c _ q')]; exact q'
            · rw [h2o c (fun z => by rw [z, hit] at q'; cases q') (nob c _ q')]; exact q'
      · rw [List.mem_singleton.mp hb]
        exact ⟨hfe.2.2.2.1, hfe.2.1, hfe.2.2.2.2.1, hfe.2.2.2.2.2⟩
    have hH3 : H2 e = none := by rw [h2o e hne (nT e _ he)]; exact hfe.1
    rw [hH2] at J hH3
    exact ⟨.ref T, _, J, rfl, ⟨T, x, rfl, fT, hx, rfl⟩, ⟨⟨u, next⟩, hne⟩, fun c hcm => by rw [List.mem_singleton.mp hcm]; exact hH3⟩
  done := by
    rintro X hP hw hK hc i pins s σ H E I hf ⟨⟨old, he⟩, hne⟩ ⟨hpa, hit, hge⟩
    subst hP hw hK
    have hfe := hf e (by simp)
    have hne2 : pa ≠ it0 := fun z => by rw [z, hit] at hpa; cases hpa
    obtain ⟨its, rv, p, _⟩ := I.tuple (SqT.of hpa)
    have hl := rv.length
    have back : ∀ h' : Heap, (∀ b o, b ≠ it0 → s.heap.get? b = some o → h'.get? b = some o) → EndedT h' it0 i → Inv X pins σ H { s with heap := h', gens := s.gens, drawn := s.drawn, toks := s.toks } := by
      intro h' kk en
      refine I.call (ch := []) ⟨fun b o q n hb _ => kk b o (fun z => by rw [z, hit] at n; cases n) q, fun b o q n hb _ => ⟨o.slots, kk b o (fun z => by rw [z, hit] at n; cases n) q⟩, fun b o q n _ => n, fun b o q _ => ?_, fun b ys q => q, fun b o u q => q, fun b ps q => ⟨#[], by rw [q]; simp⟩⟩ (fun b u q => ?_) I.bare (fun b hb => nomatch hb)
      · by_cases z : b = it0
        · obtain ⟨o', q', _⟩ := en
          exact ⟨o', by rw [z]; exact q'⟩
        · exact ⟨o, kk b o z q⟩
      · by_cases z2 : b = it0
        · subst z2
          rw [hit] at q
          cases q
          exact tupI_ok (.inr ⟨Nat.le_of_eq hge.symm, en⟩)
        · refine (I.hok b u q).stay (fun c v hc q' => ?_) (fun c q' => q') fun c ys q' => q'
          rcases hc with hc | hc
          · subst hc; exact kk c v z2 q'
          · exact kk c v (fun z => by rw [z, hit] at hc; cases hc) q'
    refine rj_enum_end (G := fun h' => (∀ b o, b ≠ it0 → s.heap.get? b = some o → h'.get? b = some o) ∧ EndedT h' it0 i) he (fun Q E hE => ?_) fun h' ⟨g1, g2⟩ => ⟨rfl, back h' g1 g2⟩
    rcases (I.hok it0 _ hit).1 with q | ⟨_, q⟩
    · exact rj_tuple_end (A := X.A.in1) (I.ok.hd hc) q p (by rw [List.getElem?_toArray]; exact List.getElem?_eq_none (by omega)) fun h' x eb en st => hE h' x ⟨fun b o nb qq => eb b o nb qq, en⟩ st
    · refine rj_tuple_ended (A := X.A.in1) (I.ok.hd hc) q fun h' x kk st => hE h' x ⟨fun b o _ qq => kk b o qq, ?_⟩ st
      obtain ⟨o, ho, r⟩ := q
      exact ⟨o, kk _ _ ho, r⟩
  self := fun A i s Q E st h => by
    obtain ⟨⟨_, he⟩, _⟩ := st
    exact wpAny_pyIter_enum he h
/-- enumerate(o), o an instance whose __iter__ gives a tuple's iterator -/
def iEnumO (C : Addr) (sp : Sp) (ta : TA) : TI := fun σ H R => ta σ H fun vs H1 => ∃ a dx fs, vs = [.ref a] ∧ H1 a = some (.ins C dx fs) ∧ sp [.ref a] H1 (fun v H2 => ∃ it0 pa xs, v = .ref it0 ∧ H2 it0 = some (TupI it0 pa xs.length 0) ∧ R (ItEO it0 pa xs) H2) C8.E0
theorem pi_enumO {X : Cx} {e : Expr} {ta : TA} {p pos tpos : Pos} {elts : List Expr} {kk k j : Nat} {C : Addr} {sp : Sp} (hg : Gl X "enumerate") (hm : X.mg "enumerate" = none) (c : C8.Met X.prog X.w X.K X.mg X.base k C "__iter__" sp []) (hr : Room j X.A) (hk : k + 2 ≤ j) (ha : PA X [e] ta) (hs : starEach [e] X.env = [(false, eval e X.env)] := by rfl) :
    PI X (.Tuple elts kk tpos) (.Call (.Name "enumerate" p) [e] [] pos) (iEnumO C sp ta) := by
  obtain ⟨f, fd, ps, ds, hc, hmt, F, b, d⟩ := c.ex
  cases d
  refine ⟨fun pins s σ H R I h => ?_⟩
  refine Call_ (ld_blt I hg hm boot_enumerate (PyProof.Rows.callWith_type1 (thn (ha.run pos pins s σ H _ I h) fun us s1 ⟨vs, H1, I1, r1, q1⟩ => ?_) hs rfl))
  obtain ⟨a, dx, fs, ex, ea, q⟩ := q1
  subst ex
  obtain rfl := Vals.ref1 r1
  refine rj_call_en ?_
  obtain ⟨mA, J, _⟩ := ins_get I1.hok ea
  obtain ⟨od, J, _⟩ := J.look
  obtain ⟨m, hF⟩ := I1.fr
  refine PySem.W.owit_iter hF I1.ok.mod.kin J hmt.at_ hmt.fn ?_
  have rm : Room k X.A.in1.in1 := (hr.mono hk).in1.in1
  have e0 : Env0 X.prog X.w X.K X.mg X.base X.A.in1.in1 X.stack s1 H1 := by
    have e := I1.env0
    exact ⟨e.frames, e.mod, e.bs, e.bsz, e.funs, e.frf, e.hok, e.bare⟩
  have hl := F.len _ _ _ _ q
  have r2 : Vals [V.ref a] [Value.ref a] := .cons rfl .nil
  refine wpAny_call (codeAny_mono (F.run X.A.in1.in1 X.stack s1 H1 ⟨[.ref a], []⟩ [.ref a] [.ref a] _ C8.E0 rm e0 (by
    have := b s1 [.ref a] I1.kIn (by simpa using hl)
    simpa using this) r2 q) fun r s' hq' => ?_)
  cases r with
  | error e => exact hq'.elim
  | ok fl =>
    cases fl with
    | next => exact False.elim hq'
    | brk => exact False.elim hq'
    | cont => exact False.elim hq'
    | ret u =>
      obtain ⟨v, H2, I2, rv, it0, pa, xs, ev, ei, hR⟩ := I1.after hq'
      subst ev
      cases rv
      have hT : s'.TypeIs (.ref it0) "tuple_iterator" := by
        rcases (I2.hok it0 _ ei).1 with ⟨o, ho, hc, _⟩ | ⟨_, o, ho, hc, _⟩
        · exact ⟨o, ho, hc⟩
        · exact ⟨o, ho, hc⟩
      unfold PySem.W.OwitIt
      refine wpAny_specialOf (name := Str.ofString "__next__") hT PySem.F.slot_tuple_iterator_next.lookup ?_
      intro h' he hsz hk'
      have he' : IsEnum h' s'.heap.objs.size it0 0 .none := he
      refine wpAny_pyIter_enum (s := { s' with heap := h' }) he' ?_
      have I3 : Inv X pins σ H2 { s' with heap := h' } := I2.kept (t' := s'.toks) hk'
      have ilt : it0 < s'.heap.objs.size := by obtain ⟨o, ho, _⟩ := hT; exact Heap.lt_size ho
      refine ⟨s'.heap.objs.size, [s'.heap.objs.size], _, _, H2, rfl, I3, turn_enumO, ⟨⟨.none, he'⟩, Nat.ne_of_gt ilt⟩, fun c hc => ?_, hR⟩
      rw [List.mem_singleton.mp hc]
      exact I2.fpOk (Nat.le_refl _) (I2.hok.fresh (Nat.le_refl _))
end RJ
end

section
set_option maxRecDepth 100000
set_option maxHeartbeats 4000000
namespace RJ
open PySem PySem.Spec PyProof.Rows L2
/-! ### a tuple whose object is known, and the dict of its pairs -/
def kTupF (K : PySem.W.Frag) (x : V) (H : Hp) (Q : VK) : Prop := ∃ p xs, x = .ref p ∧ SqL K H p xs ∧ ∀ (q : Addr) (o : Obj), H q = none → o.dict = none → Q (.ref q) (upd H q (.frz o (.tup xs)))
section
variable {X : Cx}
theorem rl_tupleF (pins : List (Addr × Obj)) (s : Shared) (σ : L2.St) (H : Hp) (x : V) (v : Value) (Q : VK) (I : Inv X pins σ H s) (r : RelV x v) (h : kTupF X.K x H Q) :
    wpAny (model X.prog X.w) X.A (call (.type "tuple") [v]) (EP X pins σ Q) X.xe s := by
  obtain ⟨p, xs, rfl, hs, q⟩ := h
  obtain rfl : v = .ref p := r
  obtain ⟨its, rv, pl, hz⟩ := I.list hs
  refine call_tuple_list pl.isList (fun h' hk => ?_) (by rw [List.size_toArray, ← rv.length]; exact hz)
  have I1 : Inv X pins σ H { s with heap := h' } := I.kept (t' := s.toks) hk
  have e0 : (h'.push { cls := .type "tuple", data := .seq its.toArray }).get? h'.objs.size = some { cls := .type "tuple", data := .seq its.toArray } := Heap.get?_push_size _ rfl
  have I2 : Inv X pins σ (upd H h'.objs.size (.frz { cls := .type "tuple", data := .seq its.toArray } (.tup xs))) { s with heap := h'.push { cls := .type "tuple", data := .seq its.toArray } } :=
    I1.laid (t' := s.toks) (fun b o e => Heap.get?_push_of_some _ e) (Nat.le_refl _) (show ObjOk X.prog X.w _ _ _ (.frz _ (.tup xs)) from ⟨e0, hz, its, rv, IsTup.new _ _⟩)
  exact ⟨.ref h'.objs.size, _, I2, rfl, q _ _ (I1.hok.fresh (Nat.le_refl _)) rfl⟩
theorem pe_tupleOfF {a : Expr} {ta : TE} {p pos : Pos} (hg : Gl X "tuple") (hm : X.mg "tuple" = none) (ha : PE X a ta) (na : starEach [a] X.env = (false, eval a X.env) :: starEach [] X.env := by rfl) :
    PE X (.Call (.Name "tuple" p) [a] [] pos) (tThen ta (kTupF X.K)) := by
  refine ⟨fun pins s σ H Q I h => ?_⟩
  exact Call_ (ld_blt I hg hm boot_tuple (PyProof.Rows.callWith_type1 (one_arg ha I h (fun v s2 x H2 I2 r q => rl_tupleF pins s2 σ H2 x v Q I2 r q) na) na))
theorem pairs_vals {pins : List (Addr × Obj)} {σ : L2.St} {H : Hp} {s : Shared} (I : Inv X pins σ H s) : ∀ {ps : List Addr} {kvs : List (Key × V)}, Paired (fun p kv => SqT X.K H p [kV kv.1, kv.2]) ps kvs →
    ∃ (prs : List (Key × Value)) (vps : List (Value × Value)), KV kvs prs ∧ prs.length = ps.length ∧ vps.length = ps.length ∧ ∀ (j : Nat) (q : Key × Value), prs[j]? = some q → ∃ (b : Addr) (u : Value), ps[j]? = some b ∧ vps[j]? = some (u, q.2) ∧ IsTup s.heap b #[u, q.2] ∧ (mixKind X.prog X.w).is q.1 u = true
  | _, _, .nil => ⟨[], [], .nil, rfl, rfl, fun j q e => by simp at e⟩
  | _, _, .cons (a := p) (b := kv) h t => by
    obtain ⟨prs, vps, r, hl, hl2, hp⟩ := pairs_vals I t
    obtain ⟨its, rv, ht, _⟩ := I.tuple h
    obtain ⟨u, y, ei, ru, ry⟩ := vals2 rv
    subst ei
    refine ⟨(kv.1, y) :: prs, (u, y) :: vps, .cons ⟨rfl, ry⟩ r, by rw [List.length_cons, List.length_cons, hl], by rw [List.length_cons, List.length_cons, hl2], fun j q e => ?_⟩
    cases j with
    | zero =>
      have e' : (kv.1, y) = q := Option.some.inj e
      subst e'
      exact ⟨p, u, rfl, rfl, ht, kV_is (P := X.prog) (w := X.w) ru⟩
    | succ j =>
      obtain ⟨b, u', e1, e2, e3, e4⟩ := hp j q (by simpa using e)
      exact ⟨b, u', by simpa using e1, by simpa using e2, e3, e4⟩
/-- dict(t), t a known tuple of pairs -/
def rDictT (K : PySem.W.Frag) : List V → Hp → VK → Prop := fun xs H Q => ∃ (a : Addr) (o : Obj) (ps : List Addr) (kvs : List (Key × V)), xs = [.ref a] ∧ H a = some (.frz o (.tup (ps.map V.ref))) ∧ o.dict = none ∧ Paired (fun p kv => SqT K H p [kV kv.1, kv.2]) ps kvs ∧
  ∀ p, H p = none → Q (.ref p) (upd H p (.dK (mergeK [] kvs)))
theorem call_dictT (hcalm : X.calm = true) : CallR X (.type "dict") (rDictT X.K) := by
  intro pins s σ H xs us Q I r q
  obtain ⟨a, o, ps, kvs, ex, ha, hd, hp, q⟩ := q
  subst ex
  obtain ⟨u, eu, rx⟩ := vals1 r
  subst eu
  cases rx
  obtain ⟨he, hz, its, rv, o', ho', hc, n, hdat⟩ : s.heap.get? a = some o ∧ ObjOk X.prog X.w H s.heap a (.tup (ps.map V.ref)) := I.hok a _ ha
  rw [he] at ho'
  cases ho'
  have ei := refs_at rv
  subst ei
  rw [List.length_map] at hz
  obtain ⟨prs, vps, rel, hl, hl2, hpr⟩ := pairs_vals I hp
  have hitem : ∀ j k v, vps[j]? = some (k, v) → ∃ q : Key × Value, prs[j]? = some q ∧ q.2 = v ∧ (mixKind X.prog X.w).is q.1 k = true ∧ ∃ b, ps[j]? = some b ∧ IsTup s.heap b #[k, v] := fun j k v e => by
    have hj : j < prs.length := by rw [hl, ← hl2]; exact (List.getElem?_eq_some_iff.mp e).1
    obtain ⟨b, u, e1, e2, e3, e4⟩ := hpr j prs[j] (List.getElem?_eq_getElem hj)
    rw [e] at e2
    obtain ⟨rfl, rfl⟩ := Prod.mk.inj (Option.some.inj e2)
    exact ⟨_, List.getElem?_eq_getElem hj, rfl, e4, b, e1, e3⟩
  refine PySem.call_dict_pairs (knd := mixKind X.prog X.w) (kvs := prs) (PairArg.tuple a (ps.map Value.ref).toArray (fun j => (ps[j]?).getD 0) vps) (I.ok.hd hcalm) ⟨⟨o, n, he, hc, hd, hdat⟩, by simp [hl2], fun j k v e => ?_⟩ ⟨by rw [hl, hl2], fun i key v e => ?_⟩ (by rw [hl2]; exact hz) fun h' tk hd' k => ?_
  · obtain ⟨_, _, _, _, b, eb, et⟩ := hitem j k v e
    exact ⟨by simp [eb], .inl (by have et' : s.heap.IsTuple b #[k, v] := et; simpa [eb] using et')⟩
  · obtain ⟨q', e1, e2, e3, _⟩ := hitem i key v e
    exact ⟨q'.1, by rw [e1, ← e2], e3⟩
  · have hm : (s.heap.objs.size == sysModules) = false := beq_eq_false_iff_ne.mpr (Nat.ne_of_gt I.big)
    have hlen : (mergeK [] kvs).length ≤ sizeLine := by
      refine Nat.le_trans (length_mergeK kvs []) ?_
      rw [List.length_nil, Nat.zero_add, rel.length, hl]
      exact hz
    exact ⟨.ref s.heap.objs.size, upd H s.heap.objs.size (.dK (mergeK [] kvs)), I.laid (t' := tk) (fun b o e => k b o (by simp) e) (Nat.le_refl _) (show ObjOk X.prog X.w _ _ _ (.dK (mergeK [] kvs)) from ⟨hlen, hm, merged [] prs, KV.merge rel .nil, hd'⟩), rfl, q _ (I.hok.fresh (Nat.le_refl _))⟩
end
end RJ
namespace RJ
open PySem PySem.Spec PyProof.Rows L2
/-! ### a property -/
structure PrpC (P : Program) (w : World) (K : PySem.W.Frag) (mg : Str → Option Value) (base : Heap) (k : Nat) (C : Addr) (m : Str) (sp : Sp) : Prop where
  ex : ∃ (p g : Addr) (fd : FuncData) (ps : List Str), Cls K C ∧ PropOf K C m p g ∧ FnOk P w K mg base C8.CX0 k g fd ps sp ∧ Binds K fd ps []
theorem pe_prp {X : Cx} {k j : Nat} {C : Addr} {m : Str} {sp : Sp} {e : Expr} {ta : TE} {pos : Pos} (c : PrpC X.prog X.w X.K X.mg X.base k C m sp) (hr : Room j X.A) (hk : k + 1 ≤ j) (he : PE X e ta)
    (hab : attributeBase e m X.env (eval e X.env) = eval e X.env := by rfl) : PE X (.Attribute e m pos) (tProp C sp [] C8.E0 ta) := by
  obtain ⟨p, g, fd, ps, hc, hp, F, b⟩ := c.ex
  exact pe_prop he hc hp F (hr.mono hk) b .nil C8.pass0 hab
end RJ
namespace RJ
open PySem PySem.Spec PyProof.Rows L2
theorem call_dictTK {X : Cx} {K : PySem.W.Frag} (h : X.K = K) (hc : X.calm = true) : CallR X (.type "dict") (rDictT K) := h ▸ call_dictT hc
/-- an item of a list, ahead of a store -/
def rGetL : V → V → Hp → VK → Prop := fun x y H Q => ∃ (p : Addr) (xs : List V) (k : Nat) (v : V), x = .ref p ∧ y = .int (k : Int) ∧ H p = some (.lst xs) ∧ xs[k]? = some v ∧ Q v H
theorem get_listN {X : Cx} : PGet X rGetL := by
  intro pins s σ H o i ov iv Q I ro ri h
  obtain ⟨p, xs, k, z, rfl, rfl, hp, he, q⟩ := h
  cases ro
  obtain ⟨t, rfl⟩ := ri
  obtain ⟨its, r, pl, hz⟩ := I.list (SqL.of hp)
  obtain ⟨w, ew, rw'⟩ := r.get he
  have hl := r.length
  have hn := line63
  have hk : k < xs.length := (List.getElem?_eq_some_iff.mp he).1
  exact wpAny_getItem_list pl.isList (Int.natCast_nonneg _) (by omega) (by rw [Int.toNat_natCast]; simpa using ew) ⟨z, H, I, rw', q⟩
end RJ
end

section
set_option maxRecDepth 100000
set_option maxHeartbeats 2000000
namespace RJ
open PySem PySem.Spec PyProof.Rows L2
/-! ### bits -/
theorem bit_sub_and : ∀ (q x c : Nat), (x - (x &&& c)).testBit q = (x.testBit q && !c.testBit q)
  | 0, x, c => by
    have h1 : (x &&& c) % 2 = 1 ↔ x % 2 = 1 ∧ c % 2 = 1 := Nat.and_mod_two_eq_one
    have h2 : (x &&& c) / 2 = x / 2 &&& c / 2 := Nat.and_div_two
    have h3 : x / 2 &&& c / 2 ≤ x / 2 := Nat.and_le_left
    rw [Nat.testBit_zero, Nat.testBit_zero, Nat.testBit_zero, Bool.eq_iff_iff, Bool.and_eq_true, Bool.not_eq_true', decide_eq_true_eq, decide_eq_true_eq, decide_eq_false_iff_not]
    omega
  | q + 1, x, c => by
    have h1 : (x &&& c) % 2 = 1 ↔ x % 2 = 1 ∧ c % 2 = 1 := Nat.and_mod_two_eq_one
    have h2 : (x &&& c) / 2 = x / 2 &&& c / 2 := Nat.and_div_two
    have h3 : x / 2 &&& c / 2 ≤ x / 2 := Nat.and_le_left
    rw [Nat.testBit_succ, Nat.testBit_succ, Nat.testBit_succ, ← bit_sub_and q (x / 2) (c / 2)]
    congr 1
    omega
/-- x & ~c -/
theorem bitAnd_not (x c : Nat) : Builtin.bitAnd (x : Int) (Builtin.bitNot (c : Int)) = ((x - (x &&& c) : Nat) : Int) := by
  have e1 : decide (0 ≤ (x : Int)) = true := decide_eq_true (Int.natCast_nonneg _)
  have e2 : decide (0 ≤ Builtin.bitNot (c : Int)) = false := decide_eq_false (by unfold Builtin.bitNot; omega)
  have e3 : (Builtin.bitNot (Builtin.bitNot (c : Int))).toNat = c := by unfold Builtin.bitNot; omega
  unfold Builtin.bitAnd
  rw [e1, e2]
  show (x : Int) - (((x : Int).toNat &&& (Builtin.bitNot (Builtin.bitNot (c : Int))).toNat : Nat) : Int) = _
  rw [e3, Int.toNat_natCast]
  have : x &&& c ≤ x := Nat.and_le_left
  omega
/-- (x >> q) & 1 == 1 -/
theorem bit_one (x q : Nat) : Builtin.bitAnd ((x : Int) / 2 ^ q) 1 = ((x / 2 ^ q % 2 : Nat) : Int) := by
  rw [bitAnd_m1, show ((2 : Int) ^ q) = (((2 ^ q : Nat)) : Int) by rw [Int.natCast_pow]; rfl, ← Int.natCast_ediv]
  omega
/-- a bit is put on top -/
theorem bit_add {c j q : Nat} (hc : c < 2 ^ j) (hq : q ≤ j) : (c + 2 ^ j).testBit q = (if q = j then true else c.testBit q) := by
  rw [Nat.add_comm]
  by_cases e : q = j
  · subst e
    rw [if_pos rfl, Nat.testBit_two_pow_add_eq, Nat.testBit_lt_two_pow hc]; rfl
  · rw [if_neg e, Nat.testBit_two_pow_add_gt (by omega)]
/-! ### spines as dicts -/
section
variable {b : Nat} {ps : List (Nat × Nat)} {sd : Nat × Nat → Nat}
theorem Spn.le (hs : Side sd) (hw : WF b ps) {x y : Nat} {bd : Option Nat} (h : Spn b ps sd x y bd) : y ≤ x ∧ (bd ≠ none → y < x) := by
  induction h with
  | self => exact ⟨Nat.le_refl _, fun h => absurd rfl h⟩
  | step h1 hp ih =>
    rename_i j p bd
    have := hw j p hp
    have h2 := hs p
    have : sd p < b + j := by rcases h2 with e | e <;> rw [e] <;> omega
    exact ⟨by omega, fun _ => by omega⟩
theorem Spn.top {x y k : Nat} (h : Spn b ps sd x y (some k)) : ∃ j p, x = b + j ∧ ps[j]? = some p := by
  have : ∀ {y : Nat} {bd : Option Nat}, Spn b ps sd x y bd → bd ≠ none → ∃ j p, x = b + j ∧ ps[j]? = some p := by
    intro y bd h
    induction h with
    | self => exact fun h => absurd rfl h
    | step h1 hp ih =>
      rename_i j p bd
      intro _
      cases bd with
      | none =>
        have := Spn.zero h1 rfl
        exact ⟨j, p, this.symm, hp⟩
      | some k => exact ih (by simp)
  exact this h (by simp)
theorem Spn.uniq (hs : Side sd) (hw : WF b ps) : ∀ (x : Nat) {y : Nat} {bd bd' : Option Nat}, Spn b ps sd x y bd → Spn b ps sd x y bd' → bd = bd' := by
  intro x
  induction x using Nat.strongRecOn with
  | _ x ih =>
    intro y bd bd' h1 h2
    cases bd with
    | none =>
      cases bd' with
      | none => rfl
      | some k' =>
        have e := Spn.zero h1 rfl
        have := (Spn.le hs hw h2).2 (by simp)
        omega
    | some k =>
      cases bd' with
      | none =>
        have e := Spn.zero h2 rfl
        have := (Spn.le hs hw h1).2 (by simp)
        omega
      | some k' =>
        obtain ⟨j, p, rfl, hp⟩ := h1.top
        have hlt : sd p < b + j := by
          have := hw j p hp
          rcases hs p with e | e <;> rw [e] <;> omega
        rcases Spn.down hp h1 with e | ⟨e1, e2⟩ | ⟨m, e1, e2⟩
        · cases e
        · rcases Spn.down hp h2 with e | ⟨f1, f2⟩ | ⟨m', f1, f2⟩
          · cases e
          · rw [e2, f2]
          · have := (Spn.le hs hw f2).2 (by simp)
            omega
        · rcases Spn.down hp h2 with e | ⟨f1, f2⟩ | ⟨m', f1, f2⟩
          · cases e
          · have := (Spn.le hs hw e2).2 (by simp)
            omega
          · have := ih _ hlt e2 f2
            rw [e1, f1, this]
end
theorem mergeK_miss : ∀ (kvs acc : List (Key × V)) (k : Key), (∀ p ∈ kvs, p.1 ≠ k) → valV (mergeK acc kvs) k = valV acc k
  | [], acc, k, _ => rfl
  | p :: r, acc, k, h => by
    show valV (mergeK (putK acc p.1 p.2) r) k = _
    rw [mergeK_miss r _ k (fun q hq => h q (List.mem_cons_of_mem _ hq)), valV_put, if_neg (fun e => h p (List.mem_cons_self ..) e.symm)]
theorem mergeK_hit : ∀ (kvs acc : List (Key × V)) (k : Key) (v : V), (k, v) ∈ kvs → (∀ p ∈ kvs, p.1 = k → p.2 = v) → valV (mergeK acc kvs) k = some v
  | p :: r, acc, k, v, h, hf => by
    show valV (mergeK (putK acc p.1 p.2) r) k = _
    by_cases c : ∃ v', (k, v') ∈ r
    · obtain ⟨v', hv⟩ := c
      have e := hf (k, v') (List.mem_cons_of_mem _ hv) rfl
      have e : v' = v := e
      subst e
      exact mergeK_hit r _ k v' hv fun q hq => hf q (List.mem_cons_of_mem _ hq)
    · rw [mergeK_miss r _ k (fun q hq e => c ⟨q.2, by rw [← e]; exact hq⟩)]
      rcases List.mem_cons.mp h with e | e
      · rw [← e, valV_put, if_pos rfl]
      · exact absurd ⟨v, e⟩ c
end RJ
end

section
set_option maxRecDepth 100000
set_option maxHeartbeats 4000000
namespace PySem
open HotX
section
variable {prog : Program} {w : World} {A : Around} {E : Value → Shared → Prop} {s : Shared}
/-- a list's iterator ends where an exception is handled -/
theorem rj_list_end_hot {it l x1 : Addr} {i : Nat} {items : Array Value} {Q : Option Value → Shared → Prop} (hot : HotAt A x1 s.heap) (nx : x1 ≠ it)
    (hit : s.heap.IsListIter it l i) (hl : s.heap.IsList l items) (hx : items[i]? = none)
    (hQ : ∀ h', Heap.ExtBut it s.heap h' → Q none { s with heap := h' }) : wpAny (model prog w) A (pyNext (.ref it)) Q E s := by
  obtain ⟨o, ho, hc, hd⟩ := id hit
  obtain ⟨ol, hol, _, nl, hdl⟩ := hl
  obtain ⟨hh, o1, vs1, h1, d1, c1⟩ := hot
  unfold pyNext
  refine wpAny_bind (wpAny_attempt (wpAny_callSpecial?_slot (name := Str.ofString "__next__") hit.typeIs slot_listiter_next
    (wpAny_call_entry slot_listiter_next hit.typeIs entry_listiter_next ?_ (args_listiter_next _))))
  show wpAny _ _ (field (.ref it) 0 >>= _) _ _ s
  refine wpAny_bind (wpAny_field ho hd (x := .ref l) rfl ?_)
  show wpAny _ _ (if (Value.ref l == Value.none) = true then _ else _) _ _ s
  rw [if_neg (show ¬ ((Value.ref l == Value.none) = true) from Bool.false_ne_true)]
  show wpAny _ _ (field (.ref it) 1 >>= _) _ _ s
  refine wpAny_bind (wpAny_field ho hd (x := .int i 0) rfl ?_)
  show wpAny _ _ (seqItems? (.ref l) >>= _) _ _ s
  refine wpAny_bind (wpAny_seqItems hol hdl ?_)
  simp only [Int.toNat_natCast, hx]
  refine wpAny_bind (wpAny_rule (wpAny_bind (wpAny_setField ho hd (by simp) ?_)))
  have h1' : (s.heap.update it (Obj.mapFields fun x => x.setIfInBounds 0 Value.none)).get? x1 = some o1 := (Heap.get?_update_other _ _ (Ne.symm nx)).trans h1
  have ext : Heap.ExtBut it s.heap (s.heap.update it (Obj.mapFields fun x => x.setIfInBounds 0 Value.none)) := (Heap.SameBut.update ..).extBut
  generalize s.heap.update it (Obj.mapFields fun x => x.setIfInBounds 0 Value.none) = h2 at h1' ext
  show wpAny _ _ (newExc (.type "StopIteration") [] >>= _) _ _ _
  refine wpAny_bind ?_
  simp only [newExc, newTuple]
  refine wpAny_bind (wpAny_newObj_type ?_ (by size_fits))
  refine wpAny_bind (m := firstArgMember _ _) (wpAny_of_eq (a := Value.none) (by first | rfl | (simp only [firstArgMember]; rfl)) ?_)
  refine wpAny_newObj_type ?_ (by size_fits)
  refine raiseNew_hot ⟨hh, o1, vs1, Heap.get?_push_of_some _ (Heap.get?_push_of_some _ h1'), d1, c1⟩ (Nat.ne_of_lt (Heap.lt_size (Heap.get?_push_of_some _ h1'))) (Heap.get?_push_size _ rfl) rfl (by first | (simp; done) | (simp; omega) | (simp only [Array.size_append]; simp; omega)) ?_
  refine wpAny_bind (wpAny_isInstance (T := "StopIteration") (b := true) ⟨_, Heap.get?_update_self _ (Heap.get?_push_size _ rfl) rfl, rfl⟩ isSubtype_stop ?_)
  refine wpAny_pure (hQ _ fun b o' nb e => ?_)
  have e' := ext b o' nb e
  rw [Heap.get?_update_other _ _ (Nat.ne_of_gt (Heap.lt_size (Heap.get?_push_of_some _ e')))]
  exact Heap.get?_push_of_some _ (Heap.get?_push_of_some _ e')
end
end PySem
namespace RJ
open PySem PySem.Spec PyProof.Rows L2 HotX
/-! ### a comprehension where an exception is handled -/
structure TurnHL (P : Program) (w : World) (K : PySem.W.Frag) (tg : Expr) (J : It) (fp : List Addr) (it : Addr) (tn : Nat → Heap → Prop) : Prop where
  mem : it ∈ fp
  obj : ∀ i h, tn i h → ∀ b ∈ fp, ∃ o, h.get? b = some o ∧ ∀ v, o.data ≠ .cell v
  keep : ∀ i h h', tn i h → (∀ b ∈ fp, ∀ o, h.get? b = some o → h'.get? b = some o) → tn i h'
  item : ∀ (X : Cx), X.prog = P → X.w = w → X.K = K → ∀ (i : Nat) (pins : List (Addr × Obj)) (s : Shared) (σ : L2.St) (H : Hp) (E : Value → Shared → Prop), Inv X pins σ H s → (∀ b ∈ fp, FpOk X pins H b) → tn i s.heap → J.go i H →
    wpAny (model P w) X.A (pyNext (.ref it)) (fun r s1 => ∃ u, r = some u ∧
      wpAny (model P w) X.A (letOwnedTupleGo tg (.ref it) u) (fun _ s2 => ∃ x H', Inv X pins σ H' s2 ∧ RelV x u ∧ J.yld i H x H' ∧ tn (i + 1) s2.heap ∧ ∀ b ∈ fp, H' b = none) E s1) E s
  done : ∀ (X : Cx), X.prog = P → X.w = w → X.K = K → ∀ (i : Nat) (pins : List (Addr × Obj)) (s : Shared) (σ : L2.St) (H : Hp) (E : Value → Shared → Prop), Inv X pins σ H s → (∃ x1, HotAt X.A x1 s.heap ∧ ∀ b ∈ fp, x1 ≠ b) → (∀ b ∈ fp, FpOk X pins H b) → tn i s.heap → J.stop i H →
    wpAny (model P w) X.A (pyNext (.ref it)) (fun r s1 => r = none ∧ Inv X pins σ H s1) E s
  self : ∀ (A : Around) (i : Nat) (s : Shared) (Q : Value → Shared → Prop) (E : Value → Shared → Prop), tn i s.heap → Q (.ref it) s → wpAny (model P w) A (pyIter (.ref it)) Q E s
def PIEHL (X : Cx) (pins : List (Addr × Obj)) (σ : L2.St) (tg : Expr) (R : It → Hp → Prop) (itv : Value) (s2 : Shared) : Prop :=
  ∃ (it : Addr) (fp : List Addr) (tn : Nat → Heap → Prop) (J : It) (H' : Hp), itv = .ref it ∧ Inv X pins σ H' s2 ∧ TurnHL X.prog X.w X.K tg J fp it tn ∧ tn 0 s2.heap ∧ (∀ b ∈ fp, FpOk X pins H' b) ∧ R J H'
structure PIHL (X : Cx) (tg iter : Expr) (wi : TI) : Prop where
  run : ∀ (pins : List (Addr × Obj)) (s : Shared) (σ : L2.St) (H : Hp) (R : It → Hp → Prop), Inv X pins σ H s → wi σ H R →
    wpAny (model X.prog X.w) X.A (eval iter X.env) (fun v s1 => wpAny (model X.prog X.w) X.A (pyIter v) (PIEHL X pins σ tg R) X.xe s1) X.xe s
theorem turn_listHL {P : Program} {w : World} {K : PySem.W.Frag} {tg : Expr} (a it : Addr) : TurnHL P w K tg (Itl K a) [it] it (fun i h => h.IsListIter it a i) where
  mem := (turn_list (P := P) (w := w) (K := K) (tg := tg) a it).mem
  obj := (turn_list (P := P) (w := w) (K := K) (tg := tg) a it).obj
  keep := (turn_list (P := P) (w := w) (K := K) (tg := tg) a it).keep
  item := by
    intro X hP hw hK i pins s σ H E I hf st hg
    subst hP hw hK
    obtain ⟨xs, x, hq, hx⟩ := hg
    obtain ⟨its, rv, p, hz⟩ := I.list hq
    obtain ⟨u, hu, ru⟩ := rv.get hx
    obtain ⟨f0, f1, f2, f3, f4, f5⟩ := hf it (by simp)
    refine wpAny_pyNext_list_item st p.isList (x := u) (by simpa using hu) fun h' st' sb => ?_
    have I1 : Inv X pins σ H { s with heap := h' } := I.turned (t' := s.toks) (fun b o hb e => (sb.2 b hb).trans e) f0 f1 f3 f4 f5
    obtain ⟨o, e, c, d⟩ := id st'
    exact ⟨u, rfl, go_of (s := { s with heap := h' }) e c d (by decide) ⟨x, H, I1, ru, ⟨rfl, fun ys hy => by rw [I.list_inj hy hq]; exact hx⟩, st', fun b hb => (hf b hb).1⟩⟩
  done := by
    intro X hP hw hK i pins s σ H E I ⟨x1, hot, hne⟩ hf st hg
    subst hP hw hK
    obtain ⟨xs, hq, hx⟩ := hg
    obtain ⟨its, rv, p, hz⟩ := I.list hq
    have hl := rv.length
    obtain ⟨f0, f1, f2, f3, f4, f5⟩ := hf it (by simp)
    exact rj_list_end_hot hot (hne it (by simp)) st p.isList (by simp; omega) fun h' eb => ⟨rfl, I.turned (t' := s.toks) (fun b o hb e => eb b o hb e) f0 f1 f3 f4 f5⟩
  self := (turn_list (P := P) (w := w) (K := K) (tg := tg) a it).self
theorem pi_listHL {X : Cx} {tg l : Expr} {tl : TE} (hl : PE X l tl) : PIHL X tg l (iList X.K tl) := by
  refine ⟨fun pins s σ H R I h => ?_⟩
  refine thn (hl.run pins s σ H _ I h) fun v s1 ⟨x, H1, I1, r1, q1⟩ => ?_
  obtain ⟨a, e, ⟨xs, hq⟩, q⟩ := q1
  subst e
  cases r1
  obtain ⟨its, rv, p, hz⟩ := I1.list hq
  refine wpAny_pyIter_list p.isList ?_
  refine ⟨s1.heap.objs.size, [s1.heap.objs.size], _, _, H1, rfl, I1.kept (t' := s1.toks) fun b o e => Heap.get?_push_of_some _ e, turn_listHL a _, ⟨_, Heap.get?_push_size _ rfl, rfl, rfl⟩, fun b hb => ?_, q⟩
  have e : b = s1.heap.objs.size := by simpa using hb
  subst e
  exact I1.fpOk (Nat.le_refl _) (I1.hok.fresh (Nat.le_refl _))
section
variable {X : Cx} {E : XK} {elt tg iter : Expr} {ifs : List Expr} {scope : Scope} {own : List (Str × Nat)} {pos pos' : Pos} {wi : TI} {g : TG} {tt : TT} {te : TE}
theorem lc_coreH {pins : List (Addr × Obj)} {s : Shared} {σ : L2.St} {H : Hp} {Q : VK} {use : Option (Value → Sem Unit)} {Qf : Value → Shared → Prop} (hst : X.stack = X.env :: X.outer) (hf : X.env.frame = some X.env.locals) (tk : L2N.Takes X (fun cls d _ H => E cls d H))
    (hot : L2H.HotC X) (hN : X.N.Nodup) (I : Inv X pins σ H s) (hi : PIHL X tg iter wi) (ok : BlkOk X.N X.env.scope scope own)
    (hg : ∀ (s : Shared) (H : Hp) (C : Addr) (cl : List (Str × Addr)) (fp : List Addr) (xe : Value → Shared → Prop), PG ((X.blk s H scope (compEnvC scope cl C X.env) fp).tr [] xe) tg g)
    (ht : ∀ (s : Shared) (H : Hp) (C : Addr) (cl : List (Str × Addr)) (fp : List Addr) (xe : Value → Shared → Prop), (∀ σ : L2.St, PassesAt (CXN X.prog X.w) ((X.blk s H scope (compEnvC scope cl C X.env) fp).tr [] xe) σ E) →
      PTs ((X.blk s H scope (compEnvC scope cl C X.env) fp).tr [] xe) ifs tt)
    (he : ∀ (s : Shared) (H : Hp) (C : Addr) (cl : List (Str × Addr)) (fp : List Addr) (xe : Value → Shared → Prop), (∀ σ : L2.St, PassesAt (CXN X.prog X.w) ((X.blk s H scope (compEnvC scope cl C X.env) fp).tr [] xe) σ E) →
      PE ((X.blk s H scope (compEnvC scope cl C X.env) fp).tr [] xe) elt te)
    (hs : ∀ x, foldedSetIterable iter X.env x = pure x) (h : tLc wi g tt te (own.map (·.2)) σ H Q)
    (hRR : ∀ D C s' m H', Inv X pins σ H' s' → Q (.ref D) H' → s'.heap.Ns C m → FpOk X pins H' C → compPost (model X.prog X.w) X.A X.xe use Qf (.ref D) C (.ok .next) s') :
    wpAny (model X.prog X.w) X.A (comprehension (.ListComp elt [⟨tg, iter, ifs, 0⟩] scope pos) scope X.env pos' (newList []) false (eval iter X.env) use) Qf X.xe s := by
  have hfree : ∀ y ∈ scope.names, y.2 = .free → ∃ c, X.env.cells.lookup y.1 = some c := fun y hy e => I.ok.has _ (ok.free y hy e)
  refine comp_run (use := use) rfl hs (closure_ok hfree) ok.kind (fun y hy e => by rw [ok.uniq y hy, e]) (thn (hi.run pins s σ H _ I h) fun xv s1 hx => thn hx fun itv s2 h2 => ?_)
  obtain ⟨it, fp, tn, J, H2, e, I2, T, st2, f2, q⟩ := h2
  subst e
  refine wpAny_newObj_type (newEnv_comp ?_) (by show 0 ≤ sizeLine; decide)
  generalize hD : s2.heap.objs.size = D
  obtain ⟨W, ⟨m0, w0⟩, turn⟩ := q D (I2.hok.fresh (Nat.le_of_eq hD))
  generalize hs3 : ({ s2 with heap := s2.heap.push { cls := .type "list", data := .seq ([] : List Value).toArray } } : Shared) = s3
  have h3 : s3.heap = s2.heap.push { cls := .type "list", data := .seq ([] : List Value).toArray } := by rw [← hs3]
  have k23 : ∀ b o, s2.heap.get? b = some o → s3.heap.get? b = some o := fun b o e => by rw [h3]; exact Heap.get?_push_of_some _ e
  have I3 : Inv X pins σ (upd H2 D (.lst [])) s3 := by
    rw [← hs3]
    refine I2.laid (t' := s2.toks) (fun b o e => Heap.get?_push_of_some _ e) (Nat.le_of_eq hD) ⟨Nat.zero_le _, [], 0, .nil, ?_⟩
    rw [← hD]
    exact Heap.get?_push_size _ rfl
  have f3 : ∀ b ∈ fp, FpOk X pins (upd H2 D (.lst [])) b ∧ b < s3.heap.objs.size := fun b hb => by
    obtain ⟨o, e, _⟩ := T.obj _ _ st2 b hb
    have lt := Heap.lt_size e
    refine ⟨⟨?_, (f2 b hb).2⟩, Heap.lt_size (k23 b o e)⟩
    rw [upd_ne (by rw [← hD]; exact Nat.ne_of_lt lt)]
    exact (f2 b hb).1
  generalize hce : compEnvC scope (cellsFrom (s3.heap.objs.size + 1) scope.names (cloFrom X.env.cells scope.names [])) s3.heap.objs.size X.env = ce
  have cL : ce.locals = s3.heap.objs.size := by subst hce; rfl
  have cf : ce.frame = X.env.frame := by subst hce; rfl
  have I4 := block_start I3 ok hN f3
  rw [hce] at I4
  show codeAny _ _ (.compStart (.ListComp elt [⟨tg, iter, ifs, 0⟩] scope pos) 0 (.ref it) (.ref D) (compEnvC scope (cellsFrom (s3.heap.objs.size + 1) scope.names (cloFrom X.env.cells scope.names [])) s3.heap.objs.size X.env))
    (postX (model X.prog X.w) X.A X.xe use Qf (.ref D) (compEnvC scope (cellsFrom (s3.heap.objs.size + 1) scope.names (cloFrom X.env.cells scope.names [])) s3.heap.objs.size X.env)) { s3 with heap := pushCells (s3.heap.push { cls := .type "dict", data := .dict #[] }) scope.names }
  rw [hce]
  generalize hxe : notedBy (model X.prog X.w) X.A ce (fun e s' => postX (model X.prog X.w) X.A X.xe use Qf (.ref D) ce (.error e) s') = xe
  generalize hH3 : upd H2 D (.lst []) = H3 at I3 I4 w0 f3
  have pass := blk_out (scope := scope) (ce := ce) (fp := fp) (use := use) (Qf := Qf) (acc := .ref D) hst hf cf cL I3 (fun b hb => (f3 b hb).1) tk hxe.symm
  have pg := hg s3 H3 s3.heap.objs.size (cellsFrom (s3.heap.objs.size + 1) scope.names (cloFrom X.env.cells scope.names [])) fp xe
  have pt := ht s3 H3 s3.heap.objs.size (cellsFrom (s3.heap.objs.size + 1) scope.names (cloFrom X.env.cells scope.names [])) fp xe
  have pe := he s3 H3 s3.heap.objs.size (cellsFrom (s3.heap.objs.size + 1) scope.names (cloFrom X.env.cells scope.names [])) fp xe
  rw [hce] at pg pt pe
  have pe := pe pass
  have pt := pt pass
  have I5 : Inv ((X.blk s3 H3 scope ce fp).tr [] xe) [] (wipe σ (own.map (·.2))) H3 { s3 with heap := pushCells (s3.heap.push { cls := .type "dict", data := .dict #[] }) scope.names } := I4.toTry xe
  have st5 : tn 0 (pushCells (s3.heap.push { cls := .type "dict", data := .dict #[] }) scope.names) := T.keep _ _ _ st2 fun b _ o e => pushCells_keeps _ _ _ _ (Heap.get?_push_of_some _ (k23 b o e))
  have fps : ∀ {σ' : L2.St} {H' : Hp} {s' : Shared}, Inv ((X.blk s3 H3 scope ce fp).tr [] xe) [] σ' H' s' → (∀ b ∈ fp, H' b = none) → ∀ b ∈ fp, FpOk ((X.blk s3 H3 scope ce fp).tr [] xe) [] H' b := fun {σ' H' s'} I' hn b hb =>
    ⟨hn b hb, (I'.ok.exf b hb).1, I'.ok.exfs b hb, .inl hb, (I'.ok.exf b hb).2, fun p hp => absurd (show p ∈ ([] : List (Addr × Obj)) ++ [] from hp) (by simp)⟩
  have hotB : ∀ {σ' : L2.St} {H' : Hp} {s' : Shared}, Inv ((X.blk s3 H3 scope ce fp).tr [] xe) [] σ' H' s' → ∃ x1, HotAt X.A x1 s'.heap ∧ ∀ b ∈ fp, x1 ≠ b := fun {σ' H' s'} I' => by
    obtain ⟨p, ⟨hh, v1, e1, c1⟩, hp⟩ := hot
    obtain ⟨g1, g2, g3, g4, _⟩ := I3.pin p (List.mem_append_left _ hp)
    refine ⟨p.1, ⟨hh, p.2, v1, I'.base.keep p.1 p.2 g1 g2 ?_ ?_, e1, c1⟩, fun b hb => (f3 b hb).1.2.2.2.2.2 p (List.mem_append_left _ hp)⟩
    · intro z
      rcases List.mem_cons.mp (I3.stkSub _ z) with z | z
      · exact g3 z
      · exact g4 z
    · intro z
      exact (f3 _ z).1.2.2.2.2.2 p (List.mem_append_left _ hp) rfl
  have loop : codeAny (model X.prog X.w) X.A (.compLoop (.ListComp elt [⟨tg, iter, ifs, 0⟩] scope pos) 0 (.ref it) (.ref D) ce) (postX (model X.prog X.w) X.A X.xe use Qf (.ref D) ce)
      { s3 with heap := pushCells (s3.heap.push { cls := .type "dict", data := .dict #[] }) scope.names } := by
    refine compLoop_any (fun n s' => ∃ i H', Turns X s3 H3 scope ce fp xe (wipe σ (own.map (·.2))) tn W n i H' s') ?_ m0 ⟨0, H3, I5, st5, fun b hb => (f3 b hb).1.1, w0⟩
    rw [hxe]
    rintro n s6 ⟨i, H6, t6⟩
    rcases turn i n H6 t6.has with ⟨stop, qq⟩ | ⟨go, Nx, hNx, step⟩
    · refine thn (T.done ((X.blk s3 H3 scope ce fp).tr [] xe) rfl rfl rfl i [] s6 _ H6 xe t6.inv (hotB t6.inv) (fps t6.inv t6.non) t6.at_ stop) fun r s7 ⟨hr, I7⟩ => ?_
      subst hr
      have back : Inv X pins σ H6 s7 := I3.call' (ch := fp) I7.os I7.base I7.hok I7.bare fun b hb => ⟨(f3 b hb).1.2.2.2.1, (f3 b hb).1.2.1, (f3 b hb).1.2.2.2.2.1, (f3 b hb).1.2.2.2.2.2⟩
      obtain ⟨m, hn, _⟩ := I7.loc
      exact hRR D ce.locals s7 m H6 back qq hn (I3.fpOk (by rw [cL]; exact Nat.le_refl _) I7.free)
    · refine thn (T.item ((X.blk s3 H3 scope ce fp).tr [] xe) rfl rfl rfl i [] s6 _ H6 xe t6.inv (fps t6.inv t6.non) t6.at_ go) fun r s7 ⟨u, hr, h7⟩ => ?_
      subst hr
      refine thn h7 fun _ s8 ⟨x, H8, I8, r8, y8, st8, n8⟩ => ?_
      have I8' := I8.pinned (fps I8 n8) (T.obj _ _ st8)
      refine thn (pg.run _ s8 _ H8 x u _ I8' r8 (step x H8 y8)) fun _ s9 ⟨σ9, H9, I9, hw, q9⟩ => ?_
      refine thn (pt.run _ s9 σ9 H9 _ I9 q9) fun b s10 ⟨H10, I10, q10⟩ => ?_
      have next : ∀ {s' : Shared} {H' : Hp}, Inv ((X.blk s3 H3 scope ce fp).tr [] xe) ([] ++ pinsAt fp s8.heap) σ9 H' s' → Nx H' → ∃ m, m < n ∧ ∃ i H', Turns X s3 H3 scope ce fp xe (wipe σ (own.map (·.2))) tn W m i H' s' := fun {s' H'} I' nx => by
        obtain ⟨m', hm, w'⟩ := hNx H' nx
        have kept : ∀ b ∈ fp, ∀ o, s8.heap.get? b = some o → s'.heap.get? b = some o ∧ H' b = none := fun b hb o e =>
          have z := I'.pin (b, o) (List.mem_append_right _ (List.mem_append_right _ (mem_pinsAt hb e)))
          ⟨z.1, z.2.1⟩
        refine ⟨m', hm, i + 1, H', (I'.unpinned (pins := [])).weak (by rw [← hw, wipe_length]) (fun j v e => (wipe_some (by rw [hw]; exact e)).1), T.keep _ _ _ st8 fun b hb o e => (kept b hb o e).1, fun b hb => ?_, w'⟩
        obtain ⟨o, e, _⟩ := T.obj _ _ st8 b hb
        exact (kept b hb o e).2
      cases b with
      | false =>
        simp only [Bool.false_eq_true, if_false] at q10 ⊢
        exact next I10 q10
      | true =>
        simp only [if_true] at q10 ⊢
        refine thn (pe.run _ s10 σ9 H10 _ I10 q10) fun z s11 ⟨yv, H11, I11, r11, acc, hD11, hz, nx⟩ => ?_
        exact app_ok (X := (X.blk s3 H3 scope ce fp).tr [] xe) I11 hD11 hz r11 fun s12 I12 => next I12 nx
  exact codeAny_compStart_list loop (T.self X.A 0 _ _ _ st5 loop)
theorem pe_lcH (hst : X.stack = X.env :: X.outer) (hf : X.env.frame = some X.env.locals) (tk : L2N.Takes X (fun cls d _ H => E cls d H)) (hot : L2H.HotC X) (hN : X.N.Nodup) (hi : PIHL X tg iter wi) (ok : BlkOk X.N X.env.scope scope own)
    (hg : ∀ (s : Shared) (H : Hp) (C : Addr) (cl : List (Str × Addr)) (fp : List Addr) (xe : Value → Shared → Prop), PG ((X.blk s H scope (compEnvC scope cl C X.env) fp).tr [] xe) tg g)
    (ht : ∀ (s : Shared) (H : Hp) (C : Addr) (cl : List (Str × Addr)) (fp : List Addr) (xe : Value → Shared → Prop), (∀ σ : L2.St, PassesAt (CXN X.prog X.w) ((X.blk s H scope (compEnvC scope cl C X.env) fp).tr [] xe) σ E) →
      PTs ((X.blk s H scope (compEnvC scope cl C X.env) fp).tr [] xe) ifs tt)
    (he : ∀ (s : Shared) (H : Hp) (C : Addr) (cl : List (Str × Addr)) (fp : List Addr) (xe : Value → Shared → Prop), (∀ σ : L2.St, PassesAt (CXN X.prog X.w) ((X.blk s H scope (compEnvC scope cl C X.env) fp).tr [] xe) σ E) →
      PE ((X.blk s H scope (compEnvC scope cl C X.env) fp).tr [] xe) elt te)
    (hs : ∀ x, foldedSetIterable iter X.env x = pure x := by intro _; rfl) : PE X (.ListComp elt [⟨tg, iter, ifs, 0⟩] scope pos) (tLc wi g tt te (own.map (·.2))) := by
  refine ⟨fun pins s σ H Q I h => ?_⟩
  rw [eval_ListComp]
  refine lc_coreH hst hf tk hot hN I hi ok hg ht he hs h fun D C s' m H' J q hn f => ⟨m, hn, fun h' sb => ?_⟩
  exact ⟨.ref D, H', J.turned (t' := s'.toks) (fun b o hb e => (sb.2 b hb).trans e) f.1 f.2.1 f.2.2.2.1 f.2.2.2.2.1 f.2.2.2.2.2, rfl, q⟩
end
end RJ
namespace RJ
open PySem PySem.Spec PyProof.Rows L2 HotX
/-! ### defs that are given the error that is handled -/
structure FnE (P : Program) (w : World) (K : PySem.W.Frag) (mg : Str → Option Value) (base : Heap) (k : Nat) (f : Addr) (fd : FuncData) (ps : List Str) (p : Addr × Obj) (sp : Sp) : Prop where
  len : ∀ vs H Q E, sp vs H Q E → vs.length = ps.length
  run : ∀ (A : Around) (outer : List Env) (s : Shared) (H : Hp) (args : Args) (us : List Value) (vs : List V) (Q : VK) (E : XK), L2H.RoomH k A → L2H.Hot1 A p → L2H.PinOk outer H s p → Env0 P w K mg base A outer s H → BindsTo s fd args (ps.zip us) → Vals vs us → sp vs H Q E →
    codeAny (model P w) A (.call (.ref f) args) (CR C8.CX0 outer P w H s Q E) s
structure CalE (P : Program) (w : World) (K : PySem.W.Frag) (mg : Str → Option Value) (base : Heap) (k : Nat) (x : Str) (sp : Addr → Value → Option Addr → Sp) : Prop where
  ex : ∃ (f : Addr) (fd : FuncData) (ps : List Str), mg x = some (.ref f) ∧ PySem.W.keepIn K (.ref f) = true ∧ Binds K fd ps [] ∧ ∀ (p : Addr × Obj) (cls : Value) (d : Option Addr), Zc cls d p.2 → (∃ vs, p.2.data = .fields vs) → FnE P w K mg base k f fd ps p (sp p.1 cls d)
/-- isinstance of an error that is pinned -/
theorem call_isP {X : Cx} {p : Addr × Obj} {cls : Value} {d : Option Addr} (hp : p ∈ X.pn) (hz : Zc cls d p.2) (hf : ∃ vs, p.2.data = .fields vs) : CallR X (.builtin "isinstance") (rIsD X.K p.1 cls d) := by
  intro pins s σ H xs us Q I r h
  obtain ⟨D, dd, fs, c, cv, b, rfl, rfl, T, ed, rfl, hcv, e, q⟩ := h
  obtain ⟨u1, u2, rfl, r1, r2⟩ := vals2 r
  cases (show u1 = Value.ref p.1 from r1)
  have ec := hcv _ r2
  subst ec
  obtain ⟨hget, _⟩ := I.pin p (List.mem_append.mpr (.inl hp))
  obtain ⟨vs, hv⟩ := hf
  have hx : ObjOk X.prog X.w H s.heap dd (.xd fs) := I.hok dd _ ed
  obtain ⟨mA, hns, _⟩ := hx
  obtain ⟨od, ho, _⟩ := lookIn_ns hns
  have J : PySem.W.InstAt s.heap p.1 p.2 D (some od) := ⟨hget, hz.1, by unfold PySem.W.notCls; rw [hv] <;> rfl, by rw [hz.2]; exact ho⟩
  exact PySem.W.kia_one (PySem.W.kitx_exc T.cl T.hg T.hk T.hs T.ha T.hn T.ht T.hm) I.kIn J e (fun z => nomatch z) fun tk => ⟨.bl b, H, I.kept (t' := tk) fun _ _ z => z, rfl, q⟩
theorem call_isPT {X : Cx} {p : Addr × Obj} {cls : Value} {d : Option Addr} (hp : p ∈ X.pn) (hz : Zc cls d p.2) (hf : ∃ vs, p.2.data = .fields vs) : CallR X (.builtin "isinstance") (rIsDT X.K p.1 cls d) := by
  intro pins s σ H xs us Q I r h
  obtain ⟨D, dd, tp, fs, cs, ws, b, rfl, rfl, T, ed, rfl, htp, hws, e, q⟩ := h
  obtain ⟨u1, u2, rfl, r1, r2⟩ := vals2 r
  cases (show u1 = Value.ref p.1 from r1)
  cases (show u2 = Value.ref tp from r2)
  obtain ⟨hget, _⟩ := I.pin p (List.mem_append.mpr (.inl hp))
  obtain ⟨vs, hv⟩ := hf
  have hx : ObjOk X.prog X.w H s.heap dd (.xd fs) := I.hok dd _ ed
  obtain ⟨mA, hns, _⟩ := hx
  obtain ⟨od, ho, _⟩ := lookIn_ns hns
  have J : PySem.W.InstAt s.heap p.1 p.2 D (some od) := ⟨hget, hz.1, by unfold PySem.W.notCls; rw [hv] <;> rfl, by rw [hz.2]; exact ho⟩
  have hT : ObjOk X.prog X.w H s.heap tp (.tup cs) := I.hok tp _ htp
  obtain ⟨_, its, rv, o, g1, g2, n, g3⟩ := hT
  have e3 := hws its rv
  subst e3
  obtain ⟨oc, od2, dt, sl⟩ := o
  simp only at g2 g3
  subst g2 g3
  exact PySem.W.kia_tup (PySem.W.kitx_exc T.cl T.hg T.hk T.hs T.ha T.hn T.ht T.hm) I.kIn J g1 e (fun z => nomatch z) fun tk => ⟨.bl b, H, I.kept (t' := tk) fun _ _ z => z, rfl, q⟩
section
variable {P : Program} {w : World} {K : PySem.W.Frag} {mg : Str → Option Value} {base : Heap}
theorem fn_ofE {k : Nat} {f : Addr} {name qual : Str} {params : Arguments} {body : List Stmt} {scope : Scope} {dV kV doc pm cdv ct oc : Value} {an od : Option Addr} {p : Addr × Obj}
    {osl : Array (Option Value)} {N ps : List Str} {sp : Sp} (lk : K.lookup f = some ⟨oc, od, .func (PySem.W.fnOf name qual params body scope dV kV doc pm an cdv ct), osl⟩) (hcd : PySem.W.codeIn K cdv qual = true) (S : FnScope N ps scope)
    (len : ∀ vs H Q E, sp vs H Q E → vs.length = ps.length)
    (hbody : ∀ (A : Around) (outer : List Env) (s : Shared) (H : Hp) (vs : List V) (Q : VK) (E : XK), L2H.Hot1 A p → L2H.RoomH k (A.deeper (envOfC qual scope s.heap.objs.size f cdv)) → sp vs H Q E →
      ∃ t, PSs (L2H.cxH C8.CX0 P w K mg base N qual scope f cdv A outer s H E p) body t ∧ t { nx := fun _ H' => Q .non H', rt := Q } (L2.start N vs) H) :
    FnE P w K mg base (k + 1) f (PySem.W.fnOf name qual params body scope dV kV doc pm an cdv ct) ps p sp := by
  refine ⟨len, fun A outer s H args us vs Q E hr hot hpin e0 hb r hsp => ?_⟩
  have hl := len _ _ _ _ hsp
  have KX : K.In s.heap := e0.mod.kin.keeps fun b o e => (e0.bs b o e).1
  have lim : s.heap.NoLimit := e0.mod.nolimit.keeps fun b o e => (e0.bs b o e).1
  have hkind : ∀ y ∈ ps.zip us, scope.names.lookup y.1 = some .local ∨ (scope.names.lookup y.1 = some .cell ∧ ((cellsFrom (s.heap.objs.size + 1) scope.names []).lookup y.1).isSome = true) := fun ⟨n, v⟩ hy => by
    rcases S.par n (List.of_mem_zip hy).1 with q | q
    · exact .inl q
    · exact .inr ⟨q, PySem.W.cellsFrom_some _ _ _ (.inl q)⟩
  refine codeAny_call_function hr.depth (KX _ _ lk) rfl S.co S.gen rfl (PySem.W.codeRec_of KX hcd) (hb _ _ _ _ ?_)
  refine wpAny_newFunctionEnv_cells S.kind hkind fun env he s1 x => ?_
  subst he
  refine ⟨lim.keeps x.toInCall.keep, codeAny_func ?_⟩
  obtain ⟨t, ht, hq⟩ := hbody A outer s H vs Q E hot (hr.deeper _) hsp
  have I : Inv (L2H.cxH C8.CX0 P w K mg base N qual scope f cdv A outer s H E p) [] (L2.start N vs) H s1 := L2H.inv_startH S hpin e0 hl r x
  refine wpAny_mono (ht.run [] s1 (L2.start N vs) H _ I hq) (fun fl s' hs => ?_) fun e s' hs => hs
  have fin : ∀ {σ' : L2.St} {H' : Hp} {v : V} {u : Value}, Inv (L2H.cxH C8.CX0 P w K mg base N qual scope f cdv A outer s H E p) [] σ' H' s' → RelV v u → Q v H' → CE outer P w H s Q u s' :=
    fun {σ' H' v u} J rv q => ⟨v, H', J.os, J.bare, J.base, J.hok, rv, q⟩
  cases fl with
  | ret u =>
    obtain ⟨v, σ', H', J, rv, q⟩ := hs
    exact fin J rv q
  | next =>
    obtain ⟨σ', H', J, q⟩ := hs
    exact fin (v := V.non) (u := Value.none) J rfl q
  | brk =>
    obtain ⟨_, _, _, q⟩ := hs
    exact False.elim q
  | cont =>
    obtain ⟨_, _, _, q⟩ := hs
    exact False.elim q

theorem fnE0 {x qual : Str} {st : Stmt} {f : Addr} {fd : FuncData} {N ps : List Str} {k : Nat} {p : Addr × Obj} {sp : Sp} (F : C8.Fun K x qual st f fd) (S : FnScope N ps (C8.fnScope st)) (len : ∀ vs H Q E, sp vs H Q E → vs.length = ps.length)
    (hb : ∀ (cdv : Value) (A : Around) (outer : List Env) (s : Shared) (H : Hp) (vs : List V) (Q : VK) (E : XK), L2H.RoomH k (A.deeper (envOfC qual (C8.fnScope st) s.heap.objs.size f cdv)) → sp vs H Q E →
      L2H.HotC (L2H.cxH C8.CX0 P w K mg base N qual (C8.fnScope st) f cdv A outer s H E p).nox → p ∈ (L2H.cxH C8.CX0 P w K mg base N qual (C8.fnScope st) f cdv A outer s H E p).nox.pn →
      ∃ t, PSs (L2H.cxH C8.CX0 P w K mg base N qual (C8.fnScope st) f cdv A outer s H E p).nox (C8.fnBody st) t ∧ t { nx := fun _ H' => Q .non H', rt := Q } (start N vs) H) : FnE P w K mg base (k + 1) f fd ps p sp := by
  obtain ⟨oc, od, dV, kV, doc, pm, an, cdv, ct, osl, rfl, lk, hcd⟩ := F.ex
  refine fn_ofE lk hcd S len fun A outer s H vs Q E hot hr hsp => ?_
  obtain ⟨t, h, q⟩ := hb cdv A outer s H vs Q E hr hsp ⟨p, hot, List.mem_singleton.mpr rfl⟩ (List.mem_singleton.mpr rfl)
  exact ⟨t, h.nox, q⟩
end
section
variable {X : Cx} {k j : Nat} {x : Str} {sp : Addr → Value → Option Addr → Sp} {q pos : Pos} {e : Expr} {es : List Expr} {t : TA} {a : Addr} {oe : Obj} {cls : Value} {d : Option Addr} {pn : List (Addr × Obj)}
/-- such a def called in the except suite -/
theorem pe_ce (c : CalE X.prog X.w X.K X.mg X.base k x sp) (hr : L2H.RoomH j (X.suite a ((a, oe) :: pn)).A) (hk : k ≤ j) (hz : L2N.Zn cls d oe) (hf : ∃ vs, oe.data = .fields vs) (hg : Gl (X.suite a ((a, oe) :: pn)) x) (ha : PA (X.suite a ((a, oe) :: pn)) (e :: es) t)
    (hdb : (x == ("__debug__" : Str)) = false := by decide) (he : starEach (e :: es) X.env = (false, eval e X.env) :: starEach es X.env := by rfl) (hpl : (backTo pos (starEach es X.env)).any (·.1) = false := by rfl) :
    PE (X.suite a ((a, oe) :: pn)) (.Call (.Name x q) (e :: es) [] pos) (tCallS (sp a cls d) (fun _ => C8.E0) t) := by
  obtain ⟨f, fd, ps, hm, kp, hb, F⟩ := c.ex
  have F := F (a, oe) cls d hz.zc hf
  obtain ⟨vs0, hv⟩ := hf
  refine ⟨fun pins s σ H Q I h => ?_⟩
  refine wpAny_Call_Name_kw (ld_glob I hg hm ?_ hdb)
  refine PySem.W.callWith_K (h₀ := X.base) I.ok.mod.kin kp (thn (ha.run pos pins s σ H _ I h) fun us s1 ⟨vs, H1, I1, r, h⟩ => ⟨I1.kIn, ?_⟩) he hpl
  have hl : us.length = ps.length := by rw [← r.length]; exact F.len _ _ _ _ h
  have b := hb s1 us I1.kIn (by rw [List.append_nil]; exact hl)
  rw [List.append_nil] at b
  have P1 := I1.pin (a, oe) (List.mem_append_left _ List.mem_cons_self)
  have hpin : L2H.PinOk X.stack H1 s1 (a, oe) := ⟨P1.1, P1.2.1, fun hm => (List.mem_cons.mp (I1.stkSub a hm)).elim P1.2.2.1 P1.2.2.2.1, P1.2.2.2.2⟩
  refine wpAny_call (codeAny_mono (F.run (X.suite a ((a, oe) :: pn)).A X.stack s1 H1 ⟨us, []⟩ us vs Q C8.E0 (hr.mono hk) ⟨rfl, vs0, hv, hz.2.2 vs0 hv⟩ hpin I1.env0 b r h) fun r s' hq => ?_)
  cases r with
  | error e => exact hq.elim
  | ok fl =>
    cases fl with
    | ret u => exact I1.after hq
    | next => exact False.elim hq
    | brk => exact False.elim hq
    | cont => exact False.elim hq
end
end RJ
end

section
set_option maxRecDepth 100000
set_option maxHeartbeats 4000000
namespace RJ
open PySem PySem.Spec PyProof.Rows L2
/-! ### a text turned about -/
def tRevS (te : TE) : TE := fun σ H Q => te σ H fun x H1 => ∃ z, x = .str z ∧ z.length ≤ sizeLine ∧ Q (.str ⟨z.cps.toList.reverse.toArray⟩) H1
section
variable {X : Cx}
theorem pe_revS {e : Expr} {te : TE} {k : Nat} {p1 p2 p3 pos : Pos} (he : PE X e te) : PE X (.Subscript e (.Slice none none (some (.UnaryOp .USub (.Constant (.int 1) k p1) p2)) p3) pos) (tRevS te) := by
  refine ⟨fun pins s σ H Q I h => ?_⟩
  refine Subscript_ (thn (he.run pins s σ H _ I h) fun v s1 ⟨x, H1, I1, r1, q1⟩ => ?_)
  obtain ⟨z, ex, hz, q⟩ := q1
  subst ex
  obtain ⟨t, rfl⟩ := r1
  have hst : PO X (some (.UnaryOp .USub (.Constant (.int 1) k p1) p2)) (tPart (tUn (rU fun i => .int (-i)) (tC (.int 1)))) := po_some (pe_un un_neg pe_int)
  refine wpAny_Slice (thn (po_none.run pins s1 σ H1 (fun o H2 => o = none ∧ H2 = H1) I1 ⟨rfl, rfl⟩) fun vl s2 ⟨l, H2, I2, pl, el, e2⟩ => ?_)
  subst el e2
  refine thn (po_none.run pins s2 σ H2 (fun o H3 => o = none ∧ H3 = H2) I2 ⟨rfl, rfl⟩) fun vu s3 ⟨u, H3, I3, pu, eu, e3⟩ => ?_
  subst eu e3
  refine thn (hst.run pins s3 σ H3 (fun o H4 => o = some (-1) ∧ H4 = H3) I3 ⟨1, rfl, -1, rfl, rfl, rfl⟩) fun vs s4 ⟨o, H4, I4, ps, eo, e4⟩ => ?_
  subst eo e4
  have I5 : Inv X pins σ H4 { s4 with heap := s4.heap.push { cls := .type "slice", data := .fields #[vl, vu, vs] } } := I4.kept (t' := s4.toks) fun b ob q => Heap.get?_push_of_some _ q
  cases pl
  cases pu
  obtain ⟨st, rfl, hst1⟩ := IsPart.raw ps
  cases st with
  | none => cases hst1
  | some st =>
  obtain ⟨si, stk⟩ := st
  cases hst1
  show wpAny (model X.prog X.w) X.A (subscriptTail e (.Slice none none (some (.UnaryOp .USub (.Constant (.int 1) k p1) p2)) p3) (.str z t) (.ref s4.heap.objs.size)) (EP X pins σ Q) X.xe { s4 with heap := s4.heap.push { cls := .type "slice", data := .fields #[.none, .none, .int (-1) stk] } }
  refine tail_any (ops := [.ref s4.heap.objs.size, .str z t]) (typeIs_str _ _ _) F.slot_str_getitem.lookup ?_ (by with_unfolding_all rfl)
  refine wpAny_getItem_str_slice (l := none) (u := none) (st := some (-1, stk)) ⟨_, Heap.get?_push_size _ rfl, rfl, rfl⟩ rfl ?_
  have e : (Builtin.Str.strSliceIndices none none (-1) z.length).filterMap (z.cps[·]?) = z.cps.toList.reverse := by
    show (sliceRange ((z.length : Int) - 1) (-1) (-1)).filterMap (z.cps[·]?) = _
    rw [PySem.W.krv_sliceRange, PySem.W.krv_range, List.filterMap_reverse]
    exact congrArg List.reverse (PySem.W.krv_all z.cps)
  show Made.post (if (((-1 : Int) == 1) && (Builtin.Str.strSliceIndices none none (-1) z.length).length == z.length) = true then Made.val (.str z t)
    else Made.str ⟨((Builtin.Str.strSliceIndices none none (-1) z.length).filterMap (z.cps[·]?)).toArray⟩) (EP X pins σ Q) _
  rw [if_neg (by simp), e]
  refine ⟨?_, .str _, H4, I5.tok _, ⟨_, rfl⟩, q⟩
  show (z.cps.toList.reverse.toArray).size ≤ sizeLine
  rw [List.size_toArray, List.length_reverse]
  exact hz
end
end RJ
end

section
namespace RJ
/-- the cut of a text -/
abbrev CT (al : List Nat) (ps : List (Nat × Nat)) (t : List Nat) : List Nat := cutL al.length ps (lets al t)
abbrev TX (al : List Nat) (ps : List (Nat × Nat)) (p : Nat) : List Nat := (textsOf al ps).getD p []
theorem adjs_snoc {C : List Nat} {p : Nat} {q : Nat × Nat} : q ∈ adjs (C ++ [p]) ↔ q ∈ adjs C ∨ (C.getLast? = some q.1 ∧ q.2 = p) := by
  rcases List.eq_nil_or_concat C with rfl | ⟨D, y, rfl⟩
  · simp [adjs]
  · rw [List.concat_eq_append, List.append_assoc]
    show q ∈ adjs (D ++ y :: [p]) ↔ _
    rw [adjs_append, List.mem_append]
    have e : adjs (y :: [p]) = [(y, p)] := rfl
    rw [e, List.mem_singleton, List.getLast?_append]
    have e2 : ([y] : List Nat).getLast?.or D.getLast? = some y := rfl
    rw [e2]
    constructor
    · rintro (h | h)
      · exact .inl h
      · subst h; exact .inr ⟨rfl, rfl⟩
    · rintro (h | ⟨h1, h2⟩)
      · exact .inl h
      · refine .inr ?_
        obtain ⟨q1, q2⟩ := q
        simp only [Option.some.injEq] at h1
        dsimp only at h2
        rw [h1, h2]
section
variable {al : List Nat} {ps : List (Nat × Nat)}
theorem CT_row (hnd : al.Nodup) (h : Proper al ps) {R : List Nat} (hR : ∀ x ∈ R, x < al.length + ps.length) : CT al ps (textR (textsOf al ps) R) = R ↔ ∀ q ∈ adjs R, ∀ r, ¬ Cross al.length ps q.1 q.2 r := by
  rw [← cut_row_iff (h.good hnd) hR, Dn_texts hnd h hR]
theorem textR_one (p : Nat) : textR (textsOf al ps) [p] = TX al ps p := by simp [textR]
/-- a text with a piece behind it -/
theorem CT_app (hnd : al.Nodup) (h : Proper al ps) {u : List Nat} {p : Nat} (hu : ∀ c ∈ u, c ∈ al) (hp : p < al.length + ps.length) :
    CT al ps (u ++ TX al ps p) = CT al ps u ++ [p] ↔ ∀ y, (CT al ps u).getLast? = some y → ∀ r, ¬ Cross al.length ps y p r := by
  have hC : ∀ x ∈ CT al ps u, x < al.length + ps.length := cut_lt hu
  have hR : ∀ x ∈ CT al ps u ++ [p], x < al.length + ps.length := fun x hx => (List.mem_append.mp hx).elim (hC x) fun z => by rw [List.mem_singleton.mp z]; exact hp
  have e1 : textR (textsOf al ps) (CT al ps u ++ [p]) = u ++ TX al ps p := by rw [textR_app, text_cut h.wf hu, textR_one]
  have e2 : CT al ps (textR (textsOf al ps) (CT al ps u)) = CT al ps u := by rw [text_cut h.wf hu]
  have e3 := CT_row hnd h hR
  rw [e1] at e3
  rw [e3]
  constructor
  · intro k y hy r
    exact k (y, p) (adjs_snoc.mpr (.inr ⟨hy, rfl⟩)) r
  · intro k q hq r
    rcases adjs_snoc.mp hq with z | ⟨z1, z2⟩
    · exact (CT_row hnd h hC).mp e2 q z r
    · rw [z2]; exact k _ z1 r
/-- the last piece of the cut of a text -/
theorem CT_last (hnd : al.Nodup) (h : Proper al ps) {t : List Nat} (ht : ∀ c ∈ t, c ∈ al) (hne : t ≠ []) : ∃ x u, (CT al ps t).getLast? = some x ∧ x < al.length + ps.length ∧ t = u ++ TX al ps x ∧ CT al ps t = CT al ps u ++ [x] ∧ 0 < (TX al ps x).length := by
  have htx := text_cut (ps := ps) h.wf ht
  rcases List.eq_nil_or_concat (CT al ps t) with z | ⟨D, x, z⟩
  · rw [show cutL al.length ps (lets al t) = [] from z] at htx
    exact absurd htx.symm hne
  · rw [List.concat_eq_append] at z
    have hlt : ∀ y ∈ D ++ [x], y < al.length + ps.length := by rw [← z]; exact cut_lt ht
    have hx : x < al.length + ps.length := hlt x (by simp)
    have hD : ∀ y ∈ D, y < al.length + ps.length := fun y hy => hlt y (by simp [hy])
    rw [show cutL al.length ps (lets al t) = D ++ [x] from z, textR_app, textR_one] at htx
    have hrow := (CT_row hnd h hlt).mp (by rw [← z]; show CT al ps (textR (textsOf al ps) (CT al ps t)) = CT al ps t; rw [text_cut h.wf ht])
    have hDc : CT al ps (textR (textsOf al ps) D) = D := (CT_row hnd h hD).mpr fun q hq => hrow q (adjs_snoc.mpr (.inl hq))
    exact ⟨x, textR (textsOf al ps) D, by rw [z]; simp, hx, htx.symm, by rw [z, hDc], texts_pos h.wf x hx⟩
/-- the last piece -/
def tailOf (al : List Nat) (ps : List (Nat × Nat)) (t : List Nat) : Nat := ((CT al ps t).getLast?).getD 0
/-- where a piece that ends a text may stand, it is the last one -/
theorem tail_uniq (hnd : al.Nodup) (h : Proper al ps) {t u : List Nat} {p : Nat} (ht : ∀ c ∈ t, c ∈ al) (hp : p < al.length + ps.length) (e : t = u ++ TX al ps p) (hb : u = [] ∨ ∀ r, ¬ Cross al.length ps (tailOf al ps u) p r) :
    p = tailOf al ps t ∧ CT al ps t = CT al ps u ++ [p] := by
  have hu : ∀ c ∈ u, c ∈ al := fun c hc => ht c (by rw [e]; exact List.mem_append_left _ hc)
  have key : CT al ps t = CT al ps u ++ [p] := by
    rw [e]
    refine (CT_app hnd h hu hp).mpr fun y hy r => ?_
    rcases hb with rfl | hb
    · rw [show CT al ps [] = [] from cut_nil _ _] at hy; cases hy
    · have : tailOf al ps u = y := by unfold tailOf; rw [hy]; rfl
      rw [← this]; exact hb r
  refine ⟨?_, key⟩
  unfold tailOf
  rw [key]; simp
/-- the last piece stands so -/
theorem tail_ex (hnd : al.Nodup) (h : Proper al ps) {t : List Nat} (ht : ∀ c ∈ t, c ∈ al) (hne : t ≠ []) : ∃ u, tailOf al ps t < al.length + ps.length ∧ t = u ++ TX al ps (tailOf al ps t) ∧ CT al ps t = CT al ps u ++ [tailOf al ps t] ∧ 0 < (TX al ps (tailOf al ps t)).length ∧
    (u = [] ∨ ∀ r, ¬ Cross al.length ps (tailOf al ps u) (tailOf al ps t) r) := by
  obtain ⟨x, u, h1, h2, h3, h4, h5⟩ := CT_last hnd h ht hne
  have e : tailOf al ps t = x := by unfold tailOf; rw [h1]; rfl
  rw [e]
  refine ⟨u, h2, h3, h4, h5, ?_⟩
  by_cases hu : u = []
  · exact .inl hu
  · have hul : ∀ c ∈ u, c ∈ al := fun c hc => ht c (by rw [h3]; exact List.mem_append_left _ hc)
    obtain ⟨y, _, g1, _⟩ := CT_last hnd h hul hu
    have ey : tailOf al ps u = y := by unfold tailOf; rw [g1]; rfl
    rw [ey]
    exact .inr ((CT_app hnd h hul h2).mp (by rw [← h3]; exact h4) y g1)
/-- the tails of the beginnings of a text -/
def tailsL (al : List Nat) (ps : List (Nat × Nat)) (t : List Nat) (n : Nat) : List Nat := (List.range n).map fun k => tailOf al ps (t.take (k + 1))
theorem tailsL_len (t : List Nat) (n : Nat) : (tailsL al ps t n).length = n := by unfold tailsL; rw [List.length_map, List.length_range]
theorem tailsL_succ (t : List Nat) (n : Nat) : tailsL al ps t (n + 1) = tailsL al ps t n ++ [tailOf al ps (t.take (n + 1))] := by
  unfold tailsL; rw [List.range_succ, List.map_append]; rfl
theorem tailsL_get (t : List Nat) {n k : Nat} (hk : k < n) : (tailsL al ps t n)[k]? = some (tailOf al ps (t.take (k + 1))) := by
  unfold tailsL; rw [List.getElem?_map, List.getElem?_range hk]; rfl
theorem tailsL_lt (hnd : al.Nodup) (h : Proper al ps) {t : List Nat} (ht : ∀ c ∈ t, c ∈ al) {n : Nat} (hn : n ≤ t.length) : ∀ x ∈ tailsL al ps t n, x < al.length + ps.length := fun x hx => by
  unfold tailsL at hx
  obtain ⟨k, hk, rfl⟩ := List.mem_map.mp hx
  have hk' := List.mem_range.mp hk
  have hne : t.take (k + 1) ≠ [] := fun z => by
    have := congrArg List.length z
    rw [List.length_take, List.length_nil] at this; omega
  obtain ⟨u, h1, _⟩ := tail_ex hnd h (t := t.take (k + 1)) (fun c hc => ht c (List.mem_of_mem_take hc)) hne
  exact h1
end
end RJ
namespace RJ
theorem tailsL_take {al : List Nat} {ps : List (Nat × Nat)} (t : List Nat) {n m : Nat} (h : n ≤ m) : tailsL al ps (t.take m) n = tailsL al ps t n := by
  unfold tailsL
  refine List.map_congr_left fun k hk => ?_
  have hk' := List.mem_range.mp hk
  rw [List.take_take, Nat.min_eq_left (by omega)]
end RJ
namespace RJ
section
variable {al : List Nat} {ps : List (Nat × Nat)}
/-- exactly the last piece fits -/
theorem fit_iff (hnd : al.Nodup) (h : Proper al ps) {t : List Nat} {p : Nat} (ht : ∀ c ∈ t, c ∈ al) (hne : t ≠ []) (hp : p < al.length + ps.length) :
    p = tailOf al ps t ↔ ∃ u, t = u ++ TX al ps p ∧ (u = [] ∨ ∀ r, ¬ Cross al.length ps (tailOf al ps u) p r) := by
  constructor
  · rintro rfl
    obtain ⟨u, _, h2, _, _, h5⟩ := tail_ex hnd h ht hne
    exact ⟨u, h2, h5⟩
  · rintro ⟨u, h1, h2⟩
    exact (tail_uniq hnd h ht hp h1 h2).1
theorem pair_iff (hnd : al.Nodup) (h : Proper al ps) {x y : Nat} (hx : x < al.length + ps.length) (hy : y < al.length + ps.length) : CT al ps (TX al ps x ++ TX al ps y) = [x, y] ↔ ∀ r, ¬ Cross al.length ps x y r := by
  have hx' : x < (textsOf al ps).length := by rw [textsOf_len]; exact hx
  have e : (textsOf al ps)[x]? = some (TX al ps x) := by
    rw [List.getElem?_eq_getElem hx']
    show _ = some ((textsOf al ps).getD x [])
    rw [List.getD_eq_getElem?_getD, List.getElem?_eq_getElem hx']; rfl
  have hc : CT al ps (TX al ps x) = [x] := cut_piece hnd h x _ e
  have hin : ∀ c ∈ TX al ps x, c ∈ al := textsOf_al _ (List.mem_of_getElem? e)
  have := CT_app hnd h hin hy
  rw [hc] at this
  rw [show ([x, y] : List Nat) = [x] ++ [y] from rfl, this]
  constructor
  · intro k; exact k x rfl
  · intro k z hz; cases hz; exact k
end
end RJ
end

section
namespace RJ
section
variable {al : List Nat} {ps : List (Nat × Nat)}
/-- the place at which the last piece of the cut of the first k letters begins -/
def parP (al : List Nat) (ps : List (Nat × Nat)) (t : List Nat) (k : Nat) : Nat := k - (TX al ps (tailOf al ps (t.take k))).length
theorem take_mem {t : List Nat} {k : Nat} (ht : ∀ c ∈ t, c ∈ al) : ∀ c ∈ t.take k, c ∈ al := fun c hc => ht c (List.mem_of_mem_take hc)
theorem par_spec (hnd : al.Nodup) (h : Proper al ps) {t : List Nat} (ht : ∀ c ∈ t, c ∈ al) {k : Nat} (h0 : 0 < k) (hk : k ≤ t.length) :
    parP al ps t k < k ∧ tailOf al ps (t.take k) < al.length + ps.length ∧ (TX al ps (tailOf al ps (t.take k))).length ≤ k ∧ t.take k = t.take (parP al ps t k) ++ TX al ps (tailOf al ps (t.take k)) ∧ CT al ps (t.take k) = CT al ps (t.take (parP al ps t k)) ++ [tailOf al ps (t.take k)] ∧
    (parP al ps t k = 0 ∨ ∀ r, ¬ Cross al.length ps (tailOf al ps (t.take (parP al ps t k))) (tailOf al ps (t.take k)) r) := by
  have hl : (t.take k).length = k := by rw [List.length_take]; omega
  have hne : t.take k ≠ [] := fun z => by rw [z] at hl; rw [List.length_nil] at hl; omega
  obtain ⟨u, h1, h2, h3, h4, h5⟩ := tail_ex hnd h (take_mem ht) hne
  have hlen : k = u.length + (TX al ps (tailOf al ps (t.take k))).length := by
    have := congrArg List.length h2
    rwa [hl, List.length_append] at this
  have hp : parP al ps t k = u.length := by unfold parP; omega
  have hu : t.take (parP al ps t k) = u := by
    have e := congrArg (List.take u.length) h2
    rw [List.take_left, List.take_take, Nat.min_eq_left (by omega)] at e
    rw [hp]; exact e
  refine ⟨by rw [hp]; omega, h1, by omega, by rw [hu]; exact h2, by rw [hu]; exact h3, ?_⟩
  rw [hu]
  rcases h5 with z | z
  · left; rw [hp, z]; rfl
  · exact .inr z
/-- the cut of the first c letters begins the one of the first k -/
def Anc (al : List Nat) (ps : List (Nat × Nat)) (t : List Nat) (c k : Nat) : Prop := c ≤ k ∧ CT al ps (t.take c) <+: CT al ps (t.take k)
theorem Anc.refl (t : List Nat) (k : Nat) : Anc al ps t k k := ⟨Nat.le_refl _, List.prefix_refl _⟩
theorem Anc.trans {t : List Nat} {a b c : Nat} (h1 : Anc al ps t a b) (h2 : Anc al ps t b c) : Anc al ps t a c := ⟨Nat.le_trans h1.1 h2.1, h1.2.trans h2.2⟩
theorem Anc.par (hnd : al.Nodup) (h : Proper al ps) {t : List Nat} (ht : ∀ c ∈ t, c ∈ al) {k : Nat} (h0 : 0 < k) (hk : k ≤ t.length) : Anc al ps t (parP al ps t k) k := by
  obtain ⟨h1, _, _, _, h5, _⟩ := par_spec hnd h ht h0 hk
  exact ⟨by omega, by rw [h5]; exact List.prefix_append _ _⟩
theorem pre_len {R R' : List Nat} {t t' : List Nat} (hw : WF al.length ps) (ht : ∀ c ∈ t, c ∈ al) (ht' : ∀ c ∈ t', c ∈ al) (h : CT al ps t <+: CT al ps t') : t <+: t' := by
  obtain ⟨S, hS⟩ := h
  have e := congrArg (textR (textsOf al ps)) hS
  rw [textR_app, text_cut hw ht, text_cut hw ht'] at e
  exact ⟨_, e⟩
theorem pre_split {a b : List Nat} {x : Nat} (h : a <+: b ++ [x]) : a <+: b ∨ a = b ++ [x] := by
  rcases List.prefix_concat_iff.mp h with z | z
  · exact .inr z
  · exact .inl z
theorem Anc.step (hnd : al.Nodup) (h : Proper al ps) {t : List Nat} (ht : ∀ c ∈ t, c ∈ al) {c k : Nat} (hc : Anc al ps t c k) (hlt : c < k) (hk : k ≤ t.length) : Anc al ps t c (parP al ps t k) := by
  obtain ⟨h1, _, _, _, h5, _⟩ := par_spec hnd h ht (by omega : 0 < k) hk
  have h2 := hc.2
  rw [h5] at h2
  rcases pre_split h2 with z | z
  · refine ⟨?_, z⟩
    have := (pre_len (R := []) (R' := []) h.wf (take_mem ht) (take_mem ht) z).length_le
    rw [List.length_take, List.length_take] at this; omega
  · exfalso
    have e := congrArg (fun r => (textR (textsOf al ps) r).length) (z.trans h5.symm)
    rw [text_cut h.wf (take_mem ht), text_cut h.wf (take_mem ht), List.length_take, List.length_take] at e
    omega
/-- a piece with which the cut of a text that begins so comes to its end, or first goes beyond it -/
def Cov (al : List Nat) (ps : List (Nat × Nat)) (t : List Nat) (b p : Nat) : Prop := b < t.length ∧ p < al.length + ps.length ∧ t.drop b <+: TX al ps p ∧ (b = 0 ∨ ∀ r, ¬ Cross al.length ps (tailOf al ps (t.take b)) p r)
theorem Cov.text (hnd : al.Nodup) (h : Proper al ps) {t : List Nat} (ht : ∀ c ∈ t, c ∈ al) {b p : Nat} (hc : Cov al ps t b p) :
    t <+: t.take b ++ TX al ps p ∧ (∀ c ∈ t.take b ++ TX al ps p, c ∈ al) ∧ CT al ps (t.take b ++ TX al ps p) = CT al ps (t.take b) ++ [p] ∧ t.length ≤ b + (TX al ps p).length := by
  obtain ⟨h1, h2, h3, h4⟩ := hc
  have hm : ∀ c ∈ TX al ps p, c ∈ al := by
    intro c hc
    have hp' : p < (textsOf al ps).length := by rw [textsOf_len]; exact h2
    refine textsOf_al _ (List.getElem_mem hp') c ?_
    have : TX al ps p = (textsOf al ps)[p] := by show (textsOf al ps).getD p [] = _; rw [List.getD_eq_getElem?_getD, List.getElem?_eq_getElem hp']; rfl
    rw [← this]; exact hc
  refine ⟨?_, fun c hc => (List.mem_append.mp hc).elim (take_mem ht c) (hm c), ?_, ?_⟩
  · obtain ⟨R, hR⟩ := h3
    refine ⟨R, ?_⟩
    rw [← hR, ← List.append_assoc, List.take_append_drop]
  · refine (CT_app hnd h (take_mem ht) h2).mpr fun y hy r => ?_
    rcases h4 with rfl | h4
    · rw [List.take_zero, show CT al ps [] = [] from cut_nil _ _] at hy; cases hy
    · have : tailOf al ps (t.take b) = y := by unfold tailOf; rw [hy]; rfl
      rw [← this]; exact h4 r
  · have := h3.length_le
    rw [List.length_drop] at this; omega
theorem take_pre {t y : List Nat} (h : t <+: y) {k : Nat} (hk : k ≤ t.length) : y.take k = t.take k := by
  obtain ⟨R, rfl⟩ := h
  rw [List.take_append_of_le_length hk]
theorem drop_pre {t y : List Nat} (h : t <+: y) (k : Nat) : t.drop k <+: y.drop k := by
  obtain ⟨R, rfl⟩ := h
  by_cases c : k ≤ t.length
  · rw [List.drop_append_of_le_length c]; exact List.prefix_append _ _
  · rw [List.drop_eq_nil_of_le (by omega)]; exact List.nil_prefix
/-- the cut of every text that begins so goes through one of them -/
theorem cov_ex (hnd : al.Nodup) (h : Proper al ps) {t y : List Nat} (hy : ∀ c ∈ y, c ∈ al) (hp : t <+: y) (hne : t ≠ []) : ∃ b p, Cov al ps t b p ∧ CT al ps (t.take b) ++ [p] <+: CT al ps y := by
  have h0 : 0 < t.length := List.length_pos_iff.mpr hne
  have hle := hp.length_le
  have key : ∀ n k, k ≤ n → t.length ≤ k → k ≤ y.length → ∃ b p, Cov al ps t b p ∧ CT al ps (t.take b) ++ [p] <+: CT al ps (y.take k) := by
    intro n
    induction n with
    | zero => intro k hk h1 _; omega
    | succ n ih =>
      intro k hk h1 h2
      obtain ⟨g1, g2, g3, g4, g5, g6⟩ := par_spec hnd h hy (by omega : 0 < k) h2
      by_cases c : t.length ≤ parP al ps y k
      · obtain ⟨b, p, h3, h4⟩ := ih (parP al ps y k) (by omega) c (by omega)
        exact ⟨b, p, h3, h4.trans (by rw [g5]; exact List.prefix_append _ _)⟩
      · have e : y.take (parP al ps y k) = t.take (parP al ps y k) := take_pre hp (by omega)
        refine ⟨parP al ps y k, tailOf al ps (y.take k), ⟨by omega, g2, ?_, ?_⟩, ?_⟩
        · have hd : (y.take k).drop (parP al ps y k) = TX al ps (tailOf al ps (y.take k)) := by
            conv => lhs; rw [g4]
            have hl : (y.take (parP al ps y k)).length = parP al ps y k := by rw [List.length_take]; omega
            conv => lhs; arg 1; rw [← hl]
            rw [List.drop_left]
          rw [← hd]
          have ht2 : t <+: y.take k := by
            obtain ⟨R, rfl⟩ := hp
            exact ⟨R.take (k - t.length), by rw [List.take_append, List.take_of_length_le h1]⟩
          exact drop_pre ht2 _
        · rw [e] at g6; exact g6
        · rw [g5, e]; exact List.prefix_refl _
  have := key y.length y.length (Nat.le_refl _) hle (Nat.le_refl _)
  rwa [List.take_length] at this
/-- the longest common beginning of the cuts of all texts that begin so -/
def SureIs (al : List Nat) (ps : List (Nat × Nat)) (t S : List Nat) : Prop := (∀ y, (∀ c ∈ y, c ∈ al) → t <+: y → S <+: CT al ps y) ∧ ∀ S', (∀ y, (∀ c ∈ y, c ∈ al) → t <+: y → S' <+: CT al ps y) → S' <+: S
theorem SureIs.uniq {t S S' : List Nat} (h : SureIs al ps t S) (h' : SureIs al ps t S') : S = S' := by
  have h1 := h.2 S' h'.1
  have h2 := h'.2 S h.1
  exact h2.eq_of_length (Nat.le_antisymm h2.length_le h1.length_le)
theorem SureIs.mono {t u S S' : List Nat} (h : SureIs al ps t S) (h' : SureIs al ps u S') (hp : t <+: u) : S <+: S' :=
  h'.2 S fun y hy hu => h.1 y hy (hp.trans hu)
theorem SureIs.cut {t S : List Nat} (h : SureIs al ps t S) (ht : ∀ c ∈ t, c ∈ al) : S <+: CT al ps t := h.1 t ht (List.prefix_refl _)
theorem sure_nil : SureIs al ps [] [] := ⟨fun y _ _ => List.nil_prefix, fun S' h => by
  have := h [] (fun c hc => absurd hc (by simp)) (List.prefix_refl _)
  rw [show CT al ps [] = [] from cut_nil _ _] at this; exact this⟩
/-- only one -/
theorem sure_one (hnd : al.Nodup) (h : Proper al ps) {t : List Nat} (ht : ∀ c ∈ t, c ∈ al) {b p : Nat} (hc : Cov al ps t b p) (hu : ∀ b' p', Cov al ps t b' p' → b' = b ∧ p' = p) : SureIs al ps t (CT al ps (t.take b) ++ [p]) := by
  have hne : t ≠ [] := fun z => by have := hc.1; rw [z, List.length_nil] at this; omega
  obtain ⟨c1, c2, c3, c4⟩ := hc.text hnd h ht
  refine ⟨fun y hy hp => ?_, fun S' h' => ?_⟩
  · obtain ⟨b', p', h1, h2⟩ := cov_ex hnd h hy hp hne
    obtain ⟨rfl, rfl⟩ := hu b' p' h1
    exact h2
  · rw [← c3]; exact h' _ c2 c1
/-- more than one: all of them, taken back to one place -/
theorem sure_more (hnd : al.Nodup) (h : Proper al ps) {t : List Nat} (ht : ∀ c ∈ t, c ∈ al) {b1 p1 b2 p2 c : Nat} (h1 : Cov al ps t b1 p1) (h2 : Cov al ps t b2 p2) (hne : ¬ (b1 = b2 ∧ p1 = p2)) (hct : c ≤ t.length)
    (hall : ∀ b p, Cov al ps t b p → Anc al ps t c b) (hmax : ∀ c', (∀ b p, Cov al ps t b p → Anc al ps t c' b) → Anc al ps t c' c) : SureIs al ps t (CT al ps (t.take c)) := by
  have htne : t ≠ [] := fun z => by have := h1.1; rw [z, List.length_nil] at this; omega
  refine ⟨fun y hy hp => ?_, fun S' h' => ?_⟩
  · obtain ⟨b', p', g1, g2⟩ := cov_ex hnd h hy hp htne
    exact ((hall b' p' g1).2.trans (List.prefix_append _ _)).trans g2
  · obtain ⟨k1, k2, k3, k4⟩ := h1.text hnd h ht
    have e1 := h' _ k2 k1
    rw [k3] at e1
    have e2 : CT al ps (t.take c) <+: CT al ps (t.take b1) ++ [p1] := (hall _ _ h1).2.trans (List.prefix_append _ _)
    rcases List.prefix_or_prefix_of_prefix e1 e2 with z | z
    · exact z
    · obtain ⟨R, hR⟩ := z
      cases R with
      | nil => rw [List.append_nil] at hR; rw [hR]; exact List.prefix_refl _
      | cons q R =>
        exfalso
        have hq : ∀ b p, Cov al ps t b p → CT al ps (t.take c) ++ [q] <+: CT al ps (t.take b) ∨ (c = b ∧ q = p) := by
          intro b p hc
          obtain ⟨j1, j2, j3, j4⟩ := hc.text hnd h ht
          have e3 := h' _ j2 j1
          rw [j3, ← hR] at e3
          have e4 : CT al ps (t.take c) ++ [q] <+: CT al ps (t.take b) ++ [p] := by
            refine List.IsPrefix.trans ⟨R, ?_⟩ e3
            rw [List.append_assoc]; rfl
          rcases pre_split e4 with z | z
          · exact .inl z
          · right
            obtain ⟨z1, z2⟩ := List.append_inj' z rfl
            refine ⟨?_, List.singleton_inj.mp z2⟩
            have e := congrArg (fun r => (textR (textsOf al ps) r).length) z1
            rw [text_cut h.wf (take_mem ht), text_cut h.wf (take_mem ht), List.length_take, List.length_take] at e
            have := hc.1
            omega
        have hqlt : ∀ b p, Cov al ps t b p → CT al ps (t.take c) ++ [q] <+: CT al ps (t.take b) → q < al.length + ps.length := fun b p _ z => by
          refine cut_lt (ps := ps) (t := t.take b) (take_mem ht) q ?_
          exact z.subset (by simp)
        have far : ∀ b p, Cov al ps t b p → CT al ps (t.take c) ++ [q] <+: CT al ps (t.take b) → Anc al ps t (c + (TX al ps q).length) b ∧ c + (TX al ps q).length ≤ b := fun b p hc z => by
          obtain ⟨R2, hR2⟩ := z
          have hrow : ∀ x ∈ CT al ps (t.take c) ++ [q], x < al.length + ps.length := fun x hx => cut_lt (ps := ps) (t := t.take b) (take_mem ht) x (by
            show x ∈ CT al ps (t.take b)
            rw [← hR2]; exact List.mem_append_left _ hx)
          have hrowb : ∀ x ∈ CT al ps (t.take b), x < al.length + ps.length := cut_lt (take_mem ht)
          have hcr := (CT_row hnd h hrowb).mp (by rw [text_cut h.wf (take_mem ht)])
          have hself : CT al ps (textR (textsOf al ps) (CT al ps (t.take c) ++ [q])) = CT al ps (t.take c) ++ [q] := (CT_row hnd h hrow).mpr fun x hx => hcr x (by rw [← hR2]; exact adjs_sub_left hx)
          have etx : textR (textsOf al ps) (CT al ps (t.take c) ++ [q]) = t.take c ++ TX al ps q := by rw [textR_app, text_cut h.wf (take_mem ht), textR_one]
          have eb : t.take c ++ TX al ps q <+: t.take b := by
            have e := congrArg (textR (textsOf al ps)) hR2
            rw [textR_app, etx, text_cut h.wf (take_mem ht)] at e
            exact ⟨_, e⟩
          have hlen := eb.length_le
          rw [List.length_append, List.length_take, List.length_take, Nat.min_eq_left hct] at hlen
          have e5 : t.take (c + (TX al ps q).length) = t.take c ++ TX al ps q := by
            have h6 : t.take c ++ TX al ps q <+: t := eb.trans (List.take_prefix _ _)
            have h7 := List.prefix_iff_eq_take.mp h6
            rw [List.length_append, List.length_take, Nat.min_eq_left hct] at h7
            exact h7.symm
          refine ⟨⟨by omega, ?_⟩, by omega⟩
          rw [e5, ← etx, hself]
          exact ⟨R2, hR2⟩
        by_cases ex : ∃ b p, Cov al ps t b p ∧ c = b ∧ q = p
        · obtain ⟨b, p, g1, rfl, rfl⟩ := ex
          have big := (g1.text hnd h ht).2.2.2
          have no : ∀ b' p', Cov al ps t b' p' → c = b' ∧ q = p' := fun b' p' g' => by
            rcases hq b' p' g' with z | z
            · have := (far b' p' g' z).2
              have := g'.1
              omega
            · exact z
          obtain ⟨a1, a2⟩ := no _ _ h1
          obtain ⟨a3, a4⟩ := no _ _ h2
          exact hne ⟨a1.symm.trans a3, a2.symm.trans a4⟩
        · have hq2 : ∀ b p, Cov al ps t b p → CT al ps (t.take c) ++ [q] <+: CT al ps (t.take b) := fun b p g => by
            rcases hq b p g with z | z
            · exact z
            · exact absurd ⟨b, p, g, z⟩ ex
          have := hmax (c + (TX al ps q).length) fun b p g => (far b p g (hq2 b p g)).1
          have pos := texts_pos h.wf q (hqlt _ _ h1 (hq2 _ _ h1))
          have := this.1
          have : (TX al ps q).length = ((textsOf al ps).getD q []).length := rfl
          omega
/-- what the covers' places are taken back to -/
structure Places (al : List Nat) (ps : List (Nat × Nat)) (t : List Nat) (B P : List Nat) : Prop where
  le : ∀ x ∈ P, x ≤ t.length
  up : ∀ b ∈ B, ∃ x ∈ P, Anc al ps t x b
  mx : ∀ c, (∀ b ∈ B, Anc al ps t c b) → ∀ x ∈ P, Anc al ps t c x
theorem Places.start {t B : List Nat} {P : List Nat} (hB : ∀ b ∈ B, b ≤ t.length) (h : ∀ x, x ∈ P ↔ x ∈ B) : Places al ps t B P :=
  ⟨fun x hx => hB x ((h x).mp hx), fun b hb => ⟨b, (h b).mpr hb, Anc.refl t b⟩, fun c hc x hx => hc x ((h x).mp hx)⟩
theorem Places.step (hnd : al.Nodup) (h : Proper al ps) {t : List Nat} (ht : ∀ c ∈ t, c ∈ al) {B P P' : List Nat} {m o : Nat} (I : Places al ps t B P) (hm : m ∈ P) (ho : o ∈ P) (hom : o < m) (h' : ∀ x, x ∈ P' ↔ (x ∈ P ∧ x ≠ m) ∨ x = parP al ps t m) : Places al ps t B P' := by
  have hml := I.le m hm
  obtain ⟨g1, _⟩ := par_spec hnd h ht (by omega : 0 < m) hml
  refine ⟨fun x hx => ?_, fun b hb => ?_, fun c hc x hx => ?_⟩
  · rcases (h' x).mp hx with z | z
    · exact I.le x z.1
    · omega
  · obtain ⟨x, hx, ha⟩ := I.up b hb
    by_cases e : x = m
    · subst e
      exact ⟨_, (h' _).mpr (.inr rfl), (Anc.par hnd h ht (by omega) hml).trans ha⟩
    · exact ⟨x, (h' x).mpr (.inl ⟨hx, e⟩), ha⟩
  · rcases (h' x).mp hx with z | z
    · exact I.mx c hc x z.1
    · subst z
      have a1 := I.mx c hc m hm
      have a2 := (I.mx c hc o ho).1
      exact a1.step hnd h ht (by omega) hml
/-- all covers, in their order -/
def covFrom (al : List Nat) (ps : List (Nat × Nat)) (t : List Nat) (fits : Nat → Nat → Bool) (lo n : Nat) : List (Nat × Nat) := (List.range' lo n).flatMap fun b => ((List.range (al.length + ps.length)).filter (fits b)).map fun p => (b, p)
theorem covFrom_mem {t : List Nat} {fits : Nat → Nat → Bool} {lo n b p : Nat} : (b, p) ∈ covFrom al ps t fits lo n ↔ (lo ≤ b ∧ b < lo + n) ∧ p < al.length + ps.length ∧ fits b p = true := by
  unfold covFrom
  rw [List.mem_flatMap]
  constructor
  · rintro ⟨a, ha, hb⟩
    obtain ⟨q, hq, e⟩ := List.mem_map.mp hb
    cases e
    rw [List.mem_filter, List.mem_range] at hq
    rw [List.mem_range'_1] at ha
    exact ⟨ha, hq.1, hq.2⟩
  · rintro ⟨h1, h2, h3⟩
    exact ⟨b, List.mem_range'_1.mpr h1, List.mem_map.mpr ⟨p, by rw [List.mem_filter, List.mem_range]; exact ⟨h2, h3⟩, rfl⟩⟩
theorem covFrom_nodup {t : List Nat} {fits : Nat → Nat → Bool} : ∀ {n lo : Nat}, (covFrom al ps t fits lo n).Nodup
  | 0, _ => List.nodup_nil
  | n + 1, lo => by
    have e : covFrom al ps t fits lo (n + 1) = (((List.range (al.length + ps.length)).filter (fits lo)).map fun p => (lo, p)) ++ covFrom al ps t fits (lo + 1) n := by
      unfold covFrom
      rw [List.range'_succ, List.flatMap_cons]
    rw [e]
    refine List.nodup_append.mpr ⟨?_, covFrom_nodup, fun x hx y hy => ?_⟩
    · have : ∀ l : List Nat, l.Nodup → (l.map fun p => (lo, p)).Nodup := by
        intro l hl
        induction l with
        | nil => exact List.nodup_nil
        | cons a l ih =>
          rw [List.nodup_cons] at hl
          rw [List.map_cons, List.nodup_cons]
          refine ⟨fun hm => ?_, ih hl.2⟩
          obtain ⟨q, hq, e⟩ := List.mem_map.mp hm
          cases e
          exact hl.1 hq
      exact this _ ((List.nodup_range).filter _)
    · obtain ⟨q, _, rfl⟩ := List.mem_map.mp hx
      rintro rfl
      have := (covFrom_mem.mp hy).1.1
      omega
end
end RJ
namespace RJ
section
variable {al : List Nat} {ps : List (Nat × Nat)}
/-- the pieces below n whose texts begin so -/
def begL (al : List Nat) (ps : List (Nat × Nat)) (n : Nat) (u : List Nat) : List Nat := (List.range n).filter fun q => u.isPrefixOf (TX al ps q)
/-- the same, with piece n where the beginning has at most i letters -/
def begC (al : List Nat) (ps : List (Nat × Nat)) (n i : Nat) (u : List Nat) : List Nat := begL al ps n u ++ (if u <+: TX al ps n ∧ u.length ≤ i then [n] else [])
theorem begL_zero (u : List Nat) : begL al ps 0 u = [] := rfl
theorem begL_mem {n : Nat} {u : List Nat} {q : Nat} : q ∈ begL al ps n u ↔ q < n ∧ u <+: TX al ps q := by
  unfold begL; rw [List.mem_filter, List.mem_range, List.isPrefixOf_iff_prefix]
theorem begL_succ (n : Nat) (u : List Nat) : begL al ps (n + 1) u = begC al ps n (TX al ps n).length u := by
  unfold begC begL
  rw [List.range_succ, List.filter_append]
  congr 1
  by_cases h : u <+: TX al ps n
  · rw [if_pos ⟨h, h.length_le⟩, List.filter_cons, if_pos (List.isPrefixOf_iff_prefix.mpr h)]; rfl
  · rw [if_neg (fun z => h z.1)]
    have : u.isPrefixOf (TX al ps n) = false := by
      cases e : u.isPrefixOf (TX al ps n) with
      | false => rfl
      | true => exact absurd (List.isPrefixOf_iff_prefix.mp e) h
    rw [List.filter_cons, if_neg (by rw [this]; exact Bool.false_ne_true)]; rfl
theorem begC_zero {n : Nat} {u : List Nat} (h : u ≠ []) : begC al ps n 0 u = begL al ps n u := by
  unfold begC
  rw [if_neg (fun z => h (List.eq_nil_of_length_eq_zero (Nat.le_zero.mp z.2))), List.append_nil]
theorem begC_here {n i : Nat} (hi : i + 1 ≤ (TX al ps n).length) : begC al ps n i ((TX al ps n).take (i + 1)) = begL al ps n ((TX al ps n).take (i + 1)) ∧ begC al ps n (i + 1) ((TX al ps n).take (i + 1)) = begL al ps n ((TX al ps n).take (i + 1)) ++ [n] := by
  have hl : ((TX al ps n).take (i + 1)).length = i + 1 := by rw [List.length_take]; omega
  constructor
  · unfold begC
    rw [if_neg (fun z => by have := z.2; omega), List.append_nil]
  · unfold begC
    rw [if_pos ⟨List.take_prefix _ _, by omega⟩]
theorem begC_other {n i : Nat} {u : List Nat} (h : u ≠ (TX al ps n).take (i + 1)) : begC al ps n (i + 1) u = begC al ps n i u := by
  unfold begC
  congr 1
  by_cases c : u <+: TX al ps n ∧ u.length ≤ i
  · rw [if_pos c, if_pos ⟨c.1, by omega⟩]
  · rw [if_neg c, if_neg]
    rintro ⟨c1, c2⟩
    refine c ⟨c1, ?_⟩
    rcases Nat.lt_or_ge u.length (i + 1) with z | z
    · omega
    · exfalso
      apply h
      have e := List.prefix_iff_eq_take.mp c1
      rw [show u.length = i + 1 by omega] at e
      exact e
end
end RJ
namespace RJ
section
variable {al : List Nat} {ps : List (Nat × Nat)}
noncomputable def covB (al : List Nat) (ps : List (Nat × Nat)) (t : List Nat) (b p : Nat) : Bool := @decide (Cov al ps t b p) (Classical.propDecidable _)
theorem covB_iff {t : List Nat} {b p : Nat} : covB al ps t b p = true ↔ Cov al ps t b p := by
  unfold covB; exact @decide_eq_true_iff _ (Classical.propDecidable _)
theorem covB_filter {t : List Nat} {b : Nat} : (begL al ps (al.length + ps.length) (t.drop b)).filter (covB al ps t b) = (List.range (al.length + ps.length)).filter (covB al ps t b) := by
  unfold begL
  rw [List.filter_filter]
  refine List.filter_congr fun q _ => ?_
  cases h : covB al ps t b q with
  | false => rfl
  | true =>
    have := (covB_iff.mp h).2.2.1
    rw [List.isPrefixOf_iff_prefix.mpr this]; rfl
theorem covFrom_succ {t : List Nat} {fits : Nat → Nat → Bool} {lo n : Nat} : covFrom al ps t fits lo (n + 1) = covFrom al ps t fits lo n ++ ((List.range (al.length + ps.length)).filter (fits (lo + n))).map fun p => (lo + n, p) := by
  unfold covFrom
  rw [show List.range' lo (n + 1) = List.range' lo n ++ [lo + n] by rw [List.range'_concat]; simp, List.flatMap_append, List.flatMap_singleton]
theorem sum_filter_ne {m : Nat} : ∀ {P : List Nat}, P.Nodup → m ∈ P → (P.filter fun x => decide (x ≠ m)).sum + m = P.sum
  | [], _, h => absurd h List.not_mem_nil
  | a :: P, hn, h => by
    rw [List.nodup_cons] at hn
    by_cases c : a = m
    · subst c
      rw [List.filter_cons, if_neg (by simp), List.sum_cons]
      have e : P.filter (fun x => decide (x ≠ a)) = P := List.filter_eq_self.mpr fun x hx => decide_eq_true (fun z => hn.1 (z ▸ hx))
      rw [e]; omega
    · rw [List.filter_cons, if_pos (by simpa using c), List.sum_cons, List.sum_cons]
      have hm : m ∈ P := (List.mem_cons.mp h).resolve_left (fun z => c z.symm)
      have := sum_filter_ne hn.2 hm
      omega
/-- one more, if it isn't there -/
def addP (P : List Nat) (x : Nat) : List Nat := if x ∈ P then P else P ++ [x]
theorem addP_mem {P : List Nat} {x y : Nat} : y ∈ addP P x ↔ y ∈ P ∨ y = x := by
  unfold addP
  split
  · rename_i h
    constructor
    · exact .inl
    · rintro (z | rfl)
      · exact z
      · exact h
  · rw [List.mem_append, List.mem_singleton]
theorem addP_nodup {P : List Nat} {x : Nat} (h : P.Nodup) : (addP P x).Nodup := by
  unfold addP
  split
  · exact h
  · rename_i hx
    rw [List.nodup_append]
    exact ⟨h, by simp, fun a ha b hb e => hx (by rw [List.mem_singleton.mp hb] at e; exact e ▸ ha)⟩
theorem addP_sum {P : List Nat} {x : Nat} : (addP P x).sum ≤ P.sum + x := by
  unfold addP
  split
  · omega
  · rw [List.sum_append]; simp
theorem addP_len {P : List Nat} {x : Nat} : (addP P x).length ≤ P.length + 1 := by
  unfold addP
  split
  · omega
  · rw [List.length_append]; simp
end
end RJ
namespace RJ
section
variable {al : List Nat} {ps : List (Nat × Nat)}
theorem covFrom_len {t : List Nat} {fits : Nat → Nat → Bool} {lo : Nat} : ∀ {n : Nat}, (covFrom al ps t fits lo n).length ≤ n * (al.length + ps.length)
  | 0 => Nat.zero_le _
  | n + 1 => by
    rw [covFrom_succ, List.length_append, List.length_map, Nat.succ_mul]
    have h1 := covFrom_len (t := t) (fits := fits) (lo := lo) (n := n)
    have h2 : ((List.range (al.length + ps.length)).filter (fits (lo + n))).length ≤ al.length + ps.length := Nat.le_trans (List.length_filter_le _ _) (by rw [List.length_range]; exact Nat.le_refl _)
    omega
theorem addsP : ∀ (l acc : List Nat), acc.Nodup → (l.foldl addP acc).Nodup ∧ (∀ x, x ∈ l.foldl addP acc ↔ x ∈ acc ∨ x ∈ l) ∧ (l.foldl addP acc).length ≤ acc.length + l.length
  | [], acc, h => ⟨h, fun x => by simp, Nat.le_refl _⟩
  | a :: l, acc, h => by
    obtain ⟨h1, h2, h3⟩ := addsP l (addP acc a) (addP_nodup h)
    refine ⟨h1, fun x => ?_, ?_⟩
    · show x ∈ l.foldl addP (addP acc a) ↔ _
      rw [h2 x, addP_mem, List.mem_cons]
      constructor
      · rintro ((z | z) | z)
        · exact .inl z
        · exact .inr (.inl z)
        · exact .inr (.inr z)
      · rintro (z | z | z)
        · exact .inl (.inl z)
        · exact .inl (.inr z)
        · exact .inr z
    · show (l.foldl addP (addP acc a)).length ≤ _
      have := addP_len (P := acc) (x := a)
      rw [List.length_cons]; omega
theorem other_of {P : List Nat} {x : Nat} (h : P.Nodup) (h2 : 1 < P.length) : ∃ o ∈ P, o ≠ x := by
  match P, h, h2 with
  | a :: b :: r, h, _ =>
    by_cases c : a = x
    · refine ⟨b, by simp, fun e => ?_⟩
      rw [List.nodup_cons] at h
      exact h.1 (by rw [c, ← e]; simp)
    · exact ⟨a, by simp, c⟩
end
end RJ
namespace RJ
/-- how far two rows agree -/
def lcpL : List Nat → List Nat → Nat
  | a :: u, b :: v => if a = b then lcpL u v + 1 else 0
  | _, _ => 0
theorem lcpL_le : ∀ (u v : List Nat), lcpL u v ≤ u.length ∧ lcpL u v ≤ v.length
  | [], v => ⟨Nat.le_refl _, Nat.zero_le _⟩
  | a :: u, [] => ⟨Nat.zero_le _, Nat.le_refl _⟩
  | a :: u, b :: v => by
    have := lcpL_le u v
    unfold lcpL
    split
    · rw [List.length_cons, List.length_cons]; omega
    · exact ⟨Nat.zero_le _, Nat.zero_le _⟩
theorem lcpL_take : ∀ (u v : List Nat) (n : Nat), n ≤ lcpL u v → u.take n = v.take n
  | [], v, n, h => by
    have : n = 0 := Nat.le_zero.mp h
    subst this; rw [List.take_zero, List.take_zero]
  | a :: u, [], n, h => by
    have : n = 0 := Nat.le_zero.mp h
    subst this; rw [List.take_zero, List.take_zero]
  | a :: u, b :: v, 0, _ => rfl
  | a :: u, b :: v, n + 1, h => by
    unfold lcpL at h
    split at h
    · rename_i e
      rw [List.take_succ_cons, List.take_succ_cons, e, lcpL_take u v n (by omega)]
    · omega
theorem lcpL_pre : ∀ {w u v : List Nat}, w <+: u → w <+: v → w.length ≤ lcpL u v
  | [], _, _, _, _ => Nat.zero_le _
  | a :: w, u, v, h1, h2 => by
    obtain ⟨r, rfl⟩ := h1
    obtain ⟨r2, rfl⟩ := h2
    show w.length + 1 ≤ (if a = a then lcpL (w ++ r) (w ++ r2) + 1 else 0)
    rw [if_pos rfl]
    have := lcpL_pre (w := w) (u := w ++ r) (v := w ++ r2) (List.prefix_append _ _) (List.prefix_append _ _)
    omega
theorem lcpL_next : ∀ (u v : List Nat) {x y : Nat}, u[lcpL u v]? = some x → v[lcpL u v]? = some y → x ≠ y
  | [], v, x, y, h, _ => by simp at h
  | a :: u, [], x, y, _, h => by simp at h
  | a :: u, b :: v, x, y, h1, h2 => by
    unfold lcpL at h1 h2
    split at h1
    · rename_i e
      rw [if_pos e] at h2
      rw [List.getElem?_cons_succ] at h1 h2
      exact lcpL_next u v h1 h2
    · rename_i e
      rw [if_neg e] at h2
      rw [List.getElem?_cons_zero] at h1 h2
      cases h1; cases h2
      exact e
/-- what lcpL is -/
theorem lcpL_is {u v : List Nat} {n : Nat} (h1 : u.take n = v.take n) (hu : n ≤ u.length) (hv : n ≤ v.length) (h2 : n = u.length ∨ n = v.length ∨ ∃ x y, u[n]? = some x ∧ v[n]? = some y ∧ x ≠ y) : lcpL u v = n := by
  have ge : n ≤ lcpL u v := by
    have := lcpL_pre (w := u.take n) (u := u) (v := v) (List.take_prefix _ _) (by rw [h1]; exact List.take_prefix _ _)
    rw [List.length_take] at this; omega
  have le := lcpL_le u v
  rcases h2 with h | h | ⟨x, y, hx, hy, hne⟩
  · omega
  · omega
  · rcases Nat.lt_or_ge n (lcpL u v) with c | c
    · exfalso
      have := lcpL_take u v (n + 1) c
      have e := congrArg (fun l => l[n]?) this
      rw [List.getElem?_take_of_lt (by omega), List.getElem?_take_of_lt (by omega), hx, hy] at e
      exact hne (Option.some.inj e)
    · omega
section
variable {al : List Nat} {ps : List (Nat × Nat)}
/-- one that goes beyond the text -/
def Long (al : List Nat) (ps : List (Nat × Nat)) (t : List Nat) (b : Nat) : Prop := ∃ p, Cov al ps t b p ∧ t.length < b + (TX al ps p).length
theorem sure_len (hnd : al.Nodup) (h : Proper al ps) {t R : List Nat} (hS : SureIs al ps t R) (ht : ∀ c ∈ t, c ∈ al) {m : Nat} (hm : m ≤ (CT al ps t).length) (h1 : ∀ b, Long al ps t b → m ≤ lcpL (CT al ps t) (CT al ps (t.take b))) (h2 : m = (CT al ps t).length ∨ ∃ b, Long al ps t b ∧ m = lcpL (CT al ps t) (CT al ps (t.take b))) : m = R.length := by
  have hRt := hS.cut ht
  have le1 : R.length ≤ m := by
    rcases h2 with rfl | ⟨b, ⟨p, hc, hl⟩, rfl⟩
    · exact hRt.length_le
    · refine lcpL_pre hRt ?_
      obtain ⟨c1, c2, c3, c4⟩ := hc.text hnd h ht
      have e1 := hS.1 _ c2 c1
      rw [c3] at e1
      rcases pre_split e1 with z | z
      · exact z
      · exfalso
        rw [z, ← c3] at hRt
        have := (pre_len (R := []) (R' := []) h.wf c2 ht hRt).length_le
        rw [List.length_append, List.length_take] at this
        have := hc.1
        omega
  have ge1 : m ≤ R.length := by
    have key : (CT al ps t).take m <+: R := by
      refine hS.2 _ fun y hy hp => ?_
      by_cases hne : t = []
      · subst hne
        rw [show CT al ps [] = [] from cut_nil _ _, List.take_nil]; exact List.nil_prefix
      obtain ⟨b, p, hc, hpre⟩ := cov_ex hnd h hy hp hne
      obtain ⟨c1, c2, c3, c4⟩ := hc.text hnd h ht
      by_cases hl : t.length < b + (TX al ps p).length
      · have := h1 b ⟨p, hc, hl⟩
        rw [lcpL_take _ _ _ this]
        exact ((List.take_prefix _ _).trans (List.prefix_append _ [p])).trans hpre
      · have e : t = t.take b ++ TX al ps p := by
          refine c1.eq_of_length ?_
          rw [List.length_append, List.length_take]
          have := hc.1; omega
        rw [← c3, ← e] at hpre
        exact (List.take_prefix _ _).trans hpre
    have := key.length_le
    rw [List.length_take] at this; omega
  omega
end
end RJ
namespace RJ
theorem max_ex {M : Nat → Prop} (h0 : M 0) : ∀ N : Nat, ∃ n, n ≤ N ∧ M n ∧ ∀ k, k ≤ N → M k → k ≤ n
  | 0 => ⟨0, Nat.le_refl _, h0, fun k hk _ => hk⟩
  | N + 1 => by
    by_cases c : M (N + 1)
    · exact ⟨N + 1, Nat.le_refl _, c, fun k hk _ => hk⟩
    · obtain ⟨n, h1, h2, h3⟩ := max_ex h0 N
      refine ⟨n, by omega, h2, fun k hk hM => ?_⟩
      rcases Nat.lt_or_ge N k with z | z
      · exact absurd hM (by rw [show k = N + 1 by omega]; exact c)
      · exact h3 k z hM
section
variable {al : List Nat} {ps : List (Nat × Nat)}
theorem sure_ex {t : List Nat} (ht : ∀ c ∈ t, c ∈ al) : ∃ R, SureIs al ps t R := by
  obtain ⟨n, h1, h2, h3⟩ := max_ex (M := fun n => ∀ y, (∀ c ∈ y, c ∈ al) → t <+: y → (CT al ps t).take n <+: CT al ps y) (fun y _ _ => by rw [List.take_zero]; exact List.nil_prefix) (CT al ps t).length
  refine ⟨(CT al ps t).take n, h2, fun S' h' => ?_⟩
  have hS := h' t ht (List.prefix_refl t)
  have e := List.prefix_iff_eq_take.mp hS
  have := h3 S'.length hS.length_le (fun y hy hp => by rw [← e]; exact h' y hy hp)
  rw [e]
  exact List.take_prefix_take_left this
end
end RJ
end

section
set_option maxRecDepth 100000
namespace RJ
open PySem PySem.Spec PyProof.Rows L2
set_option maxRecDepth 8000 in
theorem extend_tuple (l : Addr) (items : Array Value) (n : Nat) (b : Addr) (o : Obj) (items2 : Array Value) (n2 : Nat) (ho1 : o.cls = .type "tuple") (ho2 : o.data = .seq items2 n2) (hs0 : ¬(!items.isEmpty && Builtin.List.listTooLong (items.size + items2.size)) = true) (hs1 : items.size ≤ sizeLine) (hs2 : items.size + items2.size ≤ sizeLine + 1) :
    Meets (Builtin.«list.extend» ⟨[.ref l, .ref b], []⟩) (fun _ R s => s.heap.get? l = some { cls := .type "list", dict := none, data := .seq items n, slots := #[] } ∧ s.heap.get? b = some o ∧ R (.ok (.ret Value.none)) { s with heap := s.heap.update l (Obj.mapSeq fun x => x ++ items2), toks := s.toks }) :=
  .of_wp fun prog w A R s h => by
    obtain ⟨hp, g, d, tk, os⟩ := s; obtain ⟨hl, hb, h⟩ := h; obtain ⟨c, dd, da, sl⟩ := o; dsimp only at ho1 ho2; subst ho1 ho2; have f1 := PySem.AutoSeq1.idx_int; have f2 := PySem.AutoSeq1.sub_tuple_tuple; have f3 := PySem.AutoSeq1.sub_list_list; have f4 := PySem.AutoSeq1.sub_tuple_list; have f5 := PySem.AutoSeq1.sub_list_tuple;
    have hz' : (items ++ items2).size ≤ sizeLine + 1 := by rw [Array.size_append]; exact hs2
    wp_walk using (wpAny_updateSeq hl rfl (hz := hs1) (_hz' := hz')), wpAny_loadPart' hl, wpAny_loadPart' hb; exact ⟨_, rfl, h⟩
def rExtendA (K : PySem.W.Frag) : V → List V → Hp → VK → Prop := fun x vs H Q => ∃ l b xs zs, x = .ref l ∧ vs = [.ref b] ∧ H l = some (.lst xs) ∧ SqT K H b zs ∧ xs.length + zs.length ≤ sizeLine ∧ Q .non (upd H l (.lst (xs ++ zs)))
section
variable {X : Cx}
/-- l.extend(a tuple) -/
theorem mt_extendT : MtM X "list.extend" (rExtendA X.K) := by
  intro pins s σ H x vs v us Q I rx rv h
  obtain ⟨l, b, xs, zs, rfl, rfl, hH, hB, hz, q⟩ := h
  cases rx
  obtain ⟨u, rfl, ru⟩ := rv.one
  cases ru
  obtain ⟨z, its, n, r, hl, e⟩ := I.lstM hH
  obtain ⟨its2, r2, ⟨o, e2, ho, n2, hd⟩, z2⟩ := I.tuple hB
  have hl2 := r2.length
  have hsz : its.toArray.size + its2.toArray.size ≤ sizeLine := by rw [List.size_toArray, List.size_toArray]; omega
  have hlong : ¬ (!its.toArray.isEmpty && Builtin.List.listTooLong (its.toArray.size + its2.toArray.size)) = true := by
    rw [notLongL hsz, Bool.and_false]
    exact Bool.false_ne_true
  refine call_meets F.slot_list_extend ⟨_, e, rfl⟩ F.entry_list_extend (F.args_list_extend_2 _ _)
    (extend_tuple l its.toArray n b o its2.toArray n2 ho hd hlong (by rw [List.size_toArray]; omega) (by omega)) ⟨e, e2, ?_⟩
  refine ⟨.non, _, I.lset (its' := its ++ its2) hH e (by simp) (r.append r2) ?_, rfl, q⟩
  rw [List.length_append]
  omega
end
open PySem.W (minD AlikeAll alike alikeAll dataLt)
/-- min(l, default=x) of alike data -/
def rMinDV (K : PySem.W.Frag) : List V → List V → Hp → VK → Prop := fun vs zs H Q => ∃ (a : Addr) (xs : List V) (ds : List PyData) (z : V), vs = [V.ref a] ∧ zs = [z] ∧ H a = some (.lst xs) ∧ DpAll K H xs ds ∧ AlikeAll ds ∧ PyData.depthAll ds ≤ 60 ∧
  (ds = [] → Q z H) ∧ ∀ (d : PyData) (ds' : List PyData) (i : Nat) (x : V), ds = d :: ds' → xs[i]? = some x → ds[i]? = some (minD d ds') → Q x H
theorem cr_minDV {X : Cx} (hc : X.calm = true) (hu : X.A.units + 64 < cLine) : CallRK X (.builtin "min") [Str.ofString "default"] (rMinDV X.K) := by
  intro pins s σ H xs0 zs us ws Q I r rz h
  obtain ⟨a, xs, ds, zv, rfl, rfl, ha, hd, hal, hdep, q0, q1⟩ := h
  obtain ⟨its, rv, hl, _⟩ := I.list (SqL.of ha)
  rw [Vals.ref1 r]
  obtain ⟨u, rfl, ru⟩ := vals1 rz
  obtain ⟨as, hr⟩ := Dp.readsAll I ds xs its hd rv
  show wpAny _ _ (call (.builtin "min") [.ref a] [(Str.ofString "default", u)]) _ _ s
  refine PySem.W.min_list_default (I.ok.hd hc) hl.isList hr hal (by omega) (fun e h' tk hk => ⟨zv, H, I.kept hk, ru, q0 e⟩) fun y ys i v h' tk bs e hv hrd hk => ?_
  have hv' : its[i]? = some v := by simpa using hv
  have hl2 := rv.length
  have hi : i < xs.length := by
    have := (List.getElem?_eq_some_iff.mp hv').1
    omega
  obtain ⟨u2, hu2, ru2⟩ := rv.get (List.getElem?_eq_getElem hi)
  rw [hv'] at hu2
  cases hu2
  obtain ⟨d2, bs2, hd2, hr2⟩ := readsAll_ix hr hv'
  have heq : d2 = minD y ys := ((PyProof.Rows.reads_det (h := s.heap) (h' := h') (fun b o e _ => hk b o e) hr2 hrd).1).symm
  exact ⟨xs[i], H, I.kept hk, ru2, q1 y ys i _ e (List.getElem?_eq_getElem hi) (by rw [hd2, heq])⟩
end RJ
namespace RJ
open PySem PySem.Spec PyProof.Rows L2
section
variable {X : Cx}
/-- name = {..} on one line, the name a local -/
theorem ps_setDc {i : Nat} {y : Str} {py : Pos} {kx vx tg iter : Expr} {ifs : List Expr} {scope : Scope} {own : List (Str × Nat)} {pos spos : Pos} {wi : TI} {g : TG} {tt : TT} {tk tv : TE} (hc : X.calm = true) (hN : X.N.Nodup) (hy : X.N[i]? = some y) (hyl : X.env.scope.names.lookup y = some .local)
    (hsw : swapsWith (.DictComp kx vx [⟨tg, iter, ifs, 0⟩] scope pos) (some (.Name y py)) spos.line X.env = pure true) (hi : PI X tg iter wi) (ok : BlkOk X.N X.env.scope scope own)
    (hg : ∀ (s : Shared) (H : Hp) (C : Addr) (cl : List (Str × Addr)) (fp : List Addr), PG (X.blk s H scope (compEnvC scope cl C X.env) fp) tg g) (ht : ∀ (s : Shared) (H : Hp) (C : Addr) (cl : List (Str × Addr)) (fp : List Addr), PTs (X.blk s H scope (compEnvC scope cl C X.env) fp) ifs tt)
    (hk : ∀ (s : Shared) (H : Hp) (C : Addr) (cl : List (Str × Addr)) (fp : List Addr), PE (X.blk s H scope (compEnvC scope cl C X.env) fp) kx tk)
    (he : ∀ (s : Shared) (H : Hp) (C : Addr) (cl : List (Str × Addr)) (fp : List Addr), PE (X.blk s H scope (compEnvC scope cl C X.env) fp) vx tv) (hs : ∀ x, foldedSetIterable iter X.env x = pure x := by intro _; rfl) :
    PS X (.Assign [.Name y py] (.DictComp kx vx [⟨tg, iter, ifs, 0⟩] scope pos) spos) (tAsg (tDc wi g tt tk tv (own.map (·.2))) (gName i)) := by
  refine ⟨fun pins s σ H D I h => ?_⟩
  rw [exec_Assign_Name_used _ _ _ _ hsw]
  refine wpAny_bind (wpAny_standAt (wpAny_bind ?_))
  show wpAny _ X.A (do let _ ← comprehension (.DictComp kx vx [⟨tg, iter, ifs, 0⟩] scope pos) scope X.env (firstIterPos [⟨tg, iter, ifs, 0⟩] pos) newDict false (eval iter X.env) (some (assign (.Name y py) X.env))) _ _ s
  have h : tDc wi g tt tk tv (own.map (·.2)) σ H (fun x H1 => gName i x σ H1 D.nx) := h
  refine wpAny_bind (thn (dc_core (Qf := fun _ s' => SP X pins D .next s') hc hN I hi ok hg ht hk he hs h fun L C s' m H' I' q hn f => ?_) fun _ s' hq => wpAny_pure (wpAny_pure hq))
  show wpAny _ _ (assign (.Name y py) X.env (.ref L)) _ _ _
  refine wpAny_assign_Name (store_ok2 (v := V.ref L) I' hN hy (.inl hyl) rfl (fun s2 I2 ⟨a, sb, ha⟩ => ?_) (.inr hyl))
  obtain ⟨f0, f1, f2, f3, f4, f5⟩ := f
  have haC : C ≠ a := by
    rcases ha with z | z
    · rw [z]; exact f1
    · exact fun e => f4 y a z e.symm
  refine ⟨m, hn.sameBut sb haC, fun h3 sb3 => ?_⟩
  exact ⟨_, H', I2.turned (t' := s2.toks) (fun b o hb e => (sb3.2 b hb).trans e) f0 f1 f3 f4 f5, q⟩
theorem sw_trueD {kx vx : Expr} {gs : List Comprehension} {scope : Scope} {pos py : Pos} {y : Str} {l : Nat} {env : Env} (hk : env.scope.kind = .function) (hy : env.scope.names.lookup y = some .local) (hl : (py.line == pos.line) = true)
    (ha : (scope.names.any fun (n, k) => n == y && (k == .local || k == .cell)) = false) : swapsWith (.DictComp kx vx gs scope pos) (some (.Name y py)) l env = pure true := by
  have ky : env.kindOf y = some .local := hy
  have hb : env.blockKind = .function := by unfold Env.blockKind; rw [hk]; rfl
  unfold swapsWith
  simp only [hb, ky, ha, Expr.pos, hl]
  rfl
end
end RJ
end

section
set_option maxRecDepth 100000
set_option maxHeartbeats 2000000
namespace RJ
open PySem PySem.Spec PyProof.Rows L2
/-! ### a property that is read where an error is handled -/
structure PrpH (P : Program) (w : World) (K : PySem.W.Frag) (mg : Str → Option Value) (base : Heap) (k : Nat) (C : Addr) (m : Str) (sp : Sp) : Prop where
  ex : ∃ (p g : Addr) (fd : FuncData) (ps : List Str), Cls K C ∧ PropOf K C m p g ∧ L2H.FnH P w K mg base C8.CX0 k g fd ps sp ∧ Binds K fd ps []
theorem roomH_in1 {k : Nat} {A : Around} (r : L2H.RoomH (k + 1) A) : L2H.RoomH k A.in1 := by
  have h1 := r.dp
  have h2 := r.un
  exact ⟨by show A.depth + 3 * k + 5 < _; omega, by show A.units + 1 + 16 * k + 200 < _; omega⟩
section
variable {X : Cx} {k j : Nat} {C p g a dx : Addr} {fs : List (Str × V)} {f m : Str} {fd : FuncData} {ps : List Str} {sp : Sp} {e : Expr} {pos : Pos} {ta : TE}
theorem getprop_okH {pins : List (Addr × Obj)} {σ : L2.St} {H : Hp} {s : Shared} {Q : VK} {b : Bool} {E' : Value → Shared → Prop} (I : Inv X pins σ H s) (ea : H a = some (.ins C dx fs)) (c : Cls X.K C) (hp : PropOf X.K C f p g)
    (F : L2H.FnH X.prog X.w X.K X.mg X.base C8.CX0 k g fd ps sp) (hr : L2H.RoomH (k + 1) X.A) (hot : L2H.HotC X) (hb : Binds X.K fd ps []) (h : sp [.ref a] H Q C8.E0) :
    wpAny (model X.prog X.w) X.A (getAttr (.ref a) f b) (EP X pins σ Q) E' s := by
  obtain ⟨mA, O, _, _, _, _⟩ := ins_get I.hok ea
  obtain ⟨od, J, _⟩ := O.look
  obtain ⟨rest, hrec⟩ := hp.rec_
  have I1 := I.tok (s.toks + 1)
  obtain ⟨pp, hot1, hpn⟩ := hot
  have hl : ([Value.ref a] ++ []).length = ps.length := by
    rw [← F.len _ _ _ _ h]; rfl
  have hc : (PySem.W.clsIn X.K C).isSome = true := by
    obtain ⟨cd, hc, _⟩ := PySem.W.any_some c.hd
    rw [hc]
    rfl
  have P1 := I1.pin pp (List.mem_append_left _ hpn)
  have hpin : L2H.PinOk X.stack H { s with toks := s.toks + 1 } pp := ⟨P1.1, P1.2.1, fun hm => (List.mem_cons.mp (I1.stkSub pp.1 hm)).elim P1.2.2.1 P1.2.2.2.1, P1.2.2.2.2⟩
  refine PySem.W.get_bind I.kIn J (PySem.W.plainGet_of (c.get f)).1 (PySem.W.findObj_data hc hp.at_ hp.get hp.tak) (PySem.W.plainGet_of (c.get f)).2 (wpAny_call (PySem.W.prop_get (s := { s with toks := s.toks + 1 }) I.kIn hrec ?_))
  refine codeAny_mono (F.run X.A.in1 X.stack { s with toks := s.toks + 1 } H ⟨[.ref a], []⟩ [.ref a] [.ref a] Q C8.E0 pp (roomH_in1 hr) hot1 hpin I1.env0.in1 (hb _ [.ref a] I1.kIn hl) (.cons rfl .nil) h) fun r s' hq => ?_
  cases r with
  | error er => exact False.elim hq
  | ok fl =>
    cases fl with
    | ret u =>
      obtain ⟨v, H', I3, rv, q3⟩ := I1.after hq
      show wpAny _ _ (handedOut u) _ _ _
      rw [PySem.W.handedOut_of (handed_of rv)]
      exact wpAny_pure ⟨v, H', I3, rv, q3⟩
    | next => exact False.elim hq
    | brk => exact False.elim hq
    | cont => exact False.elim hq
theorem walks_listHot {prog : Program} {w : World} {A : Around} (I ax x1 : Addr) (hne : ax ≠ I) (hx : x1 ≠ I) (items : Array Value) :
    Walks prog w A I [I, ax, x1] [I] items.size (fun i v => items[i]? = some v) (fun i h => h.IsListIter I ax i ∧ h.IsList ax items ∧ HotX.HotAt A x1 h) where
  sub := fun b hb => by simp at hb; simp [hb]
  frame := fun _ _ _ st hk => by
    obtain ⟨s1, s2, hh, o, vs, e1, e2, e3⟩ := st
    exact ⟨s1.at fun o e => hk I (by simp) o e, s2.at fun o e => hk ax (by simp) o e, hh, o, vs, hk x1 (by simp) o e1, e2, e3⟩
  item := fun i s Q E hi st hQ => by
    obtain ⟨s1, s2, hh, o, vs, e1, e2, e3⟩ := st
    refine wpAny_pyNext_list_item s1 s2 (x := items[i]) (by simp [hi]) fun h' hit' hs' => ?_
    exact hQ _ h' s.toks (by simp [hi]) ⟨hit', s2.extBut hs'.extBut hne, hh, o, vs, hs'.extBut x1 o hx e1, e2, e3⟩ fun b o hb e => hs'.extBut b o (fun h => hb (by simp [h])) e
  done := fun s Q E st hQ => by
    obtain ⟨s1, s2, hot⟩ := st
    exact rj_list_end_hot hot hx s1 s2 (by simp) fun h' he' => hQ h' s.toks fun b o hb e => he' b o (fun h => hb (by simp [h])) e
  self := fun _ _ _ _ st hQ => wpAny_pyIter_listiter st.1 hQ
theorem sum_hot {prog : Program} {w : World} {A : Around} {E : Value → Shared → Prop} {s : Shared} {l x1 : Addr} {its : List Value} {ns : List Int} {Q : Value → Shared → Prop} (hot : HotX.HotAt A x1 s.heap) (hl : s.heap.IsList l its.toArray) (hi : IntsAre its ns)
    (h : ∀ h' tk t', (∀ b o, s.heap.get? b = some o → h'.get? b = some o) → Q (.int ns.sum t') { s with heap := h', toks := tk }) : wpAny (model prog w) A (call (.builtin "sum") [.ref l]) Q E s := by
  obtain ⟨xs, e⟩ := hi.allInts.items
  have hn : numsOf (intItems xs).toList = ns := by rw [← e]; exact hi.numsOf
  rw [nums_intItems] at hn
  rw [e] at hl
  obtain ⟨hh, o, vs, e1, e2, e3⟩ := hot
  have hlt := Heap.lt_size e1
  refine call_sum_walkG (iter_intList hl fun s₂ es st hfp hlI => ?_)
  subst es
  refine ⟨_, _, _, _, _, _, numAt xs, rfl, walks_listHot (A := A.in1) _ l x1 hlI (Nat.ne_of_lt hlt) (intItems xs), ⟨st.1, st.2, hh, o, vs, Heap.get?_push_of_some _ e1, e2, e3⟩, fun b hb => ?_, (fun _ _ => intItems_at), fun h' tk t' hk => ?_⟩
  · rcases List.mem_cons.mp hb with r | hb
    · exact hfp b (by simp [r])
    rcases List.mem_cons.mp hb with r | hb
    · exact hfp b (by simp [r])
    · rw [List.mem_singleton.mp hb]
      show x1 < (s.heap.push _).objs.size
      rw [Heap.size_push]; exact Nat.lt_succ_of_lt hlt
  · have := h h' tk t' (old_kept hk)
    rw [← hn] at this
    rw [show (intItems xs).size = xs.size by simp [intItems], preSum_eq, List.take_of_length_le (by simp)]; exact this
theorem cr_sumH (hot : L2H.HotC X) : CallR X (.builtin "sum") (rSum X.K) := by
  intro pins s σ H vs us Q I r h
  obtain ⟨a, ns, rfl, hs, q⟩ := h
  obtain ⟨its, rv, hl, _⟩ := I.list hs
  obtain ⟨x1, ht⟩ := hot.at I
  rw [Vals.ref1 r]
  exact sum_hot ht hl.isList rv.ints fun h' tk t' hk => ⟨.int _, H, I.kept hk, ⟨_, rfl⟩, q⟩
theorem pe_prpH (c : PrpH X.prog X.w X.K X.mg X.base k C m sp) (hr : L2H.RoomH j X.A) (hk : k + 1 ≤ j) (hot : L2H.HotC X) (he : PE X e ta)
    (hab : attributeBase e m X.env (eval e X.env) = eval e X.env := by rfl) : PE X (.Attribute e m pos) (tProp C sp [] C8.E0 ta) := by
  obtain ⟨p, g, fd, ps, hc, hp, F, b⟩ := c.ex
  refine ⟨fun pins s σ H Q I h => ?_⟩
  refine attr_of hab (thn (he.run pins s σ H _ I h) fun u s1 ⟨x, H1, I1, rx, a, dx, fs, ex, ea, q⟩ => ?_)
  subst ex
  obtain rfl : u = Value.ref a := rx
  exact getprop_okH I1 ea hc hp F (hr.mono hk) hot b q
end
end RJ
end

section
set_option maxRecDepth 100000
set_option maxHeartbeats 2000000
namespace PySem
open PySem.Spec PyProof.Rows
section
variable {prog : Program} {w : World} {A : Around} {E : Value → Shared → Prop} {s : Shared}
/-- repr of a tuple, whatever is under way -/
theorem rj_repr_tuple {a : Addr} {o : Obj} {items : Array Value} {n : Nat} {ts : List Str} {Q : Value → Shared → Prop} (hu : A.units + 2 < cLine) (ha : s.heap.get? a = some o) (hc : o.cls = .type "tuple") (hd : o.data = .seq items n) (hT : ReprAll prog w items.toList ts) (hsz : (tupleText ts).length ≤ sizeLine)
    (h : ∀ (m : Str) (u tk : Tok), m.length ≤ (tupleText ts).length + 5 → Q (.str m u) { s with toks := tk }) : wpAny (model prog w) A (pyReprObj (.ref a)) Q E s := by
  have hTy : s.TypeIs (.ref a) "tuple" := ⟨o, ha, hc⟩
  unfold pyReprObj
  refine wpAny_bind (wpAny_cRoomFor (by omega) ?_)
  refine wpAny_bind (wpAny_specialOf (name := Str.ofString "__repr__") hTy F.slot_tuple_repr.lookup ?_)
  refine wpAny_bind (m := callSpecialIfBound? (.ref a) (Str.ofString "__repr__")) (wpAny_callSpecialIfBound?_slotG (name := Str.ofString "__repr__") hTy F.slot_tuple_repr
    (fmt_tuple_repr ha hc hd hT hsz fun m u tk hm => ?_))
  exact wpAny_bind (wpAny_isInstance (T := "str") (b := true) rfl isSubtype_str_str (wpAny_pure (h m u tk hm)))
end
end PySem
namespace RJ
open PySem PySem.Spec PyProof.Rows L2
theorem reprI_all {prog : Program} {w : World} : ∀ {l : List Int} {its : List Value}, Vals (l.map V.int) its → (∀ i ∈ l, i.natAbs.log2 < 1920) → ReprAll prog w its (l.map fun i => Str.ofString (toString i))
  | [], _, r, _ => by
    cases r
    exact .nil
  | i :: l, _, r, h => by
    cases r with
    | cons r1 r2 =>
      obtain ⟨t, rfl⟩ := r1
      exact .cons (ReprIs.int t (h i List.mem_cons_self)) (reprI_all r2 fun z hz => h z (List.mem_cons_of_mem _ hz))
theorem piledI : ∀ l : List Int, (∀ i ∈ l, (Str.ofString (toString i)).length ≤ 100) → piled (l.map fun i => Str.ofString (toString i)) ≤ 102 * l.length
  | [], _ => Nat.le_refl _
  | i :: l, h => by
    rw [List.map_cons, piled_cons, List.length_cons]
    have h1 := h i List.mem_cons_self
    have h2 := piledI l fun z hz => h z (List.mem_cons_of_mem _ hz)
    omega
/-- {t!r}, t a tuple of ints: some text -/
def tFmtRT (K : PySem.W.Frag) (te : TE) : TE := fun σ H Q => te σ H fun x H1 => ∃ (a : Addr) (l : List Int), x = .ref a ∧ SqT K H1 a (l.map V.int) ∧ (∀ i ∈ l, i.natAbs.log2 < 1920 ∧ (Str.ofString (toString i)).length ≤ 100) ∧ l.length ≤ 10000 ∧ ∀ m : Str, m.length ≤ 102 * l.length + 7 → Q (.str m) H1
theorem pe_fmtRT {X : Cx} {e : Expr} {te : TE} {pos : Pos} {k : Nat} (hr : Room k X.A) (he : PE X e te) : PE X (.FormattedValue e 114 none pos) (tFmtRT X.K te) := by
  refine ⟨fun pins s σ H Q I h => ?_⟩
  refine wpAny_FormattedValue_repr (thn (he.run pins s σ H _ I h) fun v s1 hv => ?_)
  obtain ⟨x, H1, I1, r1, a, l, rfl, ht, hc, hz, q⟩ := hv
  cases r1
  obtain ⟨its, rv, ⟨o, ho, hcl, n, hd⟩, _⟩ := I1.tuple ht
  have hp := piledI l fun i hi => (hc i hi).2
  have htx := fmt_text (l.map fun i => Str.ofString (toString i))
  have hu := hr.units
  have hsl : sizeLine = 16777216 := sizeLine_eq
  refine rj_repr_tuple (ts := l.map fun i => Str.ofString (toString i)) (by omega) ho hcl hd (reprI_all rv fun i hi => (hc i hi).1) (by omega) fun m u tk hm => ?_
  have hm' : m.length ≤ 102 * l.length + 7 := by omega
  exact wpAny_formatField_str ⟨.str m, H1, I1.tok _, ⟨_, rfl⟩, q m hm'⟩ ⟨.str m, H1, I1.tok _, ⟨_, rfl⟩, q m hm'⟩ (by omega)
theorem pe_tupleOfK {X : Cx} {K : PySem.W.Frag} {a : Expr} {ta : TE} {p pos : Pos} (h : X.K = K) (hg : Gl X "tuple") (hm : X.mg "tuple" = none) (ha : PE X a ta) (na : starEach [a] X.env = (false, eval a X.env) :: starEach [] X.env := by rfl) :
    PE X (.Call (.Name "tuple" p) [a] [] pos) (tThen ta (kTup K)) := by subst h; exact pe_tupleOf hg hm ha na
end RJ
end

section
set_option maxRecDepth 100000
set_option maxHeartbeats 2000000
namespace PySem
open PySem.Spec PyProof.Rows Sem
section
/-- repr of a list, whatever is under way -/
theorem rj_list_head {M : Model} {A : Around} {E : Value → Shared → Prop} {s : Shared} {Q : Fin → Shared → Prop} {a : Addr} {o : Obj} {x : Value} {l : List Value} {n} {b : Nat}
    (hget : s.heap.get? a = some o) (hd : o.data = .seq (x :: l).toArray n)
    (h : wpAny M A (do again (.builtin "list.__repr__.loop" ⟨[.ref a, rawInt 0, ← newList [], rawInt b], []⟩)) Q E s)
    (h2 : wpAny M A (do rule "list.__repr__.in-itself"; retStr "[...]") Q E s) : wpAny M A (Builtin.listReprAt b ⟨[.ref a], []⟩) Q E s := by
  intro Γ p hΓ
  have h1 := h Γ p hΓ
  have h3 := h2 Γ p hΓ
  unfold Builtin.listReprAt
  simp [slotArgs, Builtin.List.listItems, seqItems?, wp_load_of (h := hget), hd, stack]
  show wp M Γ (if (Γ.below.any _) = true then _ else _) _ _ p s
  split
  · exact h3
  · exact h1
variable {prog : Program} {w : World} {A : Around} {E : Value → Shared → Prop} {s : Shared}
theorem rj_lway : ("[...]" : Str).length ≤ 5 := by decide +kernel
theorem rj_repr_list {Q : Value → Shared → Prop} {a : Addr} {oa : Obj} {x : Value} {l : List Value} {na : Nat} {ts : List Str} (hTy : s.TypeIs (.ref a) "list") (hu : A.units < cLine)
    (ha : s.heap.get? a = some oa) (hda : oa.data = .seq (x :: l).toArray na) (hlen : ts.length = (x :: l).toArray.size)
    (hT : ∀ (i : Nat) (y : Value), (x :: l).toArray[i]? = some y → ∃ t, ts[i]? = some t ∧ ReprIs prog w y t)
    (hQ : ∀ (m : Str) h' u tk, m.length ≤ (listText ts).length + 5 → (∀ b o, s.heap.get? b = some o → h'.get? b = some o) → Q (.str m u) { s with heap := h', toks := tk })
    (hsz : (listText ts).length ≤ sizeLine) :
    wpAny (model prog w) A (pyReprObj (.ref a)) Q E s := by
  unfold pyReprObj
  refine wpAny_bind (wpAny_cRoomFor hu ?_)
  refine wpAny_bind (wpAny_specialOf (name := Str.ofString "__repr__") hTy F.slot_list_repr.lookup ?_)
  refine wpAny_bind (m := callSpecialIfBound? (.ref a) (Str.ofString "__repr__")) (wpAny_callSpecialIfBound?_slot (name := Str.ofString "__repr__") hTy F.slot_list_repr ?_)
  refine wpAny_call (codeAny_call_builtin F.slot_list_repr.plain F.entry_list_repr (F.slot_list_repr.check _ _ _ _ _ _ _ _ hTy (F.args_list_repr_1 _) ?_))
  refine rj_list_head (A := A.in1) ha hda ?_ ?_
  · refine wpAny_bind (m := newList []) (wpAny_newObj_type ?_)
    refine wpAny_pure ⟨F.quiet_list_repr_loop _, ?_⟩
    refine codeAny_list_repr_start (P := s.heap.objs.size) (b := 0) (Nat.ne_of_lt (Heap.lt_size ha)) hlen hT (Heap.get?_push_of_some _ ha) hda (Heap.get?_push_size _ rfl) (fun h' u tk hk => ?_) (by omega)
    exact wpAny_bind (wpAny_isInstance (T := "str") (b := true) rfl isSubtype_str_str (wpAny_pure (hQ _ h' u tk (Nat.le_add_right _ _) fun b o e => hk b o (Nat.ne_of_lt (Heap.lt_size e)) (Heap.get?_push_of_some _ e))))
  · refine wpAny_bind (wpAny_rule ?_)
    refine wpAny_bind (wpAny_mkStr (wpAny_pure ?_) (by decide +kernel))
    exact wpAny_bind (wpAny_isInstance (T := "str") (b := true) rfl isSubtype_str_str (wpAny_pure (hQ _ s.heap _ _ (Nat.le_trans rj_lway (Nat.le_add_left _ _)) fun _ _ e => e)))
end
end PySem
namespace RJ
open PySem PySem.Spec PyProof.Rows L2
/-- a plain value whose repr is short -/
def ScR (x : V) : Prop := x = .non ∨ (∃ b, x = .bl b) ∨ (∃ i : Int, x = .int i ∧ i.natAbs.log2 < 1920 ∧ (Str.ofString (toString i)).length ≤ 200) ∨ (∃ z : Str, x = .str z ∧ z.length ≤ 19 ∧ ∀ c ∈ z.cps.toList, c < 16 ^ 8)
/-- a plain value, or a tuple or list of such -/
def RepV (K : PySem.W.Frag) (H : Hp) (x : V) : Prop := ScR x ∨ ∃ a xs, x = .ref a ∧ (SqT K H a xs ∨ SqL K H a xs) ∧ (∀ y ∈ xs, ScR y) ∧ xs.length ≤ 1000
theorem sc_repr {prog : Program} {w : World} {x : V} {v : Value} (r : RelV x v) (h : ScR x) : ∃ t, ReprIs prog w v t ∧ t.length ≤ 200 := by
  have hsl : sizeLine = 16777216 := sizeLine_eq
  rcases h with rfl | ⟨b, rfl⟩ | ⟨i, rfl, h1, h2⟩ | ⟨z, rfl, h1, h2⟩
  · cases r
    exact ⟨_, ReprIs.none, by decide +kernel⟩
  · cases r
    exact ⟨_, ReprIs.bool b, by cases b <;> decide +kernel⟩
  · obtain ⟨t, rfl⟩ := r
    exact ⟨_, ReprIs.int t h1, h2⟩
  · obtain ⟨t, rfl⟩ := r
    have := PySem.StrLaws.reprText_len z h2
    exact ⟨_, ReprIs.str z t (by omega), by omega⟩
theorem sc_all {prog : Program} {w : World} : ∀ {xs : List V} {its : List Value}, Vals xs its → (∀ y ∈ xs, ScR y) → ∃ ts, ReprAll prog w its ts ∧ piled ts ≤ 202 * xs.length
  | [], _, r, _ => by
    cases r
    exact ⟨[], .nil, Nat.zero_le _⟩
  | x :: xs, _, r, h => by
    cases r with
    | cons r1 r2 =>
      obtain ⟨t, h1, h2⟩ := sc_repr r1 (h x List.mem_cons_self)
      obtain ⟨ts, h3, h4⟩ := sc_all r2 fun y hy => h y (List.mem_cons_of_mem _ hy)
      refine ⟨t :: ts, .cons h1 h3, ?_⟩
      rw [piled_cons, List.length_cons]; omega
theorem reprAll_at {prog : Program} {w : World} : ∀ {its : List Value} {ts : List Str}, ReprAll prog w its ts → ∀ (i : Nat) (y : Value), its[i]? = some y → ∃ t, ts[i]? = some t ∧ ReprIs prog w y t
  | _, _, .nil, i, y, h => by cases h
  | _, _, .cons h1 h2, 0, y, h => by cases h; exact ⟨_, rfl, h1⟩
  | _, _, .cons h1 h2, i + 1, y, h => reprAll_at h2 i y h
theorem listText_len : ∀ ts : List Str, (listText ts).length ≤ piled ts + 2
  | [] => by decide +kernel
  | t :: r => by
    have h := textFrom_length_pos r 1 (("[" : Str) ++ (if (0 : Nat) > 0 then ", " else "" : String) ++ t) (Nat.succ_pos 0)
    have e : ((("[" : Str) ++ (if (0 : Nat) > 0 then ", " else "" : String) ++ t)).length = 1 + t.length := by
      rw [strLen_append, strLen_append]; rfl
    have hX : (listText (t :: r)).length = (textFrom 0 "[" (t :: r)).length + 1 := by
      show (textFrom 0 "[" (t :: r) ++ "]").length = _
      rw [strLen_append]; rfl
    have hY : (textFrom 0 "[" (t :: r)).length = (textFrom 1 (("[" : Str) ++ (if (0 : Nat) > 0 then ", " else "" : String) ++ t) r).length := rfl
    rw [hX, hY, h, e, piled_cons]; omega
/-- {x!r}: some text -/
def tFmtRV (K : PySem.W.Frag) (te : TE) : TE := fun σ H Q => te σ H fun x H1 => RepV K H1 x ∧ ∀ m : Str, m.length ≤ 300000 → Q (.str m) H1
theorem pe_fmtRV {X : Cx} {e : Expr} {te : TE} {pos : Pos} {k : Nat} (hr : Room k X.A) (he : PE X e te) : PE X (.FormattedValue e 114 none pos) (tFmtRV X.K te) := by
  refine ⟨fun pins s σ H Q I h => ?_⟩
  refine wpAny_FormattedValue_repr (thn (he.run pins s σ H _ I h) fun v s1 hv => ?_)
  obtain ⟨x, H1, I1, r1, hx, q⟩ := hv
  have hu := hr.units
  have hsl : sizeLine = 16777216 := sizeLine_eq
  have fin : ∀ (m : Str) (u : Tok) (s2 : Shared), m.length ≤ 300000 → Inv X pins σ H1 s2 → wpAny (model X.prog X.w) X.A (formatField (.str m u) Str.empty) (EP X pins σ Q) X.xe s2 := fun m u s2 hm I2 =>
    wpAny_formatField_str ⟨.str m, H1, I2, ⟨_, rfl⟩, q m hm⟩ ⟨.str m, H1, I2.tok _, ⟨_, rfl⟩, q m hm⟩ (by omega)
  rcases hx with hx | ⟨a, xs, rfl, hs, hsc, hl⟩
  · rcases hx with rfl | ⟨b, rfl⟩ | ⟨i, rfl, h1, h2⟩ | ⟨z, rfl, h1, h2⟩
    · cases r1
      exact pyReprObj_none (fin _ _ _ (by decide +kernel) (I1.tok _))
    · cases r1
      exact pyReprObj_bool (fin _ _ _ (by cases b <;> decide +kernel) (I1.tok _))
    · obtain ⟨t, rfl⟩ := r1
      exact pyReprObj_int h1 (fin _ _ _ (Nat.le_trans h2 (by decide)) (I1.tok _))
    · obtain ⟨t, rfl⟩ := r1
      have := PySem.StrLaws.reprText_len z h2
      exact pyReprObj_str (fin _ _ _ (by omega) (I1.tok _)) (by omega)
  · cases r1
    rcases hs with ht | ht
    · obtain ⟨its, rv, ⟨o, ho, hcl, n, hd⟩, _⟩ := I1.tuple ht
      obtain ⟨ts, hT, hp⟩ := sc_all (prog := X.prog) (w := X.w) rv hsc
      have htx := fmt_text ts
      refine rj_repr_tuple (ts := ts) (by omega) ho hcl hd hT (by omega) fun m u tk hm => ?_
      exact fin _ _ _ (by omega) (I1.tok _)
    · obtain ⟨its, rv, p, _⟩ := I1.list ht
      obtain ⟨ts, hT, hp⟩ := sc_all (prog := X.prog) (w := X.w) rv hsc
      have htx := listText_len ts
      obtain ⟨o, ho, hcl, n, hd⟩ := p.isList
      cases its with
      | nil => exact wpAny_pyReprObj_list_empty ⟨o, ho, hcl⟩ (by omega) ho hd (fin _ _ _ (by decide +kernel) (I1.tok _))
      | cons y ys =>
        refine rj_repr_list ⟨o, ho, hcl⟩ (by omega) ho hd (by rw [hT.length_eq]; rfl) (fun i z hz => reprAll_at hT i z (by simpa using hz)) (fun m h' u tk hm hk => ?_) (by omega)
        exact fin _ _ _ (by omega) (I1.kept (t' := tk) hk)
end RJ
end

section
set_option maxRecDepth 100000
namespace RJ
open PySem PySem.Spec PyProof.Rows L2
/-! ### a comprehension within a comprehension -/
/-- the scope of a comprehension that runs within another scope -/
def relS (sc1 sc0 : Scope) : Scope := { sc1 with names := sc1.names.map fun (n, k) => if (k == .free && sc0.kind == .function && sc0.names.lookup n == some .cell) then (n, .cell) else (n, k) }
theorem blkOk_nest {N : List Str} {sc0 sc1 scope : Scope} {own : List (Str × Nat)} {cl : List (Str × Addr)} {C : Addr} {env : Env} (h0 : env.scope = sc0) (h : blkC N (relS sc1 sc0) scope own = true) : BlkOk N (compEnvC sc1 cl C env).scope scope own := by
  subst h0
  exact blkOk_by h
def tTru (K : PySem.W.Frag) (ta : TE) : TT := fun σ H Q => ta σ H fun x H' => ∃ k, TruV K x H' k ∧ Q k H'
theorem pt_truthK {X : Cx} {K : PySem.W.Frag} {a : Expr} {ta : TE} (hk : X.K = K) (ha : PE X a ta) (he : ∀ whole, isTrue a X.env whole = (do let v ← whole; standAt a.pos; holding [v] (truthy v))) :
    PT X a (tTru K ta) := by subst hk; exact pt_truth ha he
theorem cr_sumK {X : Cx} {K : PySem.W.Frag} (hk : X.K = K) (hc : X.calm = true) : CallR X (.builtin "sum") (rSum K) := by subst hk; exact cr_sum hc
theorem op_catK {X : Cx} {K : PySem.W.Frag} (hk : X.K = K) : OpR X (binaryOp .Add) (rCatA K) := by subst hk; exact op_catA
theorem pi_tupK {X : Cx} {K : PySem.W.Frag} {tg l : Expr} {tl : TE} (hk : X.K = K) (hl : PE X l tl) : PI X tg l (iTup K tl) := by subst hk; exact pi_tup hl
theorem pi_listK {X : Cx} {K : PySem.W.Frag} {tg l : Expr} {tl : TE} (hk : X.K = K) (hl : PE X l tl) : PI X tg l (iList K tl) := by subst hk; exact pi_list hl
/-- a place of a list or of a tuple -/
def rIxS (K : PySem.W.Frag) : R2 := fun x y H Q => rIxL K x y H Q ∨ rIxT K x y H Q
theorem ix_seq {X : Cx} : IxR X (rIxS X.K) := fun value slice pins s σ H x y v u Q I rx ry h e => h.elim (fun h => ix_list value slice pins s σ H x y v u Q I rx ry h e) (fun h => ix_tup value slice pins s σ H x y v u Q I rx ry h e)
end RJ
end

section
namespace RJ
/-! ### rows of pieces, side by side, counted -/
section
variable {N : Nat} {S : Nat → Nat → Bool}
/-- the pieces that may stand behind x -/
def chs (N : Nat) (S : Nat → Nat → Bool) (x : Nat) : List Nat := (List.range N).filter (S x)
/-- how many rows of k pieces may stand behind x -/
def wk (N : Nat) (S : Nat → Nat → Bool) : Nat → Nat → Nat
  | 0, _ => 1
  | k + 1, x => ((chs N S x).map (wk N S k)).sum
/-- how many rows of k pieces there are -/
def w0 (N : Nat) (S : Nat → Nat → Bool) : Nat → Nat
  | 0 => 1
  | k + 1 => ((List.range N).map (wk N S k)).sum
def rowW (N : Nat) (S : Nat → Nat → Bool) (k : Nat) : List Nat := (List.range N).map (wk N S k)
def tabW (N : Nat) (S : Nat → Nat → Bool) (k : Nat) : List Nat := rowW N S k ++ [w0 N S k]
def chRows (N : Nat) (S : Nat → Nat → Bool) : List (List Nat) := (List.range N).map (chs N S) ++ [List.range N]
theorem rowW_len (k : Nat) : (rowW N S k).length = N := by rw [rowW, List.length_map, List.length_range]
theorem tabW_len (k : Nat) : (tabW N S k).length = N + 1 := by rw [tabW, List.length_append, rowW_len]; rfl
theorem rowW_at {k x : Nat} (h : x < N) : (rowW N S k)[x]? = some (wk N S k x) := by
  rw [rowW, List.getElem?_map, List.getElem?_range h]; rfl
theorem tabW_at {k x : Nat} (h : x < N) : (tabW N S k)[x]? = some (wk N S k x) := by
  rw [tabW, List.getElem?_append_left (by rw [rowW_len]; exact h)]; exact rowW_at h
theorem tabW_last (k : Nat) : (tabW N S k).getLast? = some (w0 N S k) := by rw [tabW, List.getLast?_concat]
theorem chs_lt {x y : Nat} (h : y ∈ chs N S x) : y < N := List.mem_range.mp (List.mem_filter.mp h).1
theorem chs_S {x y : Nat} : y ∈ chs N S x ↔ y < N ∧ S x y = true := by rw [chs, List.mem_filter, List.mem_range]
theorem chs_nodup (x : Nat) : (chs N S x).Nodup := List.nodup_range.filter _
theorem chs_len (x : Nat) : (chs N S x).length ≤ N := by
  have := List.length_filter_le (S x) (List.range N)
  rwa [List.length_range] at this
theorem chRows_len : (chRows N S).length = N + 1 := by rw [chRows, List.length_append, List.length_map, List.length_range]; rfl
theorem chRows_at {x : Nat} (h : x < N) : (chRows N S)[x]? = some (chs N S x) := by
  rw [chRows, List.getElem?_append_left (by rw [List.length_map, List.length_range]; exact h), List.getElem?_map, List.getElem?_range h]; rfl
theorem chRows_last : (chRows N S).getLast? = some (List.range N) := by rw [chRows, List.getLast?_concat]
theorem chRows_lt {r : List Nat} (h : r ∈ chRows N S) : ∀ y ∈ r, y < N := by
  intro y hy
  rw [chRows, List.mem_append, List.mem_map, List.mem_singleton] at h
  rcases h with ⟨x, _, rfl⟩ | rfl
  · exact chs_lt hy
  · exact List.mem_range.mp hy
theorem chRows_len_le {r : List Nat} (h : r ∈ chRows N S) : r.length ≤ N := by
  rw [chRows, List.mem_append, List.mem_map, List.mem_singleton] at h
  rcases h with ⟨x, _, rfl⟩ | rfl
  · exact chs_len x
  · rw [List.length_range]; exact Nat.le_refl _
/-- one step of the table -/
theorem tabW_next (k : Nat) : (chRows N S).map (fun r => (r.map (wk N S k)).sum) = tabW N S (k + 1) := by
  rw [chRows, List.map_append, List.map_map]; rfl
theorem tabW_zero : (chRows N S).map (fun _ => 1) = tabW N S 0 := by
  rw [chRows, List.map_append, List.map_map]; rfl
theorem rowW_next (k : Nat) : (List.range N).map (fun x => ((chs N S x).map (wk N S k)).sum) = rowW N S (k + 1) := rfl
theorem rowW_zero : (List.range N).map (fun _ => 1) = rowW N S 0 := rfl
/-- side by side: the cut of the text of the two -/
def sideB (al : List Nat) (ps : List (Nat × Nat)) (x y : Nat) : Bool := decide (CT al ps (TX al ps x ++ TX al ps y) = [x, y])
theorem sideB_iff {al : List Nat} {ps : List (Nat × Nat)} (hnd : al.Nodup) (h : Proper al ps) {x y : Nat} (hx : x < al.length + ps.length) (hy : y < al.length + ps.length) : sideB al ps x y = true ↔ ∀ r, ¬ Cross al.length ps x y r := by
  unfold sideB
  rw [decide_eq_true_eq]
  exact pair_iff hnd h hx hy
/-! ### rows below a row -/
/-- the next choices -/
def below (N : Nat) (S : Nat → Nat → Bool) : List Nat → List Nat → Nat
  | _, [] => 0
  | ch, p :: r => ((ch.filter fun c => decide (c < p)).map (wk N S r.length)).sum + below N S (chs N S p) r
/-- a row in which each piece is a choice behind the one ahead of it -/
def okRow (N : Nat) (S : Nat → Nat → Bool) : List Nat → List Nat → Prop
  | _, [] => True
  | ch, p :: r => p ∈ ch ∧ okRow N S (chs N S p) r
theorem sum_le_of_mem {f : Nat → Nat} : ∀ {l : List Nat} {x : Nat}, x ∈ l → f x ≤ (l.map f).sum
  | a :: l, x, h => by
    rw [List.map_cons, List.sum_cons]
    rcases List.mem_cons.mp h with rfl | h
    · omega
    · have := sum_le_of_mem (f := f) h; omega
/-- the pieces that may stand at place j of a row -/
def chJ (N : Nat) (S : Nat → Nat → Bool) (row : List Nat) : Nat → List Nat
  | 0 => List.range N
  | j + 1 => chs N S (row.getD j 0)
def okJ (S : Nat → Nat → Bool) (row : List Nat) : Nat → Nat → Bool
  | 0, _ => true
  | j + 1, y => S (row.getD j 0) y
/-- the rows of m pieces that are below at place j -/
def belM (N : Nat) (S : Nat → Nat → Bool) (m : Nat) (row : List Nat) (j : Nat) : Nat := (((List.range (row.getD j 0)).filter (okJ S row j)).map (wk N S (m - 1 - j))).sum
def belUM (N : Nat) (S : Nat → Nat → Bool) (m : Nat) (row : List Nat) (k : Nat) : Nat := ((List.range k).map (belM N S m row)).sum
abbrev belT (N : Nat) (S : Nat → Nat → Bool) (row : List Nat) (j : Nat) : Nat := belM N S row.length row j
abbrev belU (N : Nat) (S : Nat → Nat → Bool) (row : List Nat) (k : Nat) : Nat := belUM N S row.length row k
theorem belUM_succ (m : Nat) (row : List Nat) (k : Nat) : belUM N S m row (k + 1) = belUM N S m row k + belM N S m row k := by
  unfold belUM
  rw [List.range_succ, List.map_append, List.sum_append, List.map_singleton, List.sum_singleton]
theorem belU_succ (row : List Nat) (k : Nat) : belU N S row (k + 1) = belU N S row k + belT N S row k := belUM_succ _ row k
theorem getD_app {row : List Nat} {x j : Nat} (h : j < row.length) : (row ++ [x]).getD j 0 = row.getD j 0 := by
  rw [List.getD_eq_getElem?_getD, List.getElem?_append_left h, ← List.getD_eq_getElem?_getD]
theorem getD_last {row : List Nat} {x : Nat} : (row ++ [x]).getD row.length 0 = x := by
  rw [List.getD_eq_getElem?_getD, List.getElem?_append_right (Nat.le_refl _), Nat.sub_self]; rfl
theorem chJ_app {row : List Nat} {x : Nat} : ∀ {j : Nat}, j ≤ row.length → chJ N S (row ++ [x]) j = chJ N S row j
  | 0, _ => rfl
  | j + 1, h => by
    show chs N S ((row ++ [x]).getD j 0) = chs N S (row.getD j 0)
    rw [getD_app (by omega)]
theorem okJ_app {row : List Nat} {x y : Nat} : ∀ {j : Nat}, j ≤ row.length → okJ S (row ++ [x]) j y = okJ S row j y
  | 0, _ => rfl
  | j + 1, h => by
    show S ((row ++ [x]).getD j 0) y = S (row.getD j 0) y
    rw [getD_app (by omega)]
theorem belM_app {m : Nat} {row : List Nat} {x j : Nat} (h : j < row.length) : belM N S m (row ++ [x]) j = belM N S m row j := by
  unfold belM
  rw [getD_app h, List.filter_congr fun y _ => okJ_app (S := S) (row := row) (x := x) (y := y) (j := j) (by omega)]
theorem belUM_app {m : Nat} {row : List Nat} {x k : Nat} (h : k ≤ row.length) : belUM N S m (row ++ [x]) k = belUM N S m row k := by
  unfold belUM
  rw [List.map_congr_left fun j hj => belM_app (by have := List.mem_range.mp hj; omega)]
/-- how many rows of m pieces go on from here -/
def wAt (N : Nat) (S : Nat → Nat → Bool) (m : Nat) (row : List Nat) : Nat → Nat
  | 0 => w0 N S m
  | i + 1 => wk N S (m - (i + 1)) (row.getD i 0)
theorem wAt_sum {m i : Nat} (row : List Nat) (h : i < m) : wAt N S m row i = ((chJ N S row i).map (wk N S (m - 1 - i))).sum := by
  cases i with
  | zero =>
    obtain ⟨k, rfl⟩ : ∃ k, m = k + 1 := ⟨m - 1, by omega⟩
    rfl
  | succ i =>
    obtain ⟨k, hk⟩ : ∃ k, m - (i + 1) = k + 1 := ⟨m - (i + 1) - 1, by omega⟩
    show wk N S (m - (i + 1)) _ = _
    rw [hk, show m - 1 - (i + 1) = k by omega]; rfl
def OkCh (N : Nat) (S : Nat → Nat → Bool) (row : List Nat) : Prop := ∀ j, j < row.length → row.getD j 0 ∈ chJ N S row j
theorem chJ_lt {row : List Nat} {j y : Nat} (h : y ∈ chJ N S row j) : y < N := by
  cases j with
  | zero => exact List.mem_range.mp h
  | succ j => exact chs_lt h
theorem chJ_len (row : List Nat) (j : Nat) : (chJ N S row j).length ≤ N := by
  cases j with
  | zero => show (List.range N).length ≤ N; rw [List.length_range]; exact Nat.le_refl _
  | succ j => exact chs_len _
theorem chJ_ok {row : List Nat} {j y : Nat} : y ∈ chJ N S row j ↔ y < N ∧ okJ S row j y = true := by
  cases j with
  | zero => show y ∈ List.range N ↔ _ ∧ true = true; rw [List.mem_range]; simp
  | succ j => exact chs_S
theorem range_below {p : Nat} (h : p ≤ N) (f : Nat → Bool) : ((List.range N).filter f).filter (fun c => decide (c < p)) = (List.range p).filter f := by
  have e : N = p + (N - p) := by omega
  rw [List.filter_filter, e, List.range_add, List.filter_append]
  have h1 : (List.range p).filter (fun a => decide (a < p) && f a) = (List.range p).filter f := List.filter_congr fun x hx => by
    rw [decide_eq_true (List.mem_range.mp hx), Bool.true_and]
  have h2 : ((List.range (N - p)).map (p + ·)).filter (fun a => decide (a < p) && f a) = [] := List.filter_eq_nil_iff.mpr fun x hx => by
    obtain ⟨y, _, rfl⟩ := List.mem_map.mp hx
    rw [decide_eq_false (by omega), Bool.false_and]
    exact Bool.false_ne_true
  rw [h1, h2, List.append_nil]
theorem chJ_below {row : List Nat} {j : Nat} (h : row.getD j 0 ≤ N) : (chJ N S row j).filter (fun c => decide (c < row.getD j 0)) = (List.range (row.getD j 0)).filter (okJ S row j) := by
  cases j with
  | zero =>
    have := range_below (N := N) h (fun _ => true)
    rw [List.filter_eq_self.mpr (fun _ _ => rfl)] at this
    exact this.trans (List.filter_congr fun _ _ => rfl)
  | succ j => exact range_below h (S (row.getD j 0))
theorem chJ_row (row : List Nat) (j : Nat) (hj : j ≤ row.length) (hN : ∀ x ∈ row, x < N) : (j = 0 ∧ (chRows N S).getLast? = some (chJ N S row j)) ∨ ∃ i x, j = i + 1 ∧ row[i]? = some x ∧ x < N ∧ (chRows N S)[x]? = some (chJ N S row j) := by
  cases j with
  | zero => exact .inl ⟨rfl, chRows_last⟩
  | succ i =>
    have hi : row[i]? = some (row.getD i 0) := by
      rw [List.getD_eq_getElem?_getD, List.getElem?_eq_getElem (by omega)]; rfl
    have hx := hN _ (List.mem_of_getElem? hi)
    exact .inr ⟨i, _, rfl, hi, hx, chRows_at hx⟩
theorem chJ_asc (row : List Nat) (j : Nat) : (chJ N S row j).Pairwise (· < ·) := by
  cases j with
  | zero => exact List.pairwise_lt_range
  | succ j => exact List.pairwise_lt_range.sublist List.filter_sublist
theorem asc_below {l pre post : List Nat} {p : Nat} (h : l.Pairwise (· < ·)) (e : l = pre ++ p :: post) : l.filter (fun c => decide (c < p)) = pre := by
  subst e
  rw [List.pairwise_append] at h
  obtain ⟨_, h2, h3⟩ := h
  rw [List.filter_append, List.filter_cons, decide_eq_false (Nat.lt_irrefl p), if_neg Bool.false_ne_true]
  have e1 : pre.filter (fun c => decide (c < p)) = pre := List.filter_eq_self.mpr fun x hx => decide_eq_true (h3 x hx p (List.mem_cons_self ..))
  have e2 : post.filter (fun c => decide (c < p)) = [] := List.filter_eq_nil_iff.mpr fun x hx => by
    have := (List.pairwise_cons.mp h2).1 x hx
    rw [decide_eq_false (by omega)]; exact Bool.false_ne_true
  rw [e1, e2, List.append_nil]
theorem wk_le (k x : Nat) : wk N S k x ≤ N ^ k := by
  induction k generalizing x with
  | zero => exact Nat.le_refl 1
  | succ k ih =>
    have key : ∀ l : List Nat, (l.map (wk N S k)).sum ≤ l.length * N ^ k := fun l => by
      induction l with
      | nil => exact Nat.zero_le _
      | cons a l ih2 =>
        rw [List.map_cons, List.sum_cons, List.length_cons, Nat.succ_mul]
        have := ih a
        omega
    have h1 := key (chs N S x)
    have h2 : (chs N S x).length * N ^ k ≤ N * N ^ k := Nat.mul_le_mul_right _ (chs_len x)
    show ((chs N S x).map (wk N S k)).sum ≤ _
    rw [Nat.pow_succ, Nat.mul_comm]
    omega
theorem w0_le (k : Nat) : w0 N S k ≤ N ^ k := by
  cases k with
  | zero => exact Nat.le_refl 1
  | succ k =>
    have key : ∀ l : List Nat, (l.map (wk N S k)).sum ≤ l.length * N ^ k := fun l => by
      induction l with
      | nil => exact Nat.zero_le _
      | cons a l ih2 =>
        rw [List.map_cons, List.sum_cons, List.length_cons, Nat.succ_mul]
        have := wk_le (N := N) (S := S) k a
        omega
    have h1 := key (List.range N)
    rw [List.length_range] at h1
    show ((List.range N).map (wk N S k)).sum ≤ _
    rw [Nat.pow_succ, Nat.mul_comm]
    exact h1
theorem okCh_of {al : List Nat} {ps : List (Nat × Nat)} (hnd : al.Nodup) (h : Proper al ps) {row : List Nat} (hin : ∀ x ∈ row, x < al.length + ps.length) (hc : CT al ps (textR (textsOf al ps) row) = row) : OkCh (al.length + ps.length) (sideB al ps) row := by
  have hc := (CT_row hnd h hin).mp hc
  intro j hj
  have hg : ∀ i, i < row.length → row[i]? = some (row.getD i 0) := fun i hi => by
    rw [List.getD_eq_getElem?_getD, List.getElem?_eq_getElem hi]; rfl
  have hjN := hin _ (List.mem_of_getElem? (hg j hj))
  cases j with
  | zero => exact List.mem_range.mpr hjN
  | succ i =>
    have hiN := hin _ (List.mem_of_getElem? (hg i (by omega)))
    refine chs_S.mpr ⟨hjN, (sideB_iff hnd h hiN hjN).mpr (hc (row.getD i 0, row.getD (i + 1) 0) ?_)⟩
    have : (adjs row)[i]? = some (row.getD i 0, row.getD (i + 1) 0) := by
      unfold adjs
      rw [List.getElem?_zip_eq_some]
      exact ⟨hg i (by omega), by rw [List.getElem?_tail]; exact hg (i + 1) hj⟩
    exact List.mem_of_getElem? this
theorem sum_cast {α : Type} (f : α → Nat) : ∀ l : List α, ((l.map fun y => (f y : Int)).sum) = (((l.map f).sum : Nat) : Int)
  | [] => rfl
  | a :: l => by
    rw [List.map_cons, List.sum_cons, List.map_cons, List.sum_cons, sum_cast f l, Int.natCast_add]
theorem okRow_pos : ∀ (r ch : List Nat), okRow N S ch r → r ≠ [] → 1 ≤ (ch.map (wk N S (r.length - 1))).sum
  | [], _, _, h => absurd rfl h
  | p :: r, ch, ⟨hp, hr⟩, _ => by
    have h1 := sum_le_of_mem (f := wk N S ((p :: r).length - 1)) hp
    have h2 : 1 ≤ wk N S ((p :: r).length - 1) p := by
      cases r with
      | nil => exact Nat.le_refl 1
      | cons y r => exact okRow_pos (y :: r) _ hr (fun z => nomatch z)
    omega
theorem okRow_of : ∀ (R ch : List Nat), (∀ x, R.head? = some x → x ∈ ch) → (∀ q ∈ adjs R, S q.1 q.2 = true) → (∀ x ∈ R, x < N) → okRow N S ch R
  | [], _, _, _, _ => trivial
  | [p], ch, h, _, _ => ⟨h p rfl, trivial⟩
  | p :: y :: r, ch, h, ha, hN => ⟨h p rfl, okRow_of (y :: r) _ (fun x e => by
      obtain rfl : y = x := Option.some.inj e
      exact chs_S.mpr ⟨hN y (List.mem_cons_of_mem _ (List.mem_cons_self ..)), ha (p, y) (List.mem_cons_self ..)⟩) (fun q hq => ha q (mem_adjs_cons hq)) fun x hx => hN x (List.mem_cons_of_mem _ hx)⟩
theorem flatN {ts : List (List Nat)} {n : Nat} (h : ∀ t ∈ ts, t.length ≤ n) : ts.flatten.length ≤ n * ts.length := by
  induction ts with
  | nil => exact Nat.zero_le _
  | cons t ts ih =>
    rw [List.flatten_cons, List.length_append, List.length_cons, Nat.mul_succ]
    have := h t (List.mem_cons_self ..)
    have := ih fun u hu => h u (List.mem_cons_of_mem _ hu)
    omega
theorem w0_pos {al : List Nat} {ps : List (Nat × Nat)} (hnd : al.Nodup) (h : Proper al ps) (h1 : 1 ≤ al.length) (k : Nat) : 1 ≤ w0 (al.length + ps.length) (sideB al ps) k := by
  cases k with
  | zero => exact Nat.le_refl 1
  | succ k =>
    obtain ⟨c, hc⟩ : ∃ c, c ∈ al := ⟨al[0], List.getElem_mem _⟩
    have hin : ∀ x ∈ List.replicate (40 * (k + 1)) c, x ∈ al := fun x hx => by rw [(List.mem_replicate.mp hx).2]; exact hc
    have ht := text_cut (ps := ps) h.wf hin
    obtain ⟨R, hR⟩ : ∃ R, R = CT al ps (List.replicate (40 * (k + 1)) c) := ⟨_, rfl⟩
    have hlt : ∀ x ∈ R, x < al.length + ps.length := by rw [hR]; exact cut_lt hin
    replace ht : textR (textsOf al ps) R = List.replicate (40 * (k + 1)) c := by rw [hR]; exact ht
    have hcut : CT al ps (textR (textsOf al ps) R) = R := by rw [ht, hR]
    have ha := (CT_row hnd h hlt).mp hcut
    have hlen : k + 1 ≤ R.length := by
      have h2 := flatN (ts := R.map fun i => (textsOf al ps).getD i []) (n := 40) fun t ht => by
        obtain ⟨i, _, rfl⟩ := List.mem_map.mp ht
        exact getD_short h.short i
      rw [List.length_map] at h2
      have h3 : (textR (textsOf al ps) R).length = 40 * (k + 1) := by rw [ht, List.length_replicate]
      unfold textR at h3
      omega
    have hl : (R.take (k + 1)).length = k + 1 := by rw [List.length_take]; omega
    have hlt2 : ∀ x ∈ R.take (k + 1), x < al.length + ps.length := fun x hx => hlt x (List.mem_of_mem_take hx)
    have hok := okRow_of (N := al.length + ps.length) (S := sideB al ps) (R.take (k + 1)) (List.range (al.length + ps.length)) (fun x hx => List.mem_range.mpr (hlt2 x (List.mem_of_mem_head? hx))) (fun q hq => by
      have hm : q ∈ adjs R := by
        have := adjs_sub_left (v := R.drop (k + 1)) hq
        rwa [List.take_append_drop] at this
      have hq1 : q.1 ∈ R ∧ q.2 ∈ R := by
        unfold adjs at hm
        exact ⟨(List.of_mem_zip hm).1, List.mem_of_mem_tail (List.of_mem_zip hm).2⟩
      exact (sideB_iff hnd h (hlt _ hq1.1) (hlt _ hq1.2)).mpr (ha q hm)) hlt2
    have := okRow_pos _ _ hok (fun z => by rw [z] at hl; cases hl)
    rw [hl] at this
    exact this
theorem okCh_cut {al : List Nat} {ps : List (Nat × Nat)} (hnd : al.Nodup) (h : Proper al ps) {row : List Nat} (hok : OkCh (al.length + ps.length) (sideB al ps) row) : (∀ x ∈ row, x < al.length + ps.length) ∧ CT al ps (textR (textsOf al ps) row) = row := by
  have hg : ∀ i, i < row.length → row[i]? = some (row.getD i 0) := fun i hi => by
    rw [List.getD_eq_getElem?_getD, List.getElem?_eq_getElem hi]; rfl
  have hin : ∀ x ∈ row, x < al.length + ps.length := fun x hx => by
    obtain ⟨i, hi⟩ := List.getElem?_of_mem hx
    have hil := (List.getElem?_eq_some_iff.mp hi).1
    have := chJ_lt (hok i hil)
    rw [hg i hil] at hi
    cases hi; exact this
  refine ⟨hin, (CT_row hnd h hin).mpr fun q hq => ?_⟩
  obtain ⟨i, hi⟩ := List.getElem?_of_mem hq
  unfold adjs at hi
  rw [List.getElem?_zip_eq_some, List.getElem?_tail] at hi
  have h1 := (List.getElem?_eq_some_iff.mp hi.1).1
  have h2 := (List.getElem?_eq_some_iff.mp hi.2).1
  have e1 := (hg i h1).symm.trans hi.1
  have e2 := (hg (i + 1) h2).symm.trans hi.2
  have := hok (i + 1) h2
  have hs : sideB al ps (row.getD i 0) (row.getD (i + 1) 0) = true := (chs_S.mp this).2
  rw [Option.some.inj e1, Option.some.inj e2] at hs
  exact (sideB_iff hnd h (hin _ (List.mem_of_getElem? hi.1)) (hin _ (List.mem_of_getElem? hi.2))).mp hs
end
end RJ
end

section
set_option maxRecDepth 100000
namespace RJ
open PySem PySem.Spec PyProof.Rows L2
def top (i : Nat) : Stmt := PySem.Challenge.pw_rankedjoins_k36_numbers_of_cuts_and_back.main.body.getD i (.Pass ⟨0, 0, 0, 0⟩)
/-- what the top leaves of the built-in names and of the module's constants -/
structure Txt (K : PySem.W.Frag) (mg : Str → Option Value) : Prop where
  b_isinstance : mg "isinstance" = none
  b_len : mg "len" = none
  b_min : mg "min" = none
  b_all : mg "all" = none
  b_abs : mg "abs" = none
  b_int : mg "int" = none
  b_bool : mg "bool" = none
  b_str : mg "str" = none
  b_tuple : mg "tuple" = none
  b_list : mg "list" = none
  b_zip : mg "zip" = none
  b_enumerate : mg "enumerate" = none
  b_range : mg "range" = none
  b_sorted : mg "sorted" = none
  b_max : mg "max" = none
  b_reversed : mg "reversed" = none
  b_sum : mg "sum" = none
  b_dict : mg "dict" = none
  b_ValueError : mg "ValueError" = none
  b_iter : mg "iter" = none
  c_MOST_LETTERS : ∃ u, mg "MOST_LETTERS" = some u ∧ RelV (.int 30) u
  c_MOST_SIGNS_OF_PIECE : ∃ u, mg "MOST_SIGNS_OF_PIECE" = some u ∧ RelV (.int 40) u
theorem hu64_of {A : Around} {k : Nat} (hr : Room k A) : A.units + 64 < cLine := hr.units
/-! ### heaps -/
theorem Same.new {H H' : Hp} {p : Addr} {o : HO} (s : Same H H') (h : H' p = none) : Same H (upd H' p o) := fun b u e => by
  have := s b u e
  rw [upd_ne (ne_of_none this h)]; exact this
theorem Same.put {H H' : Hp} {p : Addr} {o : HO} (s : Same H H') (h : H p = none) : Same H (upd H' p o) := fun b u e => by
  rw [upd_ne (ne_of_none e h)]; exact s b u e
theorem same_new {H : Hp} {p : Addr} {o : HO} (h : H p = none) : Same H (upd H p o) := Same.new (Same.refl H) h
/-! ### values -/
/-- a row of pieces -/
def iv (l : List Nat) : List V := l.map fun (n : Nat) => V.int (n : Int)
theorem iv_len (l : List Nat) : (iv l).length = l.length := by rw [iv, List.length_map]
theorem iv_get {l : List Nat} {i : Nat} {v : V} (h : (iv l)[i]? = some v) : ∃ n : Nat, l[i]? = some n ∧ v = V.int (n : Int) := by
  rw [iv, List.getElem?_map] at h
  cases e : l[i]? with
  | none => rw [e] at h; cases h
  | some n => rw [e] at h; exact ⟨n, rfl, (Option.some.inj h).symm⟩
theorem iv_at {l : List Nat} {i n : Nat} (h : l[i]? = some n) : (iv l)[i]? = some (V.int (n : Int)) := by
  rw [iv, List.getElem?_map, h]; rfl
theorem iv_snoc (l : List Nat) (n : Nat) : iv l ++ [V.int (n : Int)] = iv (l ++ [n]) := by rw [iv, iv, List.map_append]; rfl
/-- a list or a tuple at p -/
def SeqAt (b : Bool) (H : Hp) (p : Addr) (xs : List V) : Prop := H p = some (match b with | true => .lst xs | false => .tup xs)
theorem SeqAt.same {b : Bool} {H H' : Hp} {p : Addr} {xs : List V} (h : SeqAt b H p xs) (s : Same H H') : SeqAt b H' p xs := s _ _ h
/-- a row at p: a list or a tuple -/
abbrev RowAt (b : Bool) (H : Hp) (p : Addr) (l : List Nat) : Prop := SeqAt b H p (iv l)
abbrev S (l : List Nat) : Str := SX.S l
theorem S_len (l : List Nat) : (S l).length = l.length := SX.S_len l
end RJ
end

section
set_option maxRecDepth 100000
set_option maxHeartbeats 2000000
namespace RJ
open PySem PySem.Spec PyProof.Rows L2
abbrev s_is_integer : Stmt := top 14
abbrev N_is_integer : List Str := ["value"]
theorem sc_is_integer : FnScope N_is_integer ["value"] (C8.fnScope s_is_integer) := C8.fnScope_by (by decide +kernel)
abbrev s_is_number_below : Stmt := top 15
abbrev N_is_number_below : List Str := ["value", "end"]
theorem sc_is_number_below : FnScope N_is_number_below ["value", "end"] (C8.fnScope s_is_number_below) := C8.fnScope_by (by decide +kernel)
abbrev s_is_sign : Stmt := top 16
abbrev N_is_sign : List Str := ["sign"]
theorem sc_is_sign : FnScope N_is_sign ["sign"] (C8.fnScope s_is_sign) := C8.fnScope_by (by decide +kernel)
abbrev s_is_alphabet : Stmt := top 17
abbrev N_is_alphabet : List Str := ["text", "ascending", "first", "second", "sign"]
theorem sc_is_alphabet : FnScope N_is_alphabet ["text"] (C8.fnScope s_is_alphabet) := C8.fnScope_by (by decide +kernel)
/-- is the value an integer that is no bool -/
def isIntV : V → Bool
  | .int _ => true
  | _ => false
/-- values whose kind isinstance knows -/
inductive Kind (H : Hp) : V → Prop
  | int (i : Int) : Kind H (.int i)
  | bl (b : Bool) : Kind H (.bl b)
  | non : Kind H .non
  | str (x : Str) : Kind H (.str x)
  | lst {a : Addr} {xs : List V} (e : H a = some (.lst xs)) : Kind H (.ref a)
  | tup {a : Addr} {xs : List V} (e : H a = some (.tup xs)) : Kind H (.ref a)
theorem Kind.isi {K : PySem.W.Frag} {H : Hp} {x : V} (k : Kind H x) : ∃ t, TyX K H x t ∧ ∃ b, PySem.W.kitOne K t (.type "bool") = some b ∧ ∃ c, PySem.W.kitOne K t (.type "int") = some c ∧ (c && !b) = isIntV x := by
  cases k with
  | int i => exact ⟨_, .base (.int i), false, kit_ty (by decide +kernel), true, kit_ty (by decide +kernel), rfl⟩
  | bl b => exact ⟨_, .base (.bl b), true, kit_ty (by decide +kernel), true, kit_ty (by decide +kernel), rfl⟩
  | non => exact ⟨_, .base .non, false, kit_ty (by decide +kernel), false, kit_ty (by decide +kernel), rfl⟩
  | str x => exact ⟨_, .base (.str x), false, kit_ty (by decide +kernel), false, kit_ty (by decide +kernel), rfl⟩
  | lst e => exact ⟨_, .base (.lst e), false, kit_ty (by decide +kernel), false, kit_ty (by decide +kernel), rfl⟩
  | tup e => exact ⟨_, .base (.tup e), false, kit_ty (by decide +kernel), false, kit_ty (by decide +kernel), rfl⟩
def numBelow (x : V) (n : Int) : Bool := match x with
  | .int i => decide (0 ≤ i) && decide (i < n)
  | _ => false
def sp_is_integer : Sp := fun vs H Q _ => ∃ x, vs = [x] ∧ Kind H x ∧ Q (.bl (isIntV x)) H
def sp_is_number_below : Sp := fun vs H Q _ => ∃ x n, vs = [x, .int n] ∧ Kind H x ∧ Q (.bl (numBelow x n)) H
def sp_is_sign : Sp := fun vs H Q _ => ∃ c, vs = [.str (S [c])] ∧ Q (.bl (decide (32 ≤ c ∧ c ≤ 126))) H
section
variable {P : Program} {w : World} {K : PySem.W.Frag} {mg : Str → Option Value} {base : Heap}
theorem ok_is_integer {f : Addr} {fd : FuncData} (F : C8.Fun K "is_integer" "is_integer" s_is_integer f fd) (T : Txt K mg) : FnOk P w K mg base C8.CX0 1 f fd ["value"] sp_is_integer := by
  refine C8.fn0 F sc_is_integer (fun vs H Q E h => ?_) (fun cdv A outer s H vs Q E hr h => ?_)
  · obtain ⟨x, rfl, _⟩ := h; rfl
  · obtain ⟨x, rfl, k, q⟩ := h
    refine ⟨_, (pss_one (ps_ret (pe_and (pe_callB call_isi (by rfl) T.b_isinstance (by decide +kernel) (pa_cons (pv 0) (pa_cons (pe_bltn (v := .ty "int") (u := .type "int") rfl T.b_int (by decide +kernel) rfl) pa_nil))) (pe_one (pe_not (pe_callB call_isi (by rfl) T.b_isinstance (by decide +kernel) (pa_cons (pv 0) (pa_cons (pe_bltn (v := .ty "bool") (u := .type "bool") rfl T.b_bool (by decide +kernel) rfl) pa_nil)))))))), ?_⟩
    obtain ⟨t, ty, b, hb, c, hc, e⟩ := k.isi (K := K)
    refine ⟨_, rfl, x, .ty "int", t, .type "int", c, rfl, .ty _, ty, hc, c, rfl, ?_⟩
    cases c with
    | false => 
      have e' : false = isIntV x := e
      refine iteF ?_
      rw [e']; exact q
    | true =>
      refine iteT ⟨_, rfl, x, .ty "bool", t, .type "bool", b, rfl, .ty _, ty, hb, b, rfl, ?_⟩
      have e' : (!b) = isIntV x := by rw [← e]; simp
      show Q (.bl (!b)) H
      rw [e']; exact q
end
end RJ
end

section
set_option maxRecDepth 100000
set_option maxHeartbeats 2000000
namespace RJ
open PySem PySem.Spec PyProof.Rows L2
theorem walkG {n : Nat} {G : Hp → Prop} {PX : Nat → List V → Prop} : Walk (ItG n G PX) n G (fun i H v H' => ∃ T xs, v = .ref T ∧ H T = none ∧ H' = upd H T (.tup xs) ∧ PX i xs) :=
  ⟨fun _ _ hi h => ⟨h, hi⟩, fun _ h => ⟨h, Nat.le_refl _⟩, fun _ _ _ _ _ _ y => y⟩
theorem cutS_from (l : List Nat) (k : Nat) : cutS (S l) (some (k : Int)) none = S (l.drop k) := by
  show (⟨(((S l).cps.toList.drop (HT.sIx (S l).length 0 (some (k : Int)))).take (HT.sIx (S l).length (S l).length none - HT.sIx (S l).length 0 (some (k : Int)))).toArray⟩ : Str) = ⟨(l.drop k).toArray⟩
  rw [HT.sIx_nat, HT.sIx_none, S_len]
  have e : (l.drop (min k l.length)).take (l.length - min k l.length) = l.drop k := by
    by_cases h : k ≤ l.length
    · rw [Nat.min_eq_left h, List.take_of_length_le (by rw [List.length_drop]; omega)]
    · rw [Nat.min_eq_right (by omega), List.drop_eq_nil_of_le (by omega : l.length ≤ k), List.drop_length, List.take_nil]
  exact congrArg (fun z : List Nat => (⟨z.toArray⟩ : Str)) e
theorem S_get (l : List Nat) (i : Nat) : (S l).cps[i]? = l[i]? := by
  show l.toArray[i]? = l[i]?
  rw [List.getElem?_toArray]
theorem S_size (l : List Nat) : (S l).cps.size = l.length := List.size_toArray
theorem str1 (c : Nat) : (⟨#[c]⟩ : Str) = S [c] := rfl
/-- the source that a text is -/
theorem src_text (H : Hp) (l : List Nat) : SrcV H (.str (S l)) l.length (fun _ => True) (fun i v => ∃ c, (S l).cps[i]? = some c ∧ v = .str ⟨#[c]⟩) :=
  .inl ⟨S l, rfl, (S_size l).symm, rfl, rfl⟩
abbrev s_check_alphabet : Stmt := top 18
abbrev N_check_alphabet : List Str := ["text"]
theorem sc_check_alphabet : FnScope N_check_alphabet ["text"] (C8.fnScope s_check_alphabet) := C8.fnScope_by (by decide +kernel)
/-- neighbors ascend -/
def ascL (l : List Nat) : List Bool := (l.zip (l.drop 1)).map fun p => decide (p.1 < p.2)
def alOk (l : List Nat) : Bool := decide (1 ≤ l.length ∧ l.length ≤ 30) && ((ascL l).all id && (l.map fun c => decide (32 ≤ c ∧ c ≤ 126)).all id)
def sp_is_alphabet : Sp := fun vs H Q _ => ∃ l : List Nat, vs = [.str (S l)] ∧ l.length ≤ 1000 ∧ ∀ H', Same H H' → Q (.bl (alOk l)) H'
def sp_check_alphabet : Sp := fun vs H Q _ => ∃ l : List Nat, vs = [.str (S l)] ∧ l.length ≤ 1000 ∧ alOk l = true ∧ ∀ H', Same H H' → Q .non H'
theorem small_le {n : Nat} (h : n ≤ 1000) : n ≤ sizeLine := Nat.le_of_lt (small1000 h)
theorem map_take_succ {α β : Type} {f : α → β} {l : List α} {i : Nat} {x : α} (h : l[i]? = some x) : (l.take (i + 1)).map f = (l.take i).map f ++ [f x] := by
  rw [List.take_add_one, h, List.map_append]; rfl
theorem lt_cps (a b : Nat) : decide ((S [a]).cps.toList < (S [b]).cps.toList) = decide (a < b) := by
  apply decide_eq_decide.mpr
  show ([a] < [b]) ↔ a < b
  rw [List.cons_lt_cons_iff]
  constructor
  · rintro (h | ⟨_, h⟩)
    · exact h
    · exact absurd h (by simp)
  · exact .inl
section
variable {P : Program} {w : World} {K : PySem.W.Frag} {mg : Str → Option Value} {base : Heap}
theorem ok_is_number_below {f : Addr} {fd : FuncData} (F : C8.Fun K "is_number_below" "is_number_below" s_is_number_below f fd) (T : Txt K mg) (c_is_integer : C8.Cal P w K mg base 1 "is_integer" sp_is_integer []) : FnOk P w K mg base C8.CX0 2 f fd ["value", "end"] sp_is_number_below := by
  refine C8.fn0 F sc_is_number_below (fun vs H Q E h => ?_) (fun cdv A outer s H vs Q E hr h => ?_)
  · obtain ⟨x, n, rfl, _⟩ := h; rfl
  · obtain ⟨x, n, rfl, k, q⟩ := h
    refine ⟨_, (pss_one (ps_ret (pe_and (C8.pe_c c_is_integer hr (by first | decide | omega) (by rfl) (pa_cons (pv 0) pa_nil)) (pe_one (pe_chain op_le op_lt pe_int (pv 0) (pv 1)))))), ?_⟩
    refine ⟨_, rfl, x, rfl, k, _, rfl, ?_⟩
    cases k with
    | int i =>
      refine iteT ⟨_, rfl, _, _, rfl, rfl, _, rfl, ?_⟩
      have q' : Q (.bl (decide (0 ≤ i) && decide (i < n))) H := q
      by_cases c : 0 ≤ i
      · rw [decide_eq_true c] at q' ⊢
        exact iteT ⟨_, rfl, _, _, rfl, rfl, q'⟩
      · rw [decide_eq_false c] at q' ⊢
        exact iteF q'
    | bl b => exact iteF q
    | non => exact iteF q
    | str x => exact iteF q
    | lst e => exact iteF q
    | tup e => exact iteF q
theorem ok_is_sign {f : Addr} {fd : FuncData} (F : C8.Fun K "is_sign" "is_sign" s_is_sign f fd) (T : Txt K mg) : FnOk P w K mg base C8.CX0 1 f fd ["sign"] sp_is_sign := by
  refine C8.fn0 F sc_is_sign (fun vs H Q E h => ?_) (fun cdv A outer s H vs Q E hr h => ?_)
  · obtain ⟨c, rfl, _⟩ := h; rfl
  · obtain ⟨c, rfl, q⟩ := h
    refine ⟨_, (pss_one (ps_ret (pe_chain op_le_str op_le_str pe_str (pv 0) pe_str))), ?_⟩
    refine ⟨_, rfl, S [32], S [c], rfl, rfl, _, rfl, ?_⟩
    rw [lt_cps]
    by_cases h1 : c < 32
    · rw [decide_eq_true h1]
      refine iteF ?_
      rw [decide_eq_false (by omega)] at q; exact q
    · rw [decide_eq_false h1]
      refine iteT ⟨S [c], S [126], rfl, rfl, ?_⟩
      rw [lt_cps]
      have e : (!decide (126 < c)) = decide (32 ≤ c ∧ c ≤ 126) := by
        by_cases h2 : 126 < c
        · rw [decide_eq_true h2, decide_eq_false (by omega)]; rfl
        · rw [decide_eq_false h2, decide_eq_true (by omega)]; rfl
      rw [e]; exact q
theorem ok_is_alphabet {f : Addr} {fd : FuncData} (F : C8.Fun K "is_alphabet" "is_alphabet" s_is_alphabet f fd) (T : Txt K mg) (c_is_sign : C8.Cal P w K mg base 1 "is_sign" sp_is_sign []) : FnOk P w K mg base C8.CX0 2 f fd ["text"] sp_is_alphabet := by
  refine C8.fn0 F sc_is_alphabet (fun vs H Q E h => ?_) (fun cdv A outer s H vs Q E hr h => ?_)
  · obtain ⟨l, rfl, _⟩ := h; rfl
  · obtain ⟨l, rfl, hl, q⟩ := h
    refine ⟨_, (pss_cons (ps_set (i := 1) sc_is_alphabet.nd rfl (Or.inl rfl) (pe_callB (cr_all rfl) (by rfl) T.b_all (by decide +kernel) (pa_cons (pe_lc (own := [("first", 2), ("second", 3)]) (g := gTup K 2 (gCons (gName 2) (gCons (gName 3) (gNil)))) (tt := tYes) rfl sc_is_alphabet.nd (pi_zipT2 rfl T.b_zip (pa_cons (pv 0) (pa_cons (pe_slice sl_str (pv 0) (po_some pe_int) po_none) pa_nil))) (blkOk_by (N := N_is_alphabet) (sc := C8.fnScope s_is_alphabet) (by decide +kernel)) (fun _ _ _ _ _ => (pg_tup rfl (pgs_cons (pg_name (i := 2) sc_is_alphabet.nd rfl (Or.inl rfl)) (pgs_cons (pg_name (i := 3) sc_is_alphabet.nd rfl (Or.inl rfl)) pgs_nil)))) (fun _ _ _ _ _ => pts_nil) (fun _ _ _ _ _ => (pe_cmpR op_lt_str (pv 2) (pv 3) (nomark _)))) pa_nil)))
      (pss_one (ps_ret (pe_and (pe_chain op_le op_le pe_int (pe_callB call_len_str (by rfl) T.b_len PySem.boot_len (pa_cons (pv 0) pa_nil)) (C8.pe_gc rfl T.c_MOST_LETTERS)) (pe_and (pv 1) (pe_one (pe_callB (cr_all rfl) (by rfl) T.b_all (by decide +kernel) (pa_cons (pe_lc (own := [("sign", 4)]) (g := gName 4) (tt := tYes) rfl sc_is_alphabet.nd (pi_str (pv 0)) (blkOk_by (N := N_is_alphabet) (sc := C8.fnScope s_is_alphabet) (by decide +kernel)) (fun _ _ _ _ _ => (pg_name (i := 4) sc_is_alphabet.nd rfl (Or.inl rfl))) (fun _ _ _ _ _ => pts_nil) (fun _ _ _ _ _ => (C8.pe_c c_is_sign hr (by first | decide | omega) (by rfl) (pa_cons (pv 4) pa_nil)))) pa_nil)))))))), ?_⟩
    refine ⟨_, rfl, _, rfl, 1, rfl, S l, rfl, by rw [S_len]; exact small_le hl, ?_⟩
    have e1 : cutS (S l) (some 1) none = S (l.drop 1) := cutS_from l 1
    rw [e1]
    refine ⟨_, _, _, _, _, _, _, _, rfl, src_text H l, src_text H (l.drop 1), fun D hD => lc_it walkG (fun i H' => Same H H' ∧ H' D = some (.lst (((ascL l).take i).map V.bl))) ⟨same_new hD, upd_same⟩ (fun _ _ _ _ => ⟨trivial, trivial⟩) ?_ ?_⟩
    · rintro i x H1 H2 hi ⟨s1, hd⟩ ⟨Tt, xs, rfl, hT, rfl, v1, v2, ⟨c1, h1, rfl⟩, ⟨c2, h2, rfl⟩, rfl⟩
      refine ⟨Tt, _, rfl, SqT.of upd_same, rfl, _, _, rfl, _, _, rfl, rfl, rfl, _, rfl, _, rfl, S [c1], S [c2], rfl, rfl, ?_⟩
      rw [S_get] at h1 h2
      have hz : (l.zip (l.drop 1))[i]? = some (c1, c2) := by
        rw [List.getElem?_zip_eq_some]; exact ⟨h1, h2⟩
      have hb : (ascL l)[i]? = some (decide (c1 < c2)) := by rw [ascL, List.getElem?_map, hz]; rfl
      have hne : D ≠ Tt := ne_of_none hd hT
      refine ⟨_, (upd_ne hne).trans hd, ?_, ?_, ?_⟩
      · rw [List.length_map, List.length_take]
        exact small1000 (by have := List.length_drop (i := 1) (l := l); omega)
      · exact Same.put (Same.new s1 hT) hD
      · rw [upd_same, lt_cps, map_take_succ hb]
    · rintro H1 ⟨s1, hd⟩
      have hn : min l.length (l.drop 1).length = (ascL l).length := by rw [ascL, List.length_map, List.length_zip]
      rw [hn, List.take_length] at hd
      refine ⟨D, _, rfl, SqL.of hd, ?_⟩
      have q2 := q
      refine ⟨_, rfl, S l, rfl, by rw [S_len]; exact small_le hl, 1, _, rfl, rfl, _, rfl, ?_⟩
      rw [S_len]
      by_cases c1 : 1 ≤ l.length ∧ l.length ≤ 30
      · rw [decide_eq_true (by omega : (1 : Int) ≤ (l.length : Int))]
        refine iteT ⟨_, _, rfl, rfl, _, rfl, ?_⟩
        rw [decide_eq_true (by omega : (l.length : Int) ≤ 30)]
        refine iteT ⟨_, rfl, _, rfl, ?_⟩
        have q3 : ∀ H', Same H H' → Q (.bl ((ascL l).all id && (l.map fun c => decide (32 ≤ c ∧ c ≤ 126)).all id)) H' := fun H' sm => by
          have := q H' sm
          rw [alOk, decide_eq_true c1] at this
          exact this
        cases hb : (ascL l).all id with
        | false =>
          rw [hb] at q3
          exact iteF (q3 _ s1)
        | true =>
          rw [hb] at q3
          refine iteT ?_
          refine ⟨_, rfl, S l, rfl, fun D2 hD2 => lc_it walk_str (fun i H' => Same H H' ∧ H' D2 = some (.lst (((l.map fun c => decide (32 ≤ c ∧ c ≤ 126)).take i).map V.bl))) ⟨Same.new s1 hD2, upd_same⟩ (fun _ _ _ _ => trivial) ?_ ?_⟩
          · rintro i x H2 H3 hi ⟨s2, hd2⟩ ⟨rfl, c, hc, rfl⟩
            rw [S_get] at hc
            refine ⟨rfl, _, rfl, c, rfl, ?_⟩
            have hb2 : (l.map fun c => decide (32 ≤ c ∧ c ≤ 126))[i]? = some (decide (32 ≤ c ∧ c ≤ 126)) := by rw [List.getElem?_map, hc]; rfl
            refine ⟨_, hd2, ?_, Same.put s2 (s1.free hD2), ?_⟩
            · rw [List.length_map, List.length_take, List.length_map]
              exact small1000 (by omega)
            · rw [upd_same, map_take_succ hb2]
          · rintro H2 ⟨s2, hd2⟩
            have hn2 : (S l).cps.size = (l.map fun c => decide (32 ≤ c ∧ c ≤ 126)).length := by rw [S_size, List.length_map]
            rw [hn2, List.take_length] at hd2
            exact ⟨D2, _, rfl, SqL.of hd2, q3 H2 s2⟩
      · have q3 : ∀ H', Same H H' → Q (.bl false) H' := fun H' sm => by
          have := q H' sm
          rw [alOk, decide_eq_false c1] at this
          exact this
        by_cases c2 : 1 ≤ l.length
        · rw [decide_eq_true (by omega : (1 : Int) ≤ (l.length : Int))]
          refine iteT ⟨_, _, rfl, rfl, _, rfl, ?_⟩
          rw [decide_eq_false (by omega : ¬ (l.length : Int) ≤ 30)]
          exact iteF (q3 _ s1)
        · rw [decide_eq_false (by omega : ¬ (1 : Int) ≤ (l.length : Int))]
          exact iteF ⟨_, rfl, iteF (q3 _ s1)⟩
theorem ok_check_alphabet {f : Addr} {fd : FuncData} (F : C8.Fun K "check_alphabet" "check_alphabet" s_check_alphabet f fd) (T : Txt K mg) (c_is_alphabet : C8.Cal P w K mg base 2 "is_alphabet" sp_is_alphabet []) : FnOk P w K mg base C8.CX0 3 f fd ["text"] sp_check_alphabet := by
  refine C8.fn0 F sc_check_alphabet (fun vs H Q E h => ?_) (fun cdv A outer s H vs Q E hr h => ?_)
  · obtain ⟨l, rfl, _⟩ := h; rfl
  · obtain ⟨l, rfl, hl, hok, q⟩ := h
    refine ⟨_, (pss_one (ps_if (pt_not (pt_val (C8.pe_c c_is_alphabet hr (by first | decide | omega) (by rfl) (pa_cons (pv 0) pa_nil)))) (pss_one ps_never) pss_nil)), ?_⟩
    refine ⟨_, rfl, l, rfl, hl, fun H' s1 => ⟨_, rfl, ?_⟩⟩
    rw [hok]
    exact iteF (q H' s1)
end
end RJ
end

section
set_option maxRecDepth 100000
set_option maxHeartbeats 2000000
namespace RJ
open PySem PySem.Spec PyProof.Rows L2
abbrev s_letter_row : Stmt := top 21
abbrev N_letter_row : List Str := ["alphabet", "text", "row", "at", "sign", "piece"]
theorem sc_letter_row : FnScope N_letter_row ["alphabet", "text"] (C8.fnScope s_letter_row) := C8.fnScope_by (by decide +kernel)
abbrev s_join_neighbors : Stmt := top 22
abbrev N_join_neighbors : List Str := ["row", "pair", "piece", "left", "right", "joined", "following"]
theorem sc_join_neighbors : FnScope N_join_neighbors ["row", "pair", "piece"] (C8.fnScope s_join_neighbors) := C8.fnScope_by (by decide +kernel)
abbrev s_lowest_join : Stmt := top 23
abbrev N_lowest_join : List Str := ["ranks", "row", "pair"]
theorem sc_lowest_join : FnScope N_lowest_join ["ranks", "row"] (C8.fnScope s_lowest_join) := C8.fnScope_by (by decide +kernel)
abbrev s_join_down : Stmt := top 24
abbrev N_join_down : List Str := ["ranks", "letters", "row", "lowest", "rank", "pair"]
theorem sc_join_down : FnScope N_join_down ["ranks", "letters", "row"] (C8.fnScope s_join_down) := C8.fnScope_by (by decide +kernel)
/-- a list or a tuple walked -/
def ItSeq (K : PySem.W.Frag) (b : Bool) (a : Addr) : It := match b with | true => Itl K a | false => Itt K a
def iSeq (K : PySem.W.Frag) (tl : TE) : TI := fun σ H R => tl σ H fun x H1 => ∃ b a xs, x = .ref a ∧ SeqAt b H1 a xs ∧ R (ItSeq K b a) H1
theorem walk_seq {K : PySem.W.Frag} {b : Bool} {a : Addr} {xs : List V} : Walk (ItSeq K b a) xs.length (fun H => SeqAt b H a xs) (YAt xs) := by
  cases b with
  | true => exact walk_list.mono (fun H h => SqL.of h) fun _ _ _ _ _ _ y => y
  | false => exact walk_tup.mono (fun H h => SqT.of h) fun _ _ _ _ _ _ y => y
theorem pi_seq {X : Cx} {tg l : Expr} {tl : TE} (hl : PE X l tl) : PI X tg l (iSeq X.K tl) := by
  refine ⟨fun pins s σ H R I h => ?_⟩
  refine thn (hl.run pins s σ H _ I h) fun v s1 ⟨x, H1, I1, r1, q1⟩ => ?_
  obtain ⟨b, a, xs, e, hq, q⟩ := q1
  subst e
  cases r1
  cases b with
  | true =>
    obtain ⟨its, rv, p, hz⟩ := I1.list (SqL.of hq)
    refine wpAny_pyIter_list p.isList ?_
    refine ⟨s1.heap.objs.size, [s1.heap.objs.size], _, _, H1, rfl, I1.kept (t' := s1.toks) fun b o e => Heap.get?_push_of_some _ e, turn_list a _, ⟨_, Heap.get?_push_size _ rfl, rfl, rfl⟩, fun b hb => ?_, q⟩
    have e : b = s1.heap.objs.size := by simpa using hb
    subst e
    exact I1.fpOk (Nat.le_refl _) (I1.hok.fresh (Nat.le_refl _))
  | false =>
    obtain ⟨its, rv, p, hz⟩ := I1.tuple (SqT.of hq)
    refine wpAny_pyIter_tuple (show s1.heap.IsTuple a its.toArray from p) ?_
    refine ⟨s1.heap.objs.size, [s1.heap.objs.size], _, _, H1, rfl, I1.kept (t' := s1.toks) fun b o e => Heap.get?_push_of_some _ e, turn_tuple a _, ⟨_, Heap.get?_push_size _ rfl, rfl, rfl⟩, fun b hb => ?_, q⟩
    have e : b = s1.heap.objs.size := by simpa using hb
    subst e
    exact I1.fpOk (Nat.le_refl _) (I1.hok.fresh (Nat.le_refl _))
/-- a slice of a list or a tuple -/
def rSlSeq (K : PySem.W.Frag) : V → Option Int → Option Int → Hp → VK → Prop := fun x lo hi H Q => rSlL K x lo hi H Q ∨ rSlA K x lo hi H Q
theorem sl_seq {X : Cx} : SlR X (rSlSeq X.K) := SlR.or sl_list sl_tupA
/-! ### signs and their places -/
theorem at_one (al : List Nat) (c i : Nat) : PySem.StrLaws.At (S al) ⟨#[c]⟩ (S al).length i ↔ al[i]? = some c := by
  have h := PySem.StrLaws.subAt_one (S al) c i
  exact h
theorem find_sign {al : List Nat} {c : Nat} (h : c ∈ al) : ∃ r, Builtin.Str.occurrences (S al) ⟨#[c]⟩ 0 (S al).length 1 = al.idxOf c :: r := by
  rcases PySem.StrLaws.occ_head (S al) ⟨#[c]⟩ 1 (Nat.le_refl _) with ⟨_, hn⟩ | ⟨i, r, e, hi, hn⟩
  · obtain ⟨i, hi⟩ := List.mem_iff_getElem?.mp h
    exact absurd ((at_one al c i).mpr hi) (hn i)
  · refine ⟨r, ?_⟩
    rw [e]
    have hi' := (at_one al c i).mp hi
    obtain ⟨hil, hie⟩ := List.getElem?_eq_some_iff.mp hi'
    have key : al.idxOf c = i := by
      have h1 : al.idxOf c < al.length := List.idxOf_lt_length_iff.mpr h
      have h2 : al[al.idxOf c] = c := List.getElem_idxOf h1
      rcases Nat.lt_trichotomy (al.idxOf c) i with q | q | q
      · exact absurd ((at_one al c _).mpr (by rw [List.getElem?_eq_getElem h1, h2])) (hn _ q)
      · exact q
      · exact absurd hie (by
          have := List.not_of_lt_findIdx (p := (· == c)) (xs := al) (i := i) (by exact q)
          intro z
          simp [z] at this)
    rw [key]
def sp_letter_row : Sp := fun vs H Q _ => ∃ al t : List Nat, vs = [.str (S al), .str (S t)] ∧ (∀ c ∈ t, c ∈ al) ∧ t.length ≤ 1000 ∧ ∀ H' p, Same H H' → H p = none → H' p = some (.lst (iv (lets al t))) → Q (.ref p) H'
def sp_join_neighbors : Sp := fun vs H Q _ => ∃ (b : Bool) (a p : Addr) (row : List Nat) (l r m : Nat), vs = [.ref a, .ref p, .int (m : Int)] ∧ RowAt b H a row ∧ H p = some (.tup [.int (l : Int), .int (r : Int)]) ∧ m ≠ l ∧ row.length ≤ 1000 ∧
  ∀ H' q, Same H H' → H q = none → H' q = some (.lst (iv (pass l r m row))) → Q (.ref q) H'
/-- the pass as the program does it -/
def stepJ (l r m : Nat) (acc : List Nat) (x : Nat) : List Nat := if acc.getLast? = some l ∧ x = r then acc.dropLast ++ [m] else acc ++ [x]
theorem pass_m {l r m : Nat} (hm : m ≠ l) (t : List Nat) : pass l r m (m :: t) = m :: pass l r m t := by
  cases t with
  | nil => rfl
  | cons c t => rw [pass, if_neg fun q => hm q.1]
theorem stepJ_pass {l r m : Nat} (hm : m ≠ l) : ∀ (t : List Nat) (acc : List Nat) (a : Nat), t.foldl (stepJ l r m) (acc ++ [a]) = acc ++ pass l r m (a :: t)
  | [], acc, a => rfl
  | b :: t, acc, a => by
    rw [List.foldl_cons, pass]
    have hl : (acc ++ [a]).getLast? = some a := by rw [List.getLast?_append]; rfl
    by_cases c : a = l ∧ b = r
    · rw [if_pos c, stepJ, if_pos ⟨by rw [hl, c.1], c.2⟩, List.dropLast_concat, stepJ_pass hm t acc m, pass_m hm]
    · rw [if_neg c, stepJ, if_neg fun q => c ⟨Option.some.inj (hl.symm.trans q.1), q.2⟩, stepJ_pass hm t (acc ++ [a]) b, List.append_assoc]; rfl
theorem stepJ_all {l r m : Nat} (hm : m ≠ l) (row : List Nat) : row.foldl (stepJ l r m) [] = pass l r m row := by
  cases row with
  | nil => rfl
  | cons a t => exact stepJ_pass hm t [] a
theorem foldl_take_succ {α β : Type} {f : β → α → β} {l : List α} {i : Nat} {x : α} (h : l[i]? = some x) (b : β) : (l.take (i + 1)).foldl f b = f ((l.take i).foldl f b) x := by
  rw [List.take_add_one, h, List.foldl_append]; rfl
theorem stepJ_len (l r m : Nat) (acc : List Nat) (x : Nat) : (stepJ l r m acc x).length ≤ acc.length + 1 := by
  unfold stepJ
  split
  · rw [List.length_append, List.length_dropLast]; simp only [List.length_cons, List.length_nil]; omega
  · rw [List.length_append]; exact Nat.le_refl _
theorem foldJ_len (l r m : Nat) : ∀ (row acc : List Nat), (row.foldl (stepJ l r m) acc).length ≤ acc.length + row.length
  | [], acc => Nat.le_refl _
  | x :: row, acc => by
    rw [List.foldl_cons]
    have h1 := foldJ_len l r m row (stepJ l r m acc x)
    have h2 := stepJ_len l r m acc x
    rw [List.length_cons]; omega
theorem atI_neg1 {xs : List V} {v : V} (h : xs.getLast? = some v) : atI xs (-1) = some v := by
  obtain ⟨ys, rfl⟩ := List.getLast?_eq_some_iff.mp h
  exact atI_last ys v
theorem iv_last {l : List Nat} {n : Nat} (h : l.getLast? = some n) : (iv l).getLast? = some (V.int (n : Int)) := by
  obtain ⟨ys, rfl⟩ := List.getLast?_eq_some_iff.mp h
  rw [← iv_snoc, List.getLast?_append]; rfl
theorem ixN_neg1 {n : Nat} (h : 0 < n) : ixN n (-1) = some (n - 1) := by
  unfold ixN
  rw [if_neg (by omega), if_pos (by omega)]
  exact congrArg some (by omega)
theorem iv_set_last {l : List Nat} (m : Nat) (h : l ≠ []) : (iv l).set (l.length - 1) (V.int (m : Int)) = iv (l.dropLast ++ [m]) := by
  obtain ⟨ys, y, rfl⟩ : ∃ ys y, l = ys ++ [y] := ⟨l.dropLast, l.getLast h, (List.dropLast_concat_getLast h).symm⟩
  rw [List.dropLast_concat, ← iv_snoc, ← iv_snoc]
  have e : (ys ++ [y]).length - 1 = (iv ys).length := by rw [iv_len, List.length_append]; simp
  rw [e, List.set_append_right _ _ (Nat.le_refl _), Nat.sub_self]; rfl
theorem nat_eq_int (a b : Nat) : decide ((V.int (a : Int)) = V.int (b : Int)) = decide (a = b) := by
  apply decide_eq_decide.mpr
  constructor
  · intro h; injection h with h; omega
  · intro h; rw [h]
section
variable {P : Program} {w : World} {K : PySem.W.Frag} {mg : Str → Option Value} {base : Heap}
theorem ok_letter_row {f : Addr} {fd : FuncData} (F : C8.Fun K "letter_row" "letter_row" s_letter_row f fd) (T : Txt K mg) : FnOk P w K mg base C8.CX0 1 f fd ["alphabet", "text"] sp_letter_row := by
  refine C8.fn0 F sc_letter_row (fun vs H Q E h => ?_) (fun cdv A outer s H vs Q E hr h => ?_)
  · obtain ⟨al, t, rfl, _⟩ := h; rfl
  · obtain ⟨al, t, rfl, hm, hl, q⟩ := h
    refine ⟨_, (pss_cons (ps_set (i := 2) sc_letter_row.nd rfl (Or.inl rfl) (pe_lst pa_nil))
      (pss_cons (ps_for PassesOwn.never rfl (pi_enumG rfl T.b_enumerate (pa_cons (pv 1) pa_nil)) (pg_tup rfl (pgs_cons (pg_name (i := 3) sc_letter_row.nd rfl (Or.inl rfl)) (pgs_cons (pg_name (i := 4) sc_letter_row.nd rfl (Or.inl rfl)) pgs_nil))) (pss_cons (ps_set (i := 5) sc_letter_row.nd rfl (Or.inl rfl) (pe_bm PySem.F.plainAttrs_str PySem.F.slot_str_find PySem.F.type_str_find mt_find (pv 0) (pa_cons (pv 4) pa_nil)))
      (pss_cons (ps_if (pt_cmpR op_lt (pv 5) pe_int (nomark _)) (pss_one ps_never) pss_nil)
      (pss_one (ps_expr (pe_bm PySem.F.plainAttrs_list PySem.F.slot_list_append PySem.F.type_list_append mt_append (pv 2) (pa_cons (pv 5) pa_nil)))))))
      (pss_one (ps_ret (pv 2))))), ?_⟩
    refine ⟨by show (0 : Nat) ≤ sizeLine; exact Nat.zero_le _, fun p hp => ?_⟩
    refine ⟨_, rfl, _, _, _, _, rfl, src_text _ t, for_it walkG (fun i σ H' => ∃ v3 v4 v5 : Option V, σ = [some (.str (S al)), some (.str (S t)), some (.ref p), v3, v4, v5] ∧ Same H H' ∧ H' p = some (.lst (iv (lets al (t.take i))))) ⟨none, none, none, rfl, same_new hp, upd_same⟩ (fun _ _ _ _ _ => trivial) ?_ ?_⟩
    · rintro i x σ H1 H2 hi ⟨v3, v4, v5, rfl, s1, hd⟩ ⟨Tt, xs, rfl, hT, rfl, v, ⟨c, hc, rfl⟩, rfl⟩
      rw [S_get] at hc
      obtain ⟨r, hfind⟩ := find_sign (hm c (List.mem_of_getElem? hc))
      refine ⟨Tt, _, rfl, SqT.of upd_same, rfl, _, _, rfl, _, _, rfl, rfl, ?_⟩
      refine ⟨_, rfl, rfl, _, rfl, S al, ⟨#[c]⟩, rfl, rfl, ?_⟩
      have hf : Txt.find (S al) ⟨#[c]⟩ = (al.idxOf c : Int) := by unfold Txt.find; rw [hfind]
      rw [hf]
      refine ⟨_, rfl, _, _, rfl, rfl, _, rfl, ?_⟩
      rw [decide_eq_false (by omega : ¬ (al.idxOf c : Int) < 0)]
      refine iteF ?_
      have hne : p ≠ Tt := ne_of_none hd hT
      have hd2 : upd H1 Tt (.tup [.int (i : Int), .str ⟨#[c]⟩]) p = some (.lst (iv (lets al (t.take i)))) := (upd_ne hne).trans hd
      refine ⟨_, rfl, .inl ⟨rfl, _, SqL.of hd2⟩, _, rfl, p, _, _, rfl, rfl, hd2, ?_, ?_⟩
      · rw [iv_len, lets, List.length_map, List.length_take]
        exact small1000 (by omega)
      · refine ⟨_, _, _, rfl, Same.put (Same.new s1 hT) hp, ?_⟩
        rw [upd_same, iv_snoc, lets, lets, map_take_succ hc]
    · rintro σ H1 ⟨v3, v4, v5, rfl, s1, hd⟩
      rw [List.take_length] at hd
      exact ⟨_, rfl, q H1 p s1 hp hd⟩
theorem ok_join_neighbors {f : Addr} {fd : FuncData} (F : C8.Fun K "join_neighbors" "join_neighbors" s_join_neighbors f fd) (T : Txt K mg) : FnOk P w K mg base C8.CX0 1 f fd ["row", "pair", "piece"] sp_join_neighbors := by
  refine C8.fn0 F sc_join_neighbors (fun vs H Q E h => ?_) (fun cdv A outer s H vs Q E hr h => ?_)
  · obtain ⟨b, a, p, row, l, r, m, rfl, _⟩ := h; rfl
  · obtain ⟨b, a, p, row, l, r, m, rfl, hrow, hpair, hm, hl, q⟩ := h
    refine ⟨_, (pss_cons (ps_asg (pv 1) (pg_tup rfl (pgs_cons (pg_name (i := 3) sc_join_neighbors.nd rfl (Or.inl rfl)) (pgs_cons (pg_name (i := 4) sc_join_neighbors.nd rfl (Or.inl rfl)) pgs_nil))))
      (pss_cons (ps_set (i := 5) sc_join_neighbors.nd rfl (Or.inl rfl) (pe_lst pa_nil))
      (pss_cons (ps_for PassesOwn.never rfl (pi_seq (pv 0)) (pg_name (i := 6) sc_join_neighbors.nd rfl (Or.inl rfl)) (pss_one (ps_if (PW.pt (pw_and (pt_truth (pv 5) (fun _ => rfl)) (pw_and (pt_cmpR op_eq (pe_ix ix_list (pv 5) (pe_un un_neg pe_int) (fun _ _ => rfl)) (pv 3) (nomark _)) (pw_and1 (pt_cmpR op_eq (pv 6) (pv 4) (nomark _)))))) (pss_one (ps_asg (pv 2) (pg_sub (pv 5) (pe_un un_neg pe_int) set_list))) (pss_one (ps_expr (pe_bm PySem.F.plainAttrs_list PySem.F.slot_list_append PySem.F.type_list_append mt_append (pv 5) (pa_cons (pv 6) pa_nil)))))))
      (pss_one (ps_ret (pv 5)))))), ?_⟩
    refine ⟨_, rfl, p, _, rfl, SqT.of hpair, rfl, _, _, rfl, _, _, rfl, rfl, ?_⟩
    refine ⟨by show (0 : Nat) ≤ sizeLine; exact Nat.zero_le _, fun J hJ => ?_⟩
    refine ⟨_, rfl, b, a, iv row, rfl, hrow.same (same_new hJ), for_it walk_seq (fun i σ H' => ∃ v6 : Option V, σ = [some (.ref a), some (.ref p), some (.int (m : Int)), some (.int (l : Int)), some (.int (r : Int)), some (.ref J), v6] ∧ Same H H' ∧ H' J = some (.lst (iv ((row.take i).foldl (stepJ l r m) []))))
        ⟨none, rfl, same_new hJ, upd_same⟩ (fun _ _ _ _ ⟨_, _, s1, _⟩ => hrow.same s1) ?_ ?_⟩
    · rintro i x σ H1 H2 hi ⟨v6, rfl, s1, hd⟩ ⟨rfl, hx⟩
      obtain ⟨n, hn, rfl⟩ := iv_get hx
      have hfold := foldl_take_succ (f := stepJ l r m) hn []
      have hlen : ((row.take i).foldl (stepJ l r m) []).length < sizeLine := small1000 (by
        have h1 := foldJ_len l r m (row.take i) []
        rw [List.length_take] at h1
        simp only [List.length_nil] at h1; omega)
      generalize hacc : (row.take i).foldl (stepJ l r m) [] = acc at hd hfold hlen
      refine ⟨_, rfl, _, .inl ⟨_, SqL.of hd, rfl⟩, ?_⟩
      have fin : ∀ (acc' : List Nat), acc' = stepJ l r m acc n → ∃ v6 : Option V, [some (V.ref a), some (.ref p), some (.int (m : Int)), some (.int (l : Int)), some (.int (r : Int)), some (.ref J), some (.int (n : Int))] = [some (V.ref a), some (.ref p), some (.int (m : Int)), some (.int (l : Int)), some (.int (r : Int)), some (.ref J), v6] ∧ Same H (upd H2 J (.lst (iv acc'))) ∧ (upd H2 J (.lst (iv acc'))) J = some (.lst (iv ((row.take (i + 1)).foldl (stepJ l r m) []))) := fun acc' e =>
        ⟨_, rfl, Same.put s1 hJ, by rw [upd_same, hfold, e]⟩
      cases hq : acc.getLast? with
      | none =>
        have e : acc = [] := List.getLast?_eq_none_iff.mp hq
        have hc : ¬ (acc.getLast? = some l ∧ n = r) := by rw [hq]; rintro ⟨q, _⟩; cases q
        have e2 : (!(iv acc).isEmpty) = false := by rw [e]; rfl
        rw [e2]
        refine iteF (iteF ?_)
        refine ⟨_, rfl, .inl ⟨rfl, _, SqL.of hd⟩, _, rfl, J, _, _, rfl, rfl, hd, by rw [iv_len]; exact hlen, ?_⟩
        rw [iv_snoc]
        exact fin _ (by rw [stepJ, if_neg hc])
      | some z =>
        have e2 : (!(iv acc).isEmpty) = true := by
          obtain ⟨ys, e⟩ := List.getLast?_eq_some_iff.mp hq
          rw [e, ← iv_snoc]; simp
        rw [e2]
        refine iteT ⟨_, rfl, _, rfl, J, iv acc, _, _, rfl, rfl, SqL.of hd, atI_neg1 (iv_last hq), _, rfl, rfl, _, rfl, ?_⟩
        rw [nat_eq_int]
        by_cases c1 : z = l
        · rw [decide_eq_true c1]
          refine iteT ⟨_, rfl, _, rfl, rfl, _, rfl, ?_⟩
          rw [nat_eq_int]
          by_cases c2 : n = r
          · rw [decide_eq_true c2]
            have hne : acc ≠ [] := by intro e; rw [e] at hq; cases hq
            have hpos : 0 < acc.length := List.length_pos_iff.mpr hne
            refine iteT ⟨_, rfl, _, rfl, _, rfl, J, iv acc, _, acc.length - 1, rfl, rfl, hd, by rw [iv_len]; exact ixN_neg1 hpos, ?_⟩
            rw [iv_set_last m hne]
            exact fin _ (by rw [stepJ, if_pos ⟨by rw [hq, c1], c2⟩])
          · rw [decide_eq_false c2]
            have hc : ¬ (acc.getLast? = some l ∧ n = r) := fun q => c2 q.2
            refine iteF ?_
            refine ⟨_, rfl, .inl ⟨rfl, _, SqL.of hd⟩, _, rfl, J, _, _, rfl, rfl, hd, by rw [iv_len]; exact hlen, ?_⟩
            rw [iv_snoc]
            exact fin _ (by rw [stepJ, if_neg hc])
        · rw [decide_eq_false c1]
          have hc : ¬ (acc.getLast? = some l ∧ n = r) := by rw [hq]; rintro ⟨q, _⟩; exact c1 (Option.some.inj q)
          refine iteF (iteF ?_)
          refine ⟨_, rfl, .inl ⟨rfl, _, SqL.of hd⟩, _, rfl, J, _, _, rfl, rfl, hd, by rw [iv_len]; exact hlen, ?_⟩
          rw [iv_snoc]
          exact fin _ (by rw [stepJ, if_neg hc])
    · rintro σ H1 ⟨v6, rfl, s1, hd⟩
      rw [iv_len, List.take_length, stepJ_all hm] at hd
      exact ⟨_, rfl, q H1 J s1 hJ hd⟩
end
end RJ
end

section
set_option maxRecDepth 100000
set_option maxHeartbeats 2000000
namespace RJ
open PySem PySem.Spec PyProof.Rows L2
open PySem.W (minD AlikeAll alike alikeAll dataLt)
/-! ### the dict of ranks -/
def pkey (p : Nat × Nat) : List Key := [.inl (p.1 : Int), .inl (p.2 : Int)]
theorem pkey_inj {p q : Nat × Nat} (h : pkey p = pkey q) : p = q := by
  obtain ⟨a, b⟩ := p
  obtain ⟨c, d⟩ := q
  have h' : ([.inl (a : Int), .inl (b : Int)] : List Key) = [.inl (c : Int), .inl (d : Int)] := h
  injection h' with h1 h2
  injection h2 with h2 h3
  injection h1 with h1
  injection h2 with h2
  have e1 : a = c := by omega
  have e2 : b = d := by omega
  rw [e1, e2]
def kvsF : Nat → List (Nat × Nat) → List (List Key × V)
  | _, [] => []
  | k, p :: ps => (pkey p, V.int (k : Int)) :: kvsF (k + 1) ps
theorem kvsF_len : ∀ (k : Nat) (ps : List (Nat × Nat)), (kvsF k ps).length = ps.length
  | _, [] => rfl
  | k, p :: ps => congrArg (· + 1) (kvsF_len (k + 1) ps)
theorem kvsF_snoc : ∀ (k : Nat) (ps : List (Nat × Nat)) (p : Nat × Nat), kvsF k (ps ++ [p]) = kvsF k ps ++ [(pkey p, V.int ((k + ps.length : Nat) : Int))]
  | k, [], p => rfl
  | k, q :: ps, p => by
    show (pkey q, V.int (k : Int)) :: kvsF (k + 1) (ps ++ [p]) = (pkey q, V.int (k : Int)) :: (kvsF (k + 1) ps ++ _)
    rw [kvsF_snoc (k + 1) ps p, show k + 1 + ps.length = k + (q :: ps).length by rw [List.length_cons]; omega]
theorem idxOf_ne {p q : Nat × Nat} (ps : List (Nat × Nat)) (h : ¬ q = p) : (q :: ps).idxOf p = ps.idxOf p + 1 := by
  rw [List.idxOf_cons]
  have : (q == p) = false := beq_eq_false_iff_ne.mpr h
  rw [this]; rfl
theorem kvsF_get (p : Nat × Nat) : ∀ (k : Nat) (ps : List (Nat × Nat)), valV (kvsF k ps) (pkey p) = if p ∈ ps then some (V.int ((k + ps.idxOf p : Nat) : Int)) else none
  | k, [] => by rw [if_neg List.not_mem_nil]; exact valV_nil
  | k, q :: ps => by
    show valV ((pkey q, V.int (k : Int)) :: kvsF (k + 1) ps) (pkey p) = _
    by_cases h : q = p
    · subst h
      rw [valV_pos (p := (pkey q, V.int (k : Int))) rfl, if_pos (List.mem_cons_self ..), List.idxOf_cons_self]; rfl
    · rw [valV_neg (p := (pkey q, V.int (k : Int))) fun z => h (pkey_inj z), kvsF_get p (k + 1) ps]
      by_cases hm : p ∈ ps
      · have e : List.idxOf p (q :: ps) = ps.idxOf p + 1 := idxOf_ne _ h
        rw [if_pos hm, if_pos (List.mem_cons_of_mem _ hm), e, show k + 1 + ps.idxOf p = k + (ps.idxOf p + 1) by omega]
      · rw [if_neg hm, if_neg fun z => by
          rcases List.mem_cons.mp z with e | e
          · exact h e.symm
          · exact hm e]
theorem idxOf_get {p : Nat × Nat} {ps : List (Nat × Nat)} (h : p ∈ ps) : ps[ps.idxOf p]? = some p := by
  have h1 : ps.idxOf p < ps.length := List.idxOf_lt_length_iff.mpr h
  rw [List.getElem?_eq_getElem h1, List.getElem_idxOf h1]
theorem idxOf_le {p : Nat × Nat} : ∀ {ps : List (Nat × Nat)} {j : Nat}, ps[j]? = some p → ps.idxOf p ≤ j
  | [], j, h => by cases h
  | q :: ps, j, h => by
    by_cases e : q = p
    · subst e; rw [List.idxOf_cons_self]; exact Nat.zero_le _
    · cases j with
      | zero => exact absurd (Option.some.inj h) e
      | succ j =>
        rw [idxOf_ne _ e]
        exact Nat.succ_le_succ (idxOf_le h)
/-! ### tuples stay -/
def SameT (H H' : Hp) : Prop := ∀ b xs, H b = some (.tup xs) → H' b = some (.tup xs)
theorem Same.t {H H' : Hp} (s : Same H H') : SameT H H' := fun b xs e => s b _ e
theorem SameT.put {H : Hp} {p : Addr} {o : HO} {xs : List V} (h : H p = some (.lst xs)) : SameT H (upd H p o) := fun b ys e => by
  rw [upd_ne (ne_of e h (by intro z; cases z))]; exact e
/-- a rank and its pair, as a tuple -/
def TripAt (H : Hp) (v : V) (x : Nat × (Nat × Nat)) : Prop := ∃ t q, v = .ref t ∧ H t = some (.tup [.int (x.1 : Int), .ref q]) ∧ H q = some (.tup [.int (x.2.1 : Int), .int (x.2.2 : Int)])
theorem TripAt.same {H H' : Hp} {v : V} {x : Nat × (Nat × Nat)} (h : TripAt H v x) (s : SameT H H') : TripAt H' v x := by
  obtain ⟨t, q, e, h1, h2⟩ := h
  exact ⟨t, q, e, s _ _ h1, s _ _ h2⟩
theorem Paired.snoc {α β : Type} {F : α → β → Prop} {x : α} {y : β} (r : F x y) : ∀ {xs : List α} {ys : List β}, Paired F xs ys → Paired F (xs ++ [x]) (ys ++ [y])
  | _, _, .nil => .cons r .nil
  | _, _, .cons a t => .cons a (Paired.snoc r t)
theorem Paired.at {α β : Type} {F : α → β → Prop} : ∀ {xs : List α} {ys : List β} {i : Nat} {x : α}, Paired F xs ys → xs[i]? = some x → ∃ y, ys[i]? = some y ∧ F x y
  | _, _, _, _, .nil, e => by simp at e
  | _, _, 0, _, .cons r _, e => by simp at e; subst e; exact ⟨_, rfl, r⟩
  | _, _, i + 1, x, .cons _ t, e => by
    obtain ⟨y, h1, h2⟩ := Paired.at (i := i) (x := x) t (by simpa using e)
    exact ⟨y, by simpa using h1, h2⟩
theorem Paired.at2 {α β : Type} {F : α → β → Prop} : ∀ {xs : List α} {ys : List β} {i : Nat} {y : β}, Paired F xs ys → ys[i]? = some y → ∃ x, xs[i]? = some x ∧ F x y
  | _, _, _, _, .nil, e => by simp at e
  | _, _, 0, _, .cons r _, e => by simp at e; subst e; exact ⟨_, rfl, r⟩
  | _, _, i + 1, y, .cons _ t, e => by
    obtain ⟨x, h1, h2⟩ := Paired.at2 (i := i) (y := y) t (by simpa using e)
    exact ⟨x, by simpa using h1, h2⟩
def tripD (x : Nat × (Nat × Nat)) : PyData := .tuple [.int (x.1 : Int), .tuple [.int (x.2.1 : Int), .int (x.2.2 : Int)]]
theorem tripD_inj {x y : Nat × (Nat × Nat)} (h : tripD x = tripD y) : x = y := by
  obtain ⟨a, b, c⟩ := x
  obtain ⟨a', b', c'⟩ := y
  injection h with h
  injection h with h1 h
  injection h with h2 h3
  injection h2 with h2
  injection h2 with h4 h5
  injection h5 with h5 h6
  injection h1 with h1
  injection h4 with h4
  injection h5 with h5
  have e1 : a = a' := by exact Int.ofNat.inj h1
  have e2 : b = b' := by exact Int.ofNat.inj h4
  have e3 : c = c' := by exact Int.ofNat.inj h5
  rw [e1, e2, e3]
theorem trips_dp {K : PySem.W.Frag} {H : Hp} : ∀ {xs : List V} {ts : List (Nat × (Nat × Nat))}, Paired (TripAt H) xs ts → DpAll K H xs (ts.map tripD)
  | _, _, .nil => .nil
  | _, _, .cons ⟨t, q, e, h1, h2⟩ r => by
    subst e
    exact .cons (.tup (SqT.of h1) (.cons (.int _) (.cons (.tup (SqT.of h2) (.cons (.int _) (.cons (.int _) .nil))) .nil))) (trips_dp r)
theorem trips_alike (ts : List (Nat × (Nat × Nat))) : AlikeAll (ts.map tripD) := by
  refine ⟨fun x hx y hy => ?_, fun x hx e => ?_⟩
  · obtain ⟨a, _, rfl⟩ := List.mem_map.mp hx
    obtain ⟨b, _, rfl⟩ := List.mem_map.mp hy
    simp [tripD, alike, alikeAll]
  · obtain ⟨a, _, rfl⟩ := List.mem_map.mp hx
    cases e
theorem trips_depth : ∀ ts : List (Nat × (Nat × Nat)), PyData.depthAll (ts.map tripD) ≤ 60
  | [] => by simp [PyData.depthAll]
  | t :: ts => by
    have ih := trips_depth ts
    rw [List.map_cons, PyData.depthAll]
    refine Nat.max_le.mpr ⟨?_, ih⟩
    simp [tripD, PyData.depth, PyData.depthAll]
def rkD : PyData → Int
  | .tuple (.int r :: _) => r
  | _ => 0
theorem trip_lt {x y : Nat × (Nat × Nat)} : (dataLt (tripD x) (tripD y) = true → rkD (tripD x) ≤ rkD (tripD y)) ∧ (dataLt (tripD x) (tripD y) = false → rkD (tripD y) ≤ rkD (tripD x)) := by
  have h := PySem.W.dataLt_pair (x := .int (x.1 : Int)) (y := .tuple [.int (x.2.1 : Int), .int (x.2.2 : Int)]) (x' := .int (y.1 : Int)) (y' := .tuple [.int (y.2.1 : Int), .int (y.2.2 : Int)]) (by simp [alike]) (by simp [alike, alikeAll])
  have h' : dataLt (tripD x) (tripD y) = _ := h
  show (dataLt (tripD x) (tripD y) = true → (x.1 : Int) ≤ (y.1 : Int)) ∧ (dataLt (tripD x) (tripD y) = false → (y.1 : Int) ≤ (x.1 : Int))
  rw [h']
  by_cases e : (x.1 : Int) = (y.1 : Int)
  · exact ⟨fun _ => Int.le_of_eq e, fun _ => Int.le_of_eq e.symm⟩
  · have e2 : PyData.eqv (.int (x.1 : Int)) (.int (y.1 : Int)) = false := by
      rw [PyData.eqv]; exact beq_eq_false_iff_ne.mpr e
    rw [e2, if_neg Bool.false_ne_true, PySem.W.dataLt_int]
    refine ⟨fun z => ?_, fun z => ?_⟩
    · have := of_decide_eq_true z; omega
    · have := of_decide_eq_false z; omega
theorem slSeq_from1 {K : PySem.W.Frag} {b : Bool} {a : Addr} {xs : List V} {H : Hp} {Q : VK} (h : SeqAt b H a xs) (k : ∀ H1 q, Same H H1 → SeqAt b H1 q (xs.drop 1) → Q (.ref q) H1) : rSlSeq K (.ref a) (some 1) none H Q := by
  have ecut : cutV xs (some 1) none = xs.drop 1 := by
    unfold cutV
    rw [show (some (1 : Int)) = some ((1 : Nat) : Int) from rfl, HT.sIx_nat, HT.sIx_none]
    by_cases hl : 1 ≤ xs.length
    · rw [Nat.min_eq_left hl, List.take_of_length_le (by rw [List.length_drop]; exact Nat.le_refl _)]
    · have : xs = [] := List.eq_nil_of_length_eq_zero (by omega)
      subst this; rfl
  cases b with
  | true => exact .inl ⟨a, xs, rfl, SqL.of h, fun p hp => k _ p (same_new hp) (by rw [ecut]; exact upd_same)⟩
  | false =>
    refine .inr ⟨a, xs, rfl, SqT.of h, fun hw => k _ a (Same.refl H) ?_, fun _ p hp => k _ p (same_new hp) (by rw [ecut]; exact upd_same)⟩
    have hz := hw.1
    rw [show (some (1 : Int)) = some ((1 : Nat) : Int) from rfl, HT.sIx_nat] at hz
    have : xs = [] := List.eq_nil_of_length_eq_zero (by omega)
    subst this
    exact h
theorem src_seq {b : Bool} {H : Hp} {a : Addr} {xs : List V} (h : SeqAt b H a xs) : SrcV H (.ref a) xs.length (fun H => SeqAt b H a xs) (fun i v => xs[i]? = some v) := by
  cases b with
  | true => exact .inr (.inr ⟨a, xs, rfl, h, rfl, rfl, rfl⟩)
  | false => exact .inr (.inl ⟨a, xs, rfl, h, rfl, rfl, rfl⟩)
/-- the joins that are there, by places -/
def found (ps : List (Nat × Nat)) (row : List Nat) : List (Nat × (Nat × Nat)) := ((adjs row).filter fun p => decide (p ∈ ps)).map fun p => (ps.idxOf p, p)
def foundTo (ps : List (Nat × Nat)) (l : List (Nat × Nat)) : List (Nat × (Nat × Nat)) := (l.filter fun p => decide (p ∈ ps)).map fun p => (ps.idxOf p, p)
theorem foundTo_snoc (ps l : List (Nat × Nat)) (p : Nat × Nat) : foundTo ps (l ++ [p]) = if p ∈ ps then foundTo ps l ++ [(ps.idxOf p, p)] else foundTo ps l := by
  unfold foundTo
  rw [List.filter_append, List.map_append]
  by_cases h : p ∈ ps
  · rw [if_pos h, List.filter_cons_of_pos (by simpa using h)]; rfl
  · rw [if_neg h, List.filter_cons_of_neg (by simpa using h)]
    exact List.append_nil _
theorem foundTo_len (ps l : List (Nat × Nat)) : (foundTo ps l).length ≤ l.length := by
  unfold foundTo
  rw [List.length_map]; exact List.length_filter_le _ _
/-- what lowest holds -/
def LowAt (H : Hp) (ps : List (Nat × Nat)) (row : List Nat) (v : V) : Prop :=
  (v = .non ∧ ∀ p ∈ ps, p ∉ adjs row) ∨ ∃ (p : Nat × Nat) (r : Nat) (t q : Addr), v = .ref t ∧ H t = some (.tup [.int (r : Int), .ref q]) ∧ H q = some (.tup [.int (p.1 : Int), .int (p.2 : Int)]) ∧ ps[r]? = some p ∧ p ∈ adjs row ∧ ∀ (j : Nat) q, j < r → ps[j]? = some q → q ∉ adjs row
def sp_lowest_join : Sp := fun vs H Q _ => ∃ (d a : Addr) (b : Bool) (ps : List (Nat × Nat)) (row : List Nat), vs = [.ref d, .ref a] ∧ H d = some (.dT (kvsF 0 ps)) ∧ RowAt b H a row ∧ row.length ≤ 1000 ∧
  ∀ H' v, Same H H' → LowAt H' ps row v → Q v H'
section
variable {P : Program} {w : World} {K : PySem.W.Frag} {mg : Str → Option Value} {base : Heap}
theorem ok_lowest_join {f : Addr} {fd : FuncData} (F : C8.Fun K "lowest_join" "lowest_join" s_lowest_join f fd) (T : Txt K mg) : FnOk P w K mg base C8.CX0 1 f fd ["ranks", "row"] sp_lowest_join := by
  refine C8.fn0 F sc_lowest_join (fun vs H Q E h => ?_) (fun cdv A outer s H vs Q E hr h => ?_)
  · obtain ⟨d, a, b, ps, row, rfl, _⟩ := h; rfl
  · obtain ⟨d, a, b, ps, row, rfl, hd, hrow, hl, q⟩ := h
    have q0 : (∀ p ∈ ps, p ∉ adjs row) → ∀ H', Same H H' → Q .non H' := fun hno H' s1 => q H' .non s1 (.inl ⟨rfl, hno⟩)
    have q1 : ∀ (p : Nat × Nat) (r : Nat), ps[r]? = some p → p ∈ adjs row → (∀ (j : Nat) q, j < r → ps[j]? = some q → q ∉ adjs row) → ∀ H' t q, Same H H' → H' t = some (.tup [.int (r : Int), .ref q]) → H' q = some (.tup [.int (p.1 : Int), .int (p.2 : Int)]) → Q (.ref t) H' :=
      fun p r hp ha hlo H' t q' s1 h1 h2 => q H' (.ref t) s1 (.inr ⟨p, r, t, q', rfl, h1, h2, hp, ha, hlo⟩)
    have hu := hu_of hr
    have hu64 := hu64_of hr
    refine ⟨_, (pss_one (ps_ret (pe_callBK (cr_minD rfl hu64) (by rfl) T.b_min (by decide +kernel) (pa_cons (pe_lc (own := [("pair", 2)]) (g := gName 2)  rfl sc_lowest_join.nd (pi_zipN rfl T.b_zip (pa_cons (pv 1) (pa_cons (pe_slice sl_seq (pv 1) (po_some pe_int) po_none) pa_nil))) (blkOk_by (N := N_lowest_join) (sc := C8.fnScope s_lowest_join) (by decide +kernel)) (fun _ _ _ _ _ => (pg_name (i := 2) sc_lowest_join.nd rfl (Or.inl rfl))) (fun _ _ _ _ _ => pts_one (pt_cmp (pc_din hu (pv 2) (pv 0)))) (fun _ _ _ _ _ => (pe_tup (pa_cons (pe_dget hu (pv 0) (pv 2) (fun _ _ => rfl)) (pa_cons (pv 2) pa_nil))))) pa_nil) (pk_cons pe_non pk_nil)))), ?_⟩
    refine ⟨_, rfl, _, rfl, 1, rfl, slSeq_from1 hrow fun H1 qa s1 hq => ?_⟩
    have hrow1 := hrow.same s1
    refine ⟨_, _, _, _, _, _, _, _, rfl, src_seq hrow1, src_seq hq, fun D hD => ?_⟩
    have hD0 : H D = none := s1.free hD
    have hn : min (iv row).length ((iv row).drop 1).length = (adjs row).length := by
      unfold adjs
      rw [List.length_zip, iv_len, List.length_drop, iv_len, List.length_tail]
    rw [hn]
    refine lc_it walkG (fun i H' => Same H1 H' ∧ ∃ xs, H' D = some (.lst xs) ∧ Paired (TripAt H') xs (foundTo ps ((adjs row).take i))) ⟨same_new hD, [], upd_same, .nil⟩ (fun i H' _ ⟨s2, _⟩ => ⟨hrow1.same s2, hq.same s2⟩) ?_ ?_
    · rintro i x H2 H3 hi ⟨s2, xs, hxs, hP⟩ ⟨Tt, ys, rfl, hT, rfl, v1, v2, h1, h2, rfl⟩
      obtain ⟨n1, hn1, rfl⟩ := iv_get h1
      have h2' : (iv row)[i + 1]? = some v2 := by rw [List.getElem?_drop] at h2; rw [Nat.add_comm]; exact h2
      obtain ⟨n2, hn2, rfl⟩ := iv_get h2'
      have hadj : (adjs row)[i]? = some (n1, n2) := by
        unfold adjs
        rw [List.getElem?_zip_eq_some]; exact ⟨hn1, by rw [List.getElem?_tail]; exact hn2⟩
      have hne : D ≠ Tt := ne_of_none hxs hT
      have hd3 : upd H2 Tt (.tup [.int (n1 : Int), .int (n2 : Int)]) d = some (.dT (kvsF 0 ps)) := (Same.new s2 hT) _ _ (s1 _ _ hd)
      have hg : DGet (upd H2 Tt (.tup [.int (n1 : Int), .int (n2 : Int)])) d (.ref Tt) (if (n1, n2) ∈ ps then some (V.int ((0 + ps.idxOf (n1, n2) : Nat) : Int)) else none) := by
        rw [← kvsF_get]
        exact DGet.t (k := pkey (n1, n2)) hd3 upd_same
      have hxs3 : upd H2 Tt (.tup [.int (n1 : Int), .int (n2 : Int)]) D = some (.lst xs) := (upd_ne hne).trans hxs
      have htk : (adjs row).take (i + 1) = (adjs row).take i ++ [(n1, n2)] := take_succ_of hadj
      have hlen : xs.length < sizeLine := small1000 (by
        have e1 := hP.length
        have e2 := foundTo_len ps ((adjs row).take i)
        rw [List.length_take] at e2
        have e3 : (adjs row).length ≤ row.length := by unfold adjs; rw [List.length_zip]; exact Nat.min_le_left _ _
        omega)
      refine ⟨rfl, _, rfl, _, rfl, d, _, rfl, hg, _, rfl, ?_⟩
      by_cases hm : (n1, n2) ∈ ps
      · rw [if_pos hm] at hg ⊢
        refine iteT ⟨_, rfl, _, rfl, d, _, rfl, hg, _, rfl, by show 2 ≤ sizeLine; decide, fun p hp => ?_⟩
        have hpD : D ≠ p := ne_of_none hxs3 hp
        have s4 : Same H2 (upd (upd H2 Tt (.tup [.int (n1 : Int), .int (n2 : Int)])) p (.tup [.int ((0 + ps.idxOf (n1, n2) : Nat) : Int), .ref Tt])) := Same.new (same_new hT) hp
        have hxs4 : (upd (upd H2 Tt (.tup [.int (n1 : Int), .int (n2 : Int)])) p (.tup [.int ((0 + ps.idxOf (n1, n2) : Nat) : Int), .ref Tt])) D = some (.lst xs) := (upd_ne hpD).trans hxs3
        refine ⟨xs, hxs4, hlen, Same.put (s2.trans s4) hD, _, upd_same, ?_⟩
        rw [htk, foundTo_snoc, if_pos hm]
        refine Paired.snoc ⟨p, Tt, rfl, SameT.put hxs4 _ _ (by rw [upd_same, Nat.zero_add]), SameT.put hxs4 _ _ ((upd_ne (ne_of_none upd_same hp)).trans upd_same)⟩ ?_
        exact Paired.mapP hP fun v t ht => ht.same fun b ys e => SameT.put hxs4 _ _ (s4 _ _ e)
      · rw [if_neg hm]
        refine iteF ⟨s2.trans (same_new hT), xs, hxs3, ?_⟩
        rw [htk, foundTo_snoc, if_neg hm]
        exact Paired.mapP hP fun v t ht => ht.same fun b ys e => same_new hT _ _ e
    · rintro H2 ⟨s2, xs, hxs, hP⟩
      rw [List.take_length] at hP
      refine ⟨D, xs, _, rfl, rfl, hxs, trips_dp hP, trips_alike _, trips_depth _, fun e => ?_, fun y ys i x e hx hmin => ?_⟩
      · refine q0 (fun p hp hadj => ?_) H2 (s1.trans s2)
        have e' : foundTo ps (adjs row) = [] := List.map_eq_nil_iff.mp e
        have e'' : (adjs row).filter (fun p => decide (p ∈ ps)) = [] := List.map_eq_nil_iff.mp e'
        have : p ∈ (adjs row).filter (fun p => decide (p ∈ ps)) := List.mem_filter.mpr ⟨hadj, by simpa using hp⟩
        rw [e''] at this; cases this
      · obtain ⟨t, ht, t1, q, rfl, h1, h2⟩ := Paired.at hP hx
        have hmem := List.mem_of_getElem? ht
        obtain ⟨p, hp, rfl⟩ := List.mem_map.mp hmem
        obtain ⟨hpa, hpp⟩ := List.mem_filter.mp hp
        have hpp' : p ∈ ps := by simpa using hpp
        have hget : ((foundTo ps (adjs row)).map tripD)[i]? = some (tripD (ps.idxOf p, p)) := by rw [List.getElem?_map, ht]; rfl
        rw [hget] at hmin
        have hmin' := (Option.some.inj hmin).symm
        refine q1 p (ps.idxOf p) (idxOf_get hpp') hpa (fun j q' hj ej hq' => ?_) H2 t1 q (s1.trans s2) h1 h2
        have hle := minD_le (rk := rkD) (Ok := fun d => ∃ x, d = tripD x) (fun x y ⟨a, ha⟩ ⟨b, hb⟩ => by rw [ha, hb]; exact trip_lt.1) (fun x y ⟨a, ha⟩ ⟨b, hb⟩ => by rw [ha, hb]; exact trip_lt.2) ys y
          (fun z hz => by rw [← e] at hz; obtain ⟨a, _, rfl⟩ := List.mem_map.mp hz; exact ⟨a, rfl⟩)
          (tripD (ps.idxOf q', q')) (by
            rw [← e]
            exact List.mem_map.mpr ⟨_, List.mem_map.mpr ⟨q', List.mem_filter.mpr ⟨hq', by simpa using List.mem_of_getElem? ej⟩, rfl⟩, rfl⟩)
        rw [hmin'] at hle
        have hle' : ((ps.idxOf p : Nat) : Int) ≤ ((ps.idxOf q' : Nat) : Int) := hle
        have := idxOf_le ej
        omega
end
end RJ
end

section
set_option maxRecDepth 100000
set_option maxHeartbeats 2000000
namespace RJ
open PySem PySem.Spec PyProof.Rows L2
def sp_join_down : Sp := fun vs H Q _ => ∃ (d a : Addr) (k : Bool) (b : Nat) (ps : List (Nat × Nat)) (row : List Nat), vs = [.ref d, .int (b : Int), .ref a] ∧ H d = some (.dT (kvsF 0 ps)) ∧ WF b ps ∧ RowAt k H a row ∧ row.length ≤ 1000 ∧
  ∀ H' q k', Same H H' → (k = true → k' = true) → RowAt k' H' q (cutL b ps row) → Q (.ref q) H'
section
variable {P : Program} {w : World} {K : PySem.W.Frag} {mg : Str → Option Value} {base : Heap}
theorem ok_join_down {f : Addr} {fd : FuncData} (F : C8.Fun K "join_down" "join_down" s_join_down f fd) (T : Txt K mg) (c_lowest_join : C8.Cal P w K mg base 1 "lowest_join" sp_lowest_join []) (c_join_neighbors : C8.Cal P w K mg base 1 "join_neighbors" sp_join_neighbors []) :
    FnOk P w K mg base C8.CX0 2 f fd ["ranks", "letters", "row"] sp_join_down := by
  refine C8.fn0 F sc_join_down (fun vs H Q E h => ?_) (fun cdv A outer s H vs Q E hr h => ?_)
  · obtain ⟨d, a, k, b, ps, row, rfl, _⟩ := h; rfl
  · obtain ⟨d, a, k, b, ps, row, rfl, hd, hw, hrow, hl, q⟩ := h
    refine ⟨_, (pss_cons (ps_set (i := 3) sc_join_down.nd rfl (Or.inl rfl) (C8.pe_c c_lowest_join hr (by first | decide | omega) (by rfl) (pa_cons (pv 0) (pa_cons (pv 2) pa_nil))))
      (pss_cons (ps_while PassesOwn.never (pt_cmpR op_notN (pv 3) pe_non (nomark _)) (pss_cons (ps_asg (pv 3) (pg_tup rfl (pgs_cons (pg_name (i := 4) sc_join_down.nd rfl (Or.inl rfl)) (pgs_cons (pg_name (i := 5) sc_join_down.nd rfl (Or.inl rfl)) pgs_nil))))
      (pss_cons (ps_set (i := 2) sc_join_down.nd rfl (Or.inl rfl) (C8.pe_c c_join_neighbors hr (by first | decide | omega) (by rfl) (pa_cons (pv 2) (pa_cons (pv 5) (pa_cons (pe_op op_add (pv 1) (pv 4)) pa_nil)))))
      (pss_one (ps_set (i := 3) sc_join_down.nd rfl (Or.inl rfl) (C8.pe_c c_lowest_join hr (by first | decide | omega) (by rfl) (pa_cons (pv 0) (pa_cons (pv 2) pa_nil))))))))
      (pss_one (ps_ret (pv 2))))), ?_⟩
    refine ⟨_, rfl, _, rfl, d, a, k, ps, row, rfl, hd, hrow, hl, fun H1 v s1 lo => ?_⟩
    refine ⟨fun m σ H' => ∃ (v4 v5 : Option V) (a' : Addr) (k' : Bool) (row' : List Nat) (lv : V), σ = [some (V.ref d), some (.int (b : Int)), some (.ref a'), some lv, v4, v5] ∧ Same H H' ∧ (k = true → k' = true) ∧ RowAt k' H' a' row' ∧ cutL b ps row' = cutL b ps row ∧ m = row'.length ∧ row'.length ≤ 1000 ∧ LowAt H' ps row' lv,
        ⟨row.length, none, none, a, k, row, v, rfl, s1, fun h => h, hrow.same s1, rfl, rfl, hl, lo⟩, ?_⟩
    rintro m σ H2 ⟨v4, v5, a', k', row', lv, rfl, s2, hk, hr2, he, rfl, hl2, lo2⟩
    refine ⟨_, rfl, rfl, _, rfl, ?_⟩
    rcases lo2 with ⟨rfl, hno⟩ | ⟨p, r, t, q1, rfl, ht, hq, hp, hadj, hlow⟩
    · refine iteF ⟨_, rfl, q H2 a' k' s2 hk ?_⟩
      rw [← he, cut_done hno]; exact hr2
    · refine iteT ?_
      have hpw := hw r p hp
      refine ⟨fun σ' H' => ∃ m', m' < row'.length ∧ ∃ (v4 v5 : Option V) (a' : Addr) (k' : Bool) (row' : List Nat) (lv : V), σ' = [some (V.ref d), some (.int (b : Int)), some (.ref a'), some lv, v4, v5] ∧ Same H H' ∧ (k = true → k' = true) ∧ RowAt k' H' a' row' ∧ cutL b ps row' = cutL b ps row ∧ m' = row'.length ∧ row'.length ≤ 1000 ∧ LowAt H' ps row' lv, fun σ' H' z => z, ?_⟩
      refine ⟨_, rfl, t, _, rfl, SqT.of ht, rfl, _, _, rfl, _, _, rfl, rfl, ?_⟩
      refine ⟨_, rfl, _, rfl, _, rfl, _, rfl, _, _, rfl, rfl, k', a', q1, row', p.1, p.2, b + r, rfl, hr2, hq, by omega, hl2, fun H3 J s3 hJ hJ3 => ?_⟩
      have hlt := pass_lt (m := b + r) hadj
      refine ⟨_, rfl, _, rfl, d, J, true, ps, pass p.1 p.2 (b + r) row', rfl, s3 _ _ (s2 _ _ hd), hJ3, by omega, fun H4 v s4 lo4 => ?_⟩
      exact ⟨_, hlt, _, _, J, true, _, v, rfl, (s2.trans s3).trans s4, fun _ => rfl, s4 _ _ hJ3, by rw [← he]; exact cut_step hw hp row' hlow, rfl, by omega, lo4⟩
end
end RJ
end

section
set_option maxRecDepth 100000
set_option maxHeartbeats 2000000
namespace RJ
open PySem PySem.Spec PyProof.Rows L2
/-! ### data on the heap -/
def strV (ts : List (List Nat)) : List V := ts.map fun t => V.str (S t)
theorem strV_len (ts : List (List Nat)) : (strV ts).length = ts.length := by rw [strV, List.length_map]
theorem strV_snoc (ts : List (List Nat)) (t : List Nat) : strV ts ++ [V.str (S t)] = strV (ts ++ [t]) := by rw [strV, strV, List.map_append]; rfl
theorem strV_at {ts : List (List Nat)} {i : Nat} (h : i < ts.length) : (strV ts)[i]? = some (V.str (S (ts.getD i []))) := by
  rw [strV, List.getElem?_map, List.getD_eq_getElem?_getD, List.getElem?_eq_getElem h]; rfl
def PairAt (H : Hp) (v : V) (p : Nat × Nat) : Prop := ∃ q, v = .ref q ∧ H q = some (.tup [.int (p.1 : Int), .int (p.2 : Int)])
theorem PairAt.same {H H' : Hp} {v : V} {p : Nat × Nat} (h : PairAt H v p) (s : SameT H H') : PairAt H' v p := by
  obtain ⟨q, e, h1⟩ := h
  exact ⟨q, e, s _ _ h1⟩
abbrev PairsAt (H : Hp) (vs : List V) (ps : List (Nat × Nat)) : Prop := Paired (PairAt H) vs ps
theorem PairsAt.same {H H' : Hp} {vs : List V} {ps : List (Nat × Nat)} (h : PairsAt H vs ps) (s : SameT H H') : PairsAt H' vs ps := Paired.mapP h fun _ _ q => q.same s
theorem S_inj {a b : List Nat} (h : S a = S b) : a = b := SX.S_inj h
theorem S_cat (a b : List Nat) : S a ++ S b = S (a ++ b) := SX.S_cat a b
abbrev s_may_follow : Stmt := top 27
abbrev N_may_follow : List Str := ["alphabet", "texts", "ranks", "pair", "left", "right", "text"]
theorem sc_may_follow : FnScope N_may_follow ["alphabet", "texts", "ranks", "pair"] (C8.fnScope s_may_follow) := C8.fnScope_by (by decide +kernel)
def sp_may_follow : Sp := fun vs H Q _ => ∃ (al : List Nat) (ts : List (List Nat)) (ps : List (Nat × Nat)) (l r : Int) (tx d pr : Addr), vs = [.str (S al), .ref tx, .ref d, .ref pr] ∧ H tx = some (.lst (strV ts)) ∧ H d = some (.dT (kvsF 0 ps)) ∧ H pr = some (.tup [.int l, .int r]) ∧
  WF al.length ps ∧ (∀ t ∈ ts, ∀ c ∈ t, c ∈ al) ∧ (∀ t ∈ ts, t.length ≤ 40) ∧ al.length ≤ 1000 ∧ ts.length ≤ 1000 ∧
  (∀ p : Nat × Nat, l = (p.1 : Int) → r = (p.2 : Int) → okP al ts ps p → ∀ H', Same H H' → Q (.bl true) H') ∧ ((∀ p : Nat × Nat, l = (p.1 : Int) → r = (p.2 : Int) → ¬ okP al ts ps p) → ∀ H', Same H H' → Q (.bl false) H')
theorem numBelow_yes {i n : Nat} (h : i < n) : numBelow (.int (i : Int)) (n : Int) = true := by
  show (decide (0 ≤ (i : Int)) && decide ((i : Int) < (n : Int))) = true
  rw [decide_eq_true (by omega), decide_eq_true (by omega)]; rfl
theorem numBelow_int {l : Int} {n : Nat} (h : numBelow (.int l) (n : Int) = true) : ∃ a : Nat, l = (a : Int) ∧ a < n := by
  unfold numBelow at h
  rw [Bool.and_eq_true, decide_eq_true_eq, decide_eq_true_eq] at h
  exact ⟨l.toNat, by omega, by omega⟩
theorem iv_dp {K : PySem.W.Frag} {H : Hp} : ∀ l : List Nat, DpAll K H (iv l) (l.map fun (n : Nat) => PyData.int (n : Int))
  | [] => .nil
  | n :: l => .cons (.int _) (iv_dp l)
theorem eqv_iv : ∀ a b : List Nat, PyData.eqvAll (a.map fun (n : Nat) => PyData.int (n : Int)) (b.map fun (n : Nat) => PyData.int (n : Int)) = decide (a = b)
  | [], [] => by simp [PyData.eqvAll]
  | [], _ :: _ => by simp [PyData.eqvAll]
  | _ :: _, [] => by simp [PyData.eqvAll]
  | x :: a, y :: b => by
    rw [List.map_cons, List.map_cons, PyData.eqvAll, eqv_iv a b, PyData.eqv]
    by_cases h : x = y
    · subst h; simp
    · have : ((x : Int) == (y : Int)) = false := beq_eq_false_iff_ne.mpr (by omega)
      rw [this]
      simp [h]
theorem shaped_iv (l : List Nat) : SeqAt.shaped (.list (l.map fun (n : Nat) => PyData.int (n : Int))) = true := by
  have h1 : PyData.canLayAll0 (l.map fun (n : Nat) => PyData.int (n : Int)) = true := by
    induction l with
    | nil => simp [PyData.canLayAll0]
    | cons n l ih => rw [List.map_cons, PyData.canLayAll0, ih]; simp [PyData.canLay0]
  have h2 : PyData.depthAll (l.map fun (n : Nat) => PyData.int (n : Int)) = 0 := by
    clear h1
    induction l with
    | nil => simp [PyData.depthAll]
    | cons n l ih => rw [List.map_cons, PyData.depthAll, ih]; simp [PyData.depth]
  unfold SeqAt.shaped
  rw [PyData.canLay0, h1, PyData.depth, h2]; rfl
section
variable {P : Program} {w : World} {K : PySem.W.Frag} {mg : Str → Option Value} {base : Heap}
theorem ok_may_follow {f : Addr} {fd : FuncData} (F : C8.Fun K "may_follow" "may_follow" s_may_follow f fd) (T : Txt K mg) (c_is_number_below : C8.Cal P w K mg base 2 "is_number_below" sp_is_number_below []) (c_join_down : C8.Cal P w K mg base 2 "join_down" sp_join_down []) (c_letter_row : C8.Cal P w K mg base 1 "letter_row" sp_letter_row []) :
    FnOk P w K mg base C8.CX0 3 f fd ["alphabet", "texts", "ranks", "pair"] sp_may_follow := by
  refine C8.fn0 F sc_may_follow (fun vs H Q E h => ?_) (fun cdv A outer s H vs Q E hr h => ?_)
  · obtain ⟨al, ts, ps, l, r, tx, d, pr, rfl, _⟩ := h; rfl
  · obtain ⟨al, ts, ps, l, r, tx, d, pr, rfl, htx, hd, hpr, hw, hin, hsh, hal, hts, qT, qF⟩ := h
    have hu64 := hu64_of hr
    have qF' : (∀ p : Nat × Nat, l = (p.1 : Int) → r = (p.2 : Int) → ¬ okP al ts ps p) → ∀ H', Same H H' → Q (.bl false) H' := qF
    refine ⟨_, (pss_cons (ps_asg (pv 3) (pg_tup rfl (pgs_cons (pg_name (i := 4) sc_may_follow.nd rfl (Or.inl rfl)) (pgs_cons (pg_name (i := 5) sc_may_follow.nd rfl (Or.inl rfl)) pgs_nil))))
      (pss_cons (ps_if (pt_not (PW.pt (pw_and (pt_val (C8.pe_c c_is_number_below hr (by first | decide | omega) (by rfl) (pa_cons (pv 4) (pa_cons (pe_callB call_len_seq (by rfl) T.b_len PySem.boot_len (pa_cons (pv 1) pa_nil)) pa_nil)))) (pw_and1 (pt_val (C8.pe_c c_is_number_below hr (by first | decide | omega) (by rfl) (pa_cons (pv 5) (pa_cons (pe_callB call_len_seq (by rfl) T.b_len PySem.boot_len (pa_cons (pv 1) pa_nil)) pa_nil)))))))) (pss_one (ps_ret pe_bl)) pss_nil)
      (pss_cons (ps_set (i := 6) sc_may_follow.nd rfl (Or.inl rfl) (pe_op op_add_str (pe_ix ix_list (pv 1) (pv 4) (fun _ _ => rfl)) (pe_ix ix_list (pv 1) (pv 5) (fun _ _ => rfl))))
      (pss_cons (ps_if (pt_cmpR op_gt (pe_callB call_len_str (by rfl) T.b_len PySem.boot_len (pa_cons (pv 6) pa_nil)) (C8.pe_gc rfl T.c_MOST_SIGNS_OF_PIECE) (nomark _)) (pss_one (ps_ret pe_bl)) pss_nil)
      (pss_one (ps_ret (pe_cmpR (op_eqD hu64) (C8.pe_c c_join_down hr (by first | decide | omega) (by rfl) (pa_cons (pv 2) (pa_cons (pe_callB call_len_str (by rfl) T.b_len PySem.boot_len (pa_cons (pv 0) pa_nil)) (pa_cons (C8.pe_c c_letter_row hr (by first | decide | omega) (by rfl) (pa_cons (pv 0) (pa_cons (pv 6) pa_nil))) pa_nil)))) (pe_lst (pa_cons (pv 4) (pa_cons (pv 5) pa_nil))) (nomark _)))))))), ?_⟩
    refine ⟨_, rfl, pr, _, rfl, SqT.of hpr, rfl, _, _, rfl, _, _, rfl, rfl, ?_⟩
    refine ⟨_, rfl, _, rfl, tx, _, rfl, .inl (SqL.of htx), _, _, rfl, .int l, _, rfl, ?_⟩
    rw [strV_len]
    cases h1 : numBelow (.int l) (ts.length : Int) with
    | false =>
      refine iteF (iteT (qF' (fun p e1 e2 ok => ?_) H (Same.refl H)))
      rw [e1, numBelow_yes ok.1] at h1; cases h1
    | true =>
      obtain ⟨a, rfl, ha⟩ := numBelow_int h1
      refine iteT ⟨_, rfl, _, rfl, tx, _, rfl, .inl (SqL.of htx), _, _, rfl, .int r, _, rfl, ?_⟩
      rw [strV_len]
      cases h2 : numBelow (.int r) (ts.length : Int) with
      | false =>
        refine iteT (qF' (fun p e1 e2 ok => ?_) H (Same.refl H))
        rw [e2, numBelow_yes ok.2.1] at h2; cases h2
      | true =>
        obtain ⟨b, rfl, hb⟩ := numBelow_int h2
        refine iteF ?_
        have uniq : ¬ okP al ts ps (a, b) → ∀ p : Nat × Nat, (a : Int) = (p.1 : Int) → (b : Int) = (p.2 : Int) → ¬ okP al ts ps p := fun hn p e1 e2 ok => by
          obtain ⟨p1, p2⟩ := p
          have z1 : a = p1 := by have e1' : (a : Int) = (p1 : Int) := e1; omega
          have z2 : b = p2 := by have e2' : (b : Int) = (p2 : Int) := e2; omega
          subst z1 z2
          exact hn ok
        have hla : (ts.getD a []).length ≤ 40 := by
          rcases getD_mem_or (ts := ts) (i := a) with m | m
          · exact hsh _ m
          · rw [m]; exact Nat.zero_le _
        have hlb : (ts.getD b []).length ≤ 40 := by
          rcases getD_mem_or (ts := ts) (i := b) with m | m
          · exact hsh _ m
          · rw [m]; exact Nat.zero_le _
        refine ⟨_, rfl, _, rfl, tx, _, _, _, rfl, rfl, SqL.of htx, atI_nat (strV_at ha), _, rfl, _, rfl, tx, _, _, _, rfl, rfl, SqL.of htx, atI_nat (strV_at hb), S _, S _, rfl, rfl, by rw [S_len, S_len]; exact small_le (by omega), ?_⟩
        rw [S_cat]
        have hlab : (ts.getD a [] ++ ts.getD b []).length ≤ 1000 := by rw [List.length_append]; omega
        refine ⟨_, rfl, S _, rfl, by rw [S_len]; exact small_le hlab, _, _, rfl, rfl, _, rfl, ?_⟩
        rw [S_len]
        by_cases hl : (ts.getD a [] ++ ts.getD b []).length ≤ 40
        · rw [decide_eq_false (by omega : ¬ (40 : Int) < ((ts.getD a [] ++ ts.getD b []).length : Int))]
          refine iteF ?_
          refine ⟨_, rfl, _, rfl, S al, rfl, by rw [S_len]; exact small_le hal, _, rfl, _, rfl, al, _, rfl, fun c hc => ?_, hlab, fun H1 p s1 hp0 hp => ?_⟩
          · rcases List.mem_append.mp hc with z | z
            · rcases getD_mem_or (ts := ts) (i := a) with m | m
              · exact hin _ m c z
              · rw [m] at z; cases z
            · rcases getD_mem_or (ts := ts) (i := b) with m | m
              · exact hin _ m c z
              · rw [m] at z; cases z
          · refine ⟨d, p, true, al.length, ps, _, by rw [S_len]; rfl, s1 _ _ hd, hw, hp, by rw [lets, List.length_map]; exact hlab, fun H2 q k' s2 hk hq => ?_⟩
            have hk' : k' = true := hk rfl
            subst hk'
            refine ⟨_, rfl, _, rfl, by show 2 ≤ sizeLine; decide, fun z hz => ?_⟩
            have hqz : upd H2 z (.lst [.int (a : Int), .int (b : Int)]) q = some (.lst (iv (cutL al.length ps (lets al (ts.getD a [] ++ ts.getD b []))))) := (upd_ne (ne_of_none (show H2 q = _ from hq) hz)).trans hq
            refine ⟨_, _, .lst (SqL.of hqz) (iv_dp _), .lst (SqL.of upd_same) (iv_dp [a, b]), shaped_iv _, shaped_iv [a, b], ?_⟩
            have sF : Same H (upd H2 z (.lst [.int (a : Int), .int (b : Int)])) := Same.new (s1.trans s2) hz
            show Q (.bl (PyData.eqv (.list _) (.list _))) _
            rw [PyData.eqv, eqv_iv]
            by_cases hc : cutL al.length ps (lets al (ts.getD a [] ++ ts.getD b [])) = [a, b]
            · rw [decide_eq_true hc]
              exact qT (a, b) rfl rfl ⟨ha, hb, hl, hc⟩ _ sF
            · rw [decide_eq_false hc]
              exact qF' (uniq fun ok => hc ok.2.2.2) _ sF
        · rw [decide_eq_true (by omega : (40 : Int) < ((ts.getD a [] ++ ts.getD b []).length : Int))]
          exact iteT (qF' (uniq fun ok => hl ok.2.2.1) H (Same.refl H))
end
end RJ
end

section
set_option maxRecDepth 100000
set_option maxHeartbeats 4000000
namespace RJ
open PySem PySem.Spec PyProof.Rows L2
/-! ### the object -/
def f1 (al : List Nat) : List (Str × V) := putF "alphabet" (.str (S al)) []
def f2 (al : List Nat) (t : Addr) : List (Str × V) := putF "pairs" (.ref t) (f1 al)
def f3 (al : List Nat) (t tx : Addr) : List (Str × V) := putF "_texts" (.ref tx) (f2 al t)
def f4 (al : List Nat) (t tx d : Addr) : List (Str × V) := putF "_ranks" (.ref d) (f3 al t tx)
def f5 (al : List Nat) (t tx d e : Addr) : List (Str × V) := putF "_pieces_by_text" (.ref e) (f4 al t tx d)
theorem putF_len (f : Str) (v : V) : ∀ fs : List (Str × V), (putF f v fs).length ≤ fs.length + 1
  | [] => Nat.le_refl _
  | (g, x) :: r => by
    rw [putF]
    split
    · exact Nat.le_succ _
    · have := putF_len f v r
      simp only [List.length_cons]; omega
theorem f_len (al : List Nat) (t tx d : Addr) : (f1 al).length < 1000 ∧ (f2 al t).length < 1000 ∧ (f3 al t tx).length < 1000 ∧ (f4 al t tx d).length < 1000 := by
  have h1 : (f1 al).length ≤ 1 := putF_len _ _ _
  have h2 : (f2 al t).length ≤ (f1 al).length + 1 := putF_len _ _ _
  have h3 : (f3 al t tx).length ≤ (f2 al t).length + 1 := putF_len _ _ _
  have h4 : (f4 al t tx d).length ≤ (f3 al t tx).length + 1 := putF_len _ _ _
  omega
theorem f1_alphabet (al : List Nat)  : (f1 al).lookup ("alphabet" : Str) = some (.str (S al)) := by
  unfold f1
  rw [lookup_putF, if_pos rfl]
theorem f2_pairs (al : List Nat) (t : Addr) : (f2 al t).lookup ("pairs" : Str) = some (.ref t) := by
  unfold f2 f1
  rw [lookup_putF, if_pos rfl]
theorem f2_alphabet (al : List Nat) (t : Addr) : (f2 al t).lookup ("alphabet" : Str) = some (.str (S al)) := by
  unfold f2 f1
  rw [lookup_putF, if_neg (by decide +kernel), lookup_putF, if_pos rfl]
theorem f3_texts (al : List Nat) (t : Addr) (tx : Addr) : (f3 al t tx).lookup ("_texts" : Str) = some (.ref tx) := by
  unfold f3 f2 f1
  rw [lookup_putF, if_pos rfl]
theorem f3_pairs (al : List Nat) (t : Addr) (tx : Addr) : (f3 al t tx).lookup ("pairs" : Str) = some (.ref t) := by
  unfold f3 f2 f1
  rw [lookup_putF, if_neg (by decide +kernel), lookup_putF, if_pos rfl]
theorem f3_alphabet (al : List Nat) (t : Addr) (tx : Addr) : (f3 al t tx).lookup ("alphabet" : Str) = some (.str (S al)) := by
  unfold f3 f2 f1
  rw [lookup_putF, if_neg (by decide +kernel), lookup_putF, if_neg (by decide +kernel), lookup_putF, if_pos rfl]
theorem f4_ranks (al : List Nat) (t : Addr) (tx : Addr) (d : Addr) : (f4 al t tx d).lookup ("_ranks" : Str) = some (.ref d) := by
  unfold f4 f3 f2 f1
  rw [lookup_putF, if_pos rfl]
theorem f4_texts (al : List Nat) (t : Addr) (tx : Addr) (d : Addr) : (f4 al t tx d).lookup ("_texts" : Str) = some (.ref tx) := by
  unfold f4 f3 f2 f1
  rw [lookup_putF, if_neg (by decide +kernel), lookup_putF, if_pos rfl]
theorem f4_pairs (al : List Nat) (t : Addr) (tx : Addr) (d : Addr) : (f4 al t tx d).lookup ("pairs" : Str) = some (.ref t) := by
  unfold f4 f3 f2 f1
  rw [lookup_putF, if_neg (by decide +kernel), lookup_putF, if_neg (by decide +kernel), lookup_putF, if_pos rfl]
theorem f4_alphabet (al : List Nat) (t : Addr) (tx : Addr) (d : Addr) : (f4 al t tx d).lookup ("alphabet" : Str) = some (.str (S al)) := by
  unfold f4 f3 f2 f1
  rw [lookup_putF, if_neg (by decide +kernel), lookup_putF, if_neg (by decide +kernel), lookup_putF, if_neg (by decide +kernel), lookup_putF, if_pos rfl]
theorem f5_pieces_by_text (al : List Nat) (t : Addr) (tx : Addr) (d : Addr) (e : Addr) : (f5 al t tx d e).lookup ("_pieces_by_text" : Str) = some (.ref e) := by
  unfold f5 f4 f3 f2 f1
  rw [lookup_putF, if_pos rfl]
theorem f5_ranks (al : List Nat) (t : Addr) (tx : Addr) (d : Addr) (e : Addr) : (f5 al t tx d e).lookup ("_ranks" : Str) = some (.ref d) := by
  unfold f5 f4 f3 f2 f1
  rw [lookup_putF, if_neg (by decide +kernel), lookup_putF, if_pos rfl]
theorem f5_texts (al : List Nat) (t : Addr) (tx : Addr) (d : Addr) (e : Addr) : (f5 al t tx d e).lookup ("_texts" : Str) = some (.ref tx) := by
  unfold f5 f4 f3 f2 f1
  rw [lookup_putF, if_neg (by decide +kernel), lookup_putF, if_neg (by decide +kernel), lookup_putF, if_pos rfl]
theorem f5_pairs (al : List Nat) (t : Addr) (tx : Addr) (d : Addr) (e : Addr) : (f5 al t tx d e).lookup ("pairs" : Str) = some (.ref t) := by
  unfold f5 f4 f3 f2 f1
  rw [lookup_putF, if_neg (by decide +kernel), lookup_putF, if_neg (by decide +kernel), lookup_putF, if_neg (by decide +kernel), lookup_putF, if_pos rfl]
theorem f5_alphabet (al : List Nat) (t : Addr) (tx : Addr) (d : Addr) (e : Addr) : (f5 al t tx d e).lookup ("alphabet" : Str) = some (.str (S al)) := by
  unfold f5 f4 f3 f2 f1
  rw [lookup_putF, if_neg (by decide +kernel), lookup_putF, if_neg (by decide +kernel), lookup_putF, if_neg (by decide +kernel), lookup_putF, if_neg (by decide +kernel), lookup_putF, if_pos rfl]
theorem f5_no (al : List Nat) (t : Addr) (tx : Addr) (d : Addr) (e : Addr) {m : Str} (h1 : ¬ m = "_pieces_by_text") (h2 : ¬ m = "_ranks") (h3 : ¬ m = "_texts") (h4 : ¬ m = "pairs") (h5 : ¬ m = "alphabet") : (f5 al t tx d e).lookup m = none := by
  unfold f5 f4 f3 f2 f1
  rw [lookup_putF, if_neg h1, lookup_putF, if_neg h2, lookup_putF, if_neg h3, lookup_putF, if_neg h4, lookup_putF, if_neg h5]; rfl
def kvsT : Nat → List (List Nat) → List (Key × V)
  | _, [] => []
  | k, t :: ts => (.inr (S t), V.int (k : Int)) :: kvsT (k + 1) ts
theorem kvsT_snoc : ∀ (k : Nat) (ts : List (List Nat)) (t : List Nat), kvsT k (ts ++ [t]) = kvsT k ts ++ [(.inr (S t), V.int ((k + ts.length : Nat) : Int))]
  | k, [], t => rfl
  | k, u :: ts, t => by
    show (Sum.inr (S u), V.int (k : Int)) :: kvsT (k + 1) (ts ++ [t]) = (Sum.inr (S u), V.int (k : Int)) :: (kvsT (k + 1) ts ++ _)
    rw [kvsT_snoc (k + 1) ts t, show k + 1 + ts.length = k + (u :: ts).length by rw [List.length_cons]; omega]
theorem kvsT_len : ∀ (k : Nat) (ts : List (List Nat)), (kvsT k ts).length = ts.length
  | _, [] => rfl
  | k, p :: ps => congrArg (· + 1) (kvsT_len (k + 1) ps)
theorem kvsT_get (t : List Nat) : ∀ (k : Nat) (ts : List (List Nat)), valV (kvsT k ts) (.inr (S t)) = if t ∈ ts then some (V.int ((k + ts.idxOf t : Nat) : Int)) else none
  | k, [] => by rw [if_neg List.not_mem_nil]; exact valV_nil
  | k, u :: ts => by
    show valV ((Sum.inr (S u), V.int (k : Int)) :: kvsT (k + 1) ts) (.inr (S t)) = _
    by_cases h : u = t
    · subst h
      rw [valV_pos (p := (Sum.inr (S u), V.int (k : Int))) rfl, if_pos (List.mem_cons_self ..), List.idxOf_cons_self]; rfl
    · rw [valV_neg (p := (Sum.inr (S u), V.int (k : Int))) fun z => h (S_inj (Sum.inr.inj z)), kvsT_get t (k + 1) ts]
      have e : List.idxOf t (u :: ts) = ts.idxOf t + 1 := by
        rw [List.idxOf_cons, show (u == t) = false from beq_eq_false_iff_ne.mpr h]; rfl
      by_cases hm : t ∈ ts
      · rw [if_pos hm, if_pos (List.mem_cons_of_mem _ hm), e, show k + 1 + ts.idxOf t = k + (ts.idxOf t + 1) by omega]
      · rw [if_neg hm, if_neg fun z => by
          rcases List.mem_cons.mp z with e | e
          · exact h e.symm
          · exact hm e]
/-- a list of joins at p -/
def JoinsAt (C : Addr) (H : Hp) (p : Addr) (al : List Nat) (ps : List (Nat × Nat)) : Prop := ∃ (dx t tx d e : Addr) (vs : List V), H p = some (.ins C dx (f5 al t tx d e)) ∧ H t = some (.tup vs) ∧ PairsAt H vs ps ∧
  H tx = some (.lst (strV (textsOf al ps))) ∧ H d = some (.dT (kvsF 0 ps)) ∧ H e = some (.dK (kvsT 0 (textsOf al ps)))
theorem JoinsAt.same {C p : Addr} {H H' : Hp} {al : List Nat} {ps : List (Nat × Nat)} (h : JoinsAt C H p al ps) (s : Same H H') : JoinsAt C H' p al ps := by
  obtain ⟨dx, t, tx, d, e, vs, h1, h2, h3, h4, h5, h6⟩ := h
  exact ⟨dx, t, tx, d, e, vs, s _ _ h1, s _ _ h2, h3.same (Same.t s), s _ _ h4, s _ _ h5, s _ _ h6⟩
/-- the class as the top has made it -/
structure JTxt (K : PySem.W.Frag) (C : Addr) : Prop where
  cl : Cls K C
  n1 : NoAttr K C "alphabet"
  n2 : NoAttr K C "pairs"
  n3 : NoAttr K C "_texts"
  n4 : NoAttr K C "_ranks"
  n5 : NoAttr K C "_pieces_by_text"
/-- all but p as it was -/
def SameX (p : Addr) (H H' : Hp) : Prop := ∀ b o, b ≠ p → H b = some o → H' b = some o
theorem Same.x {p : Addr} {H H' : Hp} (s : Same H H') : SameX p H H' := fun b o _ e => s b o e
theorem SameX.then {p : Addr} {H H1 H2 : Hp} (s : SameX p H H1) (t : Same H1 H2) : SameX p H H2 := fun b o h e => t b o (s b o h e)
theorem SameX.self {p : Addr} {H H1 : Hp} {o : HO} (s : SameX p H H1) : SameX p H (upd H1 p o) := fun b u h e => by rw [upd_ne h]; exact s b u h e
theorem SameX.put {p q : Addr} {H H1 : Hp} {o : HO} (s : SameX p H H1) (hq : H q = none) : SameX p H (upd H1 q o) := fun b u h e => by rw [upd_ne (ne_of_none e hq)]; exact s b u h e
theorem SameX.free {p q : Addr} {H H1 : Hp} (s : SameX p H H1) (hq : H1 q = none) (hp : ∃ o, H1 p = some o) : H q = none := by
  cases e : H q with
  | none => rfl
  | some o =>
    obtain ⟨u, hu⟩ := hp
    have h : q ≠ p := fun z => by rw [z, hu] at hq; cases hq
    rw [s q o h e] at hq; cases hq
theorem SameT.putO {H : Hp} {p : Addr} {o o' : HO} (h : H p = some o') (hne : ∀ xs, HO.tup xs ≠ o') : SameT H (upd H p o) := fun b ys e => by
  rw [upd_ne (ne_of e h (hne ys))]; exact e
/-- what __init__ keeps while it goes through the joins, behind n of them -/
def InitAt (C : Addr) (H : Hp) (p dx t tx d : Addr) (vs : List V) (al : List Nat) (ps : List (Nat × Nat)) (n : Nat) : Prop := H p = some (.ins C dx (f4 al t tx d)) ∧ H t = some (.tup vs) ∧ PairsAt H vs ps ∧
  H tx = some (.lst (strV (textsOf al (ps.take n)))) ∧ H d = some (.dT (kvsF 0 (ps.take n)))
theorem InitAt.same {C p dx t tx d : Addr} {H H' : Hp} {vs : List V} {al : List Nat} {ps : List (Nat × Nat)} {n : Nat} (h : InitAt C H p dx t tx d vs al ps n) (s : Same H H') : InitAt C H' p dx t tx d vs al ps n :=
  ⟨s _ _ h.1, s _ _ h.2.1, h.2.2.1.same (Same.t s), s _ _ h.2.2.2.1, s _ _ h.2.2.2.2⟩
theorem dc_it {J : It} {n : Nat} {G : Hp → Prop} {Y : Nat → Hp → V → Hp → Prop} (w : Walk J n G Y) {g : TG} {tt : TT} {tk tv : TE} {vs : List Nat} {σ : L2.St} {H1 : Hp} {D : Addr} {Qd : Hp → Prop} (Pv : Nat → Hp → Prop) (h0 : Pv 0 (upd H1 D (.dK []))) (hG : ∀ i H, i ≤ n → Pv i H → G H)
    (hs : ∀ i x H H', i < n → Pv i H → Y i H x H' → g x (wipe σ vs) H' fun σ2 H2 => wipe σ2 vs = wipe σ vs ∧ tt σ2 H2 fun b H3 =>
      if b = true then tk σ2 H3 fun y H4 => tv σ2 H4 fun z H5 => ∃ (kvs : List (Key × V)) (k : Key), y = kV k ∧ H5 D = some (.dK kvs) ∧ kvs.length < sizeLine ∧ Pv (i + 1) (upd H5 D (.dK (putK kvs k z))) else Pv (i + 1) H3) (hd : ∀ H, Pv n H → Qd H) :
    ∃ W : Nat → Nat → Hp → Prop, (∃ m, W 0 m (upd H1 D (.dK []))) ∧ ∀ i m H, W i m H →
      (J.stop i H ∧ Qd H) ∨ (J.go i H ∧ ∃ Nx : Hp → Prop, (∀ H', Nx H' → ∃ m', m' < m ∧ W (i + 1) m' H') ∧ ∀ x H', J.yld i H x H' → g x (wipe σ vs) H' fun σ2 H2 => wipe σ2 vs = wipe σ vs ∧ tt σ2 H2 fun b H3 =>
        if b = true then tk σ2 H3 fun y H4 => tv σ2 H4 fun z H5 => ∃ (kvs : List (Key × V)) (k : Key), y = kV k ∧ H5 D = some (.dK kvs) ∧ kvs.length < sizeLine ∧ Nx (upd H5 D (.dK (putK kvs k z))) else Nx H3) := by
  refine ⟨fun i m H => m = n - i ∧ i ≤ n ∧ Pv i H, ⟨n, by simp, Nat.zero_le _, h0⟩, ?_⟩
  rintro i m H ⟨rfl, hi, p⟩
  have q := hG i H hi p
  by_cases hlt : i < n
  · refine .inr ⟨w.goes i H hlt q, Pv (i + 1), fun H' p' => ⟨n - (i + 1), by omega, rfl, hlt, p'⟩, fun x H' y => hs i x H H' hlt p (w.yields i H x H' hlt q y)⟩
  · have e : i = n := by omega
    subst e
    exact .inl ⟨w.stops H q, hd H p⟩
abbrev s_Joins___init__ : Stmt := inClass (top 28) 0
abbrev N_Joins___init__ : List Str := ["self", "alphabet", "pairs", "rank", "pair", "left", "right", "piece", "text"]
theorem sc_Joins___init__ : FnScope N_Joins___init__ ["self", "alphabet", "pairs"] (C8.fnScope s_Joins___init__) := C8.fnScope_by (by decide +kernel)
abbrev s_Joins_check_piece : Stmt := inClass (top 28) 11
abbrev N_Joins_check_piece : List Str := ["self", "piece"]
theorem sc_Joins_check_piece : FnScope N_Joins_check_piece ["self", "piece"] (C8.fnScope s_Joins_check_piece) := C8.fnScope_by (by decide +kernel)
abbrev s_Joins_has_piece : Stmt := inClass (top 28) 10
abbrev N_Joins_has_piece : List Str := ["self", "piece"]
theorem sc_Joins_has_piece : FnScope N_Joins_has_piece ["self", "piece"] (C8.fnScope s_Joins_has_piece) := C8.fnScope_by (by decide +kernel)
def sp_init (C : Addr) : Sp := fun vs H Q _ => ∃ (p pa dx : Addr) (b : Bool) (al : List Nat) (ps : List (Nat × Nat)) (us : List V), vs = [.ref p, .str (S al), .ref pa] ∧ H p = some (.ins C dx []) ∧ SeqAt b H pa us ∧ PairsAt H us ps ∧
  alOk al = true ∧ al.Nodup ∧ al.length ≤ 30 ∧ Proper al ps ∧ ps.length ≤ 100 ∧ ∀ H', SameX p H H' → JoinsAt C H' p al ps → Q .non H'
section
variable {P : Program} {w : World} {K : PySem.W.Frag} {mg : Str → Option Value} {base : Heap}
theorem ok_init {f C : Addr} {fd : FuncData} (F : C8.Fun K "__init__" "Joins.__init__" s_Joins___init__ f fd) (T : Txt K mg) (J : JTxt K C) (c_check_alphabet : C8.Cal P w K mg base 3 "check_alphabet" sp_check_alphabet []) (c_may_follow : C8.Cal P w K mg base 3 "may_follow" sp_may_follow []) :
    FnOk P w K mg base C8.CX0 4 f fd ["self", "alphabet", "pairs"] (sp_init C) := by
  refine C8.fn0 F sc_Joins___init__ (fun vs H Q E h => ?_) (fun cdv A outer s H vs Q E hr h => ?_)
  · obtain ⟨p, pa, dx, b, al, ps, us, rfl, _⟩ := h; rfl
  · obtain ⟨p, pa, dx, b, al, ps, us, rfl, hp, hpa, hps, hal, hnd, hall, hprop, hpl, q⟩ := h
    have hu := hu_of hr
    refine ⟨_, (pss_cons (ps_expr (C8.pe_c c_check_alphabet hr (by first | decide | omega) (by rfl) (pa_cons (pv 1) pa_nil)))
      (pss_cons (ps_fld (pv 0) (pv 1) rfl)
      (pss_cons (ps_fld (pv 0) (pe_tupleOf (by rfl) T.b_tuple (pe_lc (own := [("left", 5), ("right", 6)]) (g := gTup K 2 (gCons (gName 5) (gCons (gName 6) (gNil)))) (tt := tYes) rfl sc_Joins___init__.nd (pi_seq (pv 2)) (blkOk_by (N := N_Joins___init__) (sc := C8.fnScope s_Joins___init__) (by decide +kernel)) (fun _ _ _ _ _ => (pg_tup rfl (pgs_cons (pg_name (i := 5) sc_Joins___init__.nd rfl (Or.inl rfl)) (pgs_cons (pg_name (i := 6) sc_Joins___init__.nd rfl (Or.inl rfl)) pgs_nil)))) (fun _ _ _ _ _ => pts_nil) (fun _ _ _ _ _ => (pe_tup (pa_cons (pv 5) (pa_cons (pv 6) pa_nil)))))) rfl)
      (pss_cons (ps_fld (pv 0) (pe_callTy (call_list_text rfl) (by rfl) T.b_list (by decide +kernel) (pa_cons (pv 1) pa_nil)) rfl)
      (pss_cons (ps_fld (pv 0) pe_dnewT rfl)
      (pss_cons (ps_for PassesOwn.never rfl (pi_enumG rfl T.b_enumerate (pa_cons (pe_fld (pv 0) rfl) pa_nil)) (pg_tup rfl (pgs_cons (pg_name (i := 3) sc_Joins___init__.nd rfl (Or.inl rfl)) (pgs_cons (pg_name (i := 4) sc_Joins___init__.nd rfl (Or.inl rfl)) pgs_nil))) (pss_cons (ps_if (pt_not (pt_val (C8.pe_c c_may_follow hr (by first | decide | omega) (by rfl) (pa_cons (pv 1) (pa_cons (pe_fld (pv 0) rfl) (pa_cons (pe_fld (pv 0) rfl) (pa_cons (pv 4) pa_nil))))))) (pss_one ps_never) pss_nil)
      (pss_cons (ps_expr (pe_bm PySem.F.plainAttrs_list PySem.F.slot_list_append PySem.F.type_list_append mt_append (pe_fld (pv 0) rfl) (pa_cons (pe_op op_add_str (pe_ix ix_list (pe_fld (pv 0) rfl) (pe_ix ix_tup (pv 4) pe_int (fun _ _ => rfl)) (fun _ _ => rfl)) (pe_ix ix_list (pe_fld (pv 0) rfl) (pe_ix ix_tup (pv 4) pe_int (fun _ _ => rfl)) (fun _ _ => rfl))) pa_nil)))
      (pss_one (ps_dput hu (pe_fld (pv 0) rfl) (pv 4) (pv 3) rfl)))))
      (pss_one (ps_fld (pv 0) (pe_dc (own := [("piece", 7), ("text", 8)]) (g := gTup K 2 (gCons (gName 7) (gCons (gName 8) (gNil)))) (tt := tYes) rfl sc_Joins___init__.nd (pi_enumG rfl T.b_enumerate (pa_cons (pe_fld (pv 0) rfl) pa_nil)) (blkOk_by (N := N_Joins___init__) (sc := C8.fnScope s_Joins___init__) (by decide +kernel)) (fun _ _ _ _ _ => (pg_tup rfl (pgs_cons (pg_name (i := 7) sc_Joins___init__.nd rfl (Or.inl rfl)) (pgs_cons (pg_name (i := 8) sc_Joins___init__.nd rfl (Or.inl rfl)) pgs_nil)))) (fun _ _ _ _ _ => pts_nil) (fun _ _ _ _ _ => (pv 8)) (fun _ _ _ _ _ => (pv 7))) rfl)))))))), ?_⟩
    have lens := f_len al
    refine ⟨_, rfl, al, rfl, by omega, hal, fun H1 s1 => ⟨_, rfl, _, rfl, p, C, dx, _, rfl, s1 _ _ hp, J.cl, J.n1, by show 0 < 1000; decide, ?_⟩⟩
    have x2 : SameX p H (upd H1 p (.ins C dx (f1 al))) := (Same.x s1).self
    have hp2 : (upd H1 p (.ins C dx (f1 al))) p = some (.ins C dx (f1 al)) := upd_same
    revert hp2 x2
    show SameX p H (upd H1 p (.ins C dx (f1 al))) → (upd H1 p (.ins C dx (f1 al))) p = some (.ins C dx (f1 al)) → tSeq _ _ _ _ (upd H1 p (.ins C dx (f1 al)))
    generalize upd H1 p (.ins C dx (f1 al)) = H2
    intro x2 hp2
    have hpap : pa ≠ p := by
      cases b with
      | true => exact ne_of hpa hp (by intro z; cases z)
      | false => exact ne_of hpa hp (by intro z; cases z)
    have sT2 : ∀ H3, SameX p H H3 → PairsAt H3 us ps := fun H3 x => hps.same fun b xs e => x b _ (fun z => by rw [z, hp] at e; cases e) e
    have hpa2 : SeqAt b H2 pa us := x2 _ _ hpap hpa
    -- self.pairs
    refine ⟨_, rfl, b, pa, us, rfl, hpa2, fun D hD => lc_it walk_seq (fun i H' => Same H2 H' ∧ ∃ ws, H' D = some (.lst ws) ∧ PairsAt H' ws (ps.take i)) ⟨same_new hD, [], upd_same, .nil⟩ (fun i H' _ ⟨sa, _⟩ => hpa2.same sa) ?_ ?_⟩
    · rintro i x Ha Hb hi ⟨sa, ws, hws, hP⟩ ⟨rfl, hx⟩
      obtain ⟨⟨l, r⟩, hpi, qa, rfl, hqa⟩ := Paired.at (sT2 _ (x2.then sa)) hx
      refine ⟨qa, _, rfl, SqT.of hqa, rfl, _, _, rfl, _, _, rfl, rfl, rfl, _, rfl, _, rfl, by show 2 ≤ sizeLine; decide, fun z hz => ?_⟩
      have hDz : D ≠ z := ne_of_none hws hz
      have hws' : upd Hb z (.tup [.int (l : Int), .int (r : Int)]) D = some (.lst ws) := (upd_ne hDz).trans hws
      refine ⟨ws, hws', small1000 ?_, Same.put (Same.new sa hz) hD, _, upd_same, ?_⟩
      · have e1 := hP.length
        rw [List.length_take] at e1; omega
      · rw [take_succ_of hpi]
        refine Paired.snoc ⟨z, rfl, SameT.put hws' _ _ upd_same⟩ ?_
        exact (hP.same (Same.t (same_new hz))).same (SameT.put hws')
    rintro H3 ⟨s3, ws, hws, hP3⟩
    have hlen0 : us.length = ps.length := hps.length
    rw [hlen0, List.take_length] at hP3
    refine .inl ⟨D, ws, rfl, SqL.of hws, fun t ht => ⟨_, rfl, p, C, dx, _, rfl, (Same.new s3 ht) _ _ hp2, J.cl, J.n2, lens 0 0 0 |>.1, ?_⟩⟩
    have x4 : SameX p H (upd (upd H3 t (.tup ws)) p (.ins C dx (f2 al t))) := (x2.then (Same.new s3 ht)).self
    have hp4 : (upd (upd H3 t (.tup ws)) p (.ins C dx (f2 al t))) p = some (.ins C dx (f2 al t)) := upd_same
    have hptn : t ≠ p := fun z => by rw [z, s3 _ _ hp2] at ht; cases ht
    have ht4 : (upd (upd H3 t (.tup ws)) p (.ins C dx (f2 al t))) t = some (.tup ws) := (upd_ne hptn).trans upd_same
    have hP4 : PairsAt (upd (upd H3 t (.tup ws)) p (.ins C dx (f2 al t))) ws ps :=
      (hP3.same (Same.t (same_new ht))).same (SameT.putO ((Same.new s3 ht) _ _ hp2) (by intro xs z; cases z))
    revert x4 hp4 ht4 hP4
    show SameX p H (upd (upd H3 t (.tup ws)) p (.ins C dx (f2 al t))) → (upd (upd H3 t (.tup ws)) p (.ins C dx (f2 al t))) p = some (.ins C dx (f2 al t)) → (upd (upd H3 t (.tup ws)) p (.ins C dx (f2 al t))) t = some (.tup ws) → PairsAt (upd (upd H3 t (.tup ws)) p (.ins C dx (f2 al t))) ws ps → tSeq _ _ _ _ (upd (upd H3 t (.tup ws)) p (.ins C dx (f2 al t)))
    generalize upd (upd H3 t (.tup ws)) p (.ins C dx (f2 al t)) = H4
    intro x4 hp4 ht4 hP4
    -- self._texts, self._ranks
    refine ⟨_, rfl, S al, rfl, by rw [S_size]; exact small_le (by omega), fun tx htx => ⟨_, rfl, p, C, dx, _, rfl, (same_new htx) _ _ hp4, J.cl, J.n3, lens t 0 0 |>.2.1, ?_⟩⟩
    intro d hd
    refine ⟨_, rfl, p, C, dx, _, rfl, (upd_ne (ne_of_none upd_same hd)).trans upd_same, J.cl, J.n4, lens t tx 0 |>.2.2.1, ?_⟩
    have htx0 : H tx = none := x4.free htx ⟨_, hp4⟩
    have etx : signsV (S al) = strV (textsOf al (ps.take 0)) := by
      rw [List.take_zero]
      show (al.toArray.toList.map fun c => V.str ⟨#[c]⟩) = strV (al.map fun c => [c])
      rw [strV, List.map_map]; rfl
    have txp : tx ≠ p := fun z => by rw [z, hp4] at htx; cases htx
    have hdp : d ≠ p := fun z => by rw [z, upd_same] at hd; cases hd
    have hdtx : tx ≠ d := fun z => by rw [← z, upd_ne txp, upd_same] at hd; cases hd
    have hd0 : H4 d = none := by
      rw [upd_ne hdp, upd_ne (Ne.symm hdtx)] at hd; exact hd
    have hd00 : H d = none := x4.free hd0 ⟨_, hp4⟩
    have start : ∃ (v3 v4 : Option V), [some (V.ref p), some (.str (S al)), some (.ref pa), none, none, none, none, none, none] = [some (V.ref p), some (.str (S al)), some (.ref pa), v3, v4, none, none, none, none] ∧ InitAt C (upd (upd (upd (upd H4 tx (.lst (signsV (S al)))) p (.ins C dx (f3 al t tx))) d (.dT [])) p (.ins C dx (f4 al t tx d))) p dx t tx d ws al ps 0 ∧
        SameX p H (upd (upd (upd (upd H4 tx (.lst (signsV (S al)))) p (.ins C dx (f3 al t tx))) d (.dT [])) p (.ins C dx (f4 al t tx d))) := by
      have xa : SameX p H4 (upd (upd (upd (upd H4 tx (.lst (signsV (S al)))) p (.ins C dx (f3 al t tx))) d (.dT [])) p (.ins C dx (f4 al t tx d))) :=
        (((Same.x (p := p) (same_new htx)).self).put hd0).self
      have xb : ∀ b o, b ≠ p → H b = some o → H4 b = some o := x4
      have tT : SameT H4 (upd (upd (upd (upd H4 tx (.lst (signsV (S al)))) p (.ins C dx (f3 al t tx))) d (.dT [])) p (.ins C dx (f4 al t tx d))) := fun b xs e => xa b _ (fun z => by rw [z, hp4] at e; cases e) e
      refine ⟨none, none, rfl, ⟨upd_same, tT _ _ ht4, hP4.same tT, ?_, ?_⟩, fun b o hb e => xa b o hb (x4 b o hb e)⟩
      · rw [upd_ne txp, upd_ne hdtx, upd_ne txp, upd_same, etx]
      · rw [upd_ne hdp, upd_same]; rfl
    revert start
    show (∃ (v3 v4 : Option V), _ ∧ InitAt C (upd (upd (upd (upd H4 tx (.lst (signsV (S al)))) p (.ins C dx (f3 al t tx))) d (.dT [])) p (.ins C dx (f4 al t tx d))) p dx t tx d ws al ps 0 ∧ SameX p H (upd (upd (upd (upd H4 tx (.lst (signsV (S al)))) p (.ins C dx (f3 al t tx))) d (.dT [])) p (.ins C dx (f4 al t tx d)))) → tSeq _ _ _ _ (upd (upd (upd (upd H4 tx (.lst (signsV (S al)))) p (.ins C dx (f3 al t tx))) d (.dT [])) p (.ins C dx (f4 al t tx d)))
    generalize upd (upd (upd (upd H4 tx (.lst (signsV (S al)))) p (.ins C dx (f3 al t tx))) d (.dT [])) p (.ins C dx (f4 al t tx d)) = H5
    intro start
    have hlenw : ws.length = ps.length := hP4.length
    obtain ⟨_, _, _, i0, _⟩ := id start
    refine ⟨_, rfl, p, C, dx, _, _, rfl, i0.1, J.cl, J.n2, f4_pairs al t tx d, _, _, _, _, rfl, src_seq (b := false) i0.2.1, for_it walkG (fun i σ H' => ∃ (v3 v4 : Option V), σ = [some (V.ref p), some (.str (S al)), some (.ref pa), v3, v4, none, none, none, none] ∧ InitAt C H' p dx t tx d ws al ps i ∧ SameX p H H') start (fun i σ H' _ ⟨_, _, _, ia, _⟩ => ia.2.1) ?_ ?_⟩
    · rintro i x σ Ha Hb hi ⟨v3, v4, rfl, ia, xa⟩ ⟨Tt, xs, rfl, hT, rfl, v, hv, rfl⟩
      obtain ⟨⟨l, r⟩, hpi, qa, rfl, hqa⟩ := Paired.at ia.2.2.1 hv
      have ib := ia.same (same_new hT (o := .tup [.int (i : Int), .ref qa]))
      have xb : SameX p H (upd Ha Tt (.tup [.int (i : Int), .ref qa])) := xa.then (same_new hT)
      have hqb : (upd Ha Tt (.tup [.int (i : Int), .ref qa])) qa = some (.tup [.int (l : Int), .int (r : Int)]) := (same_new hT) _ _ hqa
      have hTb : (upd Ha Tt (.tup [.int (i : Int), .ref qa])) Tt = some (.tup [.int (i : Int), .ref qa]) := upd_same
      revert ib xb hqb hTb
      show InitAt C (upd Ha Tt (.tup [.int (i : Int), .ref qa])) p dx t tx d ws al ps i → SameX p H (upd Ha Tt (.tup [.int (i : Int), .ref qa])) → (upd Ha Tt (.tup [.int (i : Int), .ref qa])) qa = some (.tup [.int (l : Int), .int (r : Int)]) → (upd Ha Tt (.tup [.int (i : Int), .ref qa])) Tt = some (.tup [.int (i : Int), .ref qa]) → gTup K 2 _ _ _ (upd Ha Tt (.tup [.int (i : Int), .ref qa])) _
      generalize upd Ha Tt (.tup [.int (i : Int), .ref qa]) = Hb
      intro ib xb hqb hTb
      obtain ⟨b1, b2, b3, b4, b5⟩ := ib
      have hok := hprop i (l, r) hpi
      have htl : (textsOf al (ps.take i)).length ≤ 200 := by rw [textsOf_len, List.length_take]; omega
      refine ⟨Tt, _, rfl, SqT.of hTb, rfl, _, _, rfl, _, _, rfl, rfl, ?_⟩
      refine ⟨_, rfl, _, rfl, p, C, dx, _, _, rfl, b1, J.cl, J.n3, f4_texts al t tx d, _, rfl, p, C, dx, _, _, rfl, b1, J.cl, J.n4, f4_ranks al t tx d, _, rfl, al, textsOf al (ps.take i), ps.take i, (l : Int), (r : Int), tx, d, qa, rfl, b4, b5, hqb, (hprop.take i).wf, textsOf_al, (hprop.take i).short, by omega, by omega,
        fun p' e1 e2 ok Hc sc => ⟨_, rfl, iteF ?_⟩, fun hno => absurd hok (hno (l, r) rfl rfl)⟩
      have ic : InitAt C Hc p dx t tx d ws al ps i := InitAt.same ⟨b1, b2, b3, b4, b5⟩ sc
      have xc : SameX p H Hc := xb.then sc
      have hqc := sc _ _ hqb
      obtain ⟨c1, c2, c3, c4, c5⟩ := ic
      have hg1 : l < (textsOf al (ps.take i)).length := hok.1
      have hg2 : r < (textsOf al (ps.take i)).length := hok.2.1
      have hsum : ((textsOf al (ps.take i)).getD l []).length + ((textsOf al (ps.take i)).getD r []).length ≤ 40 := by
        have := hok.2.2.1
        rw [List.length_append] at this; exact this
      have hts : textsOf al (ps.take i) ++ [(textsOf al (ps.take i)).getD l [] ++ (textsOf al (ps.take i)).getD r []] = textsOf al (ps.take (i + 1)) := by rw [take_succ_of hpi, textsOf_snoc]
      refine ⟨_, rfl, p, C, dx, _, _, rfl, c1, J.cl, J.n3, f4_texts al t tx d, .inl ⟨rfl, _, SqL.of c4⟩, ?_⟩
      refine ⟨_, rfl, p, C, dx, _, _, rfl, c1, J.cl, J.n3, f4_texts al t tx d, _, rfl, qa, _, 0, _, rfl, rfl, SqT.of hqc, rfl, tx, _, _, _, rfl, rfl, SqL.of c4, atI_nat (strV_at hg1),
        _, rfl, p, C, dx, _, _, rfl, c1, J.cl, J.n3, f4_texts al t tx d, _, rfl, qa, _, 1, _, rfl, rfl, SqT.of hqc, rfl, tx, _, _, _, rfl, rfl, SqL.of c4, atI_nat (strV_at hg2), S _, S _, rfl, rfl, ?_, ?_⟩
      · rw [S_len, S_len]
        exact small_le (by omega)
      refine ⟨tx, _, _, rfl, rfl, c4, by rw [strV_len]; exact small1000 (by omega), ?_⟩
      rw [S_cat, strV_snoc, hts]
      have ntx : ∀ (b : Addr) (o : HO), Hc b = some o → (∀ ys, o ≠ .lst ys) → (upd Hc tx (.lst (strV (textsOf al (ps.take (i + 1)))))) b = some o := fun b o e hne => by
        rw [upd_ne (ne_of e c4 (hne _))]; exact e
      have hd2 := ntx d _ c5 (by intro ys z; cases z)
      have hq2 := ntx qa _ hqc (by intro ys z; cases z)
      refine ⟨_, rfl, _, rfl, p, C, dx, _, _, rfl, ntx p _ c1 (by intro ys z; cases z), J.cl, J.n4, f4_ranks al t tx d, _, rfl, d, _, rfl, DPut.t (k := pkey (l, r)) hd2 hq2 (by rw [kvsF_len, List.length_take]; exact small1000 (by omega)), ?_⟩
      have hnew : putK (kvsF 0 (ps.take i)) (pkey (l, r)) (V.int (i : Int)) = kvsF 0 (ps.take (i + 1)) := by
        have hnot : (l, r) ∉ ps.take i := fun hm => by
          have := cut_clean (hprop.take i).wf (lets al ((textsOf al (ps.take i)).getD l [] ++ (textsOf al (ps.take i)).getD r [])) _ hm
          rw [show cutL al.length (ps.take i) (lets al ((textsOf al (ps.take i)).getD l [] ++ (textsOf al (ps.take i)).getD r [])) = [l, r] from hok.2.2.2] at this
          exact this (by show (l, r) ∈ [(l, r)]; exact List.mem_cons_self ..)
        have h0 : valV (kvsF 0 (ps.take i)) (pkey (l, r)) = none := by rw [kvsF_get, if_neg hnot]
        rw [putK_new _ h0, take_succ_of hpi, kvsF_snoc, take_len_of hpi, Nat.zero_add]
      rw [hnew]
      have nd : ∀ (b : Addr) (o : HO), (upd Hc tx (.lst (strV (textsOf al (ps.take (i + 1)))))) b = some o → (∀ ys, o ≠ .dT ys) → (upd (upd Hc tx (.lst (strV (textsOf al (ps.take (i + 1)))))) d (.dT (kvsF 0 (ps.take (i + 1))))) b = some o := fun b o e hne => by
        rw [upd_ne (ne_of e hd2 (hne _))]; exact e
      have tT : SameT Hc (upd (upd Hc tx (.lst (strV (textsOf al (ps.take (i + 1)))))) d (.dT (kvsF 0 (ps.take (i + 1))))) := fun b xs e => nd b _ (ntx b _ e (by intro ys z; cases z)) (by intro ys z; cases z)
      refine ⟨_, _, rfl, ⟨nd p _ (ntx p _ c1 (by intro ys z; cases z)) (by intro ys z; cases z), tT _ _ c2, c3.same tT, nd tx _ upd_same (by intro ys z; cases z), upd_same⟩, ?_⟩
      exact (xc.put htx0).put hd00
    · rintro σ H6 ⟨v3, v4, rfl, ⟨c1, c2, c3, c4, c5⟩, x6⟩
      rw [hlenw, List.take_length] at c4 c5
      refine ⟨_, rfl, p, C, dx, _, _, rfl, c1, J.cl, J.n3, f4_texts al t tx d, _, _, _, _, rfl, src_seq (b := true) c4, fun D2 hD2 => dc_it walkG (fun i H' => Same H6 H' ∧ H' D2 = some (.dK (kvsT 0 ((textsOf al ps).take i)))) ⟨same_new hD2, upd_same⟩ (fun i H' _ ⟨sa, _⟩ => sa _ _ c4) ?_ ?_⟩
      · rintro i x Ha Hb hi ⟨sa, ha⟩ ⟨Tt, xs, rfl, hT, rfl, v, hv, rfl⟩
        have hvt : ∃ u, (textsOf al ps)[i]? = some u ∧ v = .str (S u) := by
          rw [strV, List.getElem?_map] at hv
          cases e : (textsOf al ps)[i]? with
          | none => rw [e] at hv; cases hv
          | some u => rw [e] at hv; exact ⟨u, rfl, (Option.some.inj hv).symm⟩
        obtain ⟨u, hu1, rfl⟩ := hvt
        have hne : D2 ≠ Tt := ne_of_none ha hT
        refine ⟨Tt, _, rfl, SqT.of upd_same, rfl, _, _, rfl, _, _, rfl, rfl, rfl, _, rfl, _, rfl, _, Sum.inr (S u), rfl, (upd_ne hne).trans ha, ?_, Same.put (Same.new sa hT) hD2, ?_⟩
        · rw [kvsT_len, List.length_take, textsOf_len]; exact small1000 (by omega)
        · have hnot : u ∉ (textsOf al ps).take i := fun hm => by
            obtain ⟨j, hj, ej⟩ := mem_take_get hm
            have := texts_inj hnd hprop ej hu1; omega
          have h0 : valV (kvsT 0 ((textsOf al ps).take i)) (Sum.inr (S u) : Key) = none := by rw [kvsT_get, if_neg hnot]
          rw [upd_same, putK_new _ h0, take_succ_of hu1, kvsT_snoc, take_len_of hu1, Nat.zero_add]
      · rintro H7 ⟨s7, h7⟩
        have en : (strV (textsOf al ps)).length = (textsOf al ps).length := strV_len _
        rw [en, List.take_length] at h7
        refine ⟨_, rfl, p, C, dx, _, rfl, s7 _ _ c1, J.cl, J.n5, lens t tx d |>.2.2.2, q _ (x6.then s7).self ⟨dx, t, tx, d, D2, ws, upd_same, ?_⟩⟩
        have nx : ∀ (b : Addr) (o : HO), H7 b = some o → (∀ fs, o ≠ .ins C dx fs) → (upd H7 p (.ins C dx (putF "_pieces_by_text" (.ref D2) (f4 al t tx d)))) b = some o := fun b o e hne => by
          rw [upd_ne (ne_of e (s7 _ _ c1) (hne _))]; exact e
        have tT : SameT H6 (upd H7 p (.ins C dx (putF "_pieces_by_text" (.ref D2) (f4 al t tx d)))) := fun b xs e => nx b _ (s7 _ _ e) (by intro fs z; cases z)
        exact ⟨tT _ _ c2, c3.same tT, nx tx _ (s7 _ _ c4) (by intro fs z; cases z), nx d _ (s7 _ _ c5) (by intro fs z; cases z), nx D2 _ h7 (by intro fs z; cases z)⟩
end
end RJ
end

section
set_option maxRecDepth 100000
set_option maxHeartbeats 4000000
namespace RJ
open PySem PySem.Spec PyProof.Rows L2

theorem joinL_nil : ∀ ys : List (List Nat), TL.joinL [] ys = ys.flatten
  | [] => rfl
  | [y] => by show y = y ++ []; rw [List.append_nil]
  | y :: z :: ys => by
    show y ++ ([] ++ TL.joinL [] (z :: ys)) = y ++ (z :: ys).flatten
    rw [List.nil_append, joinL_nil (z :: ys)]
def sp_has_piece (C : Addr) : Sp := fun vs H Q _ => ∃ (p : Addr) (x : V) (al : List Nat) (ps : List (Nat × Nat)), vs = [.ref p, x] ∧ JoinsAt C H p al ps ∧ Kind H x ∧ Q (.bl (numBelow x ((al.length + ps.length : Nat) : Int))) H
def sp_check_piece (C : Addr) : Sp := fun vs H Q _ => ∃ (p : Addr) (i : Nat) (al : List Nat) (ps : List (Nat × Nat)), vs = [.ref p, .int (i : Int)] ∧ JoinsAt C H p al ps ∧ i < al.length + ps.length ∧ Q .non H
def sp_text_of (C : Addr) : Sp := fun vs H Q _ => ∃ (p : Addr) (i : Nat) (al : List Nat) (ps : List (Nat × Nat)), vs = [.ref p, .int (i : Int)] ∧ JoinsAt C H p al ps ∧ i < al.length + ps.length ∧ Q (.str (S ((textsOf al ps).getD i []))) H
def sp_join_row (C : Addr) : Sp := fun vs H Q _ => ∃ (p a : Addr) (k : Bool) (row al : List Nat) (ps : List (Nat × Nat)), vs = [.ref p, .ref a] ∧ JoinsAt C H p al ps ∧ WF al.length ps ∧ RowAt k H a row ∧ row.length ≤ 1000 ∧ al.length ≤ 1000 ∧
  ∀ H' q k', Same H H' → (k = true → k' = true) → RowAt k' H' q (cutL al.length ps row) → Q (.ref q) H'
def sp_letters_of (C : Addr) : Sp := fun vs H Q _ => ∃ (p : Addr) (t al : List Nat) (ps : List (Nat × Nat)), vs = [.ref p, .str (S t)] ∧ JoinsAt C H p al ps ∧ (∀ c ∈ t, c ∈ al) ∧ t.length ≤ 1000 ∧
  ∀ H' q, Same H H' → H q = none → RowAt false H' q (lets al t) → Q (.ref q) H'
def sp_cut (C : Addr) : Sp := fun vs H Q _ => ∃ (p : Addr) (t al : List Nat) (ps : List (Nat × Nat)), vs = [.ref p, .str (S t)] ∧ JoinsAt C H p al ps ∧ WF al.length ps ∧ (∀ c ∈ t, c ∈ al) ∧ t.length ≤ 1000 ∧ al.length ≤ 1000 ∧
  ∀ H' q, Same H H' → RowAt false H' q (cutL al.length ps (lets al t)) → Q (.ref q) H'
def sp_text_of_row (C : Addr) : Sp := fun vs H Q _ => ∃ (p a : Addr) (b : Bool) (row al : List Nat) (ps : List (Nat × Nat)), vs = [.ref p, .ref a] ∧ JoinsAt C H p al ps ∧ Proper al ps ∧ RowAt b H a row ∧ (∀ i ∈ row, i < al.length + ps.length) ∧ row.length ≤ 1000 ∧
  ∀ H', Same H H' → Q (.str (S (textR (textsOf al ps) row))) H'
theorem sum_le {l : List (List Nat)} (h : ∀ t ∈ l, t.length ≤ 40) : ((l.map fun t => S t).map (·.length)).sum ≤ 40 * l.length := by
  induction l with
  | nil => exact Nat.le_refl _
  | cons t l ih =>
    have h1 := ih fun u hu => h u (List.mem_cons_of_mem _ hu)
    have h2 := h t (List.mem_cons_self ..)
    rw [List.map_cons, List.map_cons, List.sum_cons, S_len, List.length_cons]
    omega
section
variable {P : Program} {w : World} {K : PySem.W.Frag} {mg : Str → Option Value} {base : Heap}
theorem ok_has_piece {f C : Addr} {fd : FuncData} (F : C8.Fun K "has_piece" "Joins.has_piece" s_Joins_has_piece f fd) (T : Txt K mg) (J : JTxt K C) (c_is_number_below : C8.Cal P w K mg base 2 "is_number_below" sp_is_number_below []) : FnOk P w K mg base C8.CX0 3 f fd ["self", "piece"] (sp_has_piece C) := by
  refine C8.fn0 F sc_Joins_has_piece (fun vs H Q E h => ?_) (fun cdv A outer s H vs Q E hr h => ?_)
  · obtain ⟨p, x, al, ps, rfl, _⟩ := h; rfl
  · obtain ⟨p, x, al, ps, rfl, ⟨dx, t, tx, d, e, ws, h1, h2, h3, h4, h5, h6⟩, k, q⟩ := h
    refine ⟨_, (pss_one (ps_ret (C8.pe_c c_is_number_below hr (by first | decide | omega) (by rfl) (pa_cons (pv 1) (pa_cons (pe_callB call_len_seq (by rfl) T.b_len PySem.boot_len (pa_cons (pe_fld (pv 0) rfl) pa_nil)) pa_nil))))), ?_⟩
    refine ⟨_, rfl, _, rfl, p, C, dx, _, _, rfl, h1, J.cl, J.n3, f5_texts al t tx d e, tx, _, rfl, .inl (SqL.of h4), x, _, rfl, k, ?_⟩
    rw [strV_len, textsOf_len]; exact q
theorem ok_check_piece {f C : Addr} {fd : FuncData} (F : C8.Fun K "check_piece" "Joins.check_piece" s_Joins_check_piece f fd) (T : Txt K mg) (J : JTxt K C) (m_has_piece : C8.Met P w K mg base 3 C "has_piece" (sp_has_piece C) []) : FnOk P w K mg base C8.CX0 4 f fd ["self", "piece"] (sp_check_piece C) := by
  refine C8.fn0 F sc_Joins_check_piece (fun vs H Q E h => ?_) (fun cdv A outer s H vs Q E hr h => ?_)
  · obtain ⟨p, i, al, ps, rfl, _⟩ := h; rfl
  · obtain ⟨p, i, al, ps, rfl, hj, hi, q⟩ := h
    obtain ⟨dx, t, tx, d, e, ws, h1, h2, h3, h4, h5, h6⟩ := id hj
    refine ⟨_, (pss_one (ps_if (pt_not (pt_val (C8.pe_mt m_has_piece hr (by first | decide | omega) (pv 0) (pa_cons (pv 1) pa_nil)))) (pss_one ps_never) pss_nil)), ?_⟩
    refine ⟨_, rfl, p, dx, _, rfl, h1, f5_no al t tx d e (by decide +kernel) (by decide +kernel) (by decide +kernel) (by decide +kernel) (by decide +kernel), _, rfl, p, _, al, ps, rfl, hj, .int _, _, rfl, ?_⟩
    rw [numBelow_yes hi]
    exact iteF q
end
end RJ
end

section
set_option maxRecDepth 100000
set_option maxHeartbeats 4000000
namespace RJ
open PySem PySem.Spec PyProof.Rows L2
theorem hu65_of {A : Around} {k : Nat} (hr : Room k A) : A.units + 65 < cLine := by have := hr.un; omega
theorem pe_never {X : Cx} {e : Expr} : PE X e (fun _ _ _ => False) := ⟨fun _ _ _ _ _ _ h => h.elim⟩

def sp_numbers : Sp := fun vs H Q _ => ∃ (c a : Int) (m : Nat), vs = [.int c, .int a, .int (m : Int)] ∧ 0 ≤ a ∧ a ≤ 1000 ∧ m ≤ 200 ∧
  ∀ H' p ns, Same H H' → H p = none → ns.length = m → (∀ n ∈ ns, n < 1000) → H' p = some (.lst (iv ns)) → Q (.ref p) H'
/-- the same data of this depth at most -/
def scalV : V → Bool
  | .non => true
  | .bl _ => true
  | .int _ => true
  | .str _ => true
  | _ => false
def SameD (H : Hp) : Nat → V → V → Prop
  | 0, x, y => x = y ∧ scalV x = true
  | n + 1, x, y => (x = y ∧ scalV x = true) ∨ ∃ a b xs ys, x = .ref a ∧ y = .ref b ∧ H a = some (.tup xs) ∧ H b = some (.tup ys) ∧ xs.length ≤ 1000 ∧ Paired (SameD H n) xs ys
theorem SameD.flat {H : Hp} {x : V} (h : scalV x = true) : ∀ n, SameD H n x x
  | 0 => ⟨rfl, h⟩
  | _ + 1 => .inl ⟨rfl, h⟩
theorem Paired.same {α : Type} {F : α → α → Prop} : ∀ {l : List α}, (∀ x ∈ l, F x x) → Paired F l l
  | [], _ => .nil
  | x :: l, h => .cons (h x (List.mem_cons_self ..)) (Paired.same fun y hy => h y (List.mem_cons_of_mem _ hy))
theorem SameD.row {H : Hp} {a b : Addr} {l : List Nat} (ha : H a = some (.tup (iv l))) (hb : H b = some (.tup (iv l))) (hl : l.length ≤ 1000) : SameD H 1 (.ref a) (.ref b) :=
  .inr ⟨a, b, _, _, rfl, rfl, ha, hb, by rw [iv_len]; exact hl, Paired.same fun x hx => by
    obtain ⟨n, _, rfl⟩ := List.mem_map.mp hx
    exact ⟨rfl, rfl⟩⟩
theorem SameD.mono {H H' : Hp} (s : Same H H') : ∀ {n : Nat} {x y : V}, SameD H n x y → SameD H' n x y
  | 0, _, _, h => h
  | n + 1, _, _, h => by
    rcases h with h | ⟨a, b, xs, ys, h1, h2, h3, h4, h5, h6⟩
    · exact .inl h
    · exact .inr ⟨a, b, xs, ys, h1, h2, s _ _ h3, s _ _ h4, h5, Paired.mapP h6 fun x y q => SameD.mono s q⟩
def sp_same (n : Nat) : Sp := fun vs H Q _ => ∃ x y, vs = [x, y] ∧ SameD H n x y ∧ ∀ H', Same H H' → Q (.bl true) H'
theorem emod_nat (z m : Int) (h : 0 < m) : ∃ n : Nat, z % m = (n : Int) ∧ (n : Int) < m := ⟨(z % m).toNat, by have := Int.emod_nonneg z (by omega : m ≠ 0); omega, by have := Int.emod_lt_of_pos z h; have := Int.emod_nonneg z (by omega : m ≠ 0); omega⟩
theorem abs_nonneg (c : Int) : 0 ≤ (if c < 0 then -c else c) := by split <;> omega
section
variable {P : Program} {w : World} {K : PySem.W.Frag} {mg : Str → Option Value} {base : Heap}
end
end RJ
end

section
set_option maxRecDepth 100000
set_option maxHeartbeats 4000000
namespace RJ
open PySem PySem.Spec PyProof.Rows L2

/-! ### the alphabet -/
/-- the signs that are drawn: all from blank to tilde but one -/
def SG : List Nat := ((List.range 127).drop 32).filter fun c => c != 37
theorem SG_len : SG.length = 94 := by decide +kernel
theorem SG_in : ∀ c ∈ SG, 32 ≤ c ∧ c ≤ 126 := by decide +kernel
/-- signs as values -/
def sv (ls : List Nat) : List Str := ls.map fun c => S [c]
theorem sv_inj {a b : Nat} (h : S [a] = S [b]) : a = b := by
  have := S_inj h
  exact List.head_eq_of_cons_eq this
theorem in_sv {c : Nat} {ls : List Nat} : inV (.str (S [c])) ((sv ls).map V.str) = decide (c ∈ ls) := by
  unfold inV sv
  rw [List.map_map, List.any_map]
  induction ls with
  | nil => rfl
  | cons d ls ih =>
    rw [List.any_cons, ih]
    show ((S [d] == S [c]) || decide (c ∈ ls)) = _
    by_cases h : d = c
    · subst h
      rw [beq_self_eq_true, Bool.true_or, decide_eq_true (List.mem_cons_self ..)]
    · rw [beq_eq_false_iff_ne.mpr fun e => h (sv_inj e), Bool.false_or]
      exact decide_eq_decide.mpr ⟨List.mem_cons_of_mem _, fun z => (List.mem_cons.mp z).resolve_left fun e => h e.symm⟩
theorem flat_sv (ls : List Nat) : ((sv ls).map V.str).all flatV = true := by
  unfold sv
  rw [List.map_map, List.all_map]
  exact List.all_eq_true.mpr fun _ _ => rfl
def hd1 (z : Str) : Nat := z.cps.toList.headD 0
theorem sv_perm {ys : List Str} {ls : List Nat} (h : ys.Perm (sv ls)) : ∃ al, ys = sv al ∧ al.Perm ls := by
  refine ⟨ys.map hd1, ?_, ?_⟩
  · unfold sv
    rw [List.map_map]
    conv => lhs; rw [← List.map_id ys]
    refine List.map_congr_left fun y hy => ?_
    obtain ⟨c, _, rfl⟩ := List.mem_map.mp (h.mem_iff.mp hy)
    rfl
  · have := h.map hd1
    unfold sv at this
    rw [List.map_map] at this
    have e : List.map (hd1 ∘ fun c => S [c]) ls = ls := by
      conv => rhs; rw [← List.map_id ls]
      exact List.map_congr_left fun c _ => rfl
    rw [e] at this; exact this
theorem asc_sorted : ∀ {al : List Nat}, sortedS (sv al) = true → al.Nodup → (ascL al).all id = true
  | [], _, _ => rfl
  | [_], _, _ => rfl
  | a :: b :: al, h, hn => by
    have h' : (!ltCps (S [b]).cps.toList (S [a]).cps.toList && risingS (S [b]) (sv al)) = true := h
    rw [Bool.and_eq_true, Bool.not_eq_true'] at h'
    have ih : (ascL (b :: al)).all id = true := asc_sorted (al := b :: al) h'.2 (List.nodup_cons.mp hn).2
    have hab : a ≠ b := fun e => (List.nodup_cons.mp hn).1 (e ▸ List.mem_cons_self ..)
    have hlt : a < b := by
      have h1 : ltCps [b] [a] = false := h'.1
      have h2 : ¬ b < a := fun z => by
        have : ltCps [b] [a] = true := by simp [ltCps, z]
        rw [this] at h1; cases h1
      omega
    show ((decide (a < b) :: ascL (b :: al)).all id) = true
    rw [List.all_cons, ih, decide_eq_true hlt]; rfl
theorem alOk_of {al : List Nat} (h1 : (ascL al).all id = true) (h2 : ∀ c ∈ al, c ∈ SG) (h3 : 1 ≤ al.length) (h4 : al.length ≤ 30) : alOk al = true := by
  unfold alOk
  rw [decide_eq_true ⟨h3, h4⟩, h1, Bool.true_and, Bool.true_and, List.all_map]
  exact List.all_eq_true.mpr fun c hc => decide_eq_true (SG_in c (h2 c hc))
theorem flat1 (al : List Nat) : (al.map fun c => [c]).flatten = al := by
  induction al with
  | nil => rfl
  | cons a al ih => rw [List.map_cons, List.flatten_cons, ih]; rfl
theorem join1 (al : List Nat) : PySem.Txt.join (S []) (sv al) = S al := by
  have e : sv al = (al.map fun c => [c]).map SX.S := by unfold sv; rw [List.map_map]; rfl
  rw [e, SX.join_S, joinL_nil, flat1]
theorem sum1 (al : List Nat) : ((sv al).map (·.length)).sum = al.length := by
  induction al with
  | nil => rfl
  | cons a al ih =>
    show (S [a]).length + ((sv al).map (·.length)).sum = _
    rw [ih, S_len, List.length_cons, List.length_cons, List.length_nil]; omega
def sp_alphabet : Sp := fun vs H Q _ => ∃ (p : Addr) (ns : List Nat) (k m : Nat), vs = [.ref p, .int (k : Int), .int (m : Int)] ∧ H p = some (.lst (iv ns)) ∧ k + m ≤ ns.length ∧ ns.length ≤ 1000 ∧ 1 ≤ m ∧ m ≤ 30 ∧
  ∀ H' al, Same H H' → alOk al = true → al.Nodup → 1 ≤ al.length → al.length ≤ 30 → ((∀ c ∈ al, c ∈ SG) ∧ al.length ≤ m) → Q (.str (S al)) H'
def sp_join_all : Sp := fun vs H Q _ => ∃ (p pr : Addr) (row : List Nat) (l r m : Nat), vs = [.ref p, .ref pr, .int (m : Int)] ∧ H p = some (.lst (iv row)) ∧ H pr = some (.tup (iv [l, r])) ∧ row.length ≤ 1000 ∧
  ∀ H' z, Same H H' → H z = none → H' z = some (.lst (iv (pass l r m row))) → Q (.ref z) H'
def nextAt (gone : Bool) (i : Nat) : Nat := bif gone then i + 1 else i
theorem shaped_ivT (l : List Nat) : SeqAt.shaped (.tuple (l.map fun (n : Nat) => PyData.int (n : Int))) = true := by
  have := shaped_iv l
  exact this
section
variable {P : Program} {w : World} {K : PySem.W.Frag} {mg : Str → Option Value} {base : Heap}
end
end RJ
end

section
set_option maxRecDepth 100000
set_option maxHeartbeats 4000000
namespace RJ
open PySem PySem.Spec PyProof.Rows L2

theorem Paired.both {α β : Type} {F : α → β → Prop} : ∀ {as : List α} {bs : List β} {i : Nat}, Paired F as bs → i < bs.length → ∃ a b, as[i]? = some a ∧ bs[i]? = some b ∧ F a b
  | _, _, _, .nil, h => absurd h (Nat.not_lt_zero _)
  | _, _, 0, .cons f _, _ => ⟨_, _, rfl, rfl, f⟩
  | _, _, i + 1, .cons _ t, h => Paired.both (i := i) t (Nat.lt_of_succ_lt_succ h)
def sp_staged : Sp := fun vs H Q _ => ∃ (p z : Addr) (us : List V) (ps : List (Nat × Nat)) (row : List Nat) (b : Nat), vs = [.int (b : Int), .ref p, .ref z] ∧ H p = some (.lst us) ∧ PairsAt H us ps ∧ H z = some (.lst (iv row)) ∧ row.length ≤ 1000 ∧ ps.length ≤ 1000 ∧
  ∀ H' y, Same H H' → H' y = some (.lst (iv (cutL b ps row))) → Q (.ref y) H'
def sp_is_proper : Sp := fun vs H Q _ => ∃ (al : List Nat) (tx pp pr : Addr) (us : List V) (ps : List (Nat × Nat)) (a b : Nat), vs = [.str (S al), .ref tx, .ref pp, .ref pr] ∧ H tx = some (.lst (strV (textsOf al ps))) ∧ H pp = some (.lst us) ∧ PairsAt H us ps ∧
  H pr = some (.tup (iv [a, b])) ∧ Proper al ps ∧ al.length ≤ 1000 ∧ ps.length ≤ 1000 ∧ a < (textsOf al ps).length ∧ b < (textsOf al ps).length ∧ ∀ H', Same H H' → Q (.bl (decide (okP al (textsOf al ps) ps (a, b)))) H'
section
variable {P : Program} {w : World} {K : PySem.W.Frag} {mg : Str → Option Value} {base : Heap}
end
end RJ
end

section
set_option maxRecDepth 100000
set_option maxHeartbeats 4000000
namespace RJ
open PySem PySem.Spec PyProof.Rows L2

theorem modOf {L : Nat} (hL : 1 ≤ L) (n : Int) : ∃ a : Nat, a < L ∧ n % (L : Int) = (a : Int) := by
  obtain ⟨a, h1, h2⟩ := emod_nat n (L : Int) (by omega)
  exact ⟨a, by omega, h1⟩
theorem lastOf {L : Nat} (hL : 1 ≤ L) (n : Int) : ∃ a : Nat, a < L ∧ (L : Int) - 1 - n % (if (L : Int) < 3 then (L : Int) else 3) = (a : Int) := by
  obtain ⟨c, h1, h2⟩ := emod_nat n (if (L : Int) < 3 then (L : Int) else 3) (by split <;> omega)
  rw [h1]
  refine ⟨L - 1 - c, by omega, ?_⟩
  split at h2 <;> omega
theorem signs_texts (al : List Nat) : signsV (S al) = strV (textsOf al []) := by
  unfold signsV strV textsOf
  rw [List.foldl_nil, List.map_map]; rfl
def sp_list : Sp := fun vs H Q _ => ∃ (p : Addr) (ns al : List Nat) (k m : Nat), vs = [.ref p, .int (k : Int), .str (S al), .int (m : Int)] ∧ H p = some (.lst (iv ns)) ∧ k + 2 * m ≤ ns.length ∧ ns.length ≤ 1000 ∧ al.length ≤ 500 ∧ 1 ≤ al.length ∧ m ≤ 100 ∧
  ∀ H' r pp tx us ps, Same H H' → H' r = some (.tup [.ref pp, .ref tx]) → H' pp = some (.lst us) → PairsAt H' us ps → H' tx = some (.lst (strV (textsOf al ps))) → Proper al ps → ps.length ≤ m → Q (.ref r) H'
section
variable {P : Program} {w : World} {K : PySem.W.Frag} {mg : Str → Option Value} {base : Heap}
end
end RJ
end

section
set_option maxRecDepth 100000
set_option maxHeartbeats 4000000
namespace RJ
open PySem PySem.Spec PyProof.Rows L2
/-! ### cutting by an own hand: mathematics -/
def nbAt (row : List Nat) (i : Nat) (p : Nat × Nat) : Prop := row[i]? = some p.1 ∧ row[i + 1]? = some p.2
theorem nb_mem {p : Nat × Nat} : ∀ {row : List Nat}, p ∈ adjs row → ∃ i, nbAt row i p
  | [], h => by cases h
  | [a], h => by cases h
  | a :: b :: t, h => by
    rw [adjs_cons2] at h
    rcases List.mem_cons.mp h with e | e
    · subst e; exact ⟨0, rfl, rfl⟩
    · obtain ⟨i, h1, h2⟩ := nb_mem (row := b :: t) e
      exact ⟨i + 1, h1, h2⟩
theorem nb_fun {row : List Nat} {i : Nat} {p q : Nat × Nat} (h : nbAt row i p) (g : nbAt row i q) : p = q := by
  obtain ⟨p1, p2⟩ := p
  obtain ⟨q1, q2⟩ := q
  have e1 : some p1 = some q1 := h.1.symm.trans g.1
  have e2 : some p2 = some q2 := h.2.symm.trans g.2
  cases e1; cases e2; rfl
theorem nb_split {row : List Nat} {i : Nat} {p : Nat × Nat} (h : nbAt row i p) : row = row.take i ++ p.1 :: p.2 :: row.drop (i + 2) := by
  have e1 := split_at h.1
  have e2 : row.drop (i + 1) = p.2 :: row.drop (i + 2) := by
    obtain ⟨h1, h2⟩ := List.getElem?_eq_some_iff.mp h.2
    rw [List.drop_eq_getElem_cons h1, h2]
  rw [e2] at e1; exact e1
theorem nb_front {row : List Nat} {i : Nat} {p : Nat × Nat} (h : nbAt row i p) (hno : ∀ m : Nat, m < i → ¬ nbAt row m p) : p ∉ adjs (row.take i ++ [p.1]) := fun hm => by
  have e : row.take i ++ [p.1] = row.take (i + 1) := by rw [take_succ_of h.1]
  rw [e] at hm
  obtain ⟨m, h1, h2⟩ := nb_mem hm
  rw [List.getElem?_take] at h1 h2
  by_cases c : m + 1 < i + 1
  · rw [if_pos (by omega)] at h1
    rw [if_pos c] at h2
    exact hno m (by omega) ⟨h1, h2⟩
  · rw [if_neg c] at h2; cases h2
def Scan (ps : List (Nat × Nat)) (row : List Nat) (k best place : Nat) : Prop :=
  best ≤ ps.length ∧ (∀ (i : Nat) (q : Nat × Nat), i < k → nbAt row i q → ∀ j : Nat, j < best → ps[j]? ≠ some q) ∧ (best < ps.length → ∃ p, ps[best]? = some p ∧ nbAt row place p ∧ ∀ i : Nat, i < place → ¬ nbAt row i p)
theorem Scan.zero (ps : List (Nat × Nat)) (row : List Nat) : Scan ps row 0 ps.length 0 := ⟨Nat.le_refl _, fun i q h => absurd h (Nat.not_lt_zero _), fun h => absurd h (Nat.lt_irrefl _)⟩
theorem Scan.keep {ps : List (Nat × Nat)} {row : List Nat} {k best place : Nat} (h : Scan ps row k best place) (g : ∀ q, nbAt row k q → ∀ j : Nat, j < best → ps[j]? ≠ some q) : Scan ps row (k + 1) best place := by
  obtain ⟨h1, h2, h3⟩ := h
  refine ⟨h1, fun i q hi hq => ?_, h3⟩
  by_cases c : i = k
  · subst c; exact g q hq
  · exact h2 i q (by omega) hq
theorem Scan.put {ps : List (Nat × Nat)} {row : List Nat} {k best place j : Nat} {q : Nat × Nat} (h : Scan ps row k best place) (hq : nbAt row k q) (hj : ps[j]? = some q) (hmin : ∀ m : Nat, m < j → ps[m]? ≠ some q) (hlt : j < best) : Scan ps row (k + 1) j k := by
  obtain ⟨h1, h2, h3⟩ := h
  refine ⟨by omega, fun i q' hi hq' m hm => ?_, fun _ => ⟨q, hj, hq, fun i hi hn => h2 i q hi hn j hlt hj⟩⟩
  by_cases c : i = k
  · subst c; rw [nb_fun hq' hq]; exact hmin m hm
  · exact h2 i q' (by omega) hq' m (by omega)
theorem Scan.still {b : Nat} {ps : List (Nat × Nat)} {row : List Nat} {k place : Nat} (h : Scan ps row k ps.length place) (hk : row.length ≤ k + 1) : cutL b ps row = row := by
  refine cut_done fun p hp hm => ?_
  obtain ⟨i, hi⟩ := nb_mem hm
  obtain ⟨j, hj⟩ := List.getElem?_of_mem hp
  have hjl := (List.getElem?_eq_some_iff.mp hj).1
  have hil := (List.getElem?_eq_some_iff.mp hi.2).1
  exact h.2.1 i p (by omega) hi j hjl hj
theorem Scan.step {b : Nat} {ps : List (Nat × Nat)} (hw : WF b ps) {row : List Nat} {k best place : Nat} (h : Scan ps row k best place) (hk : row.length ≤ k + 1) (hlt : best < ps.length) :
    cutL b ps (row.take place ++ (b + best) :: row.drop (place + 2)) = cutL b ps row ∧ (row.take place ++ (b + best) :: row.drop (place + 2)).length + 1 = row.length := by
  obtain ⟨h1, h2, h3⟩ := h
  obtain ⟨p, hp, hn, hno⟩ := h3 hlt
  have hl := (List.getElem?_eq_some_iff.mp hn.2).1
  refine ⟨?_, ?_⟩
  · have e := nb_split hn
    have := cut_first hw hp (u := row.take place) (v := row.drop (place + 2)) (nb_front hn hno) (fun j q hj hq hm => by
      rw [← e] at hm
      obtain ⟨i, hi⟩ := nb_mem hm
      have hil := (List.getElem?_eq_some_iff.mp hi.2).1
      exact h2 i q (by omega) hi j hj hq)
    rw [this, ← e]
  · rw [List.length_append, List.length_cons, List.length_take, List.length_drop]; omega
theorem first_at {p : Nat × Nat} : ∀ {ps : List (Nat × Nat)}, p ∈ ps → ∃ j : Nat, ps[j]? = some p ∧ ∀ m : Nat, m < j → ps[m]? ≠ some p
  | [], h => by cases h
  | q :: ps, h => by
    by_cases c : q = p
    · subst c; exact ⟨0, rfl, fun (m : Nat) (hm : m < 0) => absurd hm (Nat.not_lt_zero _)⟩
    · obtain ⟨j, h1, h2⟩ := first_at ((List.mem_cons.mp h).resolve_left fun e => c e.symm)
      refine ⟨j + 1, h1, fun m hm => ?_⟩
      cases m with
      | zero => exact fun e => c (Option.some.inj e)
      | succ m => exact h2 m (by omega)
/-! ### pairs as data -/
def pairD (p : Nat × Nat) : PyData := .tuple ([p.1, p.2].map fun (n : Nat) => PyData.int (n : Int))
theorem eqv_pair (p q : Nat × Nat) : PyData.eqv (pairD p) (pairD q) = decide (p = q) := by
  unfold pairD
  rw [PyData.eqv, eqv_iv]
  refine decide_eq_decide.mpr ?_
  obtain ⟨a, b⟩ := p
  obtain ⟨c, d⟩ := q
  simp
theorem any_pair (p : Nat × Nat) (ps : List (Nat × Nat)) : ((ps.map pairD).any fun z => PyData.eqv z (pairD p)) = decide (p ∈ ps) := by
  rw [List.any_map]
  induction ps with
  | nil => rfl
  | cons q ps ih =>
    rw [List.any_cons, ih]
    show (PyData.eqv (pairD q) (pairD p) || decide (p ∈ ps)) = _
    rw [eqv_pair]
    by_cases c : q = p
    · subst c; simp
    · rw [decide_eq_false c, Bool.false_or]
      exact decide_eq_decide.mpr ⟨List.mem_cons_of_mem _, fun h => (List.mem_cons.mp h).resolve_left fun e => c e.symm⟩
theorem dp_pairs {K : PySem.W.Frag} {H : Hp} : ∀ {us : List V} {ps : List (Nat × Nat)}, PairsAt H us ps → DpAll K H us (ps.map pairD)
  | _, _, .nil => .nil
  | _, _, .cons h t => by
    obtain ⟨q, rfl, hq⟩ := h
    exact .cons (.tup (SqT.of hq) (iv_dp [_, _])) (dp_pairs t)
theorem shaped_pair (p : Nat × Nat) : SeqAt.shaped (pairD p) = true := shaped_ivT [p.1, p.2]
theorem shaped_pairs (ps : List (Nat × Nat)) : SeqAt.shaped (.list (ps.map pairD)) = true := by
  have h1 : PyData.canLayAll0 (ps.map pairD) = true := by
    induction ps with
    | nil => simp [PyData.canLayAll0]
    | cons p ps ih => rw [List.map_cons, PyData.canLayAll0, ih]; simp [pairD, PyData.canLay0, PyData.canLayAll0]
  have h2 : PyData.depthAll (ps.map pairD) ≤ 1 := by
    clear h1
    induction ps with
    | nil => simp [PyData.depthAll]
    | cons p ps ih =>
      rw [List.map_cons, PyData.depthAll]
      have : PyData.depth (pairD p) = 1 := by simp [pairD, PyData.depth, PyData.depthAll]
      omega
  unfold SeqAt.shaped
  rw [PyData.canLay0, h1, PyData.depth, Bool.true_and]
  exact decide_eq_true (by omega)
theorem get_pairD {ps : List (Nat × Nat)} {m : Nat} {z : PyData} (h : (ps.map pairD)[m]? = some z) : ∃ q, ps[m]? = some q ∧ z = pairD q := by
  rw [List.getElem?_map] at h
  cases e : ps[m]? with
  | none => rw [e] at h; cases h
  | some q => rw [e] at h; exact ⟨q, rfl, (Option.some.inj h).symm⟩
end RJ
end

section
set_option maxRecDepth 100000
set_option maxHeartbeats 8000000
namespace RJ
open PySem PySem.Spec PyProof.Rows L2
def sp_slow : Sp := fun vs H Q _ => ∃ (pp : Addr) (us : List V) (ps : List (Nat × Nat)) (al t : List Nat), vs = [.str (S al), .ref pp, .str (S t)] ∧ H pp = some (.lst us) ∧ PairsAt H us ps ∧ WF al.length ps ∧ ps.length ≤ 1000 ∧ al.length ≤ 1000 ∧
  (∀ c ∈ t, c ∈ al) ∧ t.length ≤ 900 ∧ ∀ H' z, Same H H' → H' z = some (.tup (iv (cutL al.length ps (lets al t)))) → Q (.ref z) H'
theorem cut_to (l : List Nat) (k : Nat) : cutV (iv l) none (some (k : Int)) = iv (l.take k) := by
  unfold cutV
  rw [HT.sIx_nat, HT.sIx_none, List.drop_zero, iv_len, Nat.sub_zero]
  unfold iv
  rw [List.map_take]
  by_cases h : k ≤ l.length
  · rw [Nat.min_eq_left h]
  · rw [Nat.min_eq_right (by omega), List.take_of_length_le (by rw [List.length_map]; exact Nat.le_refl _), List.take_of_length_le (by rw [List.length_map]; omega)]
theorem cut_on (l : List Nat) (k : Nat) : cutV (iv l) (some (k : Int)) none = iv (l.drop k) := by
  unfold cutV
  rw [HT.sIx_nat, HT.sIx_none, iv_len]
  unfold iv
  rw [List.map_drop]
  by_cases h : k ≤ l.length
  · rw [Nat.min_eq_left h, List.take_of_length_le (by rw [List.length_drop, List.length_map]; exact Nat.le_refl _)]
  · rw [Nat.min_eq_right (by omega), List.drop_eq_nil_of_le (by rw [List.length_map]; exact Nat.le_refl _), List.drop_eq_nil_of_le (by rw [List.length_map]; omega)]
    exact List.take_nil
theorem iv_mid (u v : List Nat) (n : Nat) : iv u ++ [V.int (n : Int)] ++ iv v = iv (u ++ n :: v) := by
  unfold iv
  rw [List.map_append, List.map_cons, List.append_assoc]; rfl
theorem index_at {K : PySem.W.Frag} {H : Hp} {pp z : Addr} {us : List V} {ps : List (Nat × Nat)} {a b j : Nat} {Q : VK} (hpp : H pp = some (.lst us)) (hps : PairsAt H us ps) (hz : H z = some (.tup (iv [a, b]))) (hj : ps[j]? = some (a, b)) (hmin : ∀ m : Nat, m < j → ps[m]? ≠ some (a, b))
    (q : Q (.int (j : Int)) H) : rIndexD K (.ref pp) [.ref z] H Q := by
  refine ⟨pp, .ref z, pairD (a, b), ps.map pairD, j, pairD (a, b), rfl, rfl, .lst (SqL.of hpp) (dp_pairs hps), .tup (SqT.of hz) (iv_dp [a, b]), shaped_pairs ps, shaped_pair (a, b), ?_, ?_, fun m z' hm hz' => ?_, q⟩
  · rw [List.getElem?_map, hj]; rfl
  · rw [eqv_pair]; exact decide_eq_true rfl
  · obtain ⟨p, hp, rfl⟩ := get_pairD hz'
    rw [eqv_pair]
    exact decide_eq_false fun e => hmin m hm (by rw [hp, e])
section
variable {P : Program} {w : World} {K : PySem.W.Frag} {mg : Str → Option Value} {base : Heap}
end
end RJ
end

section
set_option maxRecDepth 100000
set_option maxHeartbeats 8000000
namespace RJ
open PySem PySem.Spec PyProof.Rows L2
abbrev s_law : Stmt := top 66
abbrev N_law : List Str := ["script", "pool", "alphabet", "made", "joins", "sides", "many", "after", "count", "drawn", "k", "number", "row", "text", "handed", "at", "wrong", "apart", "one", "two"]
theorem sc_law : FnScope N_law ["script"] (C8.fnScope s_law) := C8.fnScope_by (by decide +kernel)
/-! ### cutting keeps the text -/
end RJ
end

section
set_option maxRecDepth 100000
set_option maxHeartbeats 4000000
namespace RJ
open PySem PySem.Spec PyProof.Rows L2
open PySem.W (minD AlikeAll alike alikeAll dataLt)
abbrev s_Joins_rank_of : Stmt := inClass (top 28) 7
abbrev N_Joins_rank_of : List Str := ["self", "left", "right"]
theorem sc_Joins_rank_of : FnScope N_Joins_rank_of ["self", "left", "right"] (C8.fnScope s_Joins_rank_of) := C8.fnScope_by (by decide +kernel)
abbrev s_Joins_parts_of : Stmt := inClass (top 28) 6
abbrev N_Joins_parts_of : List Str := ["self", "piece"]
theorem sc_Joins_parts_of : FnScope N_Joins_parts_of ["self", "piece"] (C8.fnScope s_Joins_parts_of) := C8.fnScope_by (by decide +kernel)
abbrev s_spine : Stmt := top 30
abbrev N_spine : List Str := ["joins", "piece", "side", "steps", "parts", "left", "right"]
theorem sc_spine : FnScope N_spine ["joins", "piece", "side"] (C8.fnScope s_spine) := C8.fnScope_by (by decide +kernel)
abbrev s_right_spine : Stmt := top 31
abbrev N_right_spine : List Str := ["joins", "piece"]
theorem sc_right_spine : FnScope N_right_spine ["joins", "piece"] (C8.fnScope s_right_spine) := C8.fnScope_by (by decide +kernel)
abbrev s_left_spine : Stmt := top 32
abbrev N_left_spine : List Str := ["joins", "piece"]
theorem sc_left_spine : FnScope N_left_spine ["joins", "piece"] (C8.fnScope s_left_spine) := C8.fnScope_by (by decide +kernel)
abbrev s_is_ahead_in_left : Stmt := top 33
abbrev N_is_ahead_in_left : List Str := ["rank", "bound"]
theorem sc_is_ahead_in_left : FnScope N_is_ahead_in_left ["rank", "bound"] (C8.fnScope s_is_ahead_in_left) := C8.fnScope_by (by decide +kernel)
abbrev s_is_ahead_in_right : Stmt := top 34
abbrev N_is_ahead_in_right : List Str := ["rank", "bound"]
theorem sc_is_ahead_in_right : FnScope N_is_ahead_in_right ["rank", "bound"] (C8.fnScope s_is_ahead_in_right) := C8.fnScope_by (by decide +kernel)
abbrev s_crossing : Stmt := top 35
abbrev N_crossing : List Str := ["joins", "left", "right", "left_steps", "right_steps", "ranks", "x", "left_bound", "y", "right_bound", "rank"]
theorem sc_crossing : FnScope N_crossing ["joins", "left", "right"] (C8.fnScope s_crossing) := C8.fnScope_by (by decide +kernel)
abbrev s_side_by_side : Stmt := top 36
abbrev N_side_by_side : List Str := ["joins", "left", "right"]
theorem sc_side_by_side : FnScope N_side_by_side ["joins", "left", "right"] (C8.fnScope s_side_by_side) := C8.fnScope_by (by decide +kernel)
/-- a bound -/
def bdV : Option Nat → V
  | none => .non
  | some k => .int (k : Int)
/-- the parts of x, or nothing -/
def PartAt (al : List Nat) (ps : List (Nat × Nat)) (x : Nat) (H : Hp) (v : V) : Prop := (v = .non ∧ x < al.length) ∨ ∃ j pr g, v = .ref g ∧ x = al.length + j ∧ ps[j]? = some pr ∧ H g = some (.tup (iv [pr.1, pr.2]))
def sp_partsG (C : Addr) : Sp := fun vs H Q _ => ∃ (p : Addr) (al : List Nat) (ps : List (Nat × Nat)) (x : Nat), vs = [.ref p, .int (x : Int)] ∧ JoinsAt C H p al ps ∧ al.length ≤ 1000 ∧ x < al.length + ps.length ∧
  ∀ v, PartAt al ps x H v → Q v H
def sp_rank (C : Addr) : Sp := fun vs H Q _ => ∃ (p : Addr) (al : List Nat) (ps : List (Nat × Nat)) (x y : Nat), vs = [.ref p, .int (x : Int), .int (y : Int)] ∧ JoinsAt C H p al ps ∧ x < al.length + ps.length ∧ y < al.length + ps.length ∧
  ∀ H', Same H H' → Q (bdV (if (x, y) ∈ ps then some (ps.idxOf (x, y)) else none)) H'
/-- an entry of a spine -/
def StepAt (H : Hp) (v : V) (e : Nat × Option Nat) : Prop := ∃ q, v = .ref q ∧ H q = some (.tup [.int (e.1 : Int), bdV e.2])
theorem StepAt.same {H H' : Hp} {v : V} {e : Nat × Option Nat} (s : SameT H H') (h : StepAt H v e) : StepAt H' v e := by
  obtain ⟨q, h1, h2⟩ := h
  exact ⟨q, h1, s _ _ h2⟩
def sdOf (k : Nat) : Nat × Nat → Nat := if k = 1 then Prod.snd else Prod.fst
theorem sdOf_side (k : Nat) : Side (sdOf k) := by
  unfold sdOf
  split
  · exact side2
  · exact side1
def sp_spine (C : Addr) : Sp := fun vs H Q _ => ∃ (p : Addr) (al : List Nat) (ps : List (Nat × Nat)) (x k : Nat), vs = [.ref p, .int (x : Int), .int (k : Int)] ∧ JoinsAt C H p al ps ∧ Proper al ps ∧ al.length ≤ 400 ∧ ps.length ≤ 400 ∧ x < al.length + ps.length ∧ k < 2 ∧
  ∀ H' q us es, Same H H' → H' q = some (.tup us) → Paired (StepAt H') us es → IsSpine al.length ps (sdOf k) x es → es.length ≤ 1000 → Q (.ref q) H'
def sp_rspine (k : Nat) (C : Addr) : Sp := fun vs H Q _ => ∃ (p : Addr) (al : List Nat) (ps : List (Nat × Nat)) (x : Nat), vs = [.ref p, .int (x : Int)] ∧ JoinsAt C H p al ps ∧ Proper al ps ∧ al.length ≤ 400 ∧ ps.length ≤ 400 ∧ x < al.length + ps.length ∧
  ∀ H' q us es, Same H H' → H' q = some (.tup us) → Paired (StepAt H') us es → IsSpine al.length ps (sdOf k) x es → es.length ≤ 1000 → Q (.ref q) H'
def sp_aheadL : Sp := fun vs H Q _ => ∃ (r : Nat) (bd : Option Nat), vs = [.int (r : Int), bdV bd] ∧ (∀ k : Bool, (k = true ↔ upTo (r + 1) bd) → Q (.bl k) H)
def sp_aheadR : Sp := fun vs H Q _ => ∃ (r : Nat) (bd : Option Nat), vs = [.int (r : Int), bdV bd] ∧ (∀ k : Bool, (k = true ↔ upTo r bd) → Q (.bl k) H)
def sp_time : Sp := fun vs H Q _ => ∃ (r : Nat) (bl br : Option Nat), vs = [.int (r : Int), bdV bl, bdV br] ∧ (∀ k : Bool, (k = true ↔ upTo (r + 1) bl ∧ upTo r br) → Q (.bl k) H)
def sp_crossing (C : Addr) : Sp := fun vs H Q _ => ∃ (p : Addr) (al : List Nat) (ps : List (Nat × Nat)) (x y : Nat), vs = [.ref p, .int (x : Int), .int (y : Int)] ∧ JoinsAt C H p al ps ∧ Proper al ps ∧ al.length ≤ 400 ∧ ps.length ≤ 400 ∧ x < al.length + ps.length ∧ y < al.length + ps.length ∧
  ∀ H' c, Same H H' → CrossIs al.length ps x y c → Q (bdV c) H'
def sp_sides (C : Addr) : Sp := fun vs H Q _ => ∃ (p : Addr) (al : List Nat) (ps : List (Nat × Nat)) (x y : Nat), vs = [.ref p, .int (x : Int), .int (y : Int)] ∧ JoinsAt C H p al ps ∧ Proper al ps ∧ al.length ≤ 400 ∧ ps.length ≤ 400 ∧ x < al.length + ps.length ∧ y < al.length + ps.length ∧
  ∀ H' c, Same H H' → CrossIs al.length ps x y c → Q (.bl c.isNone) H'
theorem bdV_none {c : Option Nat} : decide (bdV c = V.non) = c.isNone := by
  cases c with
  | none => exact decide_eq_true rfl
  | some k => exact decide_eq_false (by intro h; cases h)
section
variable {P : Program} {w : World} {K : PySem.W.Frag} {mg : Str → Option Value} {base : Heap}
theorem ok_partsG {f C : Addr} {fd : FuncData} (F : C8.Fun K "parts_of" "Joins.parts_of" s_Joins_parts_of f fd) (T : Txt K mg) (J : JTxt K C) (m_check_piece : C8.Met P w K mg base 4 C "check_piece" (sp_check_piece C) []) : FnOk P w K mg base C8.CX0 5 f fd ["self", "piece"] (sp_partsG C) := by
  refine C8.fn0 F sc_Joins_parts_of (fun vs H Q E h => ?_) (fun cdv A outer s H vs Q E hr h => ?_)
  · obtain ⟨p, al, ps, x, rfl, _⟩ := h; rfl
  · obtain ⟨p, al, ps, x, rfl, hj, hal, hx, q⟩ := h
    obtain ⟨dx, t, tx, d, e, ws, h1, h2, h3, h4, h5, h6⟩ := id hj
    refine ⟨_, (pss_cons (ps_expr (C8.pe_mt m_check_piece hr (by first | decide | omega) (pv 0) (pa_cons (pv 1) pa_nil)))
      (pss_cons (ps_if (pt_cmpR op_lt (pv 1) (pe_callB call_len_str (by rfl) T.b_len PySem.boot_len (pa_cons (pe_fld (pv 0) rfl) pa_nil)) (nomark _)) (pss_one (ps_ret pe_non)) pss_nil)
      (pss_one (ps_ret (pe_ix ix_tup (pe_fld (pv 0) rfl) (pe_op op_sub (pv 1) (pe_callB call_len_str (by rfl) T.b_len PySem.boot_len (pa_cons (pe_fld (pv 0) rfl) pa_nil))) (fun _ _ => rfl)))))), ?_⟩
    refine ⟨_, rfl, p, dx, _, rfl, h1, f5_no al t tx d e (by decide +kernel) (by decide +kernel) (by decide +kernel) (by decide +kernel) (by decide +kernel), _, rfl, p, x, al, ps, rfl, hj, by omega, ?_⟩
    refine ⟨_, rfl, _, rfl, p, C, dx, _, _, rfl, h1, J.cl, J.n1, f5_alphabet al t tx d e, S al, rfl, by rw [S_len]; exact small_le hal, _, _, rfl, rfl, _, rfl, ?_⟩
    rw [S_len]
    by_cases c : x < al.length
    · rw [decide_eq_true (by omega : (x : Int) < (al.length : Int))]
      exact iteT (q _ (.inl ⟨rfl, c⟩))
    · rw [decide_eq_false (by omega : ¬ (x : Int) < (al.length : Int))]
      obtain ⟨j, rfl⟩ : ∃ j, x = al.length + j := ⟨x - al.length, by omega⟩
      obtain ⟨pr, hpr⟩ : ∃ pr, ps[j]? = some pr := ⟨_, List.getElem?_eq_getElem (by omega)⟩
      obtain ⟨u, hu, g, rfl, hg⟩ := Paired.at2 h3 hpr
      refine iteF ⟨_, rfl, p, C, dx, _, _, rfl, h1, J.cl, J.n2, f5_pairs al t tx d e, _, rfl, _, rfl, p, C, dx, _, _, rfl, h1, J.cl, J.n1, f5_alphabet al t tx d e, S al, rfl, by rw [S_len]; exact small_le hal, _, _, rfl, rfl, t, _, _, _, rfl, rfl, SqT.of h2, ?_, q _ (.inr ⟨j, pr, g, rfl, rfl, hpr, hg⟩)⟩
      rw [S_len, show ((al.length + j : Nat) : Int) - (al.length : Int) = (j : Int) by omega]
      exact atI_nat hu
theorem ok_rank {f C : Addr} {fd : FuncData} (F : C8.Fun K "rank_of" "Joins.rank_of" s_Joins_rank_of f fd) (T : Txt K mg) (J : JTxt K C) (m_check_piece : C8.Met P w K mg base 4 C "check_piece" (sp_check_piece C) []) : FnOk P w K mg base C8.CX0 5 f fd ["self", "left", "right"] (sp_rank C) := by
  refine C8.fn0 F sc_Joins_rank_of (fun vs H Q E h => ?_) (fun cdv A outer s H vs Q E hr h => ?_)
  · obtain ⟨p, al, ps, x, y, rfl, _⟩ := h; rfl
  · obtain ⟨p, al, ps, x, y, rfl, hj, hx, hy, q⟩ := h
    have hu := hu_of hr
    obtain ⟨dx, t, tx, d, e, ws, h1, h2, h3, h4, h5, h6⟩ := id hj
    refine ⟨_, (pss_cons (ps_expr (C8.pe_mt m_check_piece hr (by first | decide | omega) (pv 0) (pa_cons (pv 1) pa_nil)))
      (pss_cons (ps_expr (C8.pe_mt m_check_piece hr (by first | decide | omega) (pv 0) (pa_cons (pv 2) pa_nil)))
      (pss_one (ps_ret (pe_dget1 hu (pe_fld (pv 0) rfl) (pe_tup (pa_cons (pv 1) (pa_cons (pv 2) pa_nil))) ⟨by rfl, by rfl, by rfl, by rfl⟩))))), ?_⟩
    refine ⟨_, rfl, p, dx, _, rfl, h1, f5_no al t tx d e (by decide +kernel) (by decide +kernel) (by decide +kernel) (by decide +kernel) (by decide +kernel), _, rfl, p, x, al, ps, rfl, hj, hx, ?_⟩
    refine ⟨_, rfl, p, dx, _, rfl, h1, f5_no al t tx d e (by decide +kernel) (by decide +kernel) (by decide +kernel) (by decide +kernel) (by decide +kernel), _, rfl, p, y, al, ps, rfl, hj, hy, ?_⟩
    refine ⟨_, rfl, p, C, dx, _, _, rfl, h1, J.cl, J.n4, f5_ranks al t tx d e, d, rfl, .inr ⟨_, .inl h5⟩, _, rfl, _, rfl, by show 2 ≤ sizeLine; decide, fun z hz => ?_⟩
    have hg : DGet (upd H z (.tup [.int (x : Int), .int (y : Int)])) d (.ref z) (if (x, y) ∈ ps then some (V.int ((0 + ps.idxOf (x, y) : Nat) : Int)) else none) := by
      rw [← kvsF_get]
      exact DGet.t (k := pkey (x, y)) (same_new hz _ _ h5) upd_same
    refine ⟨_, hg, ?_⟩
    have := q _ (same_new (o := .tup [.int (x : Int), .int (y : Int)]) hz)
    by_cases c : (x, y) ∈ ps
    · rw [if_pos c] at this ⊢
      rw [Nat.zero_add]; exact this
    · rw [if_neg c] at this ⊢
      exact this
theorem ok_spine {f C : Addr} {fd : FuncData} (F : C8.Fun K "spine" "spine" s_spine f fd) (T : Txt K mg) (J : JTxt K C) (m_parts_of : C8.Met P w K mg base 5 C "parts_of" (sp_partsG C) []) (m_rank_of : C8.Met P w K mg base 5 C "rank_of" (sp_rank C) []) : FnOk P w K mg base C8.CX0 6 f fd ["joins", "piece", "side"] (sp_spine C) := by
  refine C8.fn0 F sc_spine (fun vs H Q E h => ?_) (fun cdv A outer s H vs Q E hr h => ?_)
  · obtain ⟨p, al, ps, x, k, rfl, _⟩ := h; rfl
  · obtain ⟨p, al, ps, x, k, rfl, hj, hprop, hal, hpl, hx, hk, q⟩ := h
    have hw := hprop.wf
    have met : ∀ H', Same H H' → ∃ dx fs, H' p = some (.ins C dx fs) ∧ fs.lookup ("parts_of" : Str) = none ∧ fs.lookup ("rank_of" : Str) = none := fun H' s' => by
      obtain ⟨dx, t, tx, d, e, ws, h1, _⟩ := hj.same s'
      exact ⟨dx, _, h1, f5_no al t tx d e (by decide +kernel) (by decide +kernel) (by decide +kernel) (by decide +kernel) (by decide +kernel), f5_no al t tx d e (by decide +kernel) (by decide +kernel) (by decide +kernel) (by decide +kernel) (by decide +kernel)⟩
    refine ⟨_, (pss_cons (ps_set (i := 3) sc_spine.nd rfl (Or.inl rfl) (pe_lst (pa_cons (pe_tup (pa_cons (pv 1) (pa_cons pe_non pa_nil))) pa_nil)))
      (pss_cons (ps_set (i := 4) sc_spine.nd rfl (Or.inl rfl) (C8.pe_mt m_parts_of hr (by first | decide | omega) (pv 0) (pa_cons (pv 1) pa_nil)))
      (pss_cons (ps_while PassesOwn.never (pt_cmpR op_notN (pv 4) pe_non (nomark _)) (pss_cons (ps_asg (pv 4) (pg_tup rfl (pgs_cons (pg_name (i := 5) sc_spine.nd rfl (Or.inl rfl)) (pgs_cons (pg_name (i := 6) sc_spine.nd rfl (Or.inl rfl)) pgs_nil))))
      (pss_cons (ps_expr (pe_bm PySem.F.plainAttrs_list PySem.F.slot_list_append PySem.F.type_list_append mt_append (pv 3) (pa_cons (pe_tup (pa_cons (pe_ix ix_tup (pv 4) (pv 2) (fun _ _ => rfl)) (pa_cons (C8.pe_mt m_rank_of hr (by first | decide | omega) (pv 0) (pa_cons (pv 5) (pa_cons (pv 6) pa_nil))) pa_nil))) pa_nil)))
      (pss_one (ps_set (i := 4) sc_spine.nd rfl (Or.inl rfl) (C8.pe_mt m_parts_of hr (by first | decide | omega) (pv 0) (pa_cons (pe_ix ix_tup (pv 4) (pv 2) (fun _ _ => rfl)) pa_nil)))))))
      (pss_one (ps_ret (pe_tupleOf (by rfl) T.b_tuple (pv 3))))))), ?_⟩
    refine ⟨_, rfl, by show 2 ≤ sizeLine; decide, fun z hz => ⟨by show 1 ≤ sizeLine; decide, fun D hD => ?_⟩⟩
    have s0 : Same H (upd (upd H z (.tup [.int (x : Int), .non])) D (.lst [.ref z])) := Same.new (same_new hz) hD
    have hD0 : H D = none := (same_new hz).free hD
    have hz0 : (upd (upd H z (.tup [.int (x : Int), .non])) D (.lst [.ref z])) z = some (.tup [.int (x : Int), .non]) := (upd_ne (ne_of_none upd_same hD)).trans upd_same
    obtain ⟨dx0, fs0, i1, i2, i3⟩ := met _ s0
    refine ⟨_, rfl, p, dx0, fs0, rfl, i1, i2, _, rfl, p, al, ps, x, rfl, hj.same s0, by omega, hx, fun v hv => ?_⟩
    refine ⟨fun m σ H' => ∃ (y : Nat) (v : V) (v5 v6 : Option V) (us : List V) (es : List (Nat × Option Nat)), σ = [some (.ref p), some (.int (x : Int)), some (.int (k : Int)), some (.ref D), some v, v5, v6] ∧ Same H H' ∧ H' D = some (.lst us) ∧ Paired (StepAt H') us es ∧ IsSpineTo al.length ps (sdOf k) x es y ∧ y < al.length + ps.length ∧ es.length + y ≤ x + 1 ∧ PartAt al ps y H' v ∧ m = y,
      ⟨x, x, v, none, none, _, _, rfl, s0, upd_same, .cons ⟨z, rfl, hz0⟩ .nil, IsSpineTo.start x, hx, by show 1 + x ≤ x + 1; omega, hv, rfl⟩, ?_⟩
    rintro m σ H2 ⟨y, v, v5, v6, us, es, rfl, s2, hD2, hus, hsp, hy, hle, hv, rfl⟩
    refine ⟨_, rfl, rfl, _, rfl, ?_⟩
    rcases hv with ⟨rfl, hlow⟩ | ⟨j, pr, g, rfl, rfl, hpr, hg⟩
    · refine iteF ⟨_, rfl, .inl ⟨D, us, rfl, SqL.of hD2, fun t ht => ?_⟩⟩
      exact q _ t us es (Same.new s2 ht) upd_same (Paired.mapP hus fun _ _ h => StepAt.same (Same.t (same_new ht)) h) (hsp.done hlow) (by omega)
    · refine iteT ?_
      have hj' := hw j pr hpr
      refine ⟨fun σ' H' => ∃ m', m' < al.length + j ∧ ∃ (y : Nat) (v : V) (v5 v6 : Option V) (us : List V) (es : List (Nat × Option Nat)), σ' = [some (.ref p), some (.int (x : Int)), some (.int (k : Int)), some (.ref D), some v, v5, v6] ∧ Same H H' ∧ H' D = some (.lst us) ∧ Paired (StepAt H') us es ∧ IsSpineTo al.length ps (sdOf k) x es y ∧ y < al.length + ps.length ∧ es.length + y ≤ x + 1 ∧ PartAt al ps y H' v ∧ m' = y, fun σ' H' z => z, ?_⟩
      have hsd : atI [V.int (pr.1 : Int), V.int (pr.2 : Int)] (k : Int) = some (V.int (sdOf k pr : Int)) := by
        have : k = 0 ∨ k = 1 := by omega
        rcases this with rfl | rfl <;> rfl
      have hlt : sdOf k pr < al.length + j := by rcases sdOf_side k pr with e | e <;> rw [e] <;> omega
      have hul : us.length = es.length := hus.length
      obtain ⟨dx1, fs1, j1, j2, j3⟩ := met _ s2
      refine ⟨_, rfl, g, _, rfl, SqT.of hg, rfl, _, _, rfl, _, _, rfl, rfl, ?_⟩
      refine ⟨_, rfl, .inl ⟨rfl, _, SqL.of hD2⟩, _, rfl, _, rfl, g, _, _, _, rfl, rfl, SqT.of hg, hsd, _, rfl, p, dx1, fs1, rfl, j1, j3, _, rfl, _, rfl, p, al, ps, pr.1, pr.2, rfl, hj.same s2, by omega, by omega, fun H3 s3 => ?_⟩
      rw [if_pos (List.mem_of_getElem? hpr), hprop.idx hpr]
      refine ⟨by show 2 ≤ sizeLine; decide, fun t ht => ?_⟩
      have s4 : Same H2 (upd H3 t (.tup [.int (sdOf k pr : Int), .int (j : Int)])) := Same.new s3 ht
      have hD4 := s4 _ _ hD2
      refine ⟨D, us, _, rfl, rfl, hD4, small1000 (by omega), ?_⟩
      have sT : SameT (upd H3 t (.tup [.int (sdOf k pr : Int), .int (j : Int)])) (upd (upd H3 t (.tup [.int (sdOf k pr : Int), .int (j : Int)])) D (.lst (us ++ [.ref t]))) := SameT.put hD4
      have s5 : Same H (upd (upd H3 t (.tup [.int (sdOf k pr : Int), .int (j : Int)])) D (.lst (us ++ [.ref t]))) := Same.put (s2.trans s4) hD0
      obtain ⟨dx2, fs2, l1, l2, _⟩ := met _ s5
      have hg5 := sT _ _ (s4 _ _ hg)
      refine ⟨_, rfl, p, dx2, fs2, rfl, l1, l2, _, rfl, _, rfl, g, _, _, _, rfl, rfl, SqT.of hg5, hsd, p, al, ps, sdOf k pr, rfl, hj.same s5, by omega, by omega, fun v' hv' => ?_⟩
      refine ⟨_, hlt, _, v', _, _, us ++ [.ref t], es ++ [(sdOf k pr, some j)], rfl, s5, upd_same, Paired.snoc ⟨t, rfl, sT _ _ upd_same⟩ (Paired.mapP hus fun _ _ h => StepAt.same sT (StepAt.same (Same.t s4) h)), hsp.next hpr, by omega, ?_, hv', rfl⟩
      rw [List.length_append, List.length_singleton]; omega
theorem ok_rspine {f C : Addr} {fd : FuncData} (F : C8.Fun K "right_spine" "right_spine" s_right_spine f fd) (T : Txt K mg) (J : JTxt K C) (c_spine : C8.Cal P w K mg base 6 "spine" (sp_spine C) []) : FnOk P w K mg base C8.CX0 7 f fd ["joins", "piece"] (sp_rspine 1 C) := by
  refine C8.fn0 F sc_right_spine (fun vs H Q E h => ?_) (fun cdv A outer s H vs Q E hr h => ?_)
  · obtain ⟨p, al, ps, x, rfl, _⟩ := h; rfl
  · obtain ⟨p, al, ps, x, rfl, hj, hprop, hal, hpl, hx, q⟩ := h
    refine ⟨_, (pss_one (ps_ret (C8.pe_c c_spine hr (by first | decide | omega) (by rfl) (pa_cons (pv 0) (pa_cons (pv 1) (pa_cons pe_int pa_nil)))))), ?_⟩
    exact ⟨_, rfl, _, rfl, p, al, ps, x, 1, rfl, hj, hprop, hal, hpl, hx, by decide, q⟩
theorem ok_lspine {f C : Addr} {fd : FuncData} (F : C8.Fun K "left_spine" "left_spine" s_left_spine f fd) (T : Txt K mg) (J : JTxt K C) (c_spine : C8.Cal P w K mg base 6 "spine" (sp_spine C) []) : FnOk P w K mg base C8.CX0 7 f fd ["joins", "piece"] (sp_rspine 0 C) := by
  refine C8.fn0 F sc_left_spine (fun vs H Q E h => ?_) (fun cdv A outer s H vs Q E hr h => ?_)
  · obtain ⟨p, al, ps, x, rfl, _⟩ := h; rfl
  · obtain ⟨p, al, ps, x, rfl, hj, hprop, hal, hpl, hx, q⟩ := h
    refine ⟨_, (pss_one (ps_ret (C8.pe_c c_spine hr (by first | decide | omega) (by rfl) (pa_cons (pv 0) (pa_cons (pv 1) (pa_cons pe_int pa_nil)))))), ?_⟩
    exact ⟨_, rfl, _, rfl, p, al, ps, x, 0, rfl, hj, hprop, hal, hpl, hx, by decide, q⟩
theorem ok_aheadL {f : Addr} {fd : FuncData} (F : C8.Fun K "is_ahead_in_left" "is_ahead_in_left" s_is_ahead_in_left f fd) (T : Txt K mg) : FnOk P w K mg base C8.CX0 1 f fd ["rank", "bound"] sp_aheadL := by
  refine C8.fn0 F sc_is_ahead_in_left (fun vs H Q E h => ?_) (fun cdv A outer s H vs Q E hr h => ?_)
  · obtain ⟨r, bd, rfl, _⟩ := h; rfl
  · obtain ⟨r, bd, rfl, q⟩ := h
    refine ⟨_, (pss_one (ps_ret (pe_or (pe_cmpR op_isN (pv 1) pe_non (nomark _)) (pe_one (pe_cmpR op_lt (pv 0) (pv 1) (nomark _)))))), ?_⟩
    cases bd with
    | none => exact ⟨_, rfl, rfl, _, rfl, iteT (q true ⟨(fun _ k e => by cases e), fun _ => rfl⟩)⟩
    | some k =>
      refine ⟨_, rfl, rfl, _, rfl, iteF ⟨_, rfl, _, rfl, _, _, rfl, rfl, q _ ?_⟩⟩
      rw [decide_eq_true_eq]
      exact ⟨fun h j e => by cases e; omega, fun h => by have := h k rfl; omega⟩
theorem ok_aheadR {f : Addr} {fd : FuncData} (F : C8.Fun K "is_ahead_in_right" "is_ahead_in_right" s_is_ahead_in_right f fd) (T : Txt K mg) : FnOk P w K mg base C8.CX0 1 f fd ["rank", "bound"] sp_aheadR := by
  refine C8.fn0 F sc_is_ahead_in_right (fun vs H Q E h => ?_) (fun cdv A outer s H vs Q E hr h => ?_)
  · obtain ⟨r, bd, rfl, _⟩ := h; rfl
  · obtain ⟨r, bd, rfl, q⟩ := h
    refine ⟨_, (pss_one (ps_ret (pe_or (pe_cmpR op_isN (pv 1) pe_non (nomark _)) (pe_one (pe_cmpR op_le (pv 0) (pv 1) (nomark _)))))), ?_⟩
    cases bd with
    | none => exact ⟨_, rfl, rfl, _, rfl, iteT (q true ⟨(fun _ k e => by cases e), fun _ => rfl⟩)⟩
    | some k =>
      refine ⟨_, rfl, rfl, _, rfl, iteF ⟨_, rfl, _, rfl, _, _, rfl, rfl, q _ ?_⟩⟩
      rw [decide_eq_true_eq]
      exact ⟨fun h j e => by cases e; omega, fun h => by have := h k rfl; omega⟩
end
end RJ
end

section
set_option maxRecDepth 100000
set_option maxHeartbeats 4000000
namespace RJ
open PySem PySem.Spec PyProof.Rows L2
open PySem.W (minD AlikeAll alike alikeAll dataLt)
def rkI : PyData → Int
  | .int r => r
  | _ => 0
theorem ints_alike (ts : List Nat) : AlikeAll (ts.map fun (n : Nat) => PyData.int (n : Int)) := by
  refine ⟨fun x hx y hy => ?_, fun x hx e => ?_⟩
  · obtain ⟨a, _, rfl⟩ := List.mem_map.mp hx
    obtain ⟨b, _, rfl⟩ := List.mem_map.mp hy
    simp [alike]
  · obtain ⟨a, _, rfl⟩ := List.mem_map.mp hx
    cases e
theorem ints_depth : ∀ ts : List Nat, PyData.depthAll (ts.map fun (n : Nat) => PyData.int (n : Int)) ≤ 60
  | [] => by simp [PyData.depthAll]
  | t :: ts => by
    have ih := ints_depth ts
    rw [List.map_cons, PyData.depthAll]
    exact Nat.max_le.mpr ⟨by simp [PyData.depth], ih⟩
/-- min of a list of numbers, None of none -/
theorem minD_row {K : PySem.W.Frag} {H : Hp} {D : Addr} {R : List Nat} {Q : VK} (hD : H D = some (.lst (iv R))) (q0 : R = [] → Q .non H) (q1 : ∀ n, n ∈ R → (∀ m ∈ R, n ≤ m) → Q (.int (n : Int)) H) : rMinD K [.ref D] [.non] H Q := by
  refine ⟨D, iv R, R.map fun (n : Nat) => PyData.int (n : Int), rfl, rfl, hD, iv_dp R, ints_alike R, ints_depth R, fun e => q0 (List.map_eq_nil_iff.mp e), fun d ds i x e hx hmin => ?_⟩
  obtain ⟨n, hn, rfl⟩ := iv_get hx
  refine q1 n (List.mem_of_getElem? hn) fun m hmR => ?_
  have hget : (R.map fun (n : Nat) => PyData.int (n : Int))[i]? = some (.int (n : Int)) := by rw [List.getElem?_map, hn]; rfl
  rw [hget] at hmin
  have hmin' := (Option.some.inj hmin).symm
  have hle := minD_le (rk := rkI) (Ok := fun d => ∃ x : Nat, d = .int (x : Int)) (fun x y ⟨a, ha⟩ ⟨b, hb⟩ h => by
      subst ha hb
      rw [PySem.W.dataLt_int] at h
      have := of_decide_eq_true h
      exact Int.le_of_lt this) (fun x y ⟨a, ha⟩ ⟨b, hb⟩ h => by
      subst ha hb
      rw [PySem.W.dataLt_int] at h
      have := of_decide_eq_false h
      exact Int.not_lt.mp this) ds d
    (fun z hz => by rw [← e] at hz; obtain ⟨a, _, rfl⟩ := List.mem_map.mp hz; exact ⟨a, rfl⟩)
    (.int (m : Int)) (by rw [← e]; exact List.mem_map.mpr ⟨m, hmR, rfl⟩)
  rw [hmin'] at hle
  have hle' : (n : Int) ≤ (m : Int) := hle
  omega
theorem lt_million {n : Nat} (h : n ≤ 1000000) : n < sizeLine := Nat.lt_of_le_of_lt h (by decide)
section
variable {P : Program} {w : World} {K : PySem.W.Frag} {mg : Str → Option Value} {base : Heap}
theorem ok_crossing {f C : Addr} {fd : FuncData} (F : C8.Fun K "crossing" "crossing" s_crossing f fd) (T : Txt K mg) (J : JTxt K C) (c_right_spine : C8.Cal P w K mg base 7 "right_spine" (sp_rspine 1 C) []) (c_left_spine : C8.Cal P w K mg base 7 "left_spine" (sp_rspine 0 C) []) (m_rank_of : C8.Met P w K mg base 5 C "rank_of" (sp_rank C) [])
    (c_is_ahead_in_left : C8.Cal P w K mg base 1 "is_ahead_in_left" sp_aheadL []) (c_is_ahead_in_right : C8.Cal P w K mg base 1 "is_ahead_in_right" sp_aheadR []) : FnOk P w K mg base C8.CX0 8 f fd ["joins", "left", "right"] (sp_crossing C) := by
  refine C8.fn0 F sc_crossing (fun vs H Q E h => ?_) (fun cdv A outer s H vs Q E hr h => ?_)
  · obtain ⟨p, al, ps, x, y, rfl, _⟩ := h; rfl
  · obtain ⟨p, al, ps, x, y, rfl, hj, hprop, hal, hpl, hx, hy, q⟩ := h
    have hu64 := hu64_of hr
    have hw := hprop.wf
    refine ⟨_, (pss_cons (ps_set (i := 3) sc_crossing.nd rfl (Or.inl rfl) (C8.pe_c c_right_spine hr (by first | decide | omega) (by rfl) (pa_cons (pv 0) (pa_cons (pv 1) pa_nil))))
      (pss_cons (ps_set (i := 4) sc_crossing.nd rfl (Or.inl rfl) (C8.pe_c c_left_spine hr (by first | decide | omega) (by rfl) (pa_cons (pv 0) (pa_cons (pv 2) pa_nil))))
      (pss_cons (ps_set (i := 5) sc_crossing.nd rfl (Or.inl rfl) (pe_lst pa_nil))
      (pss_cons (ps_for PassesOwn.never rfl (pi_tup (pv 3)) (pg_tup rfl (pgs_cons (pg_name (i := 6) sc_crossing.nd rfl (Or.inl rfl)) (pgs_cons (pg_name (i := 7) sc_crossing.nd rfl (Or.inl rfl)) pgs_nil))) (pss_one (ps_for PassesOwn.never rfl (pi_tup (pv 4)) (pg_tup rfl (pgs_cons (pg_name (i := 8) sc_crossing.nd rfl (Or.inl rfl)) (pgs_cons (pg_name (i := 9) sc_crossing.nd rfl (Or.inl rfl)) pgs_nil))) (pss_cons (ps_set (i := 10) sc_crossing.nd rfl (Or.inl rfl) (C8.pe_mt m_rank_of hr (by first | decide | omega) (pv 0) (pa_cons (pv 6) (pa_cons (pv 8) pa_nil))))
      (pss_one (ps_if (PW.pt (pw_and (pt_cmpR op_notN (pv 10) pe_non (nomark _)) (pw_and (pt_val (C8.pe_c c_is_ahead_in_left hr (by first | decide | omega) (by rfl) (pa_cons (pv 10) (pa_cons (pv 7) pa_nil)))) (pw_and1 (pt_val (C8.pe_c c_is_ahead_in_right hr (by first | decide | omega) (by rfl) (pa_cons (pv 10) (pa_cons (pv 9) pa_nil)))))))) (pss_one (ps_expr (pe_bm PySem.F.plainAttrs_list PySem.F.slot_list_append PySem.F.type_list_append mt_append (pv 5) (pa_cons (pv 10) pa_nil)))) pss_nil))))))
      (pss_one (ps_ret (pe_callBK (cr_minD rfl hu64) (by rfl) T.b_min (by decide +kernel) (pa_cons (pv 5) pa_nil) (pk_cons pe_non pk_nil)))))))), ?_⟩
    refine ⟨_, rfl, _, rfl, p, al, ps, x, rfl, hj, hprop, hal, hpl, hx, fun H1 q1 us es s1 hq1 hus1 hes hel => ?_⟩
    refine ⟨_, rfl, _, rfl, p, al, ps, y, rfl, hj.same s1, hprop, hal, hpl, hy, fun H2 q2 ws fs s2 hq2 hws2 hfs hfl => ?_⟩
    refine ⟨Nat.zero_le _, fun D hD => ?_⟩
    have s3 : Same H (upd H2 D (.lst [])) := Same.new (s1.trans s2) hD
    have hD0 : H D = none := (s1.trans s2).free hD
    have hq1' : (upd H2 D (.lst [])) q1 = some (.tup us) := same_new hD _ _ (s2 _ _ hq1)
    have hq2' : (upd H2 D (.lst [])) q2 = some (.tup ws) := same_new hD _ _ hq2
    have hul : us.length = es.length := hus1.length
    have hwl : ws.length = fs.length := hws2.length
    -- what is kept
    let Kp : Hp → Prop := fun H' => SameX D H' H' ∧ Same H H' ∧ H' q1 = some (.tup us) ∧ H' q2 = some (.tup ws) ∧ Paired (StepAt H') us es ∧ Paired (StepAt H') ws fs
    have kp0 : Kp (upd H2 D (.lst [])) := ⟨fun _ _ _ e => e, s3, hq1', hq2', Paired.mapP hus1 fun _ _ h => StepAt.same (Same.t (Same.new s2 hD)) h, Paired.mapP hws2 fun _ _ h => StepAt.same (Same.t (same_new hD)) h⟩
    have kpS : ∀ {H' H'' : Hp}, Kp H' → Same H' H'' → Kp H'' := fun ⟨_, a, b, c, d, e⟩ s => ⟨fun _ _ _ e => e, a.trans s, s _ _ b, s _ _ c, Paired.mapP d fun _ _ h => StepAt.same (Same.t s) h, Paired.mapP e fun _ _ h => StepAt.same (Same.t s) h⟩
    have kpD : ∀ {H' : Hp} {R R' : List V}, Kp H' → H' D = some (.lst R) → Kp (upd H' D (.lst R')) := fun {H' R R'} ⟨_, a, b, c, d, e⟩ hd => by
      have sT : SameT H' (upd H' D (.lst R')) := SameT.put hd
      exact ⟨fun _ _ _ e => e, Same.put a hD0, sT _ _ b, sT _ _ c, Paired.mapP d fun _ _ h => StepAt.same sT h, Paired.mapP e fun _ _ h => StepAt.same sT h⟩
    let Hit : Nat × Option Nat → Nat × Option Nat → Nat → Prop := fun e f r => ps[r]? = some (e.1, f.1) ∧ upTo (r + 1) e.2 ∧ upTo r f.2
    have hit_cross : ∀ e f r, e ∈ es → f ∈ fs → Hit e f r → Cross al.length ps x y r := fun e f r he hf h => ⟨(e.1, f.1), e.2, f.2, h.1, hes.ok e he, hfs.ok f hf, h.2.1, h.2.2⟩
    refine ⟨_, rfl, q1, rfl, ⟨_, SqT.of hq1'⟩, for_it walk_tup (fun i σ H' => ∃ (R : List Nat) (v6 v7 v8 v9 v10 : Option V), σ = [some (.ref p), some (.int (x : Int)), some (.int (y : Int)), some (.ref q1), some (.ref q2), some (.ref D), v6, v7, v8, v9, v10] ∧ Kp H' ∧ H' D = some (.lst (iv R)) ∧ (∀ r ∈ R, Cross al.length ps x y r) ∧ (∀ e ∈ es.take i, ∀ f ∈ fs, ∀ r, Hit e f r → r ∈ R) ∧ R.length ≤ i * fs.length)
      ⟨[], none, none, none, none, none, rfl, kp0, upd_same, (fun r hr => by cases hr), (fun e he => by rw [List.take_zero] at he; cases he), Nat.zero_le _⟩ (fun i σ H' _ ⟨_, _, _, _, _, _, _, k, _⟩ => SqT.of k.2.2.1) ?_ ?_⟩
    · rintro i u σ Ha Hb hi ⟨R, v6, v7, v8, v9, v10, rfl, ka, hDa, hR, hall, hRl⟩ ⟨rfl, hu⟩
      obtain ⟨e, he, qe, rfl, hqe⟩ := Paired.at ka.2.2.2.2.1 hu
      have heM : e ∈ es := List.mem_of_getElem? he
      refine ⟨qe, _, rfl, SqT.of hqe, rfl, _, _, rfl, _, _, rfl, rfl, ?_⟩
      refine ⟨_, rfl, q2, rfl, ⟨_, SqT.of ka.2.2.2.1⟩, for_it walk_tup (fun j σ H' => ∃ (R : List Nat) (v8 v9 v10 : Option V), σ = [some (.ref p), some (.int (x : Int)), some (.int (y : Int)), some (.ref q1), some (.ref q2), some (.ref D), some (.int (e.1 : Int)), some (bdV e.2), v8, v9, v10] ∧ Kp H' ∧ H' D = some (.lst (iv R)) ∧ (∀ r ∈ R, Cross al.length ps x y r) ∧ (∀ e' ∈ es.take i, ∀ f ∈ fs, ∀ r, Hit e' f r → r ∈ R) ∧ (∀ f ∈ fs.take j, ∀ r, Hit e f r → r ∈ R) ∧ R.length ≤ i * fs.length + j)
        ⟨R, v8, v9, v10, rfl, ka, hDa, hR, hall, (fun f hf => by rw [List.take_zero] at hf; cases hf), hRl⟩ (fun i σ H' _ ⟨_, _, _, _, _, k, _⟩ => SqT.of k.2.2.2.1) ?_ ?_⟩
      · rintro j u2 σ Hc Hd hj2 ⟨R, v8, v9, v10, rfl, kc, hDc, hR, hall, hin, hRl⟩ ⟨rfl, hu2⟩
        obtain ⟨f, hf, qf, rfl, hqf⟩ := Paired.at kc.2.2.2.2.2 hu2
        have hfM : f ∈ fs := List.mem_of_getElem? hf
        have heB := (hes.ok e heM).mem side2 hw hx
        have hfB := (hfs.ok f hfM).mem side1 hw hy
        obtain ⟨dx, t, tx, d, e0, ws0, h1, _⟩ := hj.same kc.2.1
        refine ⟨qf, _, rfl, SqT.of hqf, rfl, _, _, rfl, _, _, rfl, rfl, ?_⟩
        refine ⟨_, rfl, p, dx, _, rfl, h1, f5_no al t tx d e0 (by decide +kernel) (by decide +kernel) (by decide +kernel) (by decide +kernel) (by decide +kernel), _, rfl, _, rfl, p, al, ps, e.1, f.1, rfl, hj.same kc.2.1, heB, hfB, fun He se => ?_⟩
        have ke := kpS kc se
        have hDe := se _ _ hDc
        have htk : fs.take (j + 1) = fs.take j ++ [f] := take_succ_of hf
        have skip : (∀ r, ¬ Hit e f r) → ∀ f' ∈ fs.take (j + 1), ∀ r, Hit e f' r → r ∈ R := fun hno f' hf' r h => by
          rw [htk] at hf'
          rcases List.mem_append.mp hf' with z | z
          · exact hin f' z r h
          · rw [List.mem_singleton.mp z] at h; exact absurd h (hno r)
        refine ⟨_, rfl, rfl, _, rfl, ?_⟩
        by_cases c : (e.1, f.1) ∈ ps
        · rw [if_pos c]
          have hget : ps[ps.idxOf (e.1, f.1)]? = some (e.1, f.1) := idxOf_get c
          generalize hr0 : ps.idxOf (e.1, f.1) = r0 at hget ⊢
          have huniq : ∀ r, Hit e f r → r = r0 := fun r h => by rw [← hr0, hprop.idx h.1]
          refine iteT ⟨_, rfl, _, rfl, r0, e.2, rfl, fun k1 hk1 => ⟨_, rfl, ?_⟩⟩
          cases k1 with
          | false => exact iteF (iteF ⟨R, _, _, _, rfl, ke, hDe, hR, hall, skip fun r h => by
              have := huniq r h
              subst this
              exact Bool.false_ne_true (hk1.mpr h.2.1), by omega⟩)
          | true =>
            refine iteT ⟨_, rfl, _, rfl, r0, f.2, rfl, fun k2 hk2 => ⟨_, rfl, ?_⟩⟩
            cases k2 with
            | false => exact iteF ⟨R, _, _, _, rfl, ke, hDe, hR, hall, skip fun r h => by
                have := huniq r h
                subst this
                exact Bool.false_ne_true (hk2.mpr h.2.2), by omega⟩
            | true =>
              have hhit : Hit e f r0 := ⟨hget, hk1.mp rfl, hk2.mp rfl⟩
              have hbig : R.length ≤ 1000000 := by
                have h1 : i * fs.length ≤ 999 * 1000 := Nat.mul_le_mul (by omega) hfl
                omega
              refine iteT ⟨_, rfl, .inl ⟨rfl, _, SqL.of hDe⟩, _, rfl, D, _, _, rfl, rfl, hDe, by rw [iv_len]; exact lt_million hbig, ?_⟩
              refine ⟨R ++ [r0], _, _, _, rfl, kpD ke hDe, by rw [upd_same, ← iv_snoc]; rfl, fun r hr => ?_, fun e' he' f' hf' r h => List.mem_append_left _ (hall e' he' f' hf' r h), fun f' hf' r h => ?_, by rw [List.length_append, List.length_singleton]; omega⟩
              · rcases List.mem_append.mp hr with z | z
                · exact hR r z
                · rw [List.mem_singleton.mp z]; exact hit_cross e f r0 heM hfM hhit
              · rw [htk] at hf'
                rcases List.mem_append.mp hf' with z | z
                · exact List.mem_append_left _ (hin f' z r h)
                · rw [List.mem_singleton.mp z] at h
                  exact List.mem_append_right _ (List.mem_singleton.mpr (huniq r h))
        · rw [if_neg c]
          exact iteF (iteF ⟨R, _, _, _, rfl, ke, hDe, hR, hall, skip fun r h => c (List.mem_of_getElem? h.1), by omega⟩)
      · rintro σ He ⟨R, v8, v9, v10, rfl, ke, hDe, hR, hall, hin, hRl⟩
        refine ⟨R, _, _, _, _, _, rfl, ke, hDe, hR, fun e' he' f hf r h => ?_, by rw [hwl] at hRl; rw [Nat.succ_mul]; exact hRl⟩
        rw [take_succ_of he] at he'
        rcases List.mem_append.mp he' with z | z
        · exact hall e' z f hf r h
        · rw [List.mem_singleton.mp z] at h
          exact hin f (by rw [hwl, List.take_length]; exact hf) r h
    · rintro σ He ⟨R, v6, v7, v8, v9, v10, rfl, ke, hDe, hR, hall, hRl⟩
      rw [hul, List.take_length] at hall
      have allR : ∀ r, Cross al.length ps x y r → r ∈ R := fun r ⟨pr, bx, by', hp, a1, a2, a3, a4⟩ => hall (pr.1, bx) (hes.all _ _ a1) (pr.2, by') (hfs.all _ _ a2) r ⟨hp, a3, a4⟩
      refine ⟨_, rfl, minD_row hDe (fun e => ?_) (fun n hn hmin => ?_)⟩
      · exact q He none ke.2.1 fun r hc => by have := allR r hc; rw [e] at this; cases this
      · exact q He (some n) ke.2.1 ⟨hR n hn, fun r hr hc => by have := hmin r (allR r hc); omega⟩
theorem ok_sides {f C : Addr} {fd : FuncData} (F : C8.Fun K "side_by_side" "side_by_side" s_side_by_side f fd) (T : Txt K mg) (J : JTxt K C) (c_crossing : C8.Cal P w K mg base 8 "crossing" (sp_crossing C) []) : FnOk P w K mg base C8.CX0 9 f fd ["joins", "left", "right"] (sp_sides C) := by
  refine C8.fn0 F sc_side_by_side (fun vs H Q E h => ?_) (fun cdv A outer s H vs Q E hr h => ?_)
  · obtain ⟨p, al, ps, x, y, rfl, _⟩ := h; rfl
  · obtain ⟨p, al, ps, x, y, rfl, hj, hprop, hal, hpl, hx, hy, q⟩ := h
    refine ⟨_, (pss_one (ps_ret (pe_cmpR op_isN (C8.pe_c c_crossing hr (by first | decide | omega) (by rfl) (pa_cons (pv 0) (pa_cons (pv 1) (pa_cons (pv 2) pa_nil)))) pe_non (nomark _)))), ?_⟩
    refine ⟨_, rfl, _, rfl, _, rfl, p, al, ps, x, y, rfl, hj, hprop, hal, hpl, hx, hy, fun H1 c s1 hc => ⟨rfl, ?_⟩⟩
    have := q H1 c s1 hc
    rw [← bdV_none] at this
    exact this
end
end RJ
end

section
set_option maxRecDepth 100000
set_option maxHeartbeats 8000000
namespace RJ
open PySem PySem.Spec PyProof.Rows L2
abbrev s_is_cut : Stmt := top 40
abbrev N_is_cut : List Str := ["joins", "row", "piece", "left", "right"]
theorem sc_is_cut : FnScope N_is_cut ["joins", "row"] (C8.fnScope s_is_cut) := C8.fnScope_by (by decide +kernel)
def castZ (row : List Nat) : List Int := row.map fun n : Nat => (n : Int)
theorem castZ_iv (row : List Nat) : (castZ row).map V.int = iv row := by rw [castZ, List.map_map]; rfl
def IsCutZ (al : List Nat) (ps : List (Nat × Nat)) (zs : List Int) : Prop := ∃ row : List Nat, zs = castZ row ∧ (∀ x ∈ row, x < al.length + ps.length) ∧ cutL al.length ps (lets al (textR (textsOf al ps) row)) = row
def JudgeZ (al : List Nat) (ps : List (Nat × Nat)) (t : List Nat) (zs : List Int) : Prop := ∃ row : List Nat, zs = castZ row ∧ (∀ x ∈ row, x < al.length + ps.length) ∧ cutL al.length ps (lets al (textR (textsOf al ps) row)) = row ∧ textR (textsOf al ps) row = t
theorem castZ_inj {a b : List Nat} (h : castZ a = castZ b) : a = b := by
  have := congrArg (List.map Int.toNat) h
  rw [castZ, castZ, List.map_map, List.map_map] at this
  have e : ∀ l : List Nat, l.map (Int.toNat ∘ fun n : Nat => (n : Int)) = l := fun l => by
    have : ∀ k ∈ l, (Int.toNat ∘ fun n : Nat => (n : Int)) k = k := fun k _ => rfl
    rw [List.map_congr_left this, List.map_id']
  rw [e, e] at this; exact this
theorem pieces_of {n : Nat} {zs : List Int} (h : ∀ z ∈ zs, numBelow (.int z) (n : Int) = true) : ∃ row : List Nat, zs = castZ row ∧ ∀ x ∈ row, x < n := by
  refine ⟨zs.map Int.toNat, ?_, fun x hx => ?_⟩
  · rw [castZ, List.map_map]
    have key : ∀ z ∈ zs, ((fun n : Nat => (n : Int)) ∘ Int.toNat) z = z := fun z hz => by
      obtain ⟨a, ha, _⟩ := numBelow_int (h z hz)
      rw [ha]; rfl
    rw [List.map_congr_left key, List.map_id']
  · obtain ⟨z, hz, rfl⟩ := List.mem_map.mp hx
    obtain ⟨a, ha, hlt⟩ := numBelow_int (h z hz)
    rw [ha]; exact hlt
theorem not_pieces {n : Nat} {zs : List Int} {z : Int} (hz : z ∈ zs) (h : numBelow (.int z) (n : Int) = false) : ¬ ∃ row : List Nat, zs = castZ row ∧ ∀ x ∈ row, x < n := by
  rintro ⟨row, rfl, hr⟩
  obtain ⟨a, ha, rfl⟩ := List.mem_map.mp hz
  rw [numBelow_yes (hr a ha)] at h; cases h
def sp_is_cut (C : Addr) : Sp := fun vs H Q _ => ∃ (p a : Addr) (b : Bool) (zs : List Int) (al : List Nat) (ps : List (Nat × Nat)), vs = [.ref p, .ref a] ∧ JoinsAt C H p al ps ∧ Proper al ps ∧ al.Nodup ∧ al.length ≤ 400 ∧ ps.length ≤ 400 ∧ SeqAt b H a (zs.map V.int) ∧ zs.length ≤ 1000 ∧
  ∀ H' k, Same H H' → (k = true ↔ IsCutZ al ps zs) → Q (.bl k) H'
def sp_judge (C : Addr) : Sp := fun vs H Q _ => ∃ (p a : Addr) (b : Bool) (zs : List Int) (al t : List Nat) (ps : List (Nat × Nat)), vs = [.ref p, .str (S t), .ref a] ∧ JoinsAt C H p al ps ∧ Proper al ps ∧ al.Nodup ∧ al.length ≤ 400 ∧ ps.length ≤ 400 ∧ SeqAt b H a (zs.map V.int) ∧ zs.length ≤ 1000 ∧
  ∀ H' k, Same H H' → (k = true ↔ JudgeZ al ps t zs) → Q (.bl k) H'
theorem all_calm {b : Nat} {ps : List (Nat × Nat)} {bs : List Bool} {qs : List (Nat × Nat)} (h : Paired (fun v (q : Nat × Nat) => ∃ c, CrossIs b ps q.1 q.2 c ∧ v = c.isNone) bs qs) : bs.all id = true ↔ ∀ q ∈ qs, ∀ r, ¬ Cross b ps q.1 q.2 r := by
  constructor
  · intro hb q hq r hc
    obtain ⟨i, hi⟩ := List.getElem?_of_mem hq
    obtain ⟨v, hv, c, hci, rfl⟩ := Paired.at2 h hi
    have := List.all_eq_true.mp hb _ (List.mem_of_getElem? hv)
    cases c with
    | none => exact hci r hc
    | some c => cases this
  · intro hq
    refine List.all_eq_true.mpr fun v hv => ?_
    obtain ⟨i, hi⟩ := List.getElem?_of_mem hv
    obtain ⟨q, hqi, c, hci, rfl⟩ := Paired.at h hi
    cases c with
    | none => rfl
    | some c => exact absurd hci.1 (hq q (List.mem_of_getElem? hqi) c)
section
variable {P : Program} {w : World} {K : PySem.W.Frag} {mg : Str → Option Value} {base : Heap}
theorem ok_is_cut {f C : Addr} {fd : FuncData} (F : C8.Fun K "is_cut" "is_cut" s_is_cut f fd) (T : Txt K mg) (J : JTxt K C) (m_has_piece : C8.Met P w K mg base 3 C "has_piece" (sp_has_piece C) []) (c_side_by_side : C8.Cal P w K mg base 9 "side_by_side" (sp_sides C) []) : FnOk P w K mg base C8.CX0 10 f fd ["joins", "row"] (sp_is_cut C) := by
  refine C8.fn0 F sc_is_cut (fun vs H Q E h => ?_) (fun cdv A outer s H vs Q E hr h => ?_)
  · obtain ⟨p, a, b, zs, al, ps, rfl, _⟩ := h; rfl
  · obtain ⟨p, a, b, zs, al, ps, rfl, hj, hprop, hnd, hal, hpl, hrow, hzl, q⟩ := h
    refine ⟨_, (pss_cons (ps_if (pt_not (pt_val (pe_callB (cr_all rfl) (by rfl) T.b_all (by decide +kernel) (pa_cons (pe_lc (own := [("piece", 2)]) (g := gName 2) (tt := tYes) rfl sc_is_cut.nd (pi_seq (pv 1)) (blkOk_by (N := N_is_cut) (sc := C8.fnScope s_is_cut) (by decide +kernel)) (fun _ _ _ _ _ => (pg_name (i := 2) sc_is_cut.nd rfl (Or.inl rfl))) (fun _ _ _ _ _ => pts_nil) (fun _ _ _ _ _ => (C8.pe_mt m_has_piece hr (by first | decide | omega) (pv 0) (pa_cons (pv 2) pa_nil)))) pa_nil)))) (pss_one (ps_ret pe_bl)) pss_nil)
      (pss_one (ps_ret (pe_callB (cr_all rfl) (by rfl) T.b_all (by decide +kernel) (pa_cons (pe_lc (own := [("left", 3), ("right", 4)]) (g := gTup K 2 (gCons (gName 3) (gCons (gName 4) (gNil)))) (tt := tYes) rfl sc_is_cut.nd (pi_zipT2 rfl T.b_zip (pa_cons (pv 1) (pa_cons (pe_slice sl_seq (pv 1) (po_some pe_int) po_none) pa_nil))) (blkOk_by (N := N_is_cut) (sc := C8.fnScope s_is_cut) (by decide +kernel)) (fun _ _ _ _ _ => (pg_tup rfl (pgs_cons (pg_name (i := 3) sc_is_cut.nd rfl (Or.inl rfl)) (pgs_cons (pg_name (i := 4) sc_is_cut.nd rfl (Or.inl rfl)) pgs_nil)))) (fun _ _ _ _ _ => pts_nil) (fun _ _ _ _ _ => (C8.pe_c c_side_by_side hr (by first | decide | omega) (by rfl) (pa_cons (pv 0) (pa_cons (pv 3) (pa_cons (pv 4) pa_nil)))))) pa_nil))))), ?_⟩
    obtain ⟨bs, hbs⟩ : ∃ bs, bs = zs.map fun z => numBelow (.int z) ((al.length + ps.length : Nat) : Int) := ⟨_, rfl⟩
    have hbl : bs.length = zs.length := by rw [hbs, List.length_map]
    refine ⟨_, rfl, b, a, _, rfl, hrow, fun D hD => lc_it walk_seq (fun i H' => Same H H' ∧ H' D = some (.lst ((bs.take i).map V.bl))) ⟨same_new hD, upd_same⟩ (fun i H' _ ⟨sa, _⟩ => hrow.same sa) ?_ ?_⟩
    · rintro i x Ha Hb hi ⟨sa, ha⟩ ⟨rfl, hx⟩
      rw [List.getElem?_map] at hx
      obtain ⟨z, hz, rfl⟩ := Option.map_eq_some_iff.mp hx
      have hj' := hj.same sa
      obtain ⟨dx, t, tx, d, e, ws, h1, _⟩ := id hj'
      have hb : bs[i]? = some (numBelow (.int z) ((al.length + ps.length : Nat) : Int)) := by rw [hbs, List.getElem?_map, hz]; rfl
      refine ⟨rfl, _, rfl, p, dx, _, rfl, h1, f5_no al t tx d e (by decide +kernel) (by decide +kernel) (by decide +kernel) (by decide +kernel) (by decide +kernel), _, rfl, p, _, al, ps, rfl, hj', .int z, ?_⟩
      refine ⟨_, ha, ?_, Same.put sa hD, ?_⟩
      · rw [List.length_map, List.length_take]; exact small1000 (by omega)
      · rw [upd_same, map_take_succ hb]
    · rintro H1 ⟨s1, hd⟩
      rw [List.length_map, ← hbl, List.take_length] at hd
      refine ⟨D, _, rfl, SqL.of hd, _, rfl, ?_⟩
      cases hball : bs.all id with
      | false =>
        refine iteT (q H1 false s1 ⟨fun h => (by cases h), fun ⟨row, h1, h2, _⟩ => ?_⟩)
        exfalso
        have : ¬ bs.all id = true := by rw [hball]; decide
        refine this (List.all_eq_true.mpr fun v hv => ?_)
        rw [hbs] at hv
        obtain ⟨z, hz, rfl⟩ := List.mem_map.mp hv
        rw [h1] at hz
        obtain ⟨x, hx, rfl⟩ := List.mem_map.mp hz
        exact numBelow_yes (h2 x hx)
      | true =>
        refine iteF ?_
        obtain ⟨row, rfl, hin⟩ := pieces_of (n := al.length + ps.length) (zs := zs) fun z hz => by
          have := List.all_eq_true.mp hball (numBelow (.int z) ((al.length + ps.length : Nat) : Int)) (by rw [hbs]; exact List.mem_map.mpr ⟨z, hz, rfl⟩)
          exact this
        have hrl : row.length ≤ 1000 := by rw [castZ, List.length_map] at hzl; exact hzl
        have hrow0 : RowAt b H a row := by rw [castZ_iv] at hrow; exact hrow
        have hrow1 := hrow0.same s1
        refine ⟨_, rfl, _, rfl, 1, rfl, slSeq_from1 hrow1 fun H2 qa s2 hq => ?_⟩
        have hrow2 := hrow1.same s2
        have hj2 := hj.same (s1.trans s2)
        refine ⟨_, _, _, _, _, _, _, _, rfl, src_seq hrow2, src_seq hq, fun D2 hD2 => ?_⟩
        have hn : min (iv row).length ((iv row).drop 1).length = (adjs row).length := by
          unfold adjs
          rw [List.length_zip, iv_len, List.length_drop, iv_len, List.length_tail]
        rw [hn]
        refine lc_it walkG (fun i H' => Same H2 H' ∧ ∃ cs : List Bool, H' D2 = some (.lst (cs.map V.bl)) ∧ Paired (fun v (q : Nat × Nat) => ∃ c, CrossIs al.length ps q.1 q.2 c ∧ v = c.isNone) cs ((adjs row).take i)) ⟨same_new hD2, [], upd_same, .nil⟩ (fun i H' _ ⟨s3, _⟩ => ⟨hrow2.same s3, hq.same s3⟩) ?_ ?_
        · rintro i x H3 H4 hi ⟨s3, cs, hcs, hP⟩ ⟨Tt, ys, rfl, hT, rfl, v1, v2, h1, h2, rfl⟩
          obtain ⟨n1, hn1, rfl⟩ := iv_get h1
          have h2' : (iv row)[i + 1]? = some v2 := by rw [List.getElem?_drop] at h2; rw [Nat.add_comm]; exact h2
          obtain ⟨n2, hn2, rfl⟩ := iv_get h2'
          have hadj : (adjs row)[i]? = some (n1, n2) := by
            unfold adjs
            rw [List.getElem?_zip_eq_some]; exact ⟨hn1, by rw [List.getElem?_tail]; exact hn2⟩
          have hne : D2 ≠ Tt := ne_of_none hcs hT
          have s4 := Same.new (o := .tup [.int (n1 : Int), .int (n2 : Int)]) s3 hT
          refine ⟨Tt, _, rfl, SqT.of upd_same, rfl, _, _, rfl, _, _, rfl, rfl, rfl, _, rfl, _, rfl, _, rfl, p, al, ps, n1, n2, rfl, hj2.same s4, hprop, hal, hpl, hin n1 (List.mem_of_getElem? hn1), hin n2 (List.mem_of_getElem? hn2), fun H5 c s5 hc => ?_⟩
          have htk : (adjs row).take (i + 1) = (adjs row).take i ++ [(n1, n2)] := take_succ_of hadj
          have hcl := hP.length
          rw [List.length_take] at hcl
          have h3 : (adjs row).length ≤ row.length := by unfold adjs; rw [List.length_zip]; exact Nat.min_le_left _ _
          refine ⟨cs.map V.bl, s5 _ _ ((upd_ne hne).trans hcs), by rw [List.length_map]; exact small1000 (by omega), Same.put (s4.trans s5) hD2, cs ++ [c.isNone], ?_, ?_⟩
          · rw [upd_same, List.map_append]; rfl
          · rw [htk]; exact Paired.snoc ⟨c, hc, rfl⟩ hP
        · rintro H3 ⟨s3, cs, hcs, hP⟩
          rw [List.take_length] at hP
          refine ⟨D2, _, rfl, SqL.of hcs, q H3 _ ((s1.trans s2).trans s3) ?_⟩
          rw [all_calm hP, ← cut_row_iff (hprop.good hnd) hin, Dn_texts hnd hprop hin]
          constructor
          · intro h; exact ⟨row, rfl, hin, h⟩
          · rintro ⟨row2, e, _, h⟩
            rw [castZ_inj e]; exact h
end
end RJ
end

section
set_option maxRecDepth 100000
set_option maxHeartbeats 4000000
namespace RJ
open PySem PySem.Spec PyProof.Rows L2
abbrev s__law_pool : Stmt := top 48
abbrev N__law_pool : List Str := ["script", "many", "pool", "total", "cell", "rest", "k", "first", "second"]
theorem sc__law_pool : FnScope N__law_pool ["script", "many"] (C8.fnScope s__law_pool) := C8.fnScope_by (by decide +kernel)
abbrev s__law_draw : Stmt := top 49
abbrev N__law_draw : List Str := ["pool", "many"]
theorem sc__law_draw : FnScope N__law_draw ["pool", "many"] (C8.fnScope s__law_draw) := C8.fnScope_by (by decide +kernel)
abbrev s__law_alphabet : Stmt := top 50
abbrev N__law_alphabet : List Str := ["pool", "signs", "chosen", "k"]
theorem sc__law_alphabet : FnScope N__law_alphabet ["pool"] (C8.fnScope s__law_alphabet) := C8.fnScope_by (by decide +kernel)
/-! ### the pool -/
def PoolAt (p : Addr) (H : Hp) : Prop := ∃ ns : List Nat, H p = some (.lst (iv ns)) ∧ ns.length ≤ 1000
/-- all as it was but the pool -/
structure PSame (p : Addr) (H H' : Hp) : Prop where
  x : SameX p H H'
  at0 : PoolAt p H
  at1 : PoolAt p H'
section pool
variable {p : Addr}
theorem PSame.refl {H : Hp} (h : PoolAt p H) : PSame p H H := ⟨fun _ _ _ e => e, h, h⟩
theorem PSame.trans {H H1 H2 : Hp} (s : PSame p H H1) (u : PSame p H1 H2) : PSame p H H2 := ⟨fun b o h e => u.x b o h (s.x b o h e), s.at0, u.at1⟩
theorem PoolAt.same {H H' : Hp} (h : PoolAt p H) (s : Same H H') : PoolAt p H' := by
  obtain ⟨ns, h1, h2⟩ := h
  exact ⟨ns, s _ _ h1, h2⟩
theorem PSame.of {H H' : Hp} (h : PoolAt p H) (s : Same H H') : PSame p H H' := ⟨Same.x s, h, h.same s⟩
theorem PSame.then {H H1 H2 : Hp} (s : PSame p H H1) (u : Same H1 H2) : PSame p H H2 := s.trans (PSame.of s.at1 u)
theorem PSame.new {q : Addr} {H H1 : Hp} {o : HO} (s : PSame p H H1) (h : H1 q = none) : PSame p H (upd H1 q o) := s.then (same_new h)
theorem PoolAt.free {H : Hp} {q : Addr} (h : PoolAt p H) (hq : H q = none) : q ≠ p := by
  obtain ⟨ns, h1, _⟩ := h
  exact Ne.symm (ne_of_none h1 hq)
theorem PoolAt.put {H : Hp} {q : Addr} {o : HO} (h : PoolAt p H) (h1 : q ≠ p) : PoolAt p (upd H q o) := by
  obtain ⟨ns, e1, e2⟩ := h
  exact ⟨ns, (upd_ne (Ne.symm h1)).trans e1, e2⟩
/-- what is written where nothing stood, is kept out -/
theorem PSame.put {q : Addr} {H H1 : Hp} {o : HO} (s : PSame p H H1) (h : H q = none) : PSame p H (upd H1 q o) :=
  ⟨fun b u hb e => by rw [upd_ne (ne_of_none e h)]; exact s.x b u hb e, s.at0, s.at1.put (s.at0.free h)⟩
theorem PSame.none {q : Addr} {H H1 : Hp} (s : PSame p H H1) (h : H1 q = none) : H q = none := by
  have hne := s.at1.free h
  cases e : H q with
  | none => rfl
  | some o => rw [s.x q o hne e] at h; cases h
theorem PSame.lst {b : Addr} {H H' : Hp} {xs : List V} (s : PSame p H H') (hb : b ≠ p) (e : H b = some (.lst xs)) : H' b = some (.lst xs) := s.x b _ hb e
theorem PSame.tup {b : Addr} {H H' : Hp} {xs : List V} (s : PSame p H H') (e : H b = some (.tup xs)) : H' b = some (.tup xs) := by
  obtain ⟨ns, h1, _⟩ := s.at0
  exact s.x b _ (ne_of e h1 (fun z => by cases z)) e
theorem PSame.tt {H H' : Hp} (s : PSame p H H') : SameT H H' := fun b xs e => s.tup e
theorem JoinsAt.pool {C y : Addr} {H H' : Hp} {al : List Nat} {ps : List (Nat × Nat)} (h : JoinsAt C H y al ps) (s : PSame p H H') (hal : 0 < al.length) : JoinsAt C H' y al ps := by
  obtain ⟨dx, u, tx, d, e, ws, h1, h2, h3, h4, h5, h6⟩ := h
  obtain ⟨ns, e1, _⟩ := s.at0
  refine ⟨dx, u, tx, d, e, ws, s.x _ _ (ne_of h1 e1 (fun z => by cases z)) h1, s.tup h2, h3.same s.tt, s.x _ _ ?_ h4, s.x _ _ (ne_of h5 e1 (fun z => by cases z)) h5, s.x _ _ (ne_of h6 e1 (fun z => by cases z)) h6⟩
  rintro rfl
  rw [e1] at h4
  have hT : 0 < (textsOf al ps).length := by rw [textsOf_len]; omega
  cases hts : textsOf al ps with
  | nil => rw [hts] at hT; exact absurd hT (Nat.lt_irrefl _)
  | cons a b =>
    rw [hts] at h4
    have e2 : iv ns = strV (a :: b) := by injection h4 with h; injection h
    cases ns with
    | nil => cases e2
    | cons n ns =>
      have e3 : V.int (n : Int) = V.str (S a) := (List.cons.inj e2).1
      cases e3
end pool
def sp_pool (K : PySem.W.Frag) : Sp := fun vs H Q _ => ∃ (a : Addr) (zs : List Int) (m : Nat), vs = [.ref a, .int (m : Int)] ∧ SqL K H a (zs.map V.int) ∧ zs.length ≤ 63 ∧ m ≤ 1000 ∧ ∀ H' p, Same H H' → H p = none → PoolAt p H' → Q (.ref p) H'
def sp_drawB : Sp := fun vs H Q _ => ∃ (p : Addr) (m : Int), vs = [.ref p, .int m] ∧ PoolAt p H ∧ 0 < m ∧ ∀ (H' : Hp) (r : Nat), PSame p H H' → (r : Int) < m → Q (.int (r : Int)) H'
def sp_alphabetB : Sp := fun vs H Q _ => ∃ p : Addr, vs = [.ref p] ∧ PoolAt p H ∧
  ∀ H' al, PSame p H H' → alOk al = true → al.Nodup → 1 ≤ al.length → al.length ≤ 30 → (∀ c ∈ al, c ∈ SG) → Q (.str (S al)) H'
section
variable {P : Program} {w : World} {K : PySem.W.Frag} {mg : Str → Option Value} {base : Heap}
theorem ok_pool {f : Addr} {fd : FuncData} (F : C8.Fun K "_law_pool" "_law_pool" s__law_pool f fd) (T : Txt K mg) : FnOk P w K mg base C8.CX0 1 f fd ["script", "many"] (sp_pool K) := by
  refine C8.fn0 F sc__law_pool (fun vs H Q E h => ?_) (fun cdv A outer s H vs Q E hr h => ?_)
  · obtain ⟨a, zs, m, rfl, _⟩ := h; rfl
  · obtain ⟨a, zs, m, rfl, hS, hz, hm, q⟩ := h
    refine ⟨_, (pss_cons (ps_set (i := 2) sc__law_pool.nd rfl (Or.inl rfl) (pe_lst pa_nil))
      (pss_cons (ps_set (i := 3) sc__law_pool.nd rfl (Or.inl rfl) pe_int)
      (pss_cons (ps_for PassesOwn.never rfl (pi_list (pv 0)) (pg_name (i := 4) sc__law_pool.nd rfl (Or.inl rfl)) (pss_cons (ps_set (i := 5) sc__law_pool.nd rfl (Or.inl rfl) (pe_callTy call_int1 (by rfl) T.b_int (by decide +kernel) (pa_cons (pe_callB call_abs (by rfl) T.b_abs (by decide +kernel) (pa_cons (pv 4) pa_nil)) pa_nil)))
      (pss_cons (ps_if (pt_cmpR op_ge (pv 5) (pe_op op_pow pe_int pe_int) (nomark _)) (pss_one (ps_for PassesOwn.never rfl (pi_range1 rfl T.b_range (pa_cons (pe_callB (call_min2 rfl) (by rfl) T.b_min (by decide +kernel) (pa_cons pe_int (pa_cons (pe_op op_sub (pv 1) (pe_callB call_len_seq (by rfl) T.b_len PySem.boot_len (pa_cons (pv 2) pa_nil))) pa_nil))) pa_nil)) (pg_name (i := 6) sc__law_pool.nd rfl (Or.inl rfl)) (pss_cons (ps_expr (pe_bm PySem.F.plainAttrs_list PySem.F.slot_list_append PySem.F.type_list_append mt_append (pv 2) (pa_cons (pe_op op_mod (pe_callTy call_int1 (by rfl) T.b_int (by decide +kernel) (pa_cons (pv 5) pa_nil)) pe_int) pa_nil)))
      (pss_cons (ps_set (i := 5) sc__law_pool.nd rfl (Or.inl rfl) (pe_op op_fdiv (pv 5) pe_int))
      (pss_one (ps_if (pt_cmpR op_eq (pv 5) pe_int (nomark _)) (pss_one ps_break) pss_nil)))))) (pss_cons (ps_set (i := 7) sc__law_pool.nd rfl (Or.inl rfl) (pe_op op_mod (pe_callTy call_int1 (by rfl) T.b_int (by decide +kernel) (pa_cons (pe_op op_add (pe_op op_add (pe_op op_mul (pv 4) pe_int) (pe_op op_mul (pe_callB call_len_seq (by rfl) T.b_len PySem.boot_len (pa_cons (pv 2) pa_nil)) pe_int)) pe_int) pa_nil)) pe_int))
      (pss_cons (ps_set (i := 8) sc__law_pool.nd rfl (Or.inl rfl) (pe_op op_mod (pe_callTy call_int1 (by rfl) T.b_int (by decide +kernel) (pa_cons (pe_op op_add (pe_op op_mul (pv 7) (pv 7)) pe_int) pa_nil)) pe_int))
      (pss_cons (ps_expr (pe_bm PySem.F.plainAttrs_list PySem.F.slot_list_append PySem.F.type_list_append mt_append (pv 2) (pa_cons (pe_op op_mod (pe_callTy call_int1 (by rfl) T.b_int (by decide +kernel) (pa_cons (pe_op op_fdiv (pv 8) pe_int) pa_nil)) pe_int) pa_nil)))
      (pss_one (ps_expr (pe_bm PySem.F.plainAttrs_list PySem.F.slot_list_append PySem.F.type_list_append mt_append (pv 2) (pa_cons (pe_op op_mod (pe_op op_mod (pe_callTy call_int1 (by rfl) T.b_int (by decide +kernel) (pa_cons (pe_op op_add (pe_op op_mul (pv 8) pe_int) (pv 7)) pa_nil)) pe_int) pe_int) pa_nil))))))))
      (pss_one (ps_set (i := 3) sc__law_pool.nd rfl (Or.inl rfl) (pe_op op_mod (pe_callTy call_int1 (by rfl) T.b_int (by decide +kernel) (pa_cons (pe_op op_add (pe_op op_mul (pv 3) pe_int) (pv 4)) pa_nil)) pe_int))))))
      (pss_cons (ps_for PassesOwn.never rfl (pi_range1 rfl T.b_range (pa_cons (pv 1) pa_nil)) (pg_name (i := 6) sc__law_pool.nd rfl (Or.inl rfl)) (pss_cons (ps_set (i := 3) sc__law_pool.nd rfl (Or.inl rfl) (pe_op op_mod (pe_callTy call_int1 (by rfl) T.b_int (by decide +kernel) (pa_cons (pe_op op_add (pe_op op_add (pe_op op_mul (pv 3) pe_int) (pe_op op_mul (pv 6) pe_int)) pe_int) pa_nil)) pe_int))
      (pss_one (ps_expr (pe_bm PySem.F.plainAttrs_list PySem.F.slot_list_append PySem.F.type_list_append mt_append (pv 2) (pa_cons (pe_op op_mod (pe_callTy call_int1 (by rfl) T.b_int (by decide +kernel) (pa_cons (pe_op op_fdiv (pv 3) pe_int) pa_nil)) pe_int) pa_nil))))))
      (pss_cons (ps_set (i := 2) sc__law_pool.nd rfl (Or.inl rfl) (pe_slice sl_list (pv 2) po_none (po_some (pv 1))))
      (pss_cons (ps_expr (pe_bm0 PySem.F.plainAttrs_list PySem.F.slot_list_reverse PySem.F.type_list_reverse mt_reverse (pv 2)))
      (pss_one (ps_ret (pv 2))))))))), ?_⟩
    refine ⟨Nat.zero_le _, fun p hp => ?_⟩
    have hnew : ∀ (H' : Hp) (ns : List Nat) (z : Int), Same H H' → H' p = some (.lst (iv ns)) → ns.length ≤ 5000 → ∃ n : Nat, z % 2520 = (n : Int) ∧ ((iv ns).length < sizeLine) ∧ Same H (upd H' p (.lst (iv ns ++ [V.int (z % 2520)]))) ∧ (upd H' p (.lst (iv ns ++ [V.int (z % 2520)]))) p = some (.lst (iv (ns ++ [n]))) := fun H' ns z s' e hl => by
      obtain ⟨n, hn, _⟩ := emod_nat z 2520 (by decide)
      refine ⟨n, hn, by rw [iv_len]; exact Nat.lt_of_le_of_lt hl (by decide), Same.put s' hp, ?_⟩
      rw [upd_same, hn, iv_snoc]
    refine ⟨_, rfl, a, rfl, ⟨_, (same_new hp).seq hS⟩, for_it walk_list (fun i σ H' => ∃ (total : Int) (ns : List Nat) (v4 v5 v6 v7 v8 : Option V), σ = [some (.ref a), some (.int (m : Int)), some (.ref p), some (.int total), v4, v5, v6, v7, v8] ∧ Same H H' ∧ H' p = some (.lst (iv ns)) ∧ ns.length ≤ 60 * i)
      ⟨1, [], none, none, none, none, none, rfl, same_new hp, upd_same, Nat.zero_le _⟩ (fun i σ H' _ ⟨_, _, _, _, _, _, _, _, s', _⟩ => s'.seq hS) ?_ ?_⟩
    · rintro i x σ Ha Hb hi ⟨total, ns, v4, v5, v6, v7, v8, rfl, sa, hpb, hle⟩ ⟨rfl, hx⟩
      rw [List.length_map] at hi
      rw [List.getElem?_map] at hx
      obtain ⟨z, hz', rfl⟩ := Option.map_eq_some_iff.mp hx
      refine ⟨_, rfl, z, rfl, .inl ⟨_, rfl, ?_⟩⟩
      dsimp only [gName]
      show tSeq (tIfS _ _ _) _ _ [some (.ref a), some (.int (m : Int)), some (.ref p), some (.int total), some (.int z), some (.int (if z < 0 then -z else z)), v6, v7, v8] Hb
      show tTest _ _ _ _
      generalize hM : tAsg _ _ _ = M
      have key : ∀ (H' : Hp) (ns : List Nat) (w5 w6 w7 w8 : Option V), Same H H' → H' p = some (.lst (iv ns)) → ns.length ≤ 60 * (i + 1) → M [some (.ref a), some (.int (m : Int)), some (.ref p), some (.int total), some (.int z), w5, w6, w7, w8] H' := by
        intro H' ns w5 w6 w7 w8 s' e hl
        rw [← hM]
        exact ⟨_, rfl, _, _, rfl, rfl, .inr ⟨by decide, by decide⟩, _, rfl, _, _, rfl, rfl, .inl ⟨_, rfl, _, _, rfl, rfl, by show (0 : Int) < 1000003; decide, _, ns, _, _, _, _, _, rfl, s', e, hl⟩⟩
      have hi63 : i < 63 := by omega
      refine ⟨_, rfl, _, _, rfl, rfl, ⟨by decide, by decide, by decide⟩, _, _, rfl, rfl, _, rfl, ?_⟩
      obtain ⟨b, hb⟩ : ∃ b : Bool, b = decide (((10 : Int) ^ (18 : Int).toNat) ≤ (if z < 0 then -z else z)) := ⟨_, rfl⟩
      show (if decide (((10 : Int) ^ (18 : Int).toNat) ≤ (if z < 0 then -z else z)) = true then _ else _)
      rw [← hb]
      cases b with
      | true =>
        refine iteT ⟨_, rfl, _, rfl, p, _, rfl, .inl (SqL.of hpb), _, _, rfl, rfl, _, _, rfl, ?_⟩
        rw [iv_len]
        obtain ⟨n, hn⟩ : ∃ n : Int, n = (if (m : Int) - (ns.length : Int) < 60 then (m : Int) - (ns.length : Int) else 60) := ⟨_, rfl⟩
        have hn60 : n ≤ 60 ∧ -5000 ≤ n := by rw [hn]; split <;> omega
        rw [← hn]
        refine ⟨_, rfl, by omega, by omega, for_it walk_range (fun k σ H' => ∃ (rest : Int) (ns' : List Nat) (v6 : Option V), σ = [some (.ref a), some (.int (m : Int)), some (.ref p), some (.int total), some (.int z), some (.int rest), v6, v7, v8] ∧ Same H H' ∧ H' p = some (.lst (iv ns')) ∧ ns'.length ≤ 60 * i + k)
          ⟨_, ns, v6, rfl, sa, hpb, hle⟩ (fun _ _ _ _ _ => trivial) ?_ ?_⟩
        · rintro k x σ Hc Hd hk ⟨rest, ns', w6, rfl, sc, hpc, hlc⟩ ⟨rfl, hx⟩
          have hk60 : k < 60 := by omega
          obtain ⟨n1, en1, l1, s1, e1⟩ := hnew _ ns' rest sc hpc (by omega)
          refine ⟨_, rfl, .inl ⟨rfl, _, SqL.of hpc⟩, _, rfl, .inl ⟨_, rfl, _, _, rfl, rfl, by show (0 : Int) < 2520; decide, p, _, _, rfl, rfl, hpc, l1, ?_⟩⟩
          refine ⟨_, rfl, _, _, rfl, rfl, ⟨by decide, by decide⟩, ?_⟩
          refine ⟨_, rfl, rfl, _, rfl, ?_⟩
          obtain ⟨b2, hb2⟩ : ∃ b : Bool, b = decide (V.int (rest / 2520) = V.int 0) := ⟨_, rfl⟩
          show (if decide (V.int (rest / 2520) = V.int 0) = true then _ else _)
          rw [← hb2]
          have hl1 : (ns' ++ [n1]).length ≤ 60 * i + (k + 1) := by rw [List.length_append, List.length_singleton]; omega
          cases b2 with
          | true => exact iteT (key _ _ _ _ _ _ s1 e1 (by omega))
          | false => exact iteF ⟨_, ns' ++ [n1], _, rfl, s1, e1, hl1⟩
        · rintro σ Hc ⟨rest, ns', w6, rfl, sc, hpc, hlc⟩
          exact key _ _ _ _ _ _ sc hpc (by omega)
      | false =>
        refine iteF ⟨_, rfl, _, _, rfl, rfl, .inr ⟨by decide, by decide⟩, _, rfl, p, _, rfl, .inl (SqL.of hpb), _, _, rfl, rfl, .inr ⟨by decide, by decide⟩, _, _, rfl, rfl, _, _, rfl, rfl, .inl ⟨_, rfl, _, _, rfl, rfl, by show (0 : Int) < 2147483647; decide, ?_⟩⟩
        dsimp only [gName]
        generalize hf : ((z * 48271 + ((iv ns).length : Int) * 69621 + 11) % 2147483647) = fr
        have hfb : 0 ≤ fr ∧ fr < 2147483647 := by rw [← hf]; exact ⟨Int.emod_nonneg _ (by decide), Int.emod_lt_of_pos _ (by decide)⟩
        refine ⟨_, rfl, _, rfl, _, _, rfl, rfl, .inl ⟨by omega, by omega⟩, _, _, rfl, rfl, .inl ⟨_, rfl, _, _, rfl, rfl, by show (0 : Int) < 2147483629; decide, ?_⟩⟩
        dsimp only [gName]
        generalize hsc : ((fr * fr + 5) % 2147483629) = sc
        obtain ⟨n1, en1, l1, s1, e1⟩ := hnew _ ns (sc / 7) sa hpb (by omega)
        refine ⟨_, rfl, .inl ⟨rfl, _, SqL.of hpb⟩, _, rfl, _, _, rfl, rfl, ⟨by decide, by decide⟩, .inl ⟨_, rfl, _, _, rfl, rfl, by show (0 : Int) < 2520; decide, p, _, _, rfl, rfl, hpb, l1, ?_⟩⟩
        have hl1 : (ns ++ [n1]).length ≤ 60 * i + 1 := by rw [List.length_append, List.length_singleton]; omega
        have e1' : (upd Hb p (.lst (iv ns ++ [V.int (sc / 7 % 2520)]))) p = some (.lst (iv ns ++ [V.int (sc / 7 % 2520)])) := upd_same
        rw [e1] at e1'
        have ell : iv (ns ++ [n1]) = iv ns ++ [V.int (sc / 7 % 2520)] := by injection e1' with h; injection h
        obtain ⟨n2, en2, l2, s2, e2⟩ := hnew _ (ns ++ [n1]) ((sc * 16807 + fr) % 2147483587) s1 e1 (by omega)
        refine ⟨_, rfl, .inl ⟨rfl, _, SqL.of e1⟩, _, rfl, _, _, rfl, rfl, .inr ⟨by decide, by decide⟩, _, rfl, _, _, rfl, rfl, .inl ⟨_, rfl, _, _, rfl, rfl, by show (0 : Int) < 2147483587; decide, _, _, rfl, rfl, by show (0 : Int) < 2520; decide, p, _, _, rfl, rfl, e1, l2, ?_⟩⟩
        exact key _ _ _ _ _ _ s2 e2 (by rw [List.length_append, List.length_singleton]; omega)
    · rintro σ H1 ⟨total, ns, v4, v5, v6, v7, v8, rfl, sa, hpb, hle⟩
      rw [List.length_map] at hle
      have hle' : ns.length ≤ 3780 := by omega
      refine ⟨_, rfl, _, rfl, by omega, by omega, for_it walk_range (fun k σ H' => ∃ (total : Int) (ns' : List Nat) (v6 : Option V), σ = [some (.ref a), some (.int (m : Int)), some (.ref p), some (.int total), v4, v5, v6, v7, v8] ∧ Same H H' ∧ H' p = some (.lst (iv ns')) ∧ ns'.length ≤ 3780 + k)
        ⟨total, ns, v6, rfl, sa, hpb, hle'⟩ (fun _ _ _ _ _ => trivial) ?_ ?_⟩
      · rintro k x σ Hc Hd hk ⟨tot, ns', w6, rfl, sc, hpc, hlc⟩ ⟨rfl, hx⟩
        obtain rfl : x = V.int (k : Int) := hx.trans (congrArg V.int (Int.zero_add _))
        have hkm : k < m := by simpa using hk
        refine ⟨_, rfl, _, _, rfl, rfl, .inr ⟨by decide, by decide⟩, _, rfl, _, _, rfl, rfl, .inr ⟨by decide, by decide⟩, _, _, rfl, rfl, _, _, rfl, rfl, .inl ⟨_, rfl, _, _, rfl, rfl, by show (0 : Int) < 2147483647; decide, ?_⟩⟩
        dsimp only [gName]
        generalize hf : ((tot * 48271 + (k : Int) * 69621 + 17) % 2147483647) = t2
        obtain ⟨n1, en1, l1, s1, e1⟩ := hnew _ ns' (t2 / 5) sc hpc (by omega)
        exact ⟨_, rfl, .inl ⟨rfl, _, SqL.of hpc⟩, _, rfl, _, _, rfl, rfl, ⟨by decide, by decide⟩, .inl ⟨_, rfl, _, _, rfl, rfl, by show (0 : Int) < 2520; decide, p, _, _, rfl, rfl, hpc, l1, _, ns' ++ [n1], _, rfl, s1, e1, by rw [List.length_append, List.length_singleton]; omega⟩⟩
      · rintro σ H2 ⟨tot, ns', w6, rfl, sc, hpc, hlc⟩
        refine ⟨_, rfl, _, rfl, _, rfl, p, _, rfl, SqL.of hpc, fun p2 hp2 => ?_⟩
        rw [cut_to]
        refine ⟨_, rfl, .inl ⟨rfl, _, SqL.of upd_same⟩, p2, _, rfl, rfl, upd_same, _, rfl, ?_⟩
        refine q _ p2 (Same.put (Same.new sc hp2) (sc.free hp2)) (sc.free hp2) ⟨(ns'.take m).reverse, ?_, ?_⟩
        · rw [upd_same, iv, iv, List.map_reverse]
        · rw [List.length_reverse, List.length_take]; omega
theorem ok_drawB {f : Addr} {fd : FuncData} (F : C8.Fun K "_law_draw" "_law_draw" s__law_draw f fd) (T : Txt K mg) : FnOk P w K mg base C8.CX0 1 f fd ["pool", "many"] sp_drawB := by
  refine C8.fn0 F sc__law_draw (fun vs H Q E h => ?_) (fun cdv A outer s H vs Q E hr h => ?_)
  · obtain ⟨p, m, rfl, _⟩ := h; rfl
  · obtain ⟨p, m, rfl, hP, hm, q⟩ := h
    obtain ⟨ns, hp, hl⟩ := id hP
    refine ⟨_, (pss_cons (ps_if (pt_cmpR op_eq (pe_callB call_len_seq (by rfl) T.b_len PySem.boot_len (pa_cons (pv 0) pa_nil)) pe_int (nomark _)) (pss_one (ps_ret pe_int)) pss_nil)
      (pss_one (ps_ret (pe_op op_mod (pe_callTy call_int1 (by rfl) T.b_int (by decide +kernel) (pa_cons (pe_bm0 PySem.F.plainAttrs_list PySem.F.slot_list_pop PySem.F.type_list_pop mt_pop (pv 0)) pa_nil)) (pv 1))))), ?_⟩
    refine ⟨_, rfl, p, _, rfl, .inl (SqL.of hp), rfl, _, rfl, ?_⟩
    rw [iv_len]
    cases hns : ns.getLast? with
    | none =>
      have e : ns = [] := List.getLast?_eq_none_iff.mp hns
      subst e
      exact iteT (q H 0 (PSame.refl hP) (by omega))
    | some n =>
      obtain ⟨ms, rfl⟩ := List.getLast?_eq_some_iff.mp hns
      rw [show decide (V.int ((ms ++ [n]).length : Int) = V.int 0) = false from decide_eq_false (by intro z; injection z with z; rw [List.length_append, List.length_singleton] at z; omega)]
      have hiv : iv (ms ++ [n]) = iv ms ++ [V.int (n : Int)] := (iv_snoc ms n).symm
      refine iteF ⟨_, rfl, .inl ⟨rfl, _, SqL.of hp⟩, p, iv (ms ++ [n]), V.int (n : Int), rfl, rfl, hp, by rw [hiv]; simp, .inl ⟨_, rfl, _, rfl, _, _, rfl, rfl, hm, ?_⟩⟩
      obtain ⟨r, hr1, hr2⟩ := emod_nat (n : Int) m hm
      dsimp only [gName]
      rw [hr1, hiv, List.dropLast_concat]
      rw [List.length_append] at hl
      exact q _ r ⟨fun b o hb e => (upd_ne hb).trans e, hP, ms, upd_same, by omega⟩ hr2
end
end RJ
end

section
set_option maxRecDepth 100000
set_option maxHeartbeats 8000000
namespace RJ
open PySem PySem.Spec PyProof.Rows L2
abbrev s__law_staged : Stmt := top 51
abbrev N__law_staged : List Str := ["pairs", "letters", "row", "many", "rank", "out", "piece"]
theorem sc__law_staged : FnScope N__law_staged ["pairs", "letters", "row", "many"] (C8.fnScope s__law_staged) := C8.fnScope_by (by decide +kernel)
abbrev s__law_cut : Stmt := top 52
abbrev N__law_cut : List Str := ["pairs", "alphabet", "text", "sign"]
theorem sc__law_cut : FnScope N__law_cut ["pairs", "alphabet", "text"] (C8.fnScope s__law_cut) := C8.fnScope_by (by decide +kernel)
/-- ascending signs -/
theorem asc_of : ∀ {l : List Nat}, l.Pairwise (· < ·) → (ascL l).all id = true
  | [], _ => rfl
  | [_], _ => rfl
  | a :: b :: t, h => by
    have h1 := (List.pairwise_cons.mp h).1 b (List.mem_cons_self ..)
    have h2 := asc_of (List.pairwise_cons.mp h).2
    show (decide (a < b) && (ascL (b :: t)).all id) = true
    rw [decide_eq_true h1, h2]; rfl
theorem SG_asc : SG.Pairwise (· < ·) := by decide +kernel
/-- a dict of numbers, each with True -/
def dkeys (ks : List Nat) : List (Key × V) := ks.map fun (n : Nat) => ((Sum.inl (n : Int), .bl true) : Key × V)
theorem dkeys_val (n : Nat) : ∀ ks : List Nat, valV (dkeys ks) (.inl (n : Int)) = if n ∈ ks then some (.bl true) else none
  | [] => by rw [if_neg List.not_mem_nil]; exact valV_nil
  | k :: ks => by
    show valV (((Sum.inl (k : Int), .bl true) : Key × V) :: dkeys ks) _ = _
    by_cases h : k = n
    · subst h
      rw [valV_pos (p := ((Sum.inl (k : Int), .bl true) : Key × V)) rfl, if_pos (List.mem_cons_self ..)]
    · rw [valV_neg (p := ((Sum.inl (k : Int), .bl true) : Key × V)) (fun z => h (by have := Sum.inl.inj z; omega)), dkeys_val n ks]
      by_cases m : n ∈ ks
      · rw [if_pos m, if_pos (List.mem_cons_of_mem _ m)]
      · rw [if_neg m, if_neg fun z => by
          rcases List.mem_cons.mp z with e | e
          · exact h e.symm
          · exact m e]
theorem dkeys_put (n : Nat) (ks : List Nat) : putK (dkeys ks) (.inl (n : Int)) (.bl true) = if n ∈ ks then dkeys ks else dkeys (ks ++ [n]) := by
  by_cases m : n ∈ ks
  · rw [if_pos m]
    unfold putK
    rw [valV_any, dkeys_val, if_pos m]
    rw [if_pos (show (some (V.bl true)).isSome = true from rfl)]
    unfold dkeys
    rw [List.map_map]
    refine List.map_congr_left fun k _ => ?_
    show (if (Sum.inl (k : Int) : Key) = .inl (n : Int) then ((.inl (k : Int), .bl true) : Key × V) else (.inl (k : Int), .bl true)) = _
    split <;> rfl
  · rw [if_neg m, putK_new _ (by rw [dkeys_val, if_neg m])]
    unfold dkeys
    rw [List.map_append]; rfl
theorem dkeys_keys (ks : List Nat) : (dkeys ks).map (·.1) = (ks.map fun n : Nat => (n : Int)).map Sum.inl := by
  unfold dkeys
  rw [List.map_map, List.map_map]; rfl
theorem dkeys_len (ks : List Nat) : (dkeys ks).length = ks.length := by unfold dkeys; rw [List.length_map]
theorem perm_nat {ys : List Int} {ks : List Nat} (h : ys.Perm (ks.map fun n : Nat => (n : Int))) : ∃ l : List Nat, ys = l.map (fun n : Nat => (n : Int)) ∧ l.Perm ks := by
  refine ⟨ys.map Int.toNat, ?_, ?_⟩
  · rw [List.map_map]
    have key : ∀ y ∈ ys, ((fun n : Nat => (n : Int)) ∘ Int.toNat) y = y := fun y hy => by
      obtain ⟨n, _, rfl⟩ := List.mem_map.mp (h.mem_iff.mp hy)
      rfl
    rw [List.map_congr_left key, List.map_id']
  · have := h.map Int.toNat
    rw [List.map_map] at this
    have e : (ks.map (Int.toNat ∘ fun n : Nat => (n : Int))) = ks := by
      have : ∀ k ∈ ks, (Int.toNat ∘ fun n : Nat => (n : Int)) k = k := fun k _ => rfl
      rw [List.map_congr_left this, List.map_id']
    rw [e] at this
    exact this
theorem pair_lt {l : List Nat} (h : (l.map fun n : Nat => (n : Int)).Pairwise (· ≤ ·)) (hn : l.Nodup) : l.Pairwise (· < ·) := by
  induction l with
  | nil => exact .nil
  | cons a l ih =>
    rw [List.map_cons, List.pairwise_cons] at h
    rw [List.nodup_cons] at hn
    refine List.pairwise_cons.mpr ⟨fun b hb => ?_, ih h.2 hn.2⟩
    have h1 := h.1 (b : Int) (List.mem_map.mpr ⟨b, hb, rfl⟩)
    have h2 : a ≠ b := fun e => hn.1 (e ▸ hb)
    omega
theorem sg_map {l : List Nat} (h : l.Pairwise (· < ·)) (hb : ∀ n ∈ l, n < 94) : (l.map fun n => SG.getD n 0).Pairwise (· < ·) := by
  induction l with
  | nil => exact .nil
  | cons a l ih =>
    rw [List.pairwise_cons] at h
    rw [List.map_cons, List.pairwise_cons]
    refine ⟨fun c hc => ?_, ih h.2 fun n hn => hb n (List.mem_cons_of_mem _ hn)⟩
    obtain ⟨n, hn, rfl⟩ := List.mem_map.mp hc
    have h1 := h.1 n hn
    have h2 := hb n (List.mem_cons_of_mem _ hn)
    have h3 : a < SG.length := by rw [SG_len]; omega
    have h4 : n < SG.length := by rw [SG_len]; exact h2
    have := List.pairwise_iff_getElem.mp SG_asc a n h3 h4 h1
    rw [List.getD_eq_getElem?_getD, List.getD_eq_getElem?_getD, List.getElem?_eq_getElem h3, List.getElem?_eq_getElem h4]
    exact this
theorem pick12 (r : Nat) (hr : r < 12) : ∃ m : Nat, 1 ≤ m ∧ m ≤ 36 ∧ atI [V.int 1, V.int 2, V.int 2, V.int 3, V.int 3, V.int 4, V.int 5, V.int 9, V.int 2, V.int 3, V.int 4, V.int 36] (r : Int) = some (V.int (m : Int)) := by
  rcases r with _ | _ | _ | _ | _ | _ | _ | _ | _ | _ | _ | _ | r
  · exact ⟨1, by omega, by omega, rfl⟩
  · exact ⟨2, by omega, by omega, rfl⟩
  · exact ⟨2, by omega, by omega, rfl⟩
  · exact ⟨3, by omega, by omega, rfl⟩
  · exact ⟨3, by omega, by omega, rfl⟩
  · exact ⟨4, by omega, by omega, rfl⟩
  · exact ⟨5, by omega, by omega, rfl⟩
  · exact ⟨9, by omega, by omega, rfl⟩
  · exact ⟨2, by omega, by omega, rfl⟩
  · exact ⟨3, by omega, by omega, rfl⟩
  · exact ⟨4, by omega, by omega, rfl⟩
  · exact ⟨36, by omega, by omega, rfl⟩
  · omega
theorem smallB {n : Nat} (h : n ≤ 100000) : n < sizeLine := Nat.lt_of_le_of_lt h (by decide)
def sp_stagedB : Sp := fun vs H Q _ => ∃ (pp z : Addr) (us : List V) (ps : List (Nat × Nat)) (row : List Nat) (b m : Nat), vs = [.ref pp, .int (b : Int), .ref z, .int (m : Int)] ∧ H pp = some (.lst us) ∧ PairsAt H us ps ∧ WF b ps ∧ H z = some (.lst (iv row)) ∧ row.length ≤ 10000 ∧ m ≤ ps.length ∧ ps.length ≤ 1000 ∧ b ≤ 1000 ∧
  ∀ H' z', Same H H' → (z' = z ∨ H z' = none) → H' z' = some (.lst (iv (cutL b (ps.take m) row))) → Q (.ref z') H'
def sp_cutB : Sp := fun vs H Q _ => ∃ (pp : Addr) (us : List V) (ps : List (Nat × Nat)) (al t : List Nat), vs = [.ref pp, .str (S al), .str (S t)] ∧ H pp = some (.lst us) ∧ PairsAt H us ps ∧ WF al.length ps ∧ ps.length ≤ 1000 ∧ al.length ≤ 1000 ∧ (∀ c ∈ t, c ∈ al) ∧ t.length ≤ 10000 ∧
  ∀ H' z, Same H H' → H z = none → H' z = some (.lst (iv (cutL al.length ps (lets al t)))) → Q (.ref z) H'
section
variable {P : Program} {w : World} {K : PySem.W.Frag} {mg : Str → Option Value} {base : Heap}
theorem ok_alphabetB {f : Addr} {fd : FuncData} (F : C8.Fun K "_law_alphabet" "_law_alphabet" s__law_alphabet f fd) (T : Txt K mg) (c__law_draw : C8.Cal P w K mg base 1 "_law_draw" sp_drawB []) : FnOk P w K mg base C8.CX0 2 f fd ["pool"] sp_alphabetB := by
  refine C8.fn0 F sc__law_alphabet (fun vs H Q E h => ?_) (fun cdv A outer s H vs Q E hr h => ?_)
  · obtain ⟨p, rfl, _⟩ := h; rfl
  · obtain ⟨p, rfl, hP, q⟩ := h
    have hu := hu_of hr
    refine ⟨_, (pss_cons (ps_set (i := 1) sc__law_alphabet.nd rfl (Or.inr rfl) pe_str)
      (pss_cons (ps_set (i := 1) sc__law_alphabet.nd rfl (Or.inr rfl) (pe_op op_add_str (pv 1) pe_str))
      (pss_cons (ps_set (i := 2) sc__law_alphabet.nd rfl (Or.inl rfl) pe_dnewK)
      (pss_cons (ps_for PassesOwn.never rfl (pi_range1 rfl T.b_range (pa_cons (pe_ix ix_list (pe_lst (pa_cons pe_int (pa_cons pe_int (pa_cons pe_int (pa_cons pe_int (pa_cons pe_int (pa_cons pe_int (pa_cons pe_int (pa_cons pe_int (pa_cons pe_int (pa_cons pe_int (pa_cons pe_int (pa_cons pe_int pa_nil))))))))))))) (C8.pe_c c__law_draw hr (by first | decide | omega) (by rfl) (pa_cons (pv 0) (pa_cons pe_int pa_nil))) (fun _ _ => rfl)) pa_nil)) (pg_name (i := 3) sc__law_alphabet.nd rfl (Or.inl rfl)) (pss_one (ps_dput hu (pv 2) (C8.pe_c c__law_draw hr (by first | decide | omega) (by rfl) (pa_cons (pv 0) (pa_cons pe_int pa_nil))) pe_bl rfl)))
      (pss_one (ps_ret (pe_join pe_str (pe_lc (own := [("k", 3)]) (g := gName 3) (tt := tYes) rfl sc__law_alphabet.nd (pi_list (pe_slice sl_list (pe_callB (call_sortedDI rfl) (by rfl) T.b_sorted (by decide +kernel) (pa_cons (pv 2) pa_nil)) po_none (po_some pe_int))) (blkOk_by (N := N__law_alphabet) (sc := C8.fnScope s__law_alphabet) (by decide +kernel)) (fun _ _ _ _ _ => (pg_name (i := 3) sc__law_alphabet.nd rfl (Or.inl rfl))) (fun _ _ _ _ _ => pts_nil) (fun _ _ _ _ _ => (pe_ix ix_str (pv 1) (pv 3) (fun _ _ => rfl))))))))))), ?_⟩
    refine ⟨_, rfl, _, _, rfl, rfl, by decide +kernel, ?_⟩
    refine fun d hd => ?_
    have s0 : PSame p H (upd H d (.dK [])) := (PSame.refl hP).new hd
    have hdp : d ≠ p := hP.free hd
    refine ⟨by show 12 ≤ sizeLine; decide, fun L hL => ?_⟩
    have s1 := s0.new (o := .lst [V.int 1, V.int 2, V.int 2, V.int 3, V.int 3, V.int 4, V.int 5, V.int 9, V.int 2, V.int 3, V.int 4, V.int 36]) hL
    have hLp : L ≠ p := s0.at1.free hL
    have hLv : (upd (upd H d (.dK [])) L (.lst [V.int 1, V.int 2, V.int 2, V.int 3, V.int 3, V.int 4, V.int 5, V.int 9, V.int 2, V.int 3, V.int 4, V.int 36])) L = some (.lst [V.int 1, V.int 2, V.int 2, V.int 3, V.int 3, V.int 4, V.int 5, V.int 9, V.int 2, V.int 3, V.int 4, V.int 36]) := upd_same
    have hdL : (upd (upd H d (.dK [])) L (.lst [V.int 1, V.int 2, V.int 2, V.int 3, V.int 3, V.int 4, V.int 5, V.int 9, V.int 2, V.int 3, V.int 4, V.int 36])) d = some (.dK []) := (upd_ne (ne_of_none upd_same hL)).trans upd_same
    refine ⟨_, rfl, p, 12, rfl, s1.at1, by decide, fun H1 r1 s2 hr1 => ?_⟩
    obtain ⟨m, hm1, hm36, hsel⟩ := pick12 r1 (by omega)
    have sA := s1.trans s2
    have e1 : H1 d = some (.dK (dkeys [])) := s2.x d _ hdp hdL
    refine ⟨L, _, _, _, rfl, rfl, SqL.of (s2.lst hLp hLv), hsel, _, rfl, by omega, by omega, for_it walk_range (fun i σ H' => ∃ (ks : List Nat) (v3 : Option V), σ = [some (.ref p), some (.str (S SG)), some (.ref d), v3] ∧ PSame p H H' ∧ H' d = some (.dK (dkeys ks)) ∧ ks.Nodup ∧ (∀ k ∈ ks, k < 94) ∧ ks.length ≤ i ∧ (0 < i → 0 < ks.length))
      ⟨[], none, ?_, sA, e1, .nil, fun k hk => (List.not_mem_nil hk).elim, Nat.le_refl _, fun h => h⟩ (fun _ _ _ _ _ => trivial) ?_ ?_⟩
    · exact congrArg (fun z : Str => [some (V.ref p), some (.str z), some (.ref d), none]) (by decide +kernel : _ = S SG)
    · rintro i x σ Ha Hb hi ⟨ks, v3, rfl, sa, hd', hnd, hin, hle, hpos⟩ ⟨rfl, hx⟩
      have him : i < m := by simpa using hi
      refine ⟨_, rfl, _, rfl, p, 94, rfl, sa.at1, by decide, fun H2 n s3 hn => ?_⟩
      have hn94 : n < 94 := by omega
      have hd3 : H2 d = some (.dK (dkeys ks)) := s3.x d _ hdp hd'
      refine ⟨d, _, rfl, DPut.k (k := .inl (n : Int)) hd3 (by rw [dkeys_len]; exact small1000 (by omega)), ?_⟩
      rw [dkeys_put]
      have sc : PSame p H (upd H2 d (.dK (if n ∈ ks then dkeys ks else dkeys (ks ++ [n])))) := (sa.trans s3).put hd
      by_cases hm : n ∈ ks
      · rw [if_pos hm] at sc ⊢
        exact ⟨ks, _, rfl, sc, upd_same, hnd, hin, by omega, fun _ => List.length_pos_of_mem hm⟩
      · rw [if_neg hm] at sc ⊢
        refine ⟨ks ++ [n], _, rfl, sc, upd_same, ?_, ?_, ?_, fun _ => ?_⟩
        · exact List.nodup_append.mpr ⟨hnd, by simp, fun x hx y hy z => hm (by rw [List.mem_singleton.mp hy] at z; exact z ▸ hx)⟩
        · intro k hk
          rcases List.mem_append.mp hk with z | z
          · exact hin k z
          · rw [List.mem_singleton.mp z]; exact hn94
        · rw [List.length_append, List.length_singleton]; omega
        · rw [List.length_append, List.length_singleton]; omega
    · rintro σ H2 ⟨ks, v3, rfl, sa, hd', hnd, hin, hle, hpos⟩
      have hle' : ks.length ≤ m := by simpa using hle
      have hpos' : 0 < ks.length := hpos (Nat.lt_of_lt_of_le Nat.zero_lt_one hm1)
      refine ⟨⟨_, rfl⟩, _, rfl, d, dkeys ks, ks.map fun n : Nat => (n : Int), rfl, .inl hd', dkeys_keys ks, by rw [List.length_map]; omega, fun ys q0 hperm hsort hq0 => ?_⟩
      obtain ⟨l0, rfl, hl0⟩ := perm_nat hperm
      have hasc0 := pair_lt hsort (hl0.nodup_iff.mpr hnd)
      have el : ((l0.map fun n : Nat => (n : Int)).map V.int) = iv l0 := by rw [List.map_map]; rfl
      rw [el]
      have sp0 : PSame p H (upd H2 q0 (.lst (iv l0))) := sa.new hq0
      refine ⟨_, rfl, q0, _, rfl, SqL.of upd_same, fun q1 hq1 => ?_⟩
      rw [show (some (30 : Int)) = some ((30 : Nat) : Int) from rfl, cut_to]
      have sp : PSame p H (upd (upd H2 q0 (.lst (iv l0))) q1 (.lst (iv (l0.take 30)))) := sp0.new hq1
      obtain ⟨l, hl⟩ : ∃ l, l = l0.take 30 := ⟨_, rfl⟩
      rw [← hl] at sp ⊢
      have hasc : l.Pairwise (· < ·) := by rw [hl]; exact hasc0.sublist (List.take_sublist 30 l0)
      have hin' : ∀ n ∈ l, n < 94 := fun n hn => hin n (hl0.mem_iff.mp (by rw [hl] at hn; exact List.mem_of_mem_take hn))
      have hlen : 1 ≤ l.length ∧ l.length ≤ 30 := by have := hl0.length_eq; rw [hl, List.length_take]; omega
      refine ⟨q1, rfl, ⟨_, SqL.of upd_same⟩, fun D hD => lc_it walk_list (fun i H' => PSame p H H' ∧ H' q1 = some (.lst (iv l)) ∧ H' D = some (.lst ((sv ((l.map fun n => SG.getD n 0).take i)).map V.str))) ⟨sp.new hD, (upd_ne (ne_of_none upd_same hD)).trans upd_same, upd_same⟩ (fun i H' _ ⟨_, h, _⟩ => SqL.of h) ?_ ?_⟩
      · rintro i x Ha Hb hi ⟨sb, hpb, hDb⟩ ⟨rfl, hx⟩
        obtain ⟨n, hn, rfl⟩ := iv_get hx
        have hn94 := hin' n (List.mem_of_getElem? hn)
        have hc : SG[n]? = some (SG.getD n 0) := by rw [List.getD_eq_getElem?_getD, List.getElem?_eq_getElem (by rw [SG_len]; exact hn94)]; rfl
        refine ⟨rfl, _, rfl, _, rfl, S SG, _, SG.getD n 0, rfl, rfl, by decide +kernel, atI_nat hc, ?_⟩
        have hg : (l.map fun n => SG.getD n 0)[i]? = some (SG.getD n 0) := by rw [List.getElem?_map, hn]; rfl
        have hDq : D ≠ q1 := fun e => by rw [e, upd_same] at hD; cases hD
        refine ⟨_, hDb, ?_, ?_, (upd_ne (Ne.symm hDq)).trans hpb, ?_⟩
        · unfold sv; rw [List.length_map, List.length_map, List.length_take, List.length_map]; exact small1000 (by omega)
        · exact sb.put (sp.none hD)
        · rw [upd_same, take_succ_of hg]; unfold sv; rw [List.map_append, List.map_append]; rfl
      · rintro H3 ⟨sb, _, hDb⟩
        rw [iv_len, List.take_of_length_le (by rw [List.length_map]; exact Nat.le_refl _)] at hDb
        have hlm : (l.map fun n => SG.getD n 0).length = l.length := List.length_map _
        refine ⟨_, D, sv (l.map fun n => SG.getD n 0), rfl, rfl, .inl (SqL.of hDb), ?_, ?_⟩
        · rw [sum1, hlm]
          have : (sv (l.map fun n => SG.getD n 0)).length = l.length := by unfold sv; rw [List.length_map, hlm]
          show l.length + (sv (l.map fun n => SG.getD n 0)).length * 0 ≤ 16777216
          omega
        · have hp := sg_map hasc hin'
          have hsg : ∀ c ∈ l.map fun n => SG.getD n 0, c ∈ SG := fun c hc => by
            obtain ⟨n, hn, rfl⟩ := List.mem_map.mp hc
            rw [List.getD_eq_getElem?_getD, List.getElem?_eq_getElem (by rw [SG_len]; exact hin' n hn)]
            exact List.getElem_mem _
          have key := q H3 (l.map fun n => SG.getD n 0) sb (alOk_of (asc_of hp) hsg (by omega) (by omega)) (hp.imp fun h => Nat.ne_of_lt h) (by omega) (by omega) hsg
          rw [← join1 (l.map fun n => SG.getD n 0)] at key
          exact key
theorem ok_stagedB {f : Addr} {fd : FuncData} (F : C8.Fun K "_law_staged" "_law_staged" s__law_staged f fd) (T : Txt K mg) : FnOk P w K mg base C8.CX0 1 f fd ["pairs", "letters", "row", "many"] sp_stagedB := by
  refine C8.fn0 F sc__law_staged (fun vs H Q E h => ?_) (fun cdv A outer s H vs Q E hr h => ?_)
  · obtain ⟨pp, z, us, ps, row, b, m, rfl, _⟩ := h; rfl
  · obtain ⟨pp, z, us, ps, row, b, m, rfl, hpp, hps, hw, hz, hrl, hm, hpl, hb, q⟩ := h
    refine ⟨_, (pss_cons (ps_for PassesOwn.never rfl (pi_range1 rfl T.b_range (pa_cons (pv 3) pa_nil)) (pg_name (i := 4) sc__law_staged.nd rfl (Or.inl rfl)) (pss_cons (ps_set (i := 5) sc__law_staged.nd rfl (Or.inl rfl) (pe_lst pa_nil))
      (pss_cons (ps_for PassesOwn.never rfl (pi_list (pe_callTy call_list_of (by rfl) T.b_list (by decide +kernel) (pa_cons (pv 2) pa_nil))) (pg_name (i := 6) sc__law_staged.nd rfl (Or.inl rfl)) (pss_one (ps_if (PW.pt (pw_and (pt_cmpR op_gt (pe_callB call_len_seq (by rfl) T.b_len PySem.boot_len (pa_cons (pv 5) pa_nil)) pe_int (nomark _)) (pw_and (pt_cmpR op_eq (pv 6) (pe_ix ix_tup (pe_ix ix_list (pv 0) (pv 4) (fun _ _ => rfl)) pe_int (fun _ _ => rfl)) (nomark _)) (pw_and1 (pt_cmpR op_eq (pe_ix ix_list (pv 5) (pe_un un_neg pe_int) (fun _ _ => rfl)) (pe_ix ix_tup (pe_ix ix_list (pv 0) (pv 4) (fun _ _ => rfl)) pe_int (fun _ _ => rfl)) (nomark _)))))) (pss_one (ps_asg (pe_op op_add (pv 1) (pv 4)) (pg_sub (pv 5) (pe_un un_neg pe_int) set_list))) (pss_one (ps_expr (pe_bm PySem.F.plainAttrs_list PySem.F.slot_list_append PySem.F.type_list_append mt_append (pv 5) (pa_cons (pv 6) pa_nil)))))))
      (pss_one (ps_set (i := 2) sc__law_staged.nd rfl (Or.inl rfl) (pv 5))))))
      (pss_one (ps_ret (pv 2)))), ?_⟩
    refine ⟨_, rfl, _, rfl, by omega, by omega, for_it walk_range (fun i σ H' => ∃ (z' : Addr) (v4 v5 v6 : Option V), σ = [some (.ref pp), some (.int (b : Int)), some (.ref z'), some (.int (m : Int)), v4, v5, v6] ∧ Same H H' ∧ (z' = z ∨ H z' = none) ∧ H' z' = some (.lst (iv (cutL b (ps.take i) row))))
      ⟨z, none, none, none, rfl, Same.refl H, .inl rfl, by rw [List.take_zero]; exact hz⟩ (fun _ _ _ _ _ => trivial) ?_ ?_⟩
    · rintro i x σ Ha Hb hi ⟨z', v4, v5, v6, rfl, sa, hz', hzv⟩ ⟨rfl, hx⟩
      obtain rfl : x = V.int (i : Int) := hx.trans (congrArg V.int (Int.zero_add _))
      have him : i < ps.length := by have : i < m := by simpa using hi
                                     omega
      obtain ⟨u, pr, hu, hpr, g, rfl, hg⟩ := Paired.both hps him
      have hmne : b + i ≠ pr.1 := by have := (hw i pr hpr).1; omega
      have hcl := cutL_len b (ps.take i) row
      obtain ⟨R, hR⟩ : ∃ R, R = cutL b (ps.take i) row := ⟨_, rfl⟩
      rw [← hR] at hzv hcl
      refine ⟨Nat.zero_le _, fun J hJ => ?_⟩
      have sJ := same_new (o := .lst []) hJ
      refine ⟨_, rfl, z', _, rfl, .inl (SqL.of (sJ _ _ hzv)), fun zc hzc => ?_⟩
      have sC := Same.new (o := .lst (iv R)) sJ hzc
      have hJne : J ≠ zc := ne_of_none upd_same hzc
      refine ⟨zc, rfl, ⟨_, SqL.of upd_same⟩, for_it walk_list (fun k σ H' => ∃ v6 : Option V, σ = [some (.ref pp), some (.int (b : Int)), some (.ref z'), some (.int (m : Int)), some (.int (i : Int)), some (.ref J), v6] ∧ Same Hb H' ∧ H' zc = some (.lst (iv R)) ∧ H' J = some (.lst (iv ((R.take k).foldl (stepJ pr.1 pr.2 (b + i)) []))))
        ⟨v6, rfl, sC, upd_same, (upd_ne hJne).trans upd_same⟩ (fun _ _ _ _ ⟨_, _, _, h, _⟩ => SqL.of h) ?_ ?_⟩
      · rintro k x σ Hc Hd hk ⟨w6, rfl, s1, hzc', hd⟩ ⟨rfl, hx⟩
        obtain ⟨n, hn, rfl⟩ := iv_get hx
        have hfold := foldl_take_succ (f := stepJ pr.1 pr.2 (b + i)) hn []
        have hlen : ((R.take k).foldl (stepJ pr.1 pr.2 (b + i)) []).length < sizeLine := smallB (by
          have h1 := foldJ_len pr.1 pr.2 (b + i) (R.take k) []
          rw [List.length_take] at h1
          simp only [List.length_nil] at h1; omega)
        generalize hacc : (R.take k).foldl (stepJ pr.1 pr.2 (b + i)) [] = acc at hd hfold hlen
        have hppd := s1 _ _ (sa _ _ hpp)
        have hgd := s1 _ _ (sa _ _ hg)
        have fin : ∀ (acc' : List Nat), acc' = stepJ pr.1 pr.2 (b + i) acc n → ∃ v6 : Option V, [some (V.ref pp), some (.int (b : Int)), some (.ref z'), some (.int (m : Int)), some (.int (i : Int)), some (.ref J), some (.int (n : Int))] = [some (V.ref pp), some (.int (b : Int)), some (.ref z'), some (.int (m : Int)), some (.int (i : Int)), some (.ref J), v6] ∧ Same Hb (upd Hd J (.lst (iv acc'))) ∧ (upd Hd J (.lst (iv acc'))) zc = some (.lst (iv R)) ∧ (upd Hd J (.lst (iv acc'))) J = some (.lst (iv ((R.take (k + 1)).foldl (stepJ pr.1 pr.2 (b + i)) []))) := fun acc' e =>
          ⟨_, rfl, Same.put s1 hJ, (upd_ne (Ne.symm hJne)).trans hzc', by rw [upd_same, hfold, e]⟩
        refine ⟨_, rfl, J, _, rfl, .inl (SqL.of hd), _, _, rfl, rfl, _, rfl, ?_⟩
        rw [iv_len]
        cases hq : acc.getLast? with
        | none =>
          have e : acc = [] := List.getLast?_eq_none_iff.mp hq
          have hc : ¬ (acc.getLast? = some pr.1 ∧ n = pr.2) := by rw [hq]; rintro ⟨q, _⟩; cases q
          rw [decide_eq_false (by rw [e]; show ¬ (0 : Int) < ((0 : Nat) : Int); decide)]
          refine iteF (iteF ⟨_, rfl, .inl ⟨rfl, _, SqL.of hd⟩, _, rfl, J, _, _, rfl, rfl, hd, by rw [iv_len]; exact hlen, ?_⟩)
          rw [iv_snoc]
          exact fin _ (by rw [stepJ, if_neg hc])
        | some y =>
          have hne : acc ≠ [] := by intro e; rw [e] at hq; cases hq
          have hpos : 0 < acc.length := List.length_pos_iff.mpr hne
          rw [decide_eq_true (by omega : (0 : Int) < (acc.length : Int))]
          refine iteT ⟨_, rfl, _, rfl, _, rfl, pp, us, _, _, rfl, rfl, SqL.of hppd, atI_nat hu, g, _, _, _, rfl, rfl, SqT.of hgd, rfl, rfl, _, rfl, ?_⟩
          rw [nat_eq_int]
          by_cases c2 : n = pr.2
          · rw [decide_eq_true c2]
            refine iteT ⟨_, rfl, _, rfl, J, iv acc, _, _, rfl, rfl, SqL.of hd, atI_neg1 (iv_last hq), _, rfl, _, rfl, pp, us, _, _, rfl, rfl, SqL.of hppd, atI_nat hu, g, _, _, _, rfl, rfl, SqT.of hgd, rfl, rfl, _, rfl, ?_⟩
            rw [nat_eq_int]
            by_cases c1 : y = pr.1
            · rw [decide_eq_true c1]
              refine iteT ⟨_, rfl, _, rfl, _, _, rfl, rfl, _, rfl, _, rfl, J, iv acc, _, acc.length - 1, rfl, rfl, hd, by rw [iv_len]; exact ixN_neg1 hpos, ?_⟩
              have := iv_set_last (b + i) hne
              rw [show ((b + i : Nat) : Int) = (b : Int) + (i : Int) from rfl] at this
              rw [this]
              exact fin _ (by rw [stepJ, if_pos ⟨by rw [hq, c1], c2⟩])
            · rw [decide_eq_false c1]
              have hc : ¬ (acc.getLast? = some pr.1 ∧ n = pr.2) := by rw [hq]; rintro ⟨q, _⟩; exact c1 (Option.some.inj q)
              refine iteF ⟨_, rfl, .inl ⟨rfl, _, SqL.of hd⟩, _, rfl, J, _, _, rfl, rfl, hd, by rw [iv_len]; exact hlen, ?_⟩
              rw [iv_snoc]
              exact fin _ (by rw [stepJ, if_neg hc])
          · rw [decide_eq_false c2]
            have hc : ¬ (acc.getLast? = some pr.1 ∧ n = pr.2) := fun q => c2 q.2
            refine iteF (iteF ⟨_, rfl, .inl ⟨rfl, _, SqL.of hd⟩, _, rfl, J, _, _, rfl, rfl, hd, by rw [iv_len]; exact hlen, ?_⟩)
            rw [iv_snoc]
            exact fin _ (by rw [stepJ, if_neg hc])
      · rintro σ H1 ⟨w6, rfl, s1, _, hd⟩
        rw [iv_len, List.take_length, stepJ_all hmne, hR] at hd
        refine ⟨_, rfl, J, _, _, _, rfl, sa.trans s1, .inr (sa.free hJ), ?_⟩
        rw [hd, take_succ_of hpr, cutL_snoc, take_len_of hpr]
    · rintro σ H1 ⟨z', v4, v5, v6, rfl, sa, hz', hzv⟩
      refine ⟨_, rfl, q H1 z' sa hz' ?_⟩
      rw [hzv]; simp
theorem ok_cutB {f : Addr} {fd : FuncData} (F : C8.Fun K "_law_cut" "_law_cut" s__law_cut f fd) (T : Txt K mg) (c__law_staged : C8.Cal P w K mg base 1 "_law_staged" sp_stagedB []) : FnOk P w K mg base C8.CX0 2 f fd ["pairs", "alphabet", "text"] sp_cutB := by
  refine C8.fn0 F sc__law_cut (fun vs H Q E h => ?_) (fun cdv A outer s H vs Q E hr h => ?_)
  · obtain ⟨pp, us, ps, al, t, rfl, _⟩ := h; rfl
  · obtain ⟨pp, us, ps, al, t, rfl, hpp, hps, hw, hpl, hal, hin, htl, q⟩ := h
    refine ⟨_, (pss_one (ps_ret (C8.pe_c c__law_staged hr (by first | decide | omega) (by rfl) (pa_cons (pv 0) (pa_cons (pe_callB call_len_str (by rfl) T.b_len PySem.boot_len (pa_cons (pv 1) pa_nil)) (pa_cons (pe_lc (own := [("sign", 3)]) (g := gName 3) (tt := tYes) rfl sc__law_cut.nd (pi_str (pv 2)) (blkOk_by (N := N__law_cut) (sc := C8.fnScope s__law_cut) (by decide +kernel)) (fun _ _ _ _ _ => (pg_name (i := 3) sc__law_cut.nd rfl (Or.inl rfl))) (fun _ _ _ _ _ => pts_nil) (fun _ _ _ _ _ => (pe_bmK (K := K) rfl PySem.F.plainAttrs_str PySem.F.slot_str_find PySem.F.type_str_find mt_find (pv 1) (pa_cons (pv 3) pa_nil)))) (pa_cons (pe_callB call_len_seq (by rfl) T.b_len PySem.boot_len (pa_cons (pv 0) pa_nil)) pa_nil))))))), ?_⟩
    have hul : us.length = ps.length := hps.length
    refine ⟨_, rfl, _, rfl, S al, rfl, by rw [S_len]; exact small_le hal, _, rfl, S t, rfl, fun D0 hD0 => lc_it walk_str (fun i H' => Same H H' ∧ H' D0 = some (.lst (iv (lets al (t.take i))))) ⟨same_new hD0, upd_same⟩ (fun _ _ _ _ => trivial) ?_ ?_⟩
    · rintro i x Ha Hb hi ⟨sa, ha⟩ ⟨rfl, c, hc, rfl⟩
      rw [S_get] at hc
      obtain ⟨r, hfind⟩ := find_sign (hin c (List.mem_of_getElem? hc))
      have hf : Txt.find (S al) ⟨#[c]⟩ = (al.idxOf c : Int) := by unfold Txt.find; rw [hfind]
      refine ⟨rfl, _, rfl, rfl, _, rfl, S al, ⟨#[c]⟩, rfl, rfl, ?_⟩
      rw [hf]
      refine ⟨_, ha, ?_, Same.put sa hD0, ?_⟩
      · rw [iv_len, lets, List.length_map, List.length_take]; exact smallB (by omega)
      · rw [upd_same, iv_snoc, lets, lets, map_take_succ hc]
    rintro H1 ⟨s0, hy0⟩
    rw [S_size, List.take_length] at hy0
    refine ⟨_, rfl, pp, _, rfl, .inl (SqL.of (s0 _ _ hpp)), pp, D0, us, ps, lets al t, al.length, ps.length, by rw [S_len, hul]; rfl, s0 _ _ hpp, hps.same (Same.t s0), hw, hy0, by rw [lets, List.length_map]; exact htl, Nat.le_refl _, hpl, hal, fun H2 z' s2 hz' hzv => ?_⟩
    rw [List.take_length] at hzv
    refine q H2 z' (s0.trans s2) ?_ hzv
    rcases hz' with rfl | e
    · exact hD0
    · exact s0.free e
end
end RJ
end

section
set_option maxRecDepth 100000
set_option maxHeartbeats 8000000
namespace RJ
open PySem PySem.Spec PyProof.Rows L2
abbrev s__law_pairs : Stmt := top 53
abbrev N__law_pairs : List Str := ["pool", "alphabet", "most", "pairs", "texts", "k", "left", "right", "row", "at", "text", "sign"]
theorem sc__law_pairs : FnScope N__law_pairs ["pool", "alphabet", "most"] (C8.fnScope s__law_pairs) := C8.fnScope_by (by decide +kernel)
abbrev s__law_text : Stmt := top 54
abbrev N__law_text : List Str := ["pool", "alphabet", "texts", "most", "text", "k", "way", "part"]
theorem sc__law_text : FnScope N__law_text ["pool", "alphabet", "texts", "most"] (C8.fnScope s__law_text) := C8.fnScope_by (by decide +kernel)
theorem cutS_mid (l : List Nat) {k m : Nat} (h : k + m ≤ l.length) : cutS (S l) (some (k : Int)) (some ((k + m : Nat) : Int)) = S ((l.drop k).take m) := by
  show (⟨(((S l).cps.toList.drop (HT.sIx (S l).length 0 (some (k : Int)))).take (HT.sIx (S l).length (S l).length (some ((k + m : Nat) : Int)) - HT.sIx (S l).length 0 (some (k : Int)))).toArray⟩ : Str) = ⟨((l.drop k).take m).toArray⟩
  rw [HT.sIx_nat, HT.sIx_nat, S_len, Nat.min_eq_left h, Nat.min_eq_left (show k ≤ l.length by omega), show k + m - k = m by omega]
theorem cutS_take (l : List Nat) (k : Nat) : cutS (S l) none (some (k : Int)) = S (l.take k) := by
  show (⟨(((S l).cps.toList.drop (HT.sIx (S l).length 0 none)).take (HT.sIx (S l).length (S l).length (some (k : Int)) - HT.sIx (S l).length 0 none)).toArray⟩ : Str) = ⟨(l.take k).toArray⟩
  rw [HT.sIx_nat, HT.sIx_none, S_len, Nat.sub_zero, List.drop_zero]
  have e : l.take (min k l.length) = l.take k := by
    by_cases h : k ≤ l.length
    · rw [Nat.min_eq_left h]
    · rw [Nat.min_eq_right (by omega), List.take_length, List.take_of_length_le (by omega)]
  exact congrArg (fun z : List Nat => (⟨z.toArray⟩ : Str)) e
/-- each two letters that follow one another, the last ones first -/
def chP (L : Nat) : List (Nat × Nat) := (List.range (L - 1)).map fun i => (L - 2 - i, L - 1 - i)
theorem chP_len (L : Nat) : (chP L).length = L - 1 := by rw [chP, List.length_map, List.length_range]
theorem chP_get {L i : Nat} (h : i < L - 1) : (chP L)[i]? = some (L - 2 - i, L - 1 - i) := by
  rw [chP, List.getElem?_map, List.getElem?_range h]; rfl
theorem idx_at {al : List Nat} (hnd : al.Nodup) {i c : Nat} (h : al[i]? = some c) : al.idxOf c = i := by
  obtain ⟨hi, e⟩ := List.getElem?_eq_some_iff.mp h
  rw [← e]; exact hnd.idxOf_getElem i hi
theorem chP_proper {al : List Nat} (hnd : al.Nodup) : Proper al (chP al.length) := by
  intro i p hp
  have hi : i < al.length - 1 := by rw [← chP_len]; exact (List.getElem?_eq_some_iff.mp hp).1
  rw [chP_get hi] at hp
  obtain rfl := Option.some.inj hp
  obtain ⟨c, hc⟩ : ∃ c, al[al.length - 2 - i]? = some c := ⟨_, List.getElem?_eq_getElem (by omega)⟩
  obtain ⟨d, hd⟩ : ∃ d, al[al.length - 1 - i]? = some d := ⟨_, List.getElem?_eq_getElem (by omega)⟩
  have ec := texts_letter (al := al) (ps := (chP al.length).take i) hc
  have ed := texts_letter (al := al) (ps := (chP al.length).take i) hd
  refine ⟨by rw [textsOf_len]; show al.length - 2 - i < _; omega, by rw [textsOf_len]; show al.length - 1 - i < _; omega, ?_, ?_⟩
  · show ((_ ++ _ : List Nat)).length ≤ 40
    rw [ec, ed]; show 2 ≤ 40; decide
  · show cutL al.length _ (lets al (_ ++ _)) = [al.length - 2 - i, al.length - 1 - i]
    rw [ec, ed]
    show cutL al.length _ [al.idxOf c, al.idxOf d] = _
    rw [idx_at hnd hc, idx_at hnd hd]
    refine cut_done fun q hq hm => ?_
    rw [adjs_cons2, adjs_one] at hm
    rw [List.mem_singleton.mp hm] at hq
    obtain ⟨j, hj⟩ := List.getElem?_of_mem hq
    have hji : j < i := by have := (List.getElem?_eq_some_iff.mp hj).1; rw [List.length_take] at this; omega
    rw [List.getElem?_take_of_lt hji, chP_get (by omega)] at hj
    have := congrArg Prod.fst (Option.some.inj hj)
    have : al.length - 2 - j = al.length - 2 - i := this
    omega
theorem chP_text {al : List Nat} {i c d : Nat} (hi : i < al.length - 1) (hc : al[al.length - 2 - i]? = some c) (hd : al[al.length - 1 - i]? = some d) : textsOf al ((chP al.length).take (i + 1)) = textsOf al ((chP al.length).take i) ++ [[c, d]] := by
  rw [take_succ_of (chP_get hi), textsOf_snoc]
  show _ ++ [(textsOf al _).getD (al.length - 2 - i) [] ++ (textsOf al _).getD (al.length - 1 - i) []] = _
  rw [texts_letter hc, texts_letter hd]; rfl
theorem sv_strV (al : List Nat) : (sv al).map V.str = strV (textsOf al []) := by
  unfold sv strV textsOf
  rw [List.foldl_nil, List.map_map, List.map_map]; rfl
def sp_pairsB : Sp := fun vs H Q _ => ∃ (p : Addr) (al : List Nat) (m : Nat), vs = [.ref p, .str (S al), .int (m : Int)] ∧ PoolAt p H ∧ al.Nodup ∧ 1 ≤ al.length ∧ al.length ≤ 30 ∧ m ≤ 30 ∧
  ∀ H' r pp tx us ps, PSame p H H' → pp ≠ p → tx ≠ p → H' r = some (.tup [.ref pp, .ref tx]) → H' pp = some (.lst us) → PairsAt H' us ps → H' tx = some (.lst (strV (textsOf al ps))) → Proper al ps → ps.length ≤ 30 → Q (.ref r) H'
section
variable {P : Program} {w : World} {K : PySem.W.Frag} {mg : Str → Option Value} {base : Heap}
theorem ok_pairsB {f : Addr} {fd : FuncData} (F : C8.Fun K "_law_pairs" "_law_pairs" s__law_pairs f fd) (T : Txt K mg) (c__law_draw : C8.Cal P w K mg base 1 "_law_draw" sp_drawB []) (c__law_cut : C8.Cal P w K mg base 2 "_law_cut" sp_cutB []) : FnOk P w K mg base C8.CX0 3 f fd ["pool", "alphabet", "most"] sp_pairsB := by
  refine C8.fn0 F sc__law_pairs (fun vs H Q E h => ?_) (fun cdv A outer s H vs Q E hr h => ?_)
  · obtain ⟨p, al, m, rfl, _⟩ := h; rfl
  · obtain ⟨p, al, m, rfl, hP, hnd, h1, h30, hm, q⟩ := h
    have hu := hu_of hr
    have hu64 := hu64_of hr
    refine ⟨_, (pss_cons (ps_set (i := 3) sc__law_pairs.nd rfl (Or.inl rfl) (pe_lst pa_nil))
      (pss_cons (ps_setLc (own := [("sign", 11)]) (i := 4) (g := gName 11) (tt := tYes) rfl sc__law_pairs.nd rfl rfl (sw_true rfl rfl rfl (by decide +kernel)) (pi_str (pv 1)) (blkOk_by (N := N__law_pairs) (sc := C8.fnScope s__law_pairs) (by decide +kernel)) (fun _ _ _ _ _ => (pg_name (i := 11) sc__law_pairs.nd rfl (Or.inl rfl))) (fun _ _ _ _ _ => pts_nil) (fun _ _ _ _ _ => (pv 11)))
      (pss_cons (ps_if (PW.pt (pw_and (pt_cmpR op_gt (pe_callB call_len_str (by rfl) T.b_len PySem.boot_len (pa_cons (pv 1) pa_nil)) pe_int (nomark _)) (pw_and1 (pt_cmpR op_eq (C8.pe_c c__law_draw hr (by first | decide | omega) (by rfl) (pa_cons (pv 0) (pa_cons pe_int pa_nil))) pe_int (nomark _))))) (pss_cons (ps_setLc (own := [("k", 5)]) (i := 3) (g := gName 5) (tt := tYes) rfl sc__law_pairs.nd rfl rfl (sw_true rfl rfl rfl (by decide +kernel)) (pi_range3 rfl T.b_range (pa_cons (pe_op op_sub (pe_callB call_len_str (by rfl) T.b_len PySem.boot_len (pa_cons (pv 1) pa_nil)) pe_int) (pa_cons (pe_un un_neg pe_int) (pa_cons (pe_un un_neg pe_int) pa_nil)))) (blkOk_by (N := N__law_pairs) (sc := C8.fnScope s__law_pairs) (by decide +kernel)) (fun _ _ _ _ _ => (pg_name (i := 5) sc__law_pairs.nd rfl (Or.inl rfl))) (fun _ _ _ _ _ => pts_nil) (fun _ _ _ _ _ => (pe_tup (pa_cons (pv 5) (pa_cons (pe_op op_add (pv 5) pe_int) pa_nil)))))
      (pss_one (ps_ret (pe_tup (pa_cons (pv 3) (pa_cons (pe_op op_cat (pv 4) (pe_lc (own := [("k", 5)]) (g := gName 5) (tt := tYes) rfl sc__law_pairs.nd (pi_range3 rfl T.b_range (pa_cons (pe_op op_sub (pe_callB call_len_str (by rfl) T.b_len PySem.boot_len (pa_cons (pv 1) pa_nil)) pe_int) (pa_cons (pe_un un_neg pe_int) (pa_cons (pe_un un_neg pe_int) pa_nil)))) (blkOk_by (N := N__law_pairs) (sc := C8.fnScope s__law_pairs) (by decide +kernel)) (fun _ _ _ _ _ => (pg_name (i := 5) sc__law_pairs.nd rfl (Or.inl rfl))) (fun _ _ _ _ _ => pts_nil) (fun _ _ _ _ _ => (pe_slice sl_str (pv 1) (po_some (pv 5)) (po_some (pe_op op_add (pv 5) pe_int)))))) pa_nil)))))) pss_nil)
      (pss_cons (ps_for PassesOwn.never rfl (pi_range1 rfl T.b_range (pa_cons (pv 2) pa_nil)) (pg_name (i := 5) sc__law_pairs.nd rfl (Or.inl rfl)) (pss_cons (ps_set (i := 6) sc__law_pairs.nd rfl (Or.inl rfl) (C8.pe_c c__law_draw hr (by first | decide | omega) (by rfl) (pa_cons (pv 0) (pa_cons (pe_callB call_len_seq (by rfl) T.b_len PySem.boot_len (pa_cons (pv 4) pa_nil)) pa_nil))))
      (pss_cons (ps_set (i := 7) sc__law_pairs.nd rfl (Or.inl rfl) (C8.pe_c c__law_draw hr (by first | decide | omega) (by rfl) (pa_cons (pv 0) (pa_cons (pe_callB call_len_seq (by rfl) T.b_len PySem.boot_len (pa_cons (pv 4) pa_nil)) pa_nil))))
      (pss_cons (ps_if (pt_cmpR op_gt (C8.pe_c c__law_draw hr (by first | decide | omega) (by rfl) (pa_cons (pv 0) (pa_cons pe_int pa_nil))) pe_int (nomark _)) (pss_cons (ps_set (i := 8) sc__law_pairs.nd rfl (Or.inl rfl) (C8.pe_c c__law_cut hr (by first | decide | omega) (by rfl) (pa_cons (pv 3) (pa_cons (pv 1) (pa_cons (pe_op op_add_str (pe_ix ix_list (pv 4) (pv 6) (fun _ _ => rfl)) (pe_ix ix_list (pv 4) (pv 7) (fun _ _ => rfl))) pa_nil)))))
      (pss_cons (ps_set (i := 9) sc__law_pairs.nd rfl (Or.inl rfl) (C8.pe_c c__law_draw hr (by first | decide | omega) (by rfl) (pa_cons (pv 0) (pa_cons (pe_callB (call_max2 rfl) (by rfl) T.b_max (by decide +kernel) (pa_cons pe_int (pa_cons (pe_op op_sub (pe_callB call_len_seq (by rfl) T.b_len PySem.boot_len (pa_cons (pv 8) pa_nil)) pe_int) pa_nil))) pa_nil))))
      (pss_one (ps_if (pt_cmpR op_gt (pe_callB call_len_seq (by rfl) T.b_len PySem.boot_len (pa_cons (pv 8) pa_nil)) pe_int (nomark _)) (pss_cons (ps_set (i := 6) sc__law_pairs.nd rfl (Or.inl rfl) (pe_ix ix_list (pv 8) (pv 9) (fun _ _ => rfl)))
      (pss_one (ps_set (i := 7) sc__law_pairs.nd rfl (Or.inl rfl) (pe_ix ix_list (pv 8) (pe_op op_add (pv 9) pe_int) (fun _ _ => rfl))))) pss_nil)))) pss_nil)
      (pss_cons (ps_set (i := 10) sc__law_pairs.nd rfl (Or.inl rfl) (pe_op op_add_str (pe_ix ix_list (pv 4) (pv 6) (fun _ _ => rfl)) (pe_ix ix_list (pv 4) (pv 7) (fun _ _ => rfl))))
      (pss_one (ps_if (PW.pt (pw_and (pt_cmpR op_le (pe_callB call_len_str (by rfl) T.b_len PySem.boot_len (pa_cons (pv 10) pa_nil)) pe_int (nomark _)) (pw_and1 (pt_cmpR (op_eqD hu64) (C8.pe_c c__law_cut hr (by first | decide | omega) (by rfl) (pa_cons (pv 3) (pa_cons (pv 1) (pa_cons (pv 10) pa_nil)))) (pe_lst (pa_cons (pv 6) (pa_cons (pv 7) pa_nil))) (nomark _))))) (pss_cons (ps_expr (pe_bm PySem.F.plainAttrs_list PySem.F.slot_list_append PySem.F.type_list_append mt_append (pv 3) (pa_cons (pe_tup (pa_cons (pv 6) (pa_cons (pv 7) pa_nil))) pa_nil)))
      (pss_one (ps_expr (pe_bm PySem.F.plainAttrs_list PySem.F.slot_list_append PySem.F.type_list_append mt_append (pv 4) (pa_cons (pv 10) pa_nil))))) pss_nil)))))))
      (pss_one (ps_ret (pe_tup (pa_cons (pv 3) (pa_cons (pv 4) pa_nil))))))))), ?_⟩
    have hSl : (S al).length ≤ sizeLine := by rw [S_len]; exact small_le (by omega)
    refine ⟨Nat.zero_le _, fun pp hpp => ?_⟩
    have hppp : pp ≠ p := hP.free hpp
    have s0 := (PSame.refl hP).new (o := .lst []) hpp
    refine ⟨_, rfl, S al, rfl, fun tx htx => lc_it walk_str (fun i H' => PSame p H H' ∧ H' pp = some (.lst []) ∧ H' tx = some (.lst ((sv (al.take i)).map V.str))) ⟨s0.new htx, (upd_ne (ne_of_none upd_same htx)).trans upd_same, upd_same⟩ (fun _ _ _ _ => trivial) ?_ ?_⟩
    · rintro i x Ha Hb hi ⟨sa, hpb, ha⟩ ⟨rfl, c, hc, rfl⟩
      rw [S_get] at hc
      have hne : pp ≠ tx := ne_of_none upd_same htx
      refine ⟨rfl, _, rfl, _, ha, ?_, sa.put (s0.none htx), (upd_ne hne).trans hpb, ?_⟩
      · unfold sv; rw [List.length_map, List.length_map, List.length_take]; exact small1000 (by omega)
      · rw [upd_same, take_succ_of hc]; unfold sv; rw [List.map_append, List.map_append]; rfl
    rintro H1 ⟨s1, hp1, ht1⟩
    rw [S_size, List.take_length, sv_strV] at ht1
    have hne : pp ≠ tx := ne_of_none upd_same htx
    have htx0 : H tx = none := s0.none htx
    have htxp : tx ≠ p := hP.free htx0
    -- the chain
    dsimp only [gName]
    refine ⟨_, rfl, S al, rfl, hSl, _, _, rfl, rfl, _, rfl, ?_⟩
    rw [S_len]
    generalize hM : tSeq (tFor _ _ _) _ _ = M
    have key : ∀ H2, PSame p H1 H2 → M [some (.ref p), some (.str (S al)), some (.int (m : Int)), some (.ref pp), some (.ref tx), none, none, none, none, none, none, none] H2 := by
      intro H2 s12
      rw [← hM]
      have s2 := s1.trans s12
      refine ⟨_, rfl, _, rfl, by omega, by omega, for_it walk_range (fun i σ H' => ∃ (us : List V) (ps : List (Nat × Nat)) (v5 v6 v7 v8 v9 v10 : Option V), σ = [some (.ref p), some (.str (S al)), some (.int (m : Int)), some (.ref pp), some (.ref tx), v5, v6, v7, v8, v9, v10, none] ∧ PSame p H H' ∧
          H' pp = some (.lst us) ∧ PairsAt H' us ps ∧ H' tx = some (.lst (strV (textsOf al ps))) ∧ Proper al ps ∧ ps.length ≤ i)
        ⟨[], [], none, none, none, none, none, none, rfl, s2, s12.lst hppp hp1, .nil, s12.lst htxp ht1, Proper.nil al, Nat.le_refl _⟩ (fun _ _ _ _ _ => trivial) ?_ ?_⟩
      · rintro i x σ Ha Hb hi ⟨us, ps, v5, v6, v7, v8, v9, v10, rfl, sa, hpb, hps, htb, hprop, hle⟩ ⟨rfl, hx⟩
        have him : i < m := by simpa using hi
        obtain ⟨L, hLe⟩ : ∃ L, L = al.length + ps.length := ⟨_, rfl⟩
        have hLt : (textsOf al ps).length = L := by rw [textsOf_len, hLe]
        have hL : (strV (textsOf al ps)).length = L := by rw [strV_len, hLt]
        have pos : (0 : Int) < ((strV (textsOf al ps)).length : Int) := by rw [hL]; omega
        refine ⟨_, rfl, _, rfl, tx, _, rfl, .inl (SqL.of htb), p, _, rfl, sa.at1, pos, fun H3 a0 s3 ha0 => ?_⟩
        have sa3 := sa.trans s3
        refine ⟨_, rfl, _, rfl, tx, _, rfl, .inl (SqL.of (s3.lst htxp htb)), p, _, rfl, s3.at1, pos, fun H4 b0 s4 hb0 => ?_⟩
        have s34 := s3.trans s4
        rw [hL] at ha0 hb0
        dsimp only [gName]
        -- the draw
        refine ⟨_, rfl, p, 3, rfl, s34.at1, by decide, fun H5 r5 s5 hr5 => ⟨_, _, rfl, rfl, _, rfl, ?_⟩⟩
        have s35 := s34.trans s5
        generalize hM2 : tSeq (tAsg _ _) (tIfS _ _ _) _ = M2
        have key2 : ∀ (a b : Nat) (w8 w9 : Option V) (H6 : Hp), PSame p Hb H6 → a < L → b < L → M2 [some (.ref p), some (.str (S al)), some (.int (m : Int)), some (.ref pp), some (.ref tx), some x, some (.int (a : Int)), some (.int (b : Int)), w8, w9, v10, none] H6 := by
          intro a b w8 w9 H6 s6 ha hb
          rw [← hM2]
          have htx6 := s6.lst htxp htb
          have hpp6 := s6.lst hppp hpb
          have haT : a < (textsOf al ps).length := by rw [hLt]; exact ha
          have hbT : b < (textsOf al ps).length := by rw [hLt]; exact hb
          have hla : ((textsOf al ps).getD a []).length ≤ 40 := getD_short hprop.short a
          have hlb : ((textsOf al ps).getD b []).length ≤ 40 := getD_short hprop.short b
          have hmem : ∀ c ∈ (textsOf al ps).getD a [] ++ (textsOf al ps).getD b [], c ∈ al := fun c hc => by
            have key : ∀ i, c ∈ (textsOf al ps).getD i [] → c ∈ al := fun i hi => by
              rcases getD_mem_or (ts := textsOf al ps) (i := i) with m | m
              · exact textsOf_al _ m c hi
              · rw [m] at hi; cases hi
            rcases List.mem_append.mp hc with z | z
            · exact key _ z
            · exact key _ z
          refine ⟨_, rfl, _, rfl, tx, _, _, _, rfl, rfl, SqL.of htx6, atI_nat (strV_at haT), _, rfl, _, rfl, tx, _, _, _, rfl, rfl, SqL.of htx6, atI_nat (strV_at hbT), S _, S _, rfl, rfl, ?_, ?_⟩
          · rw [S_len, S_len]; exact small_le (by omega)
          rw [S_cat]
          obtain ⟨tt, htt⟩ : ∃ tt, tt = (textsOf al ps).getD a [] ++ (textsOf al ps).getD b [] := ⟨_, rfl⟩
          have htl : tt.length ≤ 80 := by rw [htt, List.length_append]; omega
          rw [← htt] at hmem ⊢
          refine ⟨_, rfl, S tt, rfl, by rw [S_len]; exact small_le (by omega), _, _, rfl, rfl, _, rfl, ?_⟩
          rw [S_len]
          by_cases h40 : tt.length ≤ 40
          · rw [decide_eq_true (by omega : (tt.length : Int) ≤ 40)]
            refine iteT ⟨_, rfl, _, rfl, _, rfl, pp, us, ps, al, tt, rfl, hpp6, hps.same s6.tt, hprop.wf, by omega, by omega, hmem, by omega, fun H7 y s7 hyn hy => ?_⟩
            refine ⟨_, rfl, _, rfl, by show 2 ≤ sizeLine; decide, fun D hD => ?_⟩
            have sd := Same.new (o := .lst [V.int (a : Int), V.int (b : Int)]) s7 hD
            have hyD : (upd H7 D (.lst [V.int (a : Int), V.int (b : Int)])) y = some (.lst (iv (cutL al.length ps (lets al tt)))) := (upd_ne (ne_of_none hy hD)).trans hy
            refine ⟨_, _, .lst (SqL.of hyD) (iv_dp _), .lst (SqL.of upd_same) (iv_dp [a, b]), shaped_iv _, shaped_iv [a, b], _, rfl, ?_⟩
            have ec : PyData.eqv (.list ((cutL al.length ps (lets al tt)).map fun (n : Nat) => PyData.int (n : Int))) (.list ([a, b].map fun (n : Nat) => PyData.int (n : Int))) = decide (cutL al.length ps (lets al tt) = [a, b]) := by rw [PyData.eqv, eqv_iv]
            have s8 := s6.then sd
            have hpp8 := sd _ _ hpp6
            have htx8 := sd _ _ htx6
            have hps8 := hps.same s8.tt
            by_cases hcut : cutL al.length ps (lets al tt) = [a, b]
            · rw [decide_eq_true hcut] at ec
              rw [ec]
              have hokp : okP al (textsOf al ps) ps (a, b) := ⟨haT, hbT, by rw [← htt]; exact h40, by rw [← htt]; exact hcut⟩
              have hul : us.length = ps.length := hps.length
              refine iteT ⟨_, rfl, .inl ⟨rfl, _, SqL.of hpp8⟩, _, rfl, _, rfl, by show 2 ≤ sizeLine; decide, fun g hg => ?_⟩
              have sg := same_new (o := .tup [V.int (a : Int), V.int (b : Int)]) hg
              have hpp9 := sg _ _ hpp8
              have htx9 := sg _ _ htx8
              have hps9 := hps8.same (Same.t sg)
              have g2v : (upd (upd H7 D (.lst [V.int (a : Int), V.int (b : Int)])) g (.tup [V.int (a : Int), V.int (b : Int)])) g = some (.tup [V.int (a : Int), V.int (b : Int)]) := upd_same
              have s9 := (sa.trans s8).new (o := .tup [V.int (a : Int), V.int (b : Int)]) hg
              generalize upd (upd H7 D (.lst [V.int (a : Int), V.int (b : Int)])) g (.tup [V.int (a : Int), V.int (b : Int)]) = H9 at *
              refine ⟨pp, us, _, rfl, rfl, hpp9, small1000 (by omega), ?_⟩
              have sT : SameT H9 (upd H9 pp (.lst (us ++ [.ref g]))) := SameT.put hpp9
              have t3 : (upd H9 pp (.lst (us ++ [.ref g]))) tx = some (.lst (strV (textsOf al ps))) := (upd_ne (Ne.symm hne)).trans htx9
              have p3 : (upd H9 pp (.lst (us ++ [.ref g]))) pp = some (.lst (us ++ [.ref g])) := upd_same
              have q3 : PairsAt (upd H9 pp (.lst (us ++ [.ref g]))) (us ++ [.ref g]) (ps ++ [(a, b)]) := Paired.snoc ⟨g, rfl, sT _ _ g2v⟩ (hps9.same sT)
              have s10 := s9.put (o := .lst (us ++ [.ref g])) hpp
              generalize upd H9 pp (.lst (us ++ [.ref g])) = H10 at *
              refine ⟨_, rfl, .inl ⟨rfl, _, SqL.of t3⟩, _, rfl, tx, _, _, rfl, rfl, t3, by rw [strV_len, textsOf_len]; exact small1000 (by omega), ?_⟩
              have et : strV (textsOf al ps) ++ [V.str (S tt)] = strV (textsOf al (ps ++ [(a, b)])) := by rw [strV_snoc, textsOf_snoc, htt]
              refine ⟨us ++ [.ref g], ps ++ [(a, b)], _, _, _, _, _, _, rfl, s10.put htx0, (upd_ne hne).trans p3, q3.same (SameT.put t3), by rw [upd_same, et], hprop.snoc hokp, by rw [List.length_append, List.length_singleton]; omega⟩
            · rw [decide_eq_false hcut] at ec
              rw [ec]
              exact iteF ⟨us, ps, _, _, _, _, _, _, rfl, sa.trans s8, hpp8, hps8, htx8, hprop, by omega⟩
          · rw [decide_eq_false (by omega : ¬ (tt.length : Int) ≤ 40)]
            exact iteF (iteF ⟨us, ps, _, _, _, _, _, _, rfl, sa.trans s6, hpp6, hps.same s6.tt, htx6, hprop, by omega⟩)
        obtain ⟨e, he⟩ : ∃ e : Bool, e = decide ((0 : Int) < (r5 : Int)) := ⟨_, rfl⟩
        show (if decide ((0 : Int) < (r5 : Int)) = true then _ else _)
        rw [← he]
        cases e with
        | false => exact iteF (key2 a0 b0 _ _ _ s35 (by omega) (by omega))
        | true =>
          have htx5 := s35.lst htxp htb
          have hpp5 := s35.lst hppp hpb
          have haT : a0 < (textsOf al ps).length := by omega
          have hbT : b0 < (textsOf al ps).length := by omega
          have hla : ((textsOf al ps).getD a0 []).length ≤ 40 := getD_short hprop.short a0
          have hlb : ((textsOf al ps).getD b0 []).length ≤ 40 := getD_short hprop.short b0
          have hmem : ∀ c ∈ (textsOf al ps).getD a0 [] ++ (textsOf al ps).getD b0 [], c ∈ al := fun c hc => by
            have key : ∀ i, c ∈ (textsOf al ps).getD i [] → c ∈ al := fun i hi => by
              rcases getD_mem_or (ts := textsOf al ps) (i := i) with m | m
              · exact textsOf_al _ m c hi
              · rw [m] at hi; cases hi
            rcases List.mem_append.mp hc with z | z
            · exact key _ z
            · exact key _ z
          refine iteT ⟨_, rfl, _, rfl, _, rfl, _, rfl, tx, _, _, _, rfl, rfl, SqL.of htx5, atI_nat (strV_at haT), _, rfl, _, rfl, tx, _, _, _, rfl, rfl, SqL.of htx5, atI_nat (strV_at hbT), S _, S _, rfl, rfl, ?_, ?_⟩
          · rw [S_len, S_len]; exact small_le (by omega)
          rw [S_cat]
          obtain ⟨tt, htt⟩ : ∃ tt, tt = (textsOf al ps).getD a0 [] ++ (textsOf al ps).getD b0 [] := ⟨_, rfl⟩
          have htl : tt.length ≤ 80 := by rw [htt, List.length_append]; omega
          rw [← htt] at hmem ⊢
          refine ⟨pp, us, ps, al, tt, rfl, hpp5, hps.same s35.tt, hprop.wf, by omega, by omega, hmem, by omega, fun H7 y s7 hyn hy => ?_⟩
          have s37 := s35.then s7
          have hyp : y ≠ p := s35.at1.free hyn
          obtain ⟨R, hR⟩ : ∃ R, R = cutL al.length ps (lets al tt) := ⟨_, rfl⟩
          have hRin : ∀ x ∈ R, x < al.length + ps.length := by rw [hR]; exact cut_lt hmem
          have hRl : R.length ≤ 80 := by have := cutL_len al.length ps (lets al tt); rw [← hR, lets, List.length_map] at this; omega
          rw [← hR] at hy
          obtain ⟨mx, hmx⟩ : ∃ mx : Int, mx = (if (R.length : Int) - 1 > 1 then (R.length : Int) - 1 else 1) := ⟨_, rfl⟩
          have hmxp : 0 < mx ∧ (1 < R.length → mx ≤ (R.length : Int) - 1) := by rw [hmx]; split <;> omega
          refine ⟨_, rfl, _, rfl, y, _, rfl, .inl (SqL.of hy), _, _, rfl, rfl, _, _, rfl, ?_⟩
          rw [iv_len, ← hmx]
          refine ⟨p, mx, rfl, s37.at1, hmxp.1, fun H8 r8 s8 hr8 => ?_⟩
          have s38 := s37.trans s8
          have hy8 := s8.lst hyp hy
          refine ⟨_, rfl, y, _, rfl, .inl (SqL.of hy8), _, _, rfl, rfl, _, rfl, ?_⟩
          rw [iv_len]
          by_cases hR1 : 1 < R.length
          · rw [decide_eq_true (by omega : (1 : Int) < (R.length : Int))]
            have hr81 : r8 + 1 < R.length := by have := hmxp.2 hR1; omega
            obtain ⟨u1, hu1⟩ : ∃ u, R[r8]? = some u := ⟨_, List.getElem?_eq_getElem (by omega)⟩
            obtain ⟨u2, hu2⟩ : ∃ u, R[r8 + 1]? = some u := ⟨_, List.getElem?_eq_getElem hr81⟩
            have hb1 := hRin u1 (List.mem_of_getElem? hu1)
            have hb2 := hRin u2 (List.mem_of_getElem? hu2)
            refine iteT ⟨_, rfl, _, rfl, y, _, _, _, rfl, rfl, SqL.of hy8, atI_nat (iv_at hu1), _, rfl, _, rfl, _, _, rfl, rfl, y, _, _, _, rfl, rfl, SqL.of hy8, atI_nat (iv_at hu2), ?_⟩
            exact key2 u1 u2 _ _ _ s38 (by omega) (by omega)
          · rw [decide_eq_false (by omega : ¬ (1 : Int) < (R.length : Int))]
            exact iteF (key2 a0 b0 _ _ _ s38 (by omega) (by omega))
      · rintro σ H3 ⟨us, ps, v5, v6, v7, v8, v9, v10, rfl, sa, hpb, hps, htb, hprop, hle⟩
        refine ⟨_, rfl, _, rfl, by show 2 ≤ sizeLine; decide, fun r hr' => ?_⟩
        have sN := same_new (o := .tup [.ref pp, .ref tx]) hr'
        have hle' : ps.length ≤ m := by simpa using hle
        exact q _ r pp tx us ps (sa.new hr') hppp htxp upd_same (sN _ _ hpb) (hps.same (Same.t sN)) (sN _ _ htb) hprop (by omega)
    by_cases hlen : 2 < al.length
    · rw [decide_eq_true (by omega : (2 : Int) < (al.length : Int))]
      refine iteT ⟨_, rfl, p, 5, rfl, s1.at1, by decide, fun H2 r2 s2 hr2 => ⟨rfl, _, rfl, ?_⟩⟩
      obtain ⟨e, he⟩ : ∃ e : Bool, e = decide (V.int (r2 : Int) = V.int 0) := ⟨_, rfl⟩
      show (if decide (V.int (r2 : Int) = V.int 0) = true then _ else _)
      rw [← he]
      cases e with
      | false => exact iteF (key H2 s2)
      | true =>
        have s12 := s1.trans s2
        have ht2 := s2.lst htxp ht1
        have hn : ((al.length : Int) - 2 - (-1)).toNat = al.length - 1 := by omega
        have rg : RgC ((al.length : Int) - 2) (-1) (-1) (al.length - 1) := by rw [← hn]; exact RgC.neg (by omega) (by omega) (by decide) (by decide)
        refine iteT ⟨_, rfl, S al, rfl, hSl, _, _, rfl, rfl, _, rfl, _, rfl, ?_⟩
        rw [S_len]
        refine ⟨_, _, _, _, rfl, rg, fun D hD => lc_it walk_rangeC (fun i H' => PSame p H H' ∧ H' tx = some (.lst (strV (textsOf al []))) ∧ ∃ us, H' D = some (.lst us) ∧ PairsAt H' us ((chP al.length).take i)) ⟨s12.new hD, (upd_ne (ne_of_none ht2 hD)).trans ht2, [], upd_same, .nil⟩ (fun _ _ _ _ => trivial) ?_ ?_⟩
        · rintro i x Ha Hb hi ⟨sa, hta, us, hDa, hpa⟩ ⟨rfl, hx⟩
          obtain rfl : x = V.int ((al.length - 2 - i : Nat) : Int) := hx.trans (congrArg V.int (by omega))
          refine ⟨rfl, _, rfl, _, rfl, _, _, rfl, rfl, by show 2 ≤ sizeLine; decide, fun g hg => ?_⟩
          have sg := same_new (o := .tup [V.int ((al.length - 2 - i : Nat) : Int), V.int (((al.length - 2 - i : Nat) : Int) + 1)]) hg
          have hDg := sg _ _ hDa
          have hul := hpa.length
          rw [List.length_take, chP_len] at hul
          have hDp : tx ≠ D := ne_of_none ht2 hD
          refine ⟨us, hDg, small1000 (by omega), (sa.new hg).put (s12.none hD), (upd_ne hDp).trans (sg _ _ hta), us ++ [.ref g], upd_same, ?_⟩
          rw [take_succ_of (chP_get hi)]
          refine Paired.snoc ⟨g, rfl, SameT.put hDg _ _ ?_⟩ ((hpa.same (Same.t sg)).same (SameT.put hDg))
          rw [upd_same]
          exact congrArg (fun z : Int => some (HO.tup [V.int ((al.length - 2 - i : Nat) : Int), V.int z])) (by omega : ((al.length - 2 - i : Nat) : Int) + 1 = ((al.length - 1 - i : Nat) : Int))
        rintro H3 ⟨s3, ht3, us, hD3, hp3⟩
        have hfull : (chP al.length).take (al.length - 1) = chP al.length := by rw [List.take_of_length_le (by rw [chP_len]; exact Nat.le_refl _)]
        rw [hfull] at hp3
        have hD0 : H D = none := s12.none hD
        refine ⟨_, rfl, _, rfl, _, rfl, S al, rfl, hSl, _, _, rfl, rfl, _, rfl, _, rfl, ?_⟩
        rw [S_len]
        refine ⟨_, _, _, _, rfl, rg, fun D2 hD2 => lc_it walk_rangeC (fun i H' => PSame p H H' ∧ H' tx = some (.lst (strV (textsOf al []))) ∧ H' D = some (.lst us) ∧ SameT H3 H' ∧ ∃ ts, H' D2 = some (.lst (strV ts)) ∧ textsOf al [] ++ ts = textsOf al ((chP al.length).take i) ∧ ts.length = i) ⟨s3.new hD2, (upd_ne (ne_of_none ht3 hD2)).trans ht3, (upd_ne (ne_of_none hD3 hD2)).trans hD3, Same.t (same_new hD2), [], upd_same, by rw [List.take_zero, List.append_nil], rfl⟩ (fun _ _ _ _ => trivial) ?_ ?_⟩
        · rintro i x Ha Hb hi ⟨sa, hta, hDa, sT, ts, hD2a, hts, htl⟩ ⟨rfl, hx⟩
          obtain rfl : x = V.int ((al.length - 2 - i : Nat) : Int) := hx.trans (congrArg V.int (by omega))
          obtain ⟨c, hc⟩ : ∃ c, al[al.length - 2 - i]? = some c := ⟨_, List.getElem?_eq_getElem (by omega)⟩
          obtain ⟨d, hd⟩ : ∃ d, al[al.length - 1 - i]? = some d := ⟨_, List.getElem?_eq_getElem (by omega)⟩
          refine ⟨rfl, _, rfl, _, rfl, _, rfl, _, rfl, _, _, rfl, rfl, _, rfl, S al, rfl, hSl, ?_⟩
          have e2 : (al.drop (al.length - 2 - i)).take 2 = [c, d] := by
            obtain ⟨hc1, hc2⟩ := List.getElem?_eq_some_iff.mp hc
            obtain ⟨hd1, hd2⟩ := List.getElem?_eq_some_iff.mp hd
            rw [List.drop_eq_getElem_cons hc1, List.take_succ_cons, hc2]
            have hd1' : al.length - 2 - i + 1 < al.length := by omega
            rw [List.drop_eq_getElem_cons hd1', List.take_succ_cons, List.take_zero]
            have : al[al.length - 2 - i + 1] = d := by rw [← hd2]; congr 1; omega
            rw [this]
          rw [show (((al.length - 2 - i : Nat) : Int) + 2) = ((al.length - 2 - i + 2 : Nat) : Int) from rfl, cutS_mid al (by omega), e2]
          have hne1 : tx ≠ D2 := ne_of_none ht3 hD2
          have hne2 : D ≠ D2 := ne_of_none hD3 hD2
          refine ⟨_, hD2a, ?_, sa.put (s3.none hD2), (upd_ne hne1).trans hta, (upd_ne hne2).trans hDa, fun b xs e => SameT.put hD2a _ _ (sT _ _ e), ts ++ [[c, d]], ?_, ?_, ?_⟩
          · rw [strV_len]; exact small1000 (by omega)
          · rw [upd_same, strV_snoc]
          · rw [← List.append_assoc, hts, chP_text hi hc hd]
          · rw [List.length_append, List.length_singleton, htl]
        · rintro H4 ⟨s4, ht4, hD4, sT, ts, hD24, hts, htl⟩
          rw [hfull] at hts
          refine ⟨tx, D2, _, _, rfl, rfl, ht4, hD24, by rw [strV_len, strV_len, textsOf_len, htl]; exact small_le (by show al.length + 0 + _ ≤ 1000; omega), fun t2 ht2' => ⟨by show 2 ≤ sizeLine; decide, fun r hr' => ?_⟩⟩
          have eT : strV (textsOf al []) ++ strV ts = strV (textsOf al (chP al.length)) := by rw [← hts, strV, strV, strV, List.map_append]
          have sN := Same.new (o := .tup [.ref D, .ref t2]) (same_new (o := .lst (strV (textsOf al []) ++ strV ts)) ht2') hr'
          have ht2v : (upd (upd H4 t2 (.lst (strV (textsOf al []) ++ strV ts))) r (.tup [.ref D, .ref t2])) t2 = some (.lst (strV (textsOf al (chP al.length)))) := by rw [upd_ne (ne_of_none upd_same hr'), upd_same, eT]
          exact q _ r D t2 us (chP al.length) (s4.then sN) (s12.at1.free hD) (s4.at1.free ht2') upd_same (sN _ _ hD4) ((hp3.same sT).same (Same.t sN)) ht2v (chP_proper hnd) (by rw [chP_len]; omega)
    · rw [decide_eq_false (by omega : ¬ (2 : Int) < (al.length : Int))]
      exact iteF (iteF (key H1 (PSame.refl s1.at1)))
end
end RJ
end

section
set_option maxRecDepth 100000
set_option maxHeartbeats 8000000
namespace RJ
open PySem PySem.Spec PyProof.Rows L2
abbrev s__law_same : Stmt := top 58
abbrev N__law_same : List Str := ["told", "due", "k"]
theorem sc__law_same : FnScope N__law_same ["told", "due"] (C8.fnScope s__law_same) := C8.fnScope_by (by decide +kernel)
theorem smallB_le {n : Nat} (h : n ≤ 100000) : n ≤ sizeLine := Nat.le_of_lt (smallB h)
theorem fold_memB {a : Array Nat} : ∀ (k : Nat) (b : Array Nat) (c : Nat), c ∈ ((List.replicate k a).foldl (· ++ ·) b).toList → c ∈ b.toList ∨ c ∈ a.toList
  | 0, _, _, h => .inl h
  | k + 1, b, c, h => by
    have h' : c ∈ ((List.replicate k a).foldl (· ++ ·) (b ++ a)).toList := h
    rcases fold_memB k (b ++ a) c h' with z | z
    · rw [Array.toList_append] at z
      exact List.mem_append.mp z
    · exact .inr z
theorem mul_memB {u : List Nat} {n : Int} {c : Nat} (h : c ∈ (PySem.Txt.mul (S u) n).cps.toList) : c ∈ u := by
  unfold PySem.Txt.mul at h
  split at h
  · cases h
  · split at h
    · exact h
    · rcases fold_memB _ _ c h with z | z
      · cases z
      · exact z
theorem mulB (u : List Nat) (n : Nat) : ∃ t : List Nat, PySem.Txt.mul (S u) (n : Int) = S t ∧ (∀ c ∈ t, c ∈ u) ∧ t.length ≤ u.length * n := by
  refine ⟨(PySem.Txt.mul (S u) (n : Int)).cps.toList, ?_, fun c hc => mul_memB hc, ?_⟩
  · show PySem.Txt.mul (S u) (n : Int) = ⟨(PySem.Txt.mul (S u) (n : Int)).cps.toList.toArray⟩
    rw [Array.toArray_toList]
  · have := len_mul_leN (x := S u) (n := (n : Int)) (L := u.length) (N := n) (by rw [S_len]; exact Nat.le_refl _) (Int.le_refl _)
    rw [Array.length_toList]; exact this
theorem mulB_ok {u : List Nat} {n : Nat} (h : u.length ≤ 40) (hn : n ≤ 7) : MulOk (S u) (n : Int) := by
  have e63 : (2 : Int) ^ 63 = 9223372036854775808 := by decide
  refine ⟨by rw [decide_eq_false (by omega), decide_eq_false (by omega)]; rfl, fun h1 _ => ?_, fun _ _ => ?_⟩
  · rw [S_len]
    have h2 : (1000 : Int) ≤ ((2 : Int) ^ 63 - 1) / (n : Int) := by
      refine (Int.le_ediv_iff_mul_le (by omega)).mpr ?_
      have : ((2 : Int) ^ 63 - 1) = 9223372036854775807 := by decide
      omega
    omega
  · rw [S_len]
    exact decide_eq_false (by
      have h3 : u.length * Int.toNat (n : Int) ≤ 40 * 7 := Nat.mul_le_mul h (by rw [Int.toNat_natCast]; exact hn)
      have := small1000 (n := u.length * Int.toNat (n : Int)) (by omega)
      omega)
theorem cutS_sub (l : List Nat) (lo hi : Option Int) : ∃ u, cutS (S l) lo hi = S u ∧ u.length ≤ l.length ∧ ∀ c ∈ u, c ∈ l := by
  refine ⟨(cutS (S l) lo hi).cps.toList, rfl, ?_, fun c hc => ?_⟩
  · have := cutS_length (S l) lo hi
    rw [S_len] at this
    exact this
  · exact List.mem_of_mem_drop (List.mem_of_mem_take hc)
theorem cut_midV (l : List Nat) (i k : Nat) (h : i + k ≤ l.length) : cutV (iv l) (some (i : Int)) (some ((i + k : Nat) : Int)) = iv ((l.drop i).take k) := by
  unfold cutV
  rw [HT.sIx_nat, HT.sIx_nat, iv_len, Nat.min_eq_left h, Nat.min_eq_left (show i ≤ l.length by omega), show i + k - i = k by omega]
  unfold iv
  rw [List.map_take, List.map_drop]
def sp_textB : Sp := fun vs H Q _ => ∃ (p tx : Addr) (al : List Nat) (ps : List (Nat × Nat)) (most : Nat), vs = [.ref p, .str (S al), .ref tx, .int (most : Int)] ∧ PoolAt p H ∧ H tx = some (.lst (strV (textsOf al ps))) ∧ tx ≠ p ∧ Proper al ps ∧ 1 ≤ al.length ∧ al.length ≤ 30 ∧ ps.length ≤ 100 ∧ most ≤ 60 ∧
  ∀ H' t, PSame p H H' → (∀ c ∈ t, c ∈ al) → t.length ≤ most → Q (.str (S t)) H'
def sp_joinedB : Sp := fun vs H Q _ => ∃ (tx a : Addr) (ts : List (List Nat)) (row : List Nat), vs = [.ref tx, .ref a] ∧ H tx = some (.lst (strV ts)) ∧ H a = some (.lst (iv row)) ∧ (∀ x ∈ row, x < ts.length) ∧ (∀ t ∈ ts, t.length ≤ 40) ∧ row.length ≤ 1000 ∧
  ∀ H', Same H H' → Q (.str (S (textR ts row))) H'
def sp_stretch : Sp := fun vs H Q _ => ∃ (p a : Addr) (row : List Nat), vs = [.ref p, .ref a] ∧ PoolAt p H ∧ H a = some (.lst (iv row)) ∧ a ≠ p ∧ row.length ≤ 1000 ∧
  ∀ H' z i k, PSame p H H' → H z = none → H' z = some (.lst (iv ((row.drop i).take k))) → Q (.ref z) H'
section
variable {P : Program} {w : World} {K : PySem.W.Frag} {mg : Str → Option Value} {base : Heap}
theorem ok_textB {f : Addr} {fd : FuncData} (F : C8.Fun K "_law_text" "_law_text" s__law_text f fd) (T : Txt K mg) (c__law_draw : C8.Cal P w K mg base 1 "_law_draw" sp_drawB []) : FnOk P w K mg base C8.CX0 2 f fd ["pool", "alphabet", "texts", "most"] sp_textB := by
  refine C8.fn0 F sc__law_text (fun vs H Q E h => ?_) (fun cdv A outer s H vs Q E hr h => ?_)
  · obtain ⟨p, tx, al, ps, most, rfl, _⟩ := h; rfl
  · obtain ⟨p, tx, al, ps, most, rfl, hP, htx, htp, hprop, h1, h30, hpl, hm, q⟩ := h
    refine ⟨_, (pss_cons (ps_set (i := 4) sc__law_text.nd rfl (Or.inl rfl) pe_str)
      (pss_cons (ps_for PassesOwn.never rfl (pi_range1 rfl T.b_range (pa_cons (C8.pe_c c__law_draw hr (by first | decide | omega) (by rfl) (pa_cons (pv 0) (pa_cons (pe_op op_add (pv 3) pe_int) pa_nil))) pa_nil)) (pg_name (i := 5) sc__law_text.nd rfl (Or.inl rfl)) (pss_one (ps_if (pt_cmpR op_lt (pe_callB call_len_str (by rfl) T.b_len PySem.boot_len (pa_cons (pv 4) pa_nil)) (pv 3) (nomark _)) (pss_cons (ps_set (i := 6) sc__law_text.nd rfl (Or.inl rfl) (C8.pe_c c__law_draw hr (by first | decide | omega) (by rfl) (pa_cons (pv 0) (pa_cons pe_int pa_nil))))
      (pss_cons (ps_set (i := 7) sc__law_text.nd rfl (Or.inl rfl) (pe_ix ix_str (pv 1) (C8.pe_c c__law_draw hr (by first | decide | omega) (by rfl) (pa_cons (pv 0) (pa_cons (pe_callB call_len_str (by rfl) T.b_len PySem.boot_len (pa_cons (pv 1) pa_nil)) pa_nil))) (fun _ _ => rfl)))
      (pss_cons (ps_if (pt_cmpR op_gt (pv 6) pe_int (nomark _)) (pss_one (ps_set (i := 7) sc__law_text.nd rfl (Or.inl rfl) (pe_op op_mul_text (pe_ix ix_list (pv 2) (C8.pe_c c__law_draw hr (by first | decide | omega) (by rfl) (pa_cons (pv 0) (pa_cons (pe_callB call_len_seq (by rfl) T.b_len PySem.boot_len (pa_cons (pv 2) pa_nil)) pa_nil))) (fun _ _ => rfl)) (pe_ix ix_list (pe_lst (pa_cons pe_int (pa_cons pe_int (pa_cons pe_int (pa_cons pe_int pa_nil))))) (pe_op op_sub (pv 6) pe_int) (fun _ _ => rfl))))) pss_nil)
      (pss_cons (ps_if (pt_cmpR op_eq (pv 6) pe_int (nomark _)) (pss_one (ps_set (i := 7) sc__law_text.nd rfl (Or.inl rfl) (pe_slice sl_str (pv 1) (po_some (pe_bm PySem.F.plainAttrs_str PySem.F.slot_str_find PySem.F.type_str_find mt_find (pv 1) (pa_cons (pv 7) pa_nil))) po_none))) pss_nil)
      (pss_one (ps_set (i := 4) sc__law_text.nd rfl (Or.inl rfl) (pe_op op_add_str (pv 4) (pv 7)))))))) pss_nil)))
      (pss_one (ps_ret (pe_slice sl_str (pv 4) po_none (po_some (pv 3))))))), ?_⟩
    have hSl : (S al).length ≤ sizeLine := by rw [S_len]; exact small_le (by omega)
    refine ⟨_, rfl, _, rfl, _, _, rfl, rfl, p, _, rfl, hP, by omega, fun H1 r1 s1 hr1 => ⟨_, rfl, by omega, by omega, ?_⟩⟩
    refine for_it walk_range (fun i σ H' => ∃ (t : List Nat) (v5 v6 v7 : Option V), σ = [some (.ref p), some (.str (S al)), some (.ref tx), some (.int (most : Int)), some (.str (S t)), v5, v6, v7] ∧ PSame p H H' ∧ (∀ c ∈ t, c ∈ al) ∧ t.length ≤ 400)
      ⟨[], none, none, none, rfl, s1, fun c hc => (List.not_mem_nil hc).elim, by decide⟩ (fun _ _ _ _ _ => trivial) ?_ ?_
    · rintro i x σ Ha Hb hi ⟨t, v5, v6, v7, rfl, sa, htm, htl⟩ ⟨rfl, hx⟩
      have hStl : (S t).length ≤ sizeLine := by rw [S_len]; exact small_le (by omega)
      refine ⟨_, rfl, S t, rfl, hStl, _, rfl, _, _, rfl, rfl, _, rfl, ?_⟩
      rw [S_len]
      by_cases hlt : t.length < most
      · rw [decide_eq_true (by omega : (t.length : Int) < (most : Int))]
        refine iteT ⟨_, rfl, p, 8, rfl, sa.at1, by decide, fun H2 way s2 hway => ?_⟩
        have sa2 := sa.trans s2
        refine ⟨_, rfl, _, rfl, _, rfl, S al, rfl, hSl, ?_⟩
        rw [S_len]
        refine ⟨p, _, rfl, s2.at1, by omega, fun H3 r3 s3 hr3 => ?_⟩
        have sa3 := sa2.trans s3
        obtain ⟨c, hc⟩ : ∃ c, al[r3]? = some c := ⟨_, List.getElem?_eq_getElem (by omega)⟩
        refine ⟨S al, _, c, rfl, rfl, hSl, atI_nat hc, ?_⟩
        dsimp only [gName]
        refine ⟨_, rfl, _, _, rfl, rfl, _, rfl, ?_⟩
        obtain ⟨e, he⟩ : ∃ e : Bool, e = decide ((3 : Int) < (way : Int)) := ⟨_, rfl⟩
        show (if decide ((3 : Int) < (way : Int)) = true then _ else _)
        rw [← he]
        generalize hM : tSeq (tIfS _ _ _) _ _ = M
        have key : ∀ (part : List Nat) (H4 : Hp), PSame p H H4 → (∀ c ∈ part, c ∈ al) → part.length ≤ 300 → M [some (.ref p), some (.str (S al)), some (.ref tx), some (.int (most : Int)), some (.str (S t)), some x, some (.int (way : Int)), some (.str (S part))] H4 := by
          intro part H4 s4 hpm hpl
          rw [← hM]
          show tTest _ _ _ _
          generalize hM2 : tAsg (tOp _ (tVar 4) (tVar 7)) _ _ = M2
          have key2 : ∀ (part : List Nat), (∀ c ∈ part, c ∈ al) → part.length ≤ 300 → M2 [some (.ref p), some (.str (S al)), some (.ref tx), some (.int (most : Int)), some (.str (S t)), some x, some (.int (way : Int)), some (.str (S part))] H4 := by
            intro part hpm hpl
            rw [← hM2]
            refine ⟨_, rfl, _, rfl, S t, S part, rfl, rfl, by rw [S_len, S_len]; exact small_le (by omega), t ++ part, some x, some (.int (way : Int)), some (.str (S part)), congrArg (fun z : Str => [some (V.ref p), some (.str (S al)), some (.ref tx), some (.int (most : Int)), some (.str z), some x, some (.int (way : Int)), some (.str (S part))]) (S_cat t part), s4, fun c hc => ?_, by rw [List.length_append]; omega⟩
            rcases List.mem_append.mp hc with z | z
            · exact htm c z
            · exact hpm c z
          refine ⟨_, rfl, rfl, _, rfl, ?_⟩
          obtain ⟨e3, he3⟩ : ∃ e : Bool, e = decide (V.int (way : Int) = V.int 3) := ⟨_, rfl⟩
          show (if decide (V.int (way : Int) = V.int 3) = true then _ else _)
          rw [← he3]
          cases e3 with
          | false => exact iteF (key2 part hpm hpl)
          | true =>
            obtain ⟨u, eu, hul, hum⟩ := cutS_sub al (some (Txt.find (S al) (S part))) none
            refine iteT ⟨_, rfl, _, rfl, rfl, _, rfl, S al, S part, rfl, rfl, _, rfl, S al, rfl, hSl, ?_⟩
            rw [eu]
            exact key2 u hum (by omega)
        cases e with
        | false => exact iteF (key [c] H3 sa3 (fun d hd => by rw [List.mem_singleton.mp hd]; exact List.mem_of_getElem? hc) (by rw [List.length_singleton]; omega))
        | true =>
          have hw3 : 3 < way := by have := of_decide_eq_true he.symm; omega
          have htx3 := sa3.lst htp htx
          have hLt : (strV (textsOf al ps)).length = al.length + ps.length := by rw [strV_len, textsOf_len]
          refine iteT ⟨_, rfl, _, rfl, _, rfl, tx, _, rfl, .inl (SqL.of htx3), p, _, rfl, sa3.at1, by rw [hLt]; omega, fun H4 r4 s4 hr4 => ?_⟩
          rw [hLt] at hr4
          have sa4 := sa3.trans s4
          have hr4T : r4 < (textsOf al ps).length := by rw [textsOf_len]; omega
          obtain ⟨u, hu⟩ : ∃ u, u = (textsOf al ps).getD r4 [] := ⟨_, rfl⟩
          have hul : u.length ≤ 40 := by rw [hu]; exact getD_short hprop.short r4
          have hum : ∀ c ∈ u, c ∈ al := fun c hc => by
            rw [hu] at hc
            rcases getD_mem_or (ts := textsOf al ps) (i := r4) with m | m
            · exact textsOf_al _ m c hc
            · rw [m] at hc; cases hc
          refine ⟨tx, _, _, _, rfl, rfl, SqL.of (s4.lst htp htx3), atI_nat (strV_at hr4T), by show 4 ≤ sizeLine; decide, fun L hL => ?_⟩
          rw [← hu]
          obtain ⟨m, hm7, hsel⟩ : ∃ m : Nat, m ≤ 7 ∧ atI [V.int 1, V.int 1, V.int 1, V.int 7] ((way : Int) - 4) = some (V.int (m : Int)) := by
            have : way = 4 ∨ way = 5 ∨ way = 6 ∨ way = 7 := by omega
            rcases this with rfl | rfl | rfl | rfl
            · exact ⟨1, by decide, rfl⟩
            · exact ⟨1, by decide, rfl⟩
            · exact ⟨1, by decide, rfl⟩
            · exact ⟨7, by decide, rfl⟩
          obtain ⟨tt, ett, httm, httl⟩ := mulB u m
          refine ⟨_, rfl, _, _, rfl, rfl, L, _, _, _, rfl, rfl, SqL.of upd_same, hsel, S u, (m : Int), rfl, rfl, mulB_ok hul hm7, ?_⟩
          rw [ett]
          have : u.length * m ≤ 40 * 7 := Nat.mul_le_mul hul hm7
          exact key tt _ (sa4.new hL) (fun c hc => hum c (httm c hc)) (by omega)
      · rw [decide_eq_false (by omega : ¬ (t.length : Int) < (most : Int))]
        exact iteF ⟨t, _, _, _, rfl, sa, htm, htl⟩
    · rintro σ H2 ⟨t, v5, v6, v7, rfl, sa, htm, htl⟩
      refine ⟨_, rfl, _, rfl, _, rfl, S t, rfl, by rw [S_len]; exact small_le (by omega), ?_⟩
      rw [cutS_take]
      exact q H2 _ sa (fun c hc => htm c (List.mem_of_mem_take hc)) (by rw [List.length_take]; omega)
end
end RJ
end

section
set_option maxRecDepth 100000
set_option maxHeartbeats 4000000
namespace RJ
open PySem PySem.Spec PyProof.Rows L2
/-- len(o) by the class's own __len__ -/
theorem call_lenOwn {X : Cx} {k : Nat} {C : Addr} {sp : Sp} (m : C8.Met X.prog X.w X.K X.mg X.base k C "__len__" sp []) (hr : Room (k + 1) X.A) :
    CallR X (.builtin "len") (fun xs H Q => ∃ (a dx : Addr) (fs : List (Str × V)), xs = [.ref a] ∧ H a = some (.ins C dx fs) ∧ sp [.ref a] H (fun v H1 => ∃ n : Nat, v = .int (n : Int) ∧ n < 2 ^ 62 ∧ Q (.int (n : Int)) H1) C8.E0) := by
  intro pins s σ H xs us Q I r h
  obtain ⟨a, dx, fs, rfl, ha, q⟩ := h
  obtain ⟨f, fd, ps, ds, hc, hm, F, b, d⟩ := m.ex
  rw [Vals.ref1 r]
  obtain ⟨mA, O, _⟩ := ins_get I.hok ha
  obtain ⟨od, inst, _⟩ := O.look
  obtain ⟨mm, fr⟩ := I.fr
  refine PySem.W.len_K fr I.ok.mod.kin inst hm.at_ hm.fn ?_
  have vals : Vals ([V.ref a] ++ []) ([Value.ref a] ++ ds) := Vals.append (.cons rfl .nil) d
  have hl : ([Value.ref a] ++ ds).length = ps.length := by rw [← vals.length]; exact F.len _ _ _ _ q
  refine wpAny_call (codeAny_mono (F.run X.A.in1 X.stack s H ⟨[.ref a], []⟩ ([.ref a] ++ ds) ([.ref a] ++ []) _ C8.E0 hr.in1 I.env0.in1 (b s [.ref a] I.kIn hl) vals q) fun r s' hq => ?_)
  cases r with
  | error e => exact False.elim hq
  | ok fl =>
    cases fl with
    | ret u =>
      obtain ⟨v, H', J, rv, n, rfl, hn, qn⟩ := I.after hq
      obtain ⟨t, rfl⟩ := rv
      exact ⟨⟨by omega, by omega⟩, .int (n : Int), H', J.tok _, ⟨_, rfl⟩, qn⟩
    | next => exact False.elim hq
    | brk => exact False.elim hq
    | cont => exact False.elim hq
end RJ
end

section
set_option maxRecDepth 100000
set_option maxHeartbeats 4000000
namespace RJ
open PySem PySem.Spec PyProof.Rows L2
abbrev s_check_number : Stmt := top 19
abbrev N_check_number : List Str := ["number", "end"]
theorem sc_check_number : FnScope N_check_number ["number", "end"] (C8.fnScope s_check_number) := C8.fnScope_by (by decide +kernel)
abbrev s_Joins___len__ : Stmt := inClass (top 28) 2
abbrev N_Joins___len__ : List Str := ["self"]
theorem sc_Joins___len__ : FnScope N_Joins___len__ ["self"] (C8.fnScope s_Joins___len__) := C8.fnScope_by (by decide +kernel)
def sp_check_number : Sp := fun vs H Q _ => ∃ (i n : Int), vs = [.int i, .int n] ∧ 0 ≤ i ∧ i < n ∧ Q .non H
def sp_len (C : Addr) : Sp := fun vs H Q _ => ∃ (p : Addr) (al : List Nat) (ps : List (Nat × Nat)), vs = [.ref p] ∧ JoinsAt C H p al ps ∧ Q (.int (ps.length : Int)) H
def sp_join_allP (C : Addr) : Sp := fun vs H Q _ => ∃ (p a : Addr) (b : Bool) (row al : List Nat) (ps : List (Nat × Nat)) (r : Nat) (pr : Nat × Nat), vs = [.ref p, .ref a, .int (r : Int)] ∧ JoinsAt C H p al ps ∧ WF al.length ps ∧ ps.length ≤ 1000 ∧ RowAt b H a row ∧ row.length ≤ 1000 ∧ al.length ≤ 1000 ∧ ps[r]? = some pr ∧
  ∀ H' q, Same H H' → H' q = some (.tup (iv (pass pr.1 pr.2 (al.length + r) row))) → Q (.ref q) H'
def sp_stagedP (C : Addr) : Sp := fun vs H Q _ => ∃ (p a : Addr) (b : Bool) (row al : List Nat) (ps : List (Nat × Nat)) (m : Nat), vs = [.ref p, .ref a, .int (m : Int)] ∧ JoinsAt C H p al ps ∧ WF al.length ps ∧ ps.length ≤ 1000 ∧ RowAt b H a row ∧ row.length ≤ 1000 ∧ al.length ≤ 1000 ∧ m ≤ ps.length ∧
  ∀ H' q, Same H H' → H' q = some (.tup (iv (cutL al.length (ps.take m) row))) → Q (.ref q) H'
/-- the changes by the joins -/
def hist (b : Nat) (ps : List (Nat × Nat)) (row : List Nat) (n : Nat) : List (Nat × List Nat) := (List.range n).filterMap fun i => if cutL b (ps.take (i + 1)) row = cutL b (ps.take i) row then none else some (i, cutL b (ps.take (i + 1)) row)
theorem hist_succ (b : Nat) (ps : List (Nat × Nat)) (row : List Nat) (n : Nat) : hist b ps row (n + 1) = hist b ps row n ++ (if cutL b (ps.take (n + 1)) row = cutL b (ps.take n) row then [] else [(n, cutL b (ps.take (n + 1)) row)]) := by
  unfold hist
  rw [List.range_succ, List.filterMap_append]
  congr 1
  rw [List.filterMap_cons, List.filterMap_nil]
  split <;> rename_i h
  · split at h
    · rename_i c; rw [if_pos c]
    · cases h
  · split at h
    · cases h
    · rename_i c; rw [if_neg c]; cases h; rfl
theorem hist_len (b : Nat) (ps : List (Nat × Nat)) (row : List Nat) (n : Nat) : (hist b ps row n).length ≤ n := by
  unfold hist
  have := List.length_filterMap_le (fun i => if cutL b (ps.take (i + 1)) row = cutL b (ps.take i) row then none else some (i, cutL b (ps.take (i + 1)) row)) (List.range n)
  rwa [List.length_range] at this
def HistAt (H : Hp) (v : V) (e : Nat × List Nat) : Prop := ∃ q z, v = .ref q ∧ H q = some (.tup [.int (e.1 : Int), .ref z]) ∧ H z = some (.tup (iv e.2))
theorem HistAt.same {H H' : Hp} {v : V} {e : Nat × List Nat} (s : SameT H H') (h : HistAt H v e) : HistAt H' v e := by
  obtain ⟨q, z, h1, h2, h3⟩ := h
  exact ⟨q, z, h1, s _ _ h2, s _ _ h3⟩
def sp_historyP (C : Addr) : Sp := fun vs H Q _ => ∃ (p : Addr) (t al : List Nat) (ps : List (Nat × Nat)), vs = [.ref p, .str (S t)] ∧ JoinsAt C H p al ps ∧ WF al.length ps ∧ ps.length ≤ 500 ∧ (∀ c ∈ t, c ∈ al) ∧ t.length ≤ 1000 ∧ al.length ≤ 1000 ∧
  ∀ H' q us, Same H H' → H' q = some (.tup us) → Paired (HistAt H') us (hist al.length ps (lets al t) ps.length) → Q (.ref q) H'
theorem WF.ne {b : Nat} {ps : List (Nat × Nat)} (h : WF b ps) {r : Nat} {p : Nat × Nat} (e : ps[r]? = some p) : b + r ≠ p.1 := by have := (h r p e).1; omega
section
variable {P : Program} {w : World} {K : PySem.W.Frag} {mg : Str → Option Value} {base : Heap}
theorem ok_check_number {f : Addr} {fd : FuncData} (F : C8.Fun K "check_number" "check_number" s_check_number f fd) (T : Txt K mg) (c_is_number_below : C8.Cal P w K mg base 2 "is_number_below" sp_is_number_below []) : FnOk P w K mg base C8.CX0 3 f fd ["number", "end"] sp_check_number := by
  refine C8.fn0 F sc_check_number (fun vs H Q E h => ?_) (fun cdv A outer s H vs Q E hr h => ?_)
  · obtain ⟨i, n, rfl, _⟩ := h; rfl
  · obtain ⟨i, n, rfl, h0, h1, q⟩ := h
    refine ⟨_, (pss_one (ps_if (pt_not (pt_val (C8.pe_c c_is_number_below hr (by first | decide | omega) (by rfl) (pa_cons (pv 0) (pa_cons (pv 1) pa_nil))))) (pss_one ps_never) pss_nil)), ?_⟩
    refine ⟨_, rfl, _, rfl, .int i, n, rfl, .int i, _, rfl, ?_⟩
    have e : numBelow (.int i) n = true := by show (decide (0 ≤ i) && decide (i < n)) = true; rw [decide_eq_true h0, decide_eq_true h1]; rfl
    rw [e]
    exact iteF q
theorem ok_len {f C : Addr} {fd : FuncData} (F : C8.Fun K "__len__" "Joins.__len__" s_Joins___len__ f fd) (T : Txt K mg) (J : JTxt K C) : FnOk P w K mg base C8.CX0 1 f fd ["self"] (sp_len C) := by
  refine C8.fn0 F sc_Joins___len__ (fun vs H Q E h => ?_) (fun cdv A outer s H vs Q E hr h => ?_)
  · obtain ⟨p, al, ps, rfl, _⟩ := h; rfl
  · obtain ⟨p, al, ps, rfl, ⟨dx, t, tx, d, e, ws, h1, h2, h3, h4, h5, h6⟩, q⟩ := h
    refine ⟨_, (pss_one (ps_ret (pe_callB call_len_seq (by rfl) T.b_len PySem.boot_len (pa_cons (pe_fld (pv 0) rfl) pa_nil)))), ?_⟩
    refine ⟨_, rfl, p, C, dx, _, _, rfl, h1, J.cl, J.n2, f5_pairs al t tx d e, t, ws, rfl, .inr (SqT.of h2), ?_⟩
    rw [h3.length]; exact q
end
end RJ
end

section
set_option maxRecDepth 100000
set_option maxHeartbeats 8000000
namespace RJ
open PySem PySem.Spec PyProof.Rows L2
abbrev s_check_cut : Stmt := top 41
abbrev N_check_cut : List Str := ["joins", "row"]
theorem sc_check_cut : FnScope N_check_cut ["joins", "row"] (C8.fnScope s_check_cut) := C8.fnScope_by (by decide +kernel)
/-- a row of pieces that is the cut of its text -/
def CutRow (al : List Nat) (ps : List (Nat × Nat)) (row : List Nat) : Prop := (∀ x ∈ row, x < al.length + ps.length) ∧ cutL al.length ps (lets al (textR (textsOf al ps) row)) = row
def sp_check_cut (C : Addr) : Sp := fun vs H Q _ => ∃ (p a : Addr) (b : Bool) (row al : List Nat) (ps : List (Nat × Nat)), vs = [.ref p, .ref a] ∧ JoinsAt C H p al ps ∧ Proper al ps ∧ al.Nodup ∧ al.length ≤ 400 ∧ ps.length ≤ 400 ∧ RowAt b H a row ∧ row.length ≤ 1000 ∧ CutRow al ps row ∧ ∀ H', Same H H' → Q .non H'
def sp_glued (C : Addr) : Sp := fun vs H Q _ => ∃ (p a c : Addr) (b d : Bool) (u v al : List Nat) (ps : List (Nat × Nat)), vs = [.ref p, .ref a, .ref c] ∧ JoinsAt C H p al ps ∧ Proper al ps ∧ al.Nodup ∧ al.length ≤ 400 ∧ ps.length ≤ 400 ∧ RowAt b H a u ∧ RowAt d H c v ∧ u.length ≤ 1000 ∧ v.length ≤ 1000 ∧ CutRow al ps u ∧ CutRow al ps v ∧
  (textR (textsOf al ps) u).length + (textR (textsOf al ps) v).length ≤ 1000 ∧ ∀ H' q, Same H H' → RowAt false H' q (cutL al.length ps (lets al (textR (textsOf al ps) u ++ textR (textsOf al ps) v))) → Q (.ref q) H'
theorem textR_in {al : List Nat} {ps : List (Nat × Nat)} {row : List Nat} : ∀ c ∈ textR (textsOf al ps) row, c ∈ al := fun c hc => by
  obtain ⟨t, hu1, hu2⟩ := List.mem_flatten.mp hc
  obtain ⟨i, _, rfl⟩ := List.mem_map.mp hu1
  rcases getD_mem_or (ts := textsOf al ps) (i := i) with m | m
  · exact textsOf_al _ m c hu2
  · rw [m] at hu2; cases hu2
def sp_besideG (C : Addr) : Sp := fun vs H Q _ => ∃ (y r pp tx : Addr) (us : List V) (al : List Nat) (ps : List (Nat × Nat)) (a b : Nat), vs = [.ref y, .ref r, .str (S al), .int (a : Int), .int (b : Int)] ∧ JoinsAt C H y al ps ∧ H r = some (.tup [.ref pp, .ref tx]) ∧ H pp = some (.lst us) ∧ PairsAt H us ps ∧ H tx = some (.lst (strV (textsOf al ps))) ∧ Proper al ps ∧ al.Nodup ∧ al.length ≤ 30 ∧ ps.length ≤ 100 ∧
  a < al.length + ps.length ∧ b < al.length + ps.length ∧ ∀ H', Same H H' → Q (.bl true) H'
theorem pair_cutG {al : List Nat} {ps : List (Nat × Nat)} (hnd : al.Nodup) (hprop : Proper al ps) {a b : Nat} (ha : a < al.length + ps.length) (hb : b < al.length + ps.length) :
    cutL al.length ps (lets al ((textsOf al ps).getD a [] ++ (textsOf al ps).getD b [])) = [a, b] ↔ ∀ r, ¬ Cross al.length ps a b r := by
  have hin : ∀ x ∈ [a, b], x < al.length + ps.length := fun x hx => by
    have : x = a ∨ x = b := by simpa using hx
    rcases this with e | e <;> omega
  have h1 := cut_row_iff (hprop.good hnd) hin
  rw [Dn_texts hnd hprop hin] at h1
  have e : textR (textsOf al ps) [a, b] = (textsOf al ps).getD a [] ++ (textsOf al ps).getD b [] := by
    show (([a, b].map fun i => (textsOf al ps).getD i []).flatten) = _
    simp
  rw [e] at h1
  rw [h1]
  constructor
  · intro h r; exact h (a, b) (by show (a, b) ∈ [(a, b)]; exact List.mem_cons_self ..) r
  · intro h q hq r
    have : q ∈ [(a, b)] := hq
    rw [List.mem_singleton.mp this]; exact h r
section
variable {P : Program} {w : World} {K : PySem.W.Frag} {mg : Str → Option Value} {base : Heap}
theorem ok_check_cut {f C : Addr} {fd : FuncData} (F : C8.Fun K "check_cut" "check_cut" s_check_cut f fd) (T : Txt K mg) (c_is_cut : C8.Cal P w K mg base 10 "is_cut" (sp_is_cut C) []) : FnOk P w K mg base C8.CX0 11 f fd ["joins", "row"] (sp_check_cut C) := by
  refine C8.fn0 F sc_check_cut (fun vs H Q E h => ?_) (fun cdv A outer s H vs Q E hr h => ?_)
  · obtain ⟨p, a, b, row, al, ps, rfl, _⟩ := h; rfl
  · obtain ⟨p, a, b, row, al, ps, rfl, hj, hprop, hnd, hal, hpl, hrow, hrl, hcut, q⟩ := h
    refine ⟨_, (pss_one (ps_if (pt_not (pt_val (C8.pe_c c_is_cut hr (by first | decide | omega) (by rfl) (pa_cons (pv 0) (pa_cons (pv 1) pa_nil))))) (pss_one ps_never) pss_nil)), ?_⟩
    refine ⟨_, rfl, _, rfl, p, a, b, castZ row, al, ps, rfl, hj, hprop, hnd, hal, hpl, by rw [castZ_iv]; exact hrow, by rw [castZ, List.length_map]; exact hrl, fun H1 k s1 hk => ?_⟩
    obtain rfl : k = true := hk.mpr ⟨row, rfl, hcut.1, hcut.2⟩
    exact ⟨_, rfl, iteF (q H1 s1)⟩
end
end RJ
end

section
set_option maxRecDepth 100000
set_option maxHeartbeats 4000000
namespace RJ
open PySem PySem.Spec PyProof.Rows L2
abbrev s_UnknownSign___init__ : Stmt := inClass (top 6) 0
abbrev N_UnknownSign___init__ : List Str := ["self", "sign", "at"]
theorem sc_UnknownSign___init__ : SupS N_UnknownSign___init__ ["self", "sign", "at"] (C8.fnScope s_UnknownSign___init__) := supS_of (by decide +kernel)
abbrev s_NoPiece___init__ : Stmt := inClass (top 5) 0
abbrev N_NoPiece___init__ : List Str := ["self", "piece"]
theorem sc_NoPiece___init__ : SupS N_NoPiece___init__ ["self", "piece"] (C8.fnScope s_NoPiece___init__) := supS_of (by decide +kernel)
abbrev s_InvalidNumber___init__ : Stmt := inClass (top 8) 0
abbrev N_InvalidNumber___init__ : List Str := ["self", "number"]
theorem sc_InvalidNumber___init__ : SupS N_InvalidNumber___init__ ["self", "number"] (C8.fnScope s_InvalidNumber___init__) := supS_of (by decide +kernel)
abbrev s_InvalidAlphabet___init__ : Stmt := inClass (top 3) 0
abbrev N_InvalidAlphabet___init__ : List Str := ["self", "alphabet"]
theorem sc_InvalidAlphabet___init__ : SupS N_InvalidAlphabet___init__ ["self", "alphabet"] (C8.fnScope s_InvalidAlphabet___init__) := supS_of (by decide +kernel)
abbrev s_NotProper___init__ : Stmt := inClass (top 4) 0
abbrev N_NotProper___init__ : List Str := ["self", "rank"]
theorem sc_NotProper___init__ : SupS N_NotProper___init__ ["self", "rank"] (C8.fnScope s_NotProper___init__) := supS_of (by decide +kernel)
/-- an error's __init__ that keeps one value, two values -/
def sp_err1 (C : Addr) (f1 : Str) (G : V → Prop) : Sp := fun vs H Q _ => ∃ (a : Addr) (x : V), vs = [.ref a, x] ∧ G x ∧ H a = some (exo a C none) ∧
  ∀ dx, H dx = none → dx ≠ a → Q .non (upd (upd H dx (exd dx [(f1, x)])) a (exo a C (some dx)))
def sp_err2 (C : Addr) (f1 f2 : Str) (G : V → V → Prop) : Sp := fun vs H Q _ => ∃ (a : Addr) (x y : V), vs = [.ref a, x, y] ∧ G x y ∧ H a = some (exo a C none) ∧
  ∀ dx, H dx = none → dx ≠ a → Q .non (upd (upd (upd H dx (exd dx [(f1, x)])) a (exo a C (some dx))) dx (exd dx [(f2, y), (f1, x)]))
/-- the error that is raised -/
def ErrAt (E : XK) (C : Addr) (H : Hp) (fs : List (Str × V)) : Prop := ∀ d H', Same H H' → H' d = some (.xd fs) → E (.ref C) (some d) H'
theorem ErrAt.same {E : XK} {C : Addr} {H H' : Hp} {fs : List (Str × V)} (h : ErrAt E C H fs) (s : Same H H') : ErrAt E C H' fs := fun d H2 s2 => h d H2 (s.trans s2)
theorem err_end {C a d : Addr} {H H2 : Hp} {fs : List (Str × V)} (ha : H a = none) (hd : H d = none) (hne : d ≠ a) (k : ∀ b o, b ≠ a → b ≠ d → H b = some o → H2 b = some o) : Same H (upd (del H2 a) d (.xd fs)) ∧ (upd (del H2 a) d (.xd fs)) d = some (.xd fs) := by
  refine ⟨fun b o e => ?_, upd_same⟩
  have h1 : b ≠ a := ne_of_none e ha
  have h2 : b ≠ d := ne_of_none e hd
  rw [upd_ne h2, del_ne h1]
  exact k b o h1 h2 e
theorem mk_err2 {C : Addr} {f1 f2 : Str} {G : V → V → Prop} {ta : TA} {σ : L2.St} {H : Hp} {Q : XK} {x y : V} (hg : G x y) (h : ta σ H fun vs H1 => vs = [x, y] ∧ ErrAt Q C H1 [(f2, y), (f1, x)]) (mono : ∀ {R R' : List V → Hp → Prop}, ta σ H R → (∀ vs H1, R vs H1 → R' vs H1) → ta σ H R') :
    tMkO C (sp_err2 C f1 f2 G) [] ta σ H Q := by
  refine mono h fun vs H1 hh => ?_
  obtain ⟨rfl, q⟩ := hh
  refine ⟨by show 2 ≤ 1000; decide, fun a ha => ⟨a, x, y, rfl, hg, upd_same, fun dx hdx hne => ?_⟩⟩
  rw [upd_ne hne] at hdx
  have e0 := err_end (C := C) (H2 := upd (upd (upd (upd H1 a (exo a C none)) dx (exd dx [(f1, x)])) a (exo a C (some dx))) dx (exd dx [(f2, y), (f1, x)])) (fs := [(f2, y), (f1, x)]) ha hdx hne fun b o h1 h2 e => by
    rw [upd_ne h2, upd_ne h1, upd_ne h2, upd_ne h1]; exact e
  exact ⟨rfl, dx, _, (upd_ne (Ne.symm hne)).trans upd_same, upd_same, hdx, q dx _ e0.1 e0.2⟩
theorem mk_err1 {C : Addr} {f1 : Str} {G : V → Prop} {ta : TA} {σ : L2.St} {H : Hp} {Q : XK} {x : V} (hg : G x) (h : ta σ H fun vs H1 => vs = [x] ∧ ErrAt Q C H1 [(f1, x)]) (mono : ∀ {R R' : List V → Hp → Prop}, ta σ H R → (∀ vs H1, R vs H1 → R' vs H1) → ta σ H R') :
    tMkO C (sp_err1 C f1 G) [] ta σ H Q := by
  refine mono h fun vs H1 hh => ?_
  obtain ⟨rfl, q⟩ := hh
  refine ⟨by show 1 ≤ 1000; decide, fun a ha => ⟨a, x, rfl, hg, upd_same, fun dx hdx hne => ?_⟩⟩
  rw [upd_ne hne] at hdx
  have e0 := err_end (C := C) (H2 := upd (upd (upd H1 a (exo a C none)) dx (exd dx [(f1, x)])) a (exo a C (some dx))) (fs := [(f1, x)]) ha hdx hne fun b o h1 h2 e => by
    rw [upd_ne h1, upd_ne h2, upd_ne h1]; exact e
  exact ⟨rfl, dx, _, upd_same, (upd_ne hne).trans upd_same, hdx, q dx _ e0.1 e0.2⟩
theorem repr_sign {c : Nat} (h : c < 1114112) : (reprText (S [c])).length ≤ 12 := by
  have := PySem.StrLaws.reprText_len (S [c]) (fun x hx => by
    have hx' : x ∈ [c] := hx
    obtain rfl := List.mem_singleton.mp hx'
    have : (16 : Nat) ^ 8 = 4294967296 := by decide
    omega)
  rw [S_len] at this
  exact this
/-- a sign and a place -/
def gSign (x y : V) : Prop := ∃ c i : Nat, x = .str (S [c]) ∧ y = .int (i : Int) ∧ c < 1114112 ∧ i ≤ 1000
theorem int_len {i : Nat} (h : i ≤ 1000) : (Str.ofString (toString (i : Int))).length ≤ 100 := by
  have : ∀ i : Nat, i ≤ 1000 → (Str.ofString (toString (i : Int))).length ≤ 100 := by
    intro i hi
    have e : toString ((i : Nat) : Int) = toString i := rfl
    rw [SX.num_S, S_len]
    by_cases h0 : i = 0
    · subst h0; decide
    · exact Nat.le_trans (TL.numL_len (n := i) (k := 4) (by decide) (by omega)) (by decide)
  exact this i h
section
variable {P : Program} {w : World} {K : PySem.W.Frag} {mg : Str → Option Value} {base : Heap}
theorem ok_UnknownSign {f C : Addr} {fd : FuncData} (F : SupF P K C "UnknownSign.__init__" s_UnknownSign___init__ f fd) (T : Txt K mg) (hm : mg "super" = none) (n1 : PySem.W.findIn K (.ref C) "sign" = some none) (n2 : PySem.W.findIn K (.ref C) "at" = some none) :
    FnOk P w K mg base C8.CX0 1 f fd ["self", "sign", "at"] (sp_err2 C "sign" "at" gSign) := by
  refine fn_super F hm sc_UnknownSign___init__ rfl rfl rfl (fun vs H Q E h => ?_) (fun vs H Q E h => ?_) (fun _ => rfl) (fun _ => rfl) (fun _ _ => rfl) (fun cda cc A outer s H vs Q E hr h => ?_)
  · obtain ⟨a, x, y, rfl, _⟩ := h; rfl
  · obtain ⟨a, x, y, rfl, _, ea, _⟩ := h; exact ⟨a, _, rfl, ea⟩
  · obtain ⟨a, x, y, rfl, ⟨c, i, rfl, rfl, hc, hi⟩, ea, q⟩ := h
    have nd : N_UnknownSign___init__.Nodup := sc_UnknownSign___init__.nd
    refine ⟨_, _, (pa_cons (pe_joined (PJ.cons pe_str (PJ.cons (pe_fmtR (pv 1)) (PJ.cons pe_str (PJ.cons (pe_fmtR (pv 2)) PJ.nil))))) pa_nil), (pss_cons (ps_ost (pv 0) (pv 1))
      (pss_one (ps_ost (pv 0) (pv 2)))), ?_, ?_⟩
    · have h1 := repr_sign hc
      have h2 := int_len hi
      have hsl : sizeLine = 16777216 := sizeLine_eq
      refine ⟨_, rfl, ?_, ⟨_, rfl, .inl ⟨S [c], rfl, by omega, ⟨_, rfl, ?_, ⟨_, rfl, ?_, ⟨_, rfl, .inr ⟨(i : Int), rfl, ?_, ⟨_, rfl, ?_, ⟨rfl, by show 1 ≤ 1000; decide⟩⟩⟩⟩⟩⟩⟩⟩⟩
      · decide
      · rw [PySem.Str.length_append]
        have c1 : (Str.empty ++ Str.ofString "no letter: ").length = 11 := by decide
        omega
      · rw [PySem.Str.length_append, PySem.Str.length_append]
        have c1 : (Str.empty ++ Str.ofString "no letter: ").length = 11 := by decide
        have c2 : (Str.ofString " at ").length = 4 := by decide
        omega
      · rw [Int.natAbs_natCast]
        exact Nat.lt_of_le_of_lt (Nat.log2_le_self i) (by omega)
      · rw [PySem.Str.length_append, PySem.Str.length_append, PySem.Str.length_append]
        have c1 : (Str.empty ++ Str.ofString "no letter: ").length = 11 := by decide
        have c2 : (Str.ofString " at ").length = 4 := by decide
        omega
    · refine ⟨.str (S [c]), rfl, .ref a, rfl, a, C, rfl, F.oex, n1, .inl ⟨ea, fun dx hdx hne => ?_⟩⟩
      exact ⟨.int (i : Int), rfl, .ref a, rfl, a, C, rfl, F.oex, n2, .inr ⟨dx, _, upd_same, (upd_ne hne).trans upd_same, by show 1 ≤ 900; decide, q dx hdx hne⟩⟩
end
end RJ
end

section
set_option maxRecDepth 100000
set_option maxHeartbeats 4000000
namespace RJ
open PySem PySem.Spec PyProof.Rows L2
/-- the first sign that is no letter -/
def FirstBad (al t : List Nat) (i c : Nat) : Prop := t[i]? = some c ∧ c ∉ al ∧ ∀ x ∈ t.take i, x ∈ al
def sp_letter_rowX (CU : Addr) : Sp := fun vs H _ E => ∃ (al t : List Nat) (i c : Nat), vs = [.str (S al), .str (S t)] ∧ FirstBad al t i c ∧ t.length ≤ 1000 ∧ c < 1114112 ∧ ErrAt E CU H [("at", .int (i : Int)), ("sign", .str (S [c]))]
def sp_letters_ofX (C CU : Addr) : Sp := fun vs H _ E => ∃ (p : Addr) (t al : List Nat) (ps : List (Nat × Nat)) (i c : Nat), vs = [.ref p, .str (S t)] ∧ JoinsAt C H p al ps ∧ FirstBad al t i c ∧ t.length ≤ 1000 ∧ c < 1114112 ∧ ErrAt E CU H [("at", .int (i : Int)), ("sign", .str (S [c]))]
theorem find_none {al : List Nat} {c : Nat} (h : c ∉ al) : Txt.find (S al) ⟨#[c]⟩ = -1 := by
  have e := SX.in_one al c
  rw [decide_eq_false h] at e
  have e2 : Builtin.Str.occurrences (S al) ⟨#[c]⟩ 0 (S al).length 1 = [] := by
    have e3 : (Builtin.Str.occurrences (SX.S al) (SX.S [c]) 0 (SX.S al).length 1).isEmpty = true := by
      cases z : (Builtin.Str.occurrences (SX.S al) (SX.S [c]) 0 (SX.S al).length 1).isEmpty with
      | true => rfl
      | false => rw [z] at e; cases e
    exact List.isEmpty_iff.mp e3
  unfold Txt.find
  rw [e2]
theorem FirstBad.lt {al t : List Nat} {i c j d : Nat} (h : FirstBad al t i c) (hd : t[j]? = some d) (hdl : d ∉ al) (hj : ∀ x ∈ t.take j, x ∈ al) : j = i ∧ d = c := by
  obtain ⟨h1, h2, h3⟩ := h
  have : j = i := by
    rcases Nat.lt_trichotomy j i with z | z | z
    · exact absurd (h3 d (List.mem_of_getElem? (by rw [List.getElem?_take_of_lt z]; exact hd))) hdl
    · exact z
    · exact absurd (hj c (List.mem_of_getElem? (by rw [List.getElem?_take_of_lt z]; exact h1))) h2
  subst this
  rw [h1] at hd
  exact ⟨rfl, (Option.some.inj hd).symm⟩
section
variable {P : Program} {w : World} {K : PySem.W.Frag} {mg : Str → Option Value} {base : Heap}
theorem ok_letter_rowX {f CUnknownSign : Addr} {fd : FuncData} (F : C8.Fun K "letter_row" "letter_row" s_letter_row f fd) (T : Txt K mg) (eUnknownSign : ErrC P w K mg base "UnknownSign" CUnknownSign (sp_err2 CUnknownSign "sign" "at" gSign)) : FnOk P w K mg base (CXN P w) 3 f fd ["alphabet", "text"] (sp_letter_rowX CUnknownSign) := by
  refine fnX F sc_letter_row (fun vs H Q E h => ?_) (fun cdv A outer s H vs Q E hr h tk => ?_)
  · obtain ⟨al, t, i, c, rfl, _⟩ := h; rfl
  · obtain ⟨al, t, i, c, rfl, hb, hl, hc, q⟩ := h
    refine ⟨_, (pss_cons (ps_set (i := 2) sc_letter_row.nd rfl (Or.inl rfl) (pe_lst pa_nil))
      (pss_cons (ps_for (L2.passes_of rfl) rfl (pi_enumG rfl T.b_enumerate (pa_cons (pv 1) pa_nil)) (pg_tup rfl (pgs_cons (pg_name (i := 3) sc_letter_row.nd rfl (Or.inl rfl)) (pgs_cons (pg_name (i := 4) sc_letter_row.nd rfl (Or.inl rfl)) pgs_nil))) (pss_cons (ps_set (i := 5) sc_letter_row.nd rfl (Or.inl rfl) (pe_bm PySem.F.plainAttrs_str PySem.F.slot_str_find PySem.F.type_str_find mt_find (pv 0) (pa_cons (pv 4) pa_nil)))
      (pss_cons (ps_if (pt_cmpR op_lt (pv 5) pe_int (nomark _)) (pss_one (L2N.ps_raise rfl tk (pmk_err eUnknownSign hr (by first | decide | omega) (by rfl) (pa_cons (pv 4) (pa_cons (pv 3) pa_nil))))) pss_nil)
      (pss_one (ps_expr (pe_bm PySem.F.plainAttrs_list PySem.F.slot_list_append PySem.F.type_list_append mt_append (pv 2) (pa_cons (pv 5) pa_nil)))))))
      (pss_one (ps_ret (pv 2))))), ?_⟩
    refine ⟨by show (0 : Nat) ≤ sizeLine; exact Nat.zero_le _, fun p hp => ?_⟩
    have hil : i < t.length := (List.getElem?_eq_some_iff.mp hb.1).1
    refine ⟨_, rfl, _, _, _, _, rfl, src_text _ t, for_it walkG (fun j σ H' => ∃ v3 v4 v5 : Option V, σ = [some (.str (S al)), some (.str (S t)), some (.ref p), v3, v4, v5] ∧ Same H H' ∧ H' p = some (.lst (iv (lets al (t.take j)))) ∧ ∀ x ∈ t.take j, x ∈ al) ⟨none, none, none, rfl, same_new hp, upd_same, fun x hx => absurd hx (by simp)⟩ (fun _ _ _ _ _ => trivial) ?_ ?_⟩
    · rintro j x σ H1 H2 hj ⟨v3, v4, v5, rfl, s1, hd, hin⟩ ⟨Tt, xs, rfl, hT, rfl, v, ⟨d, hdd, rfl⟩, rfl⟩
      rw [S_get] at hdd
      refine ⟨Tt, _, rfl, SqT.of upd_same, rfl, _, _, rfl, _, _, rfl, rfl, ?_⟩
      refine ⟨_, rfl, rfl, _, rfl, S al, ⟨#[d]⟩, rfl, rfl, ?_⟩
      have hne : p ≠ Tt := ne_of_none hd hT
      have hd2 : upd H1 Tt (.tup [.int (j : Int), .str ⟨#[d]⟩]) p = some (.lst (iv (lets al (t.take j)))) := (upd_ne hne).trans hd
      by_cases hdl : d ∈ al
      · obtain ⟨r, hfind⟩ := find_sign hdl
        have hf : Txt.find (S al) ⟨#[d]⟩ = (al.idxOf d : Int) := by unfold Txt.find; rw [hfind]
        rw [hf]
        refine ⟨_, rfl, _, _, rfl, rfl, _, rfl, ?_⟩
        rw [decide_eq_false (by omega : ¬ (al.idxOf d : Int) < 0)]
        refine iteF ?_
        refine ⟨_, rfl, .inl ⟨rfl, _, SqL.of hd2⟩, _, rfl, p, _, _, rfl, rfl, hd2, ?_, ?_⟩
        · rw [iv_len, lets, List.length_map, List.length_take]
          exact small1000 (by omega)
        · refine ⟨_, _, _, rfl, Same.put (Same.new s1 hT) hp, ?_, fun x hx => ?_⟩
          · rw [upd_same, iv_snoc, lets, lets, map_take_succ hdd]
          · rw [List.take_add_one, hdd] at hx
            rcases List.mem_append.mp hx with z | z
            · exact hin x z
            · obtain rfl : x = d := by simpa using z
              exact hdl
      · obtain ⟨rfl, rfl⟩ := hb.lt hdd hdl hin
        rw [find_none hdl]
        refine ⟨_, rfl, _, _, rfl, rfl, _, rfl, ?_⟩
        rw [decide_eq_true (by decide : (-1 : Int) < 0)]
        refine iteT (mk_err2 (x := .str (S [d])) (y := .int (j : Int)) ⟨d, j, rfl, rfl, hc, by omega⟩ ⟨_, rfl, _, rfl, rfl, q.same (Same.new s1 hT)⟩ fun h1 h2 => ?_)
        obtain ⟨a1, e1, a2, e2, h1⟩ := h1
        exact ⟨a1, e1, a2, e2, h2 _ _ h1⟩
    · rintro σ H1 ⟨v3, v4, v5, rfl, s1, hd, hin⟩
      rw [List.take_length] at hin
      exact absurd (hin c (List.mem_of_getElem? hb.1)) hb.2.1
end
end RJ
end

section
set_option maxRecDepth 100000
set_option maxHeartbeats 4000000
namespace RJ
open PySem PySem.Spec PyProof.Rows L2
abbrev s__law_alone : Stmt := top 59
abbrev N__law_alone : List Str := ["e", "kind", "kinds", "one"]
theorem sc__law_alone : FnScope N__law_alone ["e", "kind"] (C8.fnScope s__law_alone) := C8.fnScope_by (by decide +kernel)
/-- an error that is of its own kind alone: a def that is given the error -/
def sp_alone (CE : Addr) (kk : Nat) (a : Addr) (cls : Value) (d : Option Addr) : Sp := fun vs H Q _ => ∃ (dd : Addr) (fs : List (Str × V)), vs = [.ref a, .int (kk : Int)] ∧ cls = .ref CE ∧ d = some dd ∧ H dd = some (.xd fs) ∧ kk < 4 ∧ ∀ H', Same H H' → Q (.bl true) H'
def sp_tailsX (C CU : Addr) : Sp := fun vs H _ E => ∃ (p : Addr) (t al : List Nat) (ps : List (Nat × Nat)) (i c : Nat), vs = [.ref p, .str (S t)] ∧ JoinsAt C H p al ps ∧ Proper al ps ∧ al.length ≤ 400 ∧ ps.length ≤ 400 ∧ FirstBad al t i c ∧ t.length ≤ 1000 ∧ c < 1114112 ∧ ErrAt E CU H [("at", .int (i : Int)), ("sign", .str (S [c]))]
def sp_refusedT (C : Addr) : Sp := fun vs H Q _ => ∃ (p wr : Addr) (t al : List Nat) (ps : List (Nat × Nat)) (i c : Nat), vs = [.ref p, .ref wr] ∧ H wr = some (.tup [.str (S t), .str (S [c]), .int (i : Int)]) ∧ JoinsAt C H p al ps ∧ Proper al ps ∧ al.length ≤ 400 ∧ ps.length ≤ 400 ∧ FirstBad al t i c ∧ t.length ≤ 1000 ∧ c < 1114112 ∧ ∀ H', Same H H' → Q (.bl true) H'
section
variable {P : Program} {w : World} {K : PySem.W.Frag} {mg : Str → Option Value} {base : Heap}
theorem ok_alone {f CE CUnknownSign CInvalidNumber CNoPiece CNotCut CInvalidAlphabet CInvalidModel CInvalidText CNoChance CNotProper : Addr} {fd : FuncData} {kk : Nat} (F : C8.Fun K "_law_alone" "_law_alone" s__law_alone f fd) (T : Txt K mg)
    (GUnknownSign : mg "UnknownSign" = some (.ref CUnknownSign)) (GInvalidNumber : mg "InvalidNumber" = some (.ref CInvalidNumber)) (GNoPiece : mg "NoPiece" = some (.ref CNoPiece)) (GNotCut : mg "NotCut" = some (.ref CNotCut))
    (GInvalidAlphabet : mg "InvalidAlphabet" = some (.ref CInvalidAlphabet)) (GInvalidModel : mg "InvalidModel" = some (.ref CInvalidModel)) (GInvalidText : mg "InvalidText" = some (.ref CInvalidText)) (GNoChance : mg "NoChance" = some (.ref CNoChance)) (GNotProper : mg "NotProper" = some (.ref CNotProper))
    (eiE : ErrI K CE) (o0 : PySem.W.kitOne K (.ref CE) (.ref CUnknownSign) = some (kk == 0)) (o1 : PySem.W.kitOne K (.ref CE) (.ref CInvalidNumber) = some (kk == 1)) (o2 : PySem.W.kitOne K (.ref CE) (.ref CNoPiece) = some (kk == 2)) (o3 : PySem.W.kitOne K (.ref CE) (.ref CNotCut) = some (kk == 3))
    (oV : PySem.W.kitOne K (.ref CE) (.type "ValueError") = some true) (oA : PySem.W.kitAny K (.ref CE) [.ref CInvalidAlphabet, .ref CInvalidModel, .ref CInvalidText, .ref CNoChance, .ref CNotProper] = some false)
    (p : Addr × Obj) (cls : Value) (d : Option Addr) (hz : Zc cls d p.2) (hf : ∃ vs, p.2.data = .fields vs) : FnE P w K mg base 1 f fd ["e", "kind"] p (sp_alone CE kk p.1 cls d) := by
  refine fnE0 F sc__law_alone (fun vs H Q E h => ?_) (fun cdv A outer s H vs Q E hr h hot hp => ?_)
  · obtain ⟨dd, fs, rfl, _⟩ := h; rfl
  · obtain ⟨dd, fs, rfl, rfl, rfl, hd, hkk, q⟩ := h
    refine ⟨_, (pss_cons (ps_set (i := 2) sc__law_alone.nd rfl (Or.inl rfl) (pe_lst (pa_cons (pe_callB (call_isP hp hz hf) (by rfl) T.b_isinstance (by decide +kernel) (pa_cons (pv 0) (pa_cons (pe_glob (v := .ref CUnknownSign) rfl GUnknownSign rfl) pa_nil))) (pa_cons (pe_callB (call_isP hp hz hf) (by rfl) T.b_isinstance (by decide +kernel) (pa_cons (pv 0) (pa_cons (pe_glob (v := .ref CInvalidNumber) rfl GInvalidNumber rfl) pa_nil))) (pa_cons (pe_callB (call_isP hp hz hf) (by rfl) T.b_isinstance (by decide +kernel) (pa_cons (pv 0) (pa_cons (pe_glob (v := .ref CNoPiece) rfl GNoPiece rfl) pa_nil))) (pa_cons (pe_callB (call_isP hp hz hf) (by rfl) T.b_isinstance (by decide +kernel) (pa_cons (pv 0) (pa_cons (pe_glob (v := .ref CNotCut) rfl GNotCut rfl) pa_nil))) pa_nil))))))
      (pss_cons (ps_if (pt_val (pe_callB (call_isPT hp hz hf) (by rfl) T.b_isinstance (by decide +kernel) (pa_cons (pv 0) (pa_cons (pe_tup (pa_cons (pe_glob (v := .ref CInvalidAlphabet) rfl GInvalidAlphabet rfl) (pa_cons (pe_glob (v := .ref CInvalidModel) rfl GInvalidModel rfl) (pa_cons (pe_glob (v := .ref CInvalidText) rfl GInvalidText rfl) (pa_cons (pe_glob (v := .ref CNoChance) rfl GNoChance rfl) (pa_cons (pe_glob (v := .ref CNotProper) rfl GNotProper rfl) pa_nil)))))) pa_nil)))) (pss_one (ps_ret pe_bl)) pss_nil)
      (pss_one (ps_ret (pe_and (pe_callB (call_isP hp hz hf) (by rfl) T.b_isinstance (by decide +kernel) (pa_cons (pv 0) (pa_cons (pe_bltn (v := .ty "ValueError") (u := .type "ValueError") rfl T.b_ValueError (by decide +kernel) rfl) pa_nil))) (pe_and (pe_ix ix_list (pv 2) (pv 1) (fun _ _ => rfl)) (pe_one (pe_cmpR op_eq (pe_callB call_len_seq (by rfl) T.b_len PySem.boot_len (pa_cons (pe_lcH (E := C8.E0) (own := [("one", 3)]) (g := gName 3)  rfl rfl takes0 hot sc__law_alone.nd (pi_listHL (pv 2)) (blkOk_by (N := N__law_alone) (sc := C8.fnScope s__law_alone) (by decide +kernel)) (fun _ _ _ _ _ _ => (pg_name (i := 3) sc__law_alone.nd rfl (Or.inl rfl))) (fun _ _ _ _ _ _ hB => pts_one (pt_val (pv 3))) (fun _ _ _ _ _ _ hB => (pv 3))) pa_nil)) pe_int (nomark _))))))))), ?_⟩
    refine ⟨_, rfl, CE, dd, _, _, _, _, rfl, rfl, eiE, hd, rfl, rel_ref, o0, ?_⟩
    refine ⟨_, rfl, CE, dd, _, _, _, _, rfl, rfl, eiE, hd, rfl, rel_ref, o1, ?_⟩
    refine ⟨_, rfl, CE, dd, _, _, _, _, rfl, rfl, eiE, hd, rfl, rel_ref, o2, ?_⟩
    refine ⟨_, rfl, CE, dd, _, _, _, _, rfl, rfl, eiE, hd, rfl, rel_ref, o3, ?_⟩
    refine ⟨by show 4 ≤ sizeLine; decide, fun z hz => ?_⟩
    have s1 := same_new (o := .lst [.bl (kk == 0), .bl (kk == 1), .bl (kk == 2), .bl (kk == 3)]) hz
    have hz1 : (upd H z (.lst [.bl (kk == 0), .bl (kk == 1), .bl (kk == 2), .bl (kk == 3)])) z = some (.lst ([kk == 0, kk == 1, kk == 2, kk == 3].map V.bl)) := upd_same
    generalize upd H z (.lst [.bl (kk == 0), .bl (kk == 1), .bl (kk == 2), .bl (kk == 3)]) = H1 at s1 hz1 ⊢
    obtain ⟨ks, hks⟩ : ∃ ks, ks = [kk == 0, kk == 1, kk == 2, kk == 3] := ⟨_, rfl⟩
    rw [← hks] at hz1
    refine ⟨_, rfl, by show 5 ≤ sizeLine; decide, fun tp htp => ?_⟩
    have s2 := Same.new (o := .tup [.ref CInvalidAlphabet, .ref CInvalidModel, .ref CInvalidText, .ref CNoChance, .ref CNotProper]) s1 htp
    have ht1 : (upd H1 tp (.tup [.ref CInvalidAlphabet, .ref CInvalidModel, .ref CInvalidText, .ref CNoChance, .ref CNotProper])) tp = some (.tup [.ref CInvalidAlphabet, .ref CInvalidModel, .ref CInvalidText, .ref CNoChance, .ref CNotProper]) := upd_same
    have hz2 := (same_new (o := .tup [.ref CInvalidAlphabet, .ref CInvalidModel, .ref CInvalidText, .ref CNoChance, .ref CNotProper]) htp) _ _ hz1
    generalize upd H1 tp (.tup [.ref CInvalidAlphabet, .ref CInvalidModel, .ref CInvalidText, .ref CNoChance, .ref CNotProper]) = H2 at s2 ht1 hz2 ⊢
    refine ⟨CE, dd, tp, _, _, [.ref CInvalidAlphabet, .ref CInvalidModel, .ref CInvalidText, .ref CNoChance, .ref CNotProper], _, rfl, rfl, eiE, s2 _ _ hd, rfl, ht1, fun us hv => ?_, oA, false, rfl, iteF ?_⟩
    · match us, hv with
      | _, .cons h1 (.cons h2 (.cons h3 (.cons h4 (.cons h5 .nil)))) =>
        cases (show _ = Value.ref CInvalidAlphabet from h1)
        cases (show _ = Value.ref CInvalidModel from h2)
        cases (show _ = Value.ref CInvalidText from h3)
        cases (show _ = Value.ref CNoChance from h4)
        cases (show _ = Value.ref CNotProper from h5)
        rfl
    refine ⟨_, rfl, CE, dd, _, _, _, _, rfl, rfl, eiE, s2 _ _ hd, rfl, rel_ty, oV, true, rfl, iteT ?_⟩
    have hat : atI (ks.map V.bl) (kk : Int) = some (.bl true) := by
      refine atI_nat ?_
      rw [hks]
      match kk, hkk with
      | 0, _ => rfl
      | 1, _ => rfl
      | 2, _ => rfl
      | 3, _ => rfl
    refine ⟨_, rfl, _, rfl, z, _, _, _, rfl, rfl, SqL.of hz2, hat, true, rfl, iteT ?_⟩
    refine ⟨_, rfl, z, rfl, ⟨_, SqL.of hz2⟩, fun D hD => lc_it walk_list (fun i H' => Same H2 H' ∧ H' D = some (.lst (((ks.take i).filter id).map V.bl))) ⟨same_new hD, upd_same⟩ (fun i H' _ ⟨s', _⟩ => SqL.of (s' _ _ hz2)) ?_ ?_⟩
    · rintro i x Ha Hb hi ⟨sb, hDb⟩ ⟨rfl, hx⟩
      rw [List.getElem?_map] at hx
      obtain ⟨b, hb, rfl⟩ := Option.map_eq_some_iff.mp hx
      refine ⟨rfl, _, rfl, b, rfl, ?_⟩
      have hl4 : ks.length = 4 := by rw [hks]; rfl
      have hfl : (((ks.take i).filter id).map V.bl).length ≤ 4 := by
        rw [List.length_map]
        refine Nat.le_trans (List.length_filter_le _ _) ?_
        rw [List.length_take]; omega
      have htk : (ks.take (i + 1)).filter id = (ks.take i).filter id ++ (if b = true then [b] else []) := by
        rw [List.take_add_one, hb, List.filter_append]
        cases b <;> rfl
      cases b with
      | true =>
        refine iteT ⟨_, rfl, _, hDb, small1000 (by omega), Same.put sb hD, ?_⟩
        rw [upd_same, htk, List.map_append]; rfl
      | false =>
        refine iteF ⟨sb, ?_⟩
        rw [htk, if_neg (by decide), List.append_nil]; exact hDb
    · rintro H3 ⟨s3, h3⟩
      rw [List.length_map, List.take_length] at h3
      refine ⟨D, _, rfl, .inl (SqL.of h3), rfl, ?_⟩
      have h1 : (((ks.filter id).map V.bl).length : Int) = 1 := by
        rw [hks, List.length_map]
        match kk, hkk with
        | 0, _ => rfl
        | 1, _ => rfl
        | 2, _ => rfl
        | 3, _ => rfl
      rw [h1, decide_eq_true rfl]
      exact q _ (s2.trans s3)
end
end RJ
end

section
set_option maxRecDepth 100000
set_option maxHeartbeats 4000000
namespace RJ
open PySem PySem.Spec PyProof.Rows L2

theorem cutS_uptoQ (l : List Nat) (k : Nat) : cutS (S l) none (some (k : Int)) = S (l.take k) := by
  show (⟨(((S l).cps.toList.drop (HT.sIx (S l).length 0 none)).take (HT.sIx (S l).length (S l).length (some (k : Int)) - HT.sIx (S l).length 0 none)).toArray⟩ : Str) = ⟨(l.take k).toArray⟩
  rw [HT.sIx_nat, HT.sIx_none, S_len]
  have e : (l.drop 0).take (min k l.length - 0) = l.take k := by
    rw [List.drop_zero, Nat.sub_zero]
    by_cases h : k ≤ l.length
    · rw [Nat.min_eq_left h]
    · rw [Nat.min_eq_right (by omega), List.take_length, List.take_of_length_le (by omega)]
  exact congrArg (fun z : List Nat => (⟨z.toArray⟩ : Str)) e
theorem SG_smallB : ∀ c ∈ SG, c < 127 := by decide +kernel
theorem pigeonB : ∀ {l : List Nat}, l.Nodup → ∀ al : List Nat, (∀ x ∈ l, x ∈ al) → l.length ≤ al.length
  | [], _, _, _ => Nat.zero_le _
  | x :: l, hn, al, h => by
    have hx := h x (List.mem_cons_self ..)
    rw [List.nodup_cons] at hn
    have := pigeonB hn.2 (al.erase x) fun y hy => (List.mem_erase_of_ne (fun e => hn.1 (by rw [← e]; exact hy))).mpr (h y (List.mem_cons_of_mem _ hy))
    rw [List.length_erase_of_mem hx] at this
    have := List.length_pos_of_mem hx
    rw [List.length_cons]; omega
def sp_strangerB : Sp := fun vs H Q _ => ∃ (p : Addr) (al : List Nat), vs = [.ref p, .str (S al)] ∧ PoolAt p H ∧ al.length ≤ 30 ∧ ∀ (H' : Hp) (c : Nat), PSame p H H' → c ∉ al → c < 127 → Q (.str (S [c])) H'
def sp_withB : Sp := fun vs H Q _ => ∃ (p : Addr) (al t : List Nat), vs = [.ref p, .str (S al), .str (S t)] ∧ PoolAt p H ∧ al.length ≤ 30 ∧ (∀ c ∈ t, c ∈ al) ∧ t.length ≤ 400 ∧
  ∀ (H' : Hp) (wr : Addr) (u : List Nat) (i c : Nat), PSame p H H' → H' wr = some (.tup [.str (S u), .str (S [c]), .int (i : Int)]) → FirstBad al u i c → u.length ≤ t.length + 2 → c < 127 → Q (.ref wr) H'
section
variable {P : Program} {w : World} {K : PySem.W.Frag} {mg : Str → Option Value} {base : Heap}
theorem firstBad_ins {al u : List Nat} {i c k d : Nat} (h : FirstBad al u i c) (hk : i < k) : FirstBad al (u.take k ++ [d] ++ u.drop k) i c := by
  obtain ⟨h1, h2, h3⟩ := h
  have hil := (List.getElem?_eq_some_iff.mp h1).1
  have hl : i < (u.take k).length := by rw [List.length_take]; omega
  refine ⟨?_, h2, fun x hx => ?_⟩
  · rw [List.append_assoc, List.getElem?_append_left hl, List.getElem?_take_of_lt hk]; exact h1
  · rw [List.append_assoc, List.take_append_of_le_length (Nat.le_of_lt hl), List.take_take, Nat.min_eq_left (Nat.le_of_lt hk)] at hx
    exact h3 x hx
end
end RJ
end

section
set_option maxRecDepth 100000
set_option maxHeartbeats 8000000
namespace RJ
open PySem PySem.Spec PyProof.Rows L2
abbrev s_NotCut___init__ : Stmt := inClass (top 9) 0
abbrev N_NotCut___init__ : List Str := ["self", "row"]
theorem sc_NotCut___init__ : SupS N_NotCut___init__ ["self", "row"] (C8.fnScope s_NotCut___init__) := supS_of (by decide +kernel)

theorem len_flat {ts : List (List Nat)} {t : List Nat} (h : t ∈ ts) : t.length ≤ ts.flatten.length := by
  induction ts with
  | nil => cases h
  | cons a ts ih =>
    rw [List.flatten_cons, List.length_append]
    rcases List.mem_cons.mp h with rfl | h
    · omega
    · have := ih h; omega
theorem strV_mem {ts : List (List Nat)} {i : Nat} {x : V} (h : (strV ts)[i]? = some x) : ∃ t, ts[i]? = some t ∧ x = .str (S t) := by
  unfold strV at h
  rw [List.getElem?_map] at h
  obtain ⟨t, ht, e⟩ := Option.map_eq_some_iff.mp h
  exact ⟨t, ht, e.symm⟩
/-- what a row of an error may hold -/
def OddInts (zs : List Int) : Prop := ∀ i ∈ zs, -2 ≤ i ∧ i ≤ 2000
theorem odd_len {i : Int} (h : -2 ≤ i ∧ i ≤ 2000) : i.natAbs.log2 < 1920 ∧ (Str.ofString (toString i)).length ≤ 100 := by
  rcases Int.lt_or_le i 0 with c | c
  · have : i = -1 ∨ i = -2 := by omega
    rcases this with rfl | rfl
    · exact ⟨by decide +kernel, by decide +kernel⟩
    · exact ⟨by decide +kernel, by decide +kernel⟩
  · obtain ⟨n, rfl⟩ := Int.eq_ofNat_of_zero_le c
    have hn : n ≤ 2000 := by omega
    refine ⟨?_, ?_⟩
    · show (n : Int).natAbs.log2 < 1920
      rw [Int.natAbs_natCast]
      by_cases h0 : n = 0
      · subst h0; decide
      · exact Nat.lt_trans ((Nat.log2_lt h0).mpr (Nat.lt_of_le_of_lt hn (by decide +kernel : 2000 < 2 ^ 200))) (by decide)
    · have e : toString ((n : Nat) : Int) = toString n := rfl
      show (Str.ofString (toString (n : Int))).length ≤ 100
      rw [SX.num_S, S_len]
      by_cases h0 : n = 0
      · subst h0; decide
      · exact Nat.le_trans (TL.numL_len (n := n) (k := 4) (by decide) (by omega)) (by decide)
/-- an error's __init__ that keeps a tuple of numbers -/
def sp_errT (C : Addr) (f1 : Str) : Sp := fun vs H Q _ => ∃ (a z : Addr) (zs : List Int), vs = [.ref a, .ref z] ∧ H z = some (.tup (zs.map V.int)) ∧ OddInts zs ∧ zs.length ≤ 1000 ∧ H a = some (exo a C none) ∧
  ∀ dx, H dx = none → dx ≠ a → Q .non (upd (upd H dx (exd dx [(f1, .ref z)])) a (exo a C (some dx)))
theorem mk_errT {C : Addr} {f1 : Str} {zs : List Int} {ta : TA} {σ : L2.St} {H : Hp} {Q : XK} (hodd : OddInts zs) (hlen : zs.length ≤ 1000) (h : ta σ H fun vs H1 => ∃ z, vs = [.ref z] ∧ H1 z = some (.tup (zs.map V.int)) ∧ ErrAt Q C H1 [(f1, .ref z)]) (mono : ∀ {R R' : List V → Hp → Prop}, ta σ H R → (∀ vs H1, R vs H1 → R' vs H1) → ta σ H R') :
    tMkO C (sp_errT C f1) [] ta σ H Q := by
  refine mono h fun vs H1 hh => ?_
  obtain ⟨z, rfl, hz, q⟩ := hh
  refine ⟨by show 1 ≤ 1000; decide, fun a ha => ⟨a, z, zs, rfl, (upd_ne (ne_of_none hz ha)).trans hz, hodd, hlen, upd_same, fun dx hdx hne => ?_⟩⟩
  rw [upd_ne hne] at hdx
  have e0 := err_end (C := C) (H2 := upd (upd (upd H1 a (exo a C none)) dx (exd dx [(f1, .ref z)])) a (exo a C (some dx))) (fs := [(f1, .ref z)]) ha hdx hne fun b o h1 h2 e => by
    rw [upd_ne h1, upd_ne h2, upd_ne h1]; exact e
  exact ⟨rfl, dx, _, upd_same, (upd_ne hne).trans upd_same, hdx, q dx _ e0.1 e0.2⟩
def sp_check_cutB (C CN : Addr) : Sp := fun vs H Q E => ∃ (p a : Addr) (b : Bool) (zs : List Int) (al : List Nat) (ps : List (Nat × Nat)), vs = [.ref p, .ref a] ∧ JoinsAt C H p al ps ∧ Proper al ps ∧ al.Nodup ∧ al.length ≤ 400 ∧ ps.length ≤ 400 ∧ SeqAt b H a (zs.map V.int) ∧ zs.length ≤ 1000 ∧
  (IsCutZ al ps zs → ∀ H', Same H H' → Q .non H') ∧ (¬ IsCutZ al ps zs → OddInts zs ∧ ∀ H1 z, Same H H1 → H1 z = some (.tup (zs.map V.int)) → ErrAt E CN H1 [("row", .ref z)])
def sp_gluedX (C CN : Addr) : Sp := fun vs H _ E => ∃ (p a c : Addr) (b d : Bool) (u v : List Int) (al : List Nat) (ps : List (Nat × Nat)), vs = [.ref p, .ref a, .ref c] ∧ JoinsAt C H p al ps ∧ Proper al ps ∧ al.Nodup ∧ al.length ≤ 400 ∧ ps.length ≤ 400 ∧ SeqAt b H a (u.map V.int) ∧ SeqAt d H c (v.map V.int) ∧ u.length ≤ 1000 ∧ v.length ≤ 1000 ∧ OddInts u ∧ OddInts v ∧
  (¬ IsCutZ al ps u → ∀ H1 z, Same H H1 → H1 z = some (.tup (u.map V.int)) → ErrAt E CN H1 [("row", .ref z)]) ∧ (IsCutZ al ps u → ¬ IsCutZ al ps v ∧ ∀ H1 z, Same H H1 → H1 z = some (.tup (v.map V.int)) → ErrAt E CN H1 [("row", .ref z)])
def sp_parts (C : Addr) : Sp := fun vs H Q _ => ∃ (p a : Addr) (b : Bool) (ts : List (List Nat)) (al : List Nat) (ps : List (Nat × Nat)), vs = [.ref p, .ref a] ∧ JoinsAt C H p al ps ∧ Proper al ps ∧ al.length ≤ 400 ∧ ps.length ≤ 400 ∧ SeqAt b H a (strV ts) ∧ ts.length ≤ 100 ∧ (∀ t ∈ ts, ∀ c ∈ t, c ∈ al) ∧ ts.flatten.length ≤ 1000 ∧
  ∀ H' q, Same H H' → H' q = some (.tup (iv (CT al ps ts.flatten))) → Q (.ref q) H'
def sp_partsX (C CU : Addr) : Sp := fun vs H _ E => ∃ (p a : Addr) (b : Bool) (ts : List (List Nat)) (al : List Nat) (ps : List (Nat × Nat)) (k : Nat) (u : List Nat) (i c : Nat), vs = [.ref p, .ref a] ∧ JoinsAt C H p al ps ∧ SeqAt b H a (strV ts) ∧ (∀ t ∈ ts, t.length ≤ 1000) ∧ (∀ t ∈ ts.take k, ∀ c ∈ t, c ∈ al) ∧ ts[k]? = some u ∧ FirstBad al u i c ∧ c < 1114112 ∧ ErrAt E CU H [("at", .int (i : Int)), ("sign", .str (S [c]))]
section
variable {P : Program} {w : World} {K : PySem.W.Frag} {mg : Str → Option Value} {base : Heap}
theorem ok_NotCutT {f C : Addr} {fd : FuncData} (F : SupF P K C "NotCut.__init__" s_NotCut___init__ f fd) (T : Txt K mg) (hm : mg "super" = none) (n1 : PySem.W.findIn K (.ref C) "row" = some none) :
    FnOk P w K mg base C8.CX0 1 f fd ["self", "row"] (sp_errT C "row") := by
  refine fn_super F hm sc_NotCut___init__ rfl rfl rfl (fun vs H Q E h => ?_) (fun vs H Q E h => ?_) (fun _ => rfl) (fun _ => rfl) (fun _ _ => rfl) (fun cda cc A outer s H vs Q E hr h => ?_)
  · obtain ⟨a, z, zs, rfl, _⟩ := h; rfl
  · obtain ⟨a, z, zs, rfl, _, _, _, ea, _⟩ := h; exact ⟨a, _, rfl, ea⟩
  · obtain ⟨a, z, zs, rfl, hz, hodd, hlen, ea, q⟩ := h
    have nd : N_NotCut___init__.Nodup := sc_NotCut___init__.nd
    refine ⟨_, _, (pa_cons (pe_joined (PJ.cons pe_str (PJ.cons (pe_fmtRT hr (pv 1)) PJ.nil))) pa_nil), (pss_one (ps_ost (pv 0) (pv 1))), ?_, ?_⟩
    · have hsl : sizeLine = 16777216 := sizeLine_eq
      refine ⟨_, rfl, ?_, ⟨_, rfl, z, zs, rfl, SqT.of hz, fun i hi => odd_len (hodd i hi), by omega, fun m hm => ⟨_, rfl, ?_, ⟨rfl, by show 1 ≤ 1000; decide⟩⟩⟩⟩
      · decide
      · rw [PySem.Str.length_append]
        have c1 : (Str.empty ++ Str.ofString "not a cut: ").length = 11 := by decide
        omega
    · refine ⟨.ref z, rfl, .ref a, rfl, a, C, rfl, F.oex, n1, .inl ⟨ea, fun dx hdx hne => ?_⟩⟩
      exact q dx hdx hne
theorem ok_check_cutB {f C CN : Addr} {fd : FuncData} (F : C8.Fun K "check_cut" "check_cut" s_check_cut f fd) (T : Txt K mg) (c_is_cut : C8.Cal P w K mg base 10 "is_cut" (sp_is_cut C) []) (eNotCut : ErrC P w K mg base "NotCut" CN (sp_errT CN "row")) : FnOk P w K mg base (CXN P w) 11 f fd ["joins", "row"] (sp_check_cutB C CN) := by
  refine fnX F sc_check_cut (fun vs H Q E h => ?_) (fun cdv A outer s H vs Q E hr h tk => ?_)
  · obtain ⟨p, a, b, zs, al, ps, rfl, _⟩ := h; rfl
  · obtain ⟨p, a, b, zs, al, ps, rfl, hj, hprop, hnd, hal, hpl, hrow, hrl, q1, q2⟩ := h
    refine ⟨_, (pss_one (ps_if (pt_not (pt_val (C8.pe_c c_is_cut hr (by first | decide | omega) (by rfl) (pa_cons (pv 0) (pa_cons (pv 1) pa_nil))))) (pss_one (L2N.ps_raise rfl tk (pmk_err eNotCut hr (by first | decide | omega) (by rfl) (pa_cons (pe_tupleOf (by rfl) T.b_tuple (pv 1)) pa_nil)))) pss_nil)), ?_⟩
    refine ⟨_, rfl, _, rfl, p, a, b, zs, al, ps, rfl, hj, hprop, hnd, hal, hpl, hrow, hrl, fun H1 k s1 hk => ?_⟩
    cases k with
    | true => exact ⟨_, rfl, iteF (q1 (hk.mp rfl) H1 s1)⟩
    | false =>
      have hno : ¬ IsCutZ al ps zs := fun h => by have := hk.mpr h; cases this
      obtain ⟨hodd, q⟩ := q2 hno
      refine ⟨_, rfl, iteT (mk_errT hodd hrl ?_ fun h1 h2 => ?_)⟩
      · have hrow1 := hrow.same s1
        cases b with
        | true => exact ⟨_, rfl, .inl ⟨a, _, rfl, SqL.of hrow1, fun z hz => ⟨z, rfl, upd_same, q _ z (s1.trans (same_new hz)) upd_same⟩⟩⟩
        | false => exact ⟨_, rfl, .inr ⟨a, _, rfl, SqT.of hrow1, a, rfl, hrow1, q _ a s1 hrow1⟩⟩
      · obtain ⟨x, hx, h1⟩ := h1
        rcases h1 with ⟨p', xs, e, hs, h1⟩ | ⟨p', xs, e, hs, h1⟩
        · exact ⟨x, hx, .inl ⟨p', xs, e, hs, fun q hq => h2 _ _ (h1 q hq)⟩⟩
        · exact ⟨x, hx, .inr ⟨p', xs, e, hs, h2 _ _ h1⟩⟩
end
end RJ
end

section
set_option maxRecDepth 100000
set_option maxHeartbeats 4000000
namespace RJ
open PySem PySem.Spec PyProof.Rows L2
theorem kitAny2 {K : PySem.W.Frag} {t a b : Value} {x y : Bool} (h1 : PySem.W.kitOne K t a = some x) (h2 : PySem.W.kitOne K t b = some y) : PySem.W.kitAny K t [a, b] = some (x || y) := by
  unfold PySem.W.kitAny
  rw [h1]
  cases x with
  | true => rfl
  | false =>
    show PySem.W.kitAny K t [b] = _
    unfold PySem.W.kitAny
    rw [h2]
    cases y <;> rfl
section
variable {P : Program} {w : World} {K : PySem.W.Frag} {mg : Str → Option Value} {base : Heap}
theorem ok_sameP0 {f : Addr} {fd : FuncData} (F : C8.Fun K "_law_same" "_law_same" s__law_same f fd) (T : Txt K mg) : FnOk P w K mg base C8.CX0 1 f fd ["told", "due"] (sp_same 0) := by
  refine C8.fn0 F sc__law_same (fun vs H Q E h => ?_) (fun cdv A outer s H vs Q E hr h => ?_)
  · obtain ⟨x, y, rfl, _⟩ := h; rfl
  · obtain ⟨x, y, rfl, ⟨rfl, hsc⟩, q⟩ := h
    refine ⟨_, (pss_cons (ps_if (pt_val (pe_callB call_isiT (by rfl) T.b_isinstance (by decide +kernel) (pa_cons (pv 1) (pa_cons (pe_tup (pa_cons (pe_bltn (v := .ty "tuple") (u := .type "tuple") rfl T.b_tuple (by decide +kernel) rfl) (pa_cons (pe_bltn (v := .ty "list") (u := .type "list") rfl T.b_list (by decide +kernel) rfl) pa_nil))) pa_nil)))) (pss_cons (ps_if (PW.pt (pw_or (pt_not (pt_val (pe_callB call_isiT (by rfl) T.b_isinstance (by decide +kernel) (pa_cons (pv 0) (pa_cons (pe_tup (pa_cons (pe_bltn (v := .ty "tuple") (u := .type "tuple") rfl T.b_tuple (by decide +kernel) rfl) (pa_cons (pe_bltn (v := .ty "list") (u := .type "list") rfl T.b_list (by decide +kernel) rfl) pa_nil))) pa_nil))))) (pw_or1 (pt_cmpR op_ne (pe_callB call_isi (by rfl) T.b_isinstance (by decide +kernel) (pa_cons (pv 0) (pa_cons (pe_bltn (v := .ty "list") (u := .type "list") rfl T.b_list (by decide +kernel) rfl) pa_nil))) (pe_callB call_isi (by rfl) T.b_isinstance (by decide +kernel) (pa_cons (pv 1) (pa_cons (pe_bltn (v := .ty "list") (u := .type "list") rfl T.b_list (by decide +kernel) rfl) pa_nil))) (nomark _))))) (pss_one (ps_ret pe_bl)) pss_nil)
      (pss_cons (ps_if (pt_cmpR op_ne (pe_callB call_len_seq (by rfl) T.b_len PySem.boot_len (pa_cons (pv 0) pa_nil)) (pe_callB call_len_seq (by rfl) T.b_len PySem.boot_len (pa_cons (pv 1) pa_nil)) (nomark _)) (pss_one (ps_ret pe_bl)) pss_nil)
      (pss_cons (ps_for PassesOwn.never rfl (pi_range1 rfl T.b_range (pa_cons (pe_callB call_len_seq (by rfl) T.b_len PySem.boot_len (pa_cons (pv 1) pa_nil)) pa_nil)) (pg_name (i := 2) sc__law_same.nd rfl (Or.inl rfl)) (pss_one (ps_if (pt_not (pt_val pe_never)) (pss_one (ps_ret pe_bl)) pss_nil)))
      (pss_one (ps_ret pe_bl))))) pss_nil)
      (pss_cons (ps_if (pt_cmpR op_isN (pv 1) pe_non (nomark _)) (pss_one (ps_ret (pe_cmpR op_isN (pv 0) pe_non (nomark _)))) pss_nil)
      (pss_cons (ps_if (pt_val (pe_callB call_isi (by rfl) T.b_isinstance (by decide +kernel) (pa_cons (pv 1) (pa_cons (pe_bltn (v := .ty "bool") (u := .type "bool") rfl T.b_bool (by decide +kernel) rfl) pa_nil)))) (pss_one (ps_ret (pe_and (pe_callB call_isi (by rfl) T.b_isinstance (by decide +kernel) (pa_cons (pv 0) (pa_cons (pe_bltn (v := .ty "bool") (u := .type "bool") rfl T.b_bool (by decide +kernel) rfl) pa_nil))) (pe_one (pe_cmpR op_eq (pv 0) (pv 1) (nomark _)))))) pss_nil)
      (pss_cons (ps_if (pt_val (pe_callB call_isi (by rfl) T.b_isinstance (by decide +kernel) (pa_cons (pv 1) (pa_cons (pe_bltn (v := .ty "str") (u := .type "str") rfl T.b_str (by decide +kernel) rfl) pa_nil)))) (pss_one (ps_ret (pe_and (pe_callB call_isi (by rfl) T.b_isinstance (by decide +kernel) (pa_cons (pv 0) (pa_cons (pe_bltn (v := .ty "str") (u := .type "str") rfl T.b_str (by decide +kernel) rfl) pa_nil))) (pe_one (pe_cmpR op_eq (pv 0) (pv 1) (nomark _)))))) pss_nil)
      (pss_one (ps_ret (pe_and (pe_callB call_isi (by rfl) T.b_isinstance (by decide +kernel) (pa_cons (pv 0) (pa_cons (pe_bltn (v := .ty "int") (u := .type "int") rfl T.b_int (by decide +kernel) rfl) pa_nil))) (pe_and (pe_not (pe_callB call_isi (by rfl) T.b_isinstance (by decide +kernel) (pa_cons (pv 0) (pa_cons (pe_bltn (v := .ty "bool") (u := .type "bool") rfl T.b_bool (by decide +kernel) rfl) pa_nil)))) (pe_one (pe_cmpR op_eq (pv 0) (pv 1) (nomark _))))))))))), ?_⟩
    cases x with
    | non =>
      refine ⟨_, rfl, by show 2 ≤ sizeLine; decide, fun tp htp => ?_⟩
      have stp := same_new (o := .tup [.ty "tuple", .ty "list"]) htp
      exact ⟨_, tp, _, _, _, false, rfl, upd_same, .cons (.ty _) (.cons (.ty _) .nil), .base .non, kitAny2 (x := false) (y := false) (kit_ty (by decide +kernel)) (kit_ty (by decide +kernel)), _, rfl, iteF ⟨_, rfl, rfl, _, rfl, iteT ⟨_, rfl, rfl, q _ stp⟩⟩⟩
    | str z =>
      refine ⟨_, rfl, by show 2 ≤ sizeLine; decide, fun tp htp => ?_⟩
      have stp := same_new (o := .tup [.ty "tuple", .ty "list"]) htp
      refine ⟨_, tp, _, .type "str", _, false, rfl, upd_same, .cons (.ty _) (.cons (.ty _) .nil), .base (.str z), kitAny2 (x := false) (y := false) (kit_ty (by decide +kernel)) (kit_ty (by decide +kernel)), _, rfl, iteF ⟨_, rfl, rfl, _, rfl, iteF ?_⟩⟩
      refine ⟨_, rfl, _, .ty "bool", .type "str", .type "bool", false, rfl, .ty _, .base (.str z), kit_ty (by decide +kernel), _, rfl, iteF ⟨_, rfl, _, .ty "str", .type "str", .type "str", true, rfl, .ty _, .base (.str z), kit_ty (by decide +kernel), _, rfl, iteT ⟨_, rfl, _, .ty "str", .type "str", .type "str", true, rfl, .ty _, .base (.str z), kit_ty (by decide +kernel), _, rfl, iteT ⟨_, rfl, _, rfl, rfl, ?_⟩⟩⟩⟩
      rw [decide_eq_true rfl]; exact q _ stp
    | bl z =>
      refine ⟨_, rfl, by show 2 ≤ sizeLine; decide, fun tp htp => ?_⟩
      have stp := same_new (o := .tup [.ty "tuple", .ty "list"]) htp
      refine ⟨_, tp, _, .type "bool", _, false, rfl, upd_same, .cons (.ty _) (.cons (.ty _) .nil), .base (.bl z), kitAny2 (x := false) (y := false) (kit_ty (by decide +kernel)) (kit_ty (by decide +kernel)), _, rfl, iteF ⟨_, rfl, rfl, _, rfl, iteF ?_⟩⟩
      refine ⟨_, rfl, _, .ty "bool", .type "bool", .type "bool", true, rfl, .ty _, .base (.bl z), kit_ty (by decide +kernel), _, rfl, iteT ⟨_, rfl, _, .ty "bool", .type "bool", .type "bool", true, rfl, .ty _, .base (.bl z), kit_ty (by decide +kernel), _, rfl, iteT ⟨_, rfl, _, rfl, rfl, ?_⟩⟩⟩
      rw [decide_eq_true rfl]; exact q _ stp
    | int z =>
      refine ⟨_, rfl, by show 2 ≤ sizeLine; decide, fun tp htp => ?_⟩
      have stp := same_new (o := .tup [.ty "tuple", .ty "list"]) htp
      refine ⟨_, tp, _, .type "int", _, false, rfl, upd_same, .cons (.ty _) (.cons (.ty _) .nil), .base (.int z), kitAny2 (x := false) (y := false) (kit_ty (by decide +kernel)) (kit_ty (by decide +kernel)), _, rfl, iteF ⟨_, rfl, rfl, _, rfl, iteF ?_⟩⟩
      refine ⟨_, rfl, _, .ty "bool", .type "int", .type "bool", false, rfl, .ty _, .base (.int z), kit_ty (by decide +kernel), _, rfl, iteF ⟨_, rfl, _, .ty "str", .type "int", .type "str", false, rfl, .ty _, .base (.int z), kit_ty (by decide +kernel), _, rfl, iteF ⟨_, rfl, _, .ty "int", .type "int", .type "int", true, rfl, .ty _, .base (.int z), kit_ty (by decide +kernel), _, rfl, iteT ⟨_, rfl, _, .ty "bool", .type "int", .type "bool", false, rfl, .ty _, .base (.int z), kit_ty (by decide +kernel), _, rfl, _, rfl, iteT ⟨_, rfl, _, rfl, rfl, ?_⟩⟩⟩⟩⟩
      rw [decide_eq_true rfl]; exact q _ stp
    | byt z => cases hsc
    | flt z => cases hsc
    | ref z => cases hsc
    | ty z => cases hsc
theorem ok_samePS {f : Addr} {fd : FuncData} {n k : Nat} (F : C8.Fun K "_law_same" "_law_same" s__law_same f fd) (T : Txt K mg) (c__law_same : C8.Cal P w K mg base k "_law_same" (sp_same n) []) : FnOk P w K mg base C8.CX0 (k + 1) f fd ["told", "due"] (sp_same (n + 1)) := by
  refine C8.fn0 F sc__law_same (fun vs H Q E h => ?_) (fun cdv A outer s H vs Q E hr h => ?_)
  · obtain ⟨x, y, rfl, _⟩ := h; rfl
  · obtain ⟨x, y, rfl, hxy, q⟩ := h
    refine ⟨_, (pss_cons (ps_if (pt_val (pe_callB call_isiT (by rfl) T.b_isinstance (by decide +kernel) (pa_cons (pv 1) (pa_cons (pe_tup (pa_cons (pe_bltn (v := .ty "tuple") (u := .type "tuple") rfl T.b_tuple (by decide +kernel) rfl) (pa_cons (pe_bltn (v := .ty "list") (u := .type "list") rfl T.b_list (by decide +kernel) rfl) pa_nil))) pa_nil)))) (pss_cons (ps_if (PW.pt (pw_or (pt_not (pt_val (pe_callB call_isiT (by rfl) T.b_isinstance (by decide +kernel) (pa_cons (pv 0) (pa_cons (pe_tup (pa_cons (pe_bltn (v := .ty "tuple") (u := .type "tuple") rfl T.b_tuple (by decide +kernel) rfl) (pa_cons (pe_bltn (v := .ty "list") (u := .type "list") rfl T.b_list (by decide +kernel) rfl) pa_nil))) pa_nil))))) (pw_or1 (pt_cmpR op_ne (pe_callB call_isi (by rfl) T.b_isinstance (by decide +kernel) (pa_cons (pv 0) (pa_cons (pe_bltn (v := .ty "list") (u := .type "list") rfl T.b_list (by decide +kernel) rfl) pa_nil))) (pe_callB call_isi (by rfl) T.b_isinstance (by decide +kernel) (pa_cons (pv 1) (pa_cons (pe_bltn (v := .ty "list") (u := .type "list") rfl T.b_list (by decide +kernel) rfl) pa_nil))) (nomark _))))) (pss_one (ps_ret pe_bl)) pss_nil)
      (pss_cons (ps_if (pt_cmpR op_ne (pe_callB call_len_seq (by rfl) T.b_len PySem.boot_len (pa_cons (pv 0) pa_nil)) (pe_callB call_len_seq (by rfl) T.b_len PySem.boot_len (pa_cons (pv 1) pa_nil)) (nomark _)) (pss_one (ps_ret pe_bl)) pss_nil)
      (pss_cons (ps_for PassesOwn.never rfl (pi_range1 rfl T.b_range (pa_cons (pe_callB call_len_seq (by rfl) T.b_len PySem.boot_len (pa_cons (pv 1) pa_nil)) pa_nil)) (pg_name (i := 2) sc__law_same.nd rfl (Or.inl rfl)) (pss_one (ps_if (pt_not (pt_val (C8.pe_c c__law_same hr (by first | decide | omega) (by rfl) (pa_cons (pe_ix ix_tup (pv 0) (pv 2) (fun _ _ => rfl)) (pa_cons (pe_ix ix_tup (pv 1) (pv 2) (fun _ _ => rfl)) pa_nil))))) (pss_one (ps_ret pe_bl)) pss_nil)))
      (pss_one (ps_ret pe_bl))))) pss_nil)
      (pss_cons (ps_if (pt_cmpR op_isN (pv 1) pe_non (nomark _)) (pss_one (ps_ret (pe_cmpR op_isN (pv 0) pe_non (nomark _)))) pss_nil)
      (pss_cons (ps_if (pt_val (pe_callB call_isi (by rfl) T.b_isinstance (by decide +kernel) (pa_cons (pv 1) (pa_cons (pe_bltn (v := .ty "bool") (u := .type "bool") rfl T.b_bool (by decide +kernel) rfl) pa_nil)))) (pss_one (ps_ret (pe_and (pe_callB call_isi (by rfl) T.b_isinstance (by decide +kernel) (pa_cons (pv 0) (pa_cons (pe_bltn (v := .ty "bool") (u := .type "bool") rfl T.b_bool (by decide +kernel) rfl) pa_nil))) (pe_one (pe_cmpR op_eq (pv 0) (pv 1) (nomark _)))))) pss_nil)
      (pss_cons (ps_if (pt_val (pe_callB call_isi (by rfl) T.b_isinstance (by decide +kernel) (pa_cons (pv 1) (pa_cons (pe_bltn (v := .ty "str") (u := .type "str") rfl T.b_str (by decide +kernel) rfl) pa_nil)))) (pss_one (ps_ret (pe_and (pe_callB call_isi (by rfl) T.b_isinstance (by decide +kernel) (pa_cons (pv 0) (pa_cons (pe_bltn (v := .ty "str") (u := .type "str") rfl T.b_str (by decide +kernel) rfl) pa_nil))) (pe_one (pe_cmpR op_eq (pv 0) (pv 1) (nomark _)))))) pss_nil)
      (pss_one (ps_ret (pe_and (pe_callB call_isi (by rfl) T.b_isinstance (by decide +kernel) (pa_cons (pv 0) (pa_cons (pe_bltn (v := .ty "int") (u := .type "int") rfl T.b_int (by decide +kernel) rfl) pa_nil))) (pe_and (pe_not (pe_callB call_isi (by rfl) T.b_isinstance (by decide +kernel) (pa_cons (pv 0) (pa_cons (pe_bltn (v := .ty "bool") (u := .type "bool") rfl T.b_bool (by decide +kernel) rfl) pa_nil)))) (pe_one (pe_cmpR op_eq (pv 0) (pv 1) (nomark _))))))))))), ?_⟩
    rcases hxy with ⟨rfl, hsc⟩ | ⟨a, b, xs, ys, rfl, rfl, ha, hb, hlen, hP⟩
    · cases x with
      | non =>
        refine ⟨_, rfl, by show 2 ≤ sizeLine; decide, fun tp htp => ?_⟩
        have stp := same_new (o := .tup [.ty "tuple", .ty "list"]) htp
        exact ⟨_, tp, _, _, _, false, rfl, upd_same, .cons (.ty _) (.cons (.ty _) .nil), .base .non, kitAny2 (x := false) (y := false) (kit_ty (by decide +kernel)) (kit_ty (by decide +kernel)), _, rfl, iteF ⟨_, rfl, rfl, _, rfl, iteT ⟨_, rfl, rfl, q _ stp⟩⟩⟩
      | str z =>
        refine ⟨_, rfl, by show 2 ≤ sizeLine; decide, fun tp htp => ?_⟩
        have stp := same_new (o := .tup [.ty "tuple", .ty "list"]) htp
        refine ⟨_, tp, _, .type "str", _, false, rfl, upd_same, .cons (.ty _) (.cons (.ty _) .nil), .base (.str z), kitAny2 (x := false) (y := false) (kit_ty (by decide +kernel)) (kit_ty (by decide +kernel)), _, rfl, iteF ⟨_, rfl, rfl, _, rfl, iteF ?_⟩⟩
        refine ⟨_, rfl, _, .ty "bool", .type "str", .type "bool", false, rfl, .ty _, .base (.str z), kit_ty (by decide +kernel), _, rfl, iteF ⟨_, rfl, _, .ty "str", .type "str", .type "str", true, rfl, .ty _, .base (.str z), kit_ty (by decide +kernel), _, rfl, iteT ⟨_, rfl, _, .ty "str", .type "str", .type "str", true, rfl, .ty _, .base (.str z), kit_ty (by decide +kernel), _, rfl, iteT ⟨_, rfl, _, rfl, rfl, ?_⟩⟩⟩⟩
        rw [decide_eq_true rfl]; exact q _ stp
      | bl z =>
        refine ⟨_, rfl, by show 2 ≤ sizeLine; decide, fun tp htp => ?_⟩
        have stp := same_new (o := .tup [.ty "tuple", .ty "list"]) htp
        refine ⟨_, tp, _, .type "bool", _, false, rfl, upd_same, .cons (.ty _) (.cons (.ty _) .nil), .base (.bl z), kitAny2 (x := false) (y := false) (kit_ty (by decide +kernel)) (kit_ty (by decide +kernel)), _, rfl, iteF ⟨_, rfl, rfl, _, rfl, iteF ?_⟩⟩
        refine ⟨_, rfl, _, .ty "bool", .type "bool", .type "bool", true, rfl, .ty _, .base (.bl z), kit_ty (by decide +kernel), _, rfl, iteT ⟨_, rfl, _, .ty "bool", .type "bool", .type "bool", true, rfl, .ty _, .base (.bl z), kit_ty (by decide +kernel), _, rfl, iteT ⟨_, rfl, _, rfl, rfl, ?_⟩⟩⟩
        rw [decide_eq_true rfl]; exact q _ stp
      | int z =>
        refine ⟨_, rfl, by show 2 ≤ sizeLine; decide, fun tp htp => ?_⟩
        have stp := same_new (o := .tup [.ty "tuple", .ty "list"]) htp
        refine ⟨_, tp, _, .type "int", _, false, rfl, upd_same, .cons (.ty _) (.cons (.ty _) .nil), .base (.int z), kitAny2 (x := false) (y := false) (kit_ty (by decide +kernel)) (kit_ty (by decide +kernel)), _, rfl, iteF ⟨_, rfl, rfl, _, rfl, iteF ?_⟩⟩
        refine ⟨_, rfl, _, .ty "bool", .type "int", .type "bool", false, rfl, .ty _, .base (.int z), kit_ty (by decide +kernel), _, rfl, iteF ⟨_, rfl, _, .ty "str", .type "int", .type "str", false, rfl, .ty _, .base (.int z), kit_ty (by decide +kernel), _, rfl, iteF ⟨_, rfl, _, .ty "int", .type "int", .type "int", true, rfl, .ty _, .base (.int z), kit_ty (by decide +kernel), _, rfl, iteT ⟨_, rfl, _, .ty "bool", .type "int", .type "bool", false, rfl, .ty _, .base (.int z), kit_ty (by decide +kernel), _, rfl, _, rfl, iteT ⟨_, rfl, _, rfl, rfl, ?_⟩⟩⟩⟩⟩
        rw [decide_eq_true rfl]; exact q _ stp
      | byt z => cases hsc
      | flt z => cases hsc
      | ref z => cases hsc
      | ty z => cases hsc
    · have el : xs.length = ys.length := hP.length
      refine ⟨_, rfl, by show 2 ≤ sizeLine; decide, fun tp htp => ?_⟩
      have s1 := same_new (o := .tup [.ty "tuple", .ty "list"]) htp
      refine ⟨_, tp, _, .type "tuple", _, true, rfl, upd_same, .cons (.ty _) (.cons (.ty _) .nil), .base (.tup (s1 _ _ hb)), kitAny2 (x := true) (y := false) (kit_ty (by decide +kernel)) (kit_ty (by decide +kernel)), _, rfl, iteT ?_⟩
      generalize upd H tp (.tup [.ty "tuple", .ty "list"]) = H1 at s1 ⊢
      refine ⟨_, rfl, by show 2 ≤ sizeLine; decide, fun tp2 htp2 => ?_⟩
      have s2 := Same.new (o := .tup [.ty "tuple", .ty "list"]) s1 htp2
      refine ⟨_, tp2, _, .type "tuple", _, true, rfl, upd_same, .cons (.ty _) (.cons (.ty _) .nil), .base (.tup (s2 _ _ ha)), kitAny2 (x := true) (y := false) (kit_ty (by decide +kernel)) (kit_ty (by decide +kernel)), _, rfl, ?_⟩
      generalize upd H1 tp2 (.tup [.ty "tuple", .ty "list"]) = H2 at s2 ⊢
      refine iteF ⟨_, rfl, _, .ty "list", .type "tuple", .type "list", false, rfl, .ty _, .base (.tup (s2 _ _ ha)), kit_ty (by decide +kernel), _, rfl, _, .ty "list", .type "tuple", .type "list", false, rfl, .ty _, .base (.tup (s2 _ _ hb)), kit_ty (by decide +kernel), rfl, _, rfl, ?_⟩
      rw [decide_eq_true rfl]
      refine iteF ⟨_, rfl, a, xs, rfl, .inr (SqT.of (s2 _ _ ha)), _, rfl, b, ys, rfl, .inr (SqT.of (s2 _ _ hb)), rfl, _, rfl, ?_⟩
      rw [el, decide_eq_true rfl]
      refine iteF ⟨_, rfl, b, ys, rfl, .inr (SqT.of (s2 _ _ hb)), _, rfl, by omega, by omega, for_it walk_range (fun i σ H' => ∃ v2 : Option V, σ = [some (.ref a), some (.ref b), v2] ∧ Same H H') ⟨none, rfl, s2⟩ (fun _ _ _ _ _ => trivial) ?_ ?_⟩
      · rintro i x σ Ha Hb hi ⟨v2, rfl, sa⟩ ⟨rfl, rfl⟩
        have hi2 : i < ys.length := by simpa using hi
        have hi1 : i < xs.length := by omega
        obtain ⟨y, hy, hsame⟩ := Paired.at hP (List.getElem?_eq_getElem hi1)
        refine ⟨_, rfl, _, rfl, a, xs, _, _, rfl, rfl, SqT.of (sa _ _ ha), at_of (by simp) (List.getElem?_eq_getElem hi1), _, rfl, _, rfl, b, ys, _, _, rfl, rfl, SqT.of (sa _ _ hb), at_of (by simp) hy, _, _, rfl, SameD.mono sa hsame, fun H2 s2 => ⟨_, rfl, iteF ⟨_, rfl, sa.trans s2⟩⟩⟩
      · rintro σ H1 ⟨v2, rfl, sa⟩
        exact q H1 sa
end
end RJ
end

section
set_option maxRecDepth 100000
set_option maxHeartbeats 8000000
namespace RJ
open PySem PySem.Spec PyProof.Rows L2
/-- a plain value, or a tuple or list of such that stands -/
def RepH (H : Hp) (x : V) : Prop := ScR x ∨ ∃ a xs, x = .ref a ∧ (H a = some (.tup xs) ∨ H a = some (.lst xs)) ∧ (∀ y ∈ xs, ScR y) ∧ xs.length ≤ 1000
theorem RepH.same {H H' : Hp} {x : V} (h : RepH H x) (s : Same H H') : RepH H' x := by
  rcases h with h | ⟨a, xs, e, hs, h2⟩
  · exact .inl h
  · exact .inr ⟨a, xs, e, hs.imp (fun e => s _ _ e) (fun e => s _ _ e), h2⟩
theorem RepH.rep {K : PySem.W.Frag} {H : Hp} {x : V} (h : RepH H x) : RepV K H x := by
  rcases h with h | ⟨a, xs, e, hs, h2⟩
  · exact .inl h
  · exact .inr ⟨a, xs, e, hs.imp SqT.of SqL.of, h2⟩
theorem RepH.kind {H : Hp} {x : V} (h : RepH H x) : Kind H x := by
  rcases h with h | ⟨a, xs, rfl, hs, h2⟩
  · rcases h with rfl | ⟨b, rfl⟩ | ⟨i, rfl, _⟩ | ⟨z, rfl, _⟩
    · exact .non
    · exact .bl _
    · exact .int _
    · exact .str _
  · rcases hs with hs | hs
    · exact .tup hs
    · exact .lst hs
/-- an error's __init__ that keeps such a value -/
def sp_errV (C : Addr) (f1 : Str) : Sp := fun vs H Q _ => ∃ (a : Addr) (x : V), vs = [.ref a, x] ∧ RepH H x ∧ H a = some (exo a C none) ∧
  ∀ dx, H dx = none → dx ≠ a → Q .non (upd (upd H dx (exd dx [(f1, x)])) a (exo a C (some dx)))
theorem mk_errV {C : Addr} {f1 : Str} {x : V} {ta : TA} {σ : L2.St} {H : Hp} {Q : XK} (h : ta σ H fun vs H1 => vs = [x] ∧ RepH H1 x ∧ ErrAt Q C H1 [(f1, x)]) (mono : ∀ {R R' : List V → Hp → Prop}, ta σ H R → (∀ vs H1, R vs H1 → R' vs H1) → ta σ H R') :
    tMkO C (sp_errV C f1) [] ta σ H Q := by
  refine mono h fun vs H1 hh => ?_
  obtain ⟨rfl, hx, q⟩ := hh
  refine ⟨by show 1 ≤ 1000; decide, fun a ha => ⟨a, x, rfl, hx.same (same_new ha), upd_same, fun dx hdx hne => ?_⟩⟩
  rw [upd_ne hne] at hdx
  have e0 := err_end (C := C) (H2 := upd (upd (upd H1 a (exo a C none)) dx (exd dx [(f1, x)])) a (exo a C (some dx))) (fs := [(f1, x)]) ha hdx hne fun b o h1 h2 e => by
    rw [upd_ne h1, upd_ne h2, upd_ne h1]; exact e
  exact ⟨rfl, dx, _, upd_same, (upd_ne hne).trans upd_same, hdx, q dx _ e0.1 e0.2⟩
def sp_check_numberV (CN : Addr) : Sp := fun vs H Q E => ∃ (x : V) (n : Int), vs = [x, .int n] ∧ RepH H x ∧ (numBelow x n = true → Q .non H) ∧ (numBelow x n = false → ErrAt E CN H [("number", x)])
section
variable {P : Program} {w : World} {K : PySem.W.Frag} {mg : Str → Option Value} {base : Heap}
theorem ok_InvalidNumberV {f C : Addr} {fd : FuncData} (F : SupF P K C "InvalidNumber.__init__" s_InvalidNumber___init__ f fd) (T : Txt K mg) (hm : mg "super" = none) (n1 : PySem.W.findIn K (.ref C) "number" = some none) :
    FnOk P w K mg base C8.CX0 1 f fd ["self", "number"] (sp_errV C "number") := by
  refine fn_super F hm sc_InvalidNumber___init__ rfl rfl rfl (fun vs H Q E h => ?_) (fun vs H Q E h => ?_) (fun _ => rfl) (fun _ => rfl) (fun _ _ => rfl) (fun cda cc A outer s H vs Q E hr h => ?_)
  · obtain ⟨a, x, rfl, _⟩ := h; rfl
  · obtain ⟨a, x, rfl, _, ea, _⟩ := h; exact ⟨a, _, rfl, ea⟩
  · obtain ⟨a, x, rfl, hx, ea, q⟩ := h
    have nd : N_InvalidNumber___init__.Nodup := sc_InvalidNumber___init__.nd
    refine ⟨_, _, (pa_cons (pe_joined (PJ.cons pe_str (PJ.cons (pe_fmtRV hr (pv 1)) PJ.nil))) pa_nil), (pss_one (ps_ost (pv 0) (pv 1))), ?_, ?_⟩
    · have hsl : sizeLine = 16777216 := sizeLine_eq
      refine ⟨_, rfl, ?_, ⟨_, rfl, hx.rep, fun m hm => ⟨_, rfl, ?_, ⟨rfl, by show 1 ≤ 1000; decide⟩⟩⟩⟩
      · decide
      · rw [PySem.Str.length_append]
        have c1 : (Str.empty ++ Str.ofString "not a number within its limits: ").length = 32 := by decide
        omega
    · refine ⟨x, rfl, .ref a, rfl, a, C, rfl, F.oex, n1, .inl ⟨ea, fun dx hdx hne => ?_⟩⟩
      exact q dx hdx hne
theorem ok_check_numberV {f CInvalidNumber : Addr} {fd : FuncData} (F : C8.Fun K "check_number" "check_number" s_check_number f fd) (T : Txt K mg) (c_is_number_below : C8.Cal P w K mg base 2 "is_number_below" sp_is_number_below []) (eInvalidNumber : ErrC P w K mg base "InvalidNumber" CInvalidNumber (sp_errV CInvalidNumber "number")) : FnOk P w K mg base (CXN P w) 3 f fd ["number", "end"] (sp_check_numberV CInvalidNumber) := by
  refine fnX F sc_check_number (fun vs H Q E h => ?_) (fun cdv A outer s H vs Q E hr h tk => ?_)
  · obtain ⟨x, n, rfl, _⟩ := h; rfl
  · obtain ⟨x, n, rfl, hx, q1, q2⟩ := h
    refine ⟨_, (pss_one (ps_if (pt_not (pt_val (C8.pe_c c_is_number_below hr (by first | decide | omega) (by rfl) (pa_cons (pv 0) (pa_cons (pv 1) pa_nil))))) (pss_one (L2N.ps_raise rfl tk (pmk_err eInvalidNumber hr (by first | decide | omega) (by rfl) (pa_cons (pv 0) pa_nil)))) pss_nil)), ?_⟩
    refine ⟨_, rfl, _, rfl, x, n, rfl, hx.kind, _, rfl, ?_⟩
    cases k : numBelow x n with
    | true => exact iteF (q1 k)
    | false =>
      refine iteT (mk_errV (x := x) ⟨_, rfl, rfl, hx, q2 k⟩ fun h1 h2 => ?_)
      obtain ⟨a1, e1, h1⟩ := h1
      exact ⟨a1, e1, h2 _ _ h1⟩
end
end RJ
end

section
set_option maxRecDepth 100000
set_option maxHeartbeats 8000000
namespace RJ
open PySem PySem.Spec PyProof.Rows L2
abbrev s__law_odd : Stmt := top 60
abbrev N__law_odd : List Str := ["pool", "most", "few", "odd"]
theorem sc__law_odd : FnScope N__law_odd ["pool", "most"] (C8.fnScope s__law_odd) := C8.fnScope_by (by decide +kernel)
theorem sc_nat {n : Nat} (h : n ≤ 10 ^ 40 + 900) : ScR (.int (n : Int)) := by
  refine .inr (.inr (.inl ⟨(n : Int), rfl, ?_, ?_⟩))
  · rw [Int.natAbs_natCast]
    by_cases h0 : n = 0
    · subst h0; decide
    · exact Nat.lt_trans ((Nat.log2_lt h0).mpr (Nat.lt_of_le_of_lt h (by decide +kernel : 10 ^ 40 + 900 < 2 ^ 200))) (by decide)
  · have e : toString ((n : Nat) : Int) = toString n := rfl
    show (Str.ofString (toString (n : Int))).length ≤ 200
    rw [SX.num_S, S_len]
    by_cases h0 : n = 0
    · subst h0; decide
    · exact Nat.le_trans (TL.numL_len (n := n) (k := 41) (by decide) (Nat.lt_of_le_of_lt h (by decide +kernel))) (by decide)
theorem neg_len : ∀ n : Nat, n < 900 → (Str.ofString (toString (-1 - (n : Int)))).length ≤ 200 := by decide +kernel
theorem sc_neg {n : Nat} (h : n < 900) : ScR (.int (-1 - (n : Int))) := by
  refine .inr (.inr (.inl ⟨_, rfl, ?_, neg_len n h⟩))
  have e : (-1 - (n : Int)).natAbs = n + 1 := by omega
  rw [e]
  exact Nat.lt_trans ((Nat.log2_lt (by omega)).mpr (Nat.lt_of_le_of_lt (by omega : n + 1 ≤ 900) (by decide +kernel : 900 < 2 ^ 200))) (by decide)
theorem sc_a : ScR (.str (Str.ofString "a")) := .inr (.inr (.inr ⟨_, rfl, by decide +kernel, by decide +kernel⟩))
theorem sc_0 : ScR (.str (Str.ofString "0")) := .inr (.inr (.inr ⟨_, rfl, by decide +kernel, by decide +kernel⟩))
theorem sc_e : ScR (.str (Str.ofString "")) := .inr (.inr (.inr ⟨_, rfl, by decide +kernel, by decide +kernel⟩))
def sp_odd : Sp := fun vs H Q _ => ∃ (p : Addr) (m : Nat), vs = [.ref p, .int (m : Int)] ∧ PoolAt p H ∧ m ≤ 1000 ∧ ∀ H' x, PSame p H H' → RepH H' x → (∀ a, x = .ref a → a ≠ p) → numBelow x ((m : Int) + 1) = false → Q x H'
/-- a list and itself -/
def sp_sameL (n : Nat) : Sp := fun vs H Q _ => ∃ (a : Addr) (xs : List V), vs = [.ref a, .ref a] ∧ H a = some (.lst xs) ∧ xs.length ≤ 1000 ∧ (∀ y ∈ xs, SameD H n y y) ∧ ∀ H', Same H H' → Q (.bl true) H'
theorem sameX_rep {H : Hp} {x : V} (h : RepH H x) {Q : VK} {E : XK} (q : ∀ H', Same H H' → Q (.bl true) H') : sp_same 1 [x, x] H Q E ∨ sp_sameL 0 [x, x] H Q E := by
  have flat : ∀ {y : V} (n : Nat), ScR y → SameD H n y y := fun {y} n hy => by
    rcases hy with rfl | ⟨b, rfl⟩ | ⟨i, rfl, _⟩ | ⟨z, rfl, _⟩ <;> exact SameD.flat rfl n
  rcases h with h | ⟨a, xs, rfl, hs | hs, h2, hl⟩
  · exact .inl ⟨x, x, rfl, flat 1 h, q⟩
  · exact .inl ⟨.ref a, .ref a, rfl, .inr ⟨a, a, xs, xs, rfl, rfl, hs, hs, hl, Paired.same fun y hy => flat 0 (h2 y hy)⟩, q⟩
  · exact .inr ⟨a, xs, rfl, hs, hl, fun y hy => flat 0 (h2 y hy), q⟩
section
variable {P : Program} {w : World} {K : PySem.W.Frag} {mg : Str → Option Value} {base : Heap}
theorem ok_sameHP0 {f : Addr} {fd : FuncData} (F : C8.Fun K "_law_same" "_law_same" s__law_same f fd) (T : Txt K mg) : L2H.FnH P w K mg base C8.CX0 1 f fd ["told", "due"] (sp_same 0) := by
  refine fnH0 F sc__law_same (fun vs H Q E h => ?_) (fun cdv A outer s H vs Q E p hr h hot => ?_)
  · obtain ⟨x, y, rfl, _⟩ := h; rfl
  · obtain ⟨x, y, rfl, ⟨rfl, hsc⟩, q⟩ := h
    refine ⟨_, (pss_cons (ps_if (pt_val (pe_callB call_isiT (by rfl) T.b_isinstance (by decide +kernel) (pa_cons (pv 1) (pa_cons (pe_tup (pa_cons (pe_bltn (v := .ty "tuple") (u := .type "tuple") rfl T.b_tuple (by decide +kernel) rfl) (pa_cons (pe_bltn (v := .ty "list") (u := .type "list") rfl T.b_list (by decide +kernel) rfl) pa_nil))) pa_nil)))) (pss_cons (ps_if (PW.pt (pw_or (pt_not (pt_val (pe_callB call_isiT (by rfl) T.b_isinstance (by decide +kernel) (pa_cons (pv 0) (pa_cons (pe_tup (pa_cons (pe_bltn (v := .ty "tuple") (u := .type "tuple") rfl T.b_tuple (by decide +kernel) rfl) (pa_cons (pe_bltn (v := .ty "list") (u := .type "list") rfl T.b_list (by decide +kernel) rfl) pa_nil))) pa_nil))))) (pw_or1 (pt_cmpR op_ne (pe_callB call_isi (by rfl) T.b_isinstance (by decide +kernel) (pa_cons (pv 0) (pa_cons (pe_bltn (v := .ty "list") (u := .type "list") rfl T.b_list (by decide +kernel) rfl) pa_nil))) (pe_callB call_isi (by rfl) T.b_isinstance (by decide +kernel) (pa_cons (pv 1) (pa_cons (pe_bltn (v := .ty "list") (u := .type "list") rfl T.b_list (by decide +kernel) rfl) pa_nil))) (nomark _))))) (pss_one (ps_ret pe_bl)) pss_nil)
      (pss_cons (ps_if (pt_cmpR op_ne (pe_callB call_len_seq (by rfl) T.b_len PySem.boot_len (pa_cons (pv 0) pa_nil)) (pe_callB call_len_seq (by rfl) T.b_len PySem.boot_len (pa_cons (pv 1) pa_nil)) (nomark _)) (pss_one (ps_ret pe_bl)) pss_nil)
      (pss_cons (L2H.ps_forH PassesOwn.never hot (L2H.pi_range1H rfl T.b_range (pa_cons (pe_callB call_len_seq (by rfl) T.b_len PySem.boot_len (pa_cons (pv 1) pa_nil)) pa_nil)) (pg_name (i := 2) sc__law_same.nd rfl (Or.inl rfl)) (pss_one (ps_if (pt_not (pt_val pe_never)) (pss_one (ps_ret pe_bl)) pss_nil)))
      (pss_one (ps_ret pe_bl))))) pss_nil)
      (pss_cons (ps_if (pt_cmpR op_isN (pv 1) pe_non (nomark _)) (pss_one (ps_ret (pe_cmpR op_isN (pv 0) pe_non (nomark _)))) pss_nil)
      (pss_cons (ps_if (pt_val (pe_callB call_isi (by rfl) T.b_isinstance (by decide +kernel) (pa_cons (pv 1) (pa_cons (pe_bltn (v := .ty "bool") (u := .type "bool") rfl T.b_bool (by decide +kernel) rfl) pa_nil)))) (pss_one (ps_ret (pe_and (pe_callB call_isi (by rfl) T.b_isinstance (by decide +kernel) (pa_cons (pv 0) (pa_cons (pe_bltn (v := .ty "bool") (u := .type "bool") rfl T.b_bool (by decide +kernel) rfl) pa_nil))) (pe_one (pe_cmpR op_eq (pv 0) (pv 1) (nomark _)))))) pss_nil)
      (pss_cons (ps_if (pt_val (pe_callB call_isi (by rfl) T.b_isinstance (by decide +kernel) (pa_cons (pv 1) (pa_cons (pe_bltn (v := .ty "str") (u := .type "str") rfl T.b_str (by decide +kernel) rfl) pa_nil)))) (pss_one (ps_ret (pe_and (pe_callB call_isi (by rfl) T.b_isinstance (by decide +kernel) (pa_cons (pv 0) (pa_cons (pe_bltn (v := .ty "str") (u := .type "str") rfl T.b_str (by decide +kernel) rfl) pa_nil))) (pe_one (pe_cmpR op_eq (pv 0) (pv 1) (nomark _)))))) pss_nil)
      (pss_one (ps_ret (pe_and (pe_callB call_isi (by rfl) T.b_isinstance (by decide +kernel) (pa_cons (pv 0) (pa_cons (pe_bltn (v := .ty "int") (u := .type "int") rfl T.b_int (by decide +kernel) rfl) pa_nil))) (pe_and (pe_not (pe_callB call_isi (by rfl) T.b_isinstance (by decide +kernel) (pa_cons (pv 0) (pa_cons (pe_bltn (v := .ty "bool") (u := .type "bool") rfl T.b_bool (by decide +kernel) rfl) pa_nil)))) (pe_one (pe_cmpR op_eq (pv 0) (pv 1) (nomark _))))))))))), ?_⟩
    cases x with
    | non =>
      refine ⟨_, rfl, by show 2 ≤ sizeLine; decide, fun tp htp => ?_⟩
      have stp := same_new (o := .tup [.ty "tuple", .ty "list"]) htp
      exact ⟨_, tp, _, _, _, false, rfl, upd_same, .cons (.ty _) (.cons (.ty _) .nil), .base .non, kitAny2 (x := false) (y := false) (kit_ty (by decide +kernel)) (kit_ty (by decide +kernel)), _, rfl, iteF ⟨_, rfl, rfl, _, rfl, iteT ⟨_, rfl, rfl, q _ stp⟩⟩⟩
    | str z =>
      refine ⟨_, rfl, by show 2 ≤ sizeLine; decide, fun tp htp => ?_⟩
      have stp := same_new (o := .tup [.ty "tuple", .ty "list"]) htp
      refine ⟨_, tp, _, .type "str", _, false, rfl, upd_same, .cons (.ty _) (.cons (.ty _) .nil), .base (.str z), kitAny2 (x := false) (y := false) (kit_ty (by decide +kernel)) (kit_ty (by decide +kernel)), _, rfl, iteF ⟨_, rfl, rfl, _, rfl, iteF ?_⟩⟩
      refine ⟨_, rfl, _, .ty "bool", .type "str", .type "bool", false, rfl, .ty _, .base (.str z), kit_ty (by decide +kernel), _, rfl, iteF ⟨_, rfl, _, .ty "str", .type "str", .type "str", true, rfl, .ty _, .base (.str z), kit_ty (by decide +kernel), _, rfl, iteT ⟨_, rfl, _, .ty "str", .type "str", .type "str", true, rfl, .ty _, .base (.str z), kit_ty (by decide +kernel), _, rfl, iteT ⟨_, rfl, _, rfl, rfl, ?_⟩⟩⟩⟩
      rw [decide_eq_true rfl]; exact q _ stp
    | bl z =>
      refine ⟨_, rfl, by show 2 ≤ sizeLine; decide, fun tp htp => ?_⟩
      have stp := same_new (o := .tup [.ty "tuple", .ty "list"]) htp
      refine ⟨_, tp, _, .type "bool", _, false, rfl, upd_same, .cons (.ty _) (.cons (.ty _) .nil), .base (.bl z), kitAny2 (x := false) (y := false) (kit_ty (by decide +kernel)) (kit_ty (by decide +kernel)), _, rfl, iteF ⟨_, rfl, rfl, _, rfl, iteF ?_⟩⟩
      refine ⟨_, rfl, _, .ty "bool", .type "bool", .type "bool", true, rfl, .ty _, .base (.bl z), kit_ty (by decide +kernel), _, rfl, iteT ⟨_, rfl, _, .ty "bool", .type "bool", .type "bool", true, rfl, .ty _, .base (.bl z), kit_ty (by decide +kernel), _, rfl, iteT ⟨_, rfl, _, rfl, rfl, ?_⟩⟩⟩
      rw [decide_eq_true rfl]; exact q _ stp
    | int z =>
      refine ⟨_, rfl, by show 2 ≤ sizeLine; decide, fun tp htp => ?_⟩
      have stp := same_new (o := .tup [.ty "tuple", .ty "list"]) htp
      refine ⟨_, tp, _, .type "int", _, false, rfl, upd_same, .cons (.ty _) (.cons (.ty _) .nil), .base (.int z), kitAny2 (x := false) (y := false) (kit_ty (by decide +kernel)) (kit_ty (by decide +kernel)), _, rfl, iteF ⟨_, rfl, rfl, _, rfl, iteF ?_⟩⟩
      refine ⟨_, rfl, _, .ty "bool", .type "int", .type "bool", false, rfl, .ty _, .base (.int z), kit_ty (by decide +kernel), _, rfl, iteF ⟨_, rfl, _, .ty "str", .type "int", .type "str", false, rfl, .ty _, .base (.int z), kit_ty (by decide +kernel), _, rfl, iteF ⟨_, rfl, _, .ty "int", .type "int", .type "int", true, rfl, .ty _, .base (.int z), kit_ty (by decide +kernel), _, rfl, iteT ⟨_, rfl, _, .ty "bool", .type "int", .type "bool", false, rfl, .ty _, .base (.int z), kit_ty (by decide +kernel), _, rfl, _, rfl, iteT ⟨_, rfl, _, rfl, rfl, ?_⟩⟩⟩⟩⟩
      rw [decide_eq_true rfl]; exact q _ stp
    | byt z => cases hsc
    | flt z => cases hsc
    | ref z => cases hsc
    | ty z => cases hsc
theorem ok_sameHPS {f : Addr} {fd : FuncData} {n k : Nat} (F : C8.Fun K "_law_same" "_law_same" s__law_same f fd) (T : Txt K mg) (h__law_same : CalH P w K mg base k "_law_same" (sp_same n)) : L2H.FnH P w K mg base C8.CX0 (k + 1) f fd ["told", "due"] (sp_same (n + 1)) := by
  refine fnH0 F sc__law_same (fun vs H Q E h => ?_) (fun cdv A outer s H vs Q E p hr h hot => ?_)
  · obtain ⟨x, y, rfl, _⟩ := h; rfl
  · obtain ⟨x, y, rfl, hxy, q⟩ := h
    refine ⟨_, (pss_cons (ps_if (pt_val (pe_callB call_isiT (by rfl) T.b_isinstance (by decide +kernel) (pa_cons (pv 1) (pa_cons (pe_tup (pa_cons (pe_bltn (v := .ty "tuple") (u := .type "tuple") rfl T.b_tuple (by decide +kernel) rfl) (pa_cons (pe_bltn (v := .ty "list") (u := .type "list") rfl T.b_list (by decide +kernel) rfl) pa_nil))) pa_nil)))) (pss_cons (ps_if (PW.pt (pw_or (pt_not (pt_val (pe_callB call_isiT (by rfl) T.b_isinstance (by decide +kernel) (pa_cons (pv 0) (pa_cons (pe_tup (pa_cons (pe_bltn (v := .ty "tuple") (u := .type "tuple") rfl T.b_tuple (by decide +kernel) rfl) (pa_cons (pe_bltn (v := .ty "list") (u := .type "list") rfl T.b_list (by decide +kernel) rfl) pa_nil))) pa_nil))))) (pw_or1 (pt_cmpR op_ne (pe_callB call_isi (by rfl) T.b_isinstance (by decide +kernel) (pa_cons (pv 0) (pa_cons (pe_bltn (v := .ty "list") (u := .type "list") rfl T.b_list (by decide +kernel) rfl) pa_nil))) (pe_callB call_isi (by rfl) T.b_isinstance (by decide +kernel) (pa_cons (pv 1) (pa_cons (pe_bltn (v := .ty "list") (u := .type "list") rfl T.b_list (by decide +kernel) rfl) pa_nil))) (nomark _))))) (pss_one (ps_ret pe_bl)) pss_nil)
      (pss_cons (ps_if (pt_cmpR op_ne (pe_callB call_len_seq (by rfl) T.b_len PySem.boot_len (pa_cons (pv 0) pa_nil)) (pe_callB call_len_seq (by rfl) T.b_len PySem.boot_len (pa_cons (pv 1) pa_nil)) (nomark _)) (pss_one (ps_ret pe_bl)) pss_nil)
      (pss_cons (L2H.ps_forH PassesOwn.never hot (L2H.pi_range1H rfl T.b_range (pa_cons (pe_callB call_len_seq (by rfl) T.b_len PySem.boot_len (pa_cons (pv 1) pa_nil)) pa_nil)) (pg_name (i := 2) sc__law_same.nd rfl (Or.inl rfl)) (pss_one (ps_if (pt_not (pt_val (pe_ch h__law_same hr (by first | decide | omega) hot (by rfl) (pa_cons (pe_ix ix_tup (pv 0) (pv 2) (fun _ _ => rfl)) (pa_cons (pe_ix ix_tup (pv 1) (pv 2) (fun _ _ => rfl)) pa_nil))))) (pss_one (ps_ret pe_bl)) pss_nil)))
      (pss_one (ps_ret pe_bl))))) pss_nil)
      (pss_cons (ps_if (pt_cmpR op_isN (pv 1) pe_non (nomark _)) (pss_one (ps_ret (pe_cmpR op_isN (pv 0) pe_non (nomark _)))) pss_nil)
      (pss_cons (ps_if (pt_val (pe_callB call_isi (by rfl) T.b_isinstance (by decide +kernel) (pa_cons (pv 1) (pa_cons (pe_bltn (v := .ty "bool") (u := .type "bool") rfl T.b_bool (by decide +kernel) rfl) pa_nil)))) (pss_one (ps_ret (pe_and (pe_callB call_isi (by rfl) T.b_isinstance (by decide +kernel) (pa_cons (pv 0) (pa_cons (pe_bltn (v := .ty "bool") (u := .type "bool") rfl T.b_bool (by decide +kernel) rfl) pa_nil))) (pe_one (pe_cmpR op_eq (pv 0) (pv 1) (nomark _)))))) pss_nil)
      (pss_cons (ps_if (pt_val (pe_callB call_isi (by rfl) T.b_isinstance (by decide +kernel) (pa_cons (pv 1) (pa_cons (pe_bltn (v := .ty "str") (u := .type "str") rfl T.b_str (by decide +kernel) rfl) pa_nil)))) (pss_one (ps_ret (pe_and (pe_callB call_isi (by rfl) T.b_isinstance (by decide +kernel) (pa_cons (pv 0) (pa_cons (pe_bltn (v := .ty "str") (u := .type "str") rfl T.b_str (by decide +kernel) rfl) pa_nil))) (pe_one (pe_cmpR op_eq (pv 0) (pv 1) (nomark _)))))) pss_nil)
      (pss_one (ps_ret (pe_and (pe_callB call_isi (by rfl) T.b_isinstance (by decide +kernel) (pa_cons (pv 0) (pa_cons (pe_bltn (v := .ty "int") (u := .type "int") rfl T.b_int (by decide +kernel) rfl) pa_nil))) (pe_and (pe_not (pe_callB call_isi (by rfl) T.b_isinstance (by decide +kernel) (pa_cons (pv 0) (pa_cons (pe_bltn (v := .ty "bool") (u := .type "bool") rfl T.b_bool (by decide +kernel) rfl) pa_nil)))) (pe_one (pe_cmpR op_eq (pv 0) (pv 1) (nomark _))))))))))), ?_⟩
    rcases hxy with ⟨rfl, hsc⟩ | ⟨a, b, xs, ys, rfl, rfl, ha, hb, hlen, hP⟩
    · cases x with
      | non =>
        refine ⟨_, rfl, by show 2 ≤ sizeLine; decide, fun tp htp => ?_⟩
        have stp := same_new (o := .tup [.ty "tuple", .ty "list"]) htp
        exact ⟨_, tp, _, _, _, false, rfl, upd_same, .cons (.ty _) (.cons (.ty _) .nil), .base .non, kitAny2 (x := false) (y := false) (kit_ty (by decide +kernel)) (kit_ty (by decide +kernel)), _, rfl, iteF ⟨_, rfl, rfl, _, rfl, iteT ⟨_, rfl, rfl, q _ stp⟩⟩⟩
      | str z =>
        refine ⟨_, rfl, by show 2 ≤ sizeLine; decide, fun tp htp => ?_⟩
        have stp := same_new (o := .tup [.ty "tuple", .ty "list"]) htp
        refine ⟨_, tp, _, .type "str", _, false, rfl, upd_same, .cons (.ty _) (.cons (.ty _) .nil), .base (.str z), kitAny2 (x := false) (y := false) (kit_ty (by decide +kernel)) (kit_ty (by decide +kernel)), _, rfl, iteF ⟨_, rfl, rfl, _, rfl, iteF ?_⟩⟩
        refine ⟨_, rfl, _, .ty "bool", .type "str", .type "bool", false, rfl, .ty _, .base (.str z), kit_ty (by decide +kernel), _, rfl, iteF ⟨_, rfl, _, .ty "str", .type "str", .type "str", true, rfl, .ty _, .base (.str z), kit_ty (by decide +kernel), _, rfl, iteT ⟨_, rfl, _, .ty "str", .type "str", .type "str", true, rfl, .ty _, .base (.str z), kit_ty (by decide +kernel), _, rfl, iteT ⟨_, rfl, _, rfl, rfl, ?_⟩⟩⟩⟩
        rw [decide_eq_true rfl]; exact q _ stp
      | bl z =>
        refine ⟨_, rfl, by show 2 ≤ sizeLine; decide, fun tp htp => ?_⟩
        have stp := same_new (o := .tup [.ty "tuple", .ty "list"]) htp
        refine ⟨_, tp, _, .type "bool", _, false, rfl, upd_same, .cons (.ty _) (.cons (.ty _) .nil), .base (.bl z), kitAny2 (x := false) (y := false) (kit_ty (by decide +kernel)) (kit_ty (by decide +kernel)), _, rfl, iteF ⟨_, rfl, rfl, _, rfl, iteF ?_⟩⟩
        refine ⟨_, rfl, _, .ty "bool", .type "bool", .type "bool", true, rfl, .ty _, .base (.bl z), kit_ty (by decide +kernel), _, rfl, iteT ⟨_, rfl, _, .ty "bool", .type "bool", .type "bool", true, rfl, .ty _, .base (.bl z), kit_ty (by decide +kernel), _, rfl, iteT ⟨_, rfl, _, rfl, rfl, ?_⟩⟩⟩
        rw [decide_eq_true rfl]; exact q _ stp
      | int z =>
        refine ⟨_, rfl, by show 2 ≤ sizeLine; decide, fun tp htp => ?_⟩
        have stp := same_new (o := .tup [.ty "tuple", .ty "list"]) htp
        refine ⟨_, tp, _, .type "int", _, false, rfl, upd_same, .cons (.ty _) (.cons (.ty _) .nil), .base (.int z), kitAny2 (x := false) (y := false) (kit_ty (by decide +kernel)) (kit_ty (by decide +kernel)), _, rfl, iteF ⟨_, rfl, rfl, _, rfl, iteF ?_⟩⟩
        refine ⟨_, rfl, _, .ty "bool", .type "int", .type "bool", false, rfl, .ty _, .base (.int z), kit_ty (by decide +kernel), _, rfl, iteF ⟨_, rfl, _, .ty "str", .type "int", .type "str", false, rfl, .ty _, .base (.int z), kit_ty (by decide +kernel), _, rfl, iteF ⟨_, rfl, _, .ty "int", .type "int", .type "int", true, rfl, .ty _, .base (.int z), kit_ty (by decide +kernel), _, rfl, iteT ⟨_, rfl, _, .ty "bool", .type "int", .type "bool", false, rfl, .ty _, .base (.int z), kit_ty (by decide +kernel), _, rfl, _, rfl, iteT ⟨_, rfl, _, rfl, rfl, ?_⟩⟩⟩⟩⟩
        rw [decide_eq_true rfl]; exact q _ stp
      | byt z => cases hsc
      | flt z => cases hsc
      | ref z => cases hsc
      | ty z => cases hsc
    · have el : xs.length = ys.length := hP.length
      refine ⟨_, rfl, by show 2 ≤ sizeLine; decide, fun tp htp => ?_⟩
      have s1 := same_new (o := .tup [.ty "tuple", .ty "list"]) htp
      refine ⟨_, tp, _, .type "tuple", _, true, rfl, upd_same, .cons (.ty _) (.cons (.ty _) .nil), .base (.tup (s1 _ _ hb)), kitAny2 (x := true) (y := false) (kit_ty (by decide +kernel)) (kit_ty (by decide +kernel)), _, rfl, iteT ?_⟩
      generalize upd H tp (.tup [.ty "tuple", .ty "list"]) = H1 at s1 ⊢
      refine ⟨_, rfl, by show 2 ≤ sizeLine; decide, fun tp2 htp2 => ?_⟩
      have s2 := Same.new (o := .tup [.ty "tuple", .ty "list"]) s1 htp2
      refine ⟨_, tp2, _, .type "tuple", _, true, rfl, upd_same, .cons (.ty _) (.cons (.ty _) .nil), .base (.tup (s2 _ _ ha)), kitAny2 (x := true) (y := false) (kit_ty (by decide +kernel)) (kit_ty (by decide +kernel)), _, rfl, ?_⟩
      generalize upd H1 tp2 (.tup [.ty "tuple", .ty "list"]) = H2 at s2 ⊢
      refine iteF ⟨_, rfl, _, .ty "list", .type "tuple", .type "list", false, rfl, .ty _, .base (.tup (s2 _ _ ha)), kit_ty (by decide +kernel), _, rfl, _, .ty "list", .type "tuple", .type "list", false, rfl, .ty _, .base (.tup (s2 _ _ hb)), kit_ty (by decide +kernel), rfl, _, rfl, ?_⟩
      rw [decide_eq_true rfl]
      refine iteF ⟨_, rfl, a, xs, rfl, .inr (SqT.of (s2 _ _ ha)), _, rfl, b, ys, rfl, .inr (SqT.of (s2 _ _ hb)), rfl, _, rfl, ?_⟩
      rw [el, decide_eq_true rfl]
      refine iteF ⟨_, rfl, b, ys, rfl, .inr (SqT.of (s2 _ _ hb)), _, rfl, by omega, by omega, for_it walk_range (fun i σ H' => ∃ v2 : Option V, σ = [some (.ref a), some (.ref b), v2] ∧ Same H H') ⟨none, rfl, s2⟩ (fun _ _ _ _ _ => trivial) ?_ ?_⟩
      · rintro i x σ Ha Hb hi ⟨v2, rfl, sa⟩ ⟨rfl, rfl⟩
        have hi2 : i < ys.length := by simpa using hi
        have hi1 : i < xs.length := by omega
        obtain ⟨y, hy, hsame⟩ := Paired.at hP (List.getElem?_eq_getElem hi1)
        refine ⟨_, rfl, _, rfl, a, xs, _, _, rfl, rfl, SqT.of (sa _ _ ha), at_of (by simp) (List.getElem?_eq_getElem hi1), _, rfl, _, rfl, b, ys, _, _, rfl, rfl, SqT.of (sa _ _ hb), at_of (by simp) hy, _, _, rfl, SameD.mono sa hsame, fun H2 s2 => ⟨_, rfl, iteF ⟨_, rfl, sa.trans s2⟩⟩⟩
      · rintro σ H1 ⟨v2, rfl, sa⟩
        exact q H1 sa
theorem ok_sameHL {f : Addr} {fd : FuncData} {n k : Nat} (F : C8.Fun K "_law_same" "_law_same" s__law_same f fd) (T : Txt K mg) (h__law_same : CalH P w K mg base k "_law_same" (sp_same n)) : L2H.FnH P w K mg base C8.CX0 (k + 1) f fd ["told", "due"] (sp_sameL n) := by
  refine fnH0 F sc__law_same (fun vs H Q E h => ?_) (fun cdv A outer s H vs Q E p hr h hot => ?_)
  · obtain ⟨a, xs, rfl, _⟩ := h; rfl
  · obtain ⟨a, xs, rfl, ha, hlen, hP, q⟩ := h
    refine ⟨_, (pss_cons (ps_if (pt_val (pe_callB call_isiT (by rfl) T.b_isinstance (by decide +kernel) (pa_cons (pv 1) (pa_cons (pe_tup (pa_cons (pe_bltn (v := .ty "tuple") (u := .type "tuple") rfl T.b_tuple (by decide +kernel) rfl) (pa_cons (pe_bltn (v := .ty "list") (u := .type "list") rfl T.b_list (by decide +kernel) rfl) pa_nil))) pa_nil)))) (pss_cons (ps_if (PW.pt (pw_or (pt_not (pt_val (pe_callB call_isiT (by rfl) T.b_isinstance (by decide +kernel) (pa_cons (pv 0) (pa_cons (pe_tup (pa_cons (pe_bltn (v := .ty "tuple") (u := .type "tuple") rfl T.b_tuple (by decide +kernel) rfl) (pa_cons (pe_bltn (v := .ty "list") (u := .type "list") rfl T.b_list (by decide +kernel) rfl) pa_nil))) pa_nil))))) (pw_or1 (pt_cmpR op_ne (pe_callB call_isi (by rfl) T.b_isinstance (by decide +kernel) (pa_cons (pv 0) (pa_cons (pe_bltn (v := .ty "list") (u := .type "list") rfl T.b_list (by decide +kernel) rfl) pa_nil))) (pe_callB call_isi (by rfl) T.b_isinstance (by decide +kernel) (pa_cons (pv 1) (pa_cons (pe_bltn (v := .ty "list") (u := .type "list") rfl T.b_list (by decide +kernel) rfl) pa_nil))) (nomark _))))) (pss_one (ps_ret pe_bl)) pss_nil)
      (pss_cons (ps_if (pt_cmpR op_ne (pe_callB call_len_seq (by rfl) T.b_len PySem.boot_len (pa_cons (pv 0) pa_nil)) (pe_callB call_len_seq (by rfl) T.b_len PySem.boot_len (pa_cons (pv 1) pa_nil)) (nomark _)) (pss_one (ps_ret pe_bl)) pss_nil)
      (pss_cons (L2H.ps_forH PassesOwn.never hot (L2H.pi_range1H rfl T.b_range (pa_cons (pe_callB call_len_seq (by rfl) T.b_len PySem.boot_len (pa_cons (pv 1) pa_nil)) pa_nil)) (pg_name (i := 2) sc__law_same.nd rfl (Or.inl rfl)) (pss_one (ps_if (pt_not (pt_val (pe_ch h__law_same hr (by first | decide | omega) hot (by rfl) (pa_cons (pe_ix ix_list (pv 0) (pv 2) (fun _ _ => rfl)) (pa_cons (pe_ix ix_list (pv 1) (pv 2) (fun _ _ => rfl)) pa_nil))))) (pss_one (ps_ret pe_bl)) pss_nil)))
      (pss_one (ps_ret pe_bl))))) pss_nil)
      (pss_cons (ps_if (pt_cmpR op_isN (pv 1) pe_non (nomark _)) (pss_one (ps_ret (pe_cmpR op_isN (pv 0) pe_non (nomark _)))) pss_nil)
      (pss_cons (ps_if (pt_val (pe_callB call_isi (by rfl) T.b_isinstance (by decide +kernel) (pa_cons (pv 1) (pa_cons (pe_bltn (v := .ty "bool") (u := .type "bool") rfl T.b_bool (by decide +kernel) rfl) pa_nil)))) (pss_one (ps_ret (pe_and (pe_callB call_isi (by rfl) T.b_isinstance (by decide +kernel) (pa_cons (pv 0) (pa_cons (pe_bltn (v := .ty "bool") (u := .type "bool") rfl T.b_bool (by decide +kernel) rfl) pa_nil))) (pe_one (pe_cmpR op_eq (pv 0) (pv 1) (nomark _)))))) pss_nil)
      (pss_cons (ps_if (pt_val (pe_callB call_isi (by rfl) T.b_isinstance (by decide +kernel) (pa_cons (pv 1) (pa_cons (pe_bltn (v := .ty "str") (u := .type "str") rfl T.b_str (by decide +kernel) rfl) pa_nil)))) (pss_one (ps_ret (pe_and (pe_callB call_isi (by rfl) T.b_isinstance (by decide +kernel) (pa_cons (pv 0) (pa_cons (pe_bltn (v := .ty "str") (u := .type "str") rfl T.b_str (by decide +kernel) rfl) pa_nil))) (pe_one (pe_cmpR op_eq (pv 0) (pv 1) (nomark _)))))) pss_nil)
      (pss_one (ps_ret (pe_and (pe_callB call_isi (by rfl) T.b_isinstance (by decide +kernel) (pa_cons (pv 0) (pa_cons (pe_bltn (v := .ty "int") (u := .type "int") rfl T.b_int (by decide +kernel) rfl) pa_nil))) (pe_and (pe_not (pe_callB call_isi (by rfl) T.b_isinstance (by decide +kernel) (pa_cons (pv 0) (pa_cons (pe_bltn (v := .ty "bool") (u := .type "bool") rfl T.b_bool (by decide +kernel) rfl) pa_nil)))) (pe_one (pe_cmpR op_eq (pv 0) (pv 1) (nomark _))))))))))), ?_⟩
    refine ⟨_, rfl, by show 2 ≤ sizeLine; decide, fun tp htp => ?_⟩
    have s1 := same_new (o := .tup [.ty "tuple", .ty "list"]) htp
    refine ⟨_, tp, _, .type "list", _, true, rfl, upd_same, .cons (.ty _) (.cons (.ty _) .nil), .base (.lst (s1 _ _ ha)), kitAny2 (x := false) (y := true) (kit_ty (by decide +kernel)) (kit_ty (by decide +kernel)), _, rfl, iteT ?_⟩
    generalize upd H tp (.tup [.ty "tuple", .ty "list"]) = H1 at s1 ⊢
    refine ⟨_, rfl, by show 2 ≤ sizeLine; decide, fun tp2 htp2 => ?_⟩
    have s2 := Same.new (o := .tup [.ty "tuple", .ty "list"]) s1 htp2
    refine ⟨_, tp2, _, .type "list", _, true, rfl, upd_same, .cons (.ty _) (.cons (.ty _) .nil), .base (.lst (s2 _ _ ha)), kitAny2 (x := false) (y := true) (kit_ty (by decide +kernel)) (kit_ty (by decide +kernel)), _, rfl, ?_⟩
    generalize upd H1 tp2 (.tup [.ty "tuple", .ty "list"]) = H2 at s2 ⊢
    refine iteF ⟨_, rfl, _, .ty "list", .type "list", .type "list", true, rfl, .ty _, .base (.lst (s2 _ _ ha)), kit_ty (by decide +kernel), _, rfl, _, .ty "list", .type "list", .type "list", true, rfl, .ty _, .base (.lst (s2 _ _ ha)), kit_ty (by decide +kernel), rfl, _, rfl, ?_⟩
    rw [decide_eq_true rfl]
    refine iteF ⟨_, rfl, a, xs, rfl, .inl (SqL.of (s2 _ _ ha)), _, rfl, a, xs, rfl, .inl (SqL.of (s2 _ _ ha)), rfl, _, rfl, ?_⟩
    rw [decide_eq_true rfl]
    refine iteF ⟨_, rfl, a, xs, rfl, .inl (SqL.of (s2 _ _ ha)), _, rfl, by omega, by omega, for_it walk_range (fun i σ H' => ∃ v2 : Option V, σ = [some (.ref a), some (.ref a), v2] ∧ Same H H') ⟨none, rfl, s2⟩ (fun _ _ _ _ _ => trivial) ?_ ?_⟩
    · rintro i x σ Ha Hb hi ⟨v2, rfl, sa⟩ ⟨rfl, rfl⟩
      have hi2 : i < xs.length := by simpa using hi
      have hx := List.getElem?_eq_getElem hi2
      refine ⟨_, rfl, _, rfl, a, xs, _, _, rfl, rfl, SqL.of (sa _ _ ha), at_of (by simp) hx, _, rfl, _, rfl, a, xs, _, _, rfl, rfl, SqL.of (sa _ _ ha), at_of (by simp) hx, _, _, rfl, SameD.mono sa (hP _ (List.getElem_mem hi2)), fun H2 s2 => ⟨_, rfl, iteF ⟨_, rfl, sa.trans s2⟩⟩⟩
    · rintro σ H1 ⟨v2, rfl, sa⟩
      exact q H1 sa
theorem FnH.imp {k : Nat} {f : Addr} {fd : FuncData} {ps : List Str} {sp sp' : Sp} (F : L2H.FnH P w K mg base C8.CX0 k f fd ps sp) (h : ∀ vs H Q E, sp' vs H Q E → sp vs H Q E) : L2H.FnH P w K mg base C8.CX0 k f fd ps sp' :=
  ⟨fun vs H Q E g => F.len vs H Q E (h _ _ _ _ g), fun A outer s H args us vs Q E p hr hot hpin e0 hb r g => F.run A outer s H args us vs Q E p hr hot hpin e0 hb r (h _ _ _ _ g)⟩
theorem FnH.or {k : Nat} {f : Addr} {fd : FuncData} {ps : List Str} {sp sp' : Sp} (F : L2H.FnH P w K mg base C8.CX0 k f fd ps sp) (G : L2H.FnH P w K mg base C8.CX0 k f fd ps sp') : L2H.FnH P w K mg base C8.CX0 k f fd ps (fun vs H Q E => sp vs H Q E ∨ sp' vs H Q E) :=
  ⟨fun vs H Q E g => g.elim (F.len vs H Q E) (G.len vs H Q E), fun A outer s H args us vs Q E p hr hot hpin e0 hb r g => g.elim (F.run A outer s H args us vs Q E p hr hot hpin e0 hb r) (G.run A outer s H args us vs Q E p hr hot hpin e0 hb r)⟩
theorem ok_sameHX {f : Addr} {fd : FuncData} (F : C8.Fun K "_law_same" "_law_same" s__law_same f fd) (T : Txt K mg) (h__law_same : CalH P w K mg base 1 "_law_same" (sp_same 0)) : L2H.FnH P w K mg base C8.CX0 2 f fd ["told", "due"] (fun vs H Q E => sp_same 1 vs H Q E ∨ sp_sameL 0 vs H Q E) := FnH.or (ok_sameHPS F T h__law_same) (ok_sameHL F T h__law_same)
end
end RJ
end

section
set_option maxRecDepth 100000
set_option maxHeartbeats 4000000
namespace RJ
open PySem PySem.Spec PyProof.Rows L2

theorem sc_natW {n : Nat} (h : n ≤ 2 * 10 ^ 50) : ScR (.int (n : Int)) := by
  refine .inr (.inr (.inl ⟨(n : Int), rfl, ?_, ?_⟩))
  · rw [Int.natAbs_natCast]
    by_cases h0 : n = 0
    · subst h0; decide
    · exact Nat.lt_trans ((Nat.log2_lt h0).mpr (Nat.lt_of_le_of_lt h (by decide +kernel : 2 * 10 ^ 50 < 2 ^ 200))) (by decide)
  · have e : toString ((n : Nat) : Int) = toString n := rfl
    show (Str.ofString (toString (n : Int))).length ≤ 200
    rw [SX.num_S, S_len]
    by_cases h0 : n = 0
    · subst h0; decide
    · exact Nat.le_trans (TL.numL_len (n := n) (k := 51) (by decide) (Nat.lt_of_le_of_lt h (by decide +kernel))) (by decide)
def sp_oddB : Sp := fun vs H Q _ => ∃ (p : Addr) (m : Nat), vs = [.ref p, .int (m : Int)] ∧ PoolAt p H ∧ m ≤ 10 ^ 50 ∧ ∀ H' x, PSame p H H' → RepH H' x → (∀ a, x = .ref a → a ≠ p) → numBelow x ((m : Int) + 1) = false → Q x H'
section
variable {P : Program} {w : World} {K : PySem.W.Frag} {mg : Str → Option Value} {base : Heap}
theorem ok_oddB {f : Addr} {fd : FuncData} (F : C8.Fun K "_law_odd" "_law_odd" s__law_odd f fd) (T : Txt K mg) (c__law_draw : C8.Cal P w K mg base 1 "_law_draw" sp_drawB []) : FnOk P w K mg base C8.CX0 2 f fd ["pool", "most"] sp_oddB := by
  refine C8.fn0 F sc__law_odd (fun vs H Q E h => ?_) (fun cdv A outer s H vs Q E hr h => ?_)
  · obtain ⟨p, m, rfl, _⟩ := h; rfl
  · obtain ⟨p, m, rfl, hP, hm, q⟩ := h
    have hsz : sizeLine = 16777216 := sizeLine_eq
    refine ⟨_, (pss_cons (ps_set (i := 2) sc__law_odd.nd rfl (Or.inl rfl) (C8.pe_c c__law_draw hr (by first | decide | omega) (by rfl) (pa_cons (pv 0) (pa_cons pe_int pa_nil))))
      (pss_cons (ps_set (i := 3) sc__law_odd.nd rfl (Or.inl rfl) (pe_lst (pa_cons pe_non (pa_cons pe_bl (pa_cons pe_bl (pa_cons (pe_un un_neg pe_int) (pa_cons (pe_op op_sub (pe_un un_neg pe_int) (pv 2)) (pa_cons (pe_op op_add (pv 1) pe_int) (pa_cons (pe_op op_add (pe_op op_add (pv 1) pe_int) (pv 2)) (pa_cons (pe_op op_add (pe_op op_pow pe_int pe_int) (pv 1)) (pa_cons pe_str (pa_cons pe_str (pa_cons (pe_tup (pa_cons pe_int pa_nil)) (pa_cons (pe_lst (pa_cons pe_int pa_nil)) (pa_cons (pe_tup pa_nil) pa_nil)))))))))))))))
      (pss_cons (ps_expr (pe_bm PySem.F.plainAttrs_list PySem.F.slot_list_append PySem.F.type_list_append mt_append (pv 3) (pa_cons (pe_lst (pa_cons (pv 2) (pa_cons pe_str pa_nil))) pa_nil)))
      (pss_one (ps_ret (pe_ix ix_list (pv 3) (C8.pe_c c__law_draw hr (by first | decide | omega) (by rfl) (pa_cons (pv 0) (pa_cons pe_int pa_nil))) (fun _ _ => rfl))))))), ?_⟩
    refine ⟨_, rfl, p, 900, rfl, hP, by decide, fun H1 n s1 hn => ?_⟩
    refine ⟨_, rfl, _, rfl, _, rfl, _, _, rfl, rfl, _, rfl, _, _, rfl, rfl, _, rfl, _, _, rfl, rfl, _, rfl, _, _, rfl, rfl, _, _, rfl, rfl, ⟨by decide, by decide, by decide⟩, _, rfl, _, _, rfl, rfl, by show 1 ≤ sizeLine; omega, fun T1 hT1 => ?_⟩
    have u1 := s1.new (o := .tup [.int 0]) hT1
    have f1 : (upd H1 T1 (.tup [.int 0])) T1 = some (.tup [.int 0]) := upd_same
    have m1 : T1 ≠ p := s1.at1.free hT1
    generalize upd H1 T1 (.tup [.int 0]) = G1 at u1 f1 ⊢
    refine ⟨by show 1 ≤ sizeLine; omega, fun L1 hL1 => ?_⟩
    have u2 := u1.new (o := .lst [.int 0]) hL1
    have y2 := same_new (o := .lst [.int 0]) hL1
    have f2 : (upd G1 L1 (.lst [.int 0])) L1 = some (.lst [.int 0]) := upd_same
    have m2 : L1 ≠ p := u1.at1.free hL1
    generalize upd G1 L1 (.lst [.int 0]) = G2 at u2 y2 f2 ⊢
    refine ⟨Nat.zero_le _, fun T0 hT0 => ?_⟩
    have u3 := u2.new (o := .tup []) hT0
    have y3 := same_new (o := .tup []) hT0
    have f3 : (upd G2 T0 (.tup [])) T0 = some (.tup []) := upd_same
    have m3 : T0 ≠ p := u2.at1.free hT0
    generalize upd G2 T0 (.tup []) = G3 at u3 y3 f3 ⊢
    refine ⟨by show 13 ≤ sizeLine; omega, fun OD hOD => ?_⟩
    obtain ⟨ls, hls⟩ : ∃ ls : List V, ls = [.non, .bl true, .bl false, .int (-1), .int (-1 - (n : Int)), .int ((m : Int) + 1), .int ((m : Int) + 1 + (n : Int)), .int ((10 : Int) ^ Int.toNat 40 + (m : Int)), .str (Str.ofString "0"), .str (Str.ofString ""), .ref T1, .ref L1, .ref T0] := ⟨_, rfl⟩
    have f4 : (upd G3 OD (.lst [.non, .bl true, .bl false, .int (-1), .int (-1 - (n : Int)), .int ((m : Int) + 1), .int ((m : Int) + 1 + (n : Int)), .int ((10 : Int) ^ Int.toNat 40 + (m : Int)), .str (Str.ofString "0"), .str (Str.ofString ""), .ref T1, .ref L1, .ref T0])) OD = some (.lst ls) := by rw [upd_same, hls]
    have y4 := same_new (o := .lst [.non, .bl true, .bl false, .int (-1), .int (-1 - (n : Int)), .int ((m : Int) + 1), .int ((m : Int) + 1 + (n : Int)), .int ((10 : Int) ^ Int.toNat 40 + (m : Int)), .str (Str.ofString "0"), .str (Str.ofString ""), .ref T1, .ref L1, .ref T0]) hOD
    have u4 := u3.then y4
    have zOD : H OD = none := u3.none hOD
    have mOD : OD ≠ p := u3.at1.free hOD
    have nT1 : T1 ≠ OD := ne_of_none (y3 _ _ (y2 _ _ f1)) hOD
    have nL1 : L1 ≠ OD := ne_of_none (y3 _ _ f2) hOD
    have nT0 : T0 ≠ OD := ne_of_none f3 hOD
    generalize upd G3 OD (.lst [.non, .bl true, .bl false, .int (-1), .int (-1 - (n : Int)), .int ((m : Int) + 1), .int ((m : Int) + 1 + (n : Int)), .int ((10 : Int) ^ Int.toNat 40 + (m : Int)), .str (Str.ofString "0"), .str (Str.ofString ""), .ref T1, .ref L1, .ref T0]) = G4 at f4 y4 u4 ⊢
    have ll : ls.length = 13 := by rw [hls]; rfl
    refine ⟨_, rfl, .inl ⟨rfl, _, SqL.of f4⟩, _, rfl, by show 2 ≤ sizeLine; omega, fun L2 hL2 => ?_⟩
    have y5 := same_new (o := .lst [.int (n : Int), .str (Str.ofString "a")]) hL2
    have u5 := u4.then y5
    have f5 : (upd G4 L2 (.lst [.int (n : Int), .str (Str.ofString "a")])) L2 = some (.lst [.int (n : Int), .str (Str.ofString "a")]) := upd_same
    have nL2 : L2 ≠ OD := Ne.symm (ne_of_none f4 hL2)
    have m5 : L2 ≠ p := u4.at1.free hL2
    generalize upd G4 L2 (.lst [.int (n : Int), .str (Str.ofString "a")]) = G5 at y5 u5 f5 ⊢
    refine ⟨OD, _, _, rfl, rfl, y5 _ _ f4, by omega, ?_⟩
    have u6 := u5.put (o := .lst (ls ++ [.ref L2])) zOD
    have f6 : (upd G5 OD (.lst (ls ++ [.ref L2]))) OD = some (.lst (ls ++ [.ref L2])) := upd_same
    have g1 := (upd_ne (o := .lst (ls ++ [.ref L2])) nT1).trans (y5 _ _ (y4 _ _ (y3 _ _ (y2 _ _ f1))))
    have g2 := (upd_ne (o := .lst (ls ++ [.ref L2])) nL1).trans (y5 _ _ (y4 _ _ (y3 _ _ f2)))
    have g3 := (upd_ne (o := .lst (ls ++ [.ref L2])) nT0).trans (y5 _ _ (y4 _ _ f3))
    have g5 := (upd_ne (o := .lst (ls ++ [.ref L2])) nL2).trans f5
    generalize upd G5 OD (.lst (ls ++ [.ref L2])) = G6 at u6 f6 g1 g2 g3 g5 ⊢
    refine ⟨_, rfl, _, rfl, p, 14, rfl, u6.at1, by decide, fun G7 e s7 he => ?_⟩
    have u7 := u6.trans s7
    replace hn : n < 900 := by omega
    have sc1 : ∀ y ∈ ([.int 0] : List V), ScR y := fun y hy => by
      rw [List.mem_singleton.mp hy]; exact sc_nat (n := 0) (by decide)
    have sc2 : ∀ y ∈ ([.int (n : Int), .str (Str.ofString "a")] : List V), ScR y := fun y hy => by
      simp only [List.mem_cons, List.not_mem_nil, or_false] at hy
      rcases hy with rfl | rfl
      · exact sc_nat (Nat.le_trans (Nat.le_of_lt hn) (by decide +kernel : 900 ≤ 10 ^ 40 + 900))
      · exact sc_a
    have i1 : numBelow (.int ((m : Int) + 1)) ((m : Int) + 1) = false := by
      show (decide ((0 : Int) ≤ (m : Int) + 1) && decide ((m : Int) + 1 < (m : Int) + 1)) = false
      rw [decide_eq_false (by omega : ¬ (m : Int) + 1 < (m : Int) + 1), Bool.and_false]
    have i2 : numBelow (.int ((m : Int) + 1 + (n : Int))) ((m : Int) + 1) = false := by
      show (decide ((0 : Int) ≤ (m : Int) + 1 + (n : Int)) && decide ((m : Int) + 1 + (n : Int) < (m : Int) + 1)) = false
      rw [decide_eq_false (by omega : ¬ (m : Int) + 1 + (n : Int) < (m : Int) + 1), Bool.and_false]
    have i3 : numBelow (.int (-1 - (n : Int))) ((m : Int) + 1) = false := by
      show (decide ((0 : Int) ≤ -1 - (n : Int)) && decide (-1 - (n : Int) < (m : Int) + 1)) = false
      rw [decide_eq_false (by omega : ¬ (0 : Int) ≤ -1 - (n : Int)), Bool.false_and]
    have big : (10 : Int) ^ Int.toNat 40 + (m : Int) = ((10 ^ 40 + m : Nat) : Int) := by
      rw [Int.natCast_add]; rfl
    have i4 : numBelow (.int ((10 : Int) ^ Int.toNat 40 + (m : Int))) ((m : Int) + 1) = false := by
      have h40 : 0 < 10 ^ 40 := by decide +kernel
      rw [big]
      show (decide ((0 : Int) ≤ ((10 ^ 40 + m : Nat) : Int)) && decide (((10 ^ 40 + m : Nat) : Int) < (m : Int) + 1)) = false
      rw [decide_eq_false (by omega : ¬ ((10 ^ 40 + m : Nat) : Int) < (m : Int) + 1), Bool.and_false]
    obtain ⟨x, hx, hrep, hnp, hnb⟩ : ∃ x, atI (ls ++ [V.ref L2]) (e : Int) = some x ∧ RepH G7 x ∧ (∀ a, x = .ref a → a ≠ p) ∧ numBelow x ((m : Int) + 1) = false := by
      subst hls
      match e, he with
      | 0, _ => exact ⟨_, rfl, .inl (.inl rfl), (fun a e => by cases e), rfl⟩
      | 1, _ => exact ⟨_, rfl, .inl (.inr (.inl ⟨_, rfl⟩)), (fun a e => by cases e), rfl⟩
      | 2, _ => exact ⟨_, rfl, .inl (.inr (.inl ⟨_, rfl⟩)), (fun a e => by cases e), rfl⟩
      | 3, _ => exact ⟨_, rfl, .inl (sc_neg (n := 0) (by decide)), (fun a e => by cases e), rfl⟩
      | 4, _ => exact ⟨_, rfl, .inl (sc_neg hn), (fun a e => by cases e), i3⟩
      | 5, _ => exact ⟨_, rfl, .inl (sc_natW (n := m + 1) (Nat.le_trans (Nat.add_le_add_right hm 1) (by decide +kernel))), (fun a e => by cases e), i1⟩
      | 6, _ => exact ⟨_, rfl, .inl (sc_natW (n := m + 1 + n) (Nat.le_trans (Nat.add_le_add (Nat.add_le_add_right hm 1) (Nat.le_of_lt hn)) (by decide +kernel))), (fun a e => by cases e), i2⟩
      | 7, _ => exact ⟨_, rfl, .inl (by rw [big]; exact sc_natW (Nat.le_trans (Nat.add_le_add_left hm _) (by decide +kernel))), (fun a e => by cases e), i4⟩
      | 8, _ => exact ⟨_, rfl, .inl sc_0, (fun a e => by cases e), rfl⟩
      | 9, _ => exact ⟨_, rfl, .inl sc_e, (fun a e => by cases e), rfl⟩
      | 10, _ => exact ⟨_, rfl, .inr ⟨T1, _, rfl, .inl (s7.x _ _ m1 g1), sc1, by decide⟩, (fun a e => by cases e; exact m1), rfl⟩
      | 11, _ => exact ⟨_, rfl, .inr ⟨L1, _, rfl, .inr (s7.x _ _ m2 g2), sc1, by decide⟩, (fun a e => by cases e; exact m2), rfl⟩
      | 12, _ => exact ⟨_, rfl, .inr ⟨T0, _, rfl, .inl (s7.x _ _ m3 g3), (fun y hy => nomatch hy), by decide⟩, (fun a e => by cases e; exact m3), rfl⟩
      | 13, _ => exact ⟨_, rfl, .inr ⟨L2, _, rfl, .inr (s7.x _ _ m5 g5), sc2, by show 2 ≤ 1000; decide⟩, (fun a e => by cases e; exact m5), rfl⟩
    exact ⟨OD, _, _, _, rfl, rfl, SqL.of (s7.x _ _ mOD f6), hx, q _ x u7 hrep hnp hnb⟩
theorem ok_alone1 {f CE CUnknownSign CInvalidNumber CNoPiece CNotCut CInvalidAlphabet CInvalidModel CInvalidText CNoChance CNotProper : Addr} {fd : FuncData} (F : C8.Fun K "_law_alone" "_law_alone" s__law_alone f fd) (T : Txt K mg)
    (GUnknownSign : mg "UnknownSign" = some (.ref CUnknownSign)) (GInvalidNumber : mg "InvalidNumber" = some (.ref CInvalidNumber)) (GNoPiece : mg "NoPiece" = some (.ref CNoPiece)) (GNotCut : mg "NotCut" = some (.ref CNotCut))
    (GInvalidAlphabet : mg "InvalidAlphabet" = some (.ref CInvalidAlphabet)) (GInvalidModel : mg "InvalidModel" = some (.ref CInvalidModel)) (GInvalidText : mg "InvalidText" = some (.ref CInvalidText)) (GNoChance : mg "NoChance" = some (.ref CNoChance)) (GNotProper : mg "NotProper" = some (.ref CNotProper))
    (eiE : ErrI K CE) (o0 : PySem.W.kitOne K (.ref CE) (.ref CUnknownSign) = some false) (o1 : PySem.W.kitOne K (.ref CE) (.ref CInvalidNumber) = some true) (o2 : PySem.W.kitOne K (.ref CE) (.ref CNoPiece) = some false) (o3 : PySem.W.kitOne K (.ref CE) (.ref CNotCut) = some false)
    (oV : PySem.W.kitOne K (.ref CE) (.type "ValueError") = some true) (oA : PySem.W.kitAny K (.ref CE) [.ref CInvalidAlphabet, .ref CInvalidModel, .ref CInvalidText, .ref CNoChance, .ref CNotProper] = some false)
    (p : Addr × Obj) (cls : Value) (d : Option Addr) (hz : Zc cls d p.2) (hf : ∃ vs, p.2.data = .fields vs) : FnE P w K mg base 1 f fd ["e", "kind"] p (sp_alone CE 1 p.1 cls d) := ok_alone (kk := 1) F T GUnknownSign GInvalidNumber GNoPiece GNotCut GInvalidAlphabet GInvalidModel GInvalidText GNoChance GNotProper eiE o0 o1 o2 o3 oV oA p cls d hz hf
end
end RJ
end

section
set_option maxRecDepth 100000
set_option maxHeartbeats 8000000
namespace RJ
open PySem PySem.Spec PyProof.Rows L2
abbrev s__law_as : Stmt := top 63
abbrev N__law_as : List Str := ["pool", "row"]
theorem sc__law_as : FnScope N__law_as ["pool", "row"] (C8.fnScope s__law_as) := C8.fnScope_by (by decide +kernel)
theorem kTup_seq {K : PySem.W.Frag} {b : Bool} {H : Hp} {a : Addr} {xs : List V} {Q : VK} (h : SeqAt b H a xs) (q : ∀ H' z, Same H H' → H' z = some (.tup xs) → Q (.ref z) H') : kTup K (.ref a) H Q := by
  cases b with
  | true => exact .inl ⟨a, xs, rfl, SqL.of h, fun z hz => q _ z (same_new hz) upd_same⟩
  | false => exact .inr ⟨a, xs, rfl, SqT.of h, q H a (Same.refl H) h⟩
theorem SameD.rowZ {H : Hp} {a b : Addr} {l : List Int} (ha : H a = some (.tup (l.map V.int))) (hb : H b = some (.tup (l.map V.int))) (hl : l.length ≤ 1000) : SameD H 1 (.ref a) (.ref b) :=
  .inr ⟨a, b, _, _, rfl, rfl, ha, hb, by rw [List.length_map]; exact hl, Paired.same fun x hx => by
    obtain ⟨k, _, rfl⟩ := List.mem_map.mp hx
    exact SameD.flat rfl 0⟩
theorem SameD.rowT {H : Hp} {a b : Addr} {ts : List (List Nat)} (ha : H a = some (.tup (strV ts))) (hb : H b = some (.tup (strV ts))) (hl : ts.length ≤ 1000) : SameD H 1 (.ref a) (.ref b) :=
  .inr ⟨a, b, _, _, rfl, rfl, ha, hb, by rw [strV_len]; exact hl, Paired.same fun x hx => by
    obtain ⟨k, _, rfl⟩ := List.mem_map.mp hx
    exact SameD.flat rfl 0⟩
theorem flat_le {ts : List (List Nat)} {n : Nat} (h : ∀ t ∈ ts, t.length ≤ n) : ts.flatten.length ≤ n * ts.length := by
  induction ts with
  | nil => exact Nat.zero_le _
  | cons a ts ih =>
    rw [List.flatten_cons, List.length_append, List.length_cons, Nat.mul_succ]
    have h1 := h a List.mem_cons_self
    have h2 := ih fun t ht => h t (List.mem_cons_of_mem _ ht)
    omega
theorem cutV_toV (xs : List V) (k : Nat) : cutV xs none (some (k : Int)) = xs.take k := by
  unfold cutV
  rw [HT.sIx_nat, HT.sIx_none, List.drop_zero, Nat.sub_zero]
  by_cases h : k ≤ xs.length
  · rw [Nat.min_eq_left h]
  · rw [Nat.min_eq_right (by omega), List.take_length, List.take_of_length_le (by omega)]
theorem cutV_fromV' (xs : List V) (k : Nat) : cutV xs (some (k : Int)) none = xs.drop k := by
  unfold cutV
  rw [HT.sIx_nat, HT.sIx_none]
  by_cases h : k ≤ xs.length
  · rw [Nat.min_eq_left h, List.take_of_length_le (by rw [List.length_drop]; omega)]
  · rw [Nat.min_eq_right (by omega), List.drop_length, List.drop_eq_nil_of_le (by omega : xs.length ≤ k), List.take_nil]
def sp_as : Sp := fun vs H Q _ => ∃ (p a : Addr) (xs : List V), vs = [.ref p, .ref a] ∧ PoolAt p H ∧ H a = some (.lst xs) ∧ a ≠ p ∧ ∀ H' z b, PSame p H H' → H z = none → SeqAt b H' z xs → Q (.ref z) H'
def sp_lglued (C : Addr) : Sp := fun vs H Q _ => ∃ (p y l r d : Addr) (u v al : List Nat) (ps : List (Nat × Nat)), vs = [.ref p, .ref y, .ref l, .ref r, .ref d] ∧ PoolAt p H ∧ JoinsAt C H y al ps ∧ 1 ≤ al.length ∧ H l = some (.lst (iv u)) ∧ H r = some (.lst (iv v)) ∧ H d = some (.lst (iv (CT al ps (textR (textsOf al ps) u ++ textR (textsOf al ps) v)))) ∧ l ≠ p ∧ r ≠ p ∧ d ≠ p ∧ Proper al ps ∧ al.Nodup ∧ al.length ≤ 400 ∧ ps.length ≤ 400 ∧ u.length ≤ 1000 ∧ v.length ≤ 1000 ∧ CutRow al ps u ∧ CutRow al ps v ∧
  (textR (textsOf al ps) u).length + (textR (textsOf al ps) v).length ≤ 1000 ∧ ∀ H', PSame p H H' → Q (.bl true) H'
/-- a stretch that no cut has -/
def BadW (al : List Nat) (ps : List (Nat × Nat)) (ws : List Int) : Prop := ∀ u v : List Nat, ¬ IsCutZ al ps (castZ u ++ ws ++ castZ v)
def sp_lrefG (C : Addr) : Sp := fun vs H Q _ => ∃ (y a c d : Addr) (b b2 : Bool) (u v due : List Int) (al : List Nat) (ps : List (Nat × Nat)), vs = [.ref y, .ref a, .ref c, .ref d] ∧ JoinsAt C H y al ps ∧ Proper al ps ∧ al.Nodup ∧ al.length ≤ 400 ∧ ps.length ≤ 400 ∧ SeqAt b H a (u.map V.int) ∧ SeqAt b2 H c (v.map V.int) ∧ u.length ≤ 1000 ∧ v.length ≤ 1000 ∧ OddInts u ∧ OddInts v ∧ H d = some (.lst (due.map V.int)) ∧
  ((¬ IsCutZ al ps u ∧ due = u) ∨ (IsCutZ al ps u ∧ ¬ IsCutZ al ps v ∧ due = v)) ∧ ∀ H', Same H H' → Q (.bl true) H'
def sp_lparts (C : Addr) : Sp := fun vs H Q _ => ∃ (p y r pp tx : Addr) (us : List V) (al : List Nat) (ps : List (Nat × Nat)), vs = [.ref p, .ref y, .str (S al), .ref r] ∧ PoolAt p H ∧ JoinsAt C H y al ps ∧ H r = some (.tup [.ref pp, .ref tx]) ∧ H pp = some (.lst us) ∧ PairsAt H us ps ∧ H tx = some (.lst (strV (textsOf al ps))) ∧ pp ≠ p ∧ tx ≠ p ∧ Proper al ps ∧ al.Nodup ∧ 1 ≤ al.length ∧ al.length ≤ 30 ∧ ps.length ≤ 100 ∧ ∀ H', PSame p H H' → Q (.bl true) H'
def sp_nocut : Sp := fun vs H Q _ => ∃ (p r pp tx a : Addr) (us : List V) (al row : List Nat) (ps : List (Nat × Nat)), vs = [.ref p, .str (S al), .ref r, .ref a] ∧ PoolAt p H ∧ H r = some (.tup [.ref pp, .ref tx]) ∧ H pp = some (.lst us) ∧ PairsAt H us ps ∧ H tx = some (.lst (strV (textsOf al ps))) ∧ pp ≠ p ∧ tx ≠ p ∧ H a = some (.lst (iv row)) ∧ a ≠ p ∧ (∀ x ∈ row, x < al.length + ps.length) ∧ row.length ≤ 60 ∧ Proper al ps ∧ al.Nodup ∧ 1 ≤ al.length ∧ al.length ≤ 30 ∧ ps.length ≤ 100 ∧
  ∀ H' z zs, PSame p H H' → H z = none → H' z = some (.lst (zs.map V.int)) → ¬ IsCutZ al ps zs → OddInts zs → zs.length ≤ 200 → Q (.ref z) H'
theorem bad_out {al : List Nat} {ps : List (Nat × Nat)} {ws : List Int} {z : Int} (hz : z ∈ ws) (h : z < 0 ∨ ((al.length + ps.length : Nat) : Int) ≤ z) : BadW al ps ws := by
  rintro u v ⟨row, e, hin, _⟩
  have : z ∈ castZ row := by rw [← e]; exact List.mem_append_left _ (List.mem_append_right _ hz)
  obtain ⟨n, hn, rfl⟩ := List.mem_map.mp this
  have := hin n hn
  omega
theorem castZ_app (u v : List Nat) : castZ (u ++ v) = castZ u ++ castZ v := by unfold castZ; rw [List.map_append]
theorem bad_pair {al : List Nat} {ps : List (Nat × Nat)} (hnd : al.Nodup) (hprop : Proper al ps) {l r : Nat} (hl : l < al.length + ps.length) (hr : r < al.length + ps.length) (h : CT al ps (TX al ps l ++ TX al ps r) ≠ [l, r]) : BadW al ps [(l : Int), (r : Int)] := by
  rintro u v ⟨row, e, hin, hcut⟩
  have e1 : row = u ++ [l, r] ++ v := by
    apply castZ_inj
    rw [← e, castZ_app, castZ_app]; rfl
  subst e1
  have h1 := cut_row_iff (hprop.good hnd) hin
  rw [Dn_texts hnd hprop hin] at h1
  have h2 := h1.mp hcut (l, r) (by
    rw [List.append_assoc]
    show (l, r) ∈ adjs (u ++ l :: ([r] ++ v))
    rw [adjs_append]
    refine List.mem_append_right _ ?_
    show (l, r) ∈ adjs (l :: r :: v)
    rw [adjs_cons2]; exact List.mem_cons_self)
  exact h ((pair_iff hnd hprop hl hr).mpr h2)
theorem textsOf_piece {al : List Nat} {ps : List (Nat × Nat)} : WF al.length ps → ∀ {k l r : Nat}, ps[k]? = some (l, r) → (textsOf al ps)[al.length + k]? = some (TX al ps l ++ TX al ps r) := by
  induction ps using snoc_ind with
  | h0 => intro _ k l r h; cases h
  | h1 ps p ih =>
    intro hw k l r h
    have hlt := (List.getElem?_eq_some_iff.mp h).1
    rw [List.length_append, List.length_singleton] at hlt
    have hwk := hw k (l, r) h
    have hT : (textsOf al ps).length = al.length + ps.length := textsOf_len al ps
    have tx : ∀ x, x < al.length + ps.length → TX al (ps ++ [p]) x = TX al ps x := fun x hx => by
      show (textsOf al (ps ++ [p])).getD x [] = (textsOf al ps).getD x []
      rw [textsOf_snoc, List.getD_eq_getElem?_getD, List.getElem?_append_left (by omega), ← List.getD_eq_getElem?_getD]
    have hl : l < al.length + ps.length := by have := hwk.1; show l < _; omega
    have hr : r < al.length + ps.length := by have := hwk.2; show r < _; omega
    rw [tx l hl, tx r hr, textsOf_snoc]
    rcases Nat.lt_or_ge k ps.length with c | c
    · rw [List.getElem?_append_left c] at h
      rw [List.getElem?_append_left (by omega)]
      exact ih (fun i q hq => hw i q (by rw [List.getElem?_append_left (List.getElem?_eq_some_iff.mp hq).1]; exact hq)) h
    · obtain rfl : k = ps.length := by omega
      rw [List.getElem?_append_right (Nat.le_refl _), Nat.sub_self] at h
      obtain rfl : p = (l, r) := Option.some.inj h
      rw [List.getElem?_append_right (by omega), hT, Nat.sub_self]; rfl
theorem bad_join {al : List Nat} {ps : List (Nat × Nat)} (hnd : al.Nodup) (hprop : Proper al ps) {k l r : Nat} (hk : ps[k]? = some (l, r)) : l < al.length + ps.length ∧ r < al.length + ps.length ∧ BadW al ps [(l : Int), (r : Int)] := by
  have hkl := (List.getElem?_eq_some_iff.mp hk).1
  have hw := hprop.wf k (l, r) hk
  have hl : l < al.length + ps.length := by have := hw.1; omega
  have hr : r < al.length + ps.length := by have := hw.2; omega
  refine ⟨hl, hr, bad_pair hnd hprop hl hr fun h => ?_⟩
  have ht := textsOf_piece hprop.wf hk
  have := cut_piece hnd hprop (al.length + k) _ ht
  rw [show cutL al.length ps (lets al (TX al ps l ++ TX al ps r)) = [l, r] from h] at this
  cases this
section
variable {P : Program} {w : World} {K : PySem.W.Frag} {mg : Str → Option Value} {base : Heap}
theorem ok_as {f : Addr} {fd : FuncData} (F : C8.Fun K "_law_as" "_law_as" s__law_as f fd) (T : Txt K mg) (c__law_draw : C8.Cal P w K mg base 1 "_law_draw" sp_drawB []) : FnOk P w K mg base C8.CX0 2 f fd ["pool", "row"] sp_as := by
  refine C8.fn0 F sc__law_as (fun vs H Q E h => ?_) (fun cdv A outer s H vs Q E hr h => ?_)
  · obtain ⟨p, a, xs, rfl, _⟩ := h; rfl
  · obtain ⟨p, a, xs, rfl, hP, ha, hap, q⟩ := h
    refine ⟨_, (pss_cons (ps_if (pt_cmpR op_eq (C8.pe_c c__law_draw hr (by first | decide | omega) (by rfl) (pa_cons (pv 0) (pa_cons pe_int pa_nil))) pe_int (nomark _)) (pss_one (ps_ret (pe_callTy call_list_of (by rfl) T.b_list (by decide +kernel) (pa_cons (pv 1) pa_nil)))) pss_nil)
      (pss_one (ps_ret (pe_tupleOf (by rfl) T.b_tuple (pv 1))))), ?_⟩
    refine ⟨_, rfl, p, 2, rfl, hP, by decide, fun H1 e s1 he => ⟨rfl, _, rfl, ?_⟩⟩
    show (if decide (V.int (e : Int) = V.int 0) = true then _ else _)
    obtain ⟨k, hk⟩ : ∃ k : Bool, k = decide (V.int (e : Int) = V.int 0) := ⟨_, rfl⟩
    rw [← hk]
    have ha1 := s1.lst hap ha
    cases k with
    | true => exact iteT ⟨_, rfl, a, xs, rfl, .inl (SqL.of ha1), fun z hz => q _ z true (s1.new hz) (s1.none hz) upd_same⟩
    | false => exact iteF ⟨_, rfl, .inl ⟨a, xs, rfl, SqL.of ha1, fun z hz => q _ z false (s1.new hz) (s1.none hz) upd_same⟩⟩
theorem ok_aloneN {f CE CUnknownSign CInvalidNumber CNoPiece CNotCut CInvalidAlphabet CInvalidModel CInvalidText CNoChance CNotProper : Addr} {fd : FuncData} (F : C8.Fun K "_law_alone" "_law_alone" s__law_alone f fd) (T : Txt K mg)
    (GUnknownSign : mg "UnknownSign" = some (.ref CUnknownSign)) (GInvalidNumber : mg "InvalidNumber" = some (.ref CInvalidNumber)) (GNoPiece : mg "NoPiece" = some (.ref CNoPiece)) (GNotCut : mg "NotCut" = some (.ref CNotCut))
    (GInvalidAlphabet : mg "InvalidAlphabet" = some (.ref CInvalidAlphabet)) (GInvalidModel : mg "InvalidModel" = some (.ref CInvalidModel)) (GInvalidText : mg "InvalidText" = some (.ref CInvalidText)) (GNoChance : mg "NoChance" = some (.ref CNoChance)) (GNotProper : mg "NotProper" = some (.ref CNotProper))
    (eiE : ErrI K CE) (o0 : PySem.W.kitOne K (.ref CE) (.ref CUnknownSign) = some false) (o1 : PySem.W.kitOne K (.ref CE) (.ref CInvalidNumber) = some false) (o2 : PySem.W.kitOne K (.ref CE) (.ref CNoPiece) = some false) (o3 : PySem.W.kitOne K (.ref CE) (.ref CNotCut) = some true)
    (oV : PySem.W.kitOne K (.ref CE) (.type "ValueError") = some true) (oA : PySem.W.kitAny K (.ref CE) [.ref CInvalidAlphabet, .ref CInvalidModel, .ref CInvalidText, .ref CNoChance, .ref CNotProper] = some false)
    (p : Addr × Obj) (cls : Value) (d : Option Addr) (hz : Zc cls d p.2) (hf : ∃ vs, p.2.data = .fields vs) : FnE P w K mg base 1 f fd ["e", "kind"] p (sp_alone CE 3 p.1 cls d) := ok_alone (kk := 3) F T GUnknownSign GInvalidNumber GNoPiece GNotCut GInvalidAlphabet GInvalidModel GInvalidText GNoChance GNotProper eiE o0 o1 o2 o3 oV oA p cls d hz hf
end
end RJ
end

section
set_option maxRecDepth 100000
set_option maxHeartbeats 8000000
namespace RJ
open PySem PySem.Spec PyProof.Rows L2
abbrev s_following_masks : Stmt := top 37
abbrev N_following_masks : List Str := ["joins", "right_bounds", "left_bounds", "masks", "rank", "left", "right", "crossed", "piece", "bounds", "_"]
theorem sc_following_masks : FnScope N_following_masks ["joins"] (C8.fnScope s_following_masks) := C8.fnScope_by (by decide +kernel)
abbrev s_Joins___iter__ : Stmt := inClass (top 28) 3
abbrev N_Joins___iter__ : List Str := ["self"]
theorem sc_Joins___iter__ : FnScope N_Joins___iter__ ["self"] (C8.fnScope s_Joins___iter__) := C8.fnScope_by (by decide +kernel)
abbrev s_Joins_pieces : Stmt := inClass (top 28) 1
abbrev N_Joins_pieces : List Str := ["self"]
theorem sc_Joins_pieces : FnScope N_Joins_pieces ["self"] (C8.fnScope s_Joins_pieces) := C8.fnScope_by (by decide +kernel)
def sp_spineF (C : Addr) : Sp := fun vs H Q _ => ∃ (p : Addr) (al : List Nat) (ps : List (Nat × Nat)) (x k : Nat), vs = [.ref p, .int (x : Int), .int (k : Int)] ∧ JoinsAt C H p al ps ∧ Proper al ps ∧ al.length ≤ 400 ∧ ps.length ≤ 400 ∧ x < al.length + ps.length ∧ k < 2 ∧
  ∀ H' q o us es, Same H H' → H' q = some (.frz o (.tup us)) → o.dict = none → Paired (StepAt H') us es → IsSpine al.length ps (sdOf k) x es → es.length ≤ 1000 → Q (.ref q) H'
def sp_rspineF (k : Nat) (C : Addr) : Sp := fun vs H Q _ => ∃ (p : Addr) (al : List Nat) (ps : List (Nat × Nat)) (x : Nat), vs = [.ref p, .int (x : Int)] ∧ JoinsAt C H p al ps ∧ Proper al ps ∧ al.length ≤ 400 ∧ ps.length ≤ 400 ∧ x < al.length + ps.length ∧
  ∀ H' q o us es, Same H H' → H' q = some (.frz o (.tup us)) → o.dict = none → Paired (StepAt H') us es → IsSpine al.length ps (sdOf k) x es → es.length ≤ 1000 → Q (.ref q) H'
def sp_iter (C : Addr) : Sp := fun vs H Q _ => ∃ (p : Addr) (al : List Nat) (ps : List (Nat × Nat)), vs = [.ref p] ∧ JoinsAt C H p al ps ∧
  ∀ it pa us, H pa = some (.tup us) → PairsAt H us ps → H it = none → Q (.ref it) (upd H it (TupI it pa us.length 0))
def sp_pieces (C : Addr) : Sp := fun vs H Q _ => ∃ (p : Addr) (al : List Nat) (ps : List (Nat × Nat)), vs = [.ref p] ∧ JoinsAt C H p al ps ∧ Q (.int ((al.length + ps.length : Nat) : Int)) H
section
variable {P : Program} {w : World} {K : PySem.W.Frag} {mg : Str → Option Value} {base : Heap}
theorem ok_spineF {f C : Addr} {fd : FuncData} (F : C8.Fun K "spine" "spine" s_spine f fd) (T : Txt K mg) (J : JTxt K C) (m_parts_of : C8.Met P w K mg base 5 C "parts_of" (sp_partsG C) []) (m_rank_of : C8.Met P w K mg base 5 C "rank_of" (sp_rank C) []) : FnOk P w K mg base C8.CX0 6 f fd ["joins", "piece", "side"] (sp_spineF C) := by
  refine C8.fn0 F sc_spine (fun vs H Q E h => ?_) (fun cdv A outer s H vs Q E hr h => ?_)
  · obtain ⟨p, al, ps, x, k, rfl, _⟩ := h; rfl
  · obtain ⟨p, al, ps, x, k, rfl, hj, hprop, hal, hpl, hx, hk, q⟩ := h
    have hw := hprop.wf
    have met : ∀ H', Same H H' → ∃ dx fs, H' p = some (.ins C dx fs) ∧ fs.lookup ("parts_of" : Str) = none ∧ fs.lookup ("rank_of" : Str) = none := fun H' s' => by
      obtain ⟨dx, t, tx, d, e, ws, h1, _⟩ := hj.same s'
      exact ⟨dx, _, h1, f5_no al t tx d e (by decide +kernel) (by decide +kernel) (by decide +kernel) (by decide +kernel) (by decide +kernel), f5_no al t tx d e (by decide +kernel) (by decide +kernel) (by decide +kernel) (by decide +kernel) (by decide +kernel)⟩
    refine ⟨_, (pss_cons (ps_set (i := 3) sc_spine.nd rfl (Or.inl rfl) (pe_lst (pa_cons (pe_tup (pa_cons (pv 1) (pa_cons pe_non pa_nil))) pa_nil)))
      (pss_cons (ps_set (i := 4) sc_spine.nd rfl (Or.inl rfl) (C8.pe_mt m_parts_of hr (by first | decide | omega) (pv 0) (pa_cons (pv 1) pa_nil)))
      (pss_cons (ps_while PassesOwn.never (pt_cmpR op_notN (pv 4) pe_non (nomark _)) (pss_cons (ps_asg (pv 4) (pg_tup rfl (pgs_cons (pg_name (i := 5) sc_spine.nd rfl (Or.inl rfl)) (pgs_cons (pg_name (i := 6) sc_spine.nd rfl (Or.inl rfl)) pgs_nil))))
      (pss_cons (ps_expr (pe_bm PySem.F.plainAttrs_list PySem.F.slot_list_append PySem.F.type_list_append mt_append (pv 3) (pa_cons (pe_tup (pa_cons (pe_ix ix_tup (pv 4) (pv 2) (fun _ _ => rfl)) (pa_cons (C8.pe_mt m_rank_of hr (by first | decide | omega) (pv 0) (pa_cons (pv 5) (pa_cons (pv 6) pa_nil))) pa_nil))) pa_nil)))
      (pss_one (ps_set (i := 4) sc_spine.nd rfl (Or.inl rfl) (C8.pe_mt m_parts_of hr (by first | decide | omega) (pv 0) (pa_cons (pe_ix ix_tup (pv 4) (pv 2) (fun _ _ => rfl)) pa_nil)))))))
      (pss_one (ps_ret (pe_tupleOfF (by rfl) T.b_tuple (pv 3))))))), ?_⟩
    refine ⟨_, rfl, by show 2 ≤ sizeLine; decide, fun z hz => ⟨by show 1 ≤ sizeLine; decide, fun D hD => ?_⟩⟩
    have s0 : Same H (upd (upd H z (.tup [.int (x : Int), .non])) D (.lst [.ref z])) := Same.new (same_new hz) hD
    have hD0 : H D = none := (same_new hz).free hD
    have hz0 : (upd (upd H z (.tup [.int (x : Int), .non])) D (.lst [.ref z])) z = some (.tup [.int (x : Int), .non]) := (upd_ne (ne_of_none upd_same hD)).trans upd_same
    obtain ⟨dx0, fs0, i1, i2, i3⟩ := met _ s0
    refine ⟨_, rfl, p, dx0, fs0, rfl, i1, i2, _, rfl, p, al, ps, x, rfl, hj.same s0, by omega, hx, fun v hv => ?_⟩
    refine ⟨fun m σ H' => ∃ (y : Nat) (v : V) (v5 v6 : Option V) (us : List V) (es : List (Nat × Option Nat)), σ = [some (.ref p), some (.int (x : Int)), some (.int (k : Int)), some (.ref D), some v, v5, v6] ∧ Same H H' ∧ H' D = some (.lst us) ∧ Paired (StepAt H') us es ∧ IsSpineTo al.length ps (sdOf k) x es y ∧ y < al.length + ps.length ∧ es.length + y ≤ x + 1 ∧ PartAt al ps y H' v ∧ m = y,
      ⟨x, x, v, none, none, _, _, rfl, s0, upd_same, .cons ⟨z, rfl, hz0⟩ .nil, IsSpineTo.start x, hx, by show 1 + x ≤ x + 1; omega, hv, rfl⟩, ?_⟩
    rintro m σ H2 ⟨y, v, v5, v6, us, es, rfl, s2, hD2, hus, hsp, hy, hle, hv, rfl⟩
    refine ⟨_, rfl, rfl, _, rfl, ?_⟩
    rcases hv with ⟨rfl, hlow⟩ | ⟨j, pr, g, rfl, rfl, hpr, hg⟩
    · refine iteF ⟨_, rfl, D, us, rfl, SqL.of hD2, fun t o ht ho => ?_⟩
      exact q _ t o us es (Same.new s2 ht) upd_same ho (Paired.mapP hus fun _ _ h => StepAt.same (Same.t (same_new ht)) h) (hsp.done hlow) (by omega)
    · refine iteT ?_
      have hj' := hw j pr hpr
      refine ⟨fun σ' H' => ∃ m', m' < al.length + j ∧ ∃ (y : Nat) (v : V) (v5 v6 : Option V) (us : List V) (es : List (Nat × Option Nat)), σ' = [some (.ref p), some (.int (x : Int)), some (.int (k : Int)), some (.ref D), some v, v5, v6] ∧ Same H H' ∧ H' D = some (.lst us) ∧ Paired (StepAt H') us es ∧ IsSpineTo al.length ps (sdOf k) x es y ∧ y < al.length + ps.length ∧ es.length + y ≤ x + 1 ∧ PartAt al ps y H' v ∧ m' = y, fun σ' H' z => z, ?_⟩
      have hsd : atI [V.int (pr.1 : Int), V.int (pr.2 : Int)] (k : Int) = some (V.int (sdOf k pr : Int)) := by
        have : k = 0 ∨ k = 1 := by omega
        rcases this with rfl | rfl <;> rfl
      have hlt : sdOf k pr < al.length + j := by rcases sdOf_side k pr with e | e <;> rw [e] <;> omega
      have hul : us.length = es.length := hus.length
      obtain ⟨dx1, fs1, j1, j2, j3⟩ := met _ s2
      refine ⟨_, rfl, g, _, rfl, SqT.of hg, rfl, _, _, rfl, _, _, rfl, rfl, ?_⟩
      refine ⟨_, rfl, .inl ⟨rfl, _, SqL.of hD2⟩, _, rfl, _, rfl, g, _, _, _, rfl, rfl, SqT.of hg, hsd, _, rfl, p, dx1, fs1, rfl, j1, j3, _, rfl, _, rfl, p, al, ps, pr.1, pr.2, rfl, hj.same s2, by omega, by omega, fun H3 s3 => ?_⟩
      rw [if_pos (List.mem_of_getElem? hpr), hprop.idx hpr]
      refine ⟨by show 2 ≤ sizeLine; decide, fun t ht => ?_⟩
      have s4 : Same H2 (upd H3 t (.tup [.int (sdOf k pr : Int), .int (j : Int)])) := Same.new s3 ht
      have hD4 := s4 _ _ hD2
      refine ⟨D, us, _, rfl, rfl, hD4, small1000 (by omega), ?_⟩
      have sT : SameT (upd H3 t (.tup [.int (sdOf k pr : Int), .int (j : Int)])) (upd (upd H3 t (.tup [.int (sdOf k pr : Int), .int (j : Int)])) D (.lst (us ++ [.ref t]))) := SameT.put hD4
      have s5 : Same H (upd (upd H3 t (.tup [.int (sdOf k pr : Int), .int (j : Int)])) D (.lst (us ++ [.ref t]))) := Same.put (s2.trans s4) hD0
      obtain ⟨dx2, fs2, l1, l2, _⟩ := met _ s5
      have hg5 := sT _ _ (s4 _ _ hg)
      refine ⟨_, rfl, p, dx2, fs2, rfl, l1, l2, _, rfl, _, rfl, g, _, _, _, rfl, rfl, SqT.of hg5, hsd, p, al, ps, sdOf k pr, rfl, hj.same s5, by omega, by omega, fun v' hv' => ?_⟩
      refine ⟨_, hlt, _, v', _, _, us ++ [.ref t], es ++ [(sdOf k pr, some j)], rfl, s5, upd_same, Paired.snoc ⟨t, rfl, sT _ _ upd_same⟩ (Paired.mapP hus fun _ _ h => StepAt.same sT (StepAt.same (Same.t s4) h)), hsp.next hpr, by omega, ?_, hv', rfl⟩
      rw [List.length_append, List.length_singleton]; omega
theorem ok_rspineF {f C : Addr} {fd : FuncData} (F : C8.Fun K "right_spine" "right_spine" s_right_spine f fd) (T : Txt K mg) (J : JTxt K C) (c_spineF : C8.Cal P w K mg base 6 "spine" (sp_spineF C) []) : FnOk P w K mg base C8.CX0 7 f fd ["joins", "piece"] (sp_rspineF 1 C) := by
  refine C8.fn0 F sc_right_spine (fun vs H Q E h => ?_) (fun cdv A outer s H vs Q E hr h => ?_)
  · obtain ⟨p, al, ps, x, rfl, _⟩ := h; rfl
  · obtain ⟨p, al, ps, x, rfl, hj, hprop, hal, hpl, hx, q⟩ := h
    refine ⟨_, (pss_one (ps_ret (C8.pe_c c_spineF hr (by first | decide | omega) (by rfl) (pa_cons (pv 0) (pa_cons (pv 1) (pa_cons pe_int pa_nil)))))), ?_⟩
    exact ⟨_, rfl, _, rfl, p, al, ps, x, 1, rfl, hj, hprop, hal, hpl, hx, by decide, q⟩
theorem ok_lspineF {f C : Addr} {fd : FuncData} (F : C8.Fun K "left_spine" "left_spine" s_left_spine f fd) (T : Txt K mg) (J : JTxt K C) (c_spineF : C8.Cal P w K mg base 6 "spine" (sp_spineF C) []) : FnOk P w K mg base C8.CX0 7 f fd ["joins", "piece"] (sp_rspineF 0 C) := by
  refine C8.fn0 F sc_left_spine (fun vs H Q E h => ?_) (fun cdv A outer s H vs Q E hr h => ?_)
  · obtain ⟨p, al, ps, x, rfl, _⟩ := h; rfl
  · obtain ⟨p, al, ps, x, rfl, hj, hprop, hal, hpl, hx, q⟩ := h
    refine ⟨_, (pss_one (ps_ret (C8.pe_c c_spineF hr (by first | decide | omega) (by rfl) (pa_cons (pv 0) (pa_cons (pv 1) (pa_cons pe_int pa_nil)))))), ?_⟩
    exact ⟨_, rfl, _, rfl, p, al, ps, x, 0, rfl, hj, hprop, hal, hpl, hx, by decide, q⟩
theorem ok_iter {f C : Addr} {fd : FuncData} (F : C8.Fun K "__iter__" "Joins.__iter__" s_Joins___iter__ f fd) (T : Txt K mg) (J : JTxt K C) : FnOk P w K mg base C8.CX0 1 f fd ["self"] (sp_iter C) := by
  refine C8.fn0 F sc_Joins___iter__ (fun vs H Q E h => ?_) (fun cdv A outer s H vs Q E hr h => ?_)
  · obtain ⟨p, al, ps, rfl, _⟩ := h; rfl
  · obtain ⟨p, al, ps, rfl, ⟨dx, t, tx, d, e, ws, h1, h2, h3, h4, h5, h6⟩, q⟩ := h
    refine ⟨_, (pss_one (ps_ret (pe_callB call_iterT (by rfl) T.b_iter (by decide +kernel) (pa_cons (pe_fld (pv 0) rfl) pa_nil)))), ?_⟩
    exact ⟨_, rfl, p, C, dx, _, _, rfl, h1, J.cl, J.n2, f5_pairs al t tx d e, t, ws, rfl, h2, fun it hit => q it t ws h2 h3 hit⟩
theorem ok_pieces {f C : Addr} {fd : FuncData} (F : C8.Fun K "pieces" "Joins.pieces" s_Joins_pieces f fd) (T : Txt K mg) (J : JTxt K C) : FnOk P w K mg base C8.CX0 1 f fd ["self"] (sp_pieces C) := by
  refine C8.fn0 F sc_Joins_pieces (fun vs H Q E h => ?_) (fun cdv A outer s H vs Q E hr h => ?_)
  · obtain ⟨p, al, ps, rfl, _⟩ := h; rfl
  · obtain ⟨p, al, ps, rfl, ⟨dx, t, tx, d, e, ws, h1, h2, h3, h4, h5, h6⟩, q⟩ := h
    refine ⟨_, (pss_one (ps_ret (pe_callB call_len_seq (by rfl) T.b_len PySem.boot_len (pa_cons (pe_fld (pv 0) rfl) pa_nil)))), ?_⟩
    refine ⟨_, rfl, p, C, dx, _, _, rfl, h1, J.cl, J.n3, f5_texts al t tx d e, tx, _, rfl, .inl (SqL.of h4), ?_⟩
    rw [strV_len, textsOf_len]; exact q
end
end RJ
end

section
set_option maxRecDepth 100000
set_option maxHeartbeats 8000000
namespace RJ
open PySem PySem.Spec PyProof.Rows L2
theorem for_own {it0 pa : Addr} {xs : List V} {g : TG} {tb : TS} {D : Ends} {σ : L2.St} {H : Hp} (Pv : Nat → L2.St → Hp → Prop) (h0 : Pv 0 σ H) (hG : ∀ i σ H, i ≤ xs.length → Pv i σ H → H pa = some (.tup xs) ∧ H it0 = some (TupI it0 pa xs.length i))
    (hs : ∀ i x T σ H, i < xs.length → Pv i σ H → xs[i]? = some x → H T = none → g (.ref T) σ (upd (upd H it0 (TupI it0 pa xs.length (i + 1))) T (.tup [.int (i : Nat), x])) fun σ2 H2 => tb { D with nx := Pv (i + 1), ct := Pv (i + 1), bk := D.nx } σ2 H2) (hd : ∀ σ H, Pv xs.length σ H → D.nx σ H) :
    ∃ W : Nat → Nat → L2.St → Hp → Prop, (∃ m, W 0 m σ H) ∧ ∀ i m σ H, W i m σ H → ((ItEO it0 pa xs).stop i H ∧ D.nx σ H) ∨ ((ItEO it0 pa xs).go i H ∧ ∃ N : L2.St → Hp → Prop, (∀ σ' H', N σ' H' → ∃ m', m' < m ∧ W (i + 1) m' σ' H') ∧
      ∀ x H', (ItEO it0 pa xs).yld i H x H' → g x σ H' fun σ2 H2 => tb { D with nx := N, ct := N, bk := D.nx } σ2 H2) := by
  refine ⟨fun i m σ H => m = xs.length - i ∧ i ≤ xs.length ∧ Pv i σ H, ⟨xs.length, rfl, Nat.zero_le _, h0⟩, ?_⟩
  rintro i m σ H ⟨rfl, hi, p⟩
  obtain ⟨g1, g2⟩ := hG i σ H hi p
  by_cases hlt : i < xs.length
  · refine .inr ⟨⟨g1, g2, hlt⟩, Pv (i + 1), fun σ' H' p' => ⟨xs.length - (i + 1), by omega, rfl, hlt, p'⟩, fun v H' y => ?_⟩
    obtain ⟨T, x, rfl, hT, hx, rfl⟩ := y
    exact hs i x T σ H hlt p hx hT
  · have e : i = xs.length := by omega
    subst e
    exact .inl ⟨⟨g1, g2, rfl⟩, hd σ H p⟩
/-- the bounds of a spine as a dict -/
def BdsAt (b : Nat) (ps : List (Nat × Nat)) (sd : Nat × Nat → Nat) (H : Hp) (v : V) (x : Nat) : Prop := ∃ d kvs, v = .ref d ∧ H d = some (.dK kvs) ∧ (∀ (y : Nat) bd, Spn b ps sd x y bd → valV kvs (.inl (y : Int)) = some (bdV bd)) ∧ ∀ y : Nat, (∀ bd, ¬ Spn b ps sd x y bd) → valV kvs (.inl (y : Int)) = none
theorem BdsAt.same {b : Nat} {ps : List (Nat × Nat)} {sd : Nat × Nat → Nat} {H H' : Hp} {v : V} {x : Nat} (h : BdsAt b ps sd H v x) (s : Same H H') : BdsAt b ps sd H' v x := by
  obtain ⟨d, kvs, e, hd, r⟩ := h
  exact ⟨d, kvs, e, s _ _ hd, r⟩
theorem BdsAt.samex {b : Nat} {ps : List (Nat × Nat)} {sd : Nat × Nat → Nat} {H H' : Hp} {v : V} {x : Nat} {R : Addr} {us : List V} (h : BdsAt b ps sd H v x) (hR : H R = some (.lst us)) (s : SameX R H H') : BdsAt b ps sd H' v x := by
  obtain ⟨d, kvs, e, hd, r⟩ := h
  exact ⟨d, kvs, e, s _ _ (fun z => by rw [z, hR] at hd; cases hd) hd, r⟩
theorem steps_dict {K : PySem.W.Frag} {H : Hp} : ∀ {us : List V} {es : List (Nat × Option Nat)}, Paired (StepAt H) us es → ∃ ads : List Addr, us = ads.map V.ref ∧ Paired (fun p (kv : Key × V) => SqT K H p [kV kv.1, kv.2]) ads (es.map fun e => ((.inl (e.1 : Int) : Key), bdV e.2))
  | _, _, .nil => ⟨[], rfl, .nil⟩
  | _, _, .cons ⟨q, e, h⟩ t => by
    subst e
    obtain ⟨ads, e, r⟩ := steps_dict (K := K) t
    subst e
    exact ⟨q :: ads, rfl, .cons (SqT.of h) r⟩
theorem spine_bds {b : Nat} {ps : List (Nat × Nat)} {sd : Nat × Nat → Nat} {x : Nat} {es : List (Nat × Option Nat)} (hs : Side sd) (hw : WF b ps) (h : IsSpine b ps sd x es) :
    (∀ (y : Nat) bd, Spn b ps sd x y bd → valV (mergeK [] (es.map fun e => ((.inl (e.1 : Int) : Key), bdV e.2))) (.inl (y : Int)) = some (bdV bd)) ∧ ∀ y : Nat, (∀ bd, ¬ Spn b ps sd x y bd) → valV (mergeK [] (es.map fun e => ((.inl (e.1 : Int) : Key), bdV e.2))) (.inl (y : Int)) = none := by
  refine ⟨fun y bd hy => mergeK_hit _ _ _ _ (List.mem_map.mpr ⟨(y, bd), h.all y bd hy, rfl⟩) fun p hp e => ?_, fun y hy => ?_⟩
  · obtain ⟨q, hq, rfl⟩ := List.mem_map.mp hp
    have e : (q.1 : Int) = (y : Int) := Sum.inl.inj e
    have e : q.1 = y := by omega
    have h1 := h.ok q hq
    rw [e] at h1
    rw [Spn.uniq hs hw x h1 hy]
  · rw [mergeK_miss _ _ _ fun p hp e => ?_]
    · rfl
    · obtain ⟨q, hq, rfl⟩ := List.mem_map.mp hp
      have e : (q.1 : Int) = (y : Int) := Sum.inl.inj e
      have e : q.1 = y := by omega
      have h1 := h.ok q hq
      rw [e] at h1
      exact hy _ h1
/-- for each piece the pieces that stand on its right -/
def MasksAt (b : Nat) (ps : List (Nat × Nat)) (n : Nat) (Ms : List Nat) : Prop := Ms.length = b + ps.length ∧ ∀ x q, x < b + ps.length → q < b + ps.length → ∃ m, Ms[x]? = some m ∧ (m.testBit q = true ↔ ∀ r, r < n → ¬ Cross b ps x q r)
def sp_masks (C : Addr) : Sp := fun vs H Q _ => ∃ (p : Addr) (al : List Nat) (ps : List (Nat × Nat)), vs = [.ref p] ∧ JoinsAt C H p al ps ∧ Proper al ps ∧ al.length ≤ 400 ∧ ps.length ≤ 400 ∧
  ∀ H' q Ms, Same H H' → H' q = some (.tup (iv Ms)) → MasksAt al.length ps ps.length Ms → Q (.ref q) H'
section
variable {P : Program} {w : World} {K : PySem.W.Frag} {mg : Str → Option Value} {base : Heap}
theorem ok_masks {f C : Addr} {fd : FuncData} (F : C8.Fun K "following_masks" "following_masks" s_following_masks f fd) (T : Txt K mg) (J : JTxt K C) (p_pieces : PrpC P w K mg base 1 C "pieces" (sp_pieces C)) (m___iter__ : C8.Met P w K mg base 1 C "__iter__" (sp_iter C) [])
    (c_right_spineF : C8.Cal P w K mg base 7 "right_spine" (sp_rspineF 1 C) []) (c_left_spineF : C8.Cal P w K mg base 7 "left_spine" (sp_rspineF 0 C) []) (c_is_ahead_in_left : C8.Cal P w K mg base 1 "is_ahead_in_left" sp_aheadL []) (c_is_ahead_in_right : C8.Cal P w K mg base 1 "is_ahead_in_right" sp_aheadR []) :
    FnOk P w K mg base C8.CX0 8 f fd ["joins"] (sp_masks C) := by
  refine C8.fn0 F sc_following_masks (fun vs H Q E h => ?_) (fun cdv A outer s H vs Q E hr h => ?_)
  · obtain ⟨p, al, ps, rfl, _⟩ := h; rfl
  · obtain ⟨p, al, ps, rfl, hj, hprop, hal, hpl, q⟩ := h
    have hu := hu_of hr
    have hw := hprop.wf
    have ins : ∀ H', JoinsAt C H' p al ps → ∃ dx fs, H' p = some (.ins C dx fs) := fun H' hj' => by
      obtain ⟨dx, t, tx, d, e, ws, h1, _⟩ := hj'
      exact ⟨dx, _, h1⟩
    refine ⟨_, (pss_cons (ps_setLc (own := [("piece", 8)]) (i := 1) (g := gName 8) (tt := tYes) rfl sc_following_masks.nd rfl rfl (sw_true rfl rfl rfl (by decide +kernel)) (pi_range1 rfl T.b_range (pa_cons (pe_prp p_pieces hr (by first | decide | omega) (pv 0)) pa_nil)) (blkOk_by (N := N_following_masks) (sc := C8.fnScope s_following_masks) (by decide +kernel)) (fun _ _ _ _ _ => (pg_name (i := 8) sc_following_masks.nd rfl (Or.inl rfl))) (fun _ _ _ _ _ => pts_nil) (fun _ _ _ _ _ => (pe_callTy (call_dictTK (K := K) rfl rfl) (by rfl) T.b_dict (by decide +kernel) (pa_cons (C8.pe_c c_right_spineF hr (by first | decide | omega) (by rfl) (pa_cons (pv 0) (pa_cons (pv 8) pa_nil))) pa_nil))))
      (pss_cons (ps_setLc (own := [("piece", 8)]) (i := 2) (g := gName 8) (tt := tYes) rfl sc_following_masks.nd rfl rfl (sw_true rfl rfl rfl (by decide +kernel)) (pi_range1 rfl T.b_range (pa_cons (pe_prp p_pieces hr (by first | decide | omega) (pv 0)) pa_nil)) (blkOk_by (N := N_following_masks) (sc := C8.fnScope s_following_masks) (by decide +kernel)) (fun _ _ _ _ _ => (pg_name (i := 8) sc_following_masks.nd rfl (Or.inl rfl))) (fun _ _ _ _ _ => pts_nil) (fun _ _ _ _ _ => (pe_callTy (call_dictTK (K := K) rfl rfl) (by rfl) T.b_dict (by decide +kernel) (pa_cons (C8.pe_c c_left_spineF hr (by first | decide | omega) (by rfl) (pa_cons (pv 0) (pa_cons (pv 8) pa_nil))) pa_nil))))
      (pss_cons (ps_setLc (own := [("_", 10)]) (i := 3) (g := gName 10) (tt := tYes) rfl sc_following_masks.nd rfl rfl (sw_true rfl rfl rfl (by decide +kernel)) (pi_range1 rfl T.b_range (pa_cons (pe_prp p_pieces hr (by first | decide | omega) (pv 0)) pa_nil)) (blkOk_by (N := N_following_masks) (sc := C8.fnScope s_following_masks) (by decide +kernel)) (fun _ _ _ _ _ => (pg_name (i := 10) sc_following_masks.nd rfl (Or.inl rfl))) (fun _ _ _ _ _ => pts_nil) (fun _ _ _ _ _ => (pe_op op_sub (pe_op op_oneShl pe_int (pe_prp p_pieces hr (by first | decide | omega) (pv 0))) pe_int)))
      (pss_cons (ps_for PassesOwn.never rfl (pi_enumO rfl T.b_enumerate m___iter__ hr (by first | decide | omega) (pa_cons (pv 0) pa_nil)) (pg_tup rfl (pgs_cons (pg_name (i := 4) sc_following_masks.nd rfl (Or.inl rfl)) (pgs_cons (pg_tup rfl (pgs_cons (pg_name (i := 5) sc_following_masks.nd rfl (Or.inl rfl)) (pgs_cons (pg_name (i := 6) sc_following_masks.nd rfl (Or.inl rfl)) pgs_nil))) pgs_nil))) (pss_cons (ps_set (i := 7) sc_following_masks.nd rfl (Or.inl rfl) pe_int)
      (pss_cons (ps_for PassesOwn.never rfl (pi_enumG rfl T.b_enumerate (pa_cons (pv 2) pa_nil)) (pg_tup rfl (pgs_cons (pg_name (i := 8) sc_following_masks.nd rfl (Or.inl rfl)) (pgs_cons (pg_name (i := 9) sc_following_masks.nd rfl (Or.inl rfl)) pgs_nil))) (pss_one (ps_if (PW.pt (pw_and (pt_cmp (pc_din hu (pv 6) (pv 9))) (pw_and1 (pt_val (C8.pe_c c_is_ahead_in_right hr (by first | decide | omega) (by rfl) (pa_cons (pv 4) (pa_cons (pe_dget hu (pv 9) (pv 6) (fun _ _ => rfl)) pa_nil))))))) (pss_one (ps_aug (i := 7) sc_following_masks.nd rfl (Or.inl rfl) (pe_op op_oneShl pe_int (pv 8)) ip_add)) pss_nil)))
      (pss_one (ps_for PassesOwn.never rfl (pi_enumG rfl T.b_enumerate (pa_cons (pv 1) pa_nil)) (pg_tup rfl (pgs_cons (pg_name (i := 8) sc_following_masks.nd rfl (Or.inl rfl)) (pgs_cons (pg_name (i := 9) sc_following_masks.nd rfl (Or.inl rfl)) pgs_nil))) (pss_one (ps_if (PW.pt (pw_and (pt_cmp (pc_din hu (pv 5) (pv 9))) (pw_and1 (pt_val (C8.pe_c c_is_ahead_in_left hr (by first | decide | omega) (by rfl) (pa_cons (pv 4) (pa_cons (pe_dget hu (pv 9) (pv 5) (fun _ _ => rfl)) pa_nil))))))) (pss_one (ps_augS (pv 3) (pv 8) get_listN (pe_un un_inv (pv 7)) iop_and set_list)) pss_nil)))))))
      (pss_one (ps_ret (pe_tupleOf (by rfl) T.b_tuple (pv 3)))))))), ?_⟩
    -- the bounds of the right spines
    obtain ⟨dx, fs, h1⟩ := ins H hj
    refine ⟨_, rfl, p, dx, fs, rfl, h1, p, al, ps, rfl, hj, ?_⟩
    refine ⟨_, rfl, by omega, by omega, fun R hR => lc_it walk_range (fun i H' => Same H H' ∧ ∃ us, H' R = some (.lst us) ∧ Paired (BdsAt al.length ps Prod.snd H') us (List.range i)) ⟨same_new hR, [], upd_same, .nil⟩ (fun _ _ _ _ => trivial) ?_ ?_⟩
    · rintro i x Ha Hb hi ⟨sa, us, ha, hP⟩ ⟨rfl, hx⟩
      obtain rfl : x = V.int (i : Int) := hx.trans (congrArg V.int (Int.zero_add _))
      have hi : i < al.length + ps.length := by rw [Int.toNat_natCast] at hi; exact hi
      refine ⟨rfl, _, rfl, _, rfl, p, al, ps, i, rfl, hj.same sa, hprop, hal, hpl, hi, fun H3 z o ws es s3 hz ho hws hsp hel => ?_⟩
      have hsp : IsSpine al.length ps Prod.snd i es := hsp
      obtain ⟨ads, rfl, hads⟩ := steps_dict (K := K) hws
      refine ⟨z, o, ads, _, rfl, hz, ho, hads, fun d hd => ?_⟩
      have hls : us.length = i := by have := hP.length; rwa [List.length_range] at this
      have ha3 := s3 _ _ ha
      have hne : R ≠ d := ne_of_none ha3 hd
      have s4 := Same.new (o := .dK (mergeK [] (es.map fun e => ((.inl (e.1 : Int) : Key), bdV e.2)))) s3 hd
      refine ⟨us, s4 _ _ ha, small1000 (by omega), Same.put (sa.trans s4) hR, us ++ [.ref d], upd_same, ?_⟩
      rw [List.range_succ]
      have hm := spine_bds side2 hw hsp
      exact Paired.snoc (F := BdsAt al.length ps Prod.snd _) ⟨d, _, rfl, (upd_ne (Ne.symm hne)).trans upd_same, hm⟩ (Paired.mapP hP fun _ _ h => BdsAt.samex h ha (SameX.self (Same.x s4)))
    rintro H1 ⟨s1, rs, hR1, hP1⟩
    rw [Int.toNat_natCast] at hP1
    have hj1 := hj.same s1
    obtain ⟨dx1, fs1, g1⟩ := ins H1 hj1
    refine ⟨_, rfl, p, dx1, fs1, rfl, g1, p, al, ps, rfl, hj1, ?_⟩
    refine ⟨_, rfl, by omega, by omega, fun L hL => lc_it walk_range (fun i H' => Same H1 H' ∧ ∃ us, H' L = some (.lst us) ∧ Paired (BdsAt al.length ps Prod.fst H') us (List.range i)) ⟨same_new hL, [], upd_same, .nil⟩ (fun _ _ _ _ => trivial) ?_ ?_⟩
    · rintro i x Ha Hb hi ⟨sa, us, ha, hP⟩ ⟨rfl, hx⟩
      obtain rfl : x = V.int (i : Int) := hx.trans (congrArg V.int (Int.zero_add _))
      have hi : i < al.length + ps.length := by rw [Int.toNat_natCast] at hi; exact hi
      refine ⟨rfl, _, rfl, _, rfl, p, al, ps, i, rfl, hj1.same sa, hprop, hal, hpl, hi, fun H3 z o ws es s3 hz ho hws hsp hel => ?_⟩
      have hsp : IsSpine al.length ps Prod.fst i es := hsp
      obtain ⟨ads, rfl, hads⟩ := steps_dict (K := K) hws
      refine ⟨z, o, ads, _, rfl, hz, ho, hads, fun d hd => ?_⟩
      have hls : us.length = i := by have := hP.length; rwa [List.length_range] at this
      have ha3 := s3 _ _ ha
      have hne : L ≠ d := ne_of_none ha3 hd
      have s4 := Same.new (o := .dK (mergeK [] (es.map fun e => ((.inl (e.1 : Int) : Key), bdV e.2)))) s3 hd
      refine ⟨us, s4 _ _ ha, small1000 (by omega), Same.put (sa.trans s4) hL, us ++ [.ref d], upd_same, ?_⟩
      rw [List.range_succ]
      have hm := spine_bds side1 hw hsp
      exact Paired.snoc (F := BdsAt al.length ps Prod.fst _) ⟨d, _, rfl, (upd_ne (Ne.symm hne)).trans upd_same, hm⟩ (Paired.mapP hP fun _ _ h => BdsAt.samex h ha (SameX.self (Same.x s4)))
    rintro H2 ⟨s2, ls, hL2, hP2⟩
    rw [Int.toNat_natCast] at hP2
    have hj2 := hj1.same s2
    have hR2 := s2 _ _ hR1
    have hP1 := Paired.mapP hP1 fun _ _ h => BdsAt.same h s2
    obtain ⟨dx2, fs2, g2⟩ := ins H2 hj2
    refine ⟨_, rfl, p, dx2, fs2, rfl, g2, p, al, ps, rfl, hj2, ?_⟩
    refine ⟨_, rfl, by omega, by omega, fun M hM => lc_it walk_range (fun i H' => Same H2 H' ∧ H' M = some (.lst (iv (List.replicate i (2 ^ (al.length + ps.length) - 1))))) ⟨same_new hM, upd_same⟩ (fun _ _ _ _ => trivial) ?_ ?_⟩
    · rintro i x Ha Hb hi ⟨sa, ha⟩ ⟨rfl, hx⟩
      have hi : i < al.length + ps.length := by rw [Int.toNat_natCast] at hi; exact hi
      have hja := hj2.same sa
      obtain ⟨dx3, fs3, g3⟩ := ins Hb hja
      refine ⟨rfl, _, rfl, p, dx3, fs3, rfl, g3, p, al, ps, rfl, hja, _, rfl, rfl, by omega, _, _, rfl, rfl, _, ha, by rw [iv_len, List.length_replicate]; exact small1000 (by omega), Same.put sa hM, ?_⟩
      have e1 : ((2 : Int) ^ (al.length + ps.length) - 1) = ((2 ^ (al.length + ps.length) - 1 : Nat) : Int) := by
        have : 0 < 2 ^ (al.length + ps.length) := Nat.two_pow_pos _
        rw [Int.natCast_sub this, Int.natCast_pow]; rfl
      rw [upd_same]
      show some (HO.lst (iv (List.replicate i (2 ^ (al.length + ps.length) - 1)) ++ [V.int ((2 : Int) ^ (al.length + ps.length) - 1)])) = _
      rw [e1, iv_snoc, ← List.replicate_succ']
    rintro H3 ⟨s3, hM3⟩
    rw [Int.toNat_natCast] at hM3
    have hj3 := hj2.same s3
    obtain ⟨dx3, fs3, g3⟩ := ins H3 hj3
    refine ⟨_, rfl, p, dx3, fs3, rfl, g3, p, al, ps, rfl, hj3, fun it pa us hpa hus hit => ⟨it, pa, us, rfl, upd_same, ?_⟩⟩
    have hul : us.length = ps.length := hus.length
    have npi : pa ≠ it := ne_of_none hpa hit
    have nMi : M ≠ it := ne_of_none hM3 hit
    have hM2 : H2 M = none := hM
    have hit2 : H2 it = none := s3.free hit
    have npM : pa ≠ M := fun z => by rw [z, hM3] at hpa; cases hpa
    have hpa2 : H3 pa = some (.tup us) := hpa
    refine for_own (fun i σ H' => ∃ (v4 v5 v6 v7 v8 v9 : Option V) (Ms : List Nat), σ = [some (.ref p), some (.ref R), some (.ref L), some (.ref M), v4, v5, v6, v7, v8, v9, none] ∧ Same H2 H' ∧ H' pa = some (.tup us) ∧ PairsAt H' us ps ∧ H' it = some (TupI it pa us.length i) ∧ H' M = some (.lst (iv Ms)) ∧ MasksAt al.length ps i Ms)
      ⟨none, none, none, none, none, none, _, rfl, Same.put s3 hit2, (upd_ne npi).trans hpa, hus.same (fun b xs e => (upd_ne (ne_of_none e hit)).trans e), upd_same, (upd_ne nMi).trans hM3, ?_⟩ (fun i σ H' _ ⟨_, _, _, _, _, _, _, _, _, h1, _, h2, _⟩ => ⟨h1, h2⟩) ?_ ?_
    · refine ⟨by rw [List.length_replicate], fun x q hx hq => ⟨2 ^ (al.length + ps.length) - 1, by rw [List.getElem?_replicate, if_pos hx], ?_⟩⟩
      rw [Nat.testBit_two_pow_sub_one, decide_eq_true hq]
      exact ⟨fun _ r hr => absurd hr (Nat.not_lt_zero _), fun _ => rfl⟩
    · rintro i x T σ Hb hi ⟨v4, v5, v6, v7, v8, v9, Ms, rfl, sb, hpb, hub, hib, hMb, hMs⟩ hx hT
      obtain ⟨pr, hpr, g, rfl, hg⟩ := Paired.at hub hx
      have hil : i < ps.length := by omega
      have nTi : it ≠ T := ne_of_none hib hT
      have ngi : g ≠ it := fun z => by rw [z, hib] at hg; cases hg
      obtain ⟨Hc, hHc⟩ : ∃ Hc, Hc = upd (upd Hb it (TupI it pa us.length (i + 1))) T (.tup [.int (i : Nat), .ref g]) := ⟨_, rfl⟩
      have sX : SameX it Hb Hc := fun b o hb e => by rw [hHc]; exact (upd_ne (ne_of_none e hT)).trans ((upd_ne hb).trans e)
      have hic : Hc it = some (TupI it pa us.length (i + 1)) := by rw [hHc]; exact (upd_ne nTi).trans upd_same
      have hTc : Hc T = some (.tup [.int (i : Nat), .ref g]) := by rw [hHc]; exact upd_same
      have sc : Same H2 Hc := by rw [hHc]; exact Same.new (Same.put sb hit2) ((upd_ne (Ne.symm nTi)).trans hT)
      have hgc := sX _ _ ngi hg
      have hpc := sX _ _ npi hpb
      have hMc := sX _ _ nMi hMb
      have huc : PairsAt Hc us ps := hub.same fun b xs e => sX _ _ (fun z => by rw [z, hib] at e; cases e) e
      have hRc := sc _ _ hR2
      have hLc := sc _ _ hL2
      have hP1c := Paired.mapP hP1 fun _ _ h => BdsAt.same h sc
      have hP2c := Paired.mapP hP2 fun _ _ h => BdsAt.same h sc
      rw [← hHc]
      clear hHc sX
      have hrl : rs.length = al.length + ps.length := by have := hP1.length; rwa [List.length_range] at this
      have hll : ls.length = al.length + ps.length := by have := hP2.length; rwa [List.length_range] at this
      refine ⟨T, _, rfl, SqT.of hTc, rfl, _, _, rfl, _, _, rfl, g, _, rfl, SqT.of hgc, rfl, _, _, rfl, _, _, rfl, rfl, rfl, ?_⟩
      refine ⟨_, rfl, _, _, _, _, rfl, src_seq (b := true) hLc, for_it walkG (fun j σ H' => ∃ (c : Nat) (v8 v9 : Option V), σ = [some (.ref p), some (.ref R), some (.ref L), some (.ref M), some (.int (i : Int)), some (.int (pr.1 : Int)), some (.int (pr.2 : Int)), some (.int (c : Int)), v8, v9, none] ∧ Same Hc H' ∧ c < 2 ^ j ∧
          ∀ q, q < j → (c.testBit q = true ↔ ∃ bd, Spn al.length ps Prod.fst q pr.2 bd ∧ upTo i bd)) ⟨0, v8, v9, rfl, Same.refl Hc, by decide, fun q hq => absurd hq (Nat.not_lt_zero _)⟩ (fun j σ H' _ ⟨_, _, _, _, sa, _⟩ => sa _ _ hLc) ?_ ?_⟩
      · rintro j x σ Ha Hd hj2 ⟨c, v8, v9, rfl, sa, hc, hbit⟩ ⟨T2, ys, rfl, hT2, rfl, v, hv, rfl⟩
        have hjn : j < al.length + ps.length := by have := (List.getElem?_eq_some_iff.mp hv).1; omega
        obtain ⟨q', hq', d, kvs, rfl, hd, hh, hm⟩ := Paired.at hP2c hv
        rw [List.getElem?_range hjn] at hq'
        cases hq'
        have s5 := Same.new (o := .tup [.int (j : Int), .ref d]) sa hT2
        have DG : DGet (upd Ha T2 (.tup [.int (j : Int), .ref d])) d (.int (pr.2 : Int)) (valV kvs (.inl (pr.2 : Int))) := DGet.k (k := .inl (pr.2 : Int)) (s5 _ _ hd)
        have hc2 : c < 2 ^ (j + 1) := Nat.lt_trans hc (Nat.pow_lt_pow_right (by decide) (Nat.lt_succ_self j))
        have no : ¬ (∃ bd, Spn al.length ps Prod.fst j pr.2 bd ∧ upTo i bd) → ∀ q, q < j + 1 → (c.testBit q = true ↔ ∃ bd, Spn al.length ps Prod.fst q pr.2 bd ∧ upTo i bd) := fun hno q hq => by
          rcases Nat.lt_succ_iff_lt_or_eq.mp hq with h | h
          · exact hbit q h
          · subst h
            rw [Nat.testBit_lt_two_pow hc]
            exact ⟨fun z => (by cases z), fun z => absurd z hno⟩
        refine ⟨T2, _, rfl, SqT.of upd_same, rfl, _, _, rfl, _, _, rfl, rfl, ?_⟩
        refine ⟨_, rfl, _, rfl, d, _, rfl, DG, _, rfl, ?_⟩
        by_cases cS : ∃ bd, Spn al.length ps Prod.fst j pr.2 bd
        · obtain ⟨bd, hs⟩ := cS
          rw [hh _ _ hs] at DG ⊢
          refine iteT ⟨_, rfl, _, rfl, _, rfl, d, _, rfl, DG, i, bd, rfl, fun k hk => ⟨k, rfl, ?_⟩⟩
          cases k with
          | true =>
            refine iteT ⟨_, rfl, _, rfl, j, rfl, rfl, by omega, _, _, rfl, rfl, c + 2 ^ j, some (.int (j : Int)), some (.ref d), ?_, s5, ?_, fun q hq => ?_⟩
            · have e9 : ((c : Int) + 2 ^ j) = ((c + 2 ^ j : Nat) : Int) := by rw [Int.natCast_add, Int.natCast_pow]; rfl
              show [some (.ref p), some (.ref R), some (.ref L), some (.ref M), some (.int (i : Int)), some (.int (pr.1 : Int)), some (.int (pr.2 : Int)), some (V.int ((c : Int) + 2 ^ j)), some (.int (j : Int)), some (.ref d), none] = _
              rw [e9]
            · rw [Nat.pow_succ]; omega
            · rw [bit_add hc (by omega)]
              by_cases e : q = j
              · subst e
                rw [if_pos rfl]
                exact ⟨fun _ => ⟨bd, hs, hk.mp rfl⟩, fun _ => rfl⟩
              · rw [if_neg e]
                exact hbit q (by omega)
          | false =>
            refine iteF ⟨c, _, _, rfl, s5, hc2, no fun ⟨bd', h1, h2⟩ => ?_⟩
            rw [Spn.uniq side1 hw j h1 hs] at h2
            cases hk.mpr h2
        · rw [hm _ fun bd h => cS ⟨bd, h⟩]
          exact iteF (iteF ⟨c, _, _, rfl, s5, hc2, no fun ⟨bd', h1, _⟩ => cS ⟨bd', h1⟩⟩)
      · rintro σ He ⟨c, v8, v9, rfl, se, hc, hbit⟩
        rw [hll] at hbit
        have hRM : R ≠ M := ne_of_none hR2 hM2
        refine ⟨_, rfl, _, _, _, _, rfl, src_seq (b := true) (se _ _ hRc), for_it walkG (fun j σ H' => ∃ (v8 v9 : Option V) (Ns : List Nat), σ = [some (.ref p), some (.ref R), some (.ref L), some (.ref M), some (.int (i : Int)), some (.int (pr.1 : Int)), some (.int (pr.2 : Int)), some (.int (c : Int)), v8, v9, none] ∧ SameX M He H' ∧ H' M = some (.lst (iv Ns)) ∧ Ns.length = Ms.length ∧
            ∀ x m, Ms[x]? = some m → ∃ m', Ns[x]? = some m' ∧ ∀ q, (m'.testBit q = true ↔ m.testBit q = true ∧ ¬ (x < j ∧ (∃ bd, Spn al.length ps Prod.snd x pr.1 bd ∧ upTo (i + 1) bd) ∧ c.testBit q = true)))
          ⟨v8, v9, Ms, rfl, fun _ _ _ e => e, se _ _ hMc, rfl, fun x m hm => ⟨m, hm, fun q => ⟨fun h => ⟨h, fun z => absurd z.1 (Nat.not_lt_zero _)⟩, fun h => h.1⟩⟩⟩ (fun j σ H' _ ⟨_, _, _, _, sa, _⟩ => sa _ _ hRM (se _ _ hRc)) ?_ ?_⟩
        · rintro j x σ Ha Hd hj2 ⟨v8, v9, Ns, rfl, sa, hMa, hNl, hN⟩ ⟨T2, ys, rfl, hT2, rfl, v, hv, rfl⟩
          have hjn : j < al.length + ps.length := by have := (List.getElem?_eq_some_iff.mp hv).1; omega
          obtain ⟨q', hq', d, kvs, rfl, hd, hh, hm⟩ := Paired.at hP1c hv
          rw [List.getElem?_range hjn] at hq'
          cases hq'
          have ndM : d ≠ M := fun z => by rw [z, hMc] at hd; cases hd
          have s5 : SameX M He (upd Ha T2 (.tup [.int (j : Int), .ref d])) := fun b o hb e => (upd_ne (ne_of_none (sa b o hb e) hT2)).trans (sa b o hb e)
          have hM5 : (upd Ha T2 (.tup [.int (j : Int), .ref d])) M = some (.lst (iv Ns)) := (upd_ne (ne_of_none hMa hT2)).trans hMa
          have DG : DGet (upd Ha T2 (.tup [.int (j : Int), .ref d])) d (.int (pr.1 : Int)) (valV kvs (.inl (pr.1 : Int))) := DGet.k (k := .inl (pr.1 : Int)) (s5 _ _ ndM (se _ _ hd))
          have no : ¬ (∃ bd, Spn al.length ps Prod.snd j pr.1 bd ∧ upTo (i + 1) bd) → ∀ x m, Ms[x]? = some m → ∃ m', Ns[x]? = some m' ∧ ∀ q, (m'.testBit q = true ↔ m.testBit q = true ∧ ¬ (x < j + 1 ∧ (∃ bd, Spn al.length ps Prod.snd x pr.1 bd ∧ upTo (i + 1) bd) ∧ c.testBit q = true)) := fun hno x m hx => by
            obtain ⟨m', h1, h2⟩ := hN x m hx
            refine ⟨m', h1, fun q => (h2 q).trans ?_⟩
            constructor
            · rintro ⟨a, b⟩
              refine ⟨a, fun ⟨z1, z2, z3⟩ => b ⟨?_, z2, z3⟩⟩
              rcases Nat.lt_succ_iff_lt_or_eq.mp z1 with h | h
              · exact h
              · subst h; exact absurd z2 hno
            · rintro ⟨a, b⟩
              exact ⟨a, fun ⟨z1, z2, z3⟩ => b ⟨by omega, z2, z3⟩⟩
          refine ⟨T2, _, rfl, SqT.of upd_same, rfl, _, _, rfl, _, _, rfl, rfl, ?_⟩
          refine ⟨_, rfl, _, rfl, d, _, rfl, DG, _, rfl, ?_⟩
          by_cases cS : ∃ bd, Spn al.length ps Prod.snd j pr.1 bd
          · obtain ⟨bd, hs⟩ := cS
            rw [hh _ _ hs] at DG ⊢
            refine iteT ⟨_, rfl, _, rfl, _, rfl, d, _, rfl, DG, i, bd, rfl, fun k hk => ⟨k, rfl, ?_⟩⟩
            cases k with
            | true =>
              obtain ⟨m0, hm0⟩ : ∃ m0, Ms[j]? = some m0 := ⟨_, List.getElem?_eq_getElem (by rw [hMs.1]; exact hjn)⟩
              obtain ⟨m1, hm1, hq1⟩ := hN j m0 hm0
              have hjl : j < Ns.length := (List.getElem?_eq_some_iff.mp hm1).1
              refine iteT ⟨_, rfl, _, rfl, M, _, j, _, rfl, rfl, hM5, iv_at hm1, _, rfl, _, rfl, _, _, rfl, rfl, M, _, (j : Int), j, rfl, rfl, hM5, ?_, _, _, Ns.set j (m1 - (m1 &&& c)), rfl, ?_, ?_, by rw [List.length_set]; exact hNl, fun x m hx => ?_⟩
              · unfold ixN
                rw [iv_len, if_pos (Int.natCast_nonneg _), if_pos (by omega), Int.toNat_natCast]
              · exact fun b o hb e => (upd_ne hb).trans (s5 b o hb e)
              · rw [upd_same]
                show some (HO.lst ((iv Ns).set j (V.int (Builtin.bitAnd (m1 : Int) (Builtin.bitNot (c : Int)))))) = _
                rw [bitAnd_not]
                unfold iv
                rw [List.map_set]
              · by_cases e : x = j
                · subst e
                  rw [hm0] at hx
                  cases hx
                  refine ⟨_, List.getElem?_set_self hjl, fun q => ?_⟩
                  rw [bit_sub_and, Bool.and_eq_true, Bool.not_eq_true', hq1 q]
                  constructor
                  · rintro ⟨⟨a, _⟩, b⟩
                    exact ⟨a, fun ⟨_, _, z⟩ => by rw [b] at z; cases z⟩
                  · rintro ⟨a, b⟩
                    refine ⟨⟨a, fun ⟨z, _⟩ => absurd z (Nat.lt_irrefl _)⟩, ?_⟩
                    cases hcq : c.testBit q with
                    | false => rfl
                    | true => exact absurd ⟨Nat.lt_succ_self _, ⟨bd, hs, hk.mp rfl⟩, hcq⟩ b
                · obtain ⟨m', h1, h2⟩ := hN x m hx
                  refine ⟨m', by rw [List.getElem?_set_ne (Ne.symm e)]; exact h1, fun q => (h2 q).trans ?_⟩
                  constructor
                  · rintro ⟨a, b⟩
                    exact ⟨a, fun ⟨z1, z2, z3⟩ => b ⟨by omega, z2, z3⟩⟩
                  · rintro ⟨a, b⟩
                    exact ⟨a, fun ⟨z1, z2, z3⟩ => b ⟨by omega, z2, z3⟩⟩
            | false =>
              refine iteF ⟨_, _, Ns, rfl, s5, hM5, hNl, no fun ⟨bd', h1, h2⟩ => ?_⟩
              rw [Spn.uniq side2 hw j h1 hs] at h2
              cases hk.mpr h2
          · rw [hm _ fun bd h => cS ⟨bd, h⟩]
            exact iteF (iteF ⟨_, _, Ns, rfl, s5, hM5, hNl, no fun ⟨bd', h1, _⟩ => cS ⟨bd', h1⟩⟩)
        · rintro σ Hf ⟨v8, v9, Ns, rfl, sx, hMf, hNl, hN⟩
          rw [hrl] at hN
          refine ⟨_, _, _, _, _, _, Ns, rfl, fun b o e => sx b o (ne_of_none e hM2) ((sc.trans se) b o e), sx _ _ npM (se _ _ hpc), huc.same fun b xs e => sx b _ (fun z => by rw [z, hMc] at e; cases e) (se _ _ e), sx _ _ (Ne.symm nMi) (se _ _ hic), hMf, by rw [hNl]; exact hMs.1, fun x q hxn hq => ?_⟩
          obtain ⟨m, hm, hb⟩ := hMs.2 x q hxn hq
          obtain ⟨m', hm', hb'⟩ := hN x m hm
          refine ⟨m', hm', (hb' q).trans ?_⟩
          rw [hb, hbit q hq]
          constructor
          · rintro ⟨a, b⟩ r hr hcr
            rcases Nat.lt_succ_iff_lt_or_eq.mp hr with h | h
            · exact a r h hcr
            · subst h
              obtain ⟨p', bx, by', e1, e2, e3, e4, e5⟩ := hcr
              rw [hpr] at e1
              cases e1
              exact b ⟨hxn, ⟨bx, e2, e4⟩, ⟨by', e3, e5⟩⟩
          · intro a
            refine ⟨fun r hr => a r (by omega), fun ⟨_, ⟨bx, e2, e4⟩, ⟨by', e3, e5⟩⟩ => a i (Nat.lt_succ_self _) ⟨pr, bx, by', hpr, e2, e3, e4, e5⟩⟩
    · rintro σ H' ⟨v4, v5, v6, v7, v8, v9, Ms, rfl, sb, hpb, hub, hib, hMb, hMs⟩
      rw [hul] at hMs
      refine ⟨_, rfl, .inl ⟨M, _, rfl, SqL.of hMb, fun z hz => q _ z Ms (Same.new ((s1.trans s2).trans sb) hz) upd_same hMs⟩⟩
end
end RJ
end

section
set_option maxRecDepth 100000
set_option maxHeartbeats 8000000
namespace RJ
open PySem PySem.Spec PyProof.Rows L2
abbrev s_choices_behind : Stmt := top 38
abbrev N_choices_behind : List Str := ["joins", "masks", "choices", "mask", "piece"]
theorem sc_choices_behind : FnScope N_choices_behind ["joins"] (C8.fnScope s_choices_behind) := C8.fnScope_by (by decide +kernel)
abbrev s_continuations : Stmt := top 43
abbrev N_continuations : List Str := ["behind", "longest", "counts", "tables", "_", "choices", "piece"]
theorem sc_continuations : FnScope N_continuations ["behind", "longest"] (C8.fnScope s_continuations) := C8.fnScope_by (by decide +kernel)
abbrev s__law_few_letters : Stmt := top 55
abbrev N__law_few_letters : List Str := ["pool"]
theorem sc__law_few_letters : FnScope N__law_few_letters ["pool"] (C8.fnScope s__law_few_letters) := C8.fnScope_by (by decide +kernel)
abbrev s__law_sides : Stmt := top 56
abbrev N__law_sides : List Str := ["made", "alphabet", "out", "left", "row", "k", "cut"]
theorem sc__law_sides : FnScope N__law_sides ["made", "alphabet"] (C8.fnScope s__law_sides) := C8.fnScope_by (by decide +kernel)
abbrev s__law_after : Stmt := top 57
abbrev N__law_after : List Str := ["sides", "many", "rows", "k", "row", "side", "j"]
theorem sc__law_after : FnScope N__law_after ["sides", "many"] (C8.fnScope s__law_after) := C8.fnScope_by (by decide +kernel)
/-- tuples of pieces, lists of numbers, lists of bools, each at its address -/
def TupAt (H : Hp) (v : V) (r : List Nat) : Prop := ∃ q, v = .ref q ∧ H q = some (.tup (iv r))
def LstAt (H : Hp) (v : V) (r : List Nat) : Prop := ∃ q, v = .ref q ∧ H q = some (.lst (iv r))
def BlsAt (H : Hp) (v : V) (r : List Bool) : Prop := ∃ q, v = .ref q ∧ H q = some (.lst (r.map V.bl))
theorem TupAt.same {H H' : Hp} {v : V} {r : List Nat} (h : TupAt H v r) (s : Same H H') : TupAt H' v r := by
  obtain ⟨q, e, h⟩ := h; exact ⟨q, e, s _ _ h⟩
theorem LstAt.same {H H' : Hp} {v : V} {r : List Nat} (h : LstAt H v r) (s : Same H H') : LstAt H' v r := by
  obtain ⟨q, e, h⟩ := h; exact ⟨q, e, s _ _ h⟩
theorem BlsAt.same {H H' : Hp} {v : V} {r : List Bool} (h : BlsAt H v r) (s : Same H H') : BlsAt H' v r := by
  obtain ⟨q, e, h⟩ := h; exact ⟨q, e, s _ _ h⟩
abbrev TupsAt (H : Hp) (vs : List V) (rs : List (List Nat)) : Prop := Paired (TupAt H) vs rs
abbrev LstsAt (H : Hp) (vs : List V) (rs : List (List Nat)) : Prop := Paired (LstAt H) vs rs
abbrev BlssAt (H : Hp) (vs : List V) (rs : List (List Bool)) : Prop := Paired (BlsAt H) vs rs
theorem TupsAt.same {H H' : Hp} {vs : List V} {rs : List (List Nat)} (h : TupsAt H vs rs) (s : Same H H') : TupsAt H' vs rs := Paired.mapP h fun _ _ x => TupAt.same x s
theorem LstsAt.same {H H' : Hp} {vs : List V} {rs : List (List Nat)} (h : LstsAt H vs rs) (s : Same H H') : LstsAt H' vs rs := Paired.mapP h fun _ _ x => LstAt.same x s
theorem BlssAt.same {H H' : Hp} {vs : List V} {rs : List (List Bool)} (h : BlssAt H vs rs) (s : Same H H') : BlssAt H' vs rs := Paired.mapP h fun _ _ x => BlsAt.same x s
/-- the same, but for what is being built at t -/
def LstN (t : Addr) (H : Hp) (v : V) (r : List Nat) : Prop := ∃ q, v = .ref q ∧ q ≠ t ∧ H q = some (.lst (iv r))
def BlsN (t : Addr) (H : Hp) (v : V) (r : List Bool) : Prop := ∃ q, v = .ref q ∧ q ≠ t ∧ H q = some (.lst (r.map V.bl))
theorem LstN.put {t : Addr} {H H' : Hp} {o : HO} {v : V} {r : List Nat} (h : LstN t H v r) (s : Same H H') : LstN t (upd H' t o) v r := by
  obtain ⟨q, e, n, h⟩ := h; exact ⟨q, e, n, (upd_ne n).trans (s _ _ h)⟩
theorem BlsN.put {t : Addr} {H H' : Hp} {o : HO} {v : V} {r : List Bool} (h : BlsN t H v r) (s : Same H H') : BlsN t (upd H' t o) v r := by
  obtain ⟨q, e, n, h⟩ := h; exact ⟨q, e, n, (upd_ne n).trans (s _ _ h)⟩
theorem LstN.same {t : Addr} {H H' : Hp} {v : V} {r : List Nat} (h : LstN t H v r) (s : Same H H') : LstN t H' v r := by
  obtain ⟨q, e, n, h⟩ := h; exact ⟨q, e, n, s _ _ h⟩
theorem BlsN.same {t : Addr} {H H' : Hp} {v : V} {r : List Bool} (h : BlsN t H v r) (s : Same H H') : BlsN t H' v r := by
  obtain ⟨q, e, n, h⟩ := h; exact ⟨q, e, n, s _ _ h⟩
theorem LstN.ats {t : Addr} {H : Hp} {vs : List V} {rs : List (List Nat)} (h : Paired (LstN t H) vs rs) : LstsAt H vs rs := Paired.mapP h fun _ _ ⟨q, e, _, h⟩ => ⟨q, e, h⟩
theorem BlsN.ats {t : Addr} {H : Hp} {vs : List V} {rs : List (List Bool)} (h : Paired (BlsN t H) vs rs) : BlssAt H vs rs := Paired.mapP h fun _ _ ⟨q, e, _, h⟩ => ⟨q, e, h⟩
/-- the same, new since H0 -/
def LstG (t : Addr) (H0 H : Hp) (v : V) (r : List Nat) : Prop := ∃ q, v = .ref q ∧ q ≠ t ∧ H0 q = none ∧ H q = some (.lst (iv r))
def BlsG (t : Addr) (H0 H : Hp) (v : V) (r : List Bool) : Prop := ∃ q, v = .ref q ∧ q ≠ t ∧ H0 q = none ∧ H q = some (.lst (r.map V.bl))
theorem LstG.put {t : Addr} {H0 H H' : Hp} {o : HO} {v : V} {r : List Nat} (h : LstG t H0 H v r) (s : Same H H') : LstG t H0 (upd H' t o) v r := by
  obtain ⟨q, e, n, f, h⟩ := h; exact ⟨q, e, n, f, (upd_ne n).trans (s _ _ h)⟩
theorem BlsG.put {t : Addr} {H0 H H' : Hp} {o : HO} {v : V} {r : List Bool} (h : BlsG t H0 H v r) (s : Same H H') : BlsG t H0 (upd H' t o) v r := by
  obtain ⟨q, e, n, f, h⟩ := h; exact ⟨q, e, n, f, (upd_ne n).trans (s _ _ h)⟩
def LstF (H0 H : Hp) (v : V) (r : List Nat) : Prop := ∃ q, v = .ref q ∧ H0 q = none ∧ H q = some (.lst (iv r))
def BlsF (H0 H : Hp) (v : V) (r : List Bool) : Prop := ∃ q, v = .ref q ∧ H0 q = none ∧ H q = some (.lst (r.map V.bl))
theorem LstG.fs {t : Addr} {H0 H : Hp} {vs : List V} {rs : List (List Nat)} (h : Paired (LstG t H0 H) vs rs) : Paired (LstF H0 H) vs rs := Paired.mapP h fun _ _ ⟨q, e, _, f, h⟩ => ⟨q, e, f, h⟩
theorem BlsG.fs {t : Addr} {H0 H : Hp} {vs : List V} {rs : List (List Bool)} (h : Paired (BlsG t H0 H) vs rs) : Paired (BlsF H0 H) vs rs := Paired.mapP h fun _ _ ⟨q, e, _, f, h⟩ => ⟨q, e, f, h⟩
theorem LstF.pool {p : Addr} {H0 H : Hp} {vs : List V} {rs : List (List Nat)} (h : Paired (LstF H0 H) vs rs) (hP : PoolAt p H0) : Paired (LstN p H) vs rs := Paired.mapP h fun _ _ ⟨q, e, f, h⟩ => ⟨q, e, hP.free f, h⟩
theorem BlsF.pool {p : Addr} {H0 H : Hp} {vs : List V} {rs : List (List Bool)} (h : Paired (BlsF H0 H) vs rs) (hP : PoolAt p H0) : Paired (BlsN p H) vs rs := Paired.mapP h fun _ _ ⟨q, e, f, h⟩ => ⟨q, e, hP.free f, h⟩
theorem LstN.ps {p : Addr} {H H' : Hp} {vs : List V} {rs : List (List Nat)} (h : Paired (LstN p H) vs rs) (s : PSame p H H') : Paired (LstN p H') vs rs := Paired.mapP h fun _ _ ⟨q, e, n, h⟩ => ⟨q, e, n, s.lst n h⟩
theorem BlsN.ps {p : Addr} {H H' : Hp} {vs : List V} {rs : List (List Bool)} (h : Paired (BlsN p H) vs rs) (s : PSame p H H') : Paired (BlsN p H') vs rs := Paired.mapP h fun _ _ ⟨q, e, n, h⟩ => ⟨q, e, n, s.x _ _ n h⟩
theorem asc_take : ∀ (l : List Nat) (n : Nat), (ascL l).all id = true → (ascL (l.take n)).all id = true
  | [], n, _ => by rw [List.take_nil]; rfl
  | [a], 0, _ => rfl
  | [a], n + 1, _ => by rw [List.take_succ_cons, List.take_nil]; rfl
  | a :: b :: t, 0, _ => rfl
  | a :: b :: t, 1, _ => rfl
  | a :: b :: t, n + 2, h => by
    have h' : (decide (a < b) && (ascL (b :: t)).all id) = true := h
    rw [Bool.and_eq_true] at h'
    have ih := asc_take (b :: t) (n + 1) h'.2
    show (decide (a < b) && (ascL (b :: t.take n)).all id) = true
    rw [h'.1]
    exact ih
theorem strV_mem' {ts : List (List Nat)} {i : Nat} {x : V} (h : (strV ts)[i]? = some x) : ∃ t, ts[i]? = some t ∧ x = .str (S t) := by
  unfold strV at h
  rw [List.getElem?_map] at h
  obtain ⟨t, ht, rfl⟩ := Option.map_eq_some_iff.mp h
  exact ⟨t, ht, rfl⟩
theorem rg_iv (n : Nat) : rgV 0 (n : Int) = iv (List.range n) := by
  unfold rgV iv
  rw [Int.sub_zero, Int.toNat_natCast]
  exact List.map_congr_left fun i _ => congrArg V.int (Int.zero_add _)
def sp_choices (C : Addr) : Sp := fun vs H Q _ => ∃ (p : Addr) (al : List Nat) (ps : List (Nat × Nat)), vs = [.ref p] ∧ JoinsAt C H p al ps ∧ Proper al ps ∧ al.Nodup ∧ 1 ≤ al.length ∧ al.length ≤ 400 ∧ ps.length ≤ 400 ∧
  ∀ H' q us, Same H H' → H' q = some (.tup us) → TupsAt H' us (chRows (al.length + ps.length) (sideB al ps)) → Q (.ref q) H'
def sp_conts : Sp := fun vs H Q _ => ∃ (a : Addr) (us : List V) (N m : Nat) (S : Nat → Nat → Bool), vs = [.ref a, .int (m : Int)] ∧ H a = some (.tup us) ∧ TupsAt H us (chRows N S) ∧ N ≤ 800 ∧ m ≤ 900 ∧
  ∀ H' q ws, Same H H' → H' q = some (.lst ws) → LstsAt H' ws ((List.range (m + 1)).map (tabW N S)) → Q (.ref q) H'
def sp_few : Sp := fun vs H Q _ => ∃ p : Addr, vs = [.ref p] ∧ PoolAt p H ∧
  ∀ H' al, PSame p H H' → alOk al = true → al.Nodup → 1 ≤ al.length → al.length ≤ 4 → (∀ c ∈ al, c ∈ SG) → Q (.str (S al)) H'
def boolRows (N : Nat) (S : Nat → Nat → Bool) : List (List Bool) := (List.range N).map fun x => (List.range N).map (S x)
def sp_lsides : Sp := fun vs H Q _ => ∃ (r pp tx : Addr) (us : List V) (al : List Nat) (ps : List (Nat × Nat)), vs = [.ref r, .str (S al)] ∧ H r = some (.tup [.ref pp, .ref tx]) ∧ H pp = some (.lst us) ∧ PairsAt H us ps ∧ H tx = some (.lst (strV (textsOf al ps))) ∧ Proper al ps ∧ al.Nodup ∧ al.length ≤ 30 ∧ ps.length ≤ 100 ∧
  ∀ H' q ws, Same H H' → H q = none → H' q = some (.lst ws) → Paired (BlsF H H') ws (boolRows (al.length + ps.length) (sideB al ps)) → Q (.ref q) H'
def sp_lafter : Sp := fun vs H Q _ => ∃ (a : Addr) (us : List V) (N m : Nat) (S : Nat → Nat → Bool), vs = [.ref a, .int (m : Int)] ∧ H a = some (.lst us) ∧ BlssAt H us (boolRows N S) ∧ N ≤ 200 ∧ m ≤ 900 ∧
  ∀ H' q ws, Same H H' → H q = none → H' q = some (.lst ws) → Paired (LstF H H') ws ((List.range (m + 1)).map (rowW N S)) → Q (.ref q) H'
section
variable {P : Program} {w : World} {K : PySem.W.Frag} {mg : Str → Option Value} {base : Heap}
theorem ok_choices {f C : Addr} {fd : FuncData} (F : C8.Fun K "choices_behind" "choices_behind" s_choices_behind f fd) (T : Txt K mg) (J : JTxt K C) (p_pieces : PrpC P w K mg base 1 C "pieces" (sp_pieces C)) (c_following_masks : C8.Cal P w K mg base 8 "following_masks" (sp_masks C) []) :
    FnOk P w K mg base C8.CX0 9 f fd ["joins"] (sp_choices C) := by
  refine C8.fn0 F sc_choices_behind (fun vs H Q E h => ?_) (fun cdv A outer s H vs Q E hr h => ?_)
  · obtain ⟨p, al, ps, rfl, _⟩ := h; rfl
  · obtain ⟨p, al, ps, rfl, hj, hprop, hnd, hal1, hal, hpl, q⟩ := h
    have ins : ∀ H', JoinsAt C H' p al ps → ∃ dx fs, H' p = some (.ins C dx fs) := fun H' hj' => by
      obtain ⟨dx, t, tx, d, e, ws, h1, _⟩ := hj'
      exact ⟨dx, _, h1⟩
    obtain ⟨N, hN⟩ : ∃ N, N = al.length + ps.length := ⟨_, rfl⟩
    refine ⟨_, (pss_cons (ps_set (i := 1) sc_choices_behind.nd rfl (Or.inl rfl) (C8.pe_c c_following_masks hr (by first | decide | omega) (by rfl) (pa_cons (pv 0) pa_nil)))
      (pss_cons (ps_setLc (own := [("mask", 3)]) (i := 2) (g := gName 3) (tt := tYes) rfl sc_choices_behind.nd rfl rfl (sw_true rfl rfl rfl (by decide +kernel)) (pi_tup (pv 1)) (blkOk_by (N := N_choices_behind) (sc := C8.fnScope s_choices_behind) (by decide +kernel)) (fun _ _ _ _ _ => (pg_name (i := 3) sc_choices_behind.nd rfl (Or.inr rfl))) (fun _ _ _ _ _ => pts_nil) (fun _ _ _ _ _ => (pe_tupleOfK (K := K) rfl (by rfl) T.b_tuple (pe_lc (own := [("piece", 4)]) (g := gName 4)  rfl sc_choices_behind.nd (pi_range1 rfl T.b_range (pa_cons (pe_prp p_pieces hr (by first | decide | omega) (pv 0)) pa_nil)) (blkOk_nest (N := N_choices_behind) (sc0 := C8.fnScope s_choices_behind) rfl (by decide +kernel)) (fun _ _ _ _ _ => (pg_name (i := 4) sc_choices_behind.nd rfl (Or.inl rfl))) (fun _ _ _ _ _ => pts_one (pt_truthK (K := K) rfl (pe_op op_and (pe_op op_shrN (pv 3) (pv 4)) pe_int) (fun _ => rfl))) (fun _ _ _ _ _ => (pv 4))))))
      (pss_one (ps_ret (pe_op op_catA (pe_tupleOf (by rfl) T.b_tuple (pv 2)) (pe_tup (pa_cons (pe_tupRg (by rfl) (by rfl) T.b_tuple (prg_1 rfl T.b_range (pe_prp p_pieces hr (by first | decide | omega) (pv 0)))) pa_nil))))))), ?_⟩
    refine ⟨_, rfl, p, al, ps, rfl, hj, hprop, hal, hpl, fun H1 mk Ms s1 hmk hMs => ?_⟩
    rw [← hN] at q
    have hMl : Ms.length = N := by rw [hN]; exact hMs.1
    refine ⟨_, rfl, mk, rfl, ⟨_, SqT.of hmk⟩, fun D hD => lc_it walk_tup (fun i H' => Same H1 H' ∧ ∃ us, H' D = some (.lst us) ∧ TupsAt H' us ((List.range i).map (chs N (sideB al ps)))) ⟨same_new hD, [], upd_same, .nil⟩ (fun i H' _ ⟨s', _⟩ => SqT.of (s' _ _ hmk)) ?_ ?_⟩
    · rintro i x Ha Hb hi ⟨sa, us, ha, hus⟩ ⟨rfl, hx⟩
      obtain ⟨m, hm, rfl⟩ := iv_get hx
      have hiN : i < N := by rw [iv_len, hMl] at hi; exact hi
      have hjb := (hj.same s1).same sa
      obtain ⟨dx, fs, hins⟩ := ins _ hjb
      refine ⟨rfl, _, rfl, p, dx, fs, rfl, hins, p, al, ps, rfl, hjb, ?_⟩
      rw [← hN]
      refine ⟨_, rfl, by omega, by omega, fun D2 hD2 => ?_⟩
      refine lc_it walk_range (fun j H' => Same Hb H' ∧ H' D2 = some (.lst (iv ((List.range j).filter (sideB al ps i))))) ⟨same_new hD2, upd_same⟩ (fun _ _ _ _ => trivial) ?_ ?_
      · rintro j x Hc Hd hj2 ⟨sc, hc⟩ ⟨rfl, hx2⟩
        obtain rfl : x = V.int (j : Int) := hx2.trans (congrArg V.int (Int.zero_add _))
        have hjN : j < N := by simpa using hj2
        obtain ⟨m', hm', hbit⟩ := hMs.2 i j (by rw [← hN]; exact hiN) (by rw [← hN]; exact hjN)
        rw [hm] at hm'
        cases hm'
        have hsb : sideB al ps i j = m.testBit j := by
          rw [Bool.eq_iff_iff, hbit, sideB_iff hnd hprop (by rw [← hN]; exact hiN) (by rw [← hN]; exact hjN)]
          exact ⟨fun h r _ => h r, fun h r hc => h r hc.lt hc⟩
        refine ⟨rfl, _, rfl, _, rfl, (m : Int), j, rfl, rfl, _, _, rfl, rfl, sideB al ps i j, ?_, ?_⟩
        · show sideB al ps i j = (Builtin.bitAnd ((m : Int) / 2 ^ j) 1 != 0)
          rw [bit_one, hsb, Nat.testBit_eq_decide_div_mod_eq]
          rcases Nat.mod_two_eq_zero_or_one (m / 2 ^ j) with e | e <;> rw [e] <;> rfl
        have hfl : ((List.range j).filter (sideB al ps i)).length ≤ 800 := by
          have := List.length_filter_le (sideB al ps i) (List.range j)
          rw [List.length_range] at this
          omega
        cases hS : sideB al ps i j with
        | true =>
          refine iteT ⟨_, rfl, _, hc, by rw [iv_len]; exact small1000 (by omega), Same.put sc hD2, ?_⟩
          rw [upd_same, List.range_succ, List.filter_append, List.filter_cons, hS, if_pos rfl, iv_snoc]; rfl
        | false =>
          refine iteF ⟨sc, ?_⟩
          rw [List.range_succ, List.filter_append, List.filter_cons, hS, if_neg (by decide), List.filter_nil, List.append_nil]; exact hc
      · rintro H3 ⟨s3, h3⟩
        rw [Int.toNat_natCast] at h3
        have hDb := s3 _ _ ha
        have hul : us.length = i := by have := hus.length; rwa [List.length_map, List.length_range] at this
        refine .inl ⟨D2, _, rfl, SqL.of h3, fun t ht => ?_⟩
        have s4 := Same.new (o := .tup (iv (chs N (sideB al ps) i))) s3 ht
        refine ⟨us, s4 _ _ ha, small1000 (by omega), Same.put (sa.trans s4) hD, us ++ [.ref t], upd_same, ?_⟩
        rw [List.range_succ, List.map_append]
        have sx : ∀ {v : V} {r : List Nat}, TupAt H3 v r → TupAt (upd (upd H3 t (.tup (iv (chs N (sideB al ps) i)))) D (.lst (us ++ [.ref t]))) v r := fun {v r} ⟨q, e, h⟩ => ⟨q, e, by
          rw [upd_ne (ne_of h hDb (fun z => by cases z)), upd_ne (ne_of_none h ht)]; exact h⟩
        exact Paired.snoc (F := TupAt _) ⟨t, rfl, by rw [upd_ne (Ne.symm (ne_of_none hDb ht)), upd_same]; rfl⟩ (Paired.mapP (hus.same s3) fun _ _ h => sx h)
    · rintro H2 ⟨s2, us, hD2, hus⟩
      rw [iv_len, hMl] at hus
      have hjz := (hj.same s1).same s2
      refine ⟨_, rfl, .inl ⟨D, _, rfl, SqL.of hD2, fun t ht => ?_⟩⟩
      have st := Same.new (o := .tup us) s2 ht
      have hjt := (hj.same s1).same st
      obtain ⟨dx, fs, hins⟩ := ins _ hjt
      refine ⟨_, rfl, p, dx, fs, rfl, hins, p, al, ps, rfl, hjt, ?_⟩
      rw [← hN]
      refine ⟨_, rfl, RgOk.of_le (by omega) (by omega) (by omega) (by omega), fun r hr2 => ?_⟩
      rw [rg_iv]
      refine ⟨by show 1 ≤ sizeLine; decide, fun z hz => ?_⟩
      have sr := Same.new (o := .tup (iv (List.range N))) st hr2
      have sz := Same.new (o := .tup [.ref r]) sr hz
      have hul : us.length = N := by have := hus.length; rwa [List.length_map, List.length_range] at this
      have hne : us ≠ [] := fun e => by rw [e] at hul; rw [List.length_nil] at hul; omega
      have htz : (upd (upd (upd H2 t (.tup us)) r (.tup (iv (List.range N)))) z (.tup [.ref r])) t = some (.tup us) := (same_new hz) _ _ ((same_new hr2) _ _ upd_same)
      refine ⟨t, z, us, [.ref r], rfl, rfl, SqT.of htz, SqT.of upd_same, small_le (by rw [List.length_singleton]; omega), fun e => absurd e hne, fun _ e => (by cases e), fun _ _ w hw => ?_⟩
      have sw := Same.new (o := .tup (us ++ [.ref r])) sz hw
      have s0 := s1.trans sw
      refine q _ w _ s0 upd_same ?_
      refine Paired.snoc ⟨r, rfl, (same_new hw) _ _ ((same_new hz) _ _ upd_same)⟩ (hus.same ?_)
      exact Same.new (Same.new (Same.new (same_new ht) hr2) hz) hw
theorem ok_conts {f : Addr} {fd : FuncData} (F : C8.Fun K "continuations" "continuations" s_continuations f fd) (T : Txt K mg) : FnOk P w K mg base C8.CX0 1 f fd ["behind", "longest"] sp_conts := by
  refine C8.fn0 F sc_continuations (fun vs H Q E h => ?_) (fun cdv A outer s H vs Q E hr h => ?_)
  · obtain ⟨a, us, N, m, S, rfl, _⟩ := h; rfl
  · obtain ⟨a, us, N, m, S, rfl, ha, hus, hN, hm, q⟩ := h
    have hul : us.length = N + 1 := by rw [hus.length, chRows_len]
    refine ⟨_, (pss_cons (ps_set (i := 2) sc_continuations.nd rfl (Or.inr rfl) (pe_lc (own := [("_", 4)]) (g := gName 4) (tt := tYes) rfl sc_continuations.nd (pi_tup (pv 0)) (blkOk_by (N := N_continuations) (sc := C8.fnScope s_continuations) (by decide +kernel)) (fun _ _ _ _ _ => (pg_name (i := 4) sc_continuations.nd rfl (Or.inl rfl))) (fun _ _ _ _ _ => pts_nil) (fun _ _ _ _ _ => pe_int)))
      (pss_cons (ps_set (i := 3) sc_continuations.nd rfl (Or.inl rfl) (pe_lst (pa_cons (pv 2) pa_nil)))
      (pss_cons (ps_for PassesOwn.never rfl (pi_range1 rfl T.b_range (pa_cons (pv 1) pa_nil)) (pg_name (i := 4) sc_continuations.nd rfl (Or.inl rfl)) (pss_cons (ps_set (i := 2) sc_continuations.nd rfl (Or.inr rfl) (pe_lc (own := [("choices", 5)]) (g := gName 5) (tt := tYes) rfl sc_continuations.nd (pi_tup (pv 0)) (blkOk_by (N := N_continuations) (sc := C8.fnScope s_continuations) (by decide +kernel)) (fun _ _ _ _ _ => (pg_name (i := 5) sc_continuations.nd rfl (Or.inl rfl))) (fun _ _ _ _ _ => pts_nil) (fun _ _ _ _ _ => (pe_callB (cr_sumK (K := K) rfl rfl) (by rfl) T.b_sum (by decide +kernel) (pa_cons (pe_lc (own := [("piece", 6)]) (g := gName 6) (tt := tYes) rfl sc_continuations.nd (pi_tupK (K := K) rfl (pv 5)) (blkOk_nest (N := N_continuations) (sc0 := C8.fnScope s_continuations) rfl (by decide +kernel)) (fun _ _ _ _ _ => (pg_name (i := 6) sc_continuations.nd rfl (Or.inl rfl))) (fun _ _ _ _ _ => pts_nil) (fun _ _ _ _ _ => (pe_ix (ix_listK (K := K) rfl) (pv 2) (pv 6) (fun _ _ => rfl)))) pa_nil)))))
      (pss_one (ps_expr (pe_bm PySem.F.plainAttrs_list PySem.F.slot_list_append PySem.F.type_list_append mt_append (pv 3) (pa_cons (pv 2) pa_nil))))))
      (pss_one (ps_ret (pv 3)))))), ?_⟩
    refine ⟨_, rfl, a, rfl, ⟨_, SqT.of ha⟩, fun D hD => lc_it walk_tup (fun i H' => Same H H' ∧ H' D = some (.lst (iv (List.replicate i 1)))) ⟨same_new hD, upd_same⟩ (fun i H' _ ⟨s', _⟩ => SqT.of (s' _ _ ha)) ?_ ?_⟩
    · rintro i x Ha Hb hi ⟨sa, hb⟩ ⟨rfl, hx⟩
      refine ⟨rfl, _, hb, by rw [iv_len, List.length_replicate]; exact small1000 (by omega), Same.put sa hD, ?_⟩
      rw [upd_same, List.replicate_succ', ← iv_snoc]; rfl
    rintro H1 ⟨s1, hD1⟩
    have e0 : List.replicate us.length 1 = tabW N S 0 := by
      rw [hul]
      refine (List.eq_replicate_iff.mpr ⟨tabW_len 0, fun x hx => ?_⟩).symm
      rw [← tabW_zero] at hx
      obtain ⟨_, _, e⟩ := List.mem_map.mp hx
      exact e.symm
    rw [e0] at hD1
    refine ⟨_, rfl, by show 1 ≤ sizeLine; decide, fun t ht => ?_⟩
    have s2 := Same.new (o := .lst [.ref D]) s1 ht
    refine ⟨_, rfl, _, rfl, by omega, by omega, for_it walk_range (fun i σ H' => ∃ (D : Addr) (ws : List V) (v4 v5 v6 : Option V), σ = [some (.ref a), some (.int (m : Int)), some (.ref D), some (.ref t), v4, v5, v6] ∧ Same H H' ∧ H' t = some (.lst ws) ∧ Paired (LstN t H') ws ((List.range (i + 1)).map (tabW N S)) ∧ H' D = some (.lst (iv (tabW N S i))) ∧ D ≠ t)
      ⟨D, [.ref D], none, none, none, rfl, s2, upd_same, ?_, (same_new ht) _ _ hD1, ne_of_none hD1 ht⟩ (fun _ _ _ _ _ => trivial) ?_ ?_⟩
    · exact .cons ⟨D, rfl, ne_of_none hD1 ht, (same_new ht) _ _ hD1⟩ .nil
    · rintro i x σ Ha Hb hi ⟨D, ws, v4, v5, v6, rfl, sa, hta, hws, hDa, hDt⟩ ⟨rfl, hx⟩
      have him : i < m := by simpa using hi
      have hab := sa _ _ ha
      have hub := hus.same sa
      have ht0 : H t = none := s1.free ht
      refine ⟨_, rfl, a, rfl, ⟨_, SqT.of hab⟩, fun E1 hE1 => lc_it walk_tup (fun j H' => Same Hb H' ∧ H' E1 = some (.lst (iv ((tabW N S (i + 1)).take j)))) ⟨same_new hE1, upd_same⟩ (fun j H' _ ⟨s', _⟩ => SqT.of (s' _ _ hab)) ?_ ?_⟩
      · rintro j x Hc Hd hj ⟨sc, hc⟩ ⟨rfl, hx2⟩
        obtain ⟨r, hr1, g, rfl, hg⟩ := Paired.at hub hx2
        have hrm : r ∈ chRows N S := List.mem_of_getElem? hr1
        have hgc := sc _ _ hg
        refine ⟨rfl, _, rfl, g, rfl, ⟨_, SqT.of hgc⟩, fun D2 hD2 => lc_it walk_tup (fun k H' => Same Hd H' ∧ H' D2 = some (.lst (iv ((r.take k).map (wk N S i))))) ⟨same_new hD2, upd_same⟩ (fun k H' _ ⟨s', _⟩ => SqT.of (s' _ _ hgc)) ?_ ?_⟩
        · rintro k x He Hf hk ⟨se, he⟩ ⟨rfl, hx3⟩
          obtain ⟨y, hy, rfl⟩ := iv_get hx3
          have hyN := chRows_lt hrm y (List.mem_of_getElem? hy)
          have hDe := se _ _ (sc _ _ hDa)
          refine ⟨rfl, _, rfl, _, rfl, D, _, _, _, rfl, rfl, SqL.of hDe, atI_nat (iv_at (tabW_at hyN)), _, he, ?_, Same.put se hD2, ?_⟩
          · have := chRows_len_le hrm
            rw [iv_len, List.length_map, List.length_take]; exact small1000 (by omega)
          · rw [upd_same, take_succ_of hy, List.map_append, iv_snoc]; rfl
        · rintro H3 ⟨s3, h3⟩
          rw [iv_len, List.take_length] at h3
          have hv : (iv (r.map (wk N S i))) = (r.map fun y => (wk N S i y : Int)).map V.int := by unfold iv; rw [List.map_map, List.map_map]; rfl
          refine ⟨D2, r.map fun y => (wk N S i y : Int), rfl, SqL.of (by rw [← hv]; exact h3), ?_⟩
          have hjl : (tabW N S (i + 1))[j]? = some ((r.map (wk N S i)).sum) := by rw [← tabW_next, List.getElem?_map, hr1]; rfl
          have hsum := sum_cast (wk N S i) r
          refine ⟨_, s3 _ _ hc, ?_, Same.put (sc.trans s3) hE1, ?_⟩
          · rw [iv_len, List.length_take, tabW_len]; exact small1000 (by omega)
          · rw [upd_same, take_succ_of hjl, hsum, iv_snoc]
      · rintro H3 ⟨s3, h3⟩
        rw [hul, List.take_of_length_le (by rw [tabW_len]; exact Nat.le_refl _)] at h3
        have hwl : ws.length = i + 1 := by rw [hws.length, List.length_map, List.length_range]
        have ht3 := s3 _ _ hta
        refine ⟨_, rfl, .inl ⟨rfl, _, SqL.of ht3⟩, _, rfl, t, ws, _, rfl, rfl, ht3, small1000 (by omega), E1, ws ++ [.ref E1], _, _, _, rfl, Same.put (sa.trans s3) ht0, upd_same, ?_, ?_, Ne.symm (ne_of_none hta hE1)⟩
        · rw [List.range_succ, List.map_append]
          exact Paired.snoc ⟨E1, rfl, Ne.symm (ne_of_none hta hE1), (upd_ne (Ne.symm (ne_of_none hta hE1))).trans h3⟩ (Paired.mapP hws fun _ _ h => LstN.put h s3)
        · exact (upd_ne (Ne.symm (ne_of_none hta hE1))).trans h3
    · rintro σ H2 ⟨D, ws, v4, v5, v6, rfl, sa, hta, hws, hDa, hDt⟩
      rw [Int.toNat_natCast] at hws
      exact ⟨_, rfl, q _ t ws sa hta (LstN.ats hws)⟩
theorem ok_few {f : Addr} {fd : FuncData} (F : C8.Fun K "_law_few_letters" "_law_few_letters" s__law_few_letters f fd) (T : Txt K mg) (c__law_alphabet : C8.Cal P w K mg base 2 "_law_alphabet" sp_alphabetB []) : FnOk P w K mg base C8.CX0 3 f fd ["pool"] sp_few := by
  refine C8.fn0 F sc__law_few_letters (fun vs H Q E h => ?_) (fun cdv A outer s H vs Q E hr h => ?_)
  · obtain ⟨p, rfl, _⟩ := h; rfl
  · obtain ⟨p, rfl, hP, q⟩ := h
    refine ⟨_, (pss_one (ps_ret (pe_slice sl_str (C8.pe_c c__law_alphabet hr (by first | decide | omega) (by rfl) (pa_cons (pv 0) pa_nil)) po_none (po_some pe_int)))), ?_⟩
    refine ⟨_, rfl, p, rfl, hP, fun H1 al s1 hok hnd h1 h30 hSG => ⟨_, rfl, S al, rfl, by rw [S_len]; exact small_le (by omega), ?_⟩⟩
    rw [show (some (4 : Int)) = some ((4 : Nat) : Int) from rfl, cutS_take]
    have hasc : ∀ c ∈ al.take 4, c ∈ al := fun c hc => List.mem_of_mem_take hc
    have hl : (al.take 4).length ≤ 4 ∧ 1 ≤ (al.take 4).length := by rw [List.length_take]; omega
    refine q H1 (al.take 4) s1 (alOk_of (asc_take al 4 ?_) (fun c hc => hSG c (hasc c hc)) hl.2 (by omega)) (hnd.sublist (List.take_sublist 4 al)) hl.2 hl.1 fun c hc => hSG c (hasc c hc)
    unfold alOk at hok
    rw [Bool.and_eq_true, Bool.and_eq_true] at hok
    exact hok.2.1
theorem ok_lsides {f : Addr} {fd : FuncData} (F : C8.Fun K "_law_sides" "_law_sides" s__law_sides f fd) (T : Txt K mg) (c__law_cut : C8.Cal P w K mg base 2 "_law_cut" sp_cutB []) : FnOk P w K mg base C8.CX0 3 f fd ["made", "alphabet"] sp_lsides := by
  refine C8.fn0 F sc__law_sides (fun vs H Q E h => ?_) (fun cdv A outer s H vs Q E hr h => ?_)
  · obtain ⟨r, pp, tx, us, al, ps, rfl, _⟩ := h; rfl
  · obtain ⟨r, pp, tx, us, al, ps, rfl, hr0, hpp, hps, htx, hprop, hnd, hal, hpl, q⟩ := h
    refine ⟨_, (pss_cons (ps_set (i := 2) sc__law_sides.nd rfl (Or.inl rfl) (pe_lst pa_nil))
      (pss_cons (ps_for PassesOwn.never rfl (pi_list (pe_ix ix_tup (pv 0) pe_int (fun _ _ => rfl))) (pg_name (i := 3) sc__law_sides.nd rfl (Or.inl rfl)) (pss_cons (ps_set (i := 4) sc__law_sides.nd rfl (Or.inl rfl) (pe_lst pa_nil))
      (pss_cons (ps_for PassesOwn.never rfl (pi_range1 rfl T.b_range (pa_cons (pe_callB call_len_seq (by rfl) T.b_len PySem.boot_len (pa_cons (pe_ix ix_tup (pv 0) pe_int (fun _ _ => rfl)) pa_nil)) pa_nil)) (pg_name (i := 5) sc__law_sides.nd rfl (Or.inl rfl)) (pss_cons (ps_set (i := 6) sc__law_sides.nd rfl (Or.inl rfl) (C8.pe_c c__law_cut hr (by first | decide | omega) (by rfl) (pa_cons (pe_ix ix_tup (pv 0) pe_int (fun _ _ => rfl)) (pa_cons (pv 1) (pa_cons (pe_op op_add_str (pv 3) (pe_ix ix_list (pe_ix ix_tup (pv 0) pe_int (fun _ _ => rfl)) (pv 5) (fun _ _ => rfl))) pa_nil)))))
      (pss_one (ps_expr (pe_bm PySem.F.plainAttrs_list PySem.F.slot_list_append PySem.F.type_list_append mt_append (pv 4) (pa_cons (pe_and (pe_cmpR op_eq (pe_callB call_len_seq (by rfl) T.b_len PySem.boot_len (pa_cons (pv 6) pa_nil)) pe_int (nomark _)) (pe_and (pe_cmpR op_eq (pe_ix ix_list (pv 6) pe_int (fun _ _ => rfl)) (pv 5) (nomark _)) (pe_one (pe_cmpR op_eq (pe_ix ix_list (pe_ix ix_tup (pv 0) pe_int (fun _ _ => rfl)) (pe_ix ix_list (pv 6) pe_int (fun _ _ => rfl)) (fun _ _ => rfl)) (pv 3) (nomark _))))) pa_nil))))))
      (pss_one (ps_expr (pe_bm PySem.F.plainAttrs_list PySem.F.slot_list_append PySem.F.type_list_append mt_append (pv 2) (pa_cons (pv 4) pa_nil)))))))
      (pss_one (ps_ret (pv 2))))), ?_⟩
    refine ⟨Nat.zero_le _, fun t ht => ?_⟩
    have s0 := same_new (o := .lst []) ht
    have hTl : (textsOf al ps).length = al.length + ps.length := textsOf_len al ps
    refine ⟨_, rfl, r, _, _, _, rfl, rfl, SqT.of (s0 _ _ hr0), rfl, tx, rfl, ⟨_, SqL.of (s0 _ _ htx)⟩, for_it walk_list (fun i σ H' => ∃ (ws : List V) (v3 v4 v5 v6 : Option V), σ = [some (.ref r), some (.str (S al)), some (.ref t), v3, v4, v5, v6] ∧ Same H H' ∧ H' t = some (.lst ws) ∧ Paired (BlsG t H H') ws ((List.range i).map fun x => (List.range (al.length + ps.length)).map (sideB al ps x)))
      ⟨[], none, none, none, none, rfl, s0, upd_same, .nil⟩ (fun i σ H' _ ⟨_, _, _, _, _, _, s', _⟩ => SqL.of (s' _ _ htx)) ?_ ?_⟩
    · rintro i x σ Ha Hb hi ⟨ws, v3, v4, v5, v6, rfl, sa, hta, hws⟩ ⟨rfl, hx⟩
      obtain ⟨tx0, htx0, rfl⟩ := strV_mem' hx
      have hiN : i < al.length + ps.length := by rw [strV_len, hTl] at hi; exact hi
      have e0 : tx0 = TX al ps i := by rw [TX, List.getD_eq_getElem?_getD, htx0]; rfl
      subst e0
      have hTT : ∀ k, ∀ c ∈ TX al ps k, c ∈ al := fun k c hc => by
        rcases getD_mem_or (ts := textsOf al ps) (i := k) with m | m
        · exact textsOf_al _ m c hc
        · rw [TX, m] at hc; cases hc
      refine ⟨Nat.zero_le _, fun D hD => ?_⟩
      have s1 := Same.new (o := .lst []) sa hD
      have sD := same_new (o := .lst []) hD
      have hDt : D ≠ t := Ne.symm (ne_of_none hta hD)
      refine ⟨_, rfl, r, _, _, _, rfl, rfl, SqT.of (s1 _ _ hr0), rfl, tx, _, rfl, .inl (SqL.of (s1 _ _ htx)), _, rfl, by rw [strV_len, hTl]; omega, by rw [strV_len, hTl]; omega, for_it walk_range (fun k σ H' => ∃ v5 v6 : Option V, σ = [some (.ref r), some (.str (S al)), some (.ref t), some (.str (S (TX al ps i))), some (.ref D), v5, v6] ∧ Same Hb H' ∧ H' D = some (.lst (((List.range k).map (sideB al ps i)).map V.bl)))
        ⟨v5, v6, rfl, sD, upd_same⟩ (fun _ _ _ _ _ => trivial) ?_ ?_⟩
      · rintro k x σ Hc Hd hk ⟨v5, v6, rfl, sc, hDc⟩ ⟨rfl, hx2⟩
        obtain rfl : x = V.int (k : Int) := hx2.trans (congrArg V.int (Int.zero_add _))
        have hkN : k < al.length + ps.length := by rw [strV_len, hTl, Int.toNat_natCast] at hk; exact hk
        have su := sa.trans sc
        have hla : (TX al ps i).length ≤ 40 := getD_short hprop.short i
        have hlb : ((textsOf al ps).getD k []).length ≤ 40 := getD_short hprop.short k
        have hbT := strV_at (ts := textsOf al ps) (i := k) (by rw [hTl]; exact hkN)
        refine ⟨_, rfl, r, _, _, _, rfl, rfl, SqT.of (su _ _ hr0), rfl, _, rfl, _, rfl, _, rfl, r, _, _, _, rfl, rfl, SqT.of (su _ _ hr0), rfl, _, rfl, tx, _, _, _, rfl, rfl, SqL.of (su _ _ htx), atI_nat hbT, S _, S _, rfl, rfl, by rw [S_len, S_len]; exact small_le (by omega), ?_⟩
        rw [S_cat]
        refine ⟨pp, us, ps, al, _, rfl, su _ _ hpp, hps.same (Same.t su), hprop.wf, by omega, by omega, fun c hc => ?_, by rw [List.length_append]; omega, fun He z s3 hzn hz => ?_⟩
        · rcases List.mem_append.mp hc with m | m
          · exact hTT _ _ m
          · exact hTT _ _ m
        have sv := su.trans s3
        have hDe := s3 _ _ hDc
        have fin : ∀ b, b = sideB al ps i k → ∃ (l : Addr) (xs : List V) (y : V), V.ref D = V.ref l ∧ [V.bl b] = [y] ∧ He l = some (.lst xs) ∧ xs.length < sizeLine ∧ ∃ v5 v6 : Option V, [some (V.ref r), some (.str (S al)), some (.ref t), some (.str (S (TX al ps i))), some (.ref D), some (.int (k : Int)), some (.ref z)] = [some (.ref r), some (.str (S al)), some (.ref t), some (.str (S (TX al ps i))), some (.ref D), v5, v6] ∧ Same Hb (upd He l (.lst (xs ++ [y]))) ∧ (upd He l (.lst (xs ++ [y]))) D = some (.lst (((List.range (k + 1)).map (sideB al ps i)).map V.bl)) := fun b hb =>
          ⟨D, _, _, rfl, rfl, hDe, by rw [List.length_map, List.length_map, List.length_range]; exact small1000 (by omega), _, _, rfl, Same.put (sc.trans s3) hD, by rw [upd_same, List.range_succ, List.map_append, List.map_append, hb]; rfl⟩
        refine ⟨_, rfl, .inl ⟨rfl, _, SqL.of hDe⟩, _, rfl, z, _, rfl, .inl (SqL.of hz), rfl, _, rfl, ?_⟩
        rw [iv_len]
        obtain ⟨cl, hcl⟩ : ∃ cl, cl = cutL al.length ps (lets al (TX al ps i ++ (textsOf al ps).getD k [])) := ⟨_, rfl⟩
        have hlt : ∀ x ∈ cl, x < al.length + ps.length := by
          rw [hcl]
          exact cut_lt fun c hc => (List.mem_append.mp hc).elim (hTT _ c) (hTT _ c)
        have hsb : sideB al ps i k = decide (cl = [i, k]) := by rw [hcl]; rfl
        rw [← hcl] at hz ⊢
        by_cases h2 : cl.length = 2
        · rw [decide_eq_true (by rw [h2]; rfl)]
          obtain ⟨c0, c1, rfl⟩ : ∃ c0 c1, cl = [c0, c1] := by
            match cl, h2 with
            | [c0, c1], _ => exact ⟨c0, c1, rfl⟩
          refine iteT ⟨_, rfl, z, _, _, _, rfl, rfl, SqL.of hz, rfl, _, rfl, rfl, _, rfl, ?_⟩
          by_cases h3 : c1 = k
          · subst h3
            rw [decide_eq_true rfl]
            have h0 := hlt c0 (List.mem_cons_self ..)
            refine iteT ⟨_, rfl, r, _, _, _, rfl, rfl, SqT.of (sv _ _ hr0), rfl, _, rfl, z, _, _, _, rfl, rfl, SqL.of hz, rfl, tx, _, _, _, rfl, rfl, SqL.of (sv _ _ htx), atI_nat (strV_at (by rw [hTl]; exact h0)), _, rfl, rfl, ?_⟩
            refine fin _ ?_
            rw [hsb]
            refine decide_eq_decide.mpr ⟨fun e => ?_, fun e => ?_⟩
            · injection e with e
              have e := S_inj e
              have g0 : (textsOf al ps)[c0]? = some ((textsOf al ps).getD c0 []) := by rw [List.getD_eq_getElem?_getD, List.getElem?_eq_getElem (by rw [hTl]; exact h0)]; rfl
              rw [e] at g0
              rw [texts_inj hnd hprop g0 htx0]
            · injection e with e; rw [e]
          · rw [decide_eq_false (fun e => h3 (by injection e with e; omega))]
            refine iteF (fin _ ?_)
            rw [hsb, decide_eq_false (fun e => h3 (by injection e with _ e; injection e))]
        · rw [decide_eq_false (fun e => h2 (by injection e with e; omega))]
          refine iteF (fin _ ?_)
          rw [hsb, decide_eq_false (fun e => h2 (by rw [e]; rfl))]
      · rintro σ He ⟨v5, v6, rfl, sc, hDc⟩
        rw [strV_len, hTl, Int.toNat_natCast] at hDc
        have htc := sc _ _ hta
        have hwl : ws.length = i := by rw [hws.length, List.length_map, List.length_range]
        refine ⟨_, rfl, .inl ⟨rfl, _, SqL.of htc⟩, _, rfl, t, ws, _, rfl, rfl, htc, small1000 (by omega), ws ++ [.ref D], _, _, _, _, rfl, Same.put (sa.trans sc) ht, upd_same, ?_⟩
        rw [List.range_succ, List.map_append]
        exact Paired.snoc ⟨D, rfl, hDt, sa.free hD, (upd_ne hDt).trans hDc⟩ (Paired.mapP hws fun _ _ h => BlsG.put h sc)
    · rintro σ H2 ⟨ws, v3, v4, v5, v6, rfl, sa, hta, hws⟩
      rw [strV_len, hTl] at hws
      exact ⟨_, rfl, q _ t ws sa ht hta (BlsG.fs hws)⟩
theorem ok_lafter {f : Addr} {fd : FuncData} (F : C8.Fun K "_law_after" "_law_after" s__law_after f fd) (T : Txt K mg) : FnOk P w K mg base C8.CX0 1 f fd ["sides", "many"] sp_lafter := by
  refine C8.fn0 F sc__law_after (fun vs H Q E h => ?_) (fun cdv A outer s H vs Q E hr h => ?_)
  · obtain ⟨a, us, N, m, S, rfl, _⟩ := h; rfl
  · obtain ⟨a, us, N, m, S, rfl, ha, hus, hN, hm, q⟩ := h
    have hul : us.length = N := by rw [hus.length, boolRows, List.length_map, List.length_range]
    refine ⟨_, (pss_cons (ps_set (i := 2) sc__law_after.nd rfl (Or.inr rfl) (pe_lst (pa_cons (pe_lc (own := [("side", 5)]) (g := gName 5) (tt := tYes) rfl sc__law_after.nd (pi_list (pv 0)) (blkOk_by (N := N__law_after) (sc := C8.fnScope s__law_after) (by decide +kernel)) (fun _ _ _ _ _ => (pg_name (i := 5) sc__law_after.nd rfl (Or.inl rfl))) (fun _ _ _ _ _ => pts_nil) (fun _ _ _ _ _ => pe_int)) pa_nil)))
      (pss_cons (ps_for PassesOwn.never rfl (pi_range1 rfl T.b_range (pa_cons (pv 1) pa_nil)) (pg_name (i := 3) sc__law_after.nd rfl (Or.inl rfl)) (pss_cons (ps_set (i := 4) sc__law_after.nd rfl (Or.inl rfl) (pe_lst pa_nil))
      (pss_cons (ps_for PassesOwn.never rfl (pi_list (pv 0)) (pg_name (i := 5) sc__law_after.nd rfl (Or.inr rfl)) (pss_one (ps_expr (pe_bm PySem.F.plainAttrs_list PySem.F.slot_list_append PySem.F.type_list_append mt_append (pv 4) (pa_cons (pe_callB (cr_sum rfl) (by rfl) T.b_sum (by decide +kernel) (pa_cons (pe_lc (own := [("j", 6)]) (g := gName 6)  rfl sc__law_after.nd (pi_range1 rfl T.b_range (pa_cons (pe_callB call_len_seq (by rfl) T.b_len PySem.boot_len (pa_cons (pv 0) pa_nil)) pa_nil)) (blkOk_by (N := N__law_after) (sc := C8.fnScope s__law_after) (by decide +kernel)) (fun _ _ _ _ _ => (pg_name (i := 6) sc__law_after.nd rfl (Or.inl rfl))) (fun _ _ _ _ _ => pts_one (pt_val (pe_ix (ix_listK (K := K) rfl) (pv 5) (pv 6) (fun _ _ => rfl)))) (fun _ _ _ _ _ => (pe_ix (ix_listK (K := K) rfl) (pe_ix (ix_listK (K := K) rfl) (pv 2) (pe_un un_neg pe_int) (fun _ _ => rfl)) (pv 6) (fun _ _ => rfl)))) pa_nil)) pa_nil)))))
      (pss_one (ps_expr (pe_bm PySem.F.plainAttrs_list PySem.F.slot_list_append PySem.F.type_list_append mt_append (pv 2) (pa_cons (pv 4) pa_nil)))))))
      (pss_one (ps_ret (pv 2))))), ?_⟩
    refine ⟨_, rfl, a, rfl, ⟨_, SqL.of ha⟩, fun D hD => lc_it walk_list (fun i H' => Same H H' ∧ H' D = some (.lst (iv (List.replicate i 1)))) ⟨same_new hD, upd_same⟩ (fun i H' _ ⟨s', _⟩ => SqL.of (s' _ _ ha)) ?_ ?_⟩
    · rintro i x Ha Hb hi ⟨sa, hb⟩ ⟨rfl, hx⟩
      refine ⟨rfl, _, hb, by rw [iv_len, List.length_replicate]; exact small1000 (by omega), Same.put sa hD, ?_⟩
      rw [upd_same, List.replicate_succ', ← iv_snoc]; rfl
    rintro H1 ⟨s1, hD1⟩
    have e0 : List.replicate us.length 1 = rowW N S 0 := by
      rw [hul]
      refine (List.eq_replicate_iff.mpr ⟨rowW_len 0, fun x hx => ?_⟩).symm
      rw [← rowW_zero] at hx
      obtain ⟨_, _, e⟩ := List.mem_map.mp hx
      exact e.symm
    rw [e0] at hD1
    refine ⟨by show 1 ≤ sizeLine; decide, fun t ht => ?_⟩
    have s2 := Same.new (o := .lst [.ref D]) s1 ht
    have ht0 : H t = none := s1.free ht
    refine ⟨_, rfl, _, rfl, by omega, by omega, for_it walk_range (fun i σ H' => ∃ (ws : List V) (v3 v4 v5 v6 : Option V), σ = [some (.ref a), some (.int (m : Int)), some (.ref t), v3, v4, v5, v6] ∧ Same H H' ∧ H' t = some (.lst ws) ∧ Paired (LstG t H H') ws ((List.range (i + 1)).map (rowW N S)))
      ⟨[.ref D], none, none, none, none, rfl, s2, upd_same, (.cons ⟨D, rfl, ne_of_none hD1 ht, hD, (same_new ht) _ _ hD1⟩ .nil)⟩ (fun _ _ _ _ _ => trivial) ?_ ?_⟩
    · rintro i x σ Ha Hb hi ⟨ws, v3, v4, v5, v6, rfl, sa, hta, hws⟩ ⟨rfl, hx⟩
      have him : i < m := by simpa using hi
      have hub := hus.same sa
      have hwl : ws.length = i + 1 := by rw [hws.length, List.length_map, List.length_range]
      obtain ⟨wl, hwll, q0, hq0⟩ : ∃ wl, ws.getLast? = some wl ∧ ∃ q0, wl = .ref q0 ∧ q0 ≠ t ∧ Hb q0 = some (.lst (iv (rowW N S i))) := by
        have h1 : ((List.range (i + 1)).map (rowW N S))[i]? = some (rowW N S i) := by rw [List.getElem?_map, List.getElem?_range (by omega)]; rfl
        obtain ⟨wl, h2, q0, e, h3, _, h4⟩ := Paired.at2 hws h1
        refine ⟨wl, ?_, q0, e, h3, h4⟩
        rw [List.getLast?_eq_getElem?, hwl]; exact h2
      obtain ⟨rfl, hq0t, hq0v⟩ := hq0
      refine ⟨Nat.zero_le _, fun R hR => ?_⟩
      have sR := same_new (o := .lst []) hR
      have hRt : R ≠ t := Ne.symm (ne_of_none hta hR)
      refine ⟨_, rfl, a, rfl, ⟨_, SqL.of (sR _ _ (sa _ _ ha))⟩, for_it walk_list (fun j σ H' => ∃ v5 v6 : Option V, σ = [some (.ref a), some (.int (m : Int)), some (.ref t), some x, some (.ref R), v5, v6] ∧ Same Hb H' ∧ H' R = some (.lst (iv ((rowW N S (i + 1)).take j))))
        ⟨v5, v6, rfl, sR, upd_same⟩ (fun j σ H' _ ⟨_, _, _, s', _⟩ => SqL.of (s' _ _ (sa _ _ ha))) ?_ ?_⟩
      · rintro j y σ Hc Hd hj ⟨v5, v6, rfl, sc, hRc⟩ ⟨rfl, hx2⟩
        obtain ⟨r, hr1, g, rfl, hg⟩ := Paired.at hub hx2
        have hjN : j < N := by rw [hul] at hj; exact hj
        have er : r = (List.range N).map (S j) := by
          rw [boolRows, List.getElem?_map, List.getElem?_range hjN] at hr1
          exact (Option.some.inj hr1).symm
        subst er
        have hgc := sc _ _ hg
        have hac := sc _ _ (sa _ _ ha)
        refine ⟨_, rfl, .inl ⟨rfl, _, SqL.of hRc⟩, _, rfl, a, _, rfl, .inl (SqL.of hac), _, rfl, by omega, by omega, fun D2 hD2 => lc_it walk_range (fun k H' => Same Hd H' ∧ H' D2 = some (.lst (iv (((List.range k).filter (S j)).map (wk N S i))))) ⟨same_new hD2, upd_same⟩ (fun _ _ _ _ => trivial) ?_ ?_⟩
        · rintro k z He Hf hk ⟨se, he⟩ ⟨rfl, hx3⟩
          obtain rfl : z = V.int (k : Int) := hx3.trans (congrArg V.int (Int.zero_add _))
          have hkN : k < N := by rw [hul] at hk; simpa using hk
          have hge := se _ _ hgc
          have hte := se _ _ (sc _ _ hta)
          have hqe := se _ _ (sc _ _ hq0v)
          have hfl : (((List.range k).filter (S j)).map (wk N S i)).length ≤ 200 := by
            have := List.length_filter_le (S j) (List.range k)
            rw [List.length_range] at this
            rw [List.length_map]; omega
          refine ⟨rfl, _, rfl, _, rfl, g, _, _, _, rfl, rfl, SqL.of hge, atI_nat (by rw [List.getElem?_map, List.getElem?_map, List.getElem?_range hkN]; rfl), S j k, rfl, ?_⟩
          cases hS : S j k with
          | true =>
            refine iteT ⟨_, rfl, _, rfl, t, _, _, _, rfl, rfl, SqL.of hte, atI_neg1 hwll, _, rfl, q0, _, _, _, rfl, rfl, SqL.of hqe, atI_nat (iv_at (rowW_at hkN)), _, he, by rw [iv_len]; exact small1000 (by omega), Same.put se hD2, ?_⟩
            rw [upd_same, List.range_succ, List.filter_append, List.filter_cons, hS, if_pos rfl, List.map_append, iv_snoc]; rfl
          | false =>
            refine iteF ⟨se, ?_⟩
            rw [List.range_succ, List.filter_append, List.filter_cons, hS, if_neg (by decide), List.filter_nil, List.append_nil]; exact he
        · rintro H3 ⟨s3, h3⟩
          rw [hul, Int.toNat_natCast] at h3
          have hv : (iv ((chs N S j).map (wk N S i))) = ((chs N S j).map fun y => (wk N S i y : Int)).map V.int := by unfold iv; rw [List.map_map, List.map_map]; rfl
          have hRe := s3 _ _ hRc
          refine ⟨D2, (chs N S j).map fun y => (wk N S i y : Int), rfl, SqL.of (by rw [← hv]; exact h3), ?_⟩
          have hjl : (rowW N S (i + 1))[j]? = some (((chs N S j).map (wk N S i)).sum) := rowW_at hjN
          rw [sum_cast]
          refine ⟨R, _, _, rfl, rfl, hRe, ?_, _, _, rfl, Same.put (sc.trans s3) hR, ?_⟩
          · rw [iv_len, List.length_take, rowW_len]; exact small1000 (by omega)
          · rw [upd_same, take_succ_of hjl, iv_snoc]
      · rintro σ He ⟨v5, v6, rfl, sc, hRc⟩
        rw [hul, List.take_of_length_le (by rw [rowW_len]; exact Nat.le_refl _)] at hRc
        have htc := sc _ _ hta
        refine ⟨_, rfl, .inl ⟨rfl, _, SqL.of htc⟩, _, rfl, t, ws, _, rfl, rfl, htc, small1000 (by omega), ws ++ [.ref R], _, _, _, _, rfl, Same.put (sa.trans sc) ht0, upd_same, ?_⟩
        rw [List.range_succ, List.map_append]
        exact Paired.snoc ⟨R, rfl, hRt, sa.free hR, (upd_ne hRt).trans hRc⟩ (Paired.mapP hws fun _ _ h => LstG.put h sc)
    · rintro σ H2 ⟨ws, v3, v4, v5, v6, rfl, sa, hta, hws⟩
      rw [Int.toNat_natCast] at hws
      exact ⟨_, rfl, q _ t ws sa ht0 hta (LstG.fs hws)⟩
end
end RJ
end

section
set_option maxRecDepth 100000
set_option maxHeartbeats 8000000
namespace RJ
open PySem PySem.Spec PyProof.Rows L2
abbrev s_number_of_cut : Stmt := top 44
abbrev N_number_of_cut : List Str := ["joins", "row", "behind", "tables", "last", "number", "at", "piece", "counts", "choice"]
theorem sc_number_of_cut : FnScope N_number_of_cut ["joins", "row"] (C8.fnScope s_number_of_cut) := C8.fnScope_by (by decide +kernel)
abbrev s_cut_of_number : Stmt := top 45
abbrev N_cut_of_number : List Str := ["joins", "many", "number", "behind", "tables", "last", "row", "rest"]
theorem sc_cut_of_number : FnScope N_cut_of_number ["joins", "many", "number"] (C8.fnScope s_cut_of_number) := C8.fnScope_by (by decide +kernel)
abbrev s_choice_with_number : Stmt := top 46
abbrev N_choice_with_number : List Str := ["choices", "counts", "number", "at"]
theorem sc_choice_with_number : FnScope N_choice_with_number ["choices", "counts", "number"] (C8.fnScope s_choice_with_number) := C8.fnScope_by (by decide +kernel)
def sp_ncut (C : Addr) : Sp := fun vs H Q _ => ∃ (p a : Addr) (b : Bool) (row al : List Nat) (ps : List (Nat × Nat)), vs = [.ref p, .ref a] ∧ JoinsAt C H p al ps ∧ Proper al ps ∧ al.Nodup ∧ 1 ≤ al.length ∧ al.length ≤ 400 ∧ ps.length ≤ 400 ∧ RowAt b H a row ∧ row.length ≤ 800 ∧ CutRow al ps row ∧
  ∀ H', Same H H' → Q (.int ((belU (al.length + ps.length) (sideB al ps) row row.length : Nat) : Int)) H'
def sp_choose : Sp := fun vs H Q _ => ∃ (a c : Addr) (n : Nat) (ch ws : List Nat), vs = [.ref a, .ref c, .int (n : Int)] ∧ H a = some (.tup (iv ch)) ∧ H c = some (.lst (iv ws)) ∧ (∀ x ∈ ch, x < ws.length) ∧ ch.length ≤ 1000 ∧ n < (ch.map fun x => ws.getD x 0).sum ∧
  ∀ H' t (pre post : List Nat) (x r : Nat), Same H H' → H' t = some (.tup [.int (x : Int), .int (r : Int)]) → ch = pre ++ x :: post → n = (pre.map fun x => ws.getD x 0).sum + r → r < ws.getD x 0 → Q (.ref t) H'
def sp_cutnum (C : Addr) : Sp := fun vs H Q _ => ∃ (p : Addr) (m n : Nat) (al : List Nat) (ps : List (Nat × Nat)), vs = [.ref p, .int (m : Int), .int (n : Int)] ∧ JoinsAt C H p al ps ∧ Proper al ps ∧ al.Nodup ∧ 1 ≤ al.length ∧ al.length ≤ 400 ∧ ps.length ≤ 400 ∧ m ≤ 800 ∧ n < w0 (al.length + ps.length) (sideB al ps) m ∧
  ∀ H' q row, Same H H' → H' q = some (.tup (iv row)) → row.length = m → OkCh (al.length + ps.length) (sideB al ps) row → belU (al.length + ps.length) (sideB al ps) row m = n → Q (.ref q) H'
section
variable {P : Program} {w : World} {K : PySem.W.Frag} {mg : Str → Option Value} {base : Heap}
theorem tables_at {H : Hp} {ws : List V} {N m : Nat} {S : Nat → Nat → Bool} (h : LstsAt H ws ((List.range (m + 1)).map (tabW N S))) {k : Nat} (hk : k ≤ m) : ∃ q, ws[k]? = some (.ref q) ∧ H q = some (.lst (iv (tabW N S k))) := by
  have h1 : ((List.range (m + 1)).map (tabW N S))[k]? = some (tabW N S k) := by rw [List.getElem?_map, List.getElem?_range (by omega)]; rfl
  obtain ⟨x, h2, q, rfl, h3⟩ := Paired.at2 h h1
  exact ⟨q, h2, h3⟩
/-- the choices behind what stands ahead of place j -/
theorem behind_at {H : Hp} {us : List V} {N : Nat} {S : Nat → Nat → Bool} (h : TupsAt H us (chRows N S)) {row : List Nat} {j : Nat} (hj : j ≤ row.length) (hN : ∀ x ∈ row, x < N) {last : Int} (hl : (j = 0 ∧ last = -1) ∨ ∃ i x, j = i + 1 ∧ row[i]? = some x ∧ last = (x : Int)) :
    ∃ q, atI us last = some (.ref q) ∧ H q = some (.tup (iv (chJ N S row j))) := by
  rcases chJ_row (S := S) row j hj hN with ⟨e, h1⟩ | ⟨i, x, e, h0, hx, h1⟩
  · rcases hl with ⟨_, rfl⟩ | ⟨i, x, e2, _, _⟩
    · rw [List.getLast?_eq_getElem?] at h1
      obtain ⟨v, h2, q, rfl, h3⟩ := Paired.at2 h h1
      refine ⟨q, atI_neg1 ?_, h3⟩
      rw [List.getLast?_eq_getElem?, h.length]; exact h2
    · omega
  · rcases hl with ⟨e2, _⟩ | ⟨i2, x2, e2, h2, rfl⟩
    · omega
    · obtain rfl : i = i2 := by omega
      rw [h0] at h2
      cases h2
      obtain ⟨v, h2, q, rfl, h3⟩ := Paired.at2 h h1
      exact ⟨q, atI_nat h2, h3⟩
theorem ok_ncut {f C : Addr} {fd : FuncData} (F : C8.Fun K "number_of_cut" "number_of_cut" s_number_of_cut f fd) (T : Txt K mg) (c_check_cut : C8.Cal P w K mg base 11 "check_cut" (sp_check_cut C) []) (c_choices_behind : C8.Cal P w K mg base 9 "choices_behind" (sp_choices C) []) (c_continuations : C8.Cal P w K mg base 1 "continuations" sp_conts []) :
    FnOk P w K mg base C8.CX0 12 f fd ["joins", "row"] (sp_ncut C) := by
  refine C8.fn0 F sc_number_of_cut (fun vs H Q E h => ?_) (fun cdv A outer s H vs Q E hr h => ?_)
  · obtain ⟨p, a, b, row, al, ps, rfl, _⟩ := h; rfl
  · obtain ⟨p, a, b, row, al, ps, rfl, hj, hprop, hnd, hal1, hal, hpl, hrow, hrl, hcut, q⟩ := h
    refine ⟨_, (pss_cons (ps_expr (C8.pe_c c_check_cut hr (by first | decide | omega) (by rfl) (pa_cons (pv 0) (pa_cons (pv 1) pa_nil))))
      (pss_cons (ps_set (i := 2) sc_number_of_cut.nd rfl (Or.inl rfl) (C8.pe_c c_choices_behind hr (by first | decide | omega) (by rfl) (pa_cons (pv 0) pa_nil)))
      (pss_cons (ps_set (i := 3) sc_number_of_cut.nd rfl (Or.inl rfl) (C8.pe_c c_continuations hr (by first | decide | omega) (by rfl) (pa_cons (pv 2) (pa_cons (pe_callB call_len_seq (by rfl) T.b_len PySem.boot_len (pa_cons (pv 1) pa_nil)) pa_nil))))
      (pss_cons (ps_set (i := 4) sc_number_of_cut.nd rfl (Or.inl rfl) (pe_un un_neg pe_int))
      (pss_cons (ps_set (i := 5) sc_number_of_cut.nd rfl (Or.inl rfl) pe_int)
      (pss_cons (ps_for PassesOwn.never rfl (pi_enumG rfl T.b_enumerate (pa_cons (pv 1) pa_nil)) (pg_tup rfl (pgs_cons (pg_name (i := 6) sc_number_of_cut.nd rfl (Or.inl rfl)) (pgs_cons (pg_name (i := 7) sc_number_of_cut.nd rfl (Or.inr rfl)) pgs_nil))) (pss_cons (ps_set (i := 8) sc_number_of_cut.nd rfl (Or.inr rfl) (pe_ix ix_list (pv 3) (pe_op op_sub (pe_op op_sub (pe_callB call_len_seq (by rfl) T.b_len PySem.boot_len (pa_cons (pv 1) pa_nil)) (pv 6)) pe_int) (fun _ _ => rfl)))
      (pss_cons (ps_aug (i := 5) sc_number_of_cut.nd rfl (Or.inl rfl) (pe_callB (cr_sum rfl) (by rfl) T.b_sum (by decide +kernel) (pa_cons (pe_lc (own := [("choice", 9)]) (g := gName 9)  rfl sc_number_of_cut.nd (pi_tup (pe_ix ix_tup (pv 2) (pv 4) (fun _ _ => rfl))) (blkOk_by (N := N_number_of_cut) (sc := C8.fnScope s_number_of_cut) (by decide +kernel)) (fun _ _ _ _ _ => (pg_name (i := 9) sc_number_of_cut.nd rfl (Or.inl rfl))) (fun _ _ _ _ _ => pts_one (pt_cmpR op_lt (pv 9) (pv 7) (nomark _))) (fun _ _ _ _ _ => (pe_ix (ix_listK (K := K) rfl) (pv 8) (pv 9) (fun _ _ => rfl)))) pa_nil)) ip_add)
      (pss_one (ps_set (i := 4) sc_number_of_cut.nd rfl (Or.inl rfl) (pv 7))))))
      (pss_one (ps_ret (pv 5))))))))), ?_⟩
    refine ⟨_, rfl, _, rfl, p, a, b, row, al, ps, rfl, hj, hprop, hnd, hal, hpl, hrow, by omega, hcut, fun H1 s1 => ?_⟩
    refine ⟨_, rfl, p, al, ps, rfl, hj.same s1, hprop, hnd, hal1, hal, hpl, fun H2 bq us s2 hbq hus => ?_⟩
    obtain ⟨N, hN⟩ : ∃ N, N = al.length + ps.length := ⟨_, rfl⟩
    rw [← hN] at q hus
    have hrow2 := hrow.same (s1.trans s2)
    have hlen : ∀ H', RowAt b H' a row → (SqL K H' a (iv row) ∨ SqT K H' a (iv row)) := fun H' h => by
      cases b with
      | true => exact .inl (SqL.of h)
      | false => exact .inr (SqT.of h)
    refine ⟨_, rfl, _, rfl, a, _, rfl, hlen _ hrow2, bq, us, N, row.length, sideB al ps, by rw [iv_len]; rfl, hbq, hus, by omega, by omega, fun H3 tq ws s3 htq hws => ?_⟩
    have s13 := (s1.trans s2).trans s3
    have hus3 := hus.same s3
    have hbq3 := s3 _ _ hbq
    have hin : ∀ x ∈ row, x < N := by rw [hN]; exact hcut.1
    refine ⟨_, rfl, _, rfl, _, _, _, _, rfl, src_seq (hrow.same s13), for_it walkG (fun i σ H' => ∃ (last : Int) (v6 v7 v8 : Option V), σ = [some (.ref p), some (.ref a), some (.ref bq), some (.ref tq), some (.int last), some (.int ((belU N (sideB al ps) row i : Nat) : Int)), v6, v7, v8, none] ∧ Same H3 H' ∧ ((i = 0 ∧ last = -1) ∨ ∃ j x, i = j + 1 ∧ row[j]? = some x ∧ last = (x : Int)))
      ⟨-1, none, none, none, rfl, Same.refl _, .inl ⟨rfl, rfl⟩⟩ (fun i σ H' _ ⟨_, _, _, _, _, s', _⟩ => (hrow.same s13).same s') ?_ ?_⟩
    · rintro i x σ Ha Hb hi ⟨last, v6, v7, v8, rfl, sa, hl⟩ ⟨T2, ys, rfl, hT2, rfl, v, hv, rfl⟩
      obtain ⟨pc, hpc, rfl⟩ := iv_get hv
      have hil : i < row.length := (List.getElem?_eq_some_iff.mp hpc).1
      have hpcN := hin _ (List.mem_of_getElem? hpc)
      have s5 := Same.new (o := .tup [.int (i : Int), .int (pc : Int)]) sa hT2
      refine ⟨T2, _, rfl, SqT.of upd_same, rfl, _, _, rfl, _, _, rfl, rfl, ?_⟩
      obtain ⟨cq, hc1, hc2⟩ := tables_at hws (k := row.length - i - 1) (by omega)
      have eix : ((iv row).length : Int) - (i : Int) - 1 = ((row.length - i - 1 : Nat) : Int) := by rw [iv_len]; omega
      refine ⟨_, rfl, _, rfl, a, _, rfl, hlen _ ((hrow.same s13).same s5), _, rfl, _, _, rfl, rfl, _, _, rfl, rfl, tq, _, _, _, rfl, rfl, SqL.of (s5 _ _ htq), by rw [eix]; exact atI_nat hc1, ?_⟩
      obtain ⟨gq, hg1, hg2⟩ := behind_at hus3 (by omega) hin hl
      have hus5 := s5
      refine ⟨_, rfl, _, rfl, _, rfl, bq, _, _, _, rfl, rfl, SqT.of (s5 _ _ hbq3), hg1, gq, rfl, ⟨_, SqT.of (s5 _ _ hg2)⟩, fun D hD => lc_it walk_tup (fun k H' => Same (upd Ha T2 (.tup [.int (i : Int), .int (pc : Int)])) H' ∧ H' D = some (.lst (iv ((((chJ N (sideB al ps) row i).take k).filter fun c => decide (c < pc)).map (wk N (sideB al ps) (row.length - i - 1)))))) ⟨same_new hD, upd_same⟩ (fun k H' _ ⟨s', _⟩ => SqT.of (s' _ _ (s5 _ _ hg2))) ?_ ?_⟩
      · rintro k x He Hf hk ⟨se, he⟩ ⟨rfl, hx3⟩
        obtain ⟨y, hy, rfl⟩ := iv_get hx3
        have hyN : y < N := chJ_lt (List.mem_of_getElem? hy)
        have hfl : ((((chJ N (sideB al ps) row i).take k).filter fun c => decide (c < pc)).map (wk N (sideB al ps) (row.length - i - 1))).length ≤ 800 := by
          rw [List.length_map]
          refine Nat.le_trans (List.length_filter_le _ _) (Nat.le_trans (List.length_take_le' _ _) (Nat.le_trans (chJ_len row i) (by omega)))
        refine ⟨rfl, _, rfl, _, rfl, _, _, rfl, rfl, _, rfl, ?_⟩
        by_cases hlt : y < pc
        · rw [decide_eq_true (by omega : (y : Int) < (pc : Int))]
          refine iteT ⟨_, rfl, _, rfl, cq, _, _, _, rfl, rfl, SqL.of (se _ _ (s5 _ _ hc2)), atI_nat (iv_at (tabW_at hyN)), _, he, by rw [iv_len]; exact small1000 (by omega), Same.put se hD, ?_⟩
          rw [upd_same, take_succ_of hy, List.filter_append, List.filter_cons, decide_eq_true hlt, if_pos rfl, List.map_append, iv_snoc]; rfl
        · rw [decide_eq_false (by omega : ¬ (y : Int) < (pc : Int))]
          refine iteF ⟨se, ?_⟩
          rw [take_succ_of hy, List.filter_append, List.filter_cons, decide_eq_false hlt, if_neg Bool.false_ne_true, List.filter_nil, List.append_nil]; exact he
      · rintro H4 ⟨s4, h4⟩
        rw [iv_len, List.take_length] at h4
        have epc : row.getD i 0 = pc := by rw [List.getD_eq_getElem?_getD, hpc]; rfl
        have hb := chJ_below (N := N) (S := sideB al ps) (row := row) (j := i) (by rw [epc]; omega)
        rw [epc] at hb
        rw [hb] at h4
        have hv : (iv (((List.range pc).filter (okJ (sideB al ps) row i)).map (wk N (sideB al ps) (row.length - i - 1)))) = (((List.range pc).filter (okJ (sideB al ps) row i)).map fun y => (wk N (sideB al ps) (row.length - i - 1) y : Int)).map V.int := by unfold iv; rw [List.map_map, List.map_map]; rfl
        rw [hv] at h4
        refine ⟨D, _, rfl, SqL.of h4, _, _, rfl, rfl, ?_⟩
        rw [sum_cast]
        refine ⟨_, rfl, (pc : Int), some (.int (i : Int)), some (.int (pc : Int)), some (.ref cq), ?_, s5.trans s4, .inr ⟨i, pc, rfl, hpc, rfl⟩⟩
        have e1 : belT N (sideB al ps) row i = (((List.range pc).filter (okJ (sideB al ps) row i)).map (wk N (sideB al ps) (row.length - i - 1))).sum := by
          unfold belT belM
          rw [epc, show row.length - 1 - i = row.length - i - 1 by omega]
        rw [belU_succ, e1]
        rfl
    · rintro σ H' ⟨last, v6, v7, v8, rfl, sa, hl⟩
      rw [iv_len]
      exact ⟨_, rfl, q H' (s13.trans sa)⟩
theorem ok_choose {f : Addr} {fd : FuncData} (F : C8.Fun K "choice_with_number" "choice_with_number" s_choice_with_number f fd) (T : Txt K mg) : FnOk P w K mg base C8.CX0 1 f fd ["choices", "counts", "number"] sp_choose := by
  refine C8.fn0 F sc_choice_with_number (fun vs H Q E h => ?_) (fun cdv A outer s H vs Q E hr h => ?_)
  · obtain ⟨a, c, n, ch, ws, rfl, _⟩ := h; rfl
  · obtain ⟨a, c, n, ch, ws, rfl, ha, hc, hin, hcl, hn, q⟩ := h
    refine ⟨_, (pss_cons (ps_set (i := 3) sc_choice_with_number.nd rfl (Or.inl rfl) pe_int)
      (pss_cons (ps_while PassesOwn.never (pt_cmpR op_ge (pv 2) (pe_ix ix_list (pv 1) (pe_ix ix_tup (pv 0) (pv 3) (fun _ _ => rfl)) (fun _ _ => rfl)) (nomark _)) (pss_cons (ps_aug (i := 2) sc_choice_with_number.nd rfl (Or.inl rfl) (pe_ix ix_list (pv 1) (pe_ix ix_tup (pv 0) (pv 3) (fun _ _ => rfl)) (fun _ _ => rfl)) ip_sub)
      (pss_one (ps_aug (i := 3) sc_choice_with_number.nd rfl (Or.inl rfl) pe_int ip_add))))
      (pss_one (ps_ret (pe_tup (pa_cons (pe_ix ix_tup (pv 0) (pv 3) (fun _ _ => rfl)) (pa_cons (pv 2) pa_nil))))))), ?_⟩
    have hw : ∀ x ∈ ch, (iv ws)[x]? = some (V.int ((ws.getD x 0 : Nat) : Int)) := fun x hx => by
      have := hin x hx
      refine iv_at ?_
      rw [List.getD_eq_getElem?_getD, List.getElem?_eq_getElem this]; rfl
    refine ⟨fun m σ H' => ∃ (k r : Nat), σ = [some (.ref a), some (.ref c), some (.int (r : Int)), some (.int (k : Int))] ∧ H' = H ∧ k ≤ ch.length ∧ n = ((ch.take k).map fun x => ws.getD x 0).sum + r ∧ r < ((ch.drop k).map fun x => ws.getD x 0).sum ∧ m = ch.length - k,
      ⟨ch.length, 0, n, rfl, rfl, Nat.zero_le _, by rw [List.take_zero]; simp, hn, rfl⟩, ?_⟩
    rintro m σ H2 ⟨k, r, rfl, rfl, hk, e, hlt, rfl⟩
    have hkl : k < ch.length := by
      rcases Nat.lt_or_ge k ch.length with h | h
      · exact h
      · rw [List.drop_of_length_le h] at hlt; exact absurd hlt (Nat.not_lt_zero _)
    obtain ⟨x, hx⟩ : ∃ x, ch[k]? = some x := ⟨_, List.getElem?_eq_getElem hkl⟩
    have hxm := List.mem_of_getElem? hx
    have hsp := split_at hx
    have hdr : ch.drop k = x :: ch.drop (k + 1) := by
      obtain ⟨h1, h2⟩ := List.getElem?_eq_some_iff.mp hx
      rw [← List.getElem_cons_drop h1, h2]
    rw [hdr, List.map_cons, List.sum_cons] at hlt
    refine ⟨_, rfl, _, rfl, _, rfl, _, rfl, a, _, _, _, rfl, rfl, SqT.of ha, atI_nat (iv_at hx), c, _, _, _, rfl, rfl, SqL.of hc, atI_nat (hw x hxm), _, _, rfl, rfl, _, rfl, ?_⟩
    by_cases hge : ws.getD x 0 ≤ r
    · rw [decide_eq_true (by omega : ((ws.getD x 0 : Nat) : Int) ≤ (r : Int))]
      refine iteT ⟨fun σ' H' => ∃ m', m' < ch.length - k ∧ ∃ (k r : Nat), σ' = [some (.ref a), some (.ref c), some (.int (r : Int)), some (.int (k : Int))] ∧ H' = H2 ∧ k ≤ ch.length ∧ n = ((ch.take k).map fun x => ws.getD x 0).sum + r ∧ r < ((ch.drop k).map fun x => ws.getD x 0).sum ∧ m' = ch.length - k, fun σ' H' z => z, ?_⟩
      refine ⟨_, rfl, _, rfl, _, rfl, _, rfl, a, _, _, _, rfl, rfl, SqT.of ha, atI_nat (iv_at hx), c, _, _, _, rfl, rfl, SqL.of hc, atI_nat (hw x hxm), _, _, rfl, rfl, ?_⟩
      refine ⟨_, rfl, _, _, rfl, rfl, _, by omega, k + 1, r - ws.getD x 0, ?_, rfl, hkl, ?_, by omega, rfl⟩
      · have e1 : ((r : Int) - ((ws.getD x 0 : Nat) : Int)) = ((r - ws.getD x 0 : Nat) : Int) := by omega
        show [some (V.ref a), some (V.ref c), some (V.int ((r : Int) - ((ws.getD x 0 : Nat) : Int))), some (V.int ((k : Int) + 1))] = _
        rw [e1]; rfl
      · rw [take_succ_of hx, List.map_append, List.sum_append, List.map_singleton, List.sum_singleton]; omega
    · rw [decide_eq_false (by omega : ¬ ((ws.getD x 0 : Nat) : Int) ≤ (r : Int))]
      refine iteF ⟨_, rfl, _, rfl, a, _, _, _, rfl, rfl, SqT.of ha, atI_nat (iv_at hx), _, rfl, by show 2 ≤ sizeLine; decide, fun t ht => ?_⟩
      exact q _ t (ch.take k) (ch.drop (k + 1)) x r (same_new ht) upd_same hsp e (by omega)
theorem ok_cutnum {f C : Addr} {fd : FuncData} (F : C8.Fun K "cut_of_number" "cut_of_number" s_cut_of_number f fd) (T : Txt K mg) (c_choices_behind : C8.Cal P w K mg base 9 "choices_behind" (sp_choices C) []) (c_continuations : C8.Cal P w K mg base 1 "continuations" sp_conts []) (c_check_number : C8.Cal P w K mg base 3 "check_number" sp_check_number [])
    (c_choice_with_number : C8.Cal P w K mg base 1 "choice_with_number" sp_choose []) : FnOk P w K mg base C8.CX0 10 f fd ["joins", "many", "number"] (sp_cutnum C) := by
  refine C8.fn0 F sc_cut_of_number (fun vs H Q E h => ?_) (fun cdv A outer s H vs Q E hr h => ?_)
  · obtain ⟨p, m, n, al, ps, rfl, _⟩ := h; rfl
  · obtain ⟨p, m, n, al, ps, rfl, hj, hprop, hnd, hal1, hal, hpl, hm, hn, q⟩ := h
    refine ⟨_, (pss_cons (ps_set (i := 3) sc_cut_of_number.nd rfl (Or.inl rfl) (C8.pe_c c_choices_behind hr (by first | decide | omega) (by rfl) (pa_cons (pv 0) pa_nil)))
      (pss_cons (ps_set (i := 4) sc_cut_of_number.nd rfl (Or.inl rfl) (C8.pe_c c_continuations hr (by first | decide | omega) (by rfl) (pa_cons (pv 3) (pa_cons (pv 1) pa_nil))))
      (pss_cons (ps_expr (C8.pe_c c_check_number hr (by first | decide | omega) (by rfl) (pa_cons (pv 2) (pa_cons (pe_ix ix_list (pe_ix ix_list (pv 4) (pv 1) (fun _ _ => rfl)) (pe_un un_neg pe_int) (fun _ _ => rfl)) pa_nil))))
      (pss_cons (ps_set (i := 5) sc_cut_of_number.nd rfl (Or.inl rfl) (pe_un un_neg pe_int))
      (pss_cons (ps_set (i := 6) sc_cut_of_number.nd rfl (Or.inl rfl) (pe_lst pa_nil))
      (pss_cons (ps_for PassesOwn.never rfl (pi_revR rfl T.b_reversed (prg_1 rfl T.b_range (pv 1))) (pg_name (i := 7) sc_cut_of_number.nd rfl (Or.inl rfl)) (pss_cons (ps_asg (C8.pe_c c_choice_with_number hr (by first | decide | omega) (by rfl) (pa_cons (pe_ix ix_tup (pv 3) (pv 5) (fun _ _ => rfl)) (pa_cons (pe_ix ix_list (pv 4) (pv 7) (fun _ _ => rfl)) (pa_cons (pv 2) pa_nil)))) (pg_tup rfl (pgs_cons (pg_name (i := 5) sc_cut_of_number.nd rfl (Or.inl rfl)) (pgs_cons (pg_name (i := 2) sc_cut_of_number.nd rfl (Or.inl rfl)) pgs_nil))))
      (pss_one (ps_expr (pe_bm PySem.F.plainAttrs_list PySem.F.slot_list_append PySem.F.type_list_append mt_append (pv 6) (pa_cons (pv 5) pa_nil))))))
      (pss_one (ps_ret (pe_tupleOf (by rfl) T.b_tuple (pv 6)))))))))), ?_⟩
    refine ⟨_, rfl, p, al, ps, rfl, hj, hprop, hnd, hal1, hal, hpl, fun H1 bq us s1 hbq hus => ?_⟩
    obtain ⟨N, hN⟩ : ∃ N, N = al.length + ps.length := ⟨_, rfl⟩
    rw [← hN] at q hus hn
    refine ⟨_, rfl, _, rfl, bq, us, N, m, sideB al ps, rfl, hbq, hus, by omega, by omega, fun H2 tq ws s2 htq hws => ?_⟩
    generalize sideB al ps = S at *
    obtain ⟨lq, hl1, hl2⟩ := tables_at hws (k := m) (Nat.le_refl m)
    refine ⟨_, rfl, _, rfl, _, rfl, tq, _, _, _, rfl, rfl, SqL.of htq, atI_nat hl1, _, rfl, lq, _, _, _, rfl, rfl, SqL.of hl2, atI_neg1 (iv_last (tabW_last m)), _, _, rfl, by omega, by omega, ?_⟩
    refine ⟨_, rfl, Nat.zero_le _, fun D hD => ?_⟩
    have s3 := same_new (o := .lst []) hD
    have s12 := s1.trans s2
    have hus3 := (hus.same s2).same s3
    refine ⟨_, rfl, _, rfl, by omega, by omega, by omega, by omega, for_it walk_rangeC (fun i σ H' => ∃ (last : Int) (r : Nat) (row : List Nat) (v7 : Option V), σ = [some (.ref p), some (.int (m : Int)), some (.int (r : Int)), some (.ref bq), some (.ref tq), some (.int last), some (.ref D), v7] ∧ Same H2 H' ∧ H' D = some (.lst (iv row)) ∧ row.length = i ∧ OkCh N S row ∧ n = belUM N S m row i + r ∧ r < wAt N S m row i ∧ ((i = 0 ∧ last = -1) ∨ ∃ j x, i = j + 1 ∧ row[j]? = some x ∧ last = (x : Int)))
      ⟨-1, n, [], none, rfl, s3, upd_same, rfl, fun j hj => absurd hj (Nat.not_lt_zero _), by simp [belUM], hn, .inl ⟨rfl, rfl⟩⟩ (fun _ _ _ _ _ => trivial) ?_ ?_⟩
    · rintro i x σ Ha Hb hi ⟨last, r, row, v7, rfl, sa, hDa, hri, hok, hnr, hr2, hlast⟩ ⟨rfl, hx⟩
      have him : i < m := by simpa using hi
      have hin : ∀ x ∈ row, x < N := fun x hx => by
        obtain ⟨j, hj⟩ := List.getElem?_of_mem hx
        have := chJ_lt (hok j (List.getElem?_eq_some_iff.mp hj).1)
        rwa [List.getD_eq_getElem?_getD, hj] at this
      obtain ⟨gq, hg1, hg2⟩ := behind_at ((hus.same s2).same sa) (row := row) (j := i) (by omega) hin hlast
      obtain ⟨cq, hc1, hc2⟩ := tables_at hws (k := m - 1 - i) (by omega)
      have ex : x = V.int ((m - 1 - i : Nat) : Int) := by clear hlast; rw [hx]; exact congrArg V.int (by omega)
      subst ex
      have hsum : ((chJ N S row i).map fun x => (tabW N S (m - 1 - i)).getD x 0) = (chJ N S row i).map (wk N S (m - 1 - i)) := List.map_congr_left fun x hx => by
        rw [List.getD_eq_getElem?_getD, tabW_at (chJ_lt hx)]; rfl
      refine ⟨_, rfl, _, rfl, bq, _, _, _, rfl, rfl, SqT.of (sa _ _ (s2 _ _ hbq)), hg1, _, rfl, _, rfl, tq, _, _, _, rfl, rfl, SqL.of (sa _ _ htq), atI_nat hc1, _, rfl, gq, cq, r, chJ N S row i, tabW N S (m - 1 - i), rfl, hg2, sa _ _ hc2, fun x hx => by rw [tabW_len]; have := chJ_lt hx; omega, by have := chJ_len (N := N) (S := S) row i; omega, by rw [hsum, ← wAt_sum row him]; exact hr2, fun H4 t pre post y r2 s4 ht hsp hr3 hr4 => ?_⟩
      have hym : y ∈ chJ N S row i := by rw [hsp]; exact List.mem_append_right _ (List.mem_cons_self ..)
      have hyN := chJ_lt hym
      refine ⟨t, _, rfl, SqT.of ht, rfl, _, _, rfl, _, _, rfl, rfl, ?_⟩
      have hD4 := s4 _ _ hDa
      refine ⟨_, rfl, .inl ⟨rfl, _, SqL.of hD4⟩, _, rfl, D, _, _, rfl, rfl, hD4, by rw [iv_len]; exact small1000 (by omega), (y : Int), r2, row ++ [y], _, rfl, Same.put (sa.trans s4) hD, by rw [upd_same, iv_snoc], by rw [List.length_append, hri]; rfl, ?_, ?_, ?_, .inr ⟨i, y, rfl, ?_, rfl⟩⟩
      · intro j hj
        rw [List.length_append, List.length_singleton] at hj
        by_cases hji : j < row.length
        · rw [getD_app hji, chJ_app (by omega)]; exact hok j hji
        · have e : j = row.length := by omega
          subst e
          rw [getD_last, chJ_app (Nat.le_refl _), hri]; exact hym
      · rw [belUM_succ, belUM_app (by omega), hnr]
        have e1 : belM N S m (row ++ [y]) i = (pre.map (wk N S (m - 1 - i))).sum := by
          unfold belM
          rw [show (row ++ [y]).getD i 0 = y by rw [← hri]; exact getD_last]
          have h1 := chJ_below (N := N) (S := S) (row := row ++ [y]) (j := i) (by rw [show (row ++ [y]).getD i 0 = y by rw [← hri]; exact getD_last]; omega)
          rw [show (row ++ [y]).getD i 0 = y by rw [← hri]; exact getD_last, chJ_app (by omega), asc_below (chJ_asc row i) hsp] at h1
          rw [← h1]
        have e2 : (pre.map fun x => (tabW N S (m - 1 - i)).getD x 0) = pre.map (wk N S (m - 1 - i)) := List.map_congr_left fun x hx => by
          have : x ∈ chJ N S row i := by rw [hsp]; exact List.mem_append_left _ hx
          rw [List.getD_eq_getElem?_getD, tabW_at (chJ_lt this)]; rfl
        rw [e2] at hr3
        rw [e1]; omega
      · show r2 < wk N S (m - (i + 1)) ((row ++ [y]).getD i 0)
        rw [show (row ++ [y]).getD i 0 = y by rw [← hri]; exact getD_last, show m - (i + 1) = m - 1 - i by omega]
        rw [List.getD_eq_getElem?_getD, tabW_at hyN] at hr4
        exact hr4
      · rw [← hri, List.getElem?_append_right (Nat.le_refl _), Nat.sub_self]; rfl
    · rintro σ H' ⟨last, r, row, v7, rfl, sa, hDa, hri, hok, hnr, hr2, hlast⟩
      clear hlast
      have hri : row.length = m := by rw [hri]; omega
      refine ⟨_, rfl, .inl ⟨D, _, rfl, SqL.of hDa, fun t ht => ?_⟩⟩
      have st := Same.new (o := .tup (iv row)) (s12.trans sa) ht
      have e0 : ((m : Int) - 0).toNat = m := by omega
      rw [e0] at hnr hr2
      have hr0 : r = 0 := by
        cases m with
        | zero => have : r < 1 := hr2; omega
        | succ k =>
          have : r < wk N S (k + 1 - (k + 1)) (row.getD k 0) := hr2
          rw [Nat.sub_self] at this
          have : r < 1 := this
          omega
      exact q _ t row st upd_same hri hok (by unfold belU; rw [hri]; omega)
end
end RJ
end

section
set_option maxRecDepth 100000
set_option maxHeartbeats 8000000
namespace RJ
open PySem PySem.Spec PyProof.Rows L2
abbrev s__law_below : Stmt := top 61
abbrev N__law_below : List Str := ["sides", "after", "row", "total", "k", "piece"]
theorem sc__law_below : FnScope N__law_below ["sides", "after", "row"] (C8.fnScope s__law_below) := C8.fnScope_by (by decide +kernel)
abbrev s__law_is_row : Stmt := top 62
abbrev N__law_is_row : List Str := ["sides", "row", "many", "k"]
theorem sc__law_is_row : FnScope N__law_is_row ["sides", "row", "many"] (C8.fnScope s__law_is_row) := C8.fnScope_by (by decide +kernel)
abbrev s__law_refused_number : Stmt := top 64
abbrev N__law_refused_number : List Str := ["joins", "many", "number", "e"]
theorem sc__law_refused_number : FnScope N__law_refused_number ["joins", "many", "number"] (C8.fnScope s__law_refused_number) := C8.fnScope_by (by decide +kernel)
abbrev s__law_refused_row : Stmt := top 65
abbrev N__law_refused_row : List Str := ["joins", "row", "e"]
theorem sc__law_refused_row : FnScope N__law_refused_row ["joins", "row"] (C8.fnScope s__law_refused_row) := C8.fnScope_by (by decide +kernel)
def sp_lbelow : Sp := fun vs H Q _ => ∃ (sd af a : Addr) (b : Bool) (us ws : List V) (N M : Nat) (S : Nat → Nat → Bool) (row : List Nat), vs = [.ref sd, .ref af, .ref a] ∧ H sd = some (.lst us) ∧ BlssAt H us (boolRows N S) ∧ H af = some (.lst ws) ∧ LstsAt H ws ((List.range (M + 1)).map (rowW N S)) ∧ RowAt b H a row ∧ (∀ x ∈ row, x < N) ∧ row.length ≤ M ∧ N ≤ 200 ∧ M ≤ 900 ∧
  ∀ H', Same H H' → Q (.int ((belU N S row row.length : Nat) : Int)) H'
def sp_lisrow : Sp := fun vs H Q _ => ∃ (sd a : Addr) (us : List V) (N m : Nat) (S : Nat → Nat → Bool) (row : List Nat), vs = [.ref sd, .ref a, .int (m : Int)] ∧ H sd = some (.lst us) ∧ BlssAt H us (boolRows N S) ∧ H a = some (.tup (iv row)) ∧ row.length = m ∧ OkCh N S row ∧ m ≤ 900 ∧ N ≤ 200 ∧
  ∀ H', Same H H' → Q (.bl true) H'
def sp_as2 : Sp := fun vs H Q _ => ∃ (p a : Addr) (b : Bool) (xs : List V), vs = [.ref p, .ref a] ∧ PoolAt p H ∧ SeqAt b H a xs ∧ a ≠ p ∧ ∀ H' z b', PSame p H H' → z ≠ p → SeqAt b' H' z xs → Q (.ref z) H'
def sp_cutnumX (C CN : Addr) : Sp := fun vs H _ E => ∃ (p : Addr) (m : Nat) (x : V) (al : List Nat) (ps : List (Nat × Nat)), vs = [.ref p, .int (m : Int), x] ∧ JoinsAt C H p al ps ∧ Proper al ps ∧ al.Nodup ∧ 1 ≤ al.length ∧ al.length ≤ 400 ∧ ps.length ≤ 400 ∧ m ≤ 800 ∧ RepH H x ∧ numBelow x (w0 (al.length + ps.length) (sideB al ps) m : Int) = false ∧ ErrAt E CN H [("number", x)]
def sp_ncutX (C CN : Addr) : Sp := fun vs H _ E => ∃ (p a : Addr) (b : Bool) (zs : List Int) (al : List Nat) (ps : List (Nat × Nat)), vs = [.ref p, .ref a] ∧ JoinsAt C H p al ps ∧ Proper al ps ∧ al.Nodup ∧ al.length ≤ 400 ∧ ps.length ≤ 400 ∧ SeqAt b H a (zs.map V.int) ∧ zs.length ≤ 1000 ∧ OddInts zs ∧ ¬ IsCutZ al ps zs ∧
  ∀ H1 z, Same H H1 → H1 z = some (.tup (zs.map V.int)) → ErrAt E CN H1 [("row", .ref z)]
def sp_refNum (C : Addr) : Sp := fun vs H Q _ => ∃ (p : Addr) (m : Nat) (x : V) (al : List Nat) (ps : List (Nat × Nat)), vs = [.ref p, .int (m : Int), x] ∧ JoinsAt C H p al ps ∧ Proper al ps ∧ al.Nodup ∧ 1 ≤ al.length ∧ al.length ≤ 400 ∧ ps.length ≤ 400 ∧ m ≤ 800 ∧ RepH H x ∧ numBelow x (w0 (al.length + ps.length) (sideB al ps) m : Int) = false ∧ ∀ H', Same H H' → Q (.bl true) H'
def sp_refRow (C : Addr) : Sp := fun vs H Q _ => ∃ (p a : Addr) (b : Bool) (zs : List Int) (al : List Nat) (ps : List (Nat × Nat)), vs = [.ref p, .ref a] ∧ JoinsAt C H p al ps ∧ Proper al ps ∧ al.Nodup ∧ al.length ≤ 400 ∧ ps.length ≤ 400 ∧ SeqAt b H a (zs.map V.int) ∧ zs.length ≤ 1000 ∧ OddInts zs ∧ ¬ IsCutZ al ps zs ∧ ∀ H', Same H H' → Q (.bl true) H'
theorem sides_at {H : Hp} {us : List V} {N : Nat} {S : Nat → Nat → Bool} (h : BlssAt H us (boolRows N S)) {x : Nat} (hx : x < N) : ∃ q, us[x]? = some (.ref q) ∧ H q = some (.lst (((List.range N).map (S x)).map V.bl)) := by
  have h1 : (boolRows N S)[x]? = some ((List.range N).map (S x)) := by rw [boolRows, List.getElem?_map, List.getElem?_range hx]; rfl
  obtain ⟨v, h2, q, rfl, h3⟩ := Paired.at2 h h1
  exact ⟨q, h2, h3⟩
theorem side_val {N : Nat} {S : Nat → Nat → Bool} {x y : Nat} (hy : y < N) : (((List.range N).map (S x)).map V.bl)[y]? = some (V.bl (S x y)) := by
  rw [List.getElem?_map, List.getElem?_map, List.getElem?_range hy]; rfl
theorem rows_at {H : Hp} {ws : List V} {N m : Nat} {S : Nat → Nat → Bool} (h : LstsAt H ws ((List.range (m + 1)).map (rowW N S))) {k : Nat} (hk : k ≤ m) : ∃ q, ws[k]? = some (.ref q) ∧ H q = some (.lst (iv (rowW N S k))) := by
  have h1 : ((List.range (m + 1)).map (rowW N S))[k]? = some (rowW N S k) := by rw [List.getElem?_map, List.getElem?_range (by omega)]; rfl
  obtain ⟨x, h2, q, rfl, h3⟩ := Paired.at2 h h1
  exact ⟨q, h2, h3⟩
theorem getD_at {row : List Nat} {k : Nat} (h : k < row.length) : row[k]? = some (row.getD k 0) := by
  rw [List.getD_eq_getElem?_getD, List.getElem?_eq_getElem h]; rfl
theorem seq_len {K : PySem.W.Frag} {b : Bool} {H : Hp} {a : Addr} {xs : List V} (h : SeqAt b H a xs) : SqL K H a xs ∨ SqT K H a xs := by
  cases b with
  | true => exact .inl (SqL.of h)
  | false => exact .inr (SqT.of h)
theorem ixS {K : PySem.W.Frag} {b : Bool} {H : Hp} {a : Addr} {xs : List V} {i : Int} {v : V} {Q : VK} (h : SeqAt b H a xs) (hi : atI xs i = some v) (q : Q v H) : rIxS K (.ref a) (.int i) H Q := by
  cases b with
  | true => exact .inl ⟨a, _, _, _, rfl, rfl, SqL.of h, hi, q⟩
  | false => exact .inr ⟨a, _, _, _, rfl, rfl, SqT.of h, hi, q⟩
section
variable {P : Program} {w : World} {K : PySem.W.Frag} {mg : Str → Option Value} {base : Heap}
theorem ok_lbelow {f : Addr} {fd : FuncData} (F : C8.Fun K "_law_below" "_law_below" s__law_below f fd) (T : Txt K mg) : FnOk P w K mg base C8.CX0 1 f fd ["sides", "after", "row"] sp_lbelow := by
  refine C8.fn0 F sc__law_below (fun vs H Q E h => ?_) (fun cdv A outer s H vs Q E hr h => ?_)
  · obtain ⟨sd, af, a, b, us, ws, N, M, S, row, rfl, _⟩ := h; rfl
  · obtain ⟨sd, af, a, b, us, ws, N, M, S, row, rfl, hsd, hus, haf, hws, hrow, hin, hrl, hN, hM, q⟩ := h
    refine ⟨_, (pss_cons (ps_set (i := 3) sc__law_below.nd rfl (Or.inl rfl) pe_int)
      (pss_cons (ps_for PassesOwn.never rfl (pi_range1 rfl T.b_range (pa_cons (pe_callB call_len_seq (by rfl) T.b_len PySem.boot_len (pa_cons (pv 2) pa_nil)) pa_nil)) (pg_name (i := 4) sc__law_below.nd rfl (Or.inl rfl)) (pss_one (ps_for PassesOwn.never rfl (pi_range1 rfl T.b_range (pa_cons (pe_ix ix_seq (pv 2) (pv 4) (fun _ _ => rfl)) pa_nil)) (pg_name (i := 5) sc__law_below.nd rfl (Or.inl rfl)) (pss_one (ps_if (PW.pt (pw_or (pt_cmpR op_eq (pv 4) pe_int (nomark _)) (pw_or1 (pt_val (pe_ix ix_list (pe_ix ix_list (pv 0) (pe_ix ix_seq (pv 2) (pe_op op_sub (pv 4) pe_int) (fun _ _ => rfl)) (fun _ _ => rfl)) (pv 5) (fun _ _ => rfl)))))) (pss_one (ps_set (i := 3) sc__law_below.nd rfl (Or.inl rfl) (pe_op op_add (pv 3) (pe_ix ix_list (pe_ix ix_list (pv 1) (pe_op op_sub (pe_op op_sub (pe_callB call_len_seq (by rfl) T.b_len PySem.boot_len (pa_cons (pv 2) pa_nil)) pe_int) (pv 4)) (fun _ _ => rfl)) (pv 5) (fun _ _ => rfl))))) pss_nil)))))
      (pss_one (ps_ret (pv 3))))), ?_⟩
    refine ⟨_, rfl, a, _, rfl, seq_len hrow, _, rfl, by rw [iv_len]; omega, by rw [iv_len]; omega, for_it walk_range (fun k σ H' => ∃ v4 v5 : Option V, σ = [some (.ref sd), some (.ref af), some (.ref a), some (.int ((belU N S row k : Nat) : Int)), v4, v5] ∧ H' = H)
      ⟨none, none, rfl, rfl⟩ (fun _ _ _ _ _ => trivial) ?_ ?_⟩
    · rintro k x σ Ha Hb hk ⟨v4, v5, rfl, rfl⟩ ⟨rfl, hx⟩
      obtain rfl : x = V.int (k : Int) := hx.trans (congrArg V.int (Int.zero_add _))
      have hkl : k < row.length := by rw [iv_len, Int.toNat_natCast] at hk; exact hk
      have hkN := hin _ (List.mem_of_getElem? (getD_at hkl))
      refine ⟨_, rfl, _, rfl, ixS hrow (atI_nat (iv_at (getD_at hkl))) ⟨_, rfl, by omega, by omega, for_it walk_range (fun j σ H' => ∃ v5 : Option V, σ = [some (.ref sd), some (.ref af), some (.ref a), some (.int ((belU N S row k + (((List.range j).filter (okJ S row k)).map (wk N S (row.length - 1 - k))).sum : Nat) : Int)), some (.int (k : Int)), v5] ∧ H' = Hb)
        ⟨v5, rfl, rfl⟩ (fun _ _ _ _ _ => trivial) ?_ ?_⟩⟩
      · rintro j x σ Hc Hd hj ⟨v5, rfl, rfl⟩ ⟨rfl, hx2⟩
        obtain rfl : x = V.int (j : Int) := hx2.trans (congrArg V.int (Int.zero_add _))
        have hjp : j < row.getD k 0 := by rw [Int.toNat_natCast] at hj; exact hj
        have hjN : j < N := by omega
        obtain ⟨cq, hc1, hc2⟩ := rows_at hws (k := row.length - 1 - k) (by omega)
        refine ⟨_, rfl, rfl, _, rfl, ?_⟩
        generalize hM2 : tAsg _ _ = M2
        have yes : ∀ D : Ends, D.nx [some (.ref sd), some (.ref af), some (.ref a), some (.int (((belU N S row k + (((List.range j).filter (okJ S row k)).map (wk N S (row.length - 1 - k))).sum : Nat) : Int) + ((wk N S (row.length - 1 - k) j : Nat) : Int))), some (.int (k : Int)), some (.int (j : Int))] Hd → M2 D [some (.ref sd), some (.ref af), some (.ref a), some (.int ((belU N S row k + (((List.range j).filter (okJ S row k)).map (wk N S (row.length - 1 - k))).sum : Nat) : Int)), some (.int (k : Int)), some (.int (j : Int))] Hd := by
          intro D hD
          rw [← hM2]
          have eix : ((iv row).length : Int) - 1 - (k : Int) = ((row.length - 1 - k : Nat) : Int) := by rw [iv_len]; omega
          exact ⟨_, rfl, _, rfl, _, rfl, a, _, rfl, seq_len hrow, _, _, rfl, rfl, _, rfl, _, _, rfl, rfl, af, _, _, _, rfl, rfl, SqL.of haf, (by rw [eix]; exact atI_nat hc1), _, rfl, cq, _, _, _, rfl, rfl, SqL.of hc2, atI_nat (iv_at (rowW_at hjN)), _, _, rfl, rfl, hD⟩
        have hS : okJ S row k j = true → ∃ v5 : Option V, [some (.ref sd), some (.ref af), some (.ref a), some (.int (((belU N S row k + (((List.range j).filter (okJ S row k)).map (wk N S (row.length - 1 - k))).sum : Nat) : Int) + ((wk N S (row.length - 1 - k) j : Nat) : Int))), some (.int (k : Int)), some (.int (j : Int))] = [some (.ref sd), some (.ref af), some (.ref a), some (.int ((belU N S row k + (((List.range (j + 1)).filter (okJ S row k)).map (wk N S (row.length - 1 - k))).sum : Nat) : Int)), some (.int (k : Int)), v5] ∧ Hd = Hd := fun h => ⟨some (.int (j : Int)), by
          rw [List.range_succ, List.filter_append, List.filter_cons, h, if_pos rfl, List.filter_nil, List.map_append, List.sum_append, List.map_singleton, List.sum_singleton, ← Nat.add_assoc, Int.natCast_add (belU N S row k + _)], rfl⟩
        cases k with
        | zero => exact iteT (iteT (yes _ (hS rfl)))
        | succ i =>
          have hi : row[i]? = some (row.getD i 0) := getD_at (by omega)
          have hiN := hin _ (List.mem_of_getElem? hi)
          obtain ⟨sq, hs1, hs2⟩ := sides_at hus hiN
          have ei : (((i + 1 : Nat) : Int) - 1) = (i : Int) := by omega
          refine iteF ⟨_, rfl, _, rfl, _, rfl, _, _, rfl, rfl, ixS hrow (by rw [ei]; exact atI_nat (iv_at hi)) ⟨sd, _, _, _, rfl, rfl, SqL.of hsd, atI_nat hs1, _, rfl, sq, _, _, _, rfl, rfl, SqL.of hs2, atI_nat (side_val hjN), S (row.getD i 0) j, rfl, ?_⟩⟩
          cases hb : S (row.getD i 0) j with
          | true => exact iteT (yes _ (hS hb))
          | false =>
            refine iteF ⟨some (.int (j : Int)), ?_, rfl⟩
            have h : okJ S row (i + 1) j = false := hb
            rw [List.range_succ, List.filter_append, List.filter_cons, h, if_neg Bool.false_ne_true, List.filter_nil, List.append_nil]; rfl
      · rintro σ H' ⟨v5, rfl, rfl⟩
        refine ⟨some (.int (k : Int)), v5, ?_, rfl⟩
        rw [Int.toNat_natCast, belU_succ]; rfl
    · rintro σ H' ⟨v4, v5, rfl, rfl⟩
      rw [iv_len, Int.toNat_natCast]
      exact ⟨_, rfl, q _ (Same.refl _)⟩
theorem ok_lisrow {f : Addr} {fd : FuncData} (F : C8.Fun K "_law_is_row" "_law_is_row" s__law_is_row f fd) (T : Txt K mg) : FnOk P w K mg base C8.CX0 1 f fd ["sides", "row", "many"] sp_lisrow := by
  refine C8.fn0 F sc__law_is_row (fun vs H Q E h => ?_) (fun cdv A outer s H vs Q E hr h => ?_)
  · obtain ⟨sd, a, us, N, m, S, row, rfl, _⟩ := h; rfl
  · obtain ⟨sd, a, us, N, m, S, row, rfl, hsd, hus, ha, hrm, hok, hm, hN, q⟩ := h
    have hul : us.length = N := by rw [hus.length, boolRows, List.length_map, List.length_range]
    refine ⟨_, (pss_cons (ps_if (PW.pt (pw_or (pt_not (pt_val (pe_callB call_isi (by rfl) T.b_isinstance (by decide +kernel) (pa_cons (pv 1) (pa_cons (pe_bltn (v := .ty "tuple") (u := .type "tuple") rfl T.b_tuple (by decide +kernel) rfl) pa_nil))))) (pw_or1 (pt_cmpR op_ne (pe_callB call_len_seq (by rfl) T.b_len PySem.boot_len (pa_cons (pv 1) pa_nil)) (pv 2) (nomark _))))) (pss_one (ps_ret pe_bl)) pss_nil)
      (pss_cons (ps_for PassesOwn.never rfl (pi_range1 rfl T.b_range (pa_cons (pv 2) pa_nil)) (pg_name (i := 3) sc__law_is_row.nd rfl (Or.inl rfl)) (pss_cons (ps_if (PW.pt (pw_or (pt_not (pt_val (pe_callB call_isi (by rfl) T.b_isinstance (by decide +kernel) (pa_cons (pe_ix ix_tup (pv 1) (pv 3) (fun _ _ => rfl)) (pa_cons (pe_bltn (v := .ty "int") (u := .type "int") rfl T.b_int (by decide +kernel) rfl) pa_nil))))) (pw_or (pt_val (pe_callB call_isi (by rfl) T.b_isinstance (by decide +kernel) (pa_cons (pe_ix ix_tup (pv 1) (pv 3) (fun _ _ => rfl)) (pa_cons (pe_bltn (v := .ty "bool") (u := .type "bool") rfl T.b_bool (by decide +kernel) rfl) pa_nil)))) (pw_or (pt_cmpR op_lt (pe_ix ix_tup (pv 1) (pv 3) (fun _ _ => rfl)) pe_int (nomark _)) (pw_or1 (pt_cmpR op_ge (pe_ix ix_tup (pv 1) (pv 3) (fun _ _ => rfl)) (pe_callB call_len_seq (by rfl) T.b_len PySem.boot_len (pa_cons (pv 0) pa_nil)) (nomark _))))))) (pss_one (ps_ret pe_bl)) pss_nil)
      (pss_one (ps_if (PW.pt (pw_and (pt_cmpR op_gt (pv 3) pe_int (nomark _)) (pw_and1 (pt_not (pt_val (pe_ix ix_list (pe_ix ix_list (pv 0) (pe_ix ix_tup (pv 1) (pe_op op_sub (pv 3) pe_int) (fun _ _ => rfl)) (fun _ _ => rfl)) (pe_ix ix_tup (pv 1) (pv 3) (fun _ _ => rfl)) (fun _ _ => rfl))))))) (pss_one (ps_ret pe_bl)) pss_nil))))
      (pss_one (ps_ret pe_bl)))), ?_⟩
    refine ⟨_, rfl, _, .ty "tuple", .type "tuple", .type "tuple", true, rfl, .ty _, .base (.tup ha), kit_ty (by decide +kernel), _, rfl, iteF ⟨_, rfl, a, _, rfl, .inr (SqT.of ha), _, rfl, rfl, _, rfl, ?_⟩⟩
    rw [iv_len, hrm, decide_eq_true rfl]
    refine iteF ⟨_, rfl, _, rfl, by omega, by omega, for_it walk_range (fun k σ H' => ∃ v3 : Option V, σ = [some (.ref sd), some (.ref a), some (.int (m : Int)), v3] ∧ H' = H)
      ⟨none, rfl, rfl⟩ (fun _ _ _ _ _ => trivial) ?_ ?_⟩
    · rintro k x σ Ha Hb hk ⟨v3, rfl, rfl⟩ ⟨rfl, hx⟩
      obtain rfl : x = V.int (k : Int) := hx.trans (congrArg V.int (Int.zero_add _))
      have hkm : k < m := by rw [Int.toNat_natCast] at hk; exact hk
      have hg := getD_at (row := row) (k := k) (by omega)
      have hc := hok k (by omega)
      have hkN := chJ_lt hc
      refine ⟨_, rfl, _, rfl, a, _, _, _, rfl, rfl, SqT.of ha, atI_nat (iv_at hg), _, .ty "int", .type "int", .type "int", true, rfl, .ty _, .base (.int _), kit_ty (by decide +kernel), _, rfl, iteF ?_⟩
      refine ⟨_, rfl, _, rfl, a, _, _, _, rfl, rfl, SqT.of ha, atI_nat (iv_at hg), _, .ty "bool", .type "int", .type "bool", false, rfl, .ty _, .base (.int _), kit_ty (by decide +kernel), _, rfl, iteF ?_⟩
      refine ⟨_, rfl, _, rfl, a, _, _, _, rfl, rfl, SqT.of ha, atI_nat (iv_at hg), _, _, rfl, rfl, _, rfl, ?_⟩
      rw [decide_eq_false (by omega : ¬ ((row.getD k 0 : Nat) : Int) < 0)]
      refine iteF ⟨_, rfl, _, rfl, a, _, _, _, rfl, rfl, SqT.of ha, atI_nat (iv_at hg), _, rfl, sd, _, rfl, .inl (SqL.of hsd), _, _, rfl, rfl, _, rfl, ?_⟩
      rw [hul, decide_eq_false (by omega : ¬ (N : Int) ≤ ((row.getD k 0 : Nat) : Int))]
      refine iteF ⟨_, rfl, _, _, rfl, rfl, _, rfl, ?_⟩
      cases k with
      | zero => exact iteF (iteF ⟨_, rfl, rfl⟩)
      | succ i =>
        have hgi := getD_at (row := row) (k := i) (by omega)
        have hiN : row.getD i 0 < N := chJ_lt (hok i (by omega))
        obtain ⟨sq, hs1, hs2⟩ := sides_at hus hiN
        have hS : S (row.getD i 0) (row.getD (i + 1) 0) = true := (chs_S.mp hc).2
        have ei : (((i + 1 : Nat) : Int) - 1) = (i : Int) := by omega
        rw [decide_eq_true (by omega : (0 : Int) < ((i + 1 : Nat) : Int))]
        refine iteT ⟨_, rfl, _, rfl, _, rfl, _, _, rfl, rfl, a, _, _, _, rfl, rfl, SqT.of ha, (by rw [ei]; exact atI_nat (iv_at hgi)), sd, _, _, _, rfl, rfl, SqL.of hsd, atI_nat hs1, _, rfl, _, rfl, a, _, _, _, rfl, rfl, SqT.of ha, atI_nat (iv_at hg), sq, _, _, _, rfl, rfl, SqL.of hs2, atI_nat (side_val hkN), S (row.getD i 0) (row.getD (i + 1) 0), rfl, ?_⟩
        rw [hS]
        exact iteF ⟨_, rfl, rfl⟩
    · rintro σ H' ⟨v3, rfl, rfl⟩
      exact q _ (Same.refl _)
theorem ok_as2 {f : Addr} {fd : FuncData} (F : C8.Fun K "_law_as" "_law_as" s__law_as f fd) (T : Txt K mg) (c__law_draw : C8.Cal P w K mg base 1 "_law_draw" sp_drawB []) : FnOk P w K mg base C8.CX0 2 f fd ["pool", "row"] sp_as2 := by
  refine C8.fn0 F sc__law_as (fun vs H Q E h => ?_) (fun cdv A outer s H vs Q E hr h => ?_)
  · obtain ⟨p, a, b, xs, rfl, _⟩ := h; rfl
  · obtain ⟨p, a, b, xs, rfl, hP, ha, hap, q⟩ := h
    refine ⟨_, (pss_cons (ps_if (pt_cmpR op_eq (C8.pe_c c__law_draw hr (by first | decide | omega) (by rfl) (pa_cons (pv 0) (pa_cons pe_int pa_nil))) pe_int (nomark _)) (pss_one (ps_ret (pe_callTy call_list_of (by rfl) T.b_list (by decide +kernel) (pa_cons (pv 1) pa_nil)))) pss_nil)
      (pss_one (ps_ret (pe_tupleOf (by rfl) T.b_tuple (pv 1))))), ?_⟩
    refine ⟨_, rfl, p, 2, rfl, hP, by decide, fun H1 e s1 he => ⟨rfl, _, rfl, ?_⟩⟩
    show (if decide (V.int (e : Int) = V.int 0) = true then _ else _)
    obtain ⟨k, hk⟩ : ∃ k : Bool, k = decide (V.int (e : Int) = V.int 0) := ⟨_, rfl⟩
    rw [← hk]
    have ha1 : SeqAt b H1 a xs := by
      cases b with
      | true => exact s1.lst hap ha
      | false => exact s1.tup ha
    cases k with
    | true => exact iteT ⟨_, rfl, a, xs, rfl, seq_len ha1, fun z hz => q _ z true (s1.new hz) (s1.at1.free hz) upd_same⟩
    | false =>
      refine iteF ⟨_, rfl, ?_⟩
      cases b with
      | true => exact .inl ⟨a, xs, rfl, SqL.of ha1, fun z hz => q _ z false (s1.new hz) (s1.at1.free hz) upd_same⟩
      | false => exact .inr ⟨a, xs, rfl, SqT.of ha1, q _ a false s1 hap ha1⟩
theorem ok_cutnumX {f C CN : Addr} {fd : FuncData} (F : C8.Fun K "cut_of_number" "cut_of_number" s_cut_of_number f fd) (T : Txt K mg) (c_choices_behind : C8.Cal P w K mg base 9 "choices_behind" (sp_choices C) []) (c_continuations : C8.Cal P w K mg base 1 "continuations" sp_conts []) (x_check_number : CalX P w K mg base 3 "check_number" (sp_check_numberV CN))
    (c_choice_with_number : C8.Cal P w K mg base 1 "choice_with_number" sp_choose []) : FnOk P w K mg base (CXN P w) 10 f fd ["joins", "many", "number"] (sp_cutnumX C CN) := by
  refine fnX F sc_cut_of_number (fun vs H Q E h => ?_) (fun cdv A outer s H vs Q E hr h tk => ?_)
  · obtain ⟨p, m, x, al, ps, rfl, _⟩ := h; rfl
  · obtain ⟨p, m, x, al, ps, rfl, hj, hprop, hnd, hal1, hal, hpl, hm, hx, hnb, q⟩ := h
    refine ⟨_, (pss_cons (ps_set (i := 3) sc_cut_of_number.nd rfl (Or.inl rfl) (C8.pe_c c_choices_behind hr (by first | decide | omega) (by rfl) (pa_cons (pv 0) pa_nil)))
      (pss_cons (ps_set (i := 4) sc_cut_of_number.nd rfl (Or.inl rfl) (C8.pe_c c_continuations hr (by first | decide | omega) (by rfl) (pa_cons (pv 3) (pa_cons (pv 1) pa_nil))))
      (pss_cons (ps_expr (pe_cx x_check_number hr (by first | decide | omega) tk (by rfl) (pa_cons (pv 2) (pa_cons (pe_ix ix_list (pe_ix ix_list (pv 4) (pv 1) (fun _ _ => rfl)) (pe_un un_neg pe_int) (fun _ _ => rfl)) pa_nil))))
      (pss_cons (ps_set (i := 5) sc_cut_of_number.nd rfl (Or.inl rfl) (pe_un un_neg pe_int))
      (pss_cons (ps_set (i := 6) sc_cut_of_number.nd rfl (Or.inl rfl) (pe_lst pa_nil))
      (pss_cons (ps_for (L2.passes_of rfl) rfl (pi_revR rfl T.b_reversed (prg_1 rfl T.b_range (pv 1))) (pg_name (i := 7) sc_cut_of_number.nd rfl (Or.inl rfl)) (pss_cons (ps_asg (C8.pe_c c_choice_with_number hr (by first | decide | omega) (by rfl) (pa_cons (pe_ix ix_tup (pv 3) (pv 5) (fun _ _ => rfl)) (pa_cons (pe_ix ix_list (pv 4) (pv 7) (fun _ _ => rfl)) (pa_cons (pv 2) pa_nil)))) (pg_tup rfl (pgs_cons (pg_name (i := 5) sc_cut_of_number.nd rfl (Or.inl rfl)) (pgs_cons (pg_name (i := 2) sc_cut_of_number.nd rfl (Or.inl rfl)) pgs_nil))))
      (pss_one (ps_expr (pe_bm PySem.F.plainAttrs_list PySem.F.slot_list_append PySem.F.type_list_append mt_append (pv 6) (pa_cons (pv 5) pa_nil))))))
      (pss_one (ps_ret (pe_tupleOf (by rfl) T.b_tuple (pv 6)))))))))), ?_⟩
    refine ⟨_, rfl, p, al, ps, rfl, hj, hprop, hnd, hal1, hal, hpl, fun H1 bq us s1 hbq hus => ?_⟩
    obtain ⟨N, hN⟩ : ∃ N, N = al.length + ps.length := ⟨_, rfl⟩
    rw [← hN] at hus hnb
    refine ⟨_, rfl, _, rfl, bq, us, N, m, sideB al ps, rfl, hbq, hus, by omega, by omega, fun H2 tq ws s2 htq hws => ?_⟩
    obtain ⟨lq, hl1, hl2⟩ := tables_at hws (k := m) (Nat.le_refl m)
    have s12 := s1.trans s2
    exact ⟨_, rfl, _, rfl, _, rfl, tq, _, _, _, rfl, rfl, SqL.of htq, atI_nat hl1, _, rfl, lq, _, _, _, rfl, rfl, SqL.of hl2, atI_neg1 (iv_last (tabW_last m)), x, _, rfl, hx.same s12, fun h => absurd (h.symm.trans hnb) (by decide), fun _ => q.same s12⟩
theorem ok_ncutX {f C CN : Addr} {fd : FuncData} (F : C8.Fun K "number_of_cut" "number_of_cut" s_number_of_cut f fd) (T : Txt K mg) (x_check_cut : CalX P w K mg base 11 "check_cut" (sp_check_cutB C CN)) (c_choices_behind : C8.Cal P w K mg base 9 "choices_behind" (sp_choices C) []) (c_continuations : C8.Cal P w K mg base 1 "continuations" sp_conts []) :
    FnOk P w K mg base (CXN P w) 12 f fd ["joins", "row"] (sp_ncutX C CN) := by
  refine fnX F sc_number_of_cut (fun vs H Q E h => ?_) (fun cdv A outer s H vs Q E hr h tk => ?_)
  · obtain ⟨p, a, b, zs, al, ps, rfl, _⟩ := h; rfl
  · obtain ⟨p, a, b, zs, al, ps, rfl, hj, hprop, hnd, hal, hpl, hrow, hrl, hodd, hno, q⟩ := h
    refine ⟨_, (pss_cons (ps_expr (pe_cx x_check_cut hr (by first | decide | omega) tk (by rfl) (pa_cons (pv 0) (pa_cons (pv 1) pa_nil))))
      (pss_cons (ps_set (i := 2) sc_number_of_cut.nd rfl (Or.inl rfl) (C8.pe_c c_choices_behind hr (by first | decide | omega) (by rfl) (pa_cons (pv 0) pa_nil)))
      (pss_cons (ps_set (i := 3) sc_number_of_cut.nd rfl (Or.inl rfl) (C8.pe_c c_continuations hr (by first | decide | omega) (by rfl) (pa_cons (pv 2) (pa_cons (pe_callB call_len_seq (by rfl) T.b_len PySem.boot_len (pa_cons (pv 1) pa_nil)) pa_nil))))
      (pss_cons (ps_set (i := 4) sc_number_of_cut.nd rfl (Or.inl rfl) (pe_un un_neg pe_int))
      (pss_cons (ps_set (i := 5) sc_number_of_cut.nd rfl (Or.inl rfl) pe_int)
      (pss_cons (ps_for (L2.passes_of rfl) rfl (pi_enumG rfl T.b_enumerate (pa_cons (pv 1) pa_nil)) (pg_tup rfl (pgs_cons (pg_name (i := 6) sc_number_of_cut.nd rfl (Or.inl rfl)) (pgs_cons (pg_name (i := 7) sc_number_of_cut.nd rfl (Or.inr rfl)) pgs_nil))) (pss_cons (ps_set (i := 8) sc_number_of_cut.nd rfl (Or.inr rfl) (pe_ix ix_list (pv 3) (pe_op op_sub (pe_op op_sub (pe_callB call_len_seq (by rfl) T.b_len PySem.boot_len (pa_cons (pv 1) pa_nil)) (pv 6)) pe_int) (fun _ _ => rfl)))
      (pss_cons (ps_aug (i := 5) sc_number_of_cut.nd rfl (Or.inl rfl) (pe_callB (cr_sum rfl) (by rfl) T.b_sum (by decide +kernel) (pa_cons (pe_lc (own := [("choice", 9)]) (g := gName 9)  rfl sc_number_of_cut.nd (pi_tup (pe_ix ix_tup (pv 2) (pv 4) (fun _ _ => rfl))) (blkOk_by (N := N_number_of_cut) (sc := C8.fnScope s_number_of_cut) (by decide +kernel)) (fun _ _ _ _ _ => (pg_name (i := 9) sc_number_of_cut.nd rfl (Or.inl rfl))) (fun _ _ _ _ _ => pts_one (pt_cmpR op_lt (pv 9) (pv 7) (nomark _))) (fun _ _ _ _ _ => (pe_ix (ix_listK (K := K) rfl) (pv 8) (pv 9) (fun _ _ => rfl)))) pa_nil)) ip_add)
      (pss_one (ps_set (i := 4) sc_number_of_cut.nd rfl (Or.inl rfl) (pv 7))))))
      (pss_one (ps_ret (pv 5))))))))), ?_⟩
    exact ⟨_, rfl, _, rfl, p, a, b, zs, al, ps, rfl, hj, hprop, hnd, hal, hpl, hrow, hrl, fun h => absurd h hno, fun _ => ⟨hodd, q⟩⟩
theorem ok_refNum {f C CInvalidNumber CJoinError : Addr} {fd : FuncData} (F : C8.Fun K "_law_refused_number" "_law_refused_number" s__law_refused_number f fd) (T : Txt K mg) (x_cut_of_number : CalX P w K mg base 10 "cut_of_number" (sp_cutnumX C CInvalidNumber)) (h__law_same : CalH P w K mg base 2 "_law_same" (fun vs H Q E => sp_same 1 vs H Q E ∨ sp_sameL 0 vs H Q E)) (e__law_alone : CalE P w K mg base 1 "_law_alone" (sp_alone CInvalidNumber 1))
    (GJoinError : mg "JoinError" = some (.ref CJoinError)) (eiInvalidNumber : ErrI K CInvalidNumber) (nInvalidNumber_number : PySem.W.findIn K (.ref CInvalidNumber) "number" = some none)
    (k1 : PySem.W.exmOne K (.ref CInvalidNumber) (.ref CJoinError) = some true) :
    FnOk P w K mg base C8.CX0 11 f fd ["joins", "many", "number"] (sp_refNum C) := by
  refine C8.fn0 F sc__law_refused_number (fun vs H Q E h => ?_) (fun cdv A outer s H vs Q E hr h => ?_)
  · obtain ⟨p, m, x, al, ps, rfl, _⟩ := h; rfl
  · obtain ⟨p, m, x, al, ps, rfl, hj, hprop, hnd, hal1, hal, hpl, hm, hx, hnb, q⟩ := h
    refine ⟨_, (pss_cons (L2N.ps_try_as (i := 3) rfl rfl sc__law_refused_number.nd rfl rfl (c := .ref CJoinError) ⟨by rfl, by decide, .inl GJoinError⟩ takes0 (fun W pn xe tk po => (pss_one (ps_expr (pe_cx x_cut_of_number hr (by first | decide | omega) tk (by rfl) (pa_cons (pv 0) (pa_cons (pv 1) (pa_cons (pv 2) pa_nil))))))) (fun a oe cls d pn hz hf => (pss_one (ps_ret (pe_and (pe_ce e__law_alone (roomS hr) (by first | decide | omega) hz hf (by rfl) (pa_cons (pv 3) (pa_cons pe_int pa_nil))) (pe_one (pe_ch h__law_same (roomS hr) (by first | decide | omega) (hotS hz hf) (by rfl) (pa_cons (pe_xf eiInvalidNumber.xf nInvalidNumber_number hz.zc hf (pv 3)) (pa_cons (pv 2) pa_nil)))))))))
      (pss_one (ps_ret pe_bl))), ?_⟩
    refine ⟨_, rfl, _, rfl, _, rfl, p, m, x, al, ps, rfl, hj, hprop, hnd, hal1, hal, hpl, hm, hx, hnb, ?_⟩
    intro d H2 s2 hd
    refine ⟨true, k1, fun _ bb hbb => ?_, fun z => by cases z⟩
    refine ⟨_, rfl, d, _, rfl, rfl, rfl, hd, by decide, fun H3 s3 => ⟨true, rfl, iteT ?_⟩⟩
    have s13 := s2.trans s3
    exact ⟨_, rfl, rfl, rfl, d, _, _, rfl, s3 _ _ hd, rfl, _, rfl, sameX_rep (hx.same s13) fun H5 s5 => q H5 (s13.trans s5)⟩
theorem ok_refRow {f C CNotCut CJoinError : Addr} {fd : FuncData} (F : C8.Fun K "_law_refused_row" "_law_refused_row" s__law_refused_row f fd) (T : Txt K mg) (x_number_of_cut : CalX P w K mg base 12 "number_of_cut" (sp_ncutX C CNotCut)) (h__law_same : CalH P w K mg base 2 "_law_same" (fun vs H Q E => sp_same 1 vs H Q E ∨ sp_sameL 0 vs H Q E)) (e__law_alone : CalE P w K mg base 1 "_law_alone" (sp_alone CNotCut 3))
    (GJoinError : mg "JoinError" = some (.ref CJoinError)) (eiNotCut : ErrI K CNotCut) (nNotCut_row : PySem.W.findIn K (.ref CNotCut) "row" = some none)
    (k1 : PySem.W.exmOne K (.ref CNotCut) (.ref CJoinError) = some true) :
    FnOk P w K mg base C8.CX0 13 f fd ["joins", "row"] (sp_refRow C) := by
  refine C8.fn0 F sc__law_refused_row (fun vs H Q E h => ?_) (fun cdv A outer s H vs Q E hr h => ?_)
  · obtain ⟨p, a, b, zs, al, ps, rfl, _⟩ := h; rfl
  · obtain ⟨p, a, b, zs, al, ps, rfl, hj, hprop, hnd, hal, hpl, hrow, hrl, hodd, hno, q⟩ := h
    refine ⟨_, (pss_cons (L2N.ps_try_as (i := 2) rfl rfl sc__law_refused_row.nd rfl rfl (c := .ref CJoinError) ⟨by rfl, by decide, .inl GJoinError⟩ takes0 (fun W pn xe tk po => (pss_one (ps_expr (pe_cx x_number_of_cut hr (by first | decide | omega) tk (by rfl) (pa_cons (pv 0) (pa_cons (pv 1) pa_nil)))))) (fun a oe cls d pn hz hf => (pss_one (ps_ret (pe_and (pe_ce e__law_alone (roomS hr) (by first | decide | omega) hz hf (by rfl) (pa_cons (pv 2) (pa_cons pe_int pa_nil))) (pe_one (pe_ch h__law_same (roomS hr) (by first | decide | omega) (hotS hz hf) (by rfl) (pa_cons (pe_xf eiNotCut.xf nNotCut_row hz.zc hf (pv 2)) (pa_cons (pe_tupleOfK (K := K) rfl (by rfl) T.b_tuple (pv 1)) pa_nil)))))))))
      (pss_one (ps_ret pe_bl))), ?_⟩
    refine ⟨_, rfl, _, rfl, p, a, b, zs, al, ps, rfl, hj, hprop, hnd, hal, hpl, hrow, hrl, hodd, hno, fun H1 z s1 hz => ?_⟩
    intro d H2 s2 hd
    refine ⟨true, k1, fun _ bb hbb => ?_, fun z => by cases z⟩
    refine ⟨_, rfl, d, _, rfl, rfl, rfl, hd, by decide, fun H3 s3 => ⟨true, rfl, iteT ?_⟩⟩
    have s13 := (s1.trans s2).trans s3
    have hz3 := s3 _ _ (s2 _ _ hz)
    have hrow3 : SeqAt b H3 a (zs.map V.int) := hrow.same s13
    refine ⟨_, rfl, rfl, rfl, d, _, _, rfl, s3 _ _ hd, rfl, _, rfl, kTup_seq hrow3 fun H4 z2 s4 hz2 => ?_⟩
    exact .inl ⟨_, _, rfl, SameD.rowZ (s4 _ _ hz3) hz2 hrl, fun H5 s5 => q H5 ((s13.trans s4).trans s5)⟩
end
end RJ
end

section
set_option maxRecDepth 100000
set_option maxHeartbeats 16000000
namespace RJ
open PySem PySem.Spec PyProof.Rows L2
def sp_law (K : PySem.W.Frag) : Sp := fun vs H Q _ => ∃ (a : Addr) (zs : List Int), vs = [.ref a] ∧ SqL K H a (zs.map V.int) ∧ zs.length ≤ 63 ∧ ∀ H', Q (.bl true) H'
theorem rowW_sum {N : Nat} {S : Nat → Nat → Bool} {m : Nat} (h : 0 < m) : (rowW N S (m - 1)).sum = w0 N S m := by
  obtain ⟨k, rfl⟩ : ∃ k, m = k + 1 := ⟨m - 1, by omega⟩
  rfl
section
variable {P : Program} {w : World} {K : PySem.W.Frag} {mg : Str → Option Value} {base : Heap}
theorem ok_law {f C : Addr} {fd : FuncData} (F : C8.Fun K "law" "law" s_law f fd) (T : Txt K mg) (J : JTxt K C) (c__law_pool : C8.Cal P w K mg base 1 "_law_pool" (sp_pool K) []) (c__law_few_letters : C8.Cal P w K mg base 3 "_law_few_letters" sp_few []) (c__law_pairs : C8.Cal P w K mg base 3 "_law_pairs" sp_pairsB [])
    (c__law_draw : C8.Cal P w K mg base 1 "_law_draw" sp_drawB []) (k_Joins : C8.Mak P w K mg base 4 "Joins" C (sp_init C) []) (c__law_sides : C8.Cal P w K mg base 3 "_law_sides" sp_lsides []) (c__law_after : C8.Cal P w K mg base 1 "_law_after" sp_lafter []) (c_cut_of_number : C8.Cal P w K mg base 10 "cut_of_number" (sp_cutnum C) [])
    (c__law_is_row : C8.Cal P w K mg base 1 "_law_is_row" sp_lisrow []) (c__law_below : C8.Cal P w K mg base 1 "_law_below" sp_lbelow []) (c_number_of_cut : C8.Cal P w K mg base 12 "number_of_cut" (sp_ncut C) []) (c__law_as2 : C8.Cal P w K mg base 2 "_law_as" sp_as2 []) (c__law_same : C8.Cal P w K mg base 2 "_law_same" (sp_same 1) [])
    (c__law_text : C8.Cal P w K mg base 2 "_law_text" sp_textB []) (c__law_cut : C8.Cal P w K mg base 2 "_law_cut" sp_cutB []) (c__law_refused_number : C8.Cal P w K mg base 11 "_law_refused_number" (sp_refNum C) []) (c__law_oddB : C8.Cal P w K mg base 2 "_law_odd" sp_oddB []) (c__law_refused_row : C8.Cal P w K mg base 13 "_law_refused_row" (sp_refRow C) []) :
    FnOk P w K mg base C8.CX0 14 f fd ["script"] (sp_law K) := by
  refine C8.fn0 F sc_law (fun vs H Q E h => ?_) (fun cdv A outer s H vs Q E hr h => ?_)
  · obtain ⟨a, zs, rfl, _⟩ := h; rfl
  · obtain ⟨a, zs, rfl, hS, hlen, q⟩ := h
    have hsz : sizeLine = 16777216 := sizeLine_eq
    refine ⟨_, (pss_cons (ps_set (i := 1) sc_law.nd rfl (Or.inl rfl) (C8.pe_c c__law_pool hr (by first | decide | omega) (by rfl) (pa_cons (pv 0) (pa_cons pe_int pa_nil))))
      (pss_cons (ps_set (i := 2) sc_law.nd rfl (Or.inl rfl) (C8.pe_c c__law_few_letters hr (by first | decide | omega) (by rfl) (pa_cons (pv 1) pa_nil)))
      (pss_cons (ps_set (i := 3) sc_law.nd rfl (Or.inl rfl) (C8.pe_c c__law_pairs hr (by first | decide | omega) (by rfl) (pa_cons (pv 1) (pa_cons (pv 2) (pa_cons (C8.pe_c c__law_draw hr (by first | decide | omega) (by rfl) (pa_cons (pv 1) (pa_cons pe_int pa_nil))) pa_nil)))))
      (pss_cons (ps_set (i := 4) sc_law.nd rfl (Or.inl rfl) (C8.pe_mk k_Joins hr (by first | decide | omega) (by rfl) (pa_cons (pv 2) (pa_cons (pe_callTy call_list_of (by rfl) T.b_list (by decide +kernel) (pa_cons (pe_ix ix_tup (pv 3) pe_int (fun _ _ => rfl)) pa_nil)) pa_nil))))
      (pss_cons (ps_set (i := 5) sc_law.nd rfl (Or.inr rfl) (C8.pe_c c__law_sides hr (by first | decide | omega) (by rfl) (pa_cons (pv 3) (pa_cons (pv 2) pa_nil))))
      (pss_cons (ps_set (i := 6) sc_law.nd rfl (Or.inl rfl) (pe_ix ix_list (pe_lst (pa_cons (C8.pe_c c__law_draw hr (by first | decide | omega) (by rfl) (pa_cons (pv 1) (pa_cons pe_int pa_nil))) (pa_cons (C8.pe_c c__law_draw hr (by first | decide | omega) (by rfl) (pa_cons (pv 1) (pa_cons pe_int pa_nil))) pa_nil))) (C8.pe_c c__law_draw hr (by first | decide | omega) (by rfl) (pa_cons (pv 1) (pa_cons pe_int pa_nil))) (fun _ _ => rfl)))
      (pss_cons (ps_set (i := 7) sc_law.nd rfl (Or.inl rfl) (C8.pe_c c__law_after hr (by first | decide | omega) (by rfl) (pa_cons (pv 5) (pa_cons pe_int pa_nil))))
      (pss_cons (ps_set (i := 8) sc_law.nd rfl (Or.inl rfl) pe_int)
      (pss_cons (ps_if (pt_cmpR op_gt (pv 6) pe_int (nomark _)) (pss_one (ps_set (i := 8) sc_law.nd rfl (Or.inl rfl) (pe_callB (cr_sum rfl) (by rfl) T.b_sum (by decide +kernel) (pa_cons (pe_ix ix_list (pv 7) (pe_op op_sub (pv 6) pe_int) (fun _ _ => rfl)) pa_nil)))) pss_nil)
      (pss_cons (ps_set (i := 9) sc_law.nd rfl (Or.inl rfl) pe_int)
      (pss_cons (ps_for PassesOwn.never rfl (pi_range1 rfl T.b_range (pa_cons pe_int pa_nil)) (pg_name (i := 10) sc_law.nd rfl (Or.inl rfl)) (pss_one (ps_set (i := 9) sc_law.nd rfl (Or.inl rfl) (pe_op op_add (pe_op op_mul (pv 9) pe_int) (C8.pe_c c__law_draw hr (by first | decide | omega) (by rfl) (pa_cons (pv 1) (pa_cons pe_int pa_nil)))))))
      (pss_cons (ps_for PassesOwn.never rfl (pi_list (pe_lst (pa_cons pe_int (pa_cons (pe_op op_sub (pv 8) pe_int) (pa_cons (pe_op op_mod (pe_callTy call_int1 (by rfl) T.b_int (by decide +kernel) (pa_cons (pv 9) pa_nil)) (pv 8)) (pa_cons (pe_op op_mod (pe_callTy call_int1 (by rfl) T.b_int (by decide +kernel) (pa_cons (pe_op op_fdiv (pv 9) pe_int) pa_nil)) (pv 8)) pa_nil)))))) (pg_name (i := 11) sc_law.nd rfl (Or.inl rfl)) (pss_cons (ps_set (i := 12) sc_law.nd rfl (Or.inl rfl) (C8.pe_c c_cut_of_number hr (by first | decide | omega) (by rfl) (pa_cons (pv 4) (pa_cons (pv 6) (pa_cons (pv 11) pa_nil)))))
      (pss_cons (ps_if (PW.pt (pw_or (pt_not (pt_val (C8.pe_c c__law_is_row hr (by first | decide | omega) (by rfl) (pa_cons (pv 5) (pa_cons (pv 12) (pa_cons (pv 6) pa_nil)))))) (pw_or1 (pt_cmpR op_ne (C8.pe_c c__law_below hr (by first | decide | omega) (by rfl) (pa_cons (pv 5) (pa_cons (pv 7) (pa_cons (pv 12) pa_nil)))) (pv 11) (nomark _))))) (pss_one (ps_ret pe_bl)) pss_nil)
      (pss_one (ps_if (pt_not (pt_val (C8.pe_c c__law_same hr (by first | decide | omega) (by rfl) (pa_cons (C8.pe_c c_number_of_cut hr (by first | decide | omega) (by rfl) (pa_cons (pv 4) (pa_cons (C8.pe_c c__law_as2 hr (by first | decide | omega) (by rfl) (pa_cons (pv 1) (pa_cons (pv 12) pa_nil))) pa_nil))) (pa_cons (pv 11) pa_nil))))) (pss_one (ps_ret pe_bl)) pss_nil)))))
      (pss_cons (ps_set (i := 13) sc_law.nd rfl (Or.inl rfl) (C8.pe_c c__law_text hr (by first | decide | omega) (by rfl) (pa_cons (pv 1) (pa_cons (pv 2) (pa_cons (pe_ix ix_tup (pv 3) pe_int (fun _ _ => rfl)) (pa_cons pe_int pa_nil))))))
      (pss_cons (ps_set (i := 12) sc_law.nd rfl (Or.inl rfl) (C8.pe_c c__law_cut hr (by first | decide | omega) (by rfl) (pa_cons (pe_ix ix_tup (pv 3) pe_int (fun _ _ => rfl)) (pa_cons (pv 2) (pa_cons (pv 13) pa_nil)))))
      (pss_cons (ps_set (i := 14) sc_law.nd rfl (Or.inl rfl) (C8.pe_c c__law_as2 hr (by first | decide | omega) (by rfl) (pa_cons (pv 1) (pa_cons (pv 12) pa_nil))))
      (pss_cons (ps_if (pt_not (pt_val (C8.pe_c c__law_same hr (by first | decide | omega) (by rfl) (pa_cons (C8.pe_c c_number_of_cut hr (by first | decide | omega) (by rfl) (pa_cons (pv 4) (pa_cons (pv 14) pa_nil))) (pa_cons (C8.pe_c c__law_below hr (by first | decide | omega) (by rfl) (pa_cons (pv 5) (pa_cons (pv 7) (pa_cons (pv 12) pa_nil)))) pa_nil))))) (pss_one (ps_ret pe_bl)) pss_nil)
      (pss_cons (ps_if (pt_not (pt_val (C8.pe_c c__law_same hr (by first | decide | omega) (by rfl) (pa_cons (pe_tupleOf (by rfl) T.b_tuple (pv 14)) (pa_cons (pe_tupleOf (by rfl) T.b_tuple (pv 12)) pa_nil))))) (pss_one (ps_ret pe_bl)) pss_nil)
      (pss_cons (ps_if (pt_not (pt_val (C8.pe_c c__law_refused_number hr (by first | decide | omega) (by rfl) (pa_cons (pv 4) (pa_cons (pv 6) (pa_cons (C8.pe_c c__law_oddB hr (by first | decide | omega) (by rfl) (pa_cons (pv 1) (pa_cons (pe_op op_sub (pv 8) pe_int) pa_nil))) pa_nil)))))) (pss_one (ps_ret pe_bl)) pss_nil)
      (pss_cons (ps_set (i := 15) sc_law.nd rfl (Or.inl rfl) (C8.pe_c c__law_draw hr (by first | decide | omega) (by rfl) (pa_cons (pv 1) (pa_cons (pe_op op_add (pe_callB call_len_seq (by rfl) T.b_len PySem.boot_len (pa_cons (pv 12) pa_nil)) pe_int) pa_nil))))
      (pss_cons (ps_set (i := 16) sc_law.nd rfl (Or.inl rfl) (pe_ix ix_list (pe_lst (pa_cons (pe_lst (pa_cons (pe_callB call_len_seq (by rfl) T.b_len PySem.boot_len (pa_cons (pv 5) pa_nil)) pa_nil)) (pa_cons (pe_lst (pa_cons (pe_un un_neg pe_int) pa_nil)) (pa_cons (pe_lst (pa_cons (pe_op op_add (pe_callB call_len_seq (by rfl) T.b_len PySem.boot_len (pa_cons (pv 5) pa_nil)) (C8.pe_c c__law_draw hr (by first | decide | omega) (by rfl) (pa_cons (pv 1) (pa_cons pe_int pa_nil)))) pa_nil)) (pa_cons (pe_lst (pa_cons pe_int (pa_cons (pe_un un_neg pe_int) pa_nil))) pa_nil))))) (C8.pe_c c__law_draw hr (by first | decide | omega) (by rfl) (pa_cons (pv 1) (pa_cons pe_int pa_nil))) (fun _ _ => rfl)))
      (pss_cons (ps_set (i := 17) sc_law.nd rfl (Or.inl rfl) (pe_lst pa_nil))
      (pss_cons (ps_for PassesOwn.never rfl (pi_range1 rfl T.b_range (pa_cons (pe_callB call_len_seq (by rfl) T.b_len PySem.boot_len (pa_cons (pv 5) pa_nil)) pa_nil)) (pg_name (i := 18) sc_law.nd rfl (Or.inr rfl)) (pss_one (ps_set (i := 17) sc_law.nd rfl (Or.inl rfl) (pe_op op_cat (pv 17) (pe_lc (own := [("two", 19)]) (g := gName 19)  rfl sc_law.nd (pi_range1 rfl T.b_range (pa_cons (pe_callB call_len_seq (by rfl) T.b_len PySem.boot_len (pa_cons (pv 5) pa_nil)) pa_nil)) (blkOk_by (N := N_law) (sc := C8.fnScope s_law) (by decide +kernel)) (fun _ _ _ _ _ => (pg_name (i := 19) sc_law.nd rfl (Or.inl rfl))) (fun _ _ _ _ _ => pts_one (pt_not (pt_val (pe_ix (ix_listK (K := K) rfl) (pe_ix (ix_listK (K := K) rfl) (pv 5) (pv 18) (fun _ _ => rfl)) (pv 19) (fun _ _ => rfl))))) (fun _ _ _ _ _ => (pe_lst (pa_cons (pv 18) (pa_cons (pv 19) pa_nil)))))))))
      (pss_cons (ps_if (PW.pt (pw_and (pt_cmpR op_gt (pe_callB call_len_seq (by rfl) T.b_len PySem.boot_len (pa_cons (pv 17) pa_nil)) pe_int (nomark _)) (pw_and1 (pt_cmpR op_gt (C8.pe_c c__law_draw hr (by first | decide | omega) (by rfl) (pa_cons (pv 1) (pa_cons pe_int pa_nil))) pe_int (nomark _))))) (pss_one (ps_set (i := 16) sc_law.nd rfl (Or.inl rfl) (pe_ix ix_list (pv 17) (C8.pe_c c__law_draw hr (by first | decide | omega) (by rfl) (pa_cons (pv 1) (pa_cons (pe_callB call_len_seq (by rfl) T.b_len PySem.boot_len (pa_cons (pv 17) pa_nil)) pa_nil))) (fun _ _ => rfl)))) pss_nil)
      (pss_one (ps_ret (C8.pe_c c__law_refused_row hr (by first | decide | omega) (by rfl) (pa_cons (pv 4) (pa_cons (C8.pe_c c__law_as2 hr (by first | decide | omega) (by rfl) (pa_cons (pv 1) (pa_cons (pe_op op_cat (pe_op op_cat (pe_slice sl_list (pv 12) po_none (po_some (pv 15))) (pv 16)) (pe_slice sl_list (pv 12) (po_some (pv 15)) po_none)) pa_nil))) pa_nil)))))))))))))))))))))))))))), ?_⟩
    refine ⟨_, rfl, a, zs, 340, rfl, hS, hlen, by decide, fun H1 p s1 hp1 hP1 => ?_⟩
    refine ⟨_, rfl, p, rfl, hP1, fun H2 al s2 hok hnd h1 h30 hSG => ?_⟩
    refine ⟨_, rfl, _, rfl, _, rfl, p, 8, rfl, s2.at1, by decide, fun H3 m s3 hm => ⟨p, al, m, rfl, s3.at1, hnd, h1, by omega, by omega, fun H4 r pp tx us ps s4 hppp htxp hr0 hpp hps htx hprop hpl => ?_⟩⟩
    -- the list
    refine ⟨_, rfl, _, rfl, r, _, _, _, rfl, rfl, SqT.of hr0, rfl, pp, us, rfl, .inl (SqL.of hpp), fun pa hpa y dx ny ndx nex => ?_⟩
    have npa : pa ≠ y := ne_of_none upd_same ny
    have npd : pa ≠ dx := ne_of_none upd_same ndx
    have sM : ∀ (b : Addr) (o : HO), H4 b = some o → b ≠ y ∧ (upd (upd (upd H4 pa (.lst us)) dx (.own y)) y (.ins C dx [])) b = some o := fun b o e => by
      have e1 : (upd H4 pa (.lst us)) b = some o := (upd_ne (ne_of_none e hpa)).trans e
      have hby := ne_of_none e1 ny
      exact ⟨hby, (upd_ne hby).trans ((upd_ne (ne_of_none e1 ndx)).trans e1)⟩
    refine ⟨y, pa, dx, true, al, ps, us, rfl, upd_same, (upd_ne npa).trans ((upd_ne npd).trans upd_same), hps.same (fun b xs e => (sM b _ e).2), hok, hnd, by omega, hprop, by omega, fun H5 sx hj => ⟨rfl, ?_⟩⟩
    have s5 : Same H4 H5 := fun b o e => sx b o (sM b o e).1 (sM b o e).2
    clear sM sx
    have hP5 := s4.at1.same s5
    have hr5 := s5 _ _ hr0
    have hpp5 := s5 _ _ hpp
    have hps5 := hps.same (Same.t s5)
    have htx5 := s5 _ _ htx
    have hw := hprop.wf
    clear hr0 hpp hps htx
    obtain ⟨N, hN⟩ : ∃ N, N = al.length + ps.length := ⟨_, rfl⟩
    -- sides, many, after
    refine ⟨_, rfl, _, rfl, r, pp, tx, us, al, ps, rfl, hr5, hpp5, hps5, htx5, hprop, hnd, by omega, by omega, fun H6 sd su s6 hsdn hsd hss => ?_⟩
    rw [← hN] at hss
    have nsd : sd ≠ p := hP5.free hsdn
    have hss := BlsF.pool hss hP5
    have P6 := hP5.same s6
    have hr6 := s6 _ _ hr5
    have hpp6 := s6 _ _ hpp5
    have hps6 := hps5.same (Same.t s6)
    have htx6 := s6 _ _ htx5
    have hj6 := hj.same s6
    clear hr5 hpp5 hps5 htx5 hj hP5
    refine ⟨_, rfl, p, 6, rfl, P6, by decide, fun H7 m1 s7 hm1 => ⟨_, rfl, p, 31, rfl, s7.at1, by decide, fun H8 m2 s8 hm2 => ?_⟩⟩
    refine ⟨by show 2 ≤ sizeLine; omega, fun L hL => ?_⟩
    have k8 := s7.trans s8
    have u8 := k8.new (o := .lst [.int (m1 : Int), .int (m2 : Int)]) hL
    have nL : L ≠ p := k8.at1.free hL
    have fL : (upd H8 L (.lst [.int (m1 : Int), .int (m2 : Int)])) L = some (.lst [.int (m1 : Int), .int (m2 : Int)]) := upd_same
    generalize upd H8 L (.lst [.int (m1 : Int), .int (m2 : Int)]) = G1 at u8 fL ⊢
    refine ⟨_, rfl, p, 2, rfl, u8.at1, by decide, fun H9 e9 s9 he9 => ?_⟩
    have k9 := u8.trans s9
    obtain ⟨many, hmany, hm30⟩ : ∃ many : Nat, atI [V.int (m1 : Int), V.int (m2 : Int)] (e9 : Int) = some (.int (many : Int)) ∧ many ≤ 30 := by
      match e9, he9 with
      | 0, _ => exact ⟨m1, rfl, by omega⟩
      | 1, _ => exact ⟨m2, rfl, by omega⟩
    refine ⟨L, _, _, _, rfl, rfl, SqL.of (s9.lst nL fL), hmany, ?_⟩
    clear hL fL nL s7 s8 hm1 hm2 he9 u8 k8
    have hsd9 : ∀ {H' : Hp}, PSame p H6 H' → H' sd = some (.lst su) := fun s => s.lst nsd hsd
    have hss9 : ∀ {H' : Hp}, PSame p H6 H' → BlssAt H' su (boolRows N (sideB al ps)) := fun s => BlsN.ats (BlsN.ps hss s)
    have hjn : ∀ {H' : Hp}, PSame p H6 H' → JoinsAt C H' y al ps := fun s => hj6.pool s h1
    -- after
    refine ⟨_, rfl, sd, su, N, 30, sideB al ps, rfl, hsd9 k9, hss9 k9, by omega, by decide, fun H10 af wl s10 hafn haf haw => ?_⟩
    have naf : af ≠ p := k9.at1.free hafn
    have haw := LstF.pool haw k9.at1
    have k10 := k9.then s10
    refine ⟨_, rfl, _, _, rfl, rfl, _, rfl, ?_⟩
    have hcount : 0 < w0 N (sideB al ps) many := by rw [hN]; exact w0_pos hnd hprop h1 many
    have hcle : w0 N (sideB al ps) many ≤ 10 ^ 50 := by
      have := w0_le (N := N) (S := sideB al ps) many
      have h2 : N ^ many ≤ 34 ^ 30 := Nat.le_trans (Nat.pow_le_pow_left (by omega) many) (Nat.pow_le_pow_right (by decide) hm30)
      exact Nat.le_trans this (Nat.le_trans h2 (by decide +kernel))
    generalize hM : tSeq (tAsg (tC (V.int 0)) (gName 9)) _ _ = M
    have key : M [some (.ref a), some (.ref p), some (.str (S al)), some (.ref r), some (.ref y), some (.ref sd), some (.int (many : Int)), some (.ref af), some (.int ((w0 N (sideB al ps) many : Nat) : Int)), none, none, none, none, none, none, none, none, none, none, none] H10 := by
      rw [← hM]
      refine ⟨_, rfl, by decide, by decide, for_it walk_range (fun i σ H' => ∃ (d : Nat) (v10 : Option V), σ = [some (.ref a), some (.ref p), some (.str (S al)), some (.ref r), some (.ref y), some (.ref sd), some (.int (many : Int)), some (.ref af), some (.int ((w0 N (sideB al ps) many : Nat) : Int)), some (.int (d : Int)), v10, none, none, none, none, none, none, none, none, none] ∧ PSame p H10 H')
        ⟨0, none, rfl, PSame.refl k10.at1⟩ (fun _ _ _ _ _ => trivial) ?_ ?_⟩
      · rintro i x σ Ha Hb hi ⟨d, v10, rfl, sa⟩ ⟨rfl, hx⟩
        refine ⟨_, rfl, _, _, rfl, rfl, .inr ⟨by decide, by decide⟩, _, rfl, p, 2520, rfl, sa.at1, by decide, fun Hc e sc he => ⟨_, _, rfl, rfl, d * 2520 + e, some x, ?_, sa.trans sc⟩⟩
        have e1 : ((d : Int) * 2520 + (e : Int)) = ((d * 2520 + e : Nat) : Int) := by omega
        show [some (V.ref a), some (V.ref p), some (V.str (S al)), some (V.ref r), some (V.ref y), some (V.ref sd), some (V.int (many : Int)), some (V.ref af), some (V.int ((w0 N (sideB al ps) many : Nat) : Int)), some (V.int ((d : Int) * 2520 + (e : Int))), some x, none, none, none, none, none, none, none, none, none] = _
        rw [e1]
      rintro σ H11 ⟨d, v10, rfl, s11⟩
      have k11 := k10.trans s11
      have hc0 : (0 : Int) < ((w0 N (sideB al ps) many : Nat) : Int) := by omega
      -- the four numbers
      refine ⟨_, rfl, _, _, rfl, rfl, _, rfl, .inl ⟨_, rfl, _, rfl, _, _, rfl, rfl, hc0, _, rfl, _, _, rfl, rfl, ⟨by decide, by decide⟩, .inl ⟨_, rfl, _, rfl, _, _, rfl, rfl, hc0, by show 4 ≤ sizeLine; omega, fun L2 hL2 => ?_⟩⟩⟩
      obtain ⟨xs, hxs⟩ : ∃ xs : List V, xs = [.int 0, .int (((w0 N (sideB al ps) many : Nat) : Int) - 1), .int ((d : Int) % ((w0 N (sideB al ps) many : Nat) : Int)), .int ((d : Int) / 2520 % ((w0 N (sideB al ps) many : Nat) : Int))] := ⟨_, rfl⟩
      have fL2 : (upd H11 L2 (.lst [.int 0, .int (((w0 N (sideB al ps) many : Nat) : Int) - 1), .int ((d : Int) % ((w0 N (sideB al ps) many : Nat) : Int)), .int ((d : Int) / 2520 % ((w0 N (sideB al ps) many : Nat) : Int))])) L2 = some (.lst xs) := by rw [upd_same, hxs]
      have u11 := k11.new (o := .lst [.int 0, .int (((w0 N (sideB al ps) many : Nat) : Int) - 1), .int ((d : Int) % ((w0 N (sideB al ps) many : Nat) : Int)), .int ((d : Int) / 2520 % ((w0 N (sideB al ps) many : Nat) : Int))]) hL2
      have v11 := (PSame.refl k11.at1).new (o := .lst [.int 0, .int (((w0 N (sideB al ps) many : Nat) : Int) - 1), .int ((d : Int) % ((w0 N (sideB al ps) many : Nat) : Int)), .int ((d : Int) / 2520 % ((w0 N (sideB al ps) many : Nat) : Int))]) hL2
      have nL2 : L2 ≠ p := k11.at1.free hL2
      have haf11 := v11.lst naf (s11.lst naf haf)
      have haw11 := LstN.ps (LstN.ps haw s11) v11
      generalize upd H11 L2 (.lst [.int 0, .int (((w0 N (sideB al ps) many : Nat) : Int) - 1), .int ((d : Int) % ((w0 N (sideB al ps) many : Nat) : Int)), .int ((d : Int) / 2520 % ((w0 N (sideB al ps) many : Nat) : Int))]) = G2 at u11 v11 fL2 haf11 haw11 ⊢
      have hx4 : ∀ x ∈ xs, ∃ n : Nat, x = .int (n : Int) ∧ n < w0 N (sideB al ps) many := fun x hx => by
        have hmod : ∀ z : Int, ∃ n : Nat, z % ((w0 N (sideB al ps) many : Nat) : Int) = (n : Int) ∧ n < w0 N (sideB al ps) many := fun z => by
          obtain ⟨n, e, h⟩ := emod_nat z _ hc0
          exact ⟨n, e, by omega⟩
        rw [hxs] at hx
        simp only [List.mem_cons, List.not_mem_nil, or_false] at hx
        rcases hx with rfl | rfl | rfl | rfl
        · exact ⟨0, rfl, hcount⟩
        · exact ⟨w0 N (sideB al ps) many - 1, congrArg V.int (by omega), by omega⟩
        · obtain ⟨n, e, h⟩ := hmod (d : Int); exact ⟨n, congrArg V.int e, h⟩
        · obtain ⟨n, e, h⟩ := hmod ((d : Int) / 2520); exact ⟨n, congrArg V.int e, h⟩
      clear hxs
      have haf2 : ∀ {H' : Hp}, PSame p G2 H' → H' af = some (.lst wl) := fun s => s.lst naf haf11
      have haw2 : ∀ {H' : Hp}, PSame p G2 H' → LstsAt H' wl ((List.range 31).map (rowW N (sideB al ps))) := fun s => LstN.ats (LstN.ps haw11 s)
      refine ⟨L2, rfl, ⟨_, SqL.of fL2⟩, for_it walk_list (fun i σ H' => ∃ (v11 v12 : Option V), σ = [some (.ref a), some (.ref p), some (.str (S al)), some (.ref r), some (.ref y), some (.ref sd), some (.int (many : Int)), some (.ref af), some (.int ((w0 N (sideB al ps) many : Nat) : Int)), some (.int (d : Int)), v10, v11, v12, none, none, none, none, none, none, none] ∧ PSame p G2 H')
        ⟨none, none, rfl, PSame.refl u11.at1⟩ (fun _ _ _ _ ⟨_, _, _, s⟩ => SqL.of (s.lst nL2 fL2)) ?_ ?_⟩
      · rintro i x σ Ha Hb hi ⟨v11, v12, rfl, sa⟩ ⟨rfl, hx⟩
        obtain ⟨n, rfl, hn⟩ := hx4 x (List.mem_of_getElem? hx)
        have ka := u11.trans sa
        refine ⟨_, rfl, _, rfl, _, rfl, y, many, n, al, ps, rfl, hjn ka, hprop, hnd, h1, by omega, by omega, by omega, by rw [← hN]; exact hn, fun Hc rq row sc hrq hrm hok2 hbel => ?_⟩
        rw [← hN] at hok2 hbel
        have sb := sa.then sc
        have kb := u11.trans sb
        refine ⟨_, rfl, _, rfl, _, rfl, sd, rq, su, N, many, sideB al ps, row, rfl, hsd9 kb, hss9 kb, hrq, hrm, hok2, by omega, by omega, fun Hd sd2 => ⟨true, rfl, iteF ?_⟩⟩
        have sd3 := sb.then sd2
        have kd := u11.trans sd3
        have hrq2 := sd2 _ _ hrq
        have hcr := okCh_cut hnd hprop (row := row) (by rw [← hN]; exact hok2)
        refine ⟨_, rfl, _, rfl, _, rfl, sd, af, rq, false, su, wl, N, 30, sideB al ps, row, rfl, hsd9 kd, hss9 kd, haf2 sd3, haw2 sd3, hrq2, fun x hx => by rw [hN]; exact hcr.1 x hx, by omega, by omega, by decide, fun He se => ?_⟩
        have se2 := sd3.then se
        have hrq3 := se _ _ hrq2
        refine ⟨_, rfl, rfl, _, rfl, ?_⟩
        rw [hrm, hbel, decide_eq_true rfl]
        refine iteF ⟨_, rfl, _, rfl, _, rfl, p, rq, false, _, rfl, se2.at1, hrq3, ?_, fun Hf z b' sf nz hz => ?_⟩
        · obtain ⟨ns, e1, _⟩ := se2.at1
          exact ne_of hrq3 e1 (fun z => by cases z)
        have sf2 := se2.trans sf
        have kf := u11.trans sf2
        refine ⟨y, z, b', row, al, ps, rfl, hjn kf, hprop, hnd, h1, by omega, by omega, hz, by omega, hcr, fun Hg sg => ⟨_, rfl, _, _, rfl, ?_, fun Hh sh => ⟨true, rfl, iteF ⟨_, _, rfl, (sf2.then sg).then sh⟩⟩⟩⟩
        rw [← hN, show belU N (sideB al ps) row row.length = n by rw [hrm]; exact hbel]
        exact SameD.flat rfl 1
      rintro σ H12 ⟨v11', v12', rfl, s12⟩
      have k12 := u11.trans s12
      clear hx4 fL2 nL2
      have hrG : ∀ {H' : Hp}, PSame p G2 H' → H' r = some (.tup [.ref pp, .ref tx]) := fun s => (u11.trans s).tup hr6
      have hppG : ∀ {H' : Hp}, PSame p G2 H' → H' pp = some (.lst us) := fun s => (u11.trans s).lst hppp hpp6
      have hpsG : ∀ {H' : Hp}, PSame p G2 H' → PairsAt H' us ps := fun s => hps6.same (u11.trans s).tt
      have htxG : ∀ {H' : Hp}, PSame p G2 H' → H' tx = some (.lst (strV (textsOf al ps))) := fun s => (u11.trans s).lst htxp htx6
      refine ⟨_, rfl, _, rfl, _, rfl, r, _, _, _, rfl, rfl, SqT.of (hrG s12), rfl, p, tx, al, ps, 30, rfl, s12.at1, htxG s12, htxp, hprop, h1, by omega, by omega, by decide, fun H13 t sx htm htl => ?_⟩
      have s13 := s12.trans sx
      refine ⟨_, rfl, r, _, _, _, rfl, rfl, SqT.of (hrG s13), rfl, _, rfl, _, rfl, pp, us, ps, al, t, rfl, hppG s13, hpsG s13, hw, by omega, by omega, htm, by omega, fun H14 zl sx2 hzn hzl => ?_⟩
      have s14 := s13.then sx2
      have nzl : zl ≠ p := s13.at1.free hzn
      have hcr : CutRow al ps (CT al ps t) := ⟨cut_lt htm, by rw [text_cut hw htm]⟩
      have hrl : (CT al ps t).length ≤ 30 := by
        have h2 := cutL_len al.length ps (lets al t)
        have h3 : (lets al t).length = t.length := by rw [lets, List.length_map]
        show (cutL al.length ps (lets al t)).length ≤ 30
        omega
      replace hzl : H14 zl = some (.lst (iv (CT al ps t))) := hzl
      generalize CT al ps t = row at hzl hcr hrl
      have hinN : ∀ x ∈ row, x < N := fun x hx => by rw [hN]; exact hcr.1 x hx
      refine ⟨_, rfl, _, rfl, p, zl, true, _, rfl, s14.at1, hzl, nzl, fun H15 z bz sx3 nz hz => ?_⟩
      have s15 := s14.trans sx3
      have hzl15 := sx3.lst nzl hzl
      refine ⟨_, rfl, _, rfl, y, z, bz, row, al, ps, rfl, hjn (u11.trans s15), hprop, hnd, h1, by omega, by omega, hz, by omega, hcr, fun H16 sx4 => ?_⟩
      have s16 := s15.then sx4
      have hzl16 := sx4 _ _ hzl15
      refine ⟨_, rfl, _, rfl, _, rfl, sd, af, zl, true, su, wl, N, 30, sideB al ps, row, rfl, hsd9 (u11.trans s16), hss9 (u11.trans s16), haf2 s16, haw2 s16, hzl16, hinN, by omega, by omega, by decide, fun H17 sx5 => ?_⟩
      have s17 := s16.then sx5
      rw [← hN]
      refine ⟨_, _, rfl, SameD.flat rfl 1, fun H18 sx6 => ⟨true, rfl, iteF ?_⟩⟩
      have s18 := s17.then sx6
      have s1518 := (sx4.trans sx5).trans sx6
      have hz18 : SeqAt bz H18 z (iv row) := hz.same s1518
      have hzl18 := s1518 _ _ hzl15
      refine ⟨_, rfl, kTup_seq hz18 fun H19 t1 sx7 ht1 => ⟨_, rfl, kTup_seq (b := true) (sx7 _ _ hzl18) fun H20 t2 sx8 ht2 => ?_⟩⟩
      refine ⟨_, _, rfl, SameD.row (sx8 _ _ ht1) ht2 (by omega), fun H21 sx9 => ⟨true, rfl, iteF ?_⟩⟩
      have s1821 := (sx7.trans sx8).trans sx9
      have s21 := s18.then s1821
      have hzl21 := s1821 _ _ hzl18
      -- a wrong number
      refine ⟨_, rfl, _, rfl, _, rfl, _, rfl, _, _, rfl, rfl, p, w0 N (sideB al ps) many - 1, by show [V.ref p, V.int (((w0 N (sideB al ps) many : Nat) : Int) - 1)] = _; rw [show (((w0 N (sideB al ps) many : Nat) : Int) - 1) = ((w0 N (sideB al ps) many - 1 : Nat) : Int) by omega], s21.at1, by omega, fun H22 x sx10 hrep hxp hnb => ?_⟩
      have s22 := s21.trans sx10
      have hzl22 := sx10.lst nzl hzl21
      refine ⟨y, many, x, al, ps, rfl, hjn (u11.trans s22), hprop, hnd, h1, by omega, by omega, by omega, hrep, ?_, fun H23 sx11 => ⟨true, rfl, iteF ?_⟩⟩
      · rw [← hN, show ((w0 N (sideB al ps) many : Nat) : Int) = ((w0 N (sideB al ps) many - 1 : Nat) : Int) + 1 by omega]; exact hnb
      have s23 := s22.then sx11
      have hzl23 := sx11 _ _ hzl22
      -- the place
      have hsl : su.length = N := by rw [hss.length, boolRows, List.length_map, List.length_range]
      refine ⟨_, rfl, _, rfl, zl, _, rfl, .inl (SqL.of hzl23), _, _, rfl, rfl, p, row.length + 1, by rw [iv_len]; rfl, s23.at1, by omega, fun H24 at_ sx12 hat => ?_⟩
      have s24 := s23.trans sx12
      have hzl24 := sx12.lst nzl hzl23
      -- the wrong rows
      have sS : ∀ {H' : Hp}, PSame p G2 H' → SqL K H' sd su ∨ SqT K H' sd su := fun s => .inl (SqL.of (hsd9 (u11.trans s)))
      refine ⟨_, rfl, sd, _, rfl, sS s24, ?_⟩
      rw [hsl]
      refine ⟨by show 1 ≤ sizeLine; omega, fun L1 hL1 => ?_⟩
      have t1 := s24.new (o := .lst [.int (N : Int)]) hL1
      have y1 := same_new (o := .lst [.int (N : Int)]) hL1
      have f1 : (upd H24 L1 (.lst [.int (N : Int)])) L1 = some (.lst ([(N : Int)].map V.int)) := upd_same
      have m1 : L1 ≠ p := s24.at1.free hL1
      generalize upd H24 L1 (.lst [.int (N : Int)]) = G3 at t1 y1 f1 ⊢
      refine ⟨_, rfl, by show 1 ≤ sizeLine; omega, fun L3 hL3 => ?_⟩
      have t2 := t1.new (o := .lst [.int (-1)]) hL3
      have y2 := same_new (o := .lst [.int (-1)]) hL3
      have f2 : (upd G3 L3 (.lst [.int (-1)])) L3 = some (.lst ([(-1 : Int)].map V.int)) := upd_same
      have m2 : L3 ≠ p := t1.at1.free hL3
      generalize upd G3 L3 (.lst [.int (-1)]) = G4 at t2 y2 f2 ⊢
      refine ⟨_, rfl, sd, _, rfl, sS t2, ?_⟩
      rw [hsl]
      refine ⟨_, rfl, p, 900, rfl, t2.at1, by decide, fun G5 n s3 hn => ⟨_, _, rfl, rfl, by show 1 ≤ sizeLine; omega, fun L4 hL4 => ?_⟩⟩
      have t3 := t2.trans s3
      have t4 := t3.new (o := .lst [.int ((N : Int) + (n : Int))]) hL4
      have y4 := same_new (o := .lst [.int ((N : Int) + (n : Int))]) hL4
      have f3 : (upd G5 L4 (.lst [.int ((N : Int) + (n : Int))])) L4 = some (.lst ([((N : Int) + (n : Int))].map V.int)) := upd_same
      have m3 : L4 ≠ p := t3.at1.free hL4
      generalize upd G5 L4 (.lst [.int ((N : Int) + (n : Int))]) = G6 at t4 y4 f3 ⊢
      refine ⟨_, rfl, by show 2 ≤ sizeLine; omega, fun L5 hL5 => ?_⟩
      have t5 := t4.new (o := .lst [.int 0, .int (-2)]) hL5
      have y5 := same_new (o := .lst [.int 0, .int (-2)]) hL5
      have f4 : (upd G6 L5 (.lst [.int 0, .int (-2)])) L5 = some (.lst ([(0 : Int), -2].map V.int)) := upd_same
      have m4 : L5 ≠ p := t4.at1.free hL5
      generalize upd G6 L5 (.lst [.int 0, .int (-2)]) = G7 at t5 y5 f4 ⊢
      refine ⟨by show 4 ≤ sizeLine; omega, fun L6 hL6 => ?_⟩
      have t6 := t5.new (o := .lst [.ref L1, .ref L3, .ref L4, .ref L5]) hL6
      have y6 := same_new (o := .lst [.ref L1, .ref L3, .ref L4, .ref L5]) hL6
      have fL : (upd G7 L6 (.lst [.ref L1, .ref L3, .ref L4, .ref L5])) L6 = some (.lst [.ref L1, .ref L3, .ref L4, .ref L5]) := upd_same
      have mL : L6 ≠ p := t5.at1.free hL6
      generalize upd G7 L6 (.lst [.ref L1, .ref L3, .ref L4, .ref L5]) = G8 at t6 y6 fL ⊢
      refine ⟨_, rfl, p, 4, rfl, t6.at1, by decide, fun G9 e s7 he => ?_⟩
      have t7 := t6.trans s7
      have g1 : G9 L1 = some (.lst ([(N : Int)].map V.int)) := s7.x _ _ m1 (y6 _ _ (y5 _ _ (y4 _ _ (s3.x _ _ m1 (y2 _ _ f1)))))
      have g2 : G9 L3 = some (.lst ([(-1 : Int)].map V.int)) := s7.x _ _ m2 (y6 _ _ (y5 _ _ (y4 _ _ (s3.x _ _ m2 f2))))
      have g3 : G9 L4 = some (.lst ([((N : Int) + (n : Int))].map V.int)) := s7.x _ _ m3 (y6 _ _ (y5 _ _ f3))
      have g4 : G9 L5 = some (.lst ([(0 : Int), -2].map V.int)) := s7.x _ _ m4 (y6 _ _ f4)
      obtain ⟨W, ws, hW, hWat, nWp, hbad, hodd, hwl⟩ : ∃ (W : Addr) (ws : List Int), atI [V.ref L1, V.ref L3, V.ref L4, V.ref L5] (e : Int) = some (V.ref W) ∧ G9 W = some (.lst (ws.map V.int)) ∧ W ≠ p ∧ BadW al ps ws ∧ OddInts ws ∧ ws.length ≤ 2 := by
        match e, he with
        | 0, _ => exact ⟨L1, _, rfl, g1, m1, bad_out (z := (N : Int)) (by simp) (.inr (by omega)), fun i hi => by simp at hi; omega, by simp⟩
        | 1, _ => exact ⟨L3, _, rfl, g2, m2, bad_out (z := -1) (by simp) (.inl (by omega)), fun i hi => by simp at hi; omega, by simp⟩
        | 2, _ => exact ⟨L4, _, rfl, g3, m3, bad_out (z := ((N : Int) + (n : Int))) (by simp) (.inr (by omega)), fun i hi => by simp at hi; omega, by simp⟩
        | 3, _ => exact ⟨L5, _, rfl, g4, m4, bad_out (z := -2) (by simp) (.inl (by omega)), fun i hi => by simp at hi; omega, by simp⟩
      refine ⟨L6, _, _, _, rfl, rfl, SqL.of (s7.x _ _ mL fL), hW, ?_⟩
      have hzl9 : G9 zl = some (.lst (iv row)) := s7.lst nzl (y6 _ _ (y5 _ _ (y4 _ _ (s3.lst nzl (y2 _ _ (y1 _ _ hzl24))))))
      clear g1 g2 g3 g4 fL y6 y5 y4 y2 y1 f1 f2 f3 f4
      -- pairs that are not side by side
      refine ⟨Nat.zero_le _, fun A hA => ?_⟩
      have t8 := t7.new (o := .lst []) hA
      have z8 := (PSame.refl t7.at1).new (o := .lst []) hA
      have fA : (upd G9 A (.lst [])) A = some (.lst []) := upd_same
      have nA : A ≠ p := t7.at1.free hA
      have hW8 := z8.lst nWp hWat
      have hzl8 := z8.lst nzl hzl9
      generalize upd G9 A (.lst []) = G10 at t8 z8 fA hW8 hzl8 ⊢
      refine ⟨_, rfl, sd, _, rfl, sS t8, _, rfl, by rw [hsl]; omega, by rw [hsl]; omega, for_it walk_range (fun i σ H' => ∃ (A : Addr) (vs : List V) (v18 : Option V), σ = [some (.ref a), some (.ref p), some (.str (S al)), some (.ref r), some (.ref y), some (.ref sd), some (.int (many : Int)), some (.ref af), some (.int ((w0 N (sideB al ps) many : Nat) : Int)), some (.int (d : Int)), v10, v11', some (.ref zl), some (.str (S t)), some (.ref z), some (.int (at_ : Int)), some (.ref W), some (.ref A), v18, none] ∧ PSame p G10 H' ∧ H' A = some (.lst vs) ∧ A ≠ p ∧ vs.length ≤ N * i ∧
          ∀ v ∈ vs, ∃ (q : Addr) (c e : Nat), v = .ref q ∧ q ≠ p ∧ H' q = some (.lst (iv [c, e])) ∧ c < N ∧ e < N ∧ sideB al ps c e = false)
        ⟨A, [], none, rfl, PSame.refl t8.at1, fA, nA, Nat.zero_le _, fun v hv => nomatch hv⟩ (fun _ _ _ _ _ => trivial) ?_ ?_⟩
      · rintro i x σ Ha Hb hi ⟨A, vs, v18, rfl, sa, hAb, nA, hvl, hvs⟩ ⟨rfl, hx⟩
        obtain rfl : x = V.int (i : Int) := hx.trans (congrArg V.int (Int.zero_add _))
        have hiN : i < N := by rw [hsl, Int.toNat_natCast] at hi; exact hi
        have ta := t8.trans sa
        obtain ⟨sq, hs1, hs2⟩ := sides_at (hss9 (u11.trans ta)) hiN
        have nsq : sq ≠ p := by
          obtain ⟨v, h2, q0, e, n0, h3⟩ := Paired.at2 (BlsN.ps hss (u11.trans ta)) (show (boolRows N (sideB al ps))[i]? = some _ by rw [boolRows, List.getElem?_map, List.getElem?_range hiN]; rfl)
          rw [hs1] at h2
          cases h2
          cases e
          exact n0
        refine ⟨_, rfl, _, rfl, sd, _, rfl, sS ta, _, rfl, by rw [hsl]; omega, by rw [hsl]; omega, fun D hD => lc_it walk_range (fun k H' => PSame p Hb H' ∧ ∃ ws : List V, H' D = some (.lst ws) ∧ ws.length ≤ k ∧ ∀ v ∈ ws, ∃ (q : Addr) (c e : Nat), v = .ref q ∧ q ≠ p ∧ q ≠ D ∧ H' q = some (.lst (iv [c, e])) ∧ c < N ∧ e < N ∧ sideB al ps c e = false) ⟨(PSame.refl sa.at1).new hD, [], upd_same, Nat.le_refl _, fun v hv => nomatch hv⟩ (fun _ _ _ _ => trivial) ?_ ?_⟩
        · rintro k x Hc Hd hk ⟨sc, ws2, hDc, hwl2, hws2⟩ ⟨rfl, hx2⟩
          obtain rfl : x = V.int (k : Int) := hx2.trans (congrArg V.int (Int.zero_add _))
          have hkN : k < N := by rw [hsl, Int.toNat_natCast] at hk; exact hk
          have tc := ta.trans sc
          refine ⟨rfl, _, rfl, _, rfl, sd, _, _, _, rfl, rfl, SqL.of (hsd9 (u11.trans tc)), atI_nat hs1, _, rfl, sq, _, _, _, rfl, rfl, SqL.of (sc.x _ _ nsq hs2), atI_nat (side_val hkN), sideB al ps i k, rfl, ?_⟩
          cases hb : sideB al ps i k with
          | true => exact iteF ⟨sc, ws2, hDc, by omega, hws2⟩
          | false =>
            refine iteT ⟨_, rfl, _, rfl, by show 2 ≤ sizeLine; omega, fun E1 hE1 => ?_⟩
            have hDE := (same_new (o := .lst (iv [i, k])) hE1) _ _ hDc
            have nED : E1 ≠ D := Ne.symm (ne_of_none hDc hE1)
            have nEp : E1 ≠ p := sc.at1.free hE1
            refine ⟨ws2, hDE, by omega, (sc.new hE1).put hD, ws2 ++ [.ref E1], upd_same, by rw [List.length_append, List.length_singleton]; omega, fun v hv => ?_⟩
            rcases List.mem_append.mp hv with hv | hv
            · obtain ⟨q0, c, e2, rfl, n1, n2, hq, h3⟩ := hws2 v hv
              exact ⟨q0, c, e2, rfl, n1, n2, (upd_ne n2).trans ((same_new (o := .lst (iv [i, k])) hE1) _ _ hq), h3⟩
            · rw [List.mem_singleton.mp hv]
              exact ⟨E1, i, k, rfl, nEp, nED, (upd_ne nED).trans upd_same, hiN, hkN, hb⟩
        · rintro He ⟨sc, ws2, hDe, hwl2, hws2⟩
          rw [hsl, Int.toNat_natCast] at hwl2
          have hmul : N * (i + 1) = N * i + N := Nat.mul_succ N i
          have hNi : N * i ≤ 34 * 34 := Nat.mul_le_mul (by omega) (by omega)
          refine ⟨A, D, _, _, rfl, rfl, sc.lst nA hAb, hDe, by omega, fun z2 hz2 => ⟨z2, vs ++ ws2, _, rfl, (sa.trans sc).new hz2, upd_same, sc.at1.free hz2, by rw [List.length_append, hmul]; omega, fun v hv => ?_⟩⟩
          have sz := same_new (o := .lst (vs ++ ws2)) hz2
          rcases List.mem_append.mp hv with hv | hv
          · obtain ⟨q0, c, e2, rfl, n1, hq, h3⟩ := hvs v hv
            exact ⟨q0, c, e2, rfl, n1, sz _ _ (sc.lst n1 hq), h3⟩
          · obtain ⟨q0, c, e2, rfl, n1, n2, hq, h3⟩ := hws2 v hv
            exact ⟨q0, c, e2, rfl, n1, sz _ _ hq, h3⟩
      · rintro σ Hk ⟨A, vs, v18, rfl, sa, hAb, nA, hvl, hvs⟩
        generalize hT : tRet _ = T1
        have fin : ∀ (Hk : Hp) (W : Addr) (ws : List Int), PSame p G10 Hk → Hk W = some (.lst (ws.map V.int)) → W ≠ p → BadW al ps ws → OddInts ws → ws.length ≤ 2 → T1 { nx := fun x H' => Q V.non H', rt := Q } [some (.ref a), some (.ref p), some (.str (S al)), some (.ref r), some (.ref y), some (.ref sd), some (.int (many : Int)), some (.ref af), some (.int ((w0 N (sideB al ps) many : Nat) : Int)), some (.int (d : Int)), v10, v11', some (.ref zl), some (.str (S t)), some (.ref z), some (.int (at_ : Int)), some (.ref W), some (.ref A), v18, none] Hk := by
          subst hT
          intro Hk W ws sk hWk nW hb ho hl
          have hzk := sk.lst nzl hzl8
          refine ⟨_, rfl, _, rfl, _, rfl, _, rfl, _, rfl, zl, _, rfl, SqL.of hzk, fun l1 hl1 => ?_⟩
          rw [cut_to]
          have w1 := sk.new (o := .lst (iv (row.take at_))) hl1
          have x1 := same_new (o := .lst (iv (row.take at_))) hl1
          have fl1 : (upd Hk l1 (.lst (iv (row.take at_)))) l1 = some (.lst (iv (row.take at_))) := upd_same
          generalize upd Hk l1 (.lst (iv (row.take at_))) = K2 at w1 x1 fl1 ⊢
          have hl1' : (row.take at_).length ≤ 60 := by rw [List.length_take]; omega
          have hl3' : (row.drop at_).length ≤ 60 := by rw [List.length_drop]; omega
          refine ⟨_, rfl, l1, W, _, _, rfl, rfl, fl1, x1 _ _ hWk, by rw [iv_len, List.length_map]; omega, fun l2 hl2 => ?_⟩
          have w2 := w1.new (o := .lst (iv (row.take at_) ++ ws.map V.int)) hl2
          have fl2 : (upd K2 l2 (.lst (iv (row.take at_) ++ ws.map V.int))) l2 = some (.lst (iv (row.take at_) ++ ws.map V.int)) := upd_same
          generalize upd K2 l2 (.lst (iv (row.take at_) ++ ws.map V.int)) = K3 at w2 fl2 ⊢
          refine ⟨_, rfl, _, rfl, _, rfl, zl, _, rfl, SqL.of (w2.lst nzl hzl8), fun l3 hl3 => ?_⟩
          rw [cut_on]
          have w3 := w2.new (o := .lst (iv (row.drop at_))) hl3
          have x3 := same_new (o := .lst (iv (row.drop at_))) hl3
          have fl3 : (upd K3 l3 (.lst (iv (row.drop at_)))) l3 = some (.lst (iv (row.drop at_))) := upd_same
          generalize upd K3 l3 (.lst (iv (row.drop at_))) = K4 at w3 x3 fl3 ⊢
          refine ⟨l2, l3, _, _, rfl, rfl, x3 _ _ fl2, fl3, by rw [List.length_append, iv_len, iv_len, List.length_map]; omega, fun l4 hl4 => ?_⟩
          have w4 := w3.new (o := .lst (iv (row.take at_) ++ ws.map V.int ++ iv (row.drop at_))) hl4
          have n4 : l4 ≠ p := w3.at1.free hl4
          have fl4 : (upd K4 l4 (.lst (iv (row.take at_) ++ ws.map V.int ++ iv (row.drop at_)))) l4 = some (.lst ((castZ (row.take at_) ++ ws ++ castZ (row.drop at_)).map V.int)) := by rw [upd_same, List.map_append, List.map_append, castZ_iv, castZ_iv]
          generalize upd K4 l4 (.lst (iv (row.take at_) ++ ws.map V.int ++ iv (row.drop at_))) = K5 at w4 fl4 ⊢
          refine ⟨p, l4, true, _, rfl, w4.at1, fl4, n4, fun K6 za ba sx13 nza hza => ?_⟩
          have w6 := w4.trans sx13
          refine ⟨y, za, ba, _, al, ps, rfl, hjn (u11.trans (t8.trans w6)), hprop, hnd, by omega, by omega, hza, ?_, fun i hi => ?_, hb _ _, fun K7 _ => q K7⟩
          · rw [List.length_append, List.length_append, castZ, castZ, List.length_map, List.length_map]; omega
          have hzz : ∀ (u : List Nat), (∀ x ∈ u, x ∈ row) → i ∈ castZ u → -2 ≤ i ∧ i ≤ 2000 := fun u hu hi => by
            obtain ⟨x, hx, rfl⟩ := List.mem_map.mp hi
            have := hinN x (hu x hx)
            omega
          rcases List.mem_append.mp hi with hi | hi
          · rcases List.mem_append.mp hi with hi | hi
            · exact hzz _ (fun x hx => List.mem_of_mem_take hx) hi
            · exact ho i hi
          · exact hzz _ (fun x hx => List.mem_of_mem_drop hx) hi
        have hWk := sa.lst nWp hW8
        refine ⟨_, rfl, A, _, rfl, .inl (SqL.of hAb), _, _, rfl, rfl, _, rfl, ?_⟩
        by_cases c0 : 0 < vs.length
        · rw [decide_eq_true (by omega : (0 : Int) < (vs.length : Int))]
          refine iteT ⟨_, rfl, p, 4, rfl, sa.at1, by decide, fun K1 e8 sx14 he8 => ⟨_, _, rfl, rfl, _, rfl, ?_⟩⟩
          have sk1 := sa.trans sx14
          obtain ⟨k8, hk8⟩ : ∃ k : Bool, k = decide ((0 : Int) < (e8 : Int)) := ⟨_, rfl⟩
          rw [← hk8]
          cases k8 with
          | false => exact iteF (fin _ _ _ sk1 (sx14.lst nWp hWk) nWp hbad hodd hwl)
          | true =>
            refine iteT ⟨_, rfl, _, rfl, _, rfl, A, _, rfl, .inl (SqL.of (sx14.lst nA hAb)), p, _, rfl, sk1.at1, by omega, fun K2 e9 sx15 he9 => ?_⟩
            have he9' : e9 < vs.length := by omega
            obtain ⟨q0, c, e2, hv, n1, hq, hcN, heN, hsb⟩ := hvs _ (List.getElem_mem he9')
            refine ⟨A, _, _, _, rfl, rfl, SqL.of (sx15.lst nA (sx14.lst nA hAb)), atI_nat ((List.getElem?_eq_getElem he9').trans (congrArg some hv)), ?_⟩
            refine fin _ q0 [(c : Int), (e2 : Int)] (sk1.trans sx15) (sx15.lst n1 (sx14.lst n1 hq)) n1 (bad_pair hnd hprop (by rw [← hN]; exact hcN) (by rw [← hN]; exact heN) (of_decide_eq_false hsb)) (fun i hi => ?_) (by simp)
            simp only [List.mem_cons, List.not_mem_nil, or_false] at hi
            rcases hi with rfl | rfl <;> omega
        · rw [decide_eq_false (by omega : ¬ (0 : Int) < (vs.length : Int))]
          exact iteF (iteF (fin _ _ _ sa hWk nWp hbad hodd hwl))
    by_cases h0 : many = 0
    · subst h0
      exact iteF key
    · rw [decide_eq_true (by omega : (0 : Int) < (many : Int))]
      obtain ⟨wq, hw1, hw2⟩ := rows_at (LstN.ats haw) (k := many - 1) (by omega)
      have e1 : ((many : Int) - 1) = ((many - 1 : Nat) : Int) := by omega
      have hv : (iv (rowW N (sideB al ps) (many - 1))) = ((List.range N).map fun x => (wk N (sideB al ps) (many - 1) x : Int)).map V.int := by unfold iv rowW; rw [List.map_map, List.map_map]; rfl
      rw [hv] at hw2
      refine iteT ⟨_, rfl, _, rfl, _, _, rfl, rfl, af, _, _, _, rfl, rfl, SqL.of haf, (by rw [e1]; exact atI_nat hw1), wq, _, rfl, SqL.of hw2, ?_⟩
      rw [sum_cast]
      have e2 := rowW_sum (N := N) (S := sideB al ps) (m := many) (by omega)
      rw [show ((List.range N).map (wk N (sideB al ps) (many - 1))).sum = w0 N (sideB al ps) many from e2]
      exact key
end
end RJ
end

section
set_option maxRecDepth 100000
set_option maxHeartbeats 4000000
namespace RJ
open PySem PySem.Spec PyProof.Rows L2
theorem all_mk {l : PySem.W.OpenLaw} {w : World} {K : PySem.W.Frag} {h : Heap} {mg : Str → Option Value} {fa C f0 f1 f2 f3 f4 f5 f6 f7 f8 f9 f10 f11 f12 f13 f14 f15 f16 f17 f18 f19 f20 f21 f22 f23 f24 f25 f26 f27 f28 f29 f30 f31 f32 f33 f34 f35 f36 f37 f38 f39 f40 f41 f42 f43 f44 f45 f46 f47 f48 f49 f50 f51 f52 : Addr} (X : K.In h) (G : h.Ns mainGlobals mg) (hfa : mg "law" = some (.ref fa))
    {od0 an0 od1 an1 od2 an2 od3 an3 od4 an4 od5 an5 od6 an6 od7 an7 od8 an8 od9 an9 od10 an10 od11 an11 od12 an12 od13 an13 od14 an14 od15 an15 od16 an16 od17 an17 od18 an18 od19 an19 od20 an20 od21 an21 od22 an22 od23 an23 od24 an24 od25 an25 od26 an26 od27 an27 od28 an28 od29 an29 od30 an30 od31 an31 od32 an32 od33 an33 od34 an34 od35 an35 od36 an36 od37 an37 od38 an38 od39 an39 od40 an40 od41 an41 od42 an42 od43 an43 od44 an44 od45 an45 od46 an46 od47 an47 od48 an48 od49 an49 od50 an50 od51 an51 od52 an52 : Option Addr} {sl0 sl1 sl2 sl3 sl4 sl5 sl6 sl7 sl8 sl9 sl10 sl11 sl12 sl13 sl14 sl15 sl16 sl17 sl18 sl19 sl20 sl21 sl22 sl23 sl24 sl25 sl26 sl27 sl28 sl29 sl30 sl31 sl32 sl33 sl34 sl35 sl36 sl37 sl38 sl39 sl40 sl41 sl42 sl43 sl44 sl45 sl46 sl47 sl48 sl49 sl50 sl51 sl52 : Array (Option Value)} {oc0 kV0 dc0 pm0 cd0 ct0 oc1 kV1 dc1 pm1 cd1 ct1 oc2 kV2 dc2 pm2 cd2 ct2 oc3 kV3 dc3 pm3 cd3 ct3 oc4 kV4 dc4 pm4 cd4 ct4 oc5 kV5 dc5 pm5 cd5 ct5 oc6 kV6 dc6 pm6 cd6 ct6 oc7 kV7 dc7 pm7 cd7 ct7 oc8 kV8 dc8 pm8 cd8 ct8 oc9 kV9 dc9 pm9 cd9 ct9 oc10 kV10 dc10 pm10 cd10 ct10 oc11 kV11 dc11 pm11 cd11 ct11 oc12 kV12 dc12 pm12 cd12 ct12 oc13 kV13 dc13 pm13 cd13 ct13 oc14 kV14 dc14 pm14 cd14 ct14 oc15 kV15 dc15 pm15 cd15 ct15 oc16 kV16 dc16 pm16 cd16 ct16 oc17 kV17 dc17 pm17 cd17 ct17 oc18 kV18 dc18 pm18 cd18 ct18 oc19 kV19 dc19 pm19 cd19 ct19 oc20 kV20 dc20 pm20 cd20 ct20 oc21 kV21 dc21 pm21 cd21 ct21 oc22 kV22 dc22 pm22 cd22 ct22 oc23 kV23 dc23 pm23 cd23 ct23 oc24 kV24 dc24 pm24 cd24 ct24 oc25 kV25 dc25 pm25 cd25 ct25 oc26 kV26 dc26 pm26 cd26 ct26 oc27 kV27 dc27 pm27 cd27 ct27 oc28 kV28 dc28 pm28 cd28 ct28 oc29 kV29 dc29 pm29 cd29 ct29 oc30 kV30 dc30 pm30 cd30 ct30 oc31 kV31 dc31 pm31 cd31 ct31 oc32 kV32 dc32 pm32 cd32 ct32 oc33 kV33 dc33 pm33 cd33 ct33 oc34 kV34 dc34 pm34 cd34 ct34 oc35 kV35 dc35 pm35 cd35 ct35 oc36 kV36 dc36 pm36 cd36 ct36 oc37 kV37 dc37 pm37 cd37 ct37 oc38 kV38 dc38 pm38 cd38 ct38 oc39 kV39 dc39 pm39 cd39 ct39 oc40 kV40 dc40 pm40 cd40 ct40 oc41 kV41 dc41 pm41 cd41 ct41 oc42 kV42 dc42 pm42 cd42 ct42 oc43 kV43 dc43 pm43 cd43 ct43 oc44 kV44 dc44 pm44 cd44 ct44 oc45 kV45 dc45 pm45 cd45 ct45 oc46 kV46 dc46 pm46 cd46 ct46 oc47 kV47 dc47 pm47 cd47 ct47 oc48 kV48 dc48 pm48 cd48 ct48 oc49 kV49 dc49 pm49 cd49 ct49 oc50 kV50 dc50 pm50 cd50 ct50 oc51 kV51 dc51 pm51 cd51 ct51 oc52 kV52 dc52 pm52 cd52 ct52 : Value} {tk0 tk1 : Tok} {pp12 : Addr} {rest12 : List Value} {CUnknownSign CInvalidNumber CNoPiece CNotCut CInvalidAlphabet CInvalidModel CInvalidText CNoChance CNotProper CJoinError FUnknownSign cdaUnknownSign ccUnknownSign NUnknownSign FInvalidNumber cdaInvalidNumber ccInvalidNumber NInvalidNumber FNotCut cdaNotCut ccNotCut NNotCut : Addr} {odUnknownSign anUnknownSign cddUnknownSign cldUnknownSign ddUnknownSign odInvalidNumber anInvalidNumber cddInvalidNumber cldInvalidNumber ddInvalidNumber odNotCut anNotCut cddNotCut cldNotCut ddNotCut : Option Addr} {slUnknownSign ccsUnknownSign cslUnknownSign slInvalidNumber ccsInvalidNumber cslInvalidNumber slNotCut ccsNotCut cslNotCut : Array (Option Value)} {vsUnknownSign vsInvalidNumber vsNotCut : Array Value} {ocUnknownSign kVUnknownSign dcUnknownSign pmUnknownSign ctUnknownSign cclUnknownSign clUnknownSign ocInvalidNumber kVInvalidNumber dcInvalidNumber pmInvalidNumber ctInvalidNumber cclInvalidNumber clInvalidNumber ocNotCut kVNotCut dcNotCut pmNotCut ctNotCut cclNotCut clNotCut : Value} {fileUnknownSign nmUnknownSign qUnknownSign fileInvalidNumber nmInvalidNumber qInvalidNumber fileNotCut nmNotCut qNotCut : Str} {tfUnknownSign tfInvalidNumber tfNotCut : Tok} {bsUnknownSign bmUnknownSign subUnknownSign bsInvalidNumber bmInvalidNumber subInvalidNumber bsNotCut bmNotCut subNotCut : List Value} {snUnknownSign snInvalidNumber snNotCut : List Str} {abUnknownSign abInvalidNumber abNotCut : Bool} {colUnknownSign colInvalidNumber colNotCut : Option Bool} {k0UnknownSign k1UnknownSign k2UnknownSign k3UnknownSign k5UnknownSign k0InvalidNumber k1InvalidNumber k2InvalidNumber k3InvalidNumber k5InvalidNumber k0NotCut k1NotCut k2NotCut k3NotCut k5NotCut : Option Value}
    (aC : PySem.W.nsIn K mainGlobals "Joins" = some (some (.ref C))) (a0 : PySem.W.nsIn K mainGlobals "is_integer" = some (some (.ref f0))) (l0 : K.lookup f0 = some ⟨oc0, od0, .func (PySem.W.fnOf "is_integer" "is_integer" (C8.fnArgs s_is_integer) (C8.fnBody s_is_integer) (C8.fnScope s_is_integer) .none kV0 dc0 pm0 an0 cd0 ct0), sl0⟩) (c0 : PySem.W.codeIn K cd0 "is_integer" = true)
    (k0 : PySem.W.keepIn K (.ref f0) = true) (a1 : PySem.W.nsIn K mainGlobals "is_number_below" = some (some (.ref f1))) (l1 : K.lookup f1 = some ⟨oc1, od1, .func (PySem.W.fnOf "is_number_below" "is_number_below" (C8.fnArgs s_is_number_below) (C8.fnBody s_is_number_below) (C8.fnScope s_is_number_below) .none kV1 dc1 pm1 an1 cd1 ct1), sl1⟩) (c1 : PySem.W.codeIn K cd1 "is_number_below" = true)
    (k1 : PySem.W.keepIn K (.ref f1) = true) (a2 : PySem.W.nsIn K mainGlobals "is_sign" = some (some (.ref f2))) (l2 : K.lookup f2 = some ⟨oc2, od2, .func (PySem.W.fnOf "is_sign" "is_sign" (C8.fnArgs s_is_sign) (C8.fnBody s_is_sign) (C8.fnScope s_is_sign) .none kV2 dc2 pm2 an2 cd2 ct2), sl2⟩) (c2 : PySem.W.codeIn K cd2 "is_sign" = true)
    (k2 : PySem.W.keepIn K (.ref f2) = true) (a3 : PySem.W.nsIn K mainGlobals "is_alphabet" = some (some (.ref f3))) (l3 : K.lookup f3 = some ⟨oc3, od3, .func (PySem.W.fnOf "is_alphabet" "is_alphabet" (C8.fnArgs s_is_alphabet) (C8.fnBody s_is_alphabet) (C8.fnScope s_is_alphabet) .none kV3 dc3 pm3 an3 cd3 ct3), sl3⟩) (c3 : PySem.W.codeIn K cd3 "is_alphabet" = true)
    (k3 : PySem.W.keepIn K (.ref f3) = true) (a4 : PySem.W.nsIn K mainGlobals "check_alphabet" = some (some (.ref f4))) (l4 : K.lookup f4 = some ⟨oc4, od4, .func (PySem.W.fnOf "check_alphabet" "check_alphabet" (C8.fnArgs s_check_alphabet) (C8.fnBody s_check_alphabet) (C8.fnScope s_check_alphabet) .none kV4 dc4 pm4 an4 cd4 ct4), sl4⟩) (c4 : PySem.W.codeIn K cd4 "check_alphabet" = true)
    (k4 : PySem.W.keepIn K (.ref f4) = true) (a5 : PySem.W.nsIn K mainGlobals "check_number" = some (some (.ref f5))) (l5 : K.lookup f5 = some ⟨oc5, od5, .func (PySem.W.fnOf "check_number" "check_number" (C8.fnArgs s_check_number) (C8.fnBody s_check_number) (C8.fnScope s_check_number) .none kV5 dc5 pm5 an5 cd5 ct5), sl5⟩) (c5 : PySem.W.codeIn K cd5 "check_number" = true)
    (k5 : PySem.W.keepIn K (.ref f5) = true) (a6 : PySem.W.nsIn K mainGlobals "letter_row" = some (some (.ref f6))) (l6 : K.lookup f6 = some ⟨oc6, od6, .func (PySem.W.fnOf "letter_row" "letter_row" (C8.fnArgs s_letter_row) (C8.fnBody s_letter_row) (C8.fnScope s_letter_row) .none kV6 dc6 pm6 an6 cd6 ct6), sl6⟩) (c6 : PySem.W.codeIn K cd6 "letter_row" = true)
    (k6 : PySem.W.keepIn K (.ref f6) = true) (a7 : PySem.W.nsIn K mainGlobals "join_neighbors" = some (some (.ref f7))) (l7 : K.lookup f7 = some ⟨oc7, od7, .func (PySem.W.fnOf "join_neighbors" "join_neighbors" (C8.fnArgs s_join_neighbors) (C8.fnBody s_join_neighbors) (C8.fnScope s_join_neighbors) .none kV7 dc7 pm7 an7 cd7 ct7), sl7⟩) (c7 : PySem.W.codeIn K cd7 "join_neighbors" = true)
    (k7 : PySem.W.keepIn K (.ref f7) = true) (a8 : PySem.W.nsIn K mainGlobals "lowest_join" = some (some (.ref f8))) (l8 : K.lookup f8 = some ⟨oc8, od8, .func (PySem.W.fnOf "lowest_join" "lowest_join" (C8.fnArgs s_lowest_join) (C8.fnBody s_lowest_join) (C8.fnScope s_lowest_join) .none kV8 dc8 pm8 an8 cd8 ct8), sl8⟩) (c8 : PySem.W.codeIn K cd8 "lowest_join" = true)
    (k8 : PySem.W.keepIn K (.ref f8) = true) (a9 : PySem.W.nsIn K mainGlobals "join_down" = some (some (.ref f9))) (l9 : K.lookup f9 = some ⟨oc9, od9, .func (PySem.W.fnOf "join_down" "join_down" (C8.fnArgs s_join_down) (C8.fnBody s_join_down) (C8.fnScope s_join_down) .none kV9 dc9 pm9 an9 cd9 ct9), sl9⟩) (c9 : PySem.W.codeIn K cd9 "join_down" = true)
    (k9 : PySem.W.keepIn K (.ref f9) = true) (a10 : PySem.W.nsIn K mainGlobals "may_follow" = some (some (.ref f10))) (l10 : K.lookup f10 = some ⟨oc10, od10, .func (PySem.W.fnOf "may_follow" "may_follow" (C8.fnArgs s_may_follow) (C8.fnBody s_may_follow) (C8.fnScope s_may_follow) .none kV10 dc10 pm10 an10 cd10 ct10), sl10⟩) (c10 : PySem.W.codeIn K cd10 "may_follow" = true)
    (k10 : PySem.W.keepIn K (.ref f10) = true) (a11 : PySem.W.findIn K (.ref C) "__init__" = some (some (.ref f11))) (i11 : PySem.W.isFn K (.ref f11) = true) (l11 : K.lookup f11 = some ⟨oc11, od11, .func (PySem.W.fnOf "__init__" "Joins.__init__" (C8.fnArgs s_Joins___init__) (C8.fnBody s_Joins___init__) (C8.fnScope s_Joins___init__) .none kV11 dc11 pm11 an11 cd11 ct11), sl11⟩)
    (c11 : PySem.W.codeIn K cd11 "Joins.__init__" = true) (k11 : PySem.W.keepIn K (.ref f11) = true) (a12 : PySem.W.findIn K (.ref C) "pieces" = some (some (.ref pp12))) (s12 : PySem.W.specialIn K (.ref pp12) "__get__" = some (some (.builtin "property.__get__")))
    (t12 : PySem.W.takesIn K (.ref pp12) = some true) (r12 : PySem.W.recIn K pp12 "property" = some (.ref f12 :: rest12)) (l12 : K.lookup f12 = some ⟨oc12, od12, .func (PySem.W.fnOf "pieces" "Joins.pieces" (C8.fnArgs s_Joins_pieces) (C8.fnBody s_Joins_pieces) (C8.fnScope s_Joins_pieces) .none kV12 dc12 pm12 an12 cd12 ct12), sl12⟩) (c12 : PySem.W.codeIn K cd12 "Joins.pieces" = true)
    (k12 : PySem.W.keepIn K (.ref f12) = true) (a13 : PySem.W.findIn K (.ref C) "__len__" = some (some (.ref f13))) (i13 : PySem.W.isFn K (.ref f13) = true) (l13 : K.lookup f13 = some ⟨oc13, od13, .func (PySem.W.fnOf "__len__" "Joins.__len__" (C8.fnArgs s_Joins___len__) (C8.fnBody s_Joins___len__) (C8.fnScope s_Joins___len__) .none kV13 dc13 pm13 an13 cd13 ct13), sl13⟩)
    (c13 : PySem.W.codeIn K cd13 "Joins.__len__" = true) (k13 : PySem.W.keepIn K (.ref f13) = true) (a14 : PySem.W.findIn K (.ref C) "__iter__" = some (some (.ref f14))) (i14 : PySem.W.isFn K (.ref f14) = true)
    (l14 : K.lookup f14 = some ⟨oc14, od14, .func (PySem.W.fnOf "__iter__" "Joins.__iter__" (C8.fnArgs s_Joins___iter__) (C8.fnBody s_Joins___iter__) (C8.fnScope s_Joins___iter__) .none kV14 dc14 pm14 an14 cd14 ct14), sl14⟩) (c14 : PySem.W.codeIn K cd14 "Joins.__iter__" = true) (k14 : PySem.W.keepIn K (.ref f14) = true) (a15 : PySem.W.findIn K (.ref C) "parts_of" = some (some (.ref f15)))
    (i15 : PySem.W.isFn K (.ref f15) = true) (l15 : K.lookup f15 = some ⟨oc15, od15, .func (PySem.W.fnOf "parts_of" "Joins.parts_of" (C8.fnArgs s_Joins_parts_of) (C8.fnBody s_Joins_parts_of) (C8.fnScope s_Joins_parts_of) .none kV15 dc15 pm15 an15 cd15 ct15), sl15⟩) (c15 : PySem.W.codeIn K cd15 "Joins.parts_of" = true) (k15 : PySem.W.keepIn K (.ref f15) = true)
    (a16 : PySem.W.findIn K (.ref C) "rank_of" = some (some (.ref f16))) (i16 : PySem.W.isFn K (.ref f16) = true) (l16 : K.lookup f16 = some ⟨oc16, od16, .func (PySem.W.fnOf "rank_of" "Joins.rank_of" (C8.fnArgs s_Joins_rank_of) (C8.fnBody s_Joins_rank_of) (C8.fnScope s_Joins_rank_of) .none kV16 dc16 pm16 an16 cd16 ct16), sl16⟩) (c16 : PySem.W.codeIn K cd16 "Joins.rank_of" = true)
    (k16 : PySem.W.keepIn K (.ref f16) = true) (a17 : PySem.W.findIn K (.ref C) "has_piece" = some (some (.ref f17))) (i17 : PySem.W.isFn K (.ref f17) = true) (l17 : K.lookup f17 = some ⟨oc17, od17, .func (PySem.W.fnOf "has_piece" "Joins.has_piece" (C8.fnArgs s_Joins_has_piece) (C8.fnBody s_Joins_has_piece) (C8.fnScope s_Joins_has_piece) .none kV17 dc17 pm17 an17 cd17 ct17), sl17⟩)
    (c17 : PySem.W.codeIn K cd17 "Joins.has_piece" = true) (k17 : PySem.W.keepIn K (.ref f17) = true) (a18 : PySem.W.findIn K (.ref C) "check_piece" = some (some (.ref f18))) (i18 : PySem.W.isFn K (.ref f18) = true)
    (l18 : K.lookup f18 = some ⟨oc18, od18, .func (PySem.W.fnOf "check_piece" "Joins.check_piece" (C8.fnArgs s_Joins_check_piece) (C8.fnBody s_Joins_check_piece) (C8.fnScope s_Joins_check_piece) .none kV18 dc18 pm18 an18 cd18 ct18), sl18⟩) (c18 : PySem.W.codeIn K cd18 "Joins.check_piece" = true) (k18 : PySem.W.keepIn K (.ref f18) = true) (a19 : PySem.W.nsIn K mainGlobals "spine" = some (some (.ref f19)))
    (l19 : K.lookup f19 = some ⟨oc19, od19, .func (PySem.W.fnOf "spine" "spine" (C8.fnArgs s_spine) (C8.fnBody s_spine) (C8.fnScope s_spine) .none kV19 dc19 pm19 an19 cd19 ct19), sl19⟩) (c19 : PySem.W.codeIn K cd19 "spine" = true) (k19 : PySem.W.keepIn K (.ref f19) = true) (a20 : PySem.W.nsIn K mainGlobals "right_spine" = some (some (.ref f20)))
    (l20 : K.lookup f20 = some ⟨oc20, od20, .func (PySem.W.fnOf "right_spine" "right_spine" (C8.fnArgs s_right_spine) (C8.fnBody s_right_spine) (C8.fnScope s_right_spine) .none kV20 dc20 pm20 an20 cd20 ct20), sl20⟩) (c20 : PySem.W.codeIn K cd20 "right_spine" = true) (k20 : PySem.W.keepIn K (.ref f20) = true) (a21 : PySem.W.nsIn K mainGlobals "left_spine" = some (some (.ref f21)))
    (l21 : K.lookup f21 = some ⟨oc21, od21, .func (PySem.W.fnOf "left_spine" "left_spine" (C8.fnArgs s_left_spine) (C8.fnBody s_left_spine) (C8.fnScope s_left_spine) .none kV21 dc21 pm21 an21 cd21 ct21), sl21⟩) (c21 : PySem.W.codeIn K cd21 "left_spine" = true) (k21 : PySem.W.keepIn K (.ref f21) = true) (a22 : PySem.W.nsIn K mainGlobals "is_ahead_in_left" = some (some (.ref f22)))
    (l22 : K.lookup f22 = some ⟨oc22, od22, .func (PySem.W.fnOf "is_ahead_in_left" "is_ahead_in_left" (C8.fnArgs s_is_ahead_in_left) (C8.fnBody s_is_ahead_in_left) (C8.fnScope s_is_ahead_in_left) .none kV22 dc22 pm22 an22 cd22 ct22), sl22⟩) (c22 : PySem.W.codeIn K cd22 "is_ahead_in_left" = true) (k22 : PySem.W.keepIn K (.ref f22) = true) (a23 : PySem.W.nsIn K mainGlobals "is_ahead_in_right" = some (some (.ref f23)))
    (l23 : K.lookup f23 = some ⟨oc23, od23, .func (PySem.W.fnOf "is_ahead_in_right" "is_ahead_in_right" (C8.fnArgs s_is_ahead_in_right) (C8.fnBody s_is_ahead_in_right) (C8.fnScope s_is_ahead_in_right) .none kV23 dc23 pm23 an23 cd23 ct23), sl23⟩) (c23 : PySem.W.codeIn K cd23 "is_ahead_in_right" = true) (k23 : PySem.W.keepIn K (.ref f23) = true) (a24 : PySem.W.nsIn K mainGlobals "crossing" = some (some (.ref f24)))
    (l24 : K.lookup f24 = some ⟨oc24, od24, .func (PySem.W.fnOf "crossing" "crossing" (C8.fnArgs s_crossing) (C8.fnBody s_crossing) (C8.fnScope s_crossing) .none kV24 dc24 pm24 an24 cd24 ct24), sl24⟩) (c24 : PySem.W.codeIn K cd24 "crossing" = true) (k24 : PySem.W.keepIn K (.ref f24) = true) (a25 : PySem.W.nsIn K mainGlobals "side_by_side" = some (some (.ref f25)))
    (l25 : K.lookup f25 = some ⟨oc25, od25, .func (PySem.W.fnOf "side_by_side" "side_by_side" (C8.fnArgs s_side_by_side) (C8.fnBody s_side_by_side) (C8.fnScope s_side_by_side) .none kV25 dc25 pm25 an25 cd25 ct25), sl25⟩) (c25 : PySem.W.codeIn K cd25 "side_by_side" = true) (k25 : PySem.W.keepIn K (.ref f25) = true) (a26 : PySem.W.nsIn K mainGlobals "following_masks" = some (some (.ref f26)))
    (l26 : K.lookup f26 = some ⟨oc26, od26, .func (PySem.W.fnOf "following_masks" "following_masks" (C8.fnArgs s_following_masks) (C8.fnBody s_following_masks) (C8.fnScope s_following_masks) .none kV26 dc26 pm26 an26 cd26 ct26), sl26⟩) (c26 : PySem.W.codeIn K cd26 "following_masks" = true) (k26 : PySem.W.keepIn K (.ref f26) = true) (a27 : PySem.W.nsIn K mainGlobals "choices_behind" = some (some (.ref f27)))
    (l27 : K.lookup f27 = some ⟨oc27, od27, .func (PySem.W.fnOf "choices_behind" "choices_behind" (C8.fnArgs s_choices_behind) (C8.fnBody s_choices_behind) (C8.fnScope s_choices_behind) .none kV27 dc27 pm27 an27 cd27 ct27), sl27⟩) (c27 : PySem.W.codeIn K cd27 "choices_behind" = true) (k27 : PySem.W.keepIn K (.ref f27) = true) (a28 : PySem.W.nsIn K mainGlobals "is_cut" = some (some (.ref f28)))
    (l28 : K.lookup f28 = some ⟨oc28, od28, .func (PySem.W.fnOf "is_cut" "is_cut" (C8.fnArgs s_is_cut) (C8.fnBody s_is_cut) (C8.fnScope s_is_cut) .none kV28 dc28 pm28 an28 cd28 ct28), sl28⟩) (c28 : PySem.W.codeIn K cd28 "is_cut" = true) (k28 : PySem.W.keepIn K (.ref f28) = true) (a29 : PySem.W.nsIn K mainGlobals "check_cut" = some (some (.ref f29)))
    (l29 : K.lookup f29 = some ⟨oc29, od29, .func (PySem.W.fnOf "check_cut" "check_cut" (C8.fnArgs s_check_cut) (C8.fnBody s_check_cut) (C8.fnScope s_check_cut) .none kV29 dc29 pm29 an29 cd29 ct29), sl29⟩) (c29 : PySem.W.codeIn K cd29 "check_cut" = true) (k29 : PySem.W.keepIn K (.ref f29) = true) (a30 : PySem.W.nsIn K mainGlobals "continuations" = some (some (.ref f30)))
    (l30 : K.lookup f30 = some ⟨oc30, od30, .func (PySem.W.fnOf "continuations" "continuations" (C8.fnArgs s_continuations) (C8.fnBody s_continuations) (C8.fnScope s_continuations) .none kV30 dc30 pm30 an30 cd30 ct30), sl30⟩) (c30 : PySem.W.codeIn K cd30 "continuations" = true) (k30 : PySem.W.keepIn K (.ref f30) = true) (a31 : PySem.W.nsIn K mainGlobals "number_of_cut" = some (some (.ref f31)))
    (l31 : K.lookup f31 = some ⟨oc31, od31, .func (PySem.W.fnOf "number_of_cut" "number_of_cut" (C8.fnArgs s_number_of_cut) (C8.fnBody s_number_of_cut) (C8.fnScope s_number_of_cut) .none kV31 dc31 pm31 an31 cd31 ct31), sl31⟩) (c31 : PySem.W.codeIn K cd31 "number_of_cut" = true) (k31 : PySem.W.keepIn K (.ref f31) = true) (a32 : PySem.W.nsIn K mainGlobals "cut_of_number" = some (some (.ref f32)))
    (l32 : K.lookup f32 = some ⟨oc32, od32, .func (PySem.W.fnOf "cut_of_number" "cut_of_number" (C8.fnArgs s_cut_of_number) (C8.fnBody s_cut_of_number) (C8.fnScope s_cut_of_number) .none kV32 dc32 pm32 an32 cd32 ct32), sl32⟩) (c32 : PySem.W.codeIn K cd32 "cut_of_number" = true) (k32 : PySem.W.keepIn K (.ref f32) = true) (a33 : PySem.W.nsIn K mainGlobals "choice_with_number" = some (some (.ref f33)))
    (l33 : K.lookup f33 = some ⟨oc33, od33, .func (PySem.W.fnOf "choice_with_number" "choice_with_number" (C8.fnArgs s_choice_with_number) (C8.fnBody s_choice_with_number) (C8.fnScope s_choice_with_number) .none kV33 dc33 pm33 an33 cd33 ct33), sl33⟩) (c33 : PySem.W.codeIn K cd33 "choice_with_number" = true) (k33 : PySem.W.keepIn K (.ref f33) = true) (a34 : PySem.W.nsIn K mainGlobals "_law_pool" = some (some (.ref f34)))
    (l34 : K.lookup f34 = some ⟨oc34, od34, .func (PySem.W.fnOf "_law_pool" "_law_pool" (C8.fnArgs s__law_pool) (C8.fnBody s__law_pool) (C8.fnScope s__law_pool) .none kV34 dc34 pm34 an34 cd34 ct34), sl34⟩) (c34 : PySem.W.codeIn K cd34 "_law_pool" = true) (k34 : PySem.W.keepIn K (.ref f34) = true) (a35 : PySem.W.nsIn K mainGlobals "_law_draw" = some (some (.ref f35)))
    (l35 : K.lookup f35 = some ⟨oc35, od35, .func (PySem.W.fnOf "_law_draw" "_law_draw" (C8.fnArgs s__law_draw) (C8.fnBody s__law_draw) (C8.fnScope s__law_draw) .none kV35 dc35 pm35 an35 cd35 ct35), sl35⟩) (c35 : PySem.W.codeIn K cd35 "_law_draw" = true) (k35 : PySem.W.keepIn K (.ref f35) = true) (a36 : PySem.W.nsIn K mainGlobals "_law_alphabet" = some (some (.ref f36)))
    (l36 : K.lookup f36 = some ⟨oc36, od36, .func (PySem.W.fnOf "_law_alphabet" "_law_alphabet" (C8.fnArgs s__law_alphabet) (C8.fnBody s__law_alphabet) (C8.fnScope s__law_alphabet) .none kV36 dc36 pm36 an36 cd36 ct36), sl36⟩) (c36 : PySem.W.codeIn K cd36 "_law_alphabet" = true) (k36 : PySem.W.keepIn K (.ref f36) = true) (a37 : PySem.W.nsIn K mainGlobals "_law_staged" = some (some (.ref f37)))
    (l37 : K.lookup f37 = some ⟨oc37, od37, .func (PySem.W.fnOf "_law_staged" "_law_staged" (C8.fnArgs s__law_staged) (C8.fnBody s__law_staged) (C8.fnScope s__law_staged) .none kV37 dc37 pm37 an37 cd37 ct37), sl37⟩) (c37 : PySem.W.codeIn K cd37 "_law_staged" = true) (k37 : PySem.W.keepIn K (.ref f37) = true) (a38 : PySem.W.nsIn K mainGlobals "_law_cut" = some (some (.ref f38)))
    (l38 : K.lookup f38 = some ⟨oc38, od38, .func (PySem.W.fnOf "_law_cut" "_law_cut" (C8.fnArgs s__law_cut) (C8.fnBody s__law_cut) (C8.fnScope s__law_cut) .none kV38 dc38 pm38 an38 cd38 ct38), sl38⟩) (c38 : PySem.W.codeIn K cd38 "_law_cut" = true) (k38 : PySem.W.keepIn K (.ref f38) = true) (a39 : PySem.W.nsIn K mainGlobals "_law_pairs" = some (some (.ref f39)))
    (l39 : K.lookup f39 = some ⟨oc39, od39, .func (PySem.W.fnOf "_law_pairs" "_law_pairs" (C8.fnArgs s__law_pairs) (C8.fnBody s__law_pairs) (C8.fnScope s__law_pairs) .none kV39 dc39 pm39 an39 cd39 ct39), sl39⟩) (c39 : PySem.W.codeIn K cd39 "_law_pairs" = true) (k39 : PySem.W.keepIn K (.ref f39) = true) (a40 : PySem.W.nsIn K mainGlobals "_law_text" = some (some (.ref f40)))
    (l40 : K.lookup f40 = some ⟨oc40, od40, .func (PySem.W.fnOf "_law_text" "_law_text" (C8.fnArgs s__law_text) (C8.fnBody s__law_text) (C8.fnScope s__law_text) .none kV40 dc40 pm40 an40 cd40 ct40), sl40⟩) (c40 : PySem.W.codeIn K cd40 "_law_text" = true) (k40 : PySem.W.keepIn K (.ref f40) = true) (a41 : PySem.W.nsIn K mainGlobals "_law_few_letters" = some (some (.ref f41)))
    (l41 : K.lookup f41 = some ⟨oc41, od41, .func (PySem.W.fnOf "_law_few_letters" "_law_few_letters" (C8.fnArgs s__law_few_letters) (C8.fnBody s__law_few_letters) (C8.fnScope s__law_few_letters) .none kV41 dc41 pm41 an41 cd41 ct41), sl41⟩) (c41 : PySem.W.codeIn K cd41 "_law_few_letters" = true) (k41 : PySem.W.keepIn K (.ref f41) = true) (a42 : PySem.W.nsIn K mainGlobals "_law_sides" = some (some (.ref f42)))
    (l42 : K.lookup f42 = some ⟨oc42, od42, .func (PySem.W.fnOf "_law_sides" "_law_sides" (C8.fnArgs s__law_sides) (C8.fnBody s__law_sides) (C8.fnScope s__law_sides) .none kV42 dc42 pm42 an42 cd42 ct42), sl42⟩) (c42 : PySem.W.codeIn K cd42 "_law_sides" = true) (k42 : PySem.W.keepIn K (.ref f42) = true) (a43 : PySem.W.nsIn K mainGlobals "_law_after" = some (some (.ref f43)))
    (l43 : K.lookup f43 = some ⟨oc43, od43, .func (PySem.W.fnOf "_law_after" "_law_after" (C8.fnArgs s__law_after) (C8.fnBody s__law_after) (C8.fnScope s__law_after) .none kV43 dc43 pm43 an43 cd43 ct43), sl43⟩) (c43 : PySem.W.codeIn K cd43 "_law_after" = true) (k43 : PySem.W.keepIn K (.ref f43) = true) (a44 : PySem.W.nsIn K mainGlobals "_law_same" = some (some (.ref f44)))
    (l44 : K.lookup f44 = some ⟨oc44, od44, .func (PySem.W.fnOf "_law_same" "_law_same" (C8.fnArgs s__law_same) (C8.fnBody s__law_same) (C8.fnScope s__law_same) .none kV44 dc44 pm44 an44 cd44 ct44), sl44⟩) (c44 : PySem.W.codeIn K cd44 "_law_same" = true) (k44 : PySem.W.keepIn K (.ref f44) = true) (a45 : PySem.W.nsIn K mainGlobals "_law_alone" = some (some (.ref f45)))
    (l45 : K.lookup f45 = some ⟨oc45, od45, .func (PySem.W.fnOf "_law_alone" "_law_alone" (C8.fnArgs s__law_alone) (C8.fnBody s__law_alone) (C8.fnScope s__law_alone) .none kV45 dc45 pm45 an45 cd45 ct45), sl45⟩) (c45 : PySem.W.codeIn K cd45 "_law_alone" = true) (k45 : PySem.W.keepIn K (.ref f45) = true) (a46 : PySem.W.nsIn K mainGlobals "_law_odd" = some (some (.ref f46)))
    (l46 : K.lookup f46 = some ⟨oc46, od46, .func (PySem.W.fnOf "_law_odd" "_law_odd" (C8.fnArgs s__law_odd) (C8.fnBody s__law_odd) (C8.fnScope s__law_odd) .none kV46 dc46 pm46 an46 cd46 ct46), sl46⟩) (c46 : PySem.W.codeIn K cd46 "_law_odd" = true) (k46 : PySem.W.keepIn K (.ref f46) = true) (a47 : PySem.W.nsIn K mainGlobals "_law_below" = some (some (.ref f47)))
    (l47 : K.lookup f47 = some ⟨oc47, od47, .func (PySem.W.fnOf "_law_below" "_law_below" (C8.fnArgs s__law_below) (C8.fnBody s__law_below) (C8.fnScope s__law_below) .none kV47 dc47 pm47 an47 cd47 ct47), sl47⟩) (c47 : PySem.W.codeIn K cd47 "_law_below" = true) (k47 : PySem.W.keepIn K (.ref f47) = true) (a48 : PySem.W.nsIn K mainGlobals "_law_is_row" = some (some (.ref f48)))
    (l48 : K.lookup f48 = some ⟨oc48, od48, .func (PySem.W.fnOf "_law_is_row" "_law_is_row" (C8.fnArgs s__law_is_row) (C8.fnBody s__law_is_row) (C8.fnScope s__law_is_row) .none kV48 dc48 pm48 an48 cd48 ct48), sl48⟩) (c48 : PySem.W.codeIn K cd48 "_law_is_row" = true) (k48 : PySem.W.keepIn K (.ref f48) = true) (a49 : PySem.W.nsIn K mainGlobals "_law_as" = some (some (.ref f49)))
    (l49 : K.lookup f49 = some ⟨oc49, od49, .func (PySem.W.fnOf "_law_as" "_law_as" (C8.fnArgs s__law_as) (C8.fnBody s__law_as) (C8.fnScope s__law_as) .none kV49 dc49 pm49 an49 cd49 ct49), sl49⟩) (c49 : PySem.W.codeIn K cd49 "_law_as" = true) (k49 : PySem.W.keepIn K (.ref f49) = true) (a50 : PySem.W.nsIn K mainGlobals "_law_refused_number" = some (some (.ref f50)))
    (l50 : K.lookup f50 = some ⟨oc50, od50, .func (PySem.W.fnOf "_law_refused_number" "_law_refused_number" (C8.fnArgs s__law_refused_number) (C8.fnBody s__law_refused_number) (C8.fnScope s__law_refused_number) .none kV50 dc50 pm50 an50 cd50 ct50), sl50⟩) (c50 : PySem.W.codeIn K cd50 "_law_refused_number" = true) (k50 : PySem.W.keepIn K (.ref f50) = true) (a51 : PySem.W.nsIn K mainGlobals "_law_refused_row" = some (some (.ref f51)))
    (l51 : K.lookup f51 = some ⟨oc51, od51, .func (PySem.W.fnOf "_law_refused_row" "_law_refused_row" (C8.fnArgs s__law_refused_row) (C8.fnBody s__law_refused_row) (C8.fnScope s__law_refused_row) .none kV51 dc51 pm51 an51 cd51 ct51), sl51⟩) (c51 : PySem.W.codeIn K cd51 "_law_refused_row" = true) (k51 : PySem.W.keepIn K (.ref f51) = true) (a52 : PySem.W.nsIn K mainGlobals "law" = some (some (.ref f52)))
    (l52 : K.lookup f52 = some ⟨oc52, od52, .func (PySem.W.fnOf "law" "law" (C8.fnArgs s_law) (C8.fnBody s_law) (C8.fnScope s_law) .none kV52 dc52 pm52 an52 cd52 ct52), sl52⟩) (c52 : PySem.W.codeIn K cd52 "law" = true) (k52 : PySem.W.keepIn K (.ref f52) = true) (pgC : PySem.W.plainGet K C Str.empty = true)
    (hdC : PySem.W.hasDictIn K C = true) (poC : PySem.W.plainOver K C = true) (saC : PySem.W.findIn K (.ref C) "__setattr__" = some (some (.builtin "object.__setattr__"))) (mkC : PySem.W.makesIn K C = true)
    (kcC : PySem.W.keepIn K (.ref C) = true) (nC0 : PySem.W.findIn K (.ref C) "alphabet" = some none) (nC1 : PySem.W.findIn K (.ref C) "pairs" = some none) (nC2 : PySem.W.findIn K (.ref C) "_texts" = some none)
    (nC3 : PySem.W.findIn K (.ref C) "_ranks" = some none) (nC4 : PySem.W.findIn K (.ref C) "_pieces_by_text" = some none) (AUnknownSign : PySem.W.nsIn K mainGlobals "UnknownSign" = some (some (.ref CUnknownSign))) (AInvalidNumber : PySem.W.nsIn K mainGlobals "InvalidNumber" = some (some (.ref CInvalidNumber)))
    (ANoPiece : PySem.W.nsIn K mainGlobals "NoPiece" = some (some (.ref CNoPiece))) (ANotCut : PySem.W.nsIn K mainGlobals "NotCut" = some (some (.ref CNotCut))) (AInvalidAlphabet : PySem.W.nsIn K mainGlobals "InvalidAlphabet" = some (some (.ref CInvalidAlphabet))) (AInvalidModel : PySem.W.nsIn K mainGlobals "InvalidModel" = some (some (.ref CInvalidModel)))
    (AInvalidText : PySem.W.nsIn K mainGlobals "InvalidText" = some (some (.ref CInvalidText))) (ANoChance : PySem.W.nsIn K mainGlobals "NoChance" = some (some (.ref CNoChance))) (ANotProper : PySem.W.nsIn K mainGlobals "NotProper" = some (some (.ref CNotProper))) (AJoinError : PySem.W.nsIn K mainGlobals "JoinError" = some (some (.ref CJoinError)))
    (zsuper : PySem.W.nsIn K mainGlobals "super" = some none) (zopq : PySem.W.nsIn K PySem.cStatics "thirdparty.any" = some none) (hn0 : PySem.W.specialIn K (.builtin "object.__class__") "__get__" = some (some (.builtin "getset_descriptor.__get__"))) (ht0 : PySem.W.takesIn K (.builtin "object.__class__") = some true)
    (IUnknownSign : PySem.W.findIn K (.ref CUnknownSign) "__init__" = some (some (.ref FUnknownSign))) (TUnknownSign : PySem.W.typeIn K (.ref FUnknownSign) = some (.type "function")) (LUnknownSign : K.lookup FUnknownSign = some ⟨ocUnknownSign, odUnknownSign, .func (PySem.W.ksFn "__init__" "UnknownSign.__init__" (C8.fnArgs s_UnknownSign___init__) (C8.fnBody s_UnknownSign___init__) (C8.fnScope s_UnknownSign___init__) .none kVUnknownSign dcUnknownSign pmUnknownSign anUnknownSign (.ref cdaUnknownSign) ctUnknownSign ccUnknownSign), slUnknownSign⟩) (DUnknownSign : PySem.W.codeIn K (.ref cdaUnknownSign) "UnknownSign.__init__" = true)
    (KUnknownSign : K.lookup cdaUnknownSign = some ⟨cclUnknownSign, cddUnknownSign, .fields vsUnknownSign, ccsUnknownSign⟩) (VUnknownSign : vsUnknownSign[2]? = some (.str fileUnknownSign tfUnknownSign)) (QUnknownSign : ((l.prog.main.file : Str) == fileUnknownSign) = true) (JUnknownSign : K.lookup ccUnknownSign = some ⟨clUnknownSign, cldUnknownSign, .cell (some (.ref CUnknownSign)), cslUnknownSign⟩)
    (XUnknownSign : K.lookup CUnknownSign = some (excClassObj nmUnknownSign qUnknownSign CUnknownSign NUnknownSign bsUnknownSign bmUnknownSign true snUnknownSign subUnknownSign abUnknownSign colUnknownSign ddUnknownSign k0UnknownSign k1UnknownSign k2UnknownSign k3UnknownSign k5UnknownSign "ValueError.__new__")) (RUnknownSign : PySem.HandSPX.refsVE bmUnknownSign = true) (aUnknownSign : PySem.W.findIn K (.ref CUnknownSign) "__setattr__" = some (some (.builtin "object.__setattr__"))) (bUnknownSign : PySem.W.subIn K (.ref CUnknownSign) (.type "BaseException") = some true)
    (cUnknownSign : PySem.W.typeIn K (.ref CUnknownSign) = some (.type "type")) (dUnknownSign : PySem.W.keepIn K (.ref CUnknownSign) = true) (eUnknownSign : PySem.W.ks_superIn K CUnknownSign CUnknownSign "__init__" = some (some (.builtin "ValueError.__init__"))) (fUnknownSign : PySem.W.subIn K (.ref CUnknownSign) (.type "ValueError") = some true)
    (gUnknownSign : PySem.W.mroIn K CUnknownSign (.ref CUnknownSign) = some true) (hUnknownSign : PySem.W.findIn K (.ref CUnknownSign) "__getattribute__" = some (some (.builtin "BaseException.__getattribute__"))) (iUnknownSign : PySem.W.findIn K (.ref CUnknownSign) "__getattr__" = some none) (jUnknownSign : PySem.W.findIn K (.ref CUnknownSign) "__class__" = some (some (.builtin "object.__class__")))
    (kUnknownSign : PySem.W.mroIn K CUnknownSign (.type "object") = some true) (lUnknownSign : PySem.W.hasDictIn K CUnknownSign = true) (nUnknownSign_sign : PySem.W.findIn K (.ref CUnknownSign) "sign" = some none) (nUnknownSign_at : PySem.W.findIn K (.ref CUnknownSign) "at" = some none)
    (IInvalidNumber : PySem.W.findIn K (.ref CInvalidNumber) "__init__" = some (some (.ref FInvalidNumber))) (TInvalidNumber : PySem.W.typeIn K (.ref FInvalidNumber) = some (.type "function")) (LInvalidNumber : K.lookup FInvalidNumber = some ⟨ocInvalidNumber, odInvalidNumber, .func (PySem.W.ksFn "__init__" "InvalidNumber.__init__" (C8.fnArgs s_InvalidNumber___init__) (C8.fnBody s_InvalidNumber___init__) (C8.fnScope s_InvalidNumber___init__) .none kVInvalidNumber dcInvalidNumber pmInvalidNumber anInvalidNumber (.ref cdaInvalidNumber) ctInvalidNumber ccInvalidNumber), slInvalidNumber⟩) (DInvalidNumber : PySem.W.codeIn K (.ref cdaInvalidNumber) "InvalidNumber.__init__" = true)
    (KInvalidNumber : K.lookup cdaInvalidNumber = some ⟨cclInvalidNumber, cddInvalidNumber, .fields vsInvalidNumber, ccsInvalidNumber⟩) (VInvalidNumber : vsInvalidNumber[2]? = some (.str fileInvalidNumber tfInvalidNumber)) (QInvalidNumber : ((l.prog.main.file : Str) == fileInvalidNumber) = true) (JInvalidNumber : K.lookup ccInvalidNumber = some ⟨clInvalidNumber, cldInvalidNumber, .cell (some (.ref CInvalidNumber)), cslInvalidNumber⟩)
    (XInvalidNumber : K.lookup CInvalidNumber = some (excClassObj nmInvalidNumber qInvalidNumber CInvalidNumber NInvalidNumber bsInvalidNumber bmInvalidNumber true snInvalidNumber subInvalidNumber abInvalidNumber colInvalidNumber ddInvalidNumber k0InvalidNumber k1InvalidNumber k2InvalidNumber k3InvalidNumber k5InvalidNumber "ValueError.__new__")) (RInvalidNumber : PySem.HandSPX.refsVE bmInvalidNumber = true) (aInvalidNumber : PySem.W.findIn K (.ref CInvalidNumber) "__setattr__" = some (some (.builtin "object.__setattr__"))) (bInvalidNumber : PySem.W.subIn K (.ref CInvalidNumber) (.type "BaseException") = some true)
    (cInvalidNumber : PySem.W.typeIn K (.ref CInvalidNumber) = some (.type "type")) (dInvalidNumber : PySem.W.keepIn K (.ref CInvalidNumber) = true) (eInvalidNumber : PySem.W.ks_superIn K CInvalidNumber CInvalidNumber "__init__" = some (some (.builtin "ValueError.__init__"))) (fInvalidNumber : PySem.W.subIn K (.ref CInvalidNumber) (.type "ValueError") = some true)
    (gInvalidNumber : PySem.W.mroIn K CInvalidNumber (.ref CInvalidNumber) = some true) (hInvalidNumber : PySem.W.findIn K (.ref CInvalidNumber) "__getattribute__" = some (some (.builtin "BaseException.__getattribute__"))) (iInvalidNumber : PySem.W.findIn K (.ref CInvalidNumber) "__getattr__" = some none) (jInvalidNumber : PySem.W.findIn K (.ref CInvalidNumber) "__class__" = some (some (.builtin "object.__class__")))
    (kInvalidNumber : PySem.W.mroIn K CInvalidNumber (.type "object") = some true) (lInvalidNumber : PySem.W.hasDictIn K CInvalidNumber = true) (nInvalidNumber_number : PySem.W.findIn K (.ref CInvalidNumber) "number" = some none) (INotCut : PySem.W.findIn K (.ref CNotCut) "__init__" = some (some (.ref FNotCut)))
    (TNotCut : PySem.W.typeIn K (.ref FNotCut) = some (.type "function")) (LNotCut : K.lookup FNotCut = some ⟨ocNotCut, odNotCut, .func (PySem.W.ksFn "__init__" "NotCut.__init__" (C8.fnArgs s_NotCut___init__) (C8.fnBody s_NotCut___init__) (C8.fnScope s_NotCut___init__) .none kVNotCut dcNotCut pmNotCut anNotCut (.ref cdaNotCut) ctNotCut ccNotCut), slNotCut⟩) (DNotCut : PySem.W.codeIn K (.ref cdaNotCut) "NotCut.__init__" = true) (KNotCut : K.lookup cdaNotCut = some ⟨cclNotCut, cddNotCut, .fields vsNotCut, ccsNotCut⟩)
    (VNotCut : vsNotCut[2]? = some (.str fileNotCut tfNotCut)) (QNotCut : ((l.prog.main.file : Str) == fileNotCut) = true) (JNotCut : K.lookup ccNotCut = some ⟨clNotCut, cldNotCut, .cell (some (.ref CNotCut)), cslNotCut⟩) (XNotCut : K.lookup CNotCut = some (excClassObj nmNotCut qNotCut CNotCut NNotCut bsNotCut bmNotCut true snNotCut subNotCut abNotCut colNotCut ddNotCut k0NotCut k1NotCut k2NotCut k3NotCut k5NotCut "ValueError.__new__"))
    (RNotCut : PySem.HandSPX.refsVE bmNotCut = true) (aNotCut : PySem.W.findIn K (.ref CNotCut) "__setattr__" = some (some (.builtin "object.__setattr__"))) (bNotCut : PySem.W.subIn K (.ref CNotCut) (.type "BaseException") = some true) (cNotCut : PySem.W.typeIn K (.ref CNotCut) = some (.type "type"))
    (dNotCut : PySem.W.keepIn K (.ref CNotCut) = true) (eNotCut : PySem.W.ks_superIn K CNotCut CNotCut "__init__" = some (some (.builtin "ValueError.__init__"))) (fNotCut : PySem.W.subIn K (.ref CNotCut) (.type "ValueError") = some true) (gNotCut : PySem.W.mroIn K CNotCut (.ref CNotCut) = some true)
    (hNotCut : PySem.W.findIn K (.ref CNotCut) "__getattribute__" = some (some (.builtin "BaseException.__getattribute__"))) (iNotCut : PySem.W.findIn K (.ref CNotCut) "__getattr__" = some none) (jNotCut : PySem.W.findIn K (.ref CNotCut) "__class__" = some (some (.builtin "object.__class__"))) (kNotCut : PySem.W.mroIn K CNotCut (.type "object") = some true)
    (lNotCut : PySem.W.hasDictIn K CNotCut = true) (nNotCut_row : PySem.W.findIn K (.ref CNotCut) "row" = some none) (mInvalidNumberJoinError : PySem.W.subIn K (.ref CInvalidNumber) (.ref CJoinError) = some true) (mNotCutJoinError : PySem.W.subIn K (.ref CNotCut) (.ref CJoinError) = some true)
    (oInvalidNumberInvalidNumber : PySem.W.kitOne K (.ref CInvalidNumber) (.ref CInvalidNumber) = some true) (oInvalidNumberValueError : PySem.W.kitOne K (.ref CInvalidNumber) (.type "ValueError") = some true) (oInvalidNumberUnknownSign : PySem.W.kitOne K (.ref CInvalidNumber) (.ref CUnknownSign) = some false) (oInvalidNumberNoPiece : PySem.W.kitOne K (.ref CInvalidNumber) (.ref CNoPiece) = some false)
    (oInvalidNumberNotCut : PySem.W.kitOne K (.ref CInvalidNumber) (.ref CNotCut) = some false) (oAnyInvalidNumber : PySem.W.kitAny K (.ref CInvalidNumber) [.ref CInvalidAlphabet, .ref CInvalidModel, .ref CInvalidText, .ref CNoChance, .ref CNotProper] = some false) (oNotCutNotCut : PySem.W.kitOne K (.ref CNotCut) (.ref CNotCut) = some true) (oNotCutValueError : PySem.W.kitOne K (.ref CNotCut) (.type "ValueError") = some true)
    (oNotCutInvalidNumber : PySem.W.kitOne K (.ref CNotCut) (.ref CInvalidNumber) = some false) (oNotCutNoPiece : PySem.W.kitOne K (.ref CNotCut) (.ref CNoPiece) = some false) (oNotCutUnknownSign : PySem.W.kitOne K (.ref CNotCut) (.ref CUnknownSign) = some false) (oAnyNotCut : PySem.W.kitAny K (.ref CNotCut) [.ref CInvalidAlphabet, .ref CInvalidModel, .ref CInvalidText, .ref CNoChance, .ref CNotProper] = some false)
    (pJoinError : PySem.W.subIn K (.ref CJoinError) (.type "BaseException") = some true) (qJoinError : PySem.W.hasDictIn K CJoinError = true) (rJoinError : PySem.W.typeIn K (.ref CJoinError) = some (.type "type")) (htop : (l.prog.main.scope.names.lookup ("super" : Str)).isSome = false)
    (z0 : PySem.W.nsIn K mainGlobals "isinstance" = some none) (z1 : PySem.W.nsIn K mainGlobals "len" = some none) (z2 : PySem.W.nsIn K mainGlobals "min" = some none) (z3 : PySem.W.nsIn K mainGlobals "all" = some none)
    (z4 : PySem.W.nsIn K mainGlobals "abs" = some none) (z5 : PySem.W.nsIn K mainGlobals "int" = some none) (z6 : PySem.W.nsIn K mainGlobals "bool" = some none) (z7 : PySem.W.nsIn K mainGlobals "str" = some none)
    (z8 : PySem.W.nsIn K mainGlobals "tuple" = some none) (z9 : PySem.W.nsIn K mainGlobals "list" = some none) (z10 : PySem.W.nsIn K mainGlobals "zip" = some none) (z11 : PySem.W.nsIn K mainGlobals "enumerate" = some none)
    (z12 : PySem.W.nsIn K mainGlobals "range" = some none) (z13 : PySem.W.nsIn K mainGlobals "sorted" = some none) (z14 : PySem.W.nsIn K mainGlobals "max" = some none) (z15 : PySem.W.nsIn K mainGlobals "reversed" = some none)
    (z16 : PySem.W.nsIn K mainGlobals "sum" = some none) (z17 : PySem.W.nsIn K mainGlobals "dict" = some none) (z18 : PySem.W.nsIn K mainGlobals "ValueError" = some none) (z19 : PySem.W.nsIn K mainGlobals "iter" = some none)
    (v0 : PySem.W.nsIn K mainGlobals "MOST_LETTERS" = some (some (.int 30 tk0))) (v1 : PySem.W.nsIn K mainGlobals "MOST_SIGNS_OF_PIECE" = some (some (.int 40 tk1))) :
    ∃ fd : FuncData, (∀ (s : Shared) (v : Value), BindsTo s fd ⟨[v], []⟩ [("script", v)]) ∧ ∀ base : Heap, K.In base → base.Ns mainGlobals mg → FnOk l.prog w K mg base C8.CX0 14 fa fd ["script"] (sp_law K) := by
  have e := hfa.symm.trans (PySem.W.mg_of X G a52)
  cases e
  have T : Txt K mg := ⟨PySem.W.mg_none_of X G z0, PySem.W.mg_none_of X G z1, PySem.W.mg_none_of X G z2, PySem.W.mg_none_of X G z3, PySem.W.mg_none_of X G z4, PySem.W.mg_none_of X G z5, PySem.W.mg_none_of X G z6, PySem.W.mg_none_of X G z7, PySem.W.mg_none_of X G z8, PySem.W.mg_none_of X G z9, PySem.W.mg_none_of X G z10, PySem.W.mg_none_of X G z11, PySem.W.mg_none_of X G z12, PySem.W.mg_none_of X G z13, PySem.W.mg_none_of X G z14, PySem.W.mg_none_of X G z15, PySem.W.mg_none_of X G z16, PySem.W.mg_none_of X G z17, PySem.W.mg_none_of X G z18, PySem.W.mg_none_of X G z19, ⟨_, PySem.W.mg_of X G v0, ⟨_, rfl⟩⟩, ⟨_, PySem.W.mg_of X G v1, ⟨_, rfl⟩⟩⟩
  have J : JTxt K C := ⟨⟨pgC, hdC, poC, saC⟩, nC0, nC1, nC2, nC3, nC4⟩
  have F0 : C8.Fun K "is_integer" "is_integer" s_is_integer f0 _ := ⟨⟨_, _, _, _, _, _, _, _, _, _, rfl, l0, c0⟩⟩
  have b0 := F0.binds rfl (ps := ["value"]) fun _ _ _ _ _ _ us hl => match us, hl with | [_], _ => rfl
  have F1 : C8.Fun K "is_number_below" "is_number_below" s_is_number_below f1 _ := ⟨⟨_, _, _, _, _, _, _, _, _, _, rfl, l1, c1⟩⟩
  have b1 := F1.binds rfl (ps := ["value", "end"]) fun _ _ _ _ _ _ us hl => match us, hl with | [_, _], _ => rfl
  have F2 : C8.Fun K "is_sign" "is_sign" s_is_sign f2 _ := ⟨⟨_, _, _, _, _, _, _, _, _, _, rfl, l2, c2⟩⟩
  have b2 := F2.binds rfl (ps := ["sign"]) fun _ _ _ _ _ _ us hl => match us, hl with | [_], _ => rfl
  have F3 : C8.Fun K "is_alphabet" "is_alphabet" s_is_alphabet f3 _ := ⟨⟨_, _, _, _, _, _, _, _, _, _, rfl, l3, c3⟩⟩
  have b3 := F3.binds rfl (ps := ["text"]) fun _ _ _ _ _ _ us hl => match us, hl with | [_], _ => rfl
  have F4 : C8.Fun K "check_alphabet" "check_alphabet" s_check_alphabet f4 _ := ⟨⟨_, _, _, _, _, _, _, _, _, _, rfl, l4, c4⟩⟩
  have b4 := F4.binds rfl (ps := ["text"]) fun _ _ _ _ _ _ us hl => match us, hl with | [_], _ => rfl
  have F5 : C8.Fun K "check_number" "check_number" s_check_number f5 _ := ⟨⟨_, _, _, _, _, _, _, _, _, _, rfl, l5, c5⟩⟩
  have b5 := F5.binds rfl (ps := ["number", "end"]) fun _ _ _ _ _ _ us hl => match us, hl with | [_, _], _ => rfl
  have F6 : C8.Fun K "letter_row" "letter_row" s_letter_row f6 _ := ⟨⟨_, _, _, _, _, _, _, _, _, _, rfl, l6, c6⟩⟩
  have b6 := F6.binds rfl (ps := ["alphabet", "text"]) fun _ _ _ _ _ _ us hl => match us, hl with | [_, _], _ => rfl
  have F7 : C8.Fun K "join_neighbors" "join_neighbors" s_join_neighbors f7 _ := ⟨⟨_, _, _, _, _, _, _, _, _, _, rfl, l7, c7⟩⟩
  have b7 := F7.binds rfl (ps := ["row", "pair", "piece"]) fun _ _ _ _ _ _ us hl => match us, hl with | [_, _, _], _ => rfl
  have F8 : C8.Fun K "lowest_join" "lowest_join" s_lowest_join f8 _ := ⟨⟨_, _, _, _, _, _, _, _, _, _, rfl, l8, c8⟩⟩
  have b8 := F8.binds rfl (ps := ["ranks", "row"]) fun _ _ _ _ _ _ us hl => match us, hl with | [_, _], _ => rfl
  have F9 : C8.Fun K "join_down" "join_down" s_join_down f9 _ := ⟨⟨_, _, _, _, _, _, _, _, _, _, rfl, l9, c9⟩⟩
  have b9 := F9.binds rfl (ps := ["ranks", "letters", "row"]) fun _ _ _ _ _ _ us hl => match us, hl with | [_, _, _], _ => rfl
  have F10 : C8.Fun K "may_follow" "may_follow" s_may_follow f10 _ := ⟨⟨_, _, _, _, _, _, _, _, _, _, rfl, l10, c10⟩⟩
  have b10 := F10.binds rfl (ps := ["alphabet", "texts", "ranks", "pair"]) fun _ _ _ _ _ _ us hl => match us, hl with | [_, _, _, _], _ => rfl
  have F11 : C8.Fun K "__init__" "Joins.__init__" s_Joins___init__ f11 _ := ⟨⟨_, _, _, _, _, _, _, _, _, _, rfl, l11, c11⟩⟩
  have b11 := F11.binds rfl (ps := ["self", "alphabet", "pairs"]) fun _ _ _ _ _ _ us hl => match us, hl with | [_, _, _], _ => rfl
  have F12 : C8.Fun K "pieces" "Joins.pieces" s_Joins_pieces f12 _ := ⟨⟨_, _, _, _, _, _, _, _, _, _, rfl, l12, c12⟩⟩
  have b12 := F12.binds rfl (ps := ["self"]) fun _ _ _ _ _ _ us hl => match us, hl with | [_], _ => rfl
  have F13 : C8.Fun K "__len__" "Joins.__len__" s_Joins___len__ f13 _ := ⟨⟨_, _, _, _, _, _, _, _, _, _, rfl, l13, c13⟩⟩
  have b13 := F13.binds rfl (ps := ["self"]) fun _ _ _ _ _ _ us hl => match us, hl with | [_], _ => rfl
  have F14 : C8.Fun K "__iter__" "Joins.__iter__" s_Joins___iter__ f14 _ := ⟨⟨_, _, _, _, _, _, _, _, _, _, rfl, l14, c14⟩⟩
  have b14 := F14.binds rfl (ps := ["self"]) fun _ _ _ _ _ _ us hl => match us, hl with | [_], _ => rfl
  have F15 : C8.Fun K "parts_of" "Joins.parts_of" s_Joins_parts_of f15 _ := ⟨⟨_, _, _, _, _, _, _, _, _, _, rfl, l15, c15⟩⟩
  have b15 := F15.binds rfl (ps := ["self", "piece"]) fun _ _ _ _ _ _ us hl => match us, hl with | [_, _], _ => rfl
  have F16 : C8.Fun K "rank_of" "Joins.rank_of" s_Joins_rank_of f16 _ := ⟨⟨_, _, _, _, _, _, _, _, _, _, rfl, l16, c16⟩⟩
  have b16 := F16.binds rfl (ps := ["self", "left", "right"]) fun _ _ _ _ _ _ us hl => match us, hl with | [_, _, _], _ => rfl
  have F17 : C8.Fun K "has_piece" "Joins.has_piece" s_Joins_has_piece f17 _ := ⟨⟨_, _, _, _, _, _, _, _, _, _, rfl, l17, c17⟩⟩
  have b17 := F17.binds rfl (ps := ["self", "piece"]) fun _ _ _ _ _ _ us hl => match us, hl with | [_, _], _ => rfl
  have F18 : C8.Fun K "check_piece" "Joins.check_piece" s_Joins_check_piece f18 _ := ⟨⟨_, _, _, _, _, _, _, _, _, _, rfl, l18, c18⟩⟩
  have b18 := F18.binds rfl (ps := ["self", "piece"]) fun _ _ _ _ _ _ us hl => match us, hl with | [_, _], _ => rfl
  have F19 : C8.Fun K "spine" "spine" s_spine f19 _ := ⟨⟨_, _, _, _, _, _, _, _, _, _, rfl, l19, c19⟩⟩
  have b19 := F19.binds rfl (ps := ["joins", "piece", "side"]) fun _ _ _ _ _ _ us hl => match us, hl with | [_, _, _], _ => rfl
  have F20 : C8.Fun K "right_spine" "right_spine" s_right_spine f20 _ := ⟨⟨_, _, _, _, _, _, _, _, _, _, rfl, l20, c20⟩⟩
  have b20 := F20.binds rfl (ps := ["joins", "piece"]) fun _ _ _ _ _ _ us hl => match us, hl with | [_, _], _ => rfl
  have F21 : C8.Fun K "left_spine" "left_spine" s_left_spine f21 _ := ⟨⟨_, _, _, _, _, _, _, _, _, _, rfl, l21, c21⟩⟩
  have b21 := F21.binds rfl (ps := ["joins", "piece"]) fun _ _ _ _ _ _ us hl => match us, hl with | [_, _], _ => rfl
  have F22 : C8.Fun K "is_ahead_in_left" "is_ahead_in_left" s_is_ahead_in_left f22 _ := ⟨⟨_, _, _, _, _, _, _, _, _, _, rfl, l22, c22⟩⟩
  have b22 := F22.binds rfl (ps := ["rank", "bound"]) fun _ _ _ _ _ _ us hl => match us, hl with | [_, _], _ => rfl
  have F23 : C8.Fun K "is_ahead_in_right" "is_ahead_in_right" s_is_ahead_in_right f23 _ := ⟨⟨_, _, _, _, _, _, _, _, _, _, rfl, l23, c23⟩⟩
  have b23 := F23.binds rfl (ps := ["rank", "bound"]) fun _ _ _ _ _ _ us hl => match us, hl with | [_, _], _ => rfl
  have F24 : C8.Fun K "crossing" "crossing" s_crossing f24 _ := ⟨⟨_, _, _, _, _, _, _, _, _, _, rfl, l24, c24⟩⟩
  have b24 := F24.binds rfl (ps := ["joins", "left", "right"]) fun _ _ _ _ _ _ us hl => match us, hl with | [_, _, _], _ => rfl
  have F25 : C8.Fun K "side_by_side" "side_by_side" s_side_by_side f25 _ := ⟨⟨_, _, _, _, _, _, _, _, _, _, rfl, l25, c25⟩⟩
  have b25 := F25.binds rfl (ps := ["joins", "left", "right"]) fun _ _ _ _ _ _ us hl => match us, hl with | [_, _, _], _ => rfl
  have F26 : C8.Fun K "following_masks" "following_masks" s_following_masks f26 _ := ⟨⟨_, _, _, _, _, _, _, _, _, _, rfl, l26, c26⟩⟩
  have b26 := F26.binds rfl (ps := ["joins"]) fun _ _ _ _ _ _ us hl => match us, hl with | [_], _ => rfl
  have F27 : C8.Fun K "choices_behind" "choices_behind" s_choices_behind f27 _ := ⟨⟨_, _, _, _, _, _, _, _, _, _, rfl, l27, c27⟩⟩
  have b27 := F27.binds rfl (ps := ["joins"]) fun _ _ _ _ _ _ us hl => match us, hl with | [_], _ => rfl
  have F28 : C8.Fun K "is_cut" "is_cut" s_is_cut f28 _ := ⟨⟨_, _, _, _, _, _, _, _, _, _, rfl, l28, c28⟩⟩
  have b28 := F28.binds rfl (ps := ["joins", "row"]) fun _ _ _ _ _ _ us hl => match us, hl with | [_, _], _ => rfl
  have F29 : C8.Fun K "check_cut" "check_cut" s_check_cut f29 _ := ⟨⟨_, _, _, _, _, _, _, _, _, _, rfl, l29, c29⟩⟩
  have b29 := F29.binds rfl (ps := ["joins", "row"]) fun _ _ _ _ _ _ us hl => match us, hl with | [_, _], _ => rfl
  have F30 : C8.Fun K "continuations" "continuations" s_continuations f30 _ := ⟨⟨_, _, _, _, _, _, _, _, _, _, rfl, l30, c30⟩⟩
  have b30 := F30.binds rfl (ps := ["behind", "longest"]) fun _ _ _ _ _ _ us hl => match us, hl with | [_, _], _ => rfl
  have F31 : C8.Fun K "number_of_cut" "number_of_cut" s_number_of_cut f31 _ := ⟨⟨_, _, _, _, _, _, _, _, _, _, rfl, l31, c31⟩⟩
  have b31 := F31.binds rfl (ps := ["joins", "row"]) fun _ _ _ _ _ _ us hl => match us, hl with | [_, _], _ => rfl
  have F32 : C8.Fun K "cut_of_number" "cut_of_number" s_cut_of_number f32 _ := ⟨⟨_, _, _, _, _, _, _, _, _, _, rfl, l32, c32⟩⟩
  have b32 := F32.binds rfl (ps := ["joins", "many", "number"]) fun _ _ _ _ _ _ us hl => match us, hl with | [_, _, _], _ => rfl
  have F33 : C8.Fun K "choice_with_number" "choice_with_number" s_choice_with_number f33 _ := ⟨⟨_, _, _, _, _, _, _, _, _, _, rfl, l33, c33⟩⟩
  have b33 := F33.binds rfl (ps := ["choices", "counts", "number"]) fun _ _ _ _ _ _ us hl => match us, hl with | [_, _, _], _ => rfl
  have F34 : C8.Fun K "_law_pool" "_law_pool" s__law_pool f34 _ := ⟨⟨_, _, _, _, _, _, _, _, _, _, rfl, l34, c34⟩⟩
  have b34 := F34.binds rfl (ps := ["script", "many"]) fun _ _ _ _ _ _ us hl => match us, hl with | [_, _], _ => rfl
  have F35 : C8.Fun K "_law_draw" "_law_draw" s__law_draw f35 _ := ⟨⟨_, _, _, _, _, _, _, _, _, _, rfl, l35, c35⟩⟩
  have b35 := F35.binds rfl (ps := ["pool", "many"]) fun _ _ _ _ _ _ us hl => match us, hl with | [_, _], _ => rfl
  have F36 : C8.Fun K "_law_alphabet" "_law_alphabet" s__law_alphabet f36 _ := ⟨⟨_, _, _, _, _, _, _, _, _, _, rfl, l36, c36⟩⟩
  have b36 := F36.binds rfl (ps := ["pool"]) fun _ _ _ _ _ _ us hl => match us, hl with | [_], _ => rfl
  have F37 : C8.Fun K "_law_staged" "_law_staged" s__law_staged f37 _ := ⟨⟨_, _, _, _, _, _, _, _, _, _, rfl, l37, c37⟩⟩
  have b37 := F37.binds rfl (ps := ["pairs", "letters", "row", "many"]) fun _ _ _ _ _ _ us hl => match us, hl with | [_, _, _, _], _ => rfl
  have F38 : C8.Fun K "_law_cut" "_law_cut" s__law_cut f38 _ := ⟨⟨_, _, _, _, _, _, _, _, _, _, rfl, l38, c38⟩⟩
  have b38 := F38.binds rfl (ps := ["pairs", "alphabet", "text"]) fun _ _ _ _ _ _ us hl => match us, hl with | [_, _, _], _ => rfl
  have F39 : C8.Fun K "_law_pairs" "_law_pairs" s__law_pairs f39 _ := ⟨⟨_, _, _, _, _, _, _, _, _, _, rfl, l39, c39⟩⟩
  have b39 := F39.binds rfl (ps := ["pool", "alphabet", "most"]) fun _ _ _ _ _ _ us hl => match us, hl with | [_, _, _], _ => rfl
  have F40 : C8.Fun K "_law_text" "_law_text" s__law_text f40 _ := ⟨⟨_, _, _, _, _, _, _, _, _, _, rfl, l40, c40⟩⟩
  have b40 := F40.binds rfl (ps := ["pool", "alphabet", "texts", "most"]) fun _ _ _ _ _ _ us hl => match us, hl with | [_, _, _, _], _ => rfl
  have F41 : C8.Fun K "_law_few_letters" "_law_few_letters" s__law_few_letters f41 _ := ⟨⟨_, _, _, _, _, _, _, _, _, _, rfl, l41, c41⟩⟩
  have b41 := F41.binds rfl (ps := ["pool"]) fun _ _ _ _ _ _ us hl => match us, hl with | [_], _ => rfl
  have F42 : C8.Fun K "_law_sides" "_law_sides" s__law_sides f42 _ := ⟨⟨_, _, _, _, _, _, _, _, _, _, rfl, l42, c42⟩⟩
  have b42 := F42.binds rfl (ps := ["made", "alphabet"]) fun _ _ _ _ _ _ us hl => match us, hl with | [_, _], _ => rfl
  have F43 : C8.Fun K "_law_after" "_law_after" s__law_after f43 _ := ⟨⟨_, _, _, _, _, _, _, _, _, _, rfl, l43, c43⟩⟩
  have b43 := F43.binds rfl (ps := ["sides", "many"]) fun _ _ _ _ _ _ us hl => match us, hl with | [_, _], _ => rfl
  have F44 : C8.Fun K "_law_same" "_law_same" s__law_same f44 _ := ⟨⟨_, _, _, _, _, _, _, _, _, _, rfl, l44, c44⟩⟩
  have b44 := F44.binds rfl (ps := ["told", "due"]) fun _ _ _ _ _ _ us hl => match us, hl with | [_, _], _ => rfl
  have F45 : C8.Fun K "_law_alone" "_law_alone" s__law_alone f45 _ := ⟨⟨_, _, _, _, _, _, _, _, _, _, rfl, l45, c45⟩⟩
  have b45 := F45.binds rfl (ps := ["e", "kind"]) fun _ _ _ _ _ _ us hl => match us, hl with | [_, _], _ => rfl
  have F46 : C8.Fun K "_law_odd" "_law_odd" s__law_odd f46 _ := ⟨⟨_, _, _, _, _, _, _, _, _, _, rfl, l46, c46⟩⟩
  have b46 := F46.binds rfl (ps := ["pool", "most"]) fun _ _ _ _ _ _ us hl => match us, hl with | [_, _], _ => rfl
  have F47 : C8.Fun K "_law_below" "_law_below" s__law_below f47 _ := ⟨⟨_, _, _, _, _, _, _, _, _, _, rfl, l47, c47⟩⟩
  have b47 := F47.binds rfl (ps := ["sides", "after", "row"]) fun _ _ _ _ _ _ us hl => match us, hl with | [_, _, _], _ => rfl
  have F48 : C8.Fun K "_law_is_row" "_law_is_row" s__law_is_row f48 _ := ⟨⟨_, _, _, _, _, _, _, _, _, _, rfl, l48, c48⟩⟩
  have b48 := F48.binds rfl (ps := ["sides", "row", "many"]) fun _ _ _ _ _ _ us hl => match us, hl with | [_, _, _], _ => rfl
  have F49 : C8.Fun K "_law_as" "_law_as" s__law_as f49 _ := ⟨⟨_, _, _, _, _, _, _, _, _, _, rfl, l49, c49⟩⟩
  have b49 := F49.binds rfl (ps := ["pool", "row"]) fun _ _ _ _ _ _ us hl => match us, hl with | [_, _], _ => rfl
  have F50 : C8.Fun K "_law_refused_number" "_law_refused_number" s__law_refused_number f50 _ := ⟨⟨_, _, _, _, _, _, _, _, _, _, rfl, l50, c50⟩⟩
  have b50 := F50.binds rfl (ps := ["joins", "many", "number"]) fun _ _ _ _ _ _ us hl => match us, hl with | [_, _, _], _ => rfl
  have F51 : C8.Fun K "_law_refused_row" "_law_refused_row" s__law_refused_row f51 _ := ⟨⟨_, _, _, _, _, _, _, _, _, _, rfl, l51, c51⟩⟩
  have b51 := F51.binds rfl (ps := ["joins", "row"]) fun _ _ _ _ _ _ us hl => match us, hl with | [_, _], _ => rfl
  have F52 : C8.Fun K "law" "law" s_law fa _ := ⟨⟨_, _, _, _, _, _, _, _, _, _, rfl, l52, c52⟩⟩
  refine ⟨PySem.W.fnOf "law" "law" (C8.fnArgs s_law) (C8.fnBody s_law) (C8.fnScope s_law) .none kV52 dc52 pm52 an52 cd52 ct52, fun s v => .of_eq rfl, fun base _ _ => ?_⟩
  have GUnknownSign : mg "UnknownSign" = some (.ref CUnknownSign) := PySem.W.mg_of X G AUnknownSign
  have GInvalidNumber : mg "InvalidNumber" = some (.ref CInvalidNumber) := PySem.W.mg_of X G AInvalidNumber
  have GNoPiece : mg "NoPiece" = some (.ref CNoPiece) := PySem.W.mg_of X G ANoPiece
  have GNotCut : mg "NotCut" = some (.ref CNotCut) := PySem.W.mg_of X G ANotCut
  have GInvalidAlphabet : mg "InvalidAlphabet" = some (.ref CInvalidAlphabet) := PySem.W.mg_of X G AInvalidAlphabet
  have GInvalidModel : mg "InvalidModel" = some (.ref CInvalidModel) := PySem.W.mg_of X G AInvalidModel
  have GInvalidText : mg "InvalidText" = some (.ref CInvalidText) := PySem.W.mg_of X G AInvalidText
  have GNoChance : mg "NoChance" = some (.ref CNoChance) := PySem.W.mg_of X G ANoChance
  have GNotProper : mg "NotProper" = some (.ref CNotProper) := PySem.W.mg_of X G ANotProper
  have GJoinError : mg "JoinError" = some (.ref CJoinError) := PySem.W.mg_of X G AJoinError
  have hsuper : mg "super" = none := PySem.W.mg_none_of X G zsuper
  have eiUnknownSign : ErrI K CUnknownSign := ⟨by unfold PySem.W.clsIn; rw [XUnknownSign]; rfl, hUnknownSign, iUnknownSign, bUnknownSign, jUnknownSign, hn0, ht0, kUnknownSign, lUnknownSign⟩
  have SUnknownSign : SupF l.prog K CUnknownSign "UnknownSign.__init__" s_UnknownSign___init__ FUnknownSign _ := ⟨⟨_, _, _, _, _, _, _, _, _, _, _, rfl, LUnknownSign, DUnknownSign, ⟨_, _, _, _, _, _, KUnknownSign, VUnknownSign, QUnknownSign⟩, _, _, _, JUnknownSign⟩, htop, eUnknownSign, fUnknownSign, gUnknownSign, zopq, ⟨⟨_, _, _, _, _, _, _, _, _, _, _, _, _, _, _, XUnknownSign, RUnknownSign⟩, aUnknownSign, bUnknownSign, cUnknownSign, dUnknownSign⟩⟩
  have e0UnknownSign : ErrC l.prog w K mg base "UnknownSign" CUnknownSign (sp_err2 CUnknownSign "sign" "at" gSign) := ⟨SUnknownSign.oex, GUnknownSign, ⟨FUnknownSign, _, _, IUnknownSign, TUnknownSign, ok_UnknownSign SUnknownSign T hsuper nUnknownSign_sign nUnknownSign_at, .all fun us hl => match us, hl with | [_, _, _], _ => rfl⟩⟩
  have eiInvalidNumber : ErrI K CInvalidNumber := ⟨by unfold PySem.W.clsIn; rw [XInvalidNumber]; rfl, hInvalidNumber, iInvalidNumber, bInvalidNumber, jInvalidNumber, hn0, ht0, kInvalidNumber, lInvalidNumber⟩
  have SInvalidNumber : SupF l.prog K CInvalidNumber "InvalidNumber.__init__" s_InvalidNumber___init__ FInvalidNumber _ := ⟨⟨_, _, _, _, _, _, _, _, _, _, _, rfl, LInvalidNumber, DInvalidNumber, ⟨_, _, _, _, _, _, KInvalidNumber, VInvalidNumber, QInvalidNumber⟩, _, _, _, JInvalidNumber⟩, htop, eInvalidNumber, fInvalidNumber, gInvalidNumber, zopq, ⟨⟨_, _, _, _, _, _, _, _, _, _, _, _, _, _, _, XInvalidNumber, RInvalidNumber⟩, aInvalidNumber, bInvalidNumber, cInvalidNumber, dInvalidNumber⟩⟩
  have e0InvalidNumber : ErrC l.prog w K mg base "InvalidNumber" CInvalidNumber (sp_errV CInvalidNumber "number") := ⟨SInvalidNumber.oex, GInvalidNumber, ⟨FInvalidNumber, _, _, IInvalidNumber, TInvalidNumber, ok_InvalidNumberV SInvalidNumber T hsuper nInvalidNumber_number, .all fun us hl => match us, hl with | [_, _], _ => rfl⟩⟩
  have eiNotCut : ErrI K CNotCut := ⟨by unfold PySem.W.clsIn; rw [XNotCut]; rfl, hNotCut, iNotCut, bNotCut, jNotCut, hn0, ht0, kNotCut, lNotCut⟩
  have SNotCut : SupF l.prog K CNotCut "NotCut.__init__" s_NotCut___init__ FNotCut _ := ⟨⟨_, _, _, _, _, _, _, _, _, _, _, rfl, LNotCut, DNotCut, ⟨_, _, _, _, _, _, KNotCut, VNotCut, QNotCut⟩, _, _, _, JNotCut⟩, htop, eNotCut, fNotCut, gNotCut, zopq, ⟨⟨_, _, _, _, _, _, _, _, _, _, _, _, _, _, _, XNotCut, RNotCut⟩, aNotCut, bNotCut, cNotCut, dNotCut⟩⟩
  have e0NotCut : ErrC l.prog w K mg base "NotCut" CNotCut (sp_errT CNotCut "row") := ⟨SNotCut.oex, GNotCut, ⟨FNotCut, _, _, INotCut, TNotCut, ok_NotCutT SNotCut T hsuper nNotCut_row, .all fun us hl => match us, hl with | [_, _], _ => rfl⟩⟩
  have MInvalidNumberJoinError := PySem.W.exm_ref pJoinError qJoinError rJoinError mInvalidNumberJoinError
  have MNotCutJoinError := PySem.W.exm_ref pJoinError qJoinError rJoinError mNotCutJoinError
  have c_is_integer : C8.Cal l.prog w K mg base 1 "is_integer" sp_is_integer [] := ⟨⟨f0, _, _, _, ok_is_integer F0 T, PySem.W.mg_of X G a0, k0, b0, .nil⟩⟩
  have c_is_number_below : C8.Cal l.prog w K mg base 2 "is_number_below" sp_is_number_below [] := ⟨⟨f1, _, _, _, ok_is_number_below F1 T c_is_integer, PySem.W.mg_of X G a1, k1, b1, .nil⟩⟩
  have c_is_sign : C8.Cal l.prog w K mg base 1 "is_sign" sp_is_sign [] := ⟨⟨f2, _, _, _, ok_is_sign F2 T, PySem.W.mg_of X G a2, k2, b2, .nil⟩⟩
  have c_is_alphabet : C8.Cal l.prog w K mg base 2 "is_alphabet" sp_is_alphabet [] := ⟨⟨f3, _, _, _, ok_is_alphabet F3 T c_is_sign, PySem.W.mg_of X G a3, k3, b3, .nil⟩⟩
  have c_check_alphabet : C8.Cal l.prog w K mg base 3 "check_alphabet" sp_check_alphabet [] := ⟨⟨f4, _, _, _, ok_check_alphabet F4 T c_is_alphabet, PySem.W.mg_of X G a4, k4, b4, .nil⟩⟩
  have c_letter_row : C8.Cal l.prog w K mg base 1 "letter_row" sp_letter_row [] := ⟨⟨f6, _, _, _, ok_letter_row F6 T, PySem.W.mg_of X G a6, k6, b6, .nil⟩⟩
  have c_join_neighbors : C8.Cal l.prog w K mg base 1 "join_neighbors" sp_join_neighbors [] := ⟨⟨f7, _, _, _, ok_join_neighbors F7 T, PySem.W.mg_of X G a7, k7, b7, .nil⟩⟩
  have c_lowest_join : C8.Cal l.prog w K mg base 1 "lowest_join" sp_lowest_join [] := ⟨⟨f8, _, _, _, ok_lowest_join F8 T, PySem.W.mg_of X G a8, k8, b8, .nil⟩⟩
  have c_join_down : C8.Cal l.prog w K mg base 2 "join_down" sp_join_down [] := ⟨⟨f9, _, _, _, ok_join_down F9 T c_lowest_join c_join_neighbors, PySem.W.mg_of X G a9, k9, b9, .nil⟩⟩
  have c_may_follow : C8.Cal l.prog w K mg base 3 "may_follow" sp_may_follow [] := ⟨⟨f10, _, _, _, ok_may_follow F10 T c_is_number_below c_join_down c_letter_row, PySem.W.mg_of X G a10, k10, b10, .nil⟩⟩
  have k_Joins : C8.Mak l.prog w K mg base 4 "Joins" C (sp_init C) [] := ⟨⟨f11, _, _, _, ⟨mkC, a11, i11, kcC⟩, ok_init F11 T J c_check_alphabet c_may_follow, PySem.W.mg_of X G aC, b11, .nil⟩⟩
  have m___len__ : C8.Met l.prog w K mg base 1 C "__len__" (sp_len C) [] := ⟨⟨f13, _, _, _, J.cl, ⟨a13, i13, k13⟩, ok_len F13 T J, b13, .nil⟩⟩
  have c_check_number : C8.Cal l.prog w K mg base 3 "check_number" sp_check_number [] := ⟨⟨f5, _, _, _, ok_check_number F5 T c_is_number_below, PySem.W.mg_of X G a5, k5, b5, .nil⟩⟩
  have m_has_piece : C8.Met l.prog w K mg base 3 C "has_piece" (sp_has_piece C) [] := ⟨⟨f17, _, _, _, J.cl, ⟨a17, i17, k17⟩, ok_has_piece F17 T J c_is_number_below, b17, .nil⟩⟩
  have m_check_piece : C8.Met l.prog w K mg base 4 C "check_piece" (sp_check_piece C) [] := ⟨⟨f18, _, _, _, J.cl, ⟨a18, i18, k18⟩, ok_check_piece F18 T J m_has_piece, b18, .nil⟩⟩
  have m_parts_ofG : C8.Met l.prog w K mg base 5 C "parts_of" (sp_partsG C) [] := ⟨⟨f15, _, _, _, J.cl, ⟨a15, i15, k15⟩, ok_partsG F15 T J m_check_piece, b15, .nil⟩⟩
  have m_rank_of : C8.Met l.prog w K mg base 5 C "rank_of" (sp_rank C) [] := ⟨⟨f16, _, _, _, J.cl, ⟨a16, i16, k16⟩, ok_rank F16 T J m_check_piece, b16, .nil⟩⟩
  have c_spine : C8.Cal l.prog w K mg base 6 "spine" (sp_spine C) [] := ⟨⟨f19, _, _, _, ok_spine F19 T J m_parts_ofG m_rank_of, PySem.W.mg_of X G a19, k19, b19, .nil⟩⟩
  have c_right_spine : C8.Cal l.prog w K mg base 7 "right_spine" (sp_rspine 1 C) [] := ⟨⟨f20, _, _, _, ok_rspine F20 T J c_spine, PySem.W.mg_of X G a20, k20, b20, .nil⟩⟩
  have c_left_spine : C8.Cal l.prog w K mg base 7 "left_spine" (sp_rspine 0 C) [] := ⟨⟨f21, _, _, _, ok_lspine F21 T J c_spine, PySem.W.mg_of X G a21, k21, b21, .nil⟩⟩
  have c_is_ahead_in_left : C8.Cal l.prog w K mg base 1 "is_ahead_in_left" sp_aheadL [] := ⟨⟨f22, _, _, _, ok_aheadL F22 T, PySem.W.mg_of X G a22, k22, b22, .nil⟩⟩
  have c_is_ahead_in_right : C8.Cal l.prog w K mg base 1 "is_ahead_in_right" sp_aheadR [] := ⟨⟨f23, _, _, _, ok_aheadR F23 T, PySem.W.mg_of X G a23, k23, b23, .nil⟩⟩
  have c_crossing : C8.Cal l.prog w K mg base 8 "crossing" (sp_crossing C) [] := ⟨⟨f24, _, _, _, ok_crossing F24 T J c_right_spine c_left_spine m_rank_of c_is_ahead_in_left c_is_ahead_in_right, PySem.W.mg_of X G a24, k24, b24, .nil⟩⟩
  have c_side_by_side : C8.Cal l.prog w K mg base 9 "side_by_side" (sp_sides C) [] := ⟨⟨f25, _, _, _, ok_sides F25 T J c_crossing, PySem.W.mg_of X G a25, k25, b25, .nil⟩⟩
  have c_is_cut : C8.Cal l.prog w K mg base 10 "is_cut" (sp_is_cut C) [] := ⟨⟨f28, _, _, _, ok_is_cut F28 T J m_has_piece c_side_by_side, PySem.W.mg_of X G a28, k28, b28, .nil⟩⟩
  have c__law_pool : C8.Cal l.prog w K mg base 1 "_law_pool" (sp_pool K) [] := ⟨⟨f34, _, _, _, ok_pool F34 T, PySem.W.mg_of X G a34, k34, b34, .nil⟩⟩
  have c__law_draw : C8.Cal l.prog w K mg base 1 "_law_draw" sp_drawB [] := ⟨⟨f35, _, _, _, ok_drawB F35 T, PySem.W.mg_of X G a35, k35, b35, .nil⟩⟩
  have c__law_alphabet : C8.Cal l.prog w K mg base 2 "_law_alphabet" sp_alphabetB [] := ⟨⟨f36, _, _, _, ok_alphabetB F36 T c__law_draw, PySem.W.mg_of X G a36, k36, b36, .nil⟩⟩
  have c__law_staged : C8.Cal l.prog w K mg base 1 "_law_staged" sp_stagedB [] := ⟨⟨f37, _, _, _, ok_stagedB F37 T, PySem.W.mg_of X G a37, k37, b37, .nil⟩⟩
  have c__law_cut : C8.Cal l.prog w K mg base 2 "_law_cut" sp_cutB [] := ⟨⟨f38, _, _, _, ok_cutB F38 T c__law_staged, PySem.W.mg_of X G a38, k38, b38, .nil⟩⟩
  have c__law_pairs : C8.Cal l.prog w K mg base 3 "_law_pairs" sp_pairsB [] := ⟨⟨f39, _, _, _, ok_pairsB F39 T c__law_draw c__law_cut, PySem.W.mg_of X G a39, k39, b39, .nil⟩⟩
  have c__law_text : C8.Cal l.prog w K mg base 2 "_law_text" sp_textB [] := ⟨⟨f40, _, _, _, ok_textB F40 T c__law_draw, PySem.W.mg_of X G a40, k40, b40, .nil⟩⟩
  have x_letter_row : CalX l.prog w K mg base 3 "letter_row" (sp_letter_rowX CUnknownSign) := ⟨⟨f6, _, _, ok_letter_rowX F6 T e0UnknownSign, PySem.W.mg_of X G a6, k6, b6⟩⟩
  have m___iter__ : C8.Met l.prog w K mg base 1 C "__iter__" (sp_iter C) [] := ⟨⟨f14, _, _, _, J.cl, ⟨a14, i14, k14⟩, ok_iter F14 T J, b14, .nil⟩⟩
  have p_pieces : PrpC l.prog w K mg base 1 C "pieces" (sp_pieces C) := ⟨⟨pp12, f12, _, _, J.cl, ⟨a12, s12, t12, ⟨_, r12⟩⟩, ok_pieces F12 T J, b12⟩⟩
  have c_spineF : C8.Cal l.prog w K mg base 6 "spine" (sp_spineF C) [] := ⟨⟨f19, _, _, _, ok_spineF F19 T J m_parts_ofG m_rank_of, PySem.W.mg_of X G a19, k19, b19, .nil⟩⟩
  have c_right_spineF : C8.Cal l.prog w K mg base 7 "right_spine" (sp_rspineF 1 C) [] := ⟨⟨f20, _, _, _, ok_rspineF F20 T J c_spineF, PySem.W.mg_of X G a20, k20, b20, .nil⟩⟩
  have c_left_spineF : C8.Cal l.prog w K mg base 7 "left_spine" (sp_rspineF 0 C) [] := ⟨⟨f21, _, _, _, ok_lspineF F21 T J c_spineF, PySem.W.mg_of X G a21, k21, b21, .nil⟩⟩
  have c_following_masks : C8.Cal l.prog w K mg base 8 "following_masks" (sp_masks C) [] := ⟨⟨f26, _, _, _, ok_masks F26 T J p_pieces m___iter__ c_right_spineF c_left_spineF c_is_ahead_in_left c_is_ahead_in_right, PySem.W.mg_of X G a26, k26, b26, .nil⟩⟩
  have c_check_cut : C8.Cal l.prog w K mg base 11 "check_cut" (sp_check_cut C) [] := ⟨⟨f29, _, _, _, ok_check_cut F29 T c_is_cut, PySem.W.mg_of X G a29, k29, b29, .nil⟩⟩
  have c_same0 : C8.Cal l.prog w K mg base 1 "_law_same" (sp_same 0) [] := ⟨⟨f44, _, _, _, ok_sameP0 F44 T, PySem.W.mg_of X G a44, k44, b44, .nil⟩⟩
  have c_same1 : C8.Cal l.prog w K mg base 2 "_law_same" (sp_same 1) [] := ⟨⟨f44, _, _, _, ok_samePS F44 T c_same0, PySem.W.mg_of X G a44, k44, b44, .nil⟩⟩
  have x_check_numberV : CalX l.prog w K mg base 3 "check_number" (sp_check_numberV CInvalidNumber) := ⟨⟨f5, _, _, ok_check_numberV F5 T c_is_number_below e0InvalidNumber, PySem.W.mg_of X G a5, k5, b5⟩⟩
  have h_sameP0 : CalH l.prog w K mg base 1 "_law_same" (sp_same 0) := ⟨⟨f44, _, _, ok_sameHP0 F44 T, PySem.W.mg_of X G a44, k44, b44⟩⟩
  have h_sameX : CalH l.prog w K mg base 2 "_law_same" (fun vs H Q E => sp_same 1 vs H Q E ∨ sp_sameL 0 vs H Q E) := ⟨⟨f44, _, _, ok_sameHX F44 T h_sameP0, PySem.W.mg_of X G a44, k44, b44⟩⟩
  have e_alone1 : CalE l.prog w K mg base 1 "_law_alone" (sp_alone CInvalidNumber 1) := ⟨⟨f45, _, _, PySem.W.mg_of X G a45, k45, b45, fun p cls d hz hf => ok_alone1 F45 T GUnknownSign GInvalidNumber GNoPiece GNotCut GInvalidAlphabet GInvalidModel GInvalidText GNoChance GNotProper eiInvalidNumber oInvalidNumberUnknownSign oInvalidNumberInvalidNumber oInvalidNumberNoPiece oInvalidNumberNotCut oInvalidNumberValueError oAnyInvalidNumber p cls d hz hf⟩⟩
  have e_aloneN : CalE l.prog w K mg base 1 "_law_alone" (sp_alone CNotCut 3) := ⟨⟨f45, _, _, PySem.W.mg_of X G a45, k45, b45, fun p cls d hz hf => ok_aloneN F45 T GUnknownSign GInvalidNumber GNoPiece GNotCut GInvalidAlphabet GInvalidModel GInvalidText GNoChance GNotProper eiNotCut oNotCutUnknownSign oNotCutInvalidNumber oNotCutNoPiece oNotCutNotCut oNotCutValueError oAnyNotCut p cls d hz hf⟩⟩
  have x_check_cut : CalX l.prog w K mg base 11 "check_cut" (sp_check_cutB C CNotCut) := ⟨⟨f29, _, _, ok_check_cutB F29 T c_is_cut e0NotCut, PySem.W.mg_of X G a29, k29, b29⟩⟩
  have c__law_as : C8.Cal l.prog w K mg base 2 "_law_as" sp_as [] := ⟨⟨f49, _, _, _, ok_as F49 T c__law_draw, PySem.W.mg_of X G a49, k49, b49, .nil⟩⟩
  have c_choices_behind : C8.Cal l.prog w K mg base 9 "choices_behind" (sp_choices C) [] := ⟨⟨f27, _, _, _, ok_choices F27 T J p_pieces c_following_masks, PySem.W.mg_of X G a27, k27, b27, .nil⟩⟩
  have c_continuations : C8.Cal l.prog w K mg base 1 "continuations" sp_conts [] := ⟨⟨f30, _, _, _, ok_conts F30 T, PySem.W.mg_of X G a30, k30, b30, .nil⟩⟩
  have c__law_few_letters : C8.Cal l.prog w K mg base 3 "_law_few_letters" sp_few [] := ⟨⟨f41, _, _, _, ok_few F41 T c__law_alphabet, PySem.W.mg_of X G a41, k41, b41, .nil⟩⟩
  have c__law_sides : C8.Cal l.prog w K mg base 3 "_law_sides" sp_lsides [] := ⟨⟨f42, _, _, _, ok_lsides F42 T c__law_cut, PySem.W.mg_of X G a42, k42, b42, .nil⟩⟩
  have c__law_after : C8.Cal l.prog w K mg base 1 "_law_after" sp_lafter [] := ⟨⟨f43, _, _, _, ok_lafter F43 T, PySem.W.mg_of X G a43, k43, b43, .nil⟩⟩
  have c_number_of_cut : C8.Cal l.prog w K mg base 12 "number_of_cut" (sp_ncut C) [] := ⟨⟨f31, _, _, _, ok_ncut F31 T c_check_cut c_choices_behind c_continuations, PySem.W.mg_of X G a31, k31, b31, .nil⟩⟩
  have c_choice_with_number : C8.Cal l.prog w K mg base 1 "choice_with_number" sp_choose [] := ⟨⟨f33, _, _, _, ok_choose F33 T, PySem.W.mg_of X G a33, k33, b33, .nil⟩⟩
  have c_cut_of_number : C8.Cal l.prog w K mg base 10 "cut_of_number" (sp_cutnum C) [] := ⟨⟨f32, _, _, _, ok_cutnum F32 T c_choices_behind c_continuations c_check_number c_choice_with_number, PySem.W.mg_of X G a32, k32, b32, .nil⟩⟩
  have c__law_below : C8.Cal l.prog w K mg base 1 "_law_below" sp_lbelow [] := ⟨⟨f47, _, _, _, ok_lbelow F47 T, PySem.W.mg_of X G a47, k47, b47, .nil⟩⟩
  have c__law_is_row : C8.Cal l.prog w K mg base 1 "_law_is_row" sp_lisrow [] := ⟨⟨f48, _, _, _, ok_lisrow F48 T, PySem.W.mg_of X G a48, k48, b48, .nil⟩⟩
  have c__law_as2 : C8.Cal l.prog w K mg base 2 "_law_as" sp_as2 [] := ⟨⟨f49, _, _, _, ok_as2 F49 T c__law_draw, PySem.W.mg_of X G a49, k49, b49, .nil⟩⟩
  have c__law_oddB : C8.Cal l.prog w K mg base 2 "_law_odd" sp_oddB [] := ⟨⟨f46, _, _, _, ok_oddB F46 T c__law_draw, PySem.W.mg_of X G a46, k46, b46, .nil⟩⟩
  have x_cut_of_number : CalX l.prog w K mg base 10 "cut_of_number" (sp_cutnumX C CInvalidNumber) := ⟨⟨f32, _, _, ok_cutnumX F32 T c_choices_behind c_continuations x_check_numberV c_choice_with_number, PySem.W.mg_of X G a32, k32, b32⟩⟩
  have x_number_of_cut : CalX l.prog w K mg base 12 "number_of_cut" (sp_ncutX C CNotCut) := ⟨⟨f31, _, _, ok_ncutX F31 T x_check_cut c_choices_behind c_continuations, PySem.W.mg_of X G a31, k31, b31⟩⟩
  have c__law_refused_number : C8.Cal l.prog w K mg base 11 "_law_refused_number" (sp_refNum C) [] := ⟨⟨f50, _, _, _, ok_refNum F50 T x_cut_of_number h_sameX e_alone1 GJoinError eiInvalidNumber nInvalidNumber_number MInvalidNumberJoinError, PySem.W.mg_of X G a50, k50, b50, .nil⟩⟩
  have c__law_refused_row : C8.Cal l.prog w K mg base 13 "_law_refused_row" (sp_refRow C) [] := ⟨⟨f51, _, _, _, ok_refRow F51 T x_number_of_cut h_sameX e_aloneN GJoinError eiNotCut nNotCut_row MNotCutJoinError, PySem.W.mg_of X G a51, k51, b51, .nil⟩⟩
  exact ok_law F52 T J c__law_pool c__law_few_letters c__law_pairs c__law_draw k_Joins c__law_sides c__law_after c_cut_of_number c__law_is_row c__law_below c_number_of_cut c__law_as2 c_same1 c__law_text c__law_cut c__law_refused_number c__law_oddB c__law_refused_row
theorem walk {l : PySem.W.OpenLaw} {q : Program} {loose : List Str} {XP : (Str → Option Value) → Heap → Prop} {YP : World → Heap → Prop} {d : DefRec} {K : Params → PySem.W.Frag} (hn : l.most = some 63) (hdf : d.params.defaults = [])
    (hY : ∀ (w : World) (h : Heap), YP w h → (K w.params).In h)
    (F : ∀ (w : World) (mg : Str → Option Value) (fa : Addr) (h : Heap), (K w.params).In h → h.Ns mainGlobals mg → mg d.name = some (.ref fa) →
      ∃ fd : FuncData, (∀ (s : Shared) (u : Value), BindsTo s fd ⟨[u], []⟩ [("script", u)]) ∧ ∀ base : Heap, (K w.params).In base → base.Ns mainGlobals mg → FnOk l.prog w (K w.params) mg base C8.CX0 14 fa fd ["script"] (sp_law (K w.params))) :
    PySem.W.WalkO q loose XP YP l.row.toRowW d [] (fun f vs => PySem.call f vs) :=
  L2.walk_of (n := 63) (k := 14) (x := "script") (CX := fun _ => C8.CX0) (sp := fun w => sp_law (K w.params)) hn (by decide) hdf ⟨rfl, by decide, by decide⟩ hY F (fun _ _ a ns hl _ hS => ⟨a, ns, rfl, hS, hl, fun _ => rfl⟩) fun _ _ _ _ _ z => z
end RJ
end

section
open PySem PySem.W PyProof.Rows
set_option maxRecDepth 100000 in
set_option maxHeartbeats 0 in
theorem PySem.Challenge.cw_rankedjoins_k36_numbers_of_cuts_and_back_holds : PySem.Challenge.rw_rankedjoins_k36_numbers_of_cuts_and_back.Holds := by
  w_on; o_law; k_head; (case hw => w_witness2)
  k_fill
  refine RJ.walk (l := PySem.Challenge.rw_rankedjoins_k36_numbers_of_cuts_and_back) rfl rfl (fun w h Y => PySem.W.kIn_of Y) ?F
  case F =>
    intro w mg fa h KX G hmg
    refine' RJ.all_mk KX G hmg ?aC ?a0 ?l0 ?c0 ?k0 ?a1 ?l1 ?c1 ?k1 ?a2 ?l2 ?c2 ?k2 ?a3 ?l3 ?c3 ?k3 ?a4 ?l4 ?c4 ?k4 ?a5 ?l5 ?c5 ?k5 ?a6 ?l6 ?c6 ?k6 ?a7 ?l7 ?c7 ?k7 ?a8 ?l8 ?c8 ?k8 ?a9 ?l9 ?c9 ?k9 ?a10 ?l10 ?c10 ?k10 ?a11 ?i11 ?l11 ?c11 ?k11 ?a12 ?s12 ?t12 ?r12 ?l12 ?c12 ?k12 ?a13 ?i13 ?l13 ?c13 ?k13 ?a14 ?i14 ?l14 ?c14 ?k14 ?a15 ?i15 ?l15 ?c15 ?k15 ?a16 ?i16 ?l16 ?c16 ?k16 ?a17 ?i17 ?l17 ?c17 ?k17 ?a18 ?i18 ?l18 ?c18 ?k18 ?a19 ?l19 ?c19 ?k19 ?a20 ?l20 ?c20 ?k20 ?a21 ?l21 ?c21 ?k21 ?a22 ?l22 ?c22 ?k22 ?a23 ?l23 ?c23 ?k23 ?a24 ?l24 ?c24 ?k24 ?a25 ?l25 ?c25 ?k25 ?a26 ?l26 ?c26 ?k26 ?a27 ?l27 ?c27 ?k27 ?a28 ?l28 ?c28 ?k28 ?a29 ?l29 ?c29 ?k29 ?a30 ?l30 ?c30 ?k30 ?a31 ?l31 ?c31 ?k31 ?a32 ?l32 ?c32 ?k32 ?a33 ?l33 ?c33 ?k33 ?a34 ?l34 ?c34 ?k34 ?a35 ?l35 ?c35 ?k35 ?a36 ?l36 ?c36 ?k36 ?a37 ?l37 ?c37 ?k37 ?a38 ?l38 ?c38 ?k38 ?a39 ?l39 ?c39 ?k39 ?a40 ?l40 ?c40 ?k40 ?a41 ?l41 ?c41 ?k41 ?a42 ?l42 ?c42 ?k42 ?a43 ?l43 ?c43 ?k43 ?a44 ?l44 ?c44 ?k44 ?a45 ?l45 ?c45 ?k45 ?a46 ?l46 ?c46 ?k46 ?a47 ?l47 ?c47 ?k47 ?a48 ?l48 ?c48 ?k48 ?a49 ?l49 ?c49 ?k49 ?a50 ?l50 ?c50 ?k50 ?a51 ?l51 ?c51 ?k51 ?a52 ?l52 ?c52 ?k52 ?pgC ?hdC ?poC ?saC ?mkC ?kcC ?nC0 ?nC1 ?nC2 ?nC3 ?nC4 ?AUnknownSign ?AInvalidNumber ?ANoPiece ?ANotCut ?AInvalidAlphabet ?AInvalidModel ?AInvalidText ?ANoChance ?ANotProper ?AJoinError ?zsuper ?zopq ?hn0 ?ht0 ?IUnknownSign ?TUnknownSign ?LUnknownSign ?DUnknownSign ?KUnknownSign ?VUnknownSign ?QUnknownSign ?JUnknownSign ?XUnknownSign ?RUnknownSign ?aUnknownSign ?bUnknownSign ?cUnknownSign ?dUnknownSign ?eUnknownSign ?fUnknownSign ?gUnknownSign ?hUnknownSign ?iUnknownSign ?jUnknownSign ?kUnknownSign ?lUnknownSign ?nUnknownSign_sign ?nUnknownSign_at ?IInvalidNumber ?TInvalidNumber ?LInvalidNumber ?DInvalidNumber ?KInvalidNumber ?VInvalidNumber ?QInvalidNumber ?JInvalidNumber ?XInvalidNumber ?RInvalidNumber ?aInvalidNumber ?bInvalidNumber ?cInvalidNumber ?dInvalidNumber ?eInvalidNumber ?fInvalidNumber ?gInvalidNumber ?hInvalidNumber ?iInvalidNumber ?jInvalidNumber ?kInvalidNumber ?lInvalidNumber ?nInvalidNumber_number ?INotCut ?TNotCut ?LNotCut ?DNotCut ?KNotCut ?VNotCut ?QNotCut ?JNotCut ?XNotCut ?RNotCut ?aNotCut ?bNotCut ?cNotCut ?dNotCut ?eNotCut ?fNotCut ?gNotCut ?hNotCut ?iNotCut ?jNotCut ?kNotCut ?lNotCut ?nNotCut_row ?mInvalidNumberJoinError ?mNotCutJoinError ?oInvalidNumberInvalidNumber ?oInvalidNumberValueError ?oInvalidNumberUnknownSign ?oInvalidNumberNoPiece ?oInvalidNumberNotCut ?oAnyInvalidNumber ?oNotCutNotCut ?oNotCutValueError ?oNotCutInvalidNumber ?oNotCutNoPiece ?oNotCutUnknownSign ?oAnyNotCut ?pJoinError ?qJoinError ?rJoinError ?htop ?z0 ?z1 ?z2 ?z3 ?z4 ?z5 ?z6 ?z7 ?z8 ?z9 ?z10 ?z11 ?z12 ?z13 ?z14 ?z15 ?z16 ?z17 ?z18 ?z19 ?v0 ?v1
    (case aC => k_is); (case a0 => k_is); (case l0 => k_is); (case c0 => k_is); (case k0 => k_is); (case a1 => k_is)
    (case l1 => k_is); (case c1 => k_is); (case k1 => k_is); (case a2 => k_is); (case l2 => k_is); (case c2 => k_is)
    (case k2 => k_is); (case a3 => k_is); (case l3 => k_is); (case c3 => k_is); (case k3 => k_is); (case a4 => k_is)
    (case l4 => k_is); (case c4 => k_is); (case k4 => k_is); (case a5 => k_is); (case l5 => k_is); (case c5 => k_is)
    (case k5 => k_is); (case a6 => k_is); (case l6 => k_is); (case c6 => k_is); (case k6 => k_is); (case a7 => k_is)
    (case l7 => k_is); (case c7 => k_is); (case k7 => k_is); (case a8 => k_is); (case l8 => k_is); (case c8 => k_is)
    (case k8 => k_is); (case a9 => k_is); (case l9 => k_is); (case c9 => k_is); (case k9 => k_is); (case a10 => k_is)
    (case l10 => k_is); (case c10 => k_is); (case k10 => k_is); (case a11 => k_is); (case i11 => k_is); (case l11 => k_is)
    (case c11 => k_is); (case k11 => k_is); (case a12 => k_is); (case s12 => k_is); (case t12 => k_is); (case r12 => k_is)
    (case l12 => k_is); (case c12 => k_is); (case k12 => k_is); (case a13 => k_is); (case i13 => k_is); (case l13 => k_is)
    (case c13 => k_is); (case k13 => k_is); (case a14 => k_is); (case i14 => k_is); (case l14 => k_is); (case c14 => k_is)
    (case k14 => k_is); (case a15 => k_is); (case i15 => k_is); (case l15 => k_is); (case c15 => k_is); (case k15 => k_is)
    (case a16 => k_is); (case i16 => k_is); (case l16 => k_is); (case c16 => k_is); (case k16 => k_is); (case a17 => k_is)
    (case i17 => k_is); (case l17 => k_is); (case c17 => k_is); (case k17 => k_is); (case a18 => k_is); (case i18 => k_is)
    (case l18 => k_is); (case c18 => k_is); (case k18 => k_is); (case a19 => k_is); (case l19 => k_is); (case c19 => k_is)
    (case k19 => k_is); (case a20 => k_is); (case l20 => k_is); (case c20 => k_is); (case k20 => k_is); (case a21 => k_is)
    (case l21 => k_is); (case c21 => k_is); (case k21 => k_is); (case a22 => k_is); (case l22 => k_is); (case c22 => k_is)
    (case k22 => k_is); (case a23 => k_is); (case l23 => k_is); (case c23 => k_is); (case k23 => k_is); (case a24 => k_is)
    (case l24 => k_is); (case c24 => k_is); (case k24 => k_is); (case a25 => k_is); (case l25 => k_is); (case c25 => k_is)
    (case k25 => k_is); (case a26 => k_is); (case l26 => k_is); (case c26 => k_is); (case k26 => k_is); (case a27 => k_is)
    (case l27 => k_is); (case c27 => k_is); (case k27 => k_is); (case a28 => k_is); (case l28 => k_is); (case c28 => k_is)
    (case k28 => k_is); (case a29 => k_is); (case l29 => k_is); (case c29 => k_is); (case k29 => k_is); (case a30 => k_is)
    (case l30 => k_is); (case c30 => k_is); (case k30 => k_is); (case a31 => k_is); (case l31 => k_is); (case c31 => k_is)
    (case k31 => k_is); (case a32 => k_is); (case l32 => k_is); (case c32 => k_is); (case k32 => k_is); (case a33 => k_is)
    (case l33 => k_is); (case c33 => k_is); (case k33 => k_is); (case a34 => k_is); (case l34 => k_is); (case c34 => k_is)
    (case k34 => k_is); (case a35 => k_is); (case l35 => k_is); (case c35 => k_is); (case k35 => k_is); (case a36 => k_is)
    (case l36 => k_is); (case c36 => k_is); (case k36 => k_is); (case a37 => k_is); (case l37 => k_is); (case c37 => k_is)
    (case k37 => k_is); (case a38 => k_is); (case l38 => k_is); (case c38 => k_is); (case k38 => k_is); (case a39 => k_is)
    (case l39 => k_is); (case c39 => k_is); (case k39 => k_is); (case a40 => k_is); (case l40 => k_is); (case c40 => k_is)
    (case k40 => k_is); (case a41 => k_is); (case l41 => k_is); (case c41 => k_is); (case k41 => k_is); (case a42 => k_is)
    (case l42 => k_is); (case c42 => k_is); (case k42 => k_is); (case a43 => k_is); (case l43 => k_is); (case c43 => k_is)
    (case k43 => k_is); (case a44 => k_is); (case l44 => k_is); (case c44 => k_is); (case k44 => k_is); (case a45 => k_is)
    (case l45 => k_is); (case c45 => k_is); (case k45 => k_is); (case a46 => k_is); (case l46 => k_is); (case c46 => k_is)
    (case k46 => k_is); (case a47 => k_is); (case l47 => k_is); (case c47 => k_is); (case k47 => k_is); (case a48 => k_is)
    (case l48 => k_is); (case c48 => k_is); (case k48 => k_is); (case a49 => k_is); (case l49 => k_is); (case c49 => k_is)
    (case k49 => k_is); (case a50 => k_is); (case l50 => k_is); (case c50 => k_is); (case k50 => k_is); (case a51 => k_is)
    (case l51 => k_is); (case c51 => k_is); (case k51 => k_is); (case a52 => k_is); (case l52 => k_is); (case c52 => k_is)
    (case k52 => k_is); (case pgC => k_is); (case hdC => k_is); (case poC => k_is); (case saC => k_is); (case mkC => k_is)
    (case kcC => k_is); (case nC0 => k_is); (case nC1 => k_is); (case nC2 => k_is); (case nC3 => k_is); (case nC4 => k_is)
    (case AUnknownSign => k_is); (case AInvalidNumber => k_is); (case ANoPiece => k_is); (case ANotCut => k_is); (case AInvalidAlphabet => k_is); (case AInvalidModel => k_is)
    (case AInvalidText => k_is); (case ANoChance => k_is); (case ANotProper => k_is); (case AJoinError => k_is); (case zsuper => k_is); (case zopq => k_is)
    (case hn0 => k_is); (case ht0 => k_is); (case IUnknownSign => k_is); (case TUnknownSign => k_is); (case LUnknownSign => k_is); (case DUnknownSign => k_is)
    (case KUnknownSign => k_is); (case VUnknownSign => exact rfl); (case QUnknownSign => first | rfl | decide +kernel); (case JUnknownSign => k_is); (case XUnknownSign => k_is); (case RUnknownSign => exact rfl)
    (case aUnknownSign => k_is); (case bUnknownSign => k_is); (case cUnknownSign => k_is); (case dUnknownSign => k_is); (case eUnknownSign => ks_is); (case fUnknownSign => k_is)
    (case gUnknownSign => k_is); (case hUnknownSign => k_is); (case iUnknownSign => k_is); (case jUnknownSign => k_is); (case kUnknownSign => k_is); (case lUnknownSign => k_is)
    (case nUnknownSign_sign => k_is); (case nUnknownSign_at => k_is); (case IInvalidNumber => k_is); (case TInvalidNumber => k_is); (case LInvalidNumber => k_is); (case DInvalidNumber => k_is)
    (case KInvalidNumber => k_is); (case VInvalidNumber => exact rfl); (case QInvalidNumber => first | rfl | decide +kernel); (case JInvalidNumber => k_is); (case XInvalidNumber => k_is); (case RInvalidNumber => exact rfl)
    (case aInvalidNumber => k_is); (case bInvalidNumber => k_is); (case cInvalidNumber => k_is); (case dInvalidNumber => k_is); (case eInvalidNumber => ks_is); (case fInvalidNumber => k_is)
    (case gInvalidNumber => k_is); (case hInvalidNumber => k_is); (case iInvalidNumber => k_is); (case jInvalidNumber => k_is); (case kInvalidNumber => k_is); (case lInvalidNumber => k_is)
    (case nInvalidNumber_number => k_is); (case INotCut => k_is); (case TNotCut => k_is); (case LNotCut => k_is); (case DNotCut => k_is); (case KNotCut => k_is)
    (case VNotCut => exact rfl); (case QNotCut => first | rfl | decide +kernel); (case JNotCut => k_is); (case XNotCut => k_is); (case RNotCut => exact rfl); (case aNotCut => k_is)
    (case bNotCut => k_is); (case cNotCut => k_is); (case dNotCut => k_is); (case eNotCut => ks_is); (case fNotCut => k_is); (case gNotCut => k_is)
    (case hNotCut => k_is); (case iNotCut => k_is); (case jNotCut => k_is); (case kNotCut => k_is); (case lNotCut => k_is); (case nNotCut_row => k_is)
    (case mInvalidNumberJoinError => k_is); (case mNotCutJoinError => k_is); (case oInvalidNumberInvalidNumber => kit_is); (case oInvalidNumberValueError => kit_is); (case oInvalidNumberUnknownSign => kit_is); (case oInvalidNumberNoPiece => kit_is)
    (case oInvalidNumberNotCut => kit_is); (case oAnyInvalidNumber => kit_is); (case oNotCutNotCut => kit_is); (case oNotCutValueError => kit_is); (case oNotCutInvalidNumber => kit_is); (case oNotCutNoPiece => kit_is)
    (case oNotCutUnknownSign => kit_is); (case oAnyNotCut => kit_is); (case pJoinError => k_is); (case qJoinError => k_is); (case rJoinError => k_is); (case htop => decide +kernel)
    (case z0 => k_is); (case z1 => k_is); (case z2 => k_is); (case z3 => k_is); (case z4 => k_is); (case z5 => k_is)
    (case z6 => k_is); (case z7 => k_is); (case z8 => k_is); (case z9 => k_is); (case z10 => k_is); (case z11 => k_is)
    (case z12 => k_is); (case z13 => k_is); (case z14 => k_is); (case z15 => k_is); (case z16 => k_is); (case z17 => k_is)
    (case z18 => k_is); (case z19 => k_is); (case v0 => k_is); (case v1 => k_is)
end
