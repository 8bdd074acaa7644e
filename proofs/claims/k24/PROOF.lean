import PyProof.Rows.All
import Wide.All
import OpenK.AllK
import Wide.FinOn
import HandS.ForMost
import HandS.Codes
import HandS.Zip
import HandS.SortKw
import KE.GoesEnum
import KE.GoesZip
import KE.KDictZip
import KE.DataMinMax
import KE.SortData
import PyProof.ListStr
import PyProof.StrBlock2
import HandS.TupAny
import HandS.ExcInit
import HandS.ExcField
import HandS.ExcIs
import HandS.FStr
import HandS.HotCalls
import KE.KExcSuper
import KE.KExcIs
import HandS.IsInst
import HandS.Comp
import KE.KOwnIter
import HandS.MapObj
import HandS.Iter
import KE.KDictPairs
import HandS.Conv
import HandS.Dict
import HandS.Property
import HandS.Style
import PyProof.Rows.StrStep
import PyProof.AutoSeq1
import HandS.DictComp
import HandS.Walk
import HandS.Replace
import HandS.Deep
import HandS.More
import HandS.WideBits
import PyProof.StrLawsRepr
import HandS.SetKeys
import PySem.Challenge.RW_rankedjoins_k24_any_breaks
set_option Elab.async false
set_option linter.all false
section
namespace RJ
/-- neighbors of a row -/
def adjs (row : List Nat) : List (Nat × Nat) := row.zip row.tail
theorem adjs_cons2 (a b : Nat) (t : List Nat) : adjs (a :: b :: t) = (a, b) :: adjs (b :: t) := rfl
theorem adjs_one (a : Nat) : adjs [a] = [] := rfl
theorem adjs_nil : adjs [] = [] := rfl
/-- one pass from left to right -/
def pass (l r m : Nat) : List Nat → List Nat
  | [] => []
  | [a] => [a]
  | a :: b :: t => if a = l ∧ b = r then m :: pass l r m t else a :: pass l r m (b :: t)
theorem pass_id {l r m : Nat} : ∀ {row : List Nat}, (l, r) ∉ adjs row → pass l r m row = row
  | [], _ => rfl
  | [a], _ => rfl
  | a :: b :: t, h => by
    rw [adjs_cons2] at h
    have h1 : ¬ (a = l ∧ b = r) := fun q => h (by rw [q.1, q.2]; exact List.mem_cons_self ..)
    rw [pass, if_neg h1, pass_id (row := b :: t) fun q => h (List.mem_cons_of_mem _ q)]
theorem pass_head {l r m : Nat} : ∀ {a : Nat} {t : List Nat}, ∃ x rest, pass l r m (a :: t) = x :: rest ∧ (x = a ∨ x = m)
  | a, [] => ⟨a, [], rfl, .inl rfl⟩
  | a, b :: t => by
    rw [pass]
    split
    · exact ⟨m, _, rfl, .inr rfl⟩
    · exact ⟨a, _, rfl, .inl rfl⟩
theorem mem_adjs_cons {p : Nat × Nat} {a : Nat} {t : List Nat} (h : p ∈ adjs t) : p ∈ adjs (a :: t) := by
  cases t with
  | nil => rw [adjs_nil] at h; cases h
  | cons b t => rw [adjs_cons2]; exact List.mem_cons_of_mem _ h
theorem pass_adj {l r m : Nat} {p : Nat × Nat} : ∀ {row : List Nat}, p ∈ adjs (pass l r m row) → (p ∈ adjs row ∧ p ≠ (l, r)) ∨ p.1 = m ∨ p.2 = m
  | [], h => by cases h
  | [a], h => by cases h
  | a :: b :: t, h => by
    rw [pass] at h
    split at h
    · rename_i hab
      cases e : pass l r m t with
      | nil => rw [e] at h; cases h
      | cons x rest =>
        rw [e, adjs_cons2] at h
        rcases List.mem_cons.mp h with q | q
        · exact .inr (.inl (by rw [q]))
        · rw [← e] at q
          rcases pass_adj q with ⟨q1, q2⟩ | q
          · exact .inl ⟨mem_adjs_cons (mem_adjs_cons q1), q2⟩
          · exact .inr q
    · rename_i hab
      obtain ⟨x, rest, e, hx⟩ := pass_head (l := l) (r := r) (m := m) (a := b) (t := t)
      rw [e, adjs_cons2] at h
      rcases List.mem_cons.mp h with q | q
      · rcases hx with hx | hx
        · refine .inl ⟨?_, ?_⟩
          · rw [q, hx, adjs_cons2]; exact List.mem_cons_self ..
          · rw [q, hx]; intro z; exact hab ⟨(Prod.mk.inj z).1, (Prod.mk.inj z).2⟩
        · exact .inr (.inr (by rw [q]; exact hx))
      · rw [← e] at q
        rcases pass_adj q with ⟨q1, q2⟩ | q
        · exact .inl ⟨mem_adjs_cons q1, q2⟩
        · exact .inr q
theorem pass_len {l r m : Nat} : ∀ {row : List Nat}, (pass l r m row).length ≤ row.length
  | [] => Nat.le_refl _
  | [a] => Nat.le_refl _
  | a :: b :: t => by
    rw [pass]
    split
    · have := pass_len (l := l) (r := r) (m := m) (row := t)
      simp only [List.length_cons]; omega
    · have := pass_len (l := l) (r := r) (m := m) (row := b :: t)
      simp only [List.length_cons] at this ⊢; omega
theorem pass_lt {l r m : Nat} : ∀ {row : List Nat}, (l, r) ∈ adjs row → (pass l r m row).length < row.length
  | [], h => by cases h
  | [a], h => by cases h
  | a :: b :: t, h => by
    rw [pass]
    split
    · have := pass_len (l := l) (r := r) (m := m) (row := t)
      simp only [List.length_cons]; omega
    · rename_i hab
      rw [adjs_cons2] at h
      rcases List.mem_cons.mp h with q | q
      · exact absurd ⟨(Prod.mk.inj q).1.symm, (Prod.mk.inj q).2.symm⟩ hab
      · have := pass_lt (l := l) (r := r) (m := m) (row := b :: t) q
        simp only [List.length_cons] at this ⊢; omega
theorem pass_mem {l r m x : Nat} : ∀ {row : List Nat}, x ∈ pass l r m row → x ∈ row ∨ x = m
  | [], h => by cases h
  | [a], h => .inl h
  | a :: b :: t, h => by
    rw [pass] at h
    split at h
    · rcases List.mem_cons.mp h with q | q
      · exact .inr q
      · rcases pass_mem q with q | q
        · exact .inl (List.mem_cons_of_mem _ (List.mem_cons_of_mem _ q))
        · exact .inr q
    · rcases List.mem_cons.mp h with q | q
      · exact .inl (by rw [q]; exact List.mem_cons_self ..)
      · rcases pass_mem q with q | q
        · exact .inl (List.mem_cons_of_mem _ q)
        · exact .inr q
/-- the passes of these pairs, the first of which makes b + k -/
def run (b : Nat) : List (Nat × Nat) → Nat → List Nat → List Nat
  | [], _, row => row
  | p :: ps, k, row => run b ps (k + 1) (pass p.1 p.2 (b + k) row)
def cutL (b : Nat) (ps : List (Nat × Nat)) (row : List Nat) : List Nat := run b ps 0 row
theorem run_append (b : Nat) : ∀ (ps qs : List (Nat × Nat)) (k : Nat) (row : List Nat), run b (ps ++ qs) k row = run b qs (k + ps.length) (run b ps k row)
  | [], qs, k, row => rfl
  | p :: ps, qs, k, row => by
    show run b (ps ++ qs) (k + 1) _ = run b qs (k + (ps.length + 1)) (run b ps (k + 1) _)
    rw [run_append b ps qs, show k + 1 + ps.length = k + (ps.length + 1) by omega]
theorem run_none {b : Nat} : ∀ {ps : List (Nat × Nat)} {k : Nat} {row : List Nat}, (∀ p ∈ ps, p ∉ adjs row) → run b ps k row = row
  | [], _, _, _ => rfl
  | p :: ps, k, row, h => by
    show run b ps (k + 1) (pass p.1 p.2 (b + k) row) = row
    rw [pass_id (h p (List.mem_cons_self ..))]
    exact run_none fun q hq => h q (List.mem_cons_of_mem _ hq)
/-- the parts of a join are pieces ahead of it -/
def WF (b : Nat) (ps : List (Nat × Nat)) : Prop := ∀ i p, ps[i]? = some p → p.1 < b + i ∧ p.2 < b + i
theorem WF.take {b : Nat} {ps : List (Nat × Nat)} (h : WF b ps) (n : Nat) : WF b (ps.take n) := fun i p e => by
  rw [List.getElem?_take] at e
  split at e
  · exact h i p e
  · cases e
theorem take_succ_of {α : Type} {l : List α} {n : Nat} {x : α} (h : l[n]? = some x) : l.take (n + 1) = l.take n ++ [x] := by
  rw [List.take_add_one, h]; rfl
theorem take_len_of {α : Type} {l : List α} {n : Nat} {x : α} (h : l[n]? = some x) : (l.take n).length = n := by
  obtain ⟨h1, _⟩ := List.getElem?_eq_some_iff.mp h
  rw [List.length_take]; omega
theorem cutL_snoc (b : Nat) (ps : List (Nat × Nat)) (q : Nat × Nat) (row : List Nat) : cutL b (ps ++ [q]) row = pass q.1 q.2 (b + ps.length) (cutL b ps row) := by
  unfold cutL
  rw [run_append, Nat.zero_add]; rfl
theorem mem_take_get {α : Type} {l : List α} {n : Nat} {x : α} (h : x ∈ l.take n) : ∃ i, i < n ∧ l[i]? = some x := by
  obtain ⟨i, hi⟩ := List.mem_iff_getElem?.mp h
  rw [List.getElem?_take] at hi
  split at hi
  · exact ⟨i, by assumption, hi⟩
  · cases hi
theorem cut_clean_take {b : Nat} {ps : List (Nat × Nat)} (hw : WF b ps) (row : List Nat) : ∀ n, ∀ p ∈ ps.take n, p ∉ adjs (cutL b (ps.take n) row)
  | 0, p, hp => by rw [List.take_zero] at hp; cases hp
  | n + 1, p, hp => by
    cases e : ps[n]? with
    | none =>
      have hle : ps.length ≤ n := List.getElem?_eq_none_iff.mp e
      rw [List.take_of_length_le (by omega)] at hp ⊢
      have := cut_clean_take hw row n p (by rw [List.take_of_length_le hle]; exact hp)
      rw [List.take_of_length_le hle] at this
      exact this
    | some q =>
      rw [take_succ_of e] at hp ⊢
      rw [cutL_snoc, take_len_of e]
      have hq := hw n q e
      intro hm
      rcases pass_adj hm with ⟨h1, h2⟩ | h1
      · rcases List.mem_append.mp hp with z | z
        · exact cut_clean_take hw row n p z h1
        · exact h2 (List.mem_singleton.mp z)
      · have hlt : p.1 < b + n ∧ p.2 < b + n := by
          rcases List.mem_append.mp hp with z | z
          · obtain ⟨i, hi, ei⟩ := mem_take_get z
            have := hw i p ei
            omega
          · rw [List.mem_singleton.mp z]; exact hq
        omega
theorem cut_clean {b : Nat} {ps : List (Nat × Nat)} (hw : WF b ps) (row : List Nat) : ∀ p ∈ ps, p ∉ adjs (cutL b ps row) := by
  have h := cut_clean_take hw row ps.length
  rw [List.take_length] at h
  exact h
theorem split_at {α : Type} {l : List α} {n : Nat} {x : α} (h : l[n]? = some x) : l = l.take n ++ x :: l.drop (n + 1) := by
  obtain ⟨h1, h2⟩ := List.getElem?_eq_some_iff.mp h
  rw [← h2, ← List.drop_eq_getElem_cons h1, List.take_append_drop]
theorem cutL_at {b : Nat} {ps : List (Nat × Nat)} {r : Nat} {p : Nat × Nat} (h : ps[r]? = some p) (row : List Nat) (hno : ∀ j q, j < r → ps[j]? = some q → q ∉ adjs row) :
    cutL b ps row = run b (ps.drop (r + 1)) (r + 1) (pass p.1 p.2 (b + r) row) := by
  have e := split_at h
  have hl := take_len_of h
  unfold cutL
  rw [e, run_append, hl, Nat.zero_add]
  rw [← e]
  rw [run_none (ps := ps.take r) (row := row) fun q hq => by
    obtain ⟨j, hj, ej⟩ := mem_take_get hq
    exact hno j q hj ej]
  rfl
/-- the lowest rank that is there may be joined first -/
theorem cut_step {b : Nat} {ps : List (Nat × Nat)} (hw : WF b ps) {r : Nat} {p : Nat × Nat} (h : ps[r]? = some p) (row : List Nat) (hno : ∀ j q, j < r → ps[j]? = some q → q ∉ adjs row) :
    cutL b ps (pass p.1 p.2 (b + r) row) = cutL b ps row := by
  have hp := hw r p h
  have no2 : ∀ j q, j < r → ps[j]? = some q → q ∉ adjs (pass p.1 p.2 (b + r) row) := fun j q hj ej hm => by
    rcases pass_adj hm with ⟨z, _⟩ | z
    · exact hno j q hj ej z
    · have := hw j q ej; omega
  have no3 : (p.1, p.2) ∉ adjs (pass p.1 p.2 (b + r) row) := fun hm => by
    rcases pass_adj hm with ⟨_, z⟩ | z
    · exact z rfl
    · have z' : p.1 = b + r ∨ p.2 = b + r := z
      omega
  rw [cutL_at h row hno, cutL_at h _ no2, pass_id no3]
theorem cut_done {b : Nat} {ps : List (Nat × Nat)} {row : List Nat} (h : ∀ p ∈ ps, p ∉ adjs row) : cutL b ps row = row := run_none h
theorem adjs_append {u v : List Nat} {x : Nat} : adjs (u ++ x :: v) = adjs (u ++ [x]) ++ adjs (x :: v) := by
  induction u with
  | nil => rfl
  | cons a u ih =>
    cases u with
    | nil => rfl
    | cons c u =>
      show (a, c) :: adjs (c :: u ++ x :: v) = ((a, c) :: adjs (c :: u ++ [x])) ++ adjs (x :: v)
      exact congrArg (fun z => (a, c) :: z) ih
theorem pass_left {l r m : Nat} : ∀ {u v : List Nat}, (l, r) ∉ adjs (u ++ [l]) → pass l r m (u ++ l :: r :: v) = u ++ m :: pass l r m v
  | [], v, _ => by
    show pass l r m (l :: r :: v) = m :: pass l r m v
    rw [pass, if_pos ⟨rfl, rfl⟩]
  | [a], v, h => by
    have h1 : ¬ (a = l ∧ l = r) := fun q => h (by show (l, r) ∈ adjs [a, l]; rw [adjs_cons2, q.1, ← q.2]; exact List.mem_cons_self ..)
    show pass l r m (a :: l :: r :: v) = a :: m :: pass l r m v
    rw [pass, if_neg h1, pass, if_pos ⟨rfl, rfl⟩]
  | a :: c :: u, v, h => by
    have h1 : ¬ (a = l ∧ c = r) := fun q => h (by show (l, r) ∈ adjs (a :: c :: (u ++ [l])); rw [adjs_cons2, q.1, q.2]; exact List.mem_cons_self ..)
    have h2 : (l, r) ∉ adjs ((c :: u) ++ [l]) := fun q => h (by show (l, r) ∈ adjs (a :: c :: (u ++ [l])); exact mem_adjs_cons q)
    show pass l r m (a :: c :: (u ++ l :: r :: v)) = a :: (c :: u ++ m :: pass l r m v)
    rw [pass, if_neg h1]
    exact congrArg (a :: ·) (pass_left (u := c :: u) h2)
theorem pass_over {l r m : Nat} (h1 : m ≠ l) (h2 : m ≠ r) : ∀ {u v : List Nat}, (l, r) ∉ adjs u → pass l r m (u ++ m :: v) = u ++ m :: pass l r m v
  | [], v, _ => by
    cases v with
    | nil => rfl
    | cons c v =>
      show pass l r m (m :: c :: v) = m :: pass l r m (c :: v)
      rw [pass, if_neg fun q => h1 q.1]
  | [a], v, h => by
    show pass l r m (a :: m :: v) = a :: m :: pass l r m v
    rw [pass, if_neg fun q => h2 q.2]
    exact congrArg (a :: ·) (pass_over h1 h2 (u := []) (by rw [adjs_nil]; exact List.not_mem_nil))
  | a :: c :: u, v, h => by
    have hn : ¬ (a = l ∧ c = r) := fun q => h (by rw [adjs_cons2, q.1, q.2]; exact List.mem_cons_self ..)
    show pass l r m (a :: c :: (u ++ m :: v)) = a :: (c :: u ++ m :: pass l r m v)
    rw [pass, if_neg hn]
    exact congrArg (a :: ·) (pass_over h1 h2 (u := c :: u) fun q => h (mem_adjs_cons q))
theorem adjs_sub_left {u v : List Nat} {p : Nat × Nat} (h : p ∈ adjs u) : p ∈ adjs (u ++ v) := by
  induction u with
  | nil => cases h
  | cons a u ih =>
    cases u with
    | nil => cases h
    | cons c u =>
      rw [adjs_cons2] at h
      show p ∈ (a, c) :: adjs (c :: u ++ v)
      rcases List.mem_cons.mp h with q | q
      · rw [q]; exact List.mem_cons_self ..
      · exact List.mem_cons_of_mem _ (ih q)
theorem adjs_sub_right {u v : List Nat} {p : Nat × Nat} (h : p ∈ adjs v) : p ∈ adjs (u ++ v) := by
  induction u with
  | nil => exact h
  | cons a u ih => exact mem_adjs_cons ih
/-- the leftmost place of the lowest rank may be joined first -/
theorem cut_first {b : Nat} {ps : List (Nat × Nat)} (hw : WF b ps) {r : Nat} {p : Nat × Nat} (h : ps[r]? = some p) {u v : List Nat} (hu : p ∉ adjs (u ++ [p.1]))
    (hno : ∀ j q, j < r → ps[j]? = some q → q ∉ adjs (u ++ p.1 :: p.2 :: v)) : cutL b ps (u ++ (b + r) :: v) = cutL b ps (u ++ p.1 :: p.2 :: v) := by
  have hp := hw r p h
  have no2 : ∀ j q, j < r → ps[j]? = some q → q ∉ adjs (u ++ (b + r) :: v) := fun j q hj ej hm => by
    have hq := hw j q ej
    have key : q ∈ adjs u ∨ q ∈ adjs v ∨ q.1 = b + r ∨ q.2 = b + r := by
      rw [adjs_append] at hm
      rcases List.mem_append.mp hm with z | z
      · -- adjs (u ++ [b + r])
        clear hm
        revert z
        clear hu hno
        induction u with
        | nil => intro z; cases z
        | cons a u ih =>
          intro z
          cases u with
          | nil =>
            have z' : q ∈ [(a, b + r)] := z
            rw [List.mem_singleton.mp z']
            exact .inr (.inr (.inr rfl))
          | cons c u =>
            have z' : q ∈ (a, c) :: adjs (c :: u ++ [b + r]) := z
            rcases List.mem_cons.mp z' with w | w
            · refine .inl ?_
              rw [w, adjs_cons2]; exact List.mem_cons_self ..
            · rcases ih w with y | y
              · exact .inl (mem_adjs_cons y)
              · exact .inr y
      · cases v with
        | nil => cases z
        | cons c v =>
          rw [adjs_cons2] at z
          rcases List.mem_cons.mp z with w | w
          · rw [w]; exact .inr (.inr (.inl rfl))
          · exact .inr (.inl w)
    rcases key with z | z | z
    · exact hno j q hj ej (adjs_sub_left z)
    · exact hno j q hj ej (adjs_sub_right (mem_adjs_cons (mem_adjs_cons z)))
    · omega
  rw [cutL_at h _ hno, cutL_at h _ no2, pass_left hu, pass_over (by omega) (by omega) fun q => hu (adjs_sub_left q)]
end RJ
end

section
set_option maxRecDepth 100000
namespace RJ
/-- the row of the letters -/
def lets (al t : List Nat) : List Nat := t.map fun c => al.idxOf c
theorem snoc_ind {α : Type} {M : List α → Prop} (h0 : M []) (h1 : ∀ l a, M l → M (l ++ [a])) (l : List α) : M l := by
  have key : ∀ r : List α, M r.reverse := by
    intro r
    induction r with
    | nil => exact h0
    | cons a r ih => rw [List.reverse_cons]; exact h1 _ _ ih
  rw [← l.reverse_reverse]; exact key _
/-- the texts of the pieces -/
def textsOf (al : List Nat) (ps : List (Nat × Nat)) : List (List Nat) := ps.foldl (fun ts p => ts ++ [ts.getD p.1 [] ++ ts.getD p.2 []]) (al.map fun c => [c])
theorem textsOf_snoc (al : List Nat) (ps : List (Nat × Nat)) (p : Nat × Nat) : textsOf al (ps ++ [p]) = textsOf al ps ++ [(textsOf al ps).getD p.1 [] ++ (textsOf al ps).getD p.2 []] := by
  unfold textsOf
  rw [List.foldl_append]; rfl
theorem textsOf_len (al : List Nat) (ps : List (Nat × Nat)) : (textsOf al ps).length = al.length + ps.length := by
  induction ps using snoc_ind with
  | h0 => unfold textsOf; rw [List.foldl_nil, List.length_map]; rfl
  | h1 ps p ih => rw [textsOf_snoc, List.length_append, ih, List.length_append]; rfl
theorem getD_mem_or {ts : List (List Nat)} {i : Nat} : ts.getD i [] ∈ ts ∨ ts.getD i [] = [] := by
  rw [List.getD_eq_getElem?_getD]
  cases h : ts[i]? with
  | none => exact .inr rfl
  | some t => exact .inl (List.mem_of_getElem? h)
theorem textsOf_al {al : List Nat} {ps : List (Nat × Nat)} : ∀ t ∈ textsOf al ps, ∀ c ∈ t, c ∈ al := by
  induction ps using snoc_ind with
  | h0 =>
    intro t ht c hc
    unfold textsOf at ht
    rw [List.foldl_nil] at ht
    obtain ⟨d, hd, rfl⟩ := List.mem_map.mp ht
    rw [List.mem_singleton.mp hc]; exact hd
  | h1 ps p ih =>
    intro t ht c hc
    rw [textsOf_snoc] at ht
    rcases List.mem_append.mp ht with h | h
    · exact ih t h c hc
    · rw [List.mem_singleton.mp h] at hc
      have key : ∀ i, c ∈ (textsOf al ps).getD i [] → c ∈ al := fun i hi => by
        rcases getD_mem_or (ts := textsOf al ps) (i := i) with m | m
        · exact ih _ m c hi
        · rw [m] at hi; cases hi
      rcases List.mem_append.mp hc with z | z
      · exact key _ z
      · exact key _ z
/-- may the pair be the next join -/
def okP (al : List Nat) (ts : List (List Nat)) (ps : List (Nat × Nat)) (p : Nat × Nat) : Prop :=
  p.1 < ts.length ∧ p.2 < ts.length ∧ (ts.getD p.1 [] ++ ts.getD p.2 []).length ≤ 40 ∧ cutL al.length ps (lets al (ts.getD p.1 [] ++ ts.getD p.2 [])) = [p.1, p.2]
instance (al ts ps p) : Decidable (okP al ts ps p) := by unfold okP; infer_instance
def Proper (al : List Nat) (ps : List (Nat × Nat)) : Prop := ∀ i p, ps[i]? = some p → okP al (textsOf al (ps.take i)) (ps.take i) p
theorem Proper.wf {al : List Nat} {ps : List (Nat × Nat)} (h : Proper al ps) : WF al.length ps := fun i p e => by
  obtain ⟨h1, h2, _⟩ := h i p e
  rw [textsOf_len, take_len_of e] at h1 h2
  exact ⟨h1, h2⟩
theorem Proper.take {al : List Nat} {ps : List (Nat × Nat)} (h : Proper al ps) (n : Nat) : Proper al (ps.take n) := fun i p e => by
  rw [List.getElem?_take] at e
  split at e
  · have := h i p e
    rw [List.take_take, Nat.min_eq_left (by omega)]
    exact this
  · cases e
theorem Proper.nil (al : List Nat) : Proper al [] := fun i p e => by simp at e
theorem Proper.snoc {al : List Nat} {ps : List (Nat × Nat)} {p : Nat × Nat} (h : Proper al ps) (hp : okP al (textsOf al ps) ps p) : Proper al (ps ++ [p]) := fun i q e => by
  by_cases hi : i < ps.length
  · rw [List.getElem?_append_left hi] at e
    rw [List.take_append_of_le_length (by omega)]
    exact h i q e
  · rw [List.getElem?_append_right (by omega)] at e
    have hi0 : i - ps.length = 0 := by
      rcases Nat.eq_zero_or_pos (i - ps.length) with z | z
      · exact z
      · rw [List.getElem?_eq_none (by rw [List.length_singleton]; exact z)] at e; cases e
    rw [hi0] at e
    have e' : p = q := by simpa using e
    subst e'
    have hi' : i = ps.length := by omega
    rw [hi', List.take_left]
    exact hp
theorem Proper.front {al : List Nat} {ps : List (Nat × Nat)} {p : Nat × Nat} (h : Proper al (ps ++ [p])) : Proper al ps ∧ okP al (textsOf al ps) ps p := by
  refine ⟨?_, ?_⟩
  · have := h.take ps.length
    rw [List.take_left] at this; exact this
  · have := h ps.length p (by rw [List.getElem?_append_right (Nat.le_refl _), Nat.sub_self]; rfl)
    rw [List.take_left] at this; exact this
theorem Proper.short {al : List Nat} {ps : List (Nat × Nat)} (h : Proper al ps) : ∀ t ∈ textsOf al ps, t.length ≤ 40 := by
  induction ps using snoc_ind with
  | h0 =>
    intro t ht
    unfold textsOf at ht
    rw [List.foldl_nil] at ht
    obtain ⟨d, hd, rfl⟩ := List.mem_map.mp ht
    simp
  | h1 ps p ih =>
    intro t ht
    obtain ⟨h1, h2⟩ := h.front
    rw [textsOf_snoc] at ht
    rcases List.mem_append.mp ht with q | q
    · exact ih h1 t q
    · rw [List.mem_singleton.mp q]; exact h2.2.2.1
/-- the cut of a piece's text is this piece -/
theorem cut_piece {al : List Nat} (hal : al.Nodup) {ps : List (Nat × Nat)} (h : Proper al ps) : ∀ i t, (textsOf al ps)[i]? = some t → cutL al.length ps (lets al t) = [i] := by
  induction ps using snoc_ind with
  | h0 =>
    intro i t ht
    unfold textsOf at ht
    rw [List.foldl_nil, List.getElem?_map] at ht
    cases e : al[i]? with
    | none => rw [e] at ht; cases ht
    | some c =>
      rw [e] at ht
      have : t = [c] := (Option.some.inj ht).symm
      subst this
      obtain ⟨hi, hc⟩ := List.getElem?_eq_some_iff.mp e
      show [al.idxOf c] = [i]
      have h1 : al.idxOf c < al.length := List.idxOf_lt_length_iff.mpr (List.mem_of_getElem? e)
      have h2 : al[al.idxOf c] = al[i] := by rw [List.getElem_idxOf h1, hc]
      rw [(List.getElem_inj hal).mp h2]
  | h1 ps p ih =>
    intro i t ht
    obtain ⟨h1, h2⟩ := h.front
    rw [cutL_snoc]
    rw [textsOf_snoc] at ht
    by_cases hi : i < (textsOf al ps).length
    · rw [List.getElem?_append_left hi] at ht
      rw [ih h1 i t ht]; rfl
    · rw [List.getElem?_append_right (by omega)] at ht
      have hi0 : i - (textsOf al ps).length = 0 := by
        rcases Nat.eq_zero_or_pos (i - (textsOf al ps).length) with z | z
        · exact z
        · rw [List.getElem?_eq_none (by rw [List.length_singleton]; exact z)] at ht; cases ht
      rw [hi0] at ht
      have e' : (textsOf al ps).getD p.1 [] ++ (textsOf al ps).getD p.2 [] = t := by simpa using ht
      rw [← e', h2.2.2.2]
      have hi' : i = al.length + ps.length := by rw [textsOf_len] at hi0 hi; omega
      show pass p.1 p.2 (al.length + ps.length) [p.1, p.2] = [i]
      rw [pass, if_pos ⟨rfl, rfl⟩, hi']; rfl
theorem texts_inj {al : List Nat} (hal : al.Nodup) {ps : List (Nat × Nat)} (h : Proper al ps) {i j : Nat} {t : List Nat} (hi : (textsOf al ps)[i]? = some t) (hj : (textsOf al ps)[j]? = some t) : i = j := by
  have h1 := cut_piece hal h i t hi
  rw [cut_piece hal h j t hj] at h1
  injection h1 with h1; exact h1.symm
theorem texts_nodup {al : List Nat} (hal : al.Nodup) {ps : List (Nat × Nat)} (h : Proper al ps) : (textsOf al ps).Nodup := by
  refine List.pairwise_iff_getElem.mpr fun i j hi hj hij e => ?_
  have := texts_inj hal h (List.getElem?_eq_getElem hi) (by rw [List.getElem?_eq_getElem hj, ← e])
  omega
/-- the text of a row -/
def textR (ts : List (List Nat)) (row : List Nat) : List Nat := (row.map fun i => ts.getD i []).flatten
theorem getD_short {ts : List (List Nat)} (h : ∀ t ∈ ts, t.length ≤ 40) (i : Nat) : (ts.getD i []).length ≤ 40 := by
  rcases getD_mem_or (ts := ts) (i := i) with m | m
  · exact h _ m
  · rw [m]; exact Nat.zero_le _
theorem run_len (b : Nat) : ∀ (ps : List (Nat × Nat)) (k : Nat) (row : List Nat), (run b ps k row).length ≤ row.length
  | [], _, _ => Nat.le_refl _
  | p :: ps, k, row => Nat.le_trans (run_len b ps (k + 1) _) pass_len
theorem cutL_len (b : Nat) (ps : List (Nat × Nat)) (row : List Nat) : (cutL b ps row).length ≤ row.length := run_len b ps 0 row
theorem textR_cons (ts : List (List Nat)) (a : Nat) (row : List Nat) : textR ts (a :: row) = ts.getD a [] ++ textR ts row := rfl
theorem pass_text {ts : List (List Nat)} {l r m : Nat} (h : ts.getD m [] = ts.getD l [] ++ ts.getD r []) : ∀ row : List Nat, textR ts (pass l r m row) = textR ts row
  | [] => rfl
  | [a] => rfl
  | a :: b :: t => by
    rw [pass]
    split
    · rename_i c
      obtain ⟨rfl, rfl⟩ := c
      rw [textR_cons, textR_cons, textR_cons, pass_text h t, h, List.append_assoc]
    · rw [textR_cons, textR_cons ts a, pass_text h (b :: t)]
theorem run_text {ts : List (List Nat)} {b : Nat} : ∀ (qs : List (Nat × Nat)) (k : Nat) (row : List Nat), (∀ (i : Nat) (q : Nat × Nat), qs[i]? = some q → ts.getD (b + k + i) [] = ts.getD q.1 [] ++ ts.getD q.2 []) → textR ts (run b qs k row) = textR ts row
  | [], _, _, _ => rfl
  | q :: qs, k, row, h => by
    have h0 := h 0 q rfl
    show textR ts (run b qs (k + 1) (pass q.1 q.2 (b + k) row)) = _
    rw [run_text qs (k + 1) _ fun i p e => by
      have := h (i + 1) p e
      rw [show b + (k + 1) + i = b + k + (i + 1) by omega]; exact this]
    exact pass_text h0 row
theorem texts_at {al : List Nat} {ps : List (Nat × Nat)} (h : WF al.length ps) : ∀ (i : Nat) (p : Nat × Nat), ps[i]? = some p → (textsOf al ps).getD (al.length + i) [] = (textsOf al ps).getD p.1 [] ++ (textsOf al ps).getD p.2 [] := by
  induction ps using snoc_ind with
  | h0 => intro i p e; cases e
  | h1 ps q ih =>
    intro i p e
    have hw : WF al.length ps := by have := h.take ps.length; rw [List.take_left] at this; exact this
    have key : ∀ j, j < al.length + ps.length → (textsOf al (ps ++ [q])).getD j [] = (textsOf al ps).getD j [] := fun j hj => by
      rw [textsOf_snoc, List.getD_eq_getElem?_getD, List.getElem?_append_left (by rw [textsOf_len]; exact hj), ← List.getD_eq_getElem?_getD]
    have hp := h i p e
    by_cases c : i < ps.length
    · rw [List.getElem?_append_left c] at e
      rw [key _ (by omega), key _ (by omega), key _ (by omega)]
      exact ih hw i p e
    · have hi : i = ps.length := by
        have := (List.getElem?_eq_some_iff.mp e).1
        rw [List.length_append, List.length_singleton] at this
        omega
      subst hi
      rw [List.getElem?_append_right (Nat.le_refl _), Nat.sub_self] at e
      have e' : q = p := Option.some.inj e
      subst e'
      rw [key q.1 hp.1, key q.2 hp.2, textsOf_snoc, List.getD_eq_getElem?_getD, List.getElem?_append_right (by rw [textsOf_len]; exact Nat.le_refl _), textsOf_len, Nat.sub_self]; rfl
theorem texts_letter {al : List Nat} {ps : List (Nat × Nat)} {i c : Nat} (h : al[i]? = some c) : (textsOf al ps).getD i [] = [c] := by
  have hi := (List.getElem?_eq_some_iff.mp h).1
  induction ps using snoc_ind with
  | h0 =>
    unfold textsOf
    rw [List.foldl_nil, List.getD_eq_getElem?_getD, List.getElem?_map, h]; rfl
  | h1 ps q ih =>
    rw [textsOf_snoc, List.getD_eq_getElem?_getD, List.getElem?_append_left (by rw [textsOf_len]; omega), ← List.getD_eq_getElem?_getD]
    exact ih
theorem text_lets {al : List Nat} {ps : List (Nat × Nat)} {t : List Nat} (h : ∀ c ∈ t, c ∈ al) : textR (textsOf al ps) (lets al t) = t := by
  induction t with
  | nil => rfl
  | cons c t ih =>
    show (textsOf al ps).getD (al.idxOf c) [] ++ textR (textsOf al ps) (lets al t) = c :: t
    rw [ih fun d hd => h d (List.mem_cons_of_mem _ hd), texts_letter (by
      have hc := h c (List.mem_cons_self ..)
      rw [List.getElem?_eq_getElem (List.idxOf_lt_length_of_mem hc), List.getElem_idxOf])]
    rfl
theorem text_cut {al : List Nat} {ps : List (Nat × Nat)} (hw : WF al.length ps) {t : List Nat} (h : ∀ c ∈ t, c ∈ al) : textR (textsOf al ps) (cutL al.length ps (lets al t)) = t := by
  unfold cutL
  rw [run_text ps 0 _ fun i q e => by rw [Nat.add_zero]; exact texts_at hw i q e]
  exact text_lets h
theorem run_mem {b x : Nat} : ∀ (qs : List (Nat × Nat)) (k : Nat) (row : List Nat), x ∈ run b qs k row → x ∈ row ∨ (b + k ≤ x ∧ x < b + k + qs.length)
  | [], _, _, h => .inl h
  | q :: qs, k, row, h => by
    rcases run_mem qs (k + 1) _ h with z | z
    · rcases pass_mem z with y | y
      · exact .inl y
      · exact .inr ⟨by omega, by rw [List.length_cons]; omega⟩
    · exact .inr ⟨by omega, by rw [List.length_cons]; omega⟩
theorem lets_lt {al t : List Nat} (h : ∀ c ∈ t, c ∈ al) : ∀ i ∈ lets al t, i < al.length := fun i hi => by
  obtain ⟨c, hc, rfl⟩ := List.mem_map.mp hi
  exact List.idxOf_lt_length_of_mem (h c hc)
theorem cut_lt {al : List Nat} {ps : List (Nat × Nat)} {t : List Nat} (h : ∀ c ∈ t, c ∈ al) : ∀ i ∈ cutL al.length ps (lets al t), i < al.length + ps.length := fun i hi => by
  rcases run_mem ps 0 _ hi with z | z
  · have := lets_lt h i z; omega
  · omega
theorem cut_nil (b : Nat) (ps : List (Nat × Nat)) : cutL b ps [] = [] := List.eq_nil_of_length_eq_zero (Nat.le_zero.mp (cutL_len b ps []))
def apart (m l r : Nat) (row : List Nat) : List Nat := row.flatMap fun x => if x = m then [l, r] else [x]
theorem apart_nil (m l r : Nat) : apart m l r [] = [] := rfl
theorem apart_cons (m l r x : Nat) (t : List Nat) : apart m l r (x :: t) = (if x = m then [l, r] else [x]) ++ apart m l r t := rfl
theorem apart_app (m l r : Nat) (u v : List Nat) : apart m l r (u ++ v) = apart m l r u ++ apart m l r v := List.flatMap_append
theorem apart_pass {m l r : Nat} : ∀ {row : List Nat}, m ∉ row → apart m l r (pass l r m row) = row
  | [], _ => rfl
  | [a], h => by
    have : a ≠ m := fun e => h (by rw [e]; exact List.mem_cons_self ..)
    show (if a = m then [l, r] else [a]) ++ [] = [a]
    rw [if_neg this]; rfl
  | a :: b :: t, h => by
    have ha : a ≠ m := fun e => h (by rw [e]; exact List.mem_cons_self ..)
    have ht : m ∉ b :: t := fun z => h (List.mem_cons_of_mem _ z)
    rw [pass]
    split
    · rename_i c
      obtain ⟨rfl, rfl⟩ := c
      rw [apart_cons, if_pos rfl, apart_pass (fun z => ht (List.mem_cons_of_mem _ z))]; rfl
    · rw [apart_cons, if_neg ha, apart_pass ht]; rfl
def splitD (b : Nat) (ps : List (Nat × Nat)) (n : Nat) : Nat → List Nat → List Nat
  | 0, row => row
  | k + 1, row => if n ≤ k then splitD b ps n k (apart (b + k) (ps.getD k (0, 0)).1 (ps.getD k (0, 0)).2 row) else row
variable {b n : Nat} {ps : List (Nat × Nat)}
theorem splitD_le {k : Nat} (h : k ≤ n) (row : List Nat) : splitD b ps n k row = row := by
  cases k with
  | zero => rfl
  | succ k => rw [splitD, if_neg (by omega)]
theorem splitD_app : ∀ (k : Nat) (u v : List Nat), splitD b ps n k (u ++ v) = splitD b ps n k u ++ splitD b ps n k v
  | 0, _, _ => rfl
  | k + 1, u, v => by
    rw [splitD, splitD, splitD]
    split
    · rw [apart_app, splitD_app k]
    · rfl
theorem splitD_nil (k : Nat) : splitD b ps n k [] = [] := by
  induction k with
  | zero => rfl
  | succ k ih =>
    rw [splitD, apart_nil, ih]
    split <;> rfl
theorem apart_one {m l r x : Nat} (h : x ≠ m) : apart m l r [x] = [x] := by
  show (if x = m then [l, r] else [x]) ++ [] = [x]
  rw [if_neg h]; rfl
theorem splitD_low {j y : Nat} (hy : y < b + j) : ∀ {k : Nat}, j ≤ k → splitD b ps n k [y] = splitD b ps n j [y]
  | 0, h => by rw [Nat.le_zero.mp h]
  | k + 1, h => by
    by_cases c : j = k + 1
    · rw [c]
    · rw [splitD]
      split
      · rw [apart_one (by omega)]; exact splitD_low hy (by omega)
      · rw [splitD_le (by omega)]
theorem splitD_small {x : Nat} (hx : x < b + n) (k : Nat) : splitD b ps n k [x] = [x] := by
  by_cases h : n ≤ k
  · rw [splitD_low hx h, splitD_le (Nat.le_refl _)]
  · exact splitD_le (by omega) _
theorem splitD_big {j : Nat} {p : Nat × Nat} (hp : ps[j]? = some p) (hn : n ≤ j) (hw : p.1 < b + j ∧ p.2 < b + j) : ∀ {k : Nat}, j < k → splitD b ps n k [b + j] = splitD b ps n k [p.1, p.2]
  | 0, h => absurd h (Nat.not_lt_zero _)
  | k + 1, h => by
    have e1 : splitD b ps n (k + 1) [p.1, p.2] = splitD b ps n j [p.1] ++ splitD b ps n j [p.2] := by
      rw [show [p.1, p.2] = [p.1] ++ [p.2] from rfl, splitD_app, splitD_low hw.1 (by omega), splitD_low hw.2 (by omega)]
    by_cases c : j = k
    · subst c
      rw [e1, splitD, if_pos hn]
      have e : ps.getD j (0, 0) = p := by rw [List.getD_eq_getElem?_getD, hp]; rfl
      rw [e]
      show splitD b ps n j ((if b + j = b + j then [p.1, p.2] else [b + j]) ++ []) = _
      rw [if_pos rfl, ← splitD_app]; rfl
    · rw [e1, splitD, if_pos (by omega), apart_one (by omega), splitD_big hp hn hw (show j < k by omega)]
      rw [show [p.1, p.2] = [p.1] ++ [p.2] from rfl, splitD_app, splitD_low hw.1 (by omega), splitD_low hw.2 (by omega)]
theorem splitD_cut {row : List Nat} (hrow : ∀ x ∈ row, x < b) (hn : n ≤ ps.length) : ∀ k, k ≤ ps.length → n ≤ k → splitD b ps n k (cutL b (ps.take k) row) = cutL b (ps.take n) row
  | 0, _, h => by rw [Nat.le_zero.mp h]; rfl
  | k + 1, hk, h => by
    by_cases c : n = k + 1
    · rw [c, splitD_le (Nat.le_refl _)]
    · obtain ⟨p, hp⟩ : ∃ p, ps[k]? = some p := ⟨_, List.getElem?_eq_getElem (by omega)⟩
      have e : ps.getD k (0, 0) = p := by rw [List.getD_eq_getElem?_getD, hp]; rfl
      rw [splitD, if_pos (by omega), e, take_succ_of hp, cutL_snoc, take_len_of hp, apart_pass fun hm => ?_]
      · exact splitD_cut hrow hn k (by omega) (by omega)
      · rcases run_mem _ 0 _ hm with z | z
        · have := hrow _ z; omega
        · rw [take_len_of hp] at z; omega
theorem apart_text {ts : List (List Nat)} {m l r : Nat} (h : ts.getD m [] = ts.getD l [] ++ ts.getD r []) : ∀ row : List Nat, textR ts (apart m l r row) = textR ts row
  | [] => rfl
  | x :: t => by
    have app : ∀ u v : List Nat, textR ts (u ++ v) = textR ts u ++ textR ts v := fun u v => by unfold textR; rw [List.map_append, List.flatten_append]
    rw [apart_cons, app, apart_text h t, textR_cons ts x]
    split
    · rename_i e
      subst e
      rw [h]
      show (ts.getD l [] ++ (ts.getD r [] ++ [])) ++ _ = _
      rw [List.append_nil]
    · show (ts.getD x [] ++ []) ++ _ = _
      rw [List.append_nil]
theorem splitD_text {al : List Nat} (hw : WF al.length ps) : ∀ (k : Nat) (row : List Nat), k ≤ ps.length → textR (textsOf al ps) (splitD al.length ps n k row) = textR (textsOf al ps) row
  | 0, _, _ => rfl
  | k + 1, row, hk => by
    rw [splitD]
    split
    · obtain ⟨p, hp⟩ : ∃ p, ps[k]? = some p := ⟨_, List.getElem?_eq_getElem (by omega)⟩
      have e : ps.getD k (0, 0) = p := by rw [List.getD_eq_getElem?_getD, hp]; rfl
      rw [splitD_text hw k _ (by omega), e]
      exact apart_text (texts_at hw k p hp) row
    · rfl
theorem splitD_mem (hw : WF b ps) : ∀ (k : Nat) (row : List Nat), k ≤ ps.length → (∀ x ∈ row, x < b + ps.length) → ∀ x ∈ splitD b ps n k row, x < b + ps.length
  | 0, _, _, h => h
  | k + 1, row, hk, h => by
    rw [splitD]
    split
    · obtain ⟨p, hp⟩ : ∃ p, ps[k]? = some p := ⟨_, List.getElem?_eq_getElem (by omega)⟩
      have e : ps.getD k (0, 0) = p := by rw [List.getD_eq_getElem?_getD, hp]; rfl
      refine splitD_mem hw k _ (by omega) fun x hx => ?_
      rw [e] at hx
      obtain ⟨y, hy, hxy⟩ := List.mem_flatMap.mp hx
      have hwk := hw k p hp
      split at hxy
      · rcases List.mem_cons.mp hxy with z | z
        · omega
        · rw [List.mem_singleton.mp z]; omega
      · rw [List.mem_singleton.mp hxy]; exact h y hy
    · exact h
end RJ
end

section
set_option maxRecDepth 100000
namespace RJ
/-! ### spines, crossings and cuts -/
section
variable {b n : Nat} {ps : List (Nat × Nat)}
/-- a row taken back to stage n -/
def Dn (b : Nat) (ps : List (Nat × Nat)) (n : Nat) (row : List Nat) : List Nat := splitD b ps n ps.length row
theorem Dn_app (u v : List Nat) : Dn b ps n (u ++ v) = Dn b ps n u ++ Dn b ps n v := splitD_app _ _ _
theorem Dn_cons (x : Nat) (v : List Nat) : Dn b ps n (x :: v) = Dn b ps n [x] ++ Dn b ps n v := splitD_app _ [x] v
theorem Dn_nil : Dn b ps n [] = [] := splitD_nil _
theorem Dn_small {x : Nat} (hx : x < b + n) : Dn b ps n [x] = [x] := splitD_small hx _
theorem Dn_full (row : List Nat) : Dn b ps ps.length row = row := splitD_le (Nat.le_refl _) row
theorem Dn_big (hw : WF b ps) {j : Nat} {p : Nat × Nat} (hp : ps[j]? = some p) (hn : n ≤ j) : Dn b ps n [b + j] = Dn b ps n [p.1] ++ Dn b ps n [p.2] := by
  have hj := (List.getElem?_eq_some_iff.mp hp).1
  show splitD b ps n ps.length [b + j] = _
  rw [splitD_big hp hn (hw j p hp) hj, show [p.1, p.2] = [p.1] ++ [p.2] from rfl, splitD_app]; rfl
theorem Dn_cut {row : List Nat} (hrow : ∀ x ∈ row, x < b) (hn : n ≤ ps.length) : Dn b ps n (cutL b ps row) = cutL b (ps.take n) row := by
  have := splitD_cut (n := n) hrow hn ps.length (Nat.le_refl _) hn
  rw [List.take_length] at this
  exact this
theorem part_of {x : Nat} (h : x < b + ps.length) : x < b ∨ ∃ j p, x = b + j ∧ ps[j]? = some p := by
  by_cases c : x < b
  · exact .inl c
  · exact .inr ⟨x - b, _, by omega, List.getElem?_eq_getElem (by omega)⟩
theorem Dn_ne (hw : WF b ps) : ∀ (x : Nat), x < b + ps.length → ∃ y t, Dn b ps n [x] = y :: t := by
  intro x
  induction x using Nat.strongRecOn with
  | ind x ih =>
    intro hx
    by_cases c : x < b + n
    · exact ⟨x, [], Dn_small c⟩
    · rcases part_of hx with h | ⟨j, p, rfl, hp⟩
      · omega
      · have hj := hw j p hp
        obtain ⟨y, t, e⟩ := ih p.1 hj.1 (by omega)
        exact ⟨y, t ++ Dn b ps n [p.2], by rw [Dn_big hw hp (by omega), e]; rfl⟩
/-- lists in which each piece is the cut of its letters -/
structure Good (b : Nat) (ps : List (Nat × Nat)) : Prop where
  wf : WF b ps
  one : ∀ x, x < b + ps.length → cutL b ps (Dn b ps 0 [x]) = [x]
  low : ∀ x, x < b + ps.length → ∀ y ∈ Dn b ps 0 [x], y < b
theorem Good.st (G : Good b ps) {x : Nat} (hx : x < b + ps.length) (hn : n ≤ ps.length) : cutL b (ps.take n) (Dn b ps 0 [x]) = Dn b ps n [x] := by
  have := Dn_cut (G.low x hx) hn
  rw [G.one x hx] at this
  exact this.symm
theorem Good.lows (G : Good b ps) : ∀ {row : List Nat}, (∀ x ∈ row, x < b + ps.length) → ∀ y ∈ Dn b ps 0 row, y < b
  | [], _, y, h => by rw [Dn_nil] at h; cases h
  | x :: t, hx, y, h => by
    rw [Dn_cons] at h
    rcases List.mem_append.mp h with z | z
    · exact G.low x (hx x (List.mem_cons_self ..)) y z
    · exact G.lows (fun u hu => hx u (List.mem_cons_of_mem _ hu)) y z
theorem Good.next (G : Good b ps) {x : Nat} (hx : x < b + ps.length) {p : Nat × Nat} (hp : ps[n]? = some p) : pass p.1 p.2 (b + n) (Dn b ps n [x]) = Dn b ps (n + 1) [x] := by
  have hn := (List.getElem?_eq_some_iff.mp hp).1
  rw [← G.st hx (by omega), ← G.st hx (show n + 1 ≤ ps.length by omega), take_succ_of hp, cutL_snoc, take_len_of hp]
/-! passes over two rows -/
theorem last_cons {a : Nat} {l : List Nat} {x : Nat} (h : l.getLast? = some x) : (a :: l).getLast? = some x := by
  rw [List.getLast?_cons, h]; rfl
theorem pass_app {l r m : Nat} (v : List Nat) : ∀ (u : List Nat), ¬ ((pass l r m u).getLast? = some l ∧ v.head? = some r) → pass l r m (u ++ v) = pass l r m u ++ pass l r m v
  | [], _ => rfl
  | [a], h => by
    cases v with
    | nil => rfl
    | cons c t =>
      show pass l r m (a :: c :: t) = a :: pass l r m (c :: t)
      rw [pass, if_neg]
      rintro ⟨rfl, rfl⟩
      exact h ⟨rfl, rfl⟩
  | a :: c :: t, h => by
    show pass l r m (a :: c :: (t ++ v)) = pass l r m (a :: c :: t) ++ pass l r m v
    rw [pass] at h
    rw [pass, pass]
    by_cases q : a = l ∧ c = r
    · rw [if_pos q] at h
      rw [if_pos q, if_pos q, pass_app v t fun z => h ⟨last_cons z.1, z.2⟩]; rfl
    · rw [if_neg q] at h
      rw [if_neg q, if_neg q, show c :: (t ++ v) = (c :: t) ++ v from rfl, pass_app v (c :: t) fun z => h ⟨last_cons z.1, z.2⟩]; rfl
theorem last_cons_ne {m l : Nat} {x : List Nat} (hm : m ≠ l) (h : (m :: x).getLast? = some l) : x.getLast? = some l ∧ x ≠ [] := by
  cases x with
  | nil => exact absurd (Option.some.inj h) hm
  | cons y x =>
    rw [List.getLast?_cons_cons] at h
    exact ⟨h, List.cons_ne_nil _ _⟩
theorem pass_cross {l r m : Nat} (hm : m ≠ l) (t : List Nat) : ∀ (u : List Nat), (pass l r m u).getLast? = some l → pass l r m (u ++ r :: t) = (pass l r m u).dropLast ++ m :: pass l r m t
  | [], h => by cases h
  | [a], h => by
    have e : a = l := Option.some.inj h
    subst e
    show pass a r m (a :: r :: t) = m :: pass a r m t
    rw [pass, if_pos ⟨rfl, rfl⟩]
  | a :: c :: u, h => by
    show pass l r m (a :: c :: (u ++ r :: t)) = _
    rw [pass] at h
    rw [pass, pass]
    by_cases q : a = l ∧ c = r
    · rw [if_pos q] at h
      rw [if_pos q, if_pos q]
      obtain ⟨h1, h2⟩ := last_cons_ne hm h
      rw [pass_cross hm t u h1, List.dropLast_cons_of_ne_nil h2]; rfl
    · rw [if_neg q] at h
      rw [if_neg q, if_neg q]
      obtain ⟨y, s, e, _⟩ := pass_head (l := l) (r := r) (m := m) (a := c) (t := u)
      have h2 : pass l r m (c :: u) ≠ [] := by rw [e]; exact List.cons_ne_nil _ _
      have h1 : (pass l r m (c :: u)).getLast? = some l := by
        rw [e] at h ⊢
        rwa [List.getLast?_cons_cons] at h
      rw [show c :: (u ++ r :: t) = (c :: u) ++ r :: t from rfl, pass_cross hm t (c :: u) h1, List.dropLast_cons_of_ne_nil h2]; rfl
/-! spines -/
inductive Spn (b : Nat) (ps : List (Nat × Nat)) (sd : Nat × Nat → Nat) (x : Nat) : Nat → Option Nat → Prop
  | self : Spn b ps sd x x none
  | step {j : Nat} {p : Nat × Nat} {bd : Option Nat} : Spn b ps sd x (b + j) bd → ps[j]? = some p → Spn b ps sd x (sd p) (some j)
/-- n is not beyond the bound -/
def upTo (n : Nat) (bd : Option Nat) : Prop := ∀ k, bd = some k → n ≤ k
def Side (sd : Nat × Nat → Nat) : Prop := ∀ p, sd p = p.1 ∨ sd p = p.2
theorem side1 : Side Prod.fst := fun _ => .inl rfl
theorem side2 : Side Prod.snd := fun _ => .inr rfl
theorem Spn.lt {sd : Nat × Nat → Nat} (hs : Side sd) (hw : WF b ps) {x y k : Nat} (h : Spn b ps sd x y (some k)) : y < b + k ∧ k < ps.length := by
  cases h with
  | step h hp =>
    have := hw _ _ hp
    refine ⟨?_, (List.getElem?_eq_some_iff.mp hp).1⟩
    rcases hs ‹_› with e | e <;> rw [e] <;> omega
theorem Spn.mem {sd : Nat × Nat → Nat} (hs : Side sd) (hw : WF b ps) {x y : Nat} {bd : Option Nat} (hx : x < b + ps.length) (h : Spn b ps sd x y bd) : y < b + ps.length := by
  cases bd with
  | none => cases h; exact hx
  | some k => have := h.lt hs hw; omega
theorem Spn.ahead {sd : Nat × Nat → Nat} {j y : Nat} {p : Nat × Nat} {bd : Option Nat} (hp : ps[j]? = some p) (h : Spn b ps sd (sd p) y bd) : Spn b ps sd (b + j) y (some (bd.getD j)) := by
  induction h with
  | self => exact .step .self hp
  | step h hq ih => exact .step ih hq
theorem Spn.last (hw : WF b ps) {x y : Nat} {bd : Option Nat} (h : Spn b ps Prod.snd x y bd) : upTo n bd → ∃ pre, Dn b ps n [x] = pre ++ Dn b ps n [y] := by
  induction h with
  | self => exact fun _ => ⟨[], rfl⟩
  | step h hp ih =>
    rename_i j p bd
    intro hu
    have hj := hu j rfl
    obtain ⟨pre, e⟩ := ih fun k ek => by
      subst ek
      have := (h.lt side2 hw).1
      omega
    exact ⟨pre ++ Dn b ps n [p.1], by rw [e, Dn_big hw hp hj, List.append_assoc]⟩
theorem Spn.first (hw : WF b ps) {x y : Nat} {bd : Option Nat} (h : Spn b ps Prod.fst x y bd) : upTo n bd → ∃ post, Dn b ps n [x] = Dn b ps n [y] ++ post := by
  induction h with
  | self => exact fun _ => ⟨[], (List.append_nil _).symm⟩
  | step h hp ih =>
    rename_i j p bd
    intro hu
    have hj := hu j rfl
    obtain ⟨post, e⟩ := ih fun k ek => by
      subst ek
      have := (h.lt side1 hw).1
      omega
    exact ⟨Dn b ps n [p.2] ++ post, by rw [e, Dn_big hw hp hj, List.append_assoc]⟩
theorem getLast_app {u v : List Nat} {x : Nat} (h : v.getLast? = some x) : (u ++ v).getLast? = some x := by
  rw [List.getLast?_append, h]; rfl
theorem head_app {u v : List Nat} {x : Nat} (h : u.head? = some x) : (u ++ v).head? = some x := by
  cases u with
  | nil => cases h
  | cons a u => exact h
theorem last_ex (hw : WF b ps) : ∀ (x : Nat), x < b + ps.length → ∃ y bd, Spn b ps Prod.snd x y bd ∧ upTo n bd ∧ (Dn b ps n [x]).getLast? = some y := by
  intro x
  induction x using Nat.strongRecOn with
  | ind x ih =>
    intro hx
    by_cases c : x < b + n
    · exact ⟨x, none, .self, (fun k e => by cases e), by rw [Dn_small c]; rfl⟩
    · rcases part_of hx with h | ⟨j, p, rfl, hp⟩
      · omega
      · have hj := hw j p hp
        obtain ⟨y, bd, h1, h2, h3⟩ := ih p.2 hj.2 (by omega)
        refine ⟨y, _, h1.ahead hp, fun k e => ?_, ?_⟩
        · have e' : bd.getD j = k := Option.some.inj e
          cases bd with
          | none => have : j = k := e'; omega
          | some i => have : i = k := e'; have := h2 i rfl; omega
        · rw [Dn_big hw hp (by omega)]
          exact getLast_app h3
theorem first_ex (hw : WF b ps) : ∀ (x : Nat), x < b + ps.length → ∃ y bd, Spn b ps Prod.fst x y bd ∧ upTo n bd ∧ (Dn b ps n [x]).head? = some y := by
  intro x
  induction x using Nat.strongRecOn with
  | ind x ih =>
    intro hx
    by_cases c : x < b + n
    · exact ⟨x, none, .self, (fun k e => by cases e), by rw [Dn_small c]; rfl⟩
    · rcases part_of hx with h | ⟨j, p, rfl, hp⟩
      · omega
      · have hj := hw j p hp
        obtain ⟨y, bd, h1, h2, h3⟩ := ih p.1 hj.1 (by omega)
        refine ⟨y, _, h1.ahead hp, fun k e => ?_, ?_⟩
        · have e' : bd.getD j = k := Option.some.inj e
          cases bd with
          | none => have : j = k := e'; omega
          | some i => have : i = k := e'; have := h2 i rfl; omega
        · rw [Dn_big hw hp (by omega)]
          exact head_app h3
/-- the join of rank r puts letters of x and y together, where x stands ahead of y -/
def Cross (b : Nat) (ps : List (Nat × Nat)) (x y r : Nat) : Prop := ∃ (p : Nat × Nat) (bx by' : Option Nat), ps[r]? = some p ∧ Spn b ps Prod.snd x p.1 bx ∧ Spn b ps Prod.fst y p.2 by' ∧ upTo (r + 1) bx ∧ upTo r by'
theorem Cross.lt {x y r : Nat} (h : Cross b ps x y r) : r < ps.length := by
  obtain ⟨p, _, _, hp, _⟩ := h
  exact (List.getElem?_eq_some_iff.mp hp).1
theorem cross_iff (hw : WF b ps) {x y r : Nat} (hx : x < b + ps.length) (hy : y < b + ps.length) : Cross b ps x y r ↔ ∃ p, ps[r]? = some p ∧ (Dn b ps (r + 1) [x]).getLast? = some p.1 ∧ (Dn b ps r [y]).head? = some p.2 := by
  constructor
  · rintro ⟨p, bx, by', hp, h1, h2, u1, u2⟩
    have hpw := hw r p hp
    obtain ⟨pre, e1⟩ := h1.last hw u1
    obtain ⟨post, e2⟩ := h2.first hw u2
    refine ⟨p, hp, ?_, ?_⟩
    · rw [e1, Dn_small (by omega)]; exact getLast_app rfl
    · rw [e2, Dn_small (by omega)]; rfl
  · rintro ⟨p, hp, h1, h2⟩
    obtain ⟨u, bx, a1, a2, a3⟩ := last_ex (n := r + 1) hw x hx
    obtain ⟨v, by', b1, b2, b3⟩ := first_ex (n := r) hw y hy
    rw [h1] at a3
    rw [h2] at b3
    cases a3
    cases b3
    exact ⟨p, bx, by', hp, a1, b1, a2, b2⟩
/-- all adjacent pieces stay apart at rank n -/
def Still (b : Nat) (ps : List (Nat × Nat)) (n : Nat) (row : List Nat) : Prop := ∀ q ∈ adjs row, ¬ Cross b ps q.1 q.2 n
theorem Still.tail {x : Nat} {t : List Nat} (h : Still b ps n (x :: t)) : Still b ps n t := fun q hq => h q (mem_adjs_cons hq)
theorem Still.left {u v : List Nat} (h : Still b ps n (u ++ v)) : Still b ps n u := fun q hq => h q (adjs_sub_left hq)
theorem pass_row (G : Good b ps) {p : Nat × Nat} (hp : ps[n]? = some p) : ∀ {row : List Nat}, (∀ x ∈ row, x < b + ps.length) → Still b ps n row → pass p.1 p.2 (b + n) (Dn b ps n row) = Dn b ps (n + 1) row
  | [], _, _ => by rw [Dn_nil, Dn_nil]; rfl
  | [x], hx, _ => G.next (hx x (List.mem_cons_self ..)) hp
  | x :: y :: t, hx, hs => by
    have hx0 := hx x (List.mem_cons_self ..)
    have hy0 := hx y (List.mem_cons_of_mem _ (List.mem_cons_self ..))
    rw [Dn_cons, Dn_cons x (y :: t), pass_app, G.next hx0 hp, pass_row G hp (fun u hu => hx u (List.mem_cons_of_mem _ hu)) hs.tail]
    rw [G.next hx0 hp]
    rintro ⟨h1, h2⟩
    refine hs (x, y) (by rw [adjs_cons2]; exact List.mem_cons_self ..) ((cross_iff G.wf hx0 hy0).mpr ⟨p, hp, h1, ?_⟩)
    obtain ⟨z, s, e⟩ := Dn_ne (n := n) G.wf y hy0
    rw [Dn_cons, e] at h2
    rw [e]; exact h2
/-- as long as nothing crosses, each piece is staged by itself -/
theorem stage_row (G : Good b ps) {row : List Nat} (hx : ∀ x ∈ row, x < b + ps.length) : ∀ n, n ≤ ps.length → (∀ r, r < n → Still b ps r row) → cutL b (ps.take n) (Dn b ps 0 row) = Dn b ps n row
  | 0, _, _ => rfl
  | n + 1, hn, hs => by
    obtain ⟨p, hp⟩ : ∃ p, ps[n]? = some p := ⟨_, List.getElem?_eq_getElem (by omega)⟩
    rw [take_succ_of hp, cutL_snoc, take_len_of hp, stage_row G hx n (by omega) fun r hr => hs r (by omega), pass_row G hp hx (hs n (by omega))]
/-- the first pair of adjacent ones that is not still -/
theorem first_cross {row : List Nat} (h : ¬ Still b ps n row) : ∃ u x y v, row = u ++ x :: y :: v ∧ Cross b ps x y n ∧ Still b ps n (u ++ [x]) := by
  induction row with
  | nil => exact absurd (fun q hq => by cases hq) h
  | cons a t ih =>
    cases t with
    | nil => exact absurd (fun q hq => by cases hq) h
    | cons c t =>
      by_cases k : Cross b ps a c n
      · exact ⟨[], a, c, t, rfl, k, fun q hq => by cases hq⟩
      · have h2 : ¬ Still b ps n (c :: t) := fun hs => h fun q hq => by
          rw [adjs_cons2] at hq
          rcases List.mem_cons.mp hq with z | z
          · rw [z]; exact k
          · exact hs q z
        obtain ⟨u, x, y, v, e, h3, h4⟩ := ih h2
        refine ⟨a :: u, x, y, v, by rw [e]; rfl, h3, ?_⟩
        cases u with
        | nil =>
          injection e with e1 e2
          subst e1
          intro q hq
          have hq' : q ∈ [(a, c)] := hq
          rw [List.mem_singleton.mp hq']; exact k
        | cons d u =>
          injection e with e1 e2
          subst e1
          intro q hq
          have hq' : q ∈ (a, c) :: adjs (c :: u ++ [x]) := hq
          rcases List.mem_cons.mp hq' with z | z
          · rw [z]; exact k
          · exact h4 q z
/-- what the pass at a crossing makes -/
theorem pass_at_cross (G : Good b ps) {p : Nat × Nat} (hp : ps[n]? = some p) {u v : List Nat} {x y : Nat} (hx : ∀ z ∈ u ++ x :: y :: v, z < b + ps.length) (hc : Cross b ps x y n) (hs : Still b ps n (u ++ [x])) :
    ∃ t, (Dn b ps n (y :: v)) = p.2 :: t ∧ (Dn b ps (n + 1) (u ++ [x])).getLast? = some p.1 ∧ pass p.1 p.2 (b + n) (Dn b ps n (u ++ x :: y :: v)) = (Dn b ps (n + 1) (u ++ [x])).dropLast ++ (b + n) :: pass p.1 p.2 (b + n) t := by
  have hx0 : x < b + ps.length := hx x (by simp)
  have hy0 : y < b + ps.length := hx y (by simp)
  obtain ⟨p', hp', h1, h2⟩ := (cross_iff G.wf hx0 hy0).mp hc
  rw [hp] at hp'
  cases hp'
  obtain ⟨z, s, e⟩ := Dn_ne (n := n) G.wf y hy0
  rw [e] at h2
  have ez : z = p.2 := Option.some.inj h2
  subst ez
  have hl : (Dn b ps (n + 1) (u ++ [x])).getLast? = some p.1 := by rw [Dn_app]; exact getLast_app h1
  have hd : Dn b ps n (y :: v) = p.2 :: (s ++ Dn b ps n v) := by rw [Dn_cons, e]; rfl
  refine ⟨_, hd, hl, ?_⟩
  have hpass := pass_row G hp (row := u ++ [x]) (fun z hz => hx z (by
    rcases List.mem_append.mp hz with w | w
    · exact List.mem_append_left _ w
    · rw [List.mem_singleton.mp w]; simp)) hs
  have hm : b + n ≠ p.1 := by have := (G.wf n p hp).1; omega
  rw [show u ++ x :: y :: v = (u ++ [x]) ++ y :: v by simp, Dn_app, hd, pass_cross hm _ _ (by rw [hpass]; exact hl), hpass]
/-- a row of pieces is the cut of its letters if and only if no two neighbors cross -/
theorem cut_row_iff (G : Good b ps) {row : List Nat} (hx : ∀ x ∈ row, x < b + ps.length) : cutL b ps (Dn b ps 0 row) = row ↔ ∀ q ∈ adjs row, ∀ r, ¬ Cross b ps q.1 q.2 r := by
  constructor
  · intro h q hq r hc
    have hr := hc.lt
    obtain ⟨p, hp⟩ : ∃ p, ps[r]? = some p := ⟨_, List.getElem?_eq_getElem hr⟩
    have hns : ¬ Still b ps r row := fun hs => hs q hq hc
    obtain ⟨u, x, y, v, rfl, hc', hs'⟩ := first_cross hns
    obtain ⟨t, h1, h2, h3⟩ := pass_at_cross G hp hx hc' hs'
    have lows := G.lows hx
    have e1 := Dn_cut (n := r) (ps := ps) lows (by omega)
    have e2 := Dn_cut (n := r + 1) (ps := ps) lows (by omega)
    rw [h] at e1 e2
    rw [take_succ_of hp, cutL_snoc, take_len_of hp, ← e1, h3, show u ++ x :: y :: v = (u ++ [x]) ++ y :: v by simp, Dn_app] at e2
    obtain ⟨ys, ey⟩ := List.getLast?_eq_some_iff.mp h2
    rw [ey, List.dropLast_concat, List.append_assoc] at e2
    have e3 := List.append_cancel_left e2
    injection e3 with e4 e5
    have := (G.wf r p hp).1
    omega
  · intro h
    have := stage_row G hx ps.length (Nat.le_refl _) fun r _ q hq => h q hq r
    rwa [List.take_length, Dn_full] at this
/-- and at the first crossing there is no seam left -/
theorem cross_first (G : Good b ps) {x y c : Nat} (hx : x < b + ps.length) (hy : y < b + ps.length) (hc : Cross b ps x y c) (hno : ∀ r, r < c → ¬ Cross b ps x y r) :
    ∃ A B p, ps[c]? = some p ∧ Dn b ps (c + 1) [x] = A ++ [p.1] ∧ cutL b (ps.take (c + 1)) (Dn b ps 0 [x, y]) = A ++ (b + c) :: B := by
  have hcl := hc.lt
  obtain ⟨p, hp⟩ : ∃ p, ps[c]? = some p := ⟨_, List.getElem?_eq_getElem hcl⟩
  have hxy : ∀ z ∈ [x, y], z < b + ps.length := fun z hz => by
    rcases List.mem_cons.mp hz with w | w
    · rw [w]; exact hx
    · rw [List.mem_singleton.mp w]; exact hy
  obtain ⟨t, h1, h2, h3⟩ := pass_at_cross (u := []) (v := []) G hp hxy hc (fun q hq => by cases hq)
  obtain ⟨ys, ey⟩ := List.getLast?_eq_some_iff.mp h2
  refine ⟨ys, pass p.1 p.2 (b + c) t, p, hp, ey, ?_⟩
  rw [take_succ_of hp, cutL_snoc, take_len_of hp, stage_row G hxy c (by omega) fun r hr q hq => by
    have hq' : q ∈ [(x, y)] := hq
    rw [List.mem_singleton.mp hq']; exact hno r hr]
  rw [show [x, y] = [] ++ x :: y :: [] from rfl, h3, ey, List.dropLast_concat]
end
/-- proper lists are good ones -/
theorem Dn_text {al : List Nat} (hal : al.Nodup) {ps : List (Nat × Nat)} (h : Proper al ps) {x : Nat} (hx : x < al.length + ps.length) : Dn al.length ps 0 [x] = lets al ((textsOf al ps).getD x []) := by
  have ht : (textsOf al ps)[x]? = some ((textsOf al ps).getD x []) := by
    rw [List.getD_eq_getElem?_getD, List.getElem?_eq_getElem (by rw [textsOf_len]; exact hx)]; rfl
  have hm : ∀ c ∈ (textsOf al ps).getD x [], c ∈ al := textsOf_al _ (List.mem_of_getElem? ht)
  have := Dn_cut (n := 0) (ps := ps) (lets_lt hm) (Nat.zero_le _)
  rw [cut_piece hal h x _ ht] at this
  exact this
theorem lets_app (al u v : List Nat) : lets al (u ++ v) = lets al u ++ lets al v := List.map_append
theorem Dn_texts {al : List Nat} (hal : al.Nodup) {ps : List (Nat × Nat)} (h : Proper al ps) : ∀ {row : List Nat}, (∀ x ∈ row, x < al.length + ps.length) → Dn al.length ps 0 row = lets al (textR (textsOf al ps) row)
  | [], _ => Dn_nil
  | x :: t, hx => by
    rw [Dn_cons, Dn_text hal h (hx x (List.mem_cons_self ..)), Dn_texts hal h fun u hu => hx u (List.mem_cons_of_mem _ hu), textR_cons, lets_app]
theorem Proper.good {al : List Nat} (hal : al.Nodup) {ps : List (Nat × Nat)} (h : Proper al ps) : Good al.length ps where
  wf := h.wf
  one := fun x hx => by
    rw [Dn_text hal h hx]
    exact cut_piece hal h x _ (by rw [List.getD_eq_getElem?_getD, List.getElem?_eq_getElem (by rw [textsOf_len]; exact hx)]; rfl)
  low := fun x hx => by
    rw [Dn_text hal h hx]
    exact lets_lt (textsOf_al _ (List.mem_of_getElem? (i := x) (by rw [List.getD_eq_getElem?_getD, List.getElem?_eq_getElem (by rw [textsOf_len]; exact hx)]; rfl)))
section
variable {b : Nat} {ps : List (Nat × Nat)} {sd : Nat × Nat → Nat}
theorem Spn.zero {x y : Nat} {bd : Option Nat} (h : Spn b ps sd x y bd) (e : bd = none) : y = x := by
  cases h with
  | self => rfl
  | step h hp => cases e
theorem Spn.up {x y k : Nat} (h : Spn b ps sd x y (some k)) : b ≤ x := by
  have key : ∀ y bd, Spn b ps sd x y bd → bd = none ∨ b ≤ x := by
    intro y bd h
    induction h with
    | self => exact .inl rfl
    | step h hp ih =>
      rcases ih with e | e
      · have := h.zero e
        exact .inr (by omega)
      · exact .inr e
  rcases key _ _ h with e | e
  · cases e
  · exact e
theorem Spn.down {j y : Nat} {p : Nat × Nat} {bd : Option Nat} (hp : ps[j]? = some p) (h : Spn b ps sd (b + j) y bd) : bd = none ∨ (y = sd p ∧ bd = some j) ∨ ∃ k, bd = some k ∧ Spn b ps sd (sd p) y (some k) := by
  generalize e : b + j = x at h
  induction h with
  | self => exact .inl rfl
  | step h hq ih =>
    rename_i j' q bd0
    refine .inr ?_
    rcases ih with e1 | ⟨e1, e2⟩ | ⟨k, e1, e2⟩
    · have e0 := h.zero e1
      have ej : j = j' := by omega
      subst ej
      rw [hp] at hq
      cases hq
      exact .inl ⟨rfl, rfl⟩
    · refine .inr ⟨j', rfl, ?_⟩
      exact .step (by rw [e1]; exact .self) hq
    · exact .inr ⟨j', rfl, .step e2 hq⟩
/-- all of a spine -/
structure IsSpine (b : Nat) (ps : List (Nat × Nat)) (sd : Nat × Nat → Nat) (x : Nat) (es : List (Nat × Option Nat)) : Prop where
  ok : ∀ e ∈ es, Spn b ps sd x e.1 e.2
  all : ∀ y bd, Spn b ps sd x y bd → (y, bd) ∈ es
/-- the spine up to a last one -/
structure IsSpineTo (b : Nat) (ps : List (Nat × Nat)) (sd : Nat × Nat → Nat) (x : Nat) (es : List (Nat × Option Nat)) (last : Nat) : Prop where
  ok : ∀ e ∈ es, Spn b ps sd x e.1 e.2
  all : ∀ y bd, Spn b ps sd x y bd → (y, bd) ∈ es ∨ ∃ k, bd = some k ∧ Spn b ps sd last y (some k)
  at_ : ∃ bd, (last, bd) ∈ es
theorem IsSpineTo.start (x : Nat) : IsSpineTo b ps sd x [(x, none)] x where
  ok := fun e he => by rw [List.mem_singleton.mp he]; exact .self
  all := fun y bd h => by
    cases bd with
    | none => cases h; exact .inl (List.mem_cons_self ..)
    | some k => exact .inr ⟨k, rfl, h⟩
  at_ := ⟨none, List.mem_cons_self ..⟩
theorem IsSpineTo.next {x j : Nat} {p : Nat × Nat} {es : List (Nat × Option Nat)} (h : IsSpineTo b ps sd x es (b + j)) (hp : ps[j]? = some p) : IsSpineTo b ps sd x (es ++ [(sd p, some j)]) (sd p) where
  ok := fun e he => by
    rcases List.mem_append.mp he with z | z
    · exact h.ok e z
    · rw [List.mem_singleton.mp z]
      obtain ⟨bd, hb⟩ := h.at_
      exact .step (h.ok _ hb) hp
  all := fun y bd hy => by
    rcases h.all y bd hy with z | ⟨k, e, z⟩
    · exact .inl (List.mem_append_left _ z)
    · subst e
      rcases z.down hp with e1 | ⟨e1, e2⟩ | ⟨k', e1, e2⟩
      · cases e1
      · cases e2
        subst e1
        exact .inl (List.mem_append_right _ (List.mem_singleton.mpr rfl))
      · cases e1
        exact .inr ⟨k, rfl, e2⟩
  at_ := ⟨some j, List.mem_append_right _ (List.mem_singleton.mpr rfl)⟩
theorem IsSpineTo.done {x last : Nat} {es : List (Nat × Option Nat)} (h : IsSpineTo b ps sd x es last) (hl : last < b) : IsSpine b ps sd x es where
  ok := h.ok
  all := fun y bd hy => by
    rcases h.all y bd hy with z | ⟨k, e, z⟩
    · exact z
    · have := z.up; omega
/-- the first crossing, if any -/
def CrossIs (b : Nat) (ps : List (Nat × Nat)) (x y : Nat) : Option Nat → Prop
  | none => ∀ r, ¬ Cross b ps x y r
  | some c => Cross b ps x y c ∧ ∀ r, r < c → ¬ Cross b ps x y r
theorem CrossIs.uniq {x y : Nat} : ∀ {c d : Option Nat}, CrossIs b ps x y c → CrossIs b ps x y d → c = d
  | none, none, _, _ => rfl
  | none, some d, h, k => absurd k.1 (h d)
  | some c, none, h, k => absurd h.1 (k c)
  | some c, some d, h, k => by
    rcases Nat.lt_trichotomy c d with z | z | z
    · exact absurd h.1 (k.2 c z)
    · rw [z]
    · exact absurd k.1 (h.2 d z)
theorem least_ex {P : Nat → Prop} (h : ∃ n, P n) : ∃ n, P n ∧ ∀ m, m < n → ¬ P m := by
  obtain ⟨n, hn⟩ := h
  induction n using Nat.strongRecOn with
  | ind n ih =>
    by_cases c : ∃ m, m < n ∧ P m
    · obtain ⟨m, hm, hp⟩ := c
      exact ih m hm hp
    · exact ⟨n, hn, fun m hm hp => c ⟨m, hm, hp⟩⟩
theorem CrossIs.ex (b : Nat) (ps : List (Nat × Nat)) (x y : Nat) : ∃ c, CrossIs b ps x y c := by
  by_cases h : ∃ r, Cross b ps x y r
  · obtain ⟨c, h1, h2⟩ := least_ex h
    exact ⟨some c, h1, h2⟩
  · exact ⟨none, fun r hr => h ⟨r, hr⟩⟩
end
theorem Proper.fresh {al : List Nat} {ps : List (Nat × Nat)} (h : Proper al ps) {i : Nat} {p : Nat × Nat} (hp : ps[i]? = some p) : p ∉ ps.take i := fun hm => by
  obtain ⟨h1, h2, h3, h4⟩ := h i p hp
  have := cut_clean (h.take i).wf (lets al ((textsOf al (ps.take i)).getD p.1 [] ++ (textsOf al (ps.take i)).getD p.2 [])) _ hm
  rw [h4] at this
  exact this (by show (p.1, p.2) ∈ [(p.1, p.2)]; exact List.mem_cons_self ..)
theorem Proper.idx {al : List Nat} {ps : List (Nat × Nat)} (h : Proper al ps) {i : Nat} {p : Nat × Nat} (hp : ps[i]? = some p) : ps.idxOf p = i := by
  have hm : p ∈ ps := List.mem_of_getElem? hp
  have h1 : ps.idxOf p < ps.length := List.idxOf_lt_length_iff.mpr hm
  have h2 : ps[ps.idxOf p]? = some p := by rw [List.getElem?_eq_getElem h1, List.getElem_idxOf h1]
  rcases Nat.lt_trichotomy (ps.idxOf p) i with z | z | z
  · refine absurd ?_ (h.fresh hp)
    refine List.mem_of_getElem? (i := ps.idxOf p) ?_
    rw [List.getElem?_take, if_pos z]; exact h2
  · exact z
  · refine absurd ?_ (h.fresh h2)
    refine List.mem_of_getElem? (i := i) ?_
    rw [List.getElem?_take, if_pos z]; exact hp
/-! ### places behind pieces -/
def marks (ts : List (List Nat)) : Nat → List Nat → List Nat
  | _, [] => []
  | a, x :: t => (a + (ts.getD x []).length) :: marks ts (a + (ts.getD x []).length) t
def szR (ts : List (List Nat)) (row : List Nat) : Nat := (textR ts row).length
theorem szR_cons (ts : List (List Nat)) (x : Nat) (t : List Nat) : szR ts (x :: t) = (ts.getD x []).length + szR ts t := by
  unfold szR
  rw [textR_cons, List.length_append]
theorem textR_app (ts : List (List Nat)) (u v : List Nat) : textR ts (u ++ v) = textR ts u ++ textR ts v := by
  unfold textR; rw [List.map_append, List.flatten_append]
theorem szR_app (ts : List (List Nat)) (u v : List Nat) : szR ts (u ++ v) = szR ts u + szR ts v := by
  unfold szR; rw [textR_app, List.length_append]
theorem marks_app (ts : List (List Nat)) : ∀ (u v : List Nat) (a : Nat), marks ts a (u ++ v) = marks ts a u ++ marks ts (a + szR ts u) v
  | [], v, a => by show marks ts a v = marks ts (a + 0) v; rw [Nat.add_zero]
  | x :: u, v, a => by
    show (a + (ts.getD x []).length) :: marks ts (a + (ts.getD x []).length) (u ++ v) = (a + (ts.getD x []).length) :: (marks ts _ u ++ _)
    rw [marks_app ts u v, szR_cons, Nat.add_assoc]
theorem marks_le {ts : List (List Nat)} : ∀ {row : List Nat} {a n : Nat}, n ∈ marks ts a row → a ≤ n ∧ n ≤ a + szR ts row
  | [], _, _, h => by cases h
  | x :: t, a, n, h => by
    rw [szR_cons]
    rcases List.mem_cons.mp h with z | z
    · omega
    · have := marks_le z; omega
theorem marks_end {ts : List (List Nat)} : ∀ {row : List Nat} {a : Nat}, row ≠ [] → a + szR ts row ∈ marks ts a row
  | [], _, h => absurd rfl h
  | [x], a, _ => by
    rw [szR_cons]
    exact List.mem_cons_self ..
  | x :: y :: t, a, _ => by
    rw [szR_cons, ← Nat.add_assoc]
    exact List.mem_cons_of_mem _ (marks_end (row := y :: t) (List.cons_ne_nil _ _))
theorem marks_len (ts : List (List Nat)) : ∀ (row : List Nat) (a : Nat), (marks ts a row).length = row.length
  | [], _ => rfl
  | x :: t, a => congrArg (· + 1) (marks_len ts t _)
theorem texts_pos {al : List Nat} {ps : List (Nat × Nat)} (hw : WF al.length ps) : ∀ (x : Nat), x < al.length + ps.length → 0 < ((textsOf al ps).getD x []).length := by
  intro x
  induction x using Nat.strongRecOn with
  | ind x ih =>
    intro hx
    rcases part_of hx with h | ⟨j, p, rfl, hp⟩
    · rw [texts_letter (List.getElem?_eq_getElem h)]; exact Nat.one_pos
    · have hj := hw j p hp
      rw [texts_at hw j p hp, List.length_append]
      have := ih p.1 hj.1 (by omega)
      omega
theorem Dn_size {al : List Nat} {ps : List (Nat × Nat)} (hw : WF al.length ps) (n x : Nat) : szR (textsOf al ps) (Dn al.length ps n [x]) = ((textsOf al ps).getD x []).length := by
  unfold szR Dn
  rw [splitD_text hw _ _ (Nat.le_refl _)]
  show (((textsOf al ps).getD x []) ++ []).length = _
  rw [List.append_nil]
/-- as long as nothing crosses there is a seam -/
theorem seam_of_still {al : List Nat} {ps : List (Nat × Nat)} (hal : al.Nodup) (h : Proper al ps) {x y n : Nat} (hx : x < al.length + ps.length) (hy : y < al.length + ps.length) (hn : n ≤ ps.length) (hno : ∀ r, r < n → ¬ Cross al.length ps x y r) :
    ((textsOf al ps).getD x []).length ∈ marks (textsOf al ps) 0 (cutL al.length (ps.take n) (Dn al.length ps 0 [x, y])) := by
  rw [stage_row (h.good hal) (row := [x, y]) (fun z hz => by
    rcases List.mem_cons.mp hz with w | w
    · rw [w]; exact hx
    · rw [List.mem_singleton.mp w]; exact hy) n hn fun r hr q hq => by
    have hq' : q ∈ [(x, y)] := hq
    rw [List.mem_singleton.mp hq']; exact hno r hr]
  rw [Dn_cons, marks_app, ← Dn_size h.wf n x, ← Nat.zero_add (szR _ _)]
  refine List.mem_append_left _ (marks_end ?_)
  obtain ⟨z, s, e⟩ := Dn_ne (n := n) h.wf x hx
  rw [e]; exact List.cons_ne_nil _ _
/-- and at the first crossing there is none -/
theorem no_seam {al : List Nat} {ps : List (Nat × Nat)} (hal : al.Nodup) (h : Proper al ps) {x y c : Nat} (hx : x < al.length + ps.length) (hy : y < al.length + ps.length) (hc : Cross al.length ps x y c) (hno : ∀ r, r < c → ¬ Cross al.length ps x y r) :
    ((textsOf al ps).getD x []).length ∉ marks (textsOf al ps) 0 (cutL al.length (ps.take (c + 1)) (Dn al.length ps 0 [x, y])) := by
  obtain ⟨A, B, p, hp, e1, e2⟩ := cross_first (h.good hal) hx hy hc hno
  have hw := h.wf
  have hpw := hw c p hp
  have hcl := (List.getElem?_eq_some_iff.mp hp).1
  have hsz : ((textsOf al ps).getD x []).length = szR (textsOf al ps) A + ((textsOf al ps).getD p.1 []).length := by
    rw [← Dn_size hw (c + 1) x, e1, szR_app, szR_cons]; rfl
  have p1 := texts_pos hw p.1 (by omega)
  have p2 := texts_pos hw p.2 (by omega)
  intro hm
  rw [e2, marks_app] at hm
  rcases List.mem_append.mp hm with z | z
  · have := marks_le z; omega
  · have hlen : ((textsOf al ps).getD (al.length + c) []).length = ((textsOf al ps).getD p.1 []).length + ((textsOf al ps).getD p.2 []).length := by rw [texts_at hw c p hp, List.length_append]
    rcases List.mem_cons.mp z with w | w
    · omega
    · have := marks_le w; omega
/-- the cut of two pieces' text -/
theorem cut_pair_iff {al : List Nat} {ps : List (Nat × Nat)} (hal : al.Nodup) (h : Proper al ps) {x y : Nat} (hx : x < al.length + ps.length) (hy : y < al.length + ps.length) {c : Option Nat} (hc : CrossIs al.length ps x y c) :
    cutL al.length ps (lets al ((textsOf al ps).getD x [] ++ (textsOf al ps).getD y [])) = [x, y] ↔ c = none := by
  have hxy : ∀ z ∈ [x, y], z < al.length + ps.length := fun z hz => by
    rcases List.mem_cons.mp hz with w | w
    · rw [w]; exact hx
    · rw [List.mem_singleton.mp w]; exact hy
  have e : Dn al.length ps 0 [x, y] = lets al ((textsOf al ps).getD x [] ++ (textsOf al ps).getD y []) := by
    rw [Dn_texts hal h hxy, textR_cons, textR_cons]
    show lets al (_ ++ (_ ++ [])) = _
    rw [List.append_nil]
  rw [← e, cut_row_iff (h.good hal) hxy]
  constructor
  · intro hn
    cases c with
    | none => rfl
    | some c => exact absurd hc.1 (hn (x, y) (by show (x, y) ∈ [(x, y)]; exact List.mem_cons_self ..) c)
  · intro e q hq r
    subst e
    have hq' : q ∈ [(x, y)] := hq
    rw [List.mem_singleton.mp hq']; exact hc r
end RJ
end

section
set_option maxRecDepth 100000
namespace RJ
open PySem PySem.Spec PyProof.Rows L2
/-- what an iterator at it draws: n items, the i-th one PV i; G: what must stay tracked -/
structure DrawK (P : Program) (w : World) (K : PySem.W.Frag) (it : Addr) (n : Nat) (tnI : Nat → Heap → Prop) (G : Hp → Prop) (PV : Nat → V → Prop) : Prop where
  obj : ∀ i h, tnI i h → ∃ o, h.get? it = some o ∧ ∀ v, o.data ≠ .cell v
  keep : ∀ i h h', tnI i h → (∀ o, h.get? it = some o → h'.get? it = some o) → tnI i h'
  draws : ∀ (X : Cx), X.prog = P → X.w = w → X.K = K → X.calm = true → ∀ (i : Nat) (pins : List (Addr × Obj)) (s : Shared) (σ : L2.St) (H : Hp), Inv X pins σ H s → G H → H it = none → tnI i s.heap →
    ∃ (fp : List Addr) (PD : Nat → Value → Prop) (StD : Nat → Heap → Prop), Draws P w X.A.in1 it fp n PD StD ∧ StD i s.heap ∧ it ∈ fp ∧ (∀ b ∈ fp, b = it ∨ (∃ o, H b = some o)) ∧
      (∀ j h, StD j h → tnI j h) ∧ ∀ j v, PD j v → ∃ x, PV j x ∧ RelV x v
theorem drawK_str {P : Program} {w : World} {K : PySem.W.Frag} (it : Addr) (x : Str) (t : Tok) :
    DrawK P w K it x.cps.size (fun i h => h.IsStrIter it (strIterType x) x t i) (fun _ => True) (fun i v => ∃ c, x.cps[i]? = some c ∧ v = .str ⟨#[c]⟩) where
  obj := fun i h st => by
    obtain ⟨o, e, c, d⟩ := st
    exact ⟨o, e, fun v z => by rw [d] at z; cases z⟩
  keep := fun i h h' st k => let ⟨o, ho, r⟩ := st; ⟨o, k o ho, r⟩
  draws := fun X hP hw hK hc i pins s σ H I _ _ st => by
    subst hP hw hK
    exact ⟨[it], _, _, Draws.text (A := X.A.in1) (I.ok.hd hc) it x t, st, by simp, fun b hb => .inl (by simpa using hb), fun j h q => q, fun j v ⟨c, u, hx, e⟩ => ⟨_, ⟨c, hx, rfl⟩, by rw [e]; exact ⟨u, rfl⟩⟩⟩
theorem drawK_tup {P : Program} {w : World} {K : PySem.W.Frag} (it a : Addr) (xs : List V) :
    DrawK P w K it xs.length (fun i h => h.IsTupleIter it a i) (fun H => H a = some (.tup xs)) (fun i v => xs[i]? = some v) where
  obj := fun i h st => by
    obtain ⟨o, e, c, d⟩ := st
    exact ⟨o, e, fun v z => by rw [d] at z; cases z⟩
  keep := fun i h h' st k => st.at k
  draws := fun X hP hw hK hc i pins s σ H I hG hn st => by
    subst hP hw hK
    have hne : a ≠ it := ne_of_none hG hn
    obtain ⟨its, rv, p, _⟩ := I.tuple (SqT.of hG)
    have hl := rv.length
    have e : its.toArray.size = xs.length := by simp [hl]
    have D := Draws.tuple (prog := X.prog) (w := X.w) (A := X.A.in1) (I.ok.hd hc) it a hne its.toArray
    rw [e] at D
    refine ⟨[it, a], _, _, D, ⟨st, p⟩, by simp, fun b hb => ?_, fun j h q => q.1, fun j v q => ?_⟩
    · rcases List.mem_cons.mp hb with z | z
      · exact .inl z
      · exact .inr ⟨_, by rw [List.mem_singleton.mp z]; exact hG⟩
    · have q' : its[j]? = some v := by simpa using q
      have hj : j < xs.length := by
        have := (List.getElem?_eq_some_iff.mp q').1
        omega
      obtain ⟨u, hu, ru⟩ := rv.get (List.getElem?_eq_getElem hj)
      rw [q'] at hu
      cases hu
      exact ⟨_, List.getElem?_eq_getElem hj, ru⟩
theorem drawK_list {P : Program} {w : World} {K : PySem.W.Frag} (it a : Addr) (xs : List V) :
    DrawK P w K it xs.length (fun i h => h.IsListIter it a i) (fun H => H a = some (.lst xs)) (fun i v => xs[i]? = some v) where
  obj := fun i h st => by
    obtain ⟨o, e, c, d⟩ := st
    exact ⟨o, e, fun v z => by rw [d] at z; cases z⟩
  keep := fun i h h' st k => st.at k
  draws := fun X hP hw hK hc i pins s σ H I hG hn st => by
    subst hP hw hK
    have hne : a ≠ it := ne_of_none hG hn
    obtain ⟨its, rv, p, _⟩ := I.list (SqL.of hG)
    have hl := rv.length
    have e : its.toArray.size = xs.length := by simp [hl]
    have D := Draws.list (prog := X.prog) (w := X.w) (A := X.A.in1) (I.ok.hd hc) it a hne its.toArray
    rw [e] at D
    refine ⟨[it, a], _, _, D, ⟨st, p.isList⟩, by simp, fun b hb => ?_, fun j h q => q.1, fun j v q => ?_⟩
    · rcases List.mem_cons.mp hb with z | z
      · exact .inl z
      · exact .inr ⟨_, by rw [List.mem_singleton.mp z]; exact hG⟩
    · have q' : its[j]? = some v := by simpa using q
      have hj : j < xs.length := by
        have := (List.getElem?_eq_some_iff.mp q').1
        omega
      obtain ⟨u, hu, ru⟩ := rv.get (List.getElem?_eq_getElem hj)
      rw [q'] at hu
      cases hu
      exact ⟨_, List.getElem?_eq_getElem hj, ru⟩
/-- n turns, each with a new tuple of xs, PX i xs, while G stands -/
def ItG (n : Nat) (G : Hp → Prop) (PX : Nat → List V → Prop) : It :=
  ⟨fun i H => G H ∧ i < n, fun i H v H' => ∃ T xs, v = .ref T ∧ H T = none ∧ H' = upd H T (.tup xs) ∧ PX i xs, fun i H => G H ∧ n ≤ i⟩
theorem two {a b : Addr} {p : Addr → Prop} (h1 : p a) (h2 : p b) : ∀ c ∈ [a, b], p c := fun c hc => by
  simp only [List.mem_cons, List.not_mem_nil, or_false] at hc
  rcases hc with e | e <;> rw [e] <;> assumption
theorem out2 {a b c : Addr} (h : c ∉ [a, b]) : c ≠ a ∧ c ≠ b := by
  simp only [List.mem_cons, List.not_mem_nil, or_false, not_or] at h; exact h
/-- an enumerate between two turns -/
def EnumT (e it : Addr) (n : Nat) (tnI : Nat → Heap → Prop) (i : Nat) (h : Heap) : Prop := i ≤ n ∧ (∃ old, IsEnum h e it ((i : Nat) : Int) old) ∧ tnI i h ∧ e ≠ it
theorem turn_enumG {P : Program} {w : World} {K : PySem.W.Frag} {elts : List Expr} {kk : Nat} {tpos : Pos} {e it : Addr} {n : Nat} {tnI : Nat → Heap → Prop} {G : Hp → Prop} {PV : Nat → V → Prop} (D : DrawK P w K it n tnI G PV) :
    Turn P w K (.Tuple elts kk tpos) (ItG n G fun i xs => ∃ v, PV i v ∧ xs = [.int (i : Nat), v]) [e, it] e (EnumT e it n tnI) where
  mem := List.mem_cons_self ..
  obj := fun i h ⟨_, ⟨_, a⟩, b, _⟩ => two (p := fun c => ∃ o, h.get? c = some o ∧ _) ⟨_, a, fun _ q => nomatch q⟩ (D.obj i h b)
  keep := fun i h h' ⟨l, ⟨old, a⟩, b, n⟩ k => ⟨l, ⟨old, k e (by simp) _ a⟩, D.keep i h h' b fun o => k it (by simp) o, n⟩
  item := by
    rintro X hP hw hK hc i pins s σ H E I hf ⟨hle, ⟨old, he⟩, hit, hne⟩ ⟨hG, hlt⟩
    obtain ⟨fp, PD, StD, DD, c1, m1, q1, back, val⟩ := D.draws X hP hw hK hc i pins s σ H I hG (hf it (by simp)).1 hit
    subst hP hw hK
    have apart : e ∉ fp := fun z => by
      rcases q1 e z with q | ⟨o, q⟩
      · exact hne q
      · rw [(hf e (by simp)).1] at q; cases q
    have lt2 : ∀ c ∈ [e, it], c < s.heap.objs.size := by
      obtain ⟨_, q⟩ := DD.live _ _ c1
      exact two (Heap.lt_size he) (Heap.lt_size q)
    refine wpAny_pyNext_enum_itemC DD he c1 hlt hne apart fun u h' tk hu ho j1 hT _ hk => ⟨_, rfl, ?_⟩
    obtain ⟨x, hx, ru⟩ := val i u hu
    refine wpAny_letOwnedTupleGo_enum (s := { s with heap := h', toks := tk + 1 }) ho fun g zg sg => ?_
    have on : ∀ {c : Addr} {o : Obj}, c ≠ e → h'.get? c = some o → g.get? c = some o := fun n a => (sg.2 _ n).trans a
    have made : ObjOk X.prog X.w (upd H s.heap.objs.size (.tup [.int (i : Nat), x])) g s.heap.objs.size (.tup [.int (i : Nat), x]) := ⟨by show 2 ≤ sizeLine; decide, [.int i tk, u], .cons ⟨_, rfl⟩ (.cons ru .nil), ⟨_, on (Nat.ne_of_gt (lt2 e (by simp))) hT, rfl, _, rfl⟩⟩
    have J : Inv X pins σ (upd H s.heap.objs.size (.tup [.int (i : Nat), x])) { s with heap := g, toks := tk + 1 } := I.turnedNew (ch := [e, it]) (fun c o hb q => on (out2 hb).1 (hk c o (out2 hb).1 (out2 hb).2 q)) hf (Nat.le_refl _) made
    have next : IsEnum g e it ((i + 1 : Nat) : Int) u := by rw [show ((i + 1 : Nat) : Int) = (i : Int) + 1 by omega]; exact zg
    exact ⟨.ref s.heap.objs.size, _, J, rfl, ⟨_, _, rfl, I.hok.fresh (Nat.le_refl _), rfl, x, hx, rfl⟩, ⟨hlt, ⟨u, next⟩, D.keep _ _ _ (back _ _ j1) fun _ => on (Ne.symm hne), hne⟩, fun c hcm => (upd_ne (Nat.ne_of_lt (lt2 c hcm))).trans (hf c hcm).1⟩
  done := by
    rintro X hP hw hK hc i pins s σ H E I hf ⟨hle, ⟨old, he⟩, hit, hne⟩ ⟨hG, hge⟩
    obtain ⟨fp, PD, StD, DD, c1, m1, q1, back, val⟩ := D.draws X hP hw hK hc i pins s σ H I hG (hf it (by simp)).1 hit
    subst hP hw hK
    obtain rfl : i = n := Nat.le_antisymm hle hge
    exact wpAny_pyNext_enum_endD DD he c1 fun h' eb => ⟨rfl, I.turnedL (t' := s.toks) (ch := [e, it]) (fun c o hb q => eb c o (out2 hb).2 q) hf⟩
  self := fun A i s Q E st h => by
    obtain ⟨_, ⟨_, he⟩, _⟩ := st
    exact wpAny_pyIter_enum he h
end RJ
end

section
set_option maxRecDepth 100000
namespace PySem
abbrev enumNew (it : Addr) : Obj := { cls := .type "enumerate", data := .fields #[.none, .bool false, .ref it, rawInt 0, .none, .none] }
set_option maxHeartbeats 1000000 in
/-- enumerate(v): an iterator of v, and the enumerate behind it -/
theorem rj_enum_made {v : Value} {o : Obj} {H : Heap → Prop} (B : Begins v o H) : Meets (Builtin.«enumerate.__new__» ⟨[.type "enumerate", v], []⟩) (fun _ R s => H s.heap ∧ R (.ok (.ret (.ref (s.heap.push o).objs.size))) { s with heap := (s.heap.push o).push (enumNew s.heap.objs.size) }) :=
  .of_wp fun prog w A R s ⟨src, fin⟩ => by
    have sub := sub_enumerate
    have it : ∀ {A' : Around} {E Q : Value → Shared → Prop}, Q (.ref s.heap.objs.size) { s with heap := s.heap.push o } → wpAny (model prog w) A' (pyIter v) Q E s := fun q => B.iter prog w _ _ s _ src q
    wp_walk using it
    refine wpAny_stack_any fun _ => wpAny_pure ?_; split
    · rename_i c _ _ _ _ _
      cases (c == Value.type "enumerate") <;> (wp_walk using it; exact ⟨_, rfl, fin⟩)
    · wp_walk using it; exact ⟨_, rfl, fin⟩
theorem rj_enum_begins {prog : Program} {w : World} {A : Around} {E Q : Value → Shared → Prop} {s : Shared} {v : Value} {o : Obj} {H : Heap → Prop} (B : Begins v o H) (src : H s.heap)
    (fin : ∀ h', IsEnum h' (s.heap.objs.size + 1) s.heap.objs.size 0 .none → h'.get? s.heap.objs.size = some o → h'.objs.size = s.heap.objs.size + 2 → (∀ b u, s.heap.get? b = some u → h'.get? b = some u) → Q (.ref (s.heap.objs.size + 1)) { s with heap := h' }) :
    wpAny (model prog w) A (call (.type "enumerate") [v]) Q E s := by
  have one : (s.heap.push o).objs.size = s.heap.objs.size + 1 := Heap.size_push ..
  have at1 : IsEnum ((s.heap.push o).push (enumNew s.heap.objs.size)) (s.heap.push o).objs.size s.heap.objs.size 0 .none := Heap.get?_push_size _ rfl
  have at0 : ((s.heap.push o).push (enumNew s.heap.objs.size)).get? s.heap.objs.size = some o := Heap.get?_push_of_some _ (Heap.get?_push_size _ B.free)
  have all := callType_new (prog := prog) (w := w) (A := A) (E := E) (Q := Q) F.called_enumerate (by decide) (F.typeCall_enumerate_1 v) (F.newCall_enumerate_1 v) (fun obj => F.args_object_init_2 obj _) F.entry_enumerate_new (rj_enum_made B) (s := s)
  refine all ⟨src, ?_⟩; show _ ∧ _
  rw [one] at at1 ⊢
  exact ⟨⟨_, at1, rfl⟩, fin _ at1 at0 (by rw [Heap.size_push, one]) fun b u e => Heap.get?_push_of_some _ (Heap.get?_push_of_some _ e)⟩
end PySem
namespace RJ
open PySem PySem.Spec PyProof.Rows L2
/-- iter of v begins something that draws -/
structure BegK (X : Cx) (n : Nat) (G : Hp → Prop) (PV : Nat → V → Prop) (H : Hp) (s : Shared) (v : Value) : Prop where
  ex : ∃ (o : Obj) (HH : Heap → Prop), Begins v o HH ∧ HH s.heap ∧ G H ∧ ∀ it, ∃ tnI : Nat → Heap → Prop, DrawK X.prog X.w X.K it n tnI G PV ∧ ∀ h : Heap, h.get? it = some o → tnI 0 h
theorem begK_str {X : Cx} {H : Hp} {s : Shared} (x : Str) (t : Tok) : BegK X x.cps.size (fun _ => True) (fun i v => ∃ c, x.cps[i]? = some c ∧ v = .str ⟨#[c]⟩) H s (.str x t) :=
  ⟨_, _, begins_text x t, trivial, trivial, fun it => ⟨_, drawK_str it x t, fun h e => ⟨_, e, rfl, rfl⟩⟩⟩
theorem begK_tup {X : Cx} {pins : List (Addr × Obj)} {σ : L2.St} {H : Hp} {s : Shared} {a : Addr} {xs : List V} (I : Inv X pins σ H s) (ha : H a = some (.tup xs)) : BegK X xs.length (fun H => H a = some (.tup xs)) (fun i v => xs[i]? = some v) H s (.ref a) := by
  obtain ⟨its, rv, p, _⟩ := I.tuple (SqT.of ha)
  exact ⟨_, _, begins_tuple a its.toArray, p, ha, fun it => ⟨_, drawK_tup it a xs, fun h e => ⟨_, e, rfl, rfl⟩⟩⟩
theorem begK_list {X : Cx} {pins : List (Addr × Obj)} {σ : L2.St} {H : Hp} {s : Shared} {a : Addr} {xs : List V} (I : Inv X pins σ H s) (ha : H a = some (.lst xs)) : BegK X xs.length (fun H => H a = some (.lst xs)) (fun i v => xs[i]? = some v) H s (.ref a) := by
  obtain ⟨its, rv, p, _⟩ := I.list (SqL.of ha)
  exact ⟨_, _, begins_list a its.toArray, p.isList, ha, fun it => ⟨_, drawK_list it a xs, fun h e => ⟨_, e, rfl, rfl⟩⟩⟩
/-- what an iterable value draws -/
def SrcV (H : Hp) (v : V) (n : Nat) (G : Hp → Prop) (PV : Nat → V → Prop) : Prop :=
  (∃ x : Str, v = .str x ∧ n = x.cps.size ∧ G = (fun _ => True) ∧ PV = fun i v => ∃ c, x.cps[i]? = some c ∧ v = .str ⟨#[c]⟩) ∨
  (∃ (a : Addr) (xs : List V), v = .ref a ∧ H a = some (.tup xs) ∧ n = xs.length ∧ G = (fun H => H a = some (.tup xs)) ∧ PV = fun i v => xs[i]? = some v) ∨
  (∃ (a : Addr) (xs : List V), v = .ref a ∧ H a = some (.lst xs) ∧ n = xs.length ∧ G = (fun H => H a = some (.lst xs)) ∧ PV = fun i v => xs[i]? = some v)
theorem SrcV.beg {X : Cx} {pins : List (Addr × Obj)} {σ : L2.St} {H : Hp} {s : Shared} {v : V} {u : Value} {n : Nat} {G : Hp → Prop} {PV : Nat → V → Prop} (I : Inv X pins σ H s) (r : RelV v u) (h : SrcV H v n G PV) : BegK X n G PV H s u := by
  rcases h with ⟨x, rfl, rfl, rfl, rfl⟩ | ⟨a, xs, rfl, ha, rfl, rfl, rfl⟩ | ⟨a, xs, rfl, ha, rfl, rfl, rfl⟩
  · obtain ⟨t, rfl⟩ := r
    exact begK_str x t
  · cases r
    exact begK_tup I ha
  · cases r
    exact begK_list I ha
/-- enumerate(v), v a text, a tuple or a list -/
def iEnumG (ta : TA) : TI := fun σ H R => ta σ H fun vs H1 => ∃ v n G PV, vs = [v] ∧ SrcV H1 v n G PV ∧ R (ItG n G fun i xs => ∃ v, PV i v ∧ xs = [.int (i : Nat), v]) H1
theorem pi_enumG {X : Cx} {e : Expr} {ta : TA} {p pos tpos : Pos} {elts : List Expr} {kk : Nat} (hg : Gl X "enumerate") (hm : X.mg "enumerate" = none) (ha : PA X [e] ta) (hs : starEach [e] X.env = [(false, eval e X.env)] := by rfl) :
    PI X (.Tuple elts kk tpos) (.Call (.Name "enumerate" p) [e] [] pos) (iEnumG ta) := by
  refine ⟨fun pins s σ H R I h => ?_⟩
  refine Call_ (ld_blt I hg hm boot_enumerate (PyProof.Rows.callWith_type1 (thn (ha.run pos pins s σ H _ I h) fun us s1 ⟨vs, H1, I1, r1, q1⟩ => ?_) hs rfl))
  obtain ⟨v, n, G, PV, ex, hsrc, q⟩ := q1
  subst ex
  cases r1 with
  | cons r rr =>
    cases rr
    obtain ⟨o, HH, B, h1, hG, hd⟩ := (hsrc.beg I1 r).ex
    refine rj_enum_begins B h1 fun h' he hit hsz hk => wpAny_pyIter_enum he ?_
    have I2 : Inv X pins σ H1 { s1 with heap := h' } := I1.kept (t' := s1.toks) hk
    obtain ⟨tnI, D, hst⟩ := hd s1.heap.objs.size
    have ge2 : ∀ c ∈ [s1.heap.objs.size + 1, s1.heap.objs.size], s1.heap.objs.size ≤ c := two (p := fun c => s1.heap.objs.size ≤ c) (Nat.le_succ _) (Nat.le_refl _)
    exact ⟨s1.heap.objs.size + 1, [s1.heap.objs.size + 1, s1.heap.objs.size], _, _, H1, rfl, I2, turn_enumG D, ⟨Nat.zero_le _, ⟨.none, he⟩, hst _ hit, Nat.succ_ne_self _⟩, fun c hc => I1.fpOk (ge2 c hc) (I1.hok.fresh (ge2 c hc)), q⟩
/-- the walks of ItG as the loops of HandS take them -/
theorem walk_ItG {n : Nat} {G : Hp → Prop} {PX : Nat → List V → Prop} {g : TG} {tb : TS} {D : Ends} {σ : L2.St} {H : Hp} (Pv : Nat → L2.St → Hp → Prop) (h0 : Pv 0 σ H) (hG : ∀ i σ H, i ≤ n → Pv i σ H → G H)
    (hs : ∀ i xs T σ H, i < n → Pv i σ H → PX i xs → H T = none → g (.ref T) σ (upd H T (.tup xs)) fun σ2 H2 => tb { D with nx := Pv (i + 1), ct := Pv (i + 1), bk := D.nx } σ2 H2) (hd : ∀ σ H, Pv n σ H → D.nx σ H) :
    ∃ W : Nat → Nat → L2.St → Hp → Prop, (∃ m, W 0 m σ H) ∧ ∀ i m σ H, W i m σ H → ((ItG n G PX).stop i H ∧ D.nx σ H) ∨ ((ItG n G PX).go i H ∧ ∃ N : L2.St → Hp → Prop, (∀ σ' H', N σ' H' → ∃ m', m' < m ∧ W (i + 1) m' σ' H') ∧
      ∀ x H', (ItG n G PX).yld i H x H' → g x σ H' fun σ2 H2 => tb { D with nx := N, ct := N, bk := D.nx } σ2 H2) := by
  refine ⟨fun i m σ H => m = n - i ∧ i ≤ n ∧ Pv i σ H, ⟨n, rfl, Nat.zero_le _, h0⟩, ?_⟩
  rintro i m σ H ⟨rfl, hi, p⟩
  by_cases hlt : i < n
  · refine .inr ⟨⟨hG i σ H hi p, hlt⟩, Pv (i + 1), fun σ' H' p' => ⟨n - (i + 1), by omega, rfl, hlt, p'⟩, fun v H' y => ?_⟩
    obtain ⟨T, xs, rfl, hT, rfl, hx⟩ := y
    exact hs i xs T σ H hlt p hx hT
  · have e : i = n := by omega
    subst e
    exact .inl ⟨⟨hG _ σ H hi p, Nat.le_refl _⟩, hd σ H p⟩
end RJ
end

section
set_option maxRecDepth 100000
namespace RJ
open PySem PySem.Spec PyProof.Rows L2
theorem five {z TI TO i1 i2 : Addr} {p : Addr → Prop} (h1 : p z) (h2 : p TI) (h3 : p TO) (h4 : p i1) (h5 : p i2) : ∀ c ∈ [z, TI, TO, i1, i2], p c := fun c hc => by
  simp only [List.mem_cons, List.not_mem_nil, or_false] at hc
  rcases hc with e | e | e | e | e <;> rw [e] <;> assumption
theorem zip_cells {N : Nat} : ∀ c ∈ [N + 4, N + 2, N + 3, N, N + 1], N ≤ c := five (p := fun c => N ≤ c) (Nat.le_add_right N 4) (Nat.le_add_right N 2) (Nat.le_add_right N 3) (Nat.le_refl N) (Nat.le_add_right N 1)
/-- five cells apart -/
structure Ap5 (z TI TO i1 i2 : Addr) : Prop where
  TIz : TI ≠ z
  TOz : TO ≠ z
  TITO : TI ≠ TO
  TIi1 : TI ≠ i1
  TIi2 : TI ≠ i2
  TOi1 : TO ≠ i1
  TOi2 : TO ≠ i2
  zi1 : z ≠ i1
  zi2 : z ≠ i2
  i12 : i1 ≠ i2
theorem ap5 (N : Nat) : Ap5 (N + 4) (N + 2) (N + 3) N (N + 1) :=
  ⟨show (N + 2 : Nat) ≠ N + 4 by omega, show (N + 3 : Nat) ≠ N + 4 by omega, show (N + 2 : Nat) ≠ N + 3 by omega, show (N + 2 : Nat) ≠ N by omega, show (N + 2 : Nat) ≠ N + 1 by omega,
    show (N + 3 : Nat) ≠ N by omega, show (N + 3 : Nat) ≠ N + 1 by omega, show (N + 4 : Nat) ≠ N by omega, show (N + 4 : Nat) ≠ N + 1 by omega, show (N : Nat) ≠ N + 1 by omega⟩
theorem Ap5.sep {z TI TO i1 i2 : Addr} (D : Ap5 z TI TO i1 i2) {H : Hp} {fp1 fp2 : List Addr} (m1 : i1 ∈ fp1) (m2 : i2 ∈ fp2) (f1 : ∀ b ∈ fp1, b = i1 ∨ ∃ o, H b = some o) (f2 : ∀ b ∈ fp2, b = i2 ∨ ∃ o, H b = some o)
    (hz : H z = none) (hTO : H TO = none) (h1 : H i1 = none) (h2 : H i2 = none) : ZipSep2 z TI TO i1 i2 fp1 fp2 where
  TIz := D.TIz
  TOz := D.TOz
  TITO := D.TITO
  TIi1 := D.TIi1
  mem1 := m1
  zf1 := fun q => by
    rcases f1 _ q with e | ⟨o, e⟩
    · exact D.zi1 e
    · rw [hz] at e; cases e
  Tf1 := fun q => by
    rcases f1 _ q with e | ⟨o, e⟩
    · exact D.TOi1 e
    · rw [hTO] at e; cases e
  TIi2 := D.TIi2
  mem2 := m2
  zf2 := fun q => by
    rcases f2 _ q with e | ⟨o, e⟩
    · exact D.zi2 e
    · rw [hz] at e; cases e
  Tf2 := fun q => by
    rcases f2 _ q with e | ⟨o, e⟩
    · exact D.TOi2 e
    · rw [hTO] at e; cases e
  sep1_2 := fun q => by
    rcases f2 _ q with e | ⟨o, e⟩
    · exact D.i12 e
    · rw [h1] at e; cases e
  sep2_1 := fun q => by
    rcases f1 _ q with e | ⟨o, e⟩
    · exact D.i12 e.symm
    · rw [h2] at e; cases e
theorem out5 {z TI TO i1 i2 c : Addr} (h : c ∉ [z, TI, TO, i1, i2]) : c ≠ z ∧ c ≠ TI ∧ c ≠ TO ∧ c ≠ i1 ∧ c ≠ i2 := by
  simp only [List.mem_cons, List.not_mem_nil, or_false, not_or] at h; exact h
/-- a zip whose tuples are taken apart at once -/
def ZipTt (z TI TO i1 i2 : Addr) (n : Nat) (tn1 tn2 : Nat → Heap → Prop) (i : Nat) (h : Heap) : Prop := i ≤ n ∧ IsZip h z TI TO .none ∧ IsTupOf2 h TI (.ref i1) (.ref i2) ∧ (∃ x y, IsTupOf2 h TO x y) ∧ tn1 i h ∧ tn2 i h
section
variable {P : Program} {w : World} {K : PySem.W.Frag} {elts : List Expr} {kk : Nat} {tpos : Pos} {z TI TO i1 i2 : Addr} {n1 n2 : Nat} {tn1 tn2 : Nat → Heap → Prop} {G1 G2 : Hp → Prop} {PV1 PV2 : Nat → V → Prop}
theorem turn_zipG (A5 : Ap5 z TI TO i1 i2) (D1 : DrawK P w K i1 n1 tn1 G1 PV1) (D2 : DrawK P w K i2 n2 tn2 G2 PV2) :
    Turn P w K (.Tuple elts kk tpos) (ItG (min n1 n2) (fun H => G1 H ∧ G2 H) fun i xs => ∃ v1 v2, PV1 i v1 ∧ PV2 i v2 ∧ xs = [v1, v2]) [z, TI, TO, i1, i2] z (ZipTt z TI TO i1 i2 (min n1 n2) tn1 tn2) where
  mem := List.mem_cons_self ..
  obj := fun i h ⟨_, a, b, ⟨_, _, c⟩, d, e⟩ => five (p := fun c => ∃ o, h.get? c = some o ∧ _) ⟨_, a, fun _ q => nomatch q⟩ ⟨_, b, fun _ q => nomatch q⟩ ⟨_, c, fun _ q => nomatch q⟩ (D1.obj i h d) (D2.obj i h e)
  keep := fun i h h' ⟨l, a, b, ⟨_, _, c⟩, d, e⟩ k => ⟨l, k _ (by simp) _ a, k _ (by simp) _ b, ⟨_, _, k _ (by simp) _ c⟩, D1.keep _ _ _ d fun o => k i1 (by simp) o, D2.keep _ _ _ e fun o => k i2 (by simp) o⟩
  item := by
    rintro X hP hw hK hc i pins s σ H E I hf ⟨hl, hz, hTI, ⟨x0, y0, hTO⟩, h1, h2⟩ ⟨⟨hG1, hG2⟩, hlt⟩
    have none4 : H z = none ∧ H TO = none ∧ H i1 = none ∧ H i2 = none := ⟨(hf _ (by simp)).1, (hf _ (by simp)).1, (hf _ (by simp)).1, (hf _ (by simp)).1⟩
    obtain ⟨fp1, PD1, St1, DD1, c1, m1, q1, back1, val1⟩ := D1.draws X hP hw hK hc i pins s σ H I hG1 none4.2.2.1 h1
    obtain ⟨fp2, PD2, St2, DD2, c2, m2, q2, back2, val2⟩ := D2.draws X hP hw hK hc i pins s σ H I hG2 none4.2.2.2 h2
    subst hP hw hK
    have lt5 : ∀ c ∈ [z, TI, TO, i1, i2], c < s.heap.objs.size := by
      obtain ⟨_, e1⟩ := DD1.live _ _ c1
      obtain ⟨_, e2⟩ := DD2.live _ _ c2
      exact five (Heap.lt_size hz) (Heap.lt_size hTI) (Heap.lt_size hTO) (Heap.lt_size e1) (Heap.lt_size e2)
    refine wpAny_pyNext_zipD2_item (A5.sep m1 m2 q1 q2 none4.1 none4.2.1 none4.2.2.1 none4.2.2.2) DD1 DD2 hz hTI hTO c1 c2 (by omega) (by omega) fun u u2 h' tk p1 p2 z' TO' j1 j2 hT _ hk => ⟨_, rfl, ?_⟩
    obtain ⟨v, hv, rv⟩ := val1 i u p1
    obtain ⟨v2, hv2, rv2⟩ := val2 i u2 p2
    refine wpAny_letOwnedTupleGo_zip (s := { s with heap := h', toks := tk }) z' fun g zg sg => ?_
    have on : ∀ {c : Addr} {o : Obj}, c ≠ z → h'.get? c = some o → g.get? c = some o := fun n e => (sg.2 _ n).trans e
    have made : ObjOk X.prog X.w (upd H s.heap.objs.size (.tup [v, v2])) g s.heap.objs.size (.tup [v, v2]) := ⟨by show 2 ≤ sizeLine; decide, [u, u2], .cons rv (.cons rv2 .nil), ⟨_, on (Nat.ne_of_gt (lt5 z (by simp))) hT, rfl, _, rfl⟩⟩
    have J : Inv X pins σ (upd H s.heap.objs.size (.tup [v, v2])) { s with heap := g, toks := tk } := I.turnedNew (ch := [z, TI, TO, i1, i2]) (fun c o hb q => by
      obtain ⟨a, _, b, d, e⟩ := out5 hb
      exact on a (hk c o a b d e q)) hf (Nat.le_refl _) made
    exact ⟨.ref s.heap.objs.size, _, J, rfl, ⟨_, _, rfl, I.hok.fresh (Nat.le_refl _), rfl, v, v2, hv, hv2, rfl⟩, ⟨hlt, zg, on A5.TIz (hk _ _ A5.TIz A5.TITO A5.TIi1 A5.TIi2 hTI), ⟨u, u2, on A5.TOz TO'⟩, D1.keep _ _ _ (back1 _ _ j1) fun _ => on A5.zi1.symm, D2.keep _ _ _ (back2 _ _ j2) fun _ => on A5.zi2.symm⟩,
      fun c hcm => (upd_ne (Nat.ne_of_lt (lt5 c hcm))).trans (hf c hcm).1⟩
  done := by
    rintro X hP hw hK hc i pins s σ H E I hf ⟨hl, hz, hTI, ⟨x0, y0, hTO⟩, h1, h2⟩ ⟨⟨hG1, hG2⟩, hge⟩
    have none4 : H z = none ∧ H TO = none ∧ H i1 = none ∧ H i2 = none := ⟨(hf _ (by simp)).1, (hf _ (by simp)).1, (hf _ (by simp)).1, (hf _ (by simp)).1⟩
    obtain ⟨fp1, PD1, St1, DD1, c1, m1, q1, back1, val1⟩ := D1.draws X hP hw hK hc i pins s σ H I hG1 none4.2.2.1 h1
    obtain ⟨fp2, PD2, St2, DD2, c2, m2, q2, back2, val2⟩ := D2.draws X hP hw hK hc i pins s σ H I hG2 none4.2.2.2 h2
    subst hP hw hK
    exact wpAny_pyNext_zipD2_end (A5.sep m1 m2 q1 q2 none4.1 none4.2.1 none4.2.2.1 none4.2.2.2) DD1 DD2 hz hTI hTO c1 c2 (by omega) (by omega) (by omega) fun h' tk hk => ⟨rfl, I.turnedL (t' := tk) (ch := [z, TI, TO, i1, i2]) (fun c o hb q => by
      obtain ⟨a, _, b, d, e⟩ := out5 hb
      exact hk c o a b d e q) hf⟩
  self := fun A i s Q E st h => wpAny_pyIter_zip st.2.1 h
end
def iZipG (ta : TA) : TI := fun σ H R => ta σ H fun vs H1 => ∃ v1 v2 n1 n2 G1 G2 PV1 PV2, vs = [v1, v2] ∧ SrcV H1 v1 n1 G1 PV1 ∧ SrcV H1 v2 n2 G2 PV2 ∧ R (ItG (min n1 n2) (fun H => G1 H ∧ G2 H) fun i xs => ∃ v1 v2, PV1 i v1 ∧ PV2 i v2 ∧ xs = [v1, v2]) H1
theorem pi_zipGen {X : Cx} {tg e e2 : Expr} {ta : TA} {p pos : Pos} (hg : Gl X "zip") (hm : X.mg "zip" = none) (ha : PA X [e, e2] ta)
    (ht : ∀ {z TI TO i1 i2 : Addr} {n1 n2 : Nat} {tn1 tn2 : Nat → Heap → Prop} {G1 G2 : Hp → Prop} {PV1 PV2 : Nat → V → Prop} (A5 : Ap5 z TI TO i1 i2) (D1 : DrawK X.prog X.w X.K i1 n1 tn1 G1 PV1) (D2 : DrawK X.prog X.w X.K i2 n2 tn2 G2 PV2),
      ∃ tn : Nat → Heap → Prop, Turn X.prog X.w X.K tg (ItG (min n1 n2) (fun H => G1 H ∧ G2 H) fun i xs => ∃ v1 v2, PV1 i v1 ∧ PV2 i v2 ∧ xs = [v1, v2]) [z, TI, TO, i1, i2] z tn ∧
        ∀ h, IsZip h z TI TO .none → IsTupOf2 h TI (.ref i1) (.ref i2) → IsTupOf2 h TO .none .none → tn1 0 h → tn2 0 h → tn 0 h)
    (hs : starEach [e, e2] X.env = (false, eval e X.env) :: starEach [e2] X.env := by rfl) (hpl : (backTo pos (starEach [e2] X.env)).any (·.1) = false := by rfl) :
    PI X tg (.Call (.Name "zip" p) [e, e2] [] pos) (iZipG ta) := by
  refine ⟨fun pins s σ H R I h => ?_⟩
  refine Call_ (ld_blt I hg hm PyProof.Rows.boot_zip (PyProof.Rows.callWith_type1 (thn (ha.run pos pins s σ H _ I h) fun us s1 ⟨vs, H1, I1, r1, q1⟩ => ?_) hs hpl))
  obtain ⟨v1, v2, n1, n2, G1, G2, PV1, PV2, ex, hs1, hs2, q⟩ := q1
  subst ex
  cases r1 with
  | cons r rr =>
    cases rr with
    | cons r' rr =>
      cases rr
      obtain ⟨o1, HH1, B1, b1, hG1, hd1⟩ := (hs1.beg I1 r).ex
      obtain ⟨o2, HH2, B2, b2, hG2, hd2⟩ := (hs2.beg I1 r').ex
      refine zip_begins2 B1 B2 b1 b2 fun h' hz hTI hTO g1 g2 hsz hk => wpAny_pyIter_zip hz ?_
      have I2 : Inv X pins σ H1 { s1 with heap := h' } := I1.kept (t' := s1.toks) hk
      obtain ⟨tn1, D1, st1⟩ := hd1 s1.heap.objs.size
      obtain ⟨tn2, D2, st2⟩ := hd2 (s1.heap.objs.size + 1)
      obtain ⟨tn, T, h0⟩ := ht (ap5 s1.heap.objs.size) D1 D2
      exact ⟨s1.heap.objs.size + 4, [s1.heap.objs.size + 4, s1.heap.objs.size + 2, s1.heap.objs.size + 3, s1.heap.objs.size, s1.heap.objs.size + 1], tn, _, H1, rfl, I2, T, h0 _ hz hTI hTO (st1 _ g1) (st2 _ g2),
        fun c hcm => I1.fpOk (zip_cells c hcm) (I1.hok.fresh (zip_cells c hcm)), q⟩
/-- for a, b in zip(v1, v2): texts, tuples, lists -/
theorem pi_zipT2 {X : Cx} {e e2 : Expr} {ta : TA} {p pos tpos : Pos} {elts : List Expr} {kk : Nat} (hg : Gl X "zip") (hm : X.mg "zip" = none) (ha : PA X [e, e2] ta)
    (hs : starEach [e, e2] X.env = (false, eval e X.env) :: starEach [e2] X.env := by rfl) (hpl : (backTo pos (starEach [e2] X.env)).any (·.1) = false := by rfl) :
    PI X (.Tuple elts kk tpos) (.Call (.Name "zip" p) [e, e2] [] pos) (iZipG ta) :=
  pi_zipGen hg hm ha (fun A5 D1 D2 => ⟨_, turn_zipG A5 D1 D2, fun h hz hTI hTO h1 h2 => ⟨Nat.zero_le _, hz, hTI, ⟨_, _, hTO⟩, h1, h2⟩⟩) hs hpl
end RJ
end

section
set_option maxRecDepth 100000
namespace PySem
/-- nothing but these four cells has changed -/
def Beside (z TO i1 i2 : Addr) (h h' : Heap) : Prop := ∀ c o, c ≠ z → c ≠ TO → c ≠ i1 → c ≠ i2 → h.get? c = some o → h'.get? c = some o
/-- a zip, whatever tuple it holds to be out -/
abbrev RjZ (h : Heap) (z TI TO : Addr) (f0 : Value) (f1 : Bool) : Prop := h.get? z = some { cls := .type "zip", dict := none, data := .fields #[f0, .bool f1, .bool false, .ref TI, .ref TO], slots := #[] }
/-- .. between two turns -/
def ZipIdle (h : Heap) (z TI TO : Addr) : Prop := ∃ f0 f1, RjZ h z TI TO f0 f1 ∧ (f0 = .none ∨ ∃ T : Addr, f0 = rawInt T)
/-- the tuple it keeps -/
def KeepsPair (h : Heap) (TO : Addr) : Prop := ∃ x y, IsTupOf2 h TO x y
section
variable {prog : Program} {w : World} {A : Around} {E : Value → Shared → Prop} {s : Shared} {z TI TO i1 i2 : Addr} {fp1 fp2 : List Addr} {n1 n2 i : Nat} {P1 P2 : Nat → Value → Prop} {St1 St2 : Nat → Heap → Prop}
theorem rj_alive {a : Addr} {Q : Option Obj → Shared → Prop} (h : Q (s.heap.get? a) s) : wpAny (model prog w) A (loadIfAlive a) Q E s := fun _ _ _ => h
/-- is the tuple that went out free? both answers -/
theorem rj_isFree {f0 : Value} {f1 : Bool} {Q : Bool → Shared → Prop} (hz : RjZ s.heap z TI TO f0 f1) (hf : f0 = .none ∨ ∃ T : Addr, f0 = rawInt T) (yes : Q true s)
    (no : ∀ h', RjZ h' z TI TO f0 true → Heap.SameBut z s.heap h' → Q false { s with heap := h' }) : wpAny (model prog w) A (Builtin.SmallTypes.ownedTupleIsFree (.ref z)) Q E s := by
  have last : wpAny (model prog w) A (field (.ref z) 1) (fun v s' => v = .bool f1 ∧ s' = s) E s := wpAny_field hz rfl (x := .bool f1) rfl ⟨rfl, rfl⟩
  unfold Builtin.SmallTypes.ownedTupleIsFree; refine wpAny_bind (wpAny_field hz rfl (x := f0) rfl ?_)
  rcases hf with e | ⟨T, e⟩ <;> subst e
  · exact wpAny_pure yes
  show wpAny _ _ (loadIfAlive ((T : Int).toNat) >>= _) _ _ _
  refine wpAny_bind (rj_alive ?_)
  cases s.heap.get? ((T : Int).toNat)
  · simp only [Option.isNone_none, if_true]; exact wpAny_pure yes
  simp only [Option.isNone_some, Bool.false_eq_true, if_false]
  refine wpAny_bind (wpAny_mono last ?_ fun _ _ e => e); rintro _ _ ⟨rfl, rfl⟩
  cases f1
  · rw [if_pos (by rfl)]; exact wpAny_bind (wpAny_setField_rec hz (by simp) fun k hk sk => wpAny_pure (no k hk sk))
  · rw [if_neg (by decide)]; exact wpAny_pure (no _ hz (Heap.SameBut.refl _ _))
/-- one call of next: an item of each, or the end of one -/
theorem rj_next {Q : Value → Shared → Prop} (S : ZipSep2 z TI TO i1 i2 fp1 fp2) (D1 : Draws prog w A i1 fp1 n1 P1 St1) (D2 : Draws prog w A i2 fp2 n2 P2 St2) (hz : ZipIdle s.heap z TI TO)
    (hTI : IsTupOf2 s.heap TI (.ref i1) (.ref i2)) (hTO : KeepsPair s.heap TO) (st1 : St1 i s.heap) (st2 : St2 i s.heap) (le1 : i ≤ n1) (le2 : i ≤ n2)
    (got : ∀ x y h' tk, i < n1 → i < n2 → P1 i x → P2 i y → ZipIdle h' z TI TO → KeepsPair h' TO → St1 (i + 1) h' → St2 (i + 1) h' → IsTupOf2 h' s.heap.objs.size x y → Beside z TO i1 i2 s.heap h' → Q (.ref s.heap.objs.size) { s with heap := h', toks := tk })
    (out : ∀ h' tk e, i = n1 ∨ i = n2 → Beside z TO i1 i2 s.heap h' → (∃ o, h'.get? e = some o ∧ o.cls = .type "StopIteration") → E (.ref e) { s with heap := h', toks := tk }) :
    wpAny (model prog w) A (Builtin.«zip.__next__» ⟨[.ref z], []⟩) (fun fin s' => ∃ v, fin = .done (.ret v) ∧ Q v s') E s := by
  obtain ⟨f0, f1, zz, hf⟩ := hz
  obtain ⟨p, q, hTO⟩ := hTO
  obtain ⟨hp, g, d, k0, os⟩ := s
  have zl : z < hp.objs.size := Heap.lt_size zz
  show wpAny _ _ (field (.ref z) 2 >>= _) _ _ _; refine wpAny_bind (wpAny_field zz rfl (x := .bool false) rfl ?_)
  show wpAny _ _ (field (.ref z) 3 >>= _) _ _ _; refine wpAny_bind (wpAny_field zz rfl (x := .ref TI) rfl (wpAny_bind (wpAny_seqItems hTI rfl ?_)))
  show wpAny _ _ (Builtin.SmallTypes.ownedTupleIsFree (.ref z) >>= _) _ _ _; refine wpAny_bind (rj_isFree zz hf ?_ fun a za sa => ?_)
  · -- the kept tuple is filled anew
    simp only [if_true]; refine wpAny_bind (wpAny_rule (wpAny_bind (wpAny_field zz rfl (x := .ref TO) rfl (wpAny_bind (wpAny_setField_rec zz (by simp) fun a za sa => ?_)))))
    replace za : RjZ a z TI TO .ellipsis f1 := za
    replace sa : Heap.SameBut z hp a := sa
    have stop : ∀ (tk : Nat) (h h' : Heap) (e : Addr) (o : Obj), (i = n1 ∨ i = n2) → RjZ h z TI TO .ellipsis f1 → Beside z TO i1 i2 hp h → h.get? e = some o → o.cls = .type "StopIteration" → Heap.SameBut z h h' → E (.ref e) ⟨h', g, d, tk, os⟩ := fun tk h h' e o c zh b he ho sh =>
      out h' tk e c (fun c o cz cT c1 c2 x => sh.extBut _ _ cz (b c o cz cT c1 c2 x)) ⟨o, sh.extBut _ _ (fun x => by subst x; rw [zh] at he; cases he; simp at ho) he, ho⟩
    refine wpAny_bind ?_; simp only [List.zipIdx_cons, List.zipIdx_nil, List.forIn_cons, List.forIn_nil]; refine wpAny_bind (wpAny_bind (wpAny_onRaise ?_))
    show wpAny _ _ (Builtin.SmallTypes.nextOf (.ref i1) >>= _) _ _ ⟨a, g, d, k0, os⟩
    have ta := D1.over st1 sa S.zf1
    by_cases l1 : i < n1
    · refine wpAny_bind (D1.item i _ _ _ l1 ta fun x b k1 hx tb sb => wpAny_pure ?_)
      replace sb : Heap.SameBut i1 a b := sb
      have ub : IsTupOf2 b TO p q := sb.extBut _ _ S.Ti1 (sa.extBut _ _ S.TOz hTO)
      refine wpAny_bind (wpAny_seqItems (s := ⟨b, g, d, k1, os⟩) ub rfl (wpAny_bind (updateSeq_IsTupOf2 (s := ⟨b, g, d, k1, os⟩) ub fun c uc sc => wpAny_bind (wpAny_letGo (wpAny_pure ?_)))))
      replace uc : IsTupOf2 c TO x q := uc
      replace sc : Heap.SameBut TO b c := sc
      have zc : RjZ c z TI TO .ellipsis f1 := sc.extBut _ _ S.TOz.symm (sb.extBut _ _ S.zi1 za)
      have bc : Beside z TO i1 i2 hp c := fun c o cz cT c1 c2 e => sc.extBut _ _ cT (sb.extBut _ _ c1 (sa.extBut _ _ cz e))
      have tc := D2.over (D2.over (D2.over st2 sa S.zf2) sb S.sep1_2) sc S.Tf2
      refine wpAny_bind (wpAny_bind (wpAny_onRaise ?_)); show wpAny _ _ (Builtin.SmallTypes.nextOf (.ref i2) >>= _) _ _ ⟨c, g, d, k1, os⟩
      by_cases l2 : i < n2
      · refine wpAny_bind (D2.item i _ _ _ l2 tc fun y e k2 hy te se => wpAny_pure ?_)
        replace se : Heap.SameBut i2 c e := se
        have ue : IsTupOf2 e TO x q := se.extBut _ _ S.Ti2 uc
        refine wpAny_bind (wpAny_seqItems (s := ⟨e, g, d, k2, os⟩) ue rfl (wpAny_bind (updateSeq_IsTupOf2 (s := ⟨e, g, d, k2, os⟩) ue fun r ur sr => wpAny_bind (wpAny_letGo (wpAny_pure (wpAny_pure ?_))))))
        replace ur : IsTupOf2 r TO x y := ur
        replace sr : Heap.SameBut TO e r := sr
        have zr : RjZ r z TI TO .ellipsis f1 := sr.extBut _ _ S.TOz.symm (se.extBut _ _ S.zi2 zc)
        have size : r.objs.size = hp.objs.size := by rw [sr.1, se.1, sc.1, sb.1, sa.1]
        have j1 : St1 (i + 1) r := D1.over (D1.over (D1.over tb sc S.Tf1) se S.sep2_1) sr S.Tf1
        have j2 : St2 (i + 1) r := D2.over te sr S.Tf2
        refine wpAny_bind (wpAny_seqItems (s := ⟨r, g, d, k2, os⟩) ur rfl (wpAny_bind (wpAny_newTuple ?_)))
        show wpAny _ _ (Builtin.SmallTypes.ownedTupleHandOut (.ref z) (.ref r.objs.size) >>= _) _ _ ⟨r.push { cls := .type "tuple", data := .seq #[x, y] }, g, d, k2, os⟩
        generalize hv : r.push { cls := .type "tuple", data := .seq #[x, y] } = v
        have up : ∀ c o, r.get? c = some o → v.get? c = some o := fun c o e => hv ▸ Heap.get?_push_of_some _ e
        have tv : IsTupOf2 v r.objs.size x y := hv ▸ Heap.get?_push_size _ rfl
        unfold Builtin.SmallTypes.ownedTupleHandOut; refine wpAny_bind ?_
        refine wpAny_bind (wpAny_setField_rec (s := ⟨v, g, d, k2, os⟩) (up _ _ zr) (by simp) fun m zm sm => wpAny_setField_rec (s := ⟨m, g, d, k2, os⟩) zm (by simp) fun t zt stt => ?_)
        replace zt : RjZ t z TI TO (rawInt r.objs.size) false := zt
        replace sm : Heap.SameBut z v m := sm
        replace stt : Heap.SameBut z m t := stt
        have on : ∀ c o, c ≠ z → r.get? c = some o → t.get? c = some o := fun c o n e => stt.extBut _ _ n (sm.extBut _ _ n (up _ _ e))
        refine wpAny_pure ⟨_, rfl, ?_⟩
        show Q (.ref r.objs.size) ⟨t, g, d, k2, os⟩; rw [size]
        refine got x y t k2 l1 l2 hx hy ⟨_, _, zt, .inr ⟨_, rfl⟩⟩ ⟨_, _, on _ _ S.TOz ur⟩ (D1.frame _ _ _ j1 fun b hb o e => on b o (fun q => S.zf1 (q ▸ hb)) e) (D2.frame _ _ _ j2 fun b hb o e => on b o (fun q => S.zf2 (q ▸ hb)) e) ?_
          fun c o cz cT c1 c2 e => on c o cz (sr.extBut _ _ cT (se.extBut _ _ c2 (bc c o cz cT c1 c2 e)))
        have away : r.objs.size ≠ z := by rw [size]; exact Nat.ne_of_gt zl
        have := stt.extBut _ _ away (sm.extBut _ _ away tv); rwa [size] at this
      · have c2 : i = n2 := by omega
        refine wpAny_bind (D2.done ⟨c, g, d, k1, os⟩ _ _ (c2 ▸ tc) fun e x he hx => ?_); obtain ⟨o, ho, oc⟩ := hx
        have ze : RjZ e z TI TO .ellipsis f1 := he _ _ S.zi2 zc
        exact wpAny_setField_rec (s := ⟨e, g, d, k1, os⟩) ze (by simp) fun e' _ se => stop k1 e e' x o (.inr c2) ze (fun c o cz cT c1 c2 y => he _ _ c2 (bc c o cz cT c1 c2 y)) ho oc se
    · have c1 : i = n1 := by omega
      refine wpAny_bind (D1.done ⟨a, g, d, k0, os⟩ _ _ (c1 ▸ ta) fun e x he hx => ?_); obtain ⟨o, ho, oc⟩ := hx
      have ze : RjZ e z TI TO .ellipsis f1 := he _ _ S.zi1 za
      exact wpAny_setField_rec (s := ⟨e, g, d, k0, os⟩) ze (by simp) fun e' _ se => stop k0 e e' x o (.inl c1) ze (fun c o cz cT c1 c2 y => he _ _ c1 (sa.extBut _ _ cz y)) ho oc se
  · -- a tuple of its own
    replace za : RjZ a z TI TO f0 true := za
    replace sa : Heap.SameBut z hp a := sa
    have ta := D1.over st1 sa S.zf1
    simp only [Bool.false_eq_true, if_false]; refine wpAny_bind ?_; rw [← Array.forIn_toList]; simp only [List.forIn_cons, List.forIn_nil]; refine wpAny_bind (wpAny_bind (wpAny_holding ?_))
    show wpAny _ _ (Builtin.SmallTypes.nextOf (.ref i1) >>= _) _ _ ⟨a, g, d, k0, os⟩
    by_cases l1 : i < n1
    · refine wpAny_bind (D1.item i _ _ _ l1 ta fun x b k1 hx tb sb => wpAny_pure (wpAny_pure (wpAny_bind (wpAny_bind (wpAny_holding ?_)))))
      replace sb : Heap.SameBut i1 a b := sb
      have bb : Beside z TO i1 i2 hp b := fun c o cz _ c1 _ e => sb.extBut _ _ c1 (sa.extBut _ _ cz e)
      have tc := D2.over (D2.over st2 sa S.zf2) sb S.sep1_2
      show wpAny _ _ (Builtin.SmallTypes.nextOf (.ref i2) >>= _) _ _ ⟨b, g, d, k1, os⟩
      by_cases l2 : i < n2
      · refine wpAny_bind (D2.item i _ _ _ l2 tc fun y e k2 hy te se => wpAny_pure (wpAny_pure (wpAny_pure ?_)))
        replace se : Heap.SameBut i2 b e := se
        have size : e.objs.size = hp.objs.size := by rw [se.1, sb.1, sa.1]
        have ze : RjZ e z TI TO f0 true := se.extBut _ _ S.zi2 (sb.extBut _ _ S.zi1 za)
        have ue : IsTupOf2 e TO p q := se.extBut _ _ S.Ti2 (sb.extBut _ _ S.Ti1 (sa.extBut _ _ S.TOz hTO))
        have j1 : St1 (i + 1) e := D1.over tb se S.sep2_1
        show wpAny _ _ (newTuple [x, y] >>= _) _ _ ⟨e, g, d, k2, os⟩; refine wpAny_bind (wpAny_newTuple (wpAny_pure ⟨_, rfl, ?_⟩))
        show Q (.ref e.objs.size) ⟨e.push { cls := .type "tuple", data := .seq #[x, y] }, g, d, k2, os⟩
        have tv : IsTupOf2 (e.push { cls := .type "tuple", data := .seq #[x, y] }) e.objs.size x y := Heap.get?_push_size _ rfl
        rw [size] at tv ⊢
        exact got x y _ k2 l1 l2 hx hy ⟨_, _, Heap.get?_push_of_some _ ze, hf⟩ ⟨_, _, Heap.get?_push_of_some _ ue⟩ (D1.frame _ _ _ j1 fun _ _ _ e => Heap.get?_push_of_some _ e) (D2.frame _ _ _ te fun _ _ _ e => Heap.get?_push_of_some _ e) tv
          fun c o cz cT c1 c2 e => Heap.get?_push_of_some _ (se.extBut _ _ c2 (bb c o cz cT c1 c2 e))
      · have c2 : i = n2 := by omega
        exact wpAny_bind (D2.done ⟨b, g, d, k1, os⟩ _ _ (c2 ▸ tc) fun e x he hx => out e k1 x (.inr c2) (fun c o cz cT c1 c2 y => he _ _ c2 (bb c o cz cT c1 c2 y)) hx)
    · have c1 : i = n1 := by omega
      exact wpAny_bind (D1.done ⟨a, g, d, k0, os⟩ _ _ (c1 ▸ ta) fun e x he hx => out e k0 x (.inl c1) (fun c o cz _ c1 _ y => he _ _ c1 (sa.extBut _ _ cz y)) hx)
theorem rj_pyNext {Q : Option Value → Shared → Prop} (S : ZipSep2 z TI TO i1 i2 fp1 fp2) (D1 : Draws prog w A.in1 i1 fp1 n1 P1 St1) (D2 : Draws prog w A.in1 i2 fp2 n2 P2 St2) (hz : ZipIdle s.heap z TI TO)
    (hTI : IsTupOf2 s.heap TI (.ref i1) (.ref i2)) (hTO : KeepsPair s.heap TO) (st1 : St1 i s.heap) (st2 : St2 i s.heap) (le1 : i ≤ n1) (le2 : i ≤ n2)
    (got : ∀ x y h' tk, i < n1 → i < n2 → P1 i x → P2 i y → ZipIdle h' z TI TO → KeepsPair h' TO → St1 (i + 1) h' → St2 (i + 1) h' → IsTupOf2 h' s.heap.objs.size x y → Beside z TO i1 i2 s.heap h' → Q (some (.ref s.heap.objs.size)) { s with heap := h', toks := tk })
    (out : ∀ h' tk, i = n1 ∨ i = n2 → Beside z TO i1 i2 s.heap h' → Q none { s with heap := h', toks := tk }) : wpAny (model prog w) A (pyNext (.ref z)) Q E s := by
  have ty : s.TypeIs (.ref z) "zip" := by obtain ⟨_, _, e, _⟩ := hz; exact ⟨_, e, rfl⟩
  unfold pyNext; refine wpAny_bind (wpAny_attempt (wpAny_callSpecial?_slot (name := Str.ofString "__next__") ty F.slot_zip_next (wpAny_call_entry F.slot_zip_next ty F.entry_zip_next ?_ (F.args_zip_next_1 _))))
  refine rj_next S D1 D2 hz hTI hTO st1 st2 le1 le2 (fun x y h' tk a b c e f g j k l m => wpAny_pure (got x y h' tk a b c e f g j k l m)) fun h' tk e c b he => ?_
  obtain ⟨o, ho, hc⟩ := he
  exact wpAny_bind (wpAny_isInstance (T := "StopIteration") (b := true) ⟨o, ho, hc⟩ isSubtype_stop (wpAny_pure (out _ _ c b)))
end
end PySem
namespace RJ
open PySem PySem.Spec PyProof.Rows L2
theorem Beside.out {z TI TO i1 i2 : Addr} {h h' : Heap} (b : Beside z TO i1 i2 h h') {c : Addr} {o : Obj} (hc : c ∉ [z, TI, TO, i1, i2]) : h.get? c = some o → h'.get? c = some o := by
  simp only [List.mem_cons, List.not_mem_nil, or_false, not_or] at hc
  exact b c o hc.1 hc.2.2.1 hc.2.2.2.1 hc.2.2.2.2
section
variable {P : Program} {w : World} {K : PySem.W.Frag} {x : Str} {tpos : Pos} {z TI TO i1 i2 : Addr} {n1 n2 : Nat} {tn1 tn2 : Nat → Heap → Prop} {G1 G2 : Hp → Prop} {PV1 PV2 : Nat → V → Prop}
/-- a zip whose tuples go out under a name -/
def ZipTn (z TI TO i1 i2 : Addr) (n : Nat) (tn1 tn2 : Nat → Heap → Prop) (i : Nat) (h : Heap) : Prop := i ≤ n ∧ ZipIdle h z TI TO ∧ IsTupOf2 h TI (.ref i1) (.ref i2) ∧ KeepsPair h TO ∧ tn1 i h ∧ tn2 i h
theorem turn_zipN (A5 : Ap5 z TI TO i1 i2) (D1 : DrawK P w K i1 n1 tn1 G1 PV1) (D2 : DrawK P w K i2 n2 tn2 G2 PV2) :
    Turn P w K (.Name x tpos) (ItG (min n1 n2) (fun H => G1 H ∧ G2 H) fun i xs => ∃ v1 v2, PV1 i v1 ∧ PV2 i v2 ∧ xs = [v1, v2]) [z, TI, TO, i1, i2] z (ZipTn z TI TO i1 i2 (min n1 n2) tn1 tn2) where
  mem := List.mem_cons_self ..
  obj := fun i h ⟨_, ⟨_, _, a, _⟩, b, ⟨_, _, c⟩, d, e⟩ => five (p := fun c => ∃ o, h.get? c = some o ∧ _) ⟨_, a, fun _ q => nomatch q⟩ ⟨_, b, fun _ q => nomatch q⟩ ⟨_, c, fun _ q => nomatch q⟩ (D1.obj i h d) (D2.obj i h e)
  keep := fun i h h' ⟨l, ⟨_, _, a, f⟩, b, ⟨_, _, c⟩, d, e⟩ k => ⟨l, ⟨_, _, k _ (by simp) _ a, f⟩, k _ (by simp) _ b, ⟨_, _, k _ (by simp) _ c⟩, D1.keep _ _ _ d fun o => k i1 (by simp) o, D2.keep _ _ _ e fun o => k i2 (by simp) o⟩
  item := by
    rintro X hP hw hK hc i pins s σ H E I hf ⟨hl, hz, hTI, hTO, h1, h2⟩ ⟨⟨hG1, hG2⟩, hlt⟩
    have none5 : H z = none ∧ H TI = none ∧ H TO = none ∧ H i1 = none ∧ H i2 = none := ⟨(hf _ (by simp)).1, (hf _ (by simp)).1, (hf _ (by simp)).1, (hf _ (by simp)).1, (hf _ (by simp)).1⟩
    obtain ⟨fp1, PD1, St1, DD1, c1, m1, q1, back1, val1⟩ := D1.draws X hP hw hK hc i pins s σ H I hG1 none5.2.2.2.1 h1
    obtain ⟨fp2, PD2, St2, DD2, c2, m2, q2, back2, val2⟩ := D2.draws X hP hw hK hc i pins s σ H I hG2 none5.2.2.2.2 h2
    subst hP hw hK
    refine rj_pyNext (A5.sep m1 m2 q1 q2 none5.1 none5.2.2.1 none5.2.2.2.1 none5.2.2.2.2) DD1 DD2 hz hTI hTO c1 c2 (by omega) (by omega) (fun u u2 h' tk _ _ p1 p2 z' TO' j1 j2 hT hk => ?_) fun h' tk e => absurd e (by omega)
    obtain ⟨v, hv, rv⟩ := val1 i u p1
    obtain ⟨v2, hv2, rv2⟩ := val2 i u2 p2
    have made : ObjOk X.prog X.w (upd H s.heap.objs.size (.tup [v, v2])) h' s.heap.objs.size (.tup [v, v2]) := ⟨by show 2 ≤ sizeLine; decide, [u, u2], .cons rv (.cons rv2 .nil), ⟨_, hT, rfl, _, rfl⟩⟩
    have J : Inv X pins σ (upd H s.heap.objs.size (.tup [v, v2])) { s with heap := h', toks := tk } := I.turnedNew (ch := [z, TI, TO, i1, i2]) (fun c o hb q => Beside.out hk hb q) hf (Nat.le_refl _) made
    have lt5 : ∀ c ∈ [z, TI, TO, i1, i2], c < s.heap.objs.size := by
      obtain ⟨_, _, a, _⟩ := hz
      obtain ⟨_, _, b⟩ := hTO
      obtain ⟨_, e1⟩ := DD1.live _ _ c1
      obtain ⟨_, e2⟩ := DD2.live _ _ c2
      exact five (Heap.lt_size a) (Heap.lt_size hTI) (Heap.lt_size b) (Heap.lt_size e1) (Heap.lt_size e2)
    exact ⟨_, rfl, wpAny_pure ⟨.ref s.heap.objs.size, _, J, rfl, ⟨_, _, rfl, I.hok.fresh (Nat.le_refl _), rfl, v, v2, hv, hv2, rfl⟩, ⟨hlt, z', hk _ _ A5.TIz A5.TITO A5.TIi1 A5.TIi2 hTI, TO', back1 _ _ j1, back2 _ _ j2⟩,
      fun c hcm => (upd_ne (Nat.ne_of_lt (lt5 c hcm))).trans (hf c hcm).1⟩⟩
  done := by
    rintro X hP hw hK hc i pins s σ H E I hf ⟨hl, hz, hTI, hTO, h1, h2⟩ ⟨⟨hG1, hG2⟩, hge⟩
    have none5 : H z = none ∧ H TO = none ∧ H i1 = none ∧ H i2 = none := ⟨(hf _ (by simp)).1, (hf _ (by simp)).1, (hf _ (by simp)).1, (hf _ (by simp)).1⟩
    obtain ⟨fp1, PD1, St1, DD1, c1, m1, q1, back1, val1⟩ := D1.draws X hP hw hK hc i pins s σ H I hG1 none5.2.2.1 h1
    obtain ⟨fp2, PD2, St2, DD2, c2, m2, q2, back2, val2⟩ := D2.draws X hP hw hK hc i pins s σ H I hG2 none5.2.2.2 h2
    subst hP hw hK
    exact rj_pyNext (A5.sep m1 m2 q1 q2 none5.1 none5.2.1 none5.2.2.1 none5.2.2.2) DD1 DD2 hz hTI hTO c1 c2 (by omega) (by omega) (fun _ _ _ _ a b => absurd a (by omega)) fun h' tk _ hk => ⟨rfl, I.turnedL (t' := tk) (ch := [z, TI, TO, i1, i2]) (fun c o hb q => Beside.out hk hb q) hf⟩
  self := fun A i s Q E st h => by
    obtain ⟨_, ⟨_, _, a, _⟩, _⟩ := st
    exact wpAny_pyIter_slot ⟨_, a, rfl⟩ F.slot_zip_iter (wpAny_call_entry F.slot_zip_iter ⟨_, a, rfl⟩ F.entry_zip_iter (show wpAny _ _ (ret (.ref z)) _ _ s from wpAny_pure ⟨_, rfl, "zip", _, ⟨_, a, rfl⟩, F.slot_zip_next.lookup, h⟩) (F.args_zip_iter_1 _))
end
/-- for p in zip(v1, v2) -/
theorem pi_zipN {X : Cx} {x : Str} {e e2 : Expr} {ta : TA} {p pos tpos : Pos} (hg : Gl X "zip") (hm : X.mg "zip" = none) (ha : PA X [e, e2] ta)
    (hs : starEach [e, e2] X.env = (false, eval e X.env) :: starEach [e2] X.env := by rfl) (hpl : (backTo pos (starEach [e2] X.env)).any (·.1) = false := by rfl) :
    PI X (.Name x tpos) (.Call (.Name "zip" p) [e, e2] [] pos) (iZipG ta) :=
  pi_zipGen hg hm ha (fun A5 D1 D2 => ⟨_, turn_zipN A5 D1 D2, fun h hz hTI hTO h1 h2 => ⟨Nat.zero_le _, ⟨_, _, hz, .inl rfl⟩, hTI, ⟨_, _, hTO⟩, h1, h2⟩⟩) hs hpl
end RJ
end

section
set_option maxRecDepth 100000
namespace RJ
open PySem PySem.Spec PyProof.Rows L2
open PySem.W (minD AlikeAll alike alikeAll dataLt)
theorem minD_mem : ∀ (ys : List PyData) (y : PyData), minD y ys ∈ y :: ys
  | [], y => List.mem_cons_self ..
  | z :: zs, y => by
    show zs.foldl _ (if dataLt z y = true then z else y) ∈ y :: z :: zs
    have h := minD_mem zs (if dataLt z y = true then z else y)
    have h' : minD (if dataLt z y = true then z else y) zs ∈ (if dataLt z y = true then z else y) :: zs := h
    rcases List.mem_cons.mp h' with e | e
    · show minD (if dataLt z y = true then z else y) zs ∈ _
      rw [e]
      by_cases c : dataLt z y = true
      · rw [if_pos c]; exact List.mem_cons_of_mem _ (List.mem_cons_self ..)
      · rw [if_neg c]; exact List.mem_cons_self ..
    · exact List.mem_cons_of_mem _ (List.mem_cons_of_mem _ e)
/-- a measure that < respects falls to its least value -/
theorem minD_le {rk : PyData → Int} {Ok : PyData → Prop} (h1 : ∀ x y, Ok x → Ok y → dataLt x y = true → rk x ≤ rk y) (h2 : ∀ x y, Ok x → Ok y → dataLt x y = false → rk y ≤ rk x) :
    ∀ (ys : List PyData) (y : PyData), (∀ z ∈ y :: ys, Ok z) → ∀ z ∈ y :: ys, rk (minD y ys) ≤ rk z
  | [], y, _, z, hz => by
    rw [List.mem_singleton.mp hz]; exact Int.le_refl _
  | w :: ws, y, hok, z, hz => by
    have oky := hok y (List.mem_cons_self ..)
    have okw := hok w (List.mem_cons_of_mem _ (List.mem_cons_self ..))
    have step : rk (if dataLt w y = true then w else y) ≤ rk y ∧ rk (if dataLt w y = true then w else y) ≤ rk w := by
      cases c : dataLt w y with
      | true => exact ⟨h1 w y okw oky c, Int.le_refl _⟩
      | false => exact ⟨Int.le_refl _, h2 w y okw oky c⟩
    have ih := minD_le h1 h2 ws (if dataLt w y = true then w else y) (fun v hv => by
      rcases List.mem_cons.mp hv with e | e
      · rw [e]; split
        · exact okw
        · exact oky
      · exact hok v (List.mem_cons_of_mem _ (List.mem_cons_of_mem _ e)))
    show rk (minD (if dataLt w y = true then w else y) ws) ≤ rk z
    rcases List.mem_cons.mp hz with e | e
    · rw [e]; exact Int.le_trans (ih _ (List.mem_cons_self ..)) step.1
    · rcases List.mem_cons.mp e with e | e
      · rw [e]; exact Int.le_trans (ih _ (List.mem_cons_self ..)) step.2
      · exact ih z (List.mem_cons_of_mem _ e)
/-- min(l, default=None) of alike data -/
def rMinD (K : PySem.W.Frag) : List V → List V → Hp → VK → Prop := fun vs zs H Q => ∃ (a : Addr) (xs : List V) (ds : List PyData), vs = [V.ref a] ∧ zs = [V.non] ∧ H a = some (.lst xs) ∧ DpAll K H xs ds ∧ AlikeAll ds ∧ PyData.depthAll ds ≤ 60 ∧
  (ds = [] → Q .non H) ∧ ∀ (d : PyData) (ds' : List PyData) (i : Nat) (x : V), ds = d :: ds' → xs[i]? = some x → ds[i]? = some (minD d ds') → Q x H
theorem readsAll_ix {h : Heap} : ∀ {us : List Value} {ds : List PyData} {as : List Addr} {i : Nat} {u : Value}, ReadsAll h us ds as → us[i]? = some u → ∃ d bs, ds[i]? = some d ∧ Reads h u d bs
  | _, _, _, 0, u, .cons (d := d) (as := as) r _, e => by
    cases e
    exact ⟨d, as, rfl, r⟩
  | _, _, _, i + 1, u, .cons _ t, e => by
    obtain ⟨d, bs, h1, h2⟩ := readsAll_ix (i := i) t e
    exact ⟨d, bs, h1, h2⟩
theorem cr_minD {X : Cx} (hc : X.calm = true) (hu : X.A.units + 64 < cLine) : CallRK X (.builtin "min") [Str.ofString "default"] (rMinD X.K) := by
  intro pins s σ H xs0 zs us ws Q I r rz h
  obtain ⟨a, xs, ds, rfl, rfl, ha, hd, hal, hdep, q0, q1⟩ := h
  obtain ⟨its, rv, hl, _⟩ := I.list (SqL.of ha)
  rw [Vals.ref1 r]
  obtain ⟨u, rfl, ru⟩ := vals1 rz
  cases ru
  obtain ⟨as, hr⟩ := Dp.readsAll I ds xs its hd rv
  show wpAny _ _ (call (.builtin "min") [.ref a] [(Str.ofString "default", Value.none)]) _ _ s
  refine PySem.W.min_list_default (I.ok.hd hc) hl.isList hr hal (by omega) (fun e h' tk hk => ⟨.non, H, I.kept hk, rfl, q0 e⟩) fun y ys i v h' tk bs e hv hrd hk => ?_
  have hv' : its[i]? = some v := by simpa using hv
  have hl2 := rv.length
  have hi : i < xs.length := by
    have := (List.getElem?_eq_some_iff.mp hv').1
    omega
  obtain ⟨u2, hu2, ru2⟩ := rv.get (List.getElem?_eq_getElem hi)
  rw [hv'] at hu2
  cases hu2
  obtain ⟨d2, bs2, hd2, hr2⟩ := readsAll_ix hr hv'
  have heq : d2 = minD y ys := ((PyProof.Rows.reads_det (h := s.heap) (h' := h') (fun b o e _ => hk b o e) hr2 hrd).1).symm
  exact ⟨xs[i], H, I.kept hk, ru2, q1 y ys i _ e (List.getElem?_eq_getElem hi) (by rw [hd2, heq])⟩
end RJ
end

section
set_option maxRecDepth 100000
namespace RJ
open PySem PySem.Spec PyProof.Rows L2
/-- the signs of a text, each a text -/
def signsV (x : Str) : List V := x.cps.toList.map fun c => V.str ⟨#[c]⟩
theorem call_list_text {X : Cx} (hc : X.calm = true) : CallR X (.type "list") (fun xs H Q => ∃ x : Str, xs = [.str x] ∧ x.cps.size ≤ sizeLine ∧ ∀ l, H l = none → Q (.ref l) (upd H l (.lst (signsV x)))) := by
  intro pins s σ H xs us Q I r h
  obtain ⟨x, rfl, hz, q⟩ := h
  obtain ⟨u, rfl, rx⟩ := vals1 r
  obtain ⟨t, rfl⟩ := rx
  refine PySem.call_list_str (I.ok.hd hc) x t (hn := hz) fun h' tk acc c' hk hS hacc => ?_
  have hv : Vals (signsV x) acc.toList := by
    have hl : (signsV x).length = acc.toList.length := by
      rw [signsV, List.length_map, Array.length_toList, Array.length_toList]; exact hacc.1.symm
    have key : ∀ j u, acc.toList[j]? = some u → ∃ v, (signsV x)[j]? = some v ∧ RelV v u := fun j u hu => by
      obtain ⟨c, t', hcx, rfl⟩ := hacc.2 j u (by rw [← Array.getElem?_toList]; exact hu)
      exact ⟨.str ⟨#[c]⟩, by rw [signsV, List.getElem?_map]; simp [hcx], ⟨t', rfl⟩⟩
    clear hacc hS hk
    revert hl key
    generalize signsV x = vs
    generalize acc.toList = ws
    intro hl key
    induction vs generalizing ws with
    | nil =>
      cases ws with
      | nil => exact .nil
      | cons _ _ => cases hl
    | cons v vs ih =>
      cases ws with
      | nil => cases hl
      | cons w ws =>
        obtain ⟨v', e, r⟩ := key 0 w rfl
        cases e
        exact .cons r (ih ws (Nat.succ.inj hl) fun j u hu => key (j + 1) u hu)
  refine ⟨.ref s.heap.objs.size, _, I.laid (t' := tk) hk (Nat.le_refl _) (show ObjOk X.prog X.w _ h' _ (.lst (signsV x)) from ⟨?_, acc.toList, c', hv, by simpa using hS⟩), rfl, q _ (I.hok.fresh (Nat.le_refl _))⟩
  rw [signsV, List.length_map, Array.length_toList]; exact hz
theorem op_mul_text {X : Cx} : OpR X (binaryOp .Mult) (fun x y H Q => ∃ (a : Str) (n : Int), x = .str a ∧ y = .int n ∧ MulOk a n ∧ Q (.str (Txt.mul a n)) H) := by
  intro pins s σ H x y v u Q I rx ry h
  obtain ⟨a, n, rfl, rfl, hok, q⟩ := h
  obtain ⟨t, rfl⟩ := rx
  obtain ⟨t2, rfl⟩ := ry
  exact PySem.SB.mul hok fun t' k => ⟨.str _, H, I.kept (t' := k) fun _ _ z => z, ⟨_, rfl⟩, q⟩
end RJ
end

section
set_option maxRecDepth 100000
namespace RJ
open PySem PySem.Spec PyProof.Rows L2
/-! ### rules that name the written part: within a comprehension it can't be found -/
section
variable {X : Cx} {K : PySem.W.Frag}
theorem ix_listK (h : X.K = K) : IxR X (rIxL K) := h ▸ ix_list
theorem ix_tupK (h : X.K = K) : IxR X (rIxT K) := h ▸ ix_tup
theorem sl_listK (h : X.K = K) : SlR X (rSlL K) := h ▸ sl_list
theorem sl_tupAK (h : X.K = K) : SlR X (rSlA K) := h ▸ sl_tupA
theorem call_len_seqK (h : X.K = K) : CallR X (.builtin "len") (fun xs H Q => ∃ p ys, xs = [V.ref p] ∧ (SqL K H p ys ∨ SqT K H p ys) ∧ Q (.int (ys.length : Int)) H) := by subst h; exact call_len_seq
theorem call_list_ofK (h : X.K = K) : CallR X (.type "list") (fun xs H Q => ∃ p ys, xs = [V.ref p] ∧ (SqL K H p ys ∨ SqT K H p ys) ∧ ∀ l, H l = none → Q (.ref l) (upd H l (.lst ys))) := by subst h; exact call_list_of
theorem op_in_seqK (h : X.K = K) : OpR X (compareOp .In) (rIn K false) := h ▸ op_in_seq
theorem op_notIn_seqK (h : X.K = K) : OpR X (compareOp .NotIn) (rIn K true) := h ▸ op_notIn_seq
theorem pe_fldK {e : Expr} {f : Str} {pos : Pos} {ta : TE} (h : X.K = K) (he : PE X e ta) (hb : attributeBase e f X.env (eval e X.env) = eval e X.env) : PE X (.Attribute e f pos) (tFld K ta f) := by subst h; exact pe_fld he hb
theorem pe_bmK {T id : String} {name : Str} {r : V → List V → Hp → VK → Prop} {o e : Expr} {es : List Expr} {apos cpos : Pos} {to : TE} {t : TA} (h : X.K = K) (pa : PlainAttrs T) (slot : Slot T name id) (hty : typeOf (.builtin id) = pure (.type "method_descriptor")) (hm : MtR X id r) (ho : PE X o to) (ha : PA X (e :: es) t)
    (hbase : attributeBase o name X.env (eval o X.env) = eval o X.env := by rfl)
    (hfew : ((backTo cpos (starEach (e :: es) X.env)).all (fun x => !x.1) && (backToKw cpos (keywordEach [] X.env)).all (fun x => x.1.isSome)
      && decide ((e :: es).length + ([] : List Keyword).length + (if ([] : List Keyword).isEmpty then 0 else 1) < 30)) = true := by rfl)
    (hline : (apos.endLine == cpos.line) = true := by rfl) (hs : starEach (e :: es) X.env = (false, eval e X.env) :: starEach es X.env := by rfl) (hplain : (backTo cpos (starEach es X.env)).any (·.1) = false := by rfl) :
    PE X (.Call (.Attribute o name apos) (e :: es) [] cpos) (tBM K T r to t) := by subst h; exact pe_bm pa slot hty hm ho ha hbase hfew hline hs hplain
end
end RJ
end

section
set_option maxRecDepth 100000
set_option maxHeartbeats 2000000
namespace RJ
open PySem PySem.Spec PyProof.Rows L2

/-- an error's own __init__, that calls the one above it by super() -/
structure SupF (P : Program) (K : PySem.W.Frag) (C : Addr) (qual : Str) (st : Stmt) (f : Addr) (fd : FuncData) : Prop where
  ex : ∃ (oc : Value) (od : Option Addr) (dV kV doc pm : Value) (an : Option Addr) (cda : Addr) (ct : Value) (osl : Array (Option Value)) (cc : Addr),
    fd = PySem.W.ksFn "__init__" qual (C8.fnArgs st) (C8.fnBody st) (C8.fnScope st) dV kV doc pm an (.ref cda) ct cc ∧ K.lookup f = some ⟨oc, od, .func fd, osl⟩ ∧ PySem.W.codeIn K (.ref cda) qual = true ∧
    (∃ (ccl : Value) (cdd : Option Addr) (vs : Array Value) (ccs : Array (Option Value)) (file : Str) (tf : Tok), K.lookup cda = some ⟨ccl, cdd, .fields vs, ccs⟩ ∧ vs[2]? = some (.str file tf) ∧ ((P.main.file : Str) == file) = true) ∧
    ∃ (cl : Value) (cld : Option Addr) (csl : Array (Option Value)), K.lookup cc = some ⟨cl, cld, .cell (some (.ref C)), csl⟩
  top : (P.main.scope.names.lookup ("super" : Str)).isSome = false
  sup : PySem.W.ks_superIn K C C "__init__" = some (some (.builtin "ValueError.__init__"))
  sub : PySem.W.subIn K (.ref C) (.type "ValueError") = some true
  mro : PySem.W.mroIn K C (.ref C) = some true
  opq : PySem.W.nsIn K PySem.cStatics "thirdparty.any" = some none
  oex : OexC K C

/-- a look at the names of such a def -/
def supB (N ps : List Str) (sc : Scope) : Bool :=
  decide (sc.kind = .function) && (!sc.isCoroutine && (!sc.isGenerator && (decide N.Nodup && (decide (N.take ps.length = ps) && (ps.all (fun x => decide (sc.names.lookup x = some .local)) && (sc.names.all (fun y => !decide (y.2 = .cell)) &&
    (sc.names.all (fun y => !decide (y.2 = .free) || decide (y.1 = "__class__")) && (decide (sc.names.lookup ("__class__" : Str) = some .free) && decide (sc.names.lookup ("super" : Str) = some .globalImplicit)))))))))
structure SupS (N ps : List Str) (sc : Scope) : Prop where
  kind : sc.kind = .function
  co : sc.isCoroutine = false
  gen : sc.isGenerator = false
  nd : N.Nodup
  pre : N.take ps.length = ps
  par : ∀ x ∈ ps, sc.names.lookup x = some .local
  nocell : ∀ y ∈ sc.names, y.2 ≠ .cell
  only : ∀ y ∈ sc.names, y.2 = .free → y.1 = "__class__"
  cls : sc.names.lookup ("__class__" : Str) = some .free
  sup : sc.names.lookup ("super" : Str) = some .globalImplicit
theorem supS_of {N ps : List Str} {sc : Scope} (h : supB N ps sc = true) : SupS N ps sc := by
  unfold supB at h
  simp only [Bool.and_eq_true, Bool.not_eq_true', decide_eq_true_eq, List.all_eq_true, Bool.or_eq_true, decide_eq_false_iff_not] at h
  obtain ⟨h1, h2, h3, h4, h5, h6, h7, h8, h9, h10⟩ := h
  exact ⟨h1, h2, h3, h4, h5, h6, h7, fun y hy e => (h8 y hy).elim (fun z => absurd e z) id, h9, h10⟩

theorem lookup_one {y : Str} {u : Value} : ∀ {l : List (Str × Value)}, (y, u) ∈ l → (∀ u', (y, u') ∈ l → u' = u) → l.lookup y = some u
  | [], h, _ => absurd h (by simp)
  | (a, b) :: l, h, hu => by
    by_cases e : y = a
    · subst e
      have := hu b (by simp)
      subst this
      simp [List.lookup]
    · have hb : (y == a) = false := by simpa using e
      have h' : (y, u) ∈ l := by
        rcases List.mem_cons.mp h with z | z
        · exact absurd (congrArg Prod.fst z) e
        · exact z
      show (match y == a with | true => some b | false => l.lookup y) = some u
      rw [hb]
      exact lookup_one h' fun u' z => hu u' (List.mem_cons_of_mem _ z)
theorem zip_lookup {ps : List Str} {us : List Value} {i : Nat} {y : Str} {u : Value} (nd : ps.Nodup) (h1 : ps[i]? = some y) (h2 : us[i]? = some u) : (ps.zip us).reverse.lookup y = some u := by
  refine lookup_one ?_ fun u' z => ?_
  · rw [List.mem_reverse]
    have : (ps.zip us)[i]? = some (y, u) := by rw [List.getElem?_zip_eq_some]; exact ⟨h1, h2⟩
    exact List.mem_of_getElem? this
  · rw [List.mem_reverse] at z
    obtain ⟨j, hj⟩ := List.mem_iff_getElem?.mp z
    rw [List.getElem?_zip_eq_some] at hj
    have e := nodup_ix nd h1 hj.1
    subst e
    exact Option.some.inj (hj.2.symm.trans h2)

/-- the body's context -/
def cxS (P : Program) (w : World) (K : PySem.W.Frag) (mg : Str → Option Value) (base : Heap) (N : List Str) (qual : Str) (sc : Scope) (f cda cc : Addr) (A : Around) (outer : List Env) (s : Shared) (H : Hp) : Cx where
  prog := P
  w := w
  K := K
  mg := mg
  base := base
  A := A.deeper (PySem.W.ksEnv qual sc s.heap.objs.size f (.ref cda) cc)
  N := N
  s_0 := s
  H_0 := H
  env := PySem.W.ksEnv qual sc s.heap.objs.size f (.ref cda) cc
  outer := outer
  stack := PySem.W.ksEnv qual sc s.heap.objs.size f (.ref cda) cc :: outer
  ex := []
  calm := true
  fn := fun _ => false
  pn := []
  xe := fun _ _ => False

section
variable {P : Program} {w : World} {K : PySem.W.Frag} {mg : Str → Option Value} {base : Heap} {N ps : List Str} {qual : Str} {sc : Scope} {f cda cc : Addr} {A : Around} {outer : List Env} {s : Shared} {H : Hp} {us : List Value} {vs : List V}
theorem inv_startS {cv : Value} (S : SupS N ps sc) (hd : A.handled = none) (e0 : Env0 P w K mg base A outer s H) (hl : vs.length = ps.length) (r : Vals vs us) {h1 : Heap} {tk : Nat}
    (hns : h1.Ns s.heap.objs.size fun x => (ps.zip us).reverse.lookup x) (hk : ∀ b o, s.heap.get? b = some o → h1.get? b = some o) (hcc : base.IsCell cc (some cv)) :
    Inv (cxS P w K mg base N qual sc f cda cc A outer s H) [] (L2.start N vs) H { s with heap := h1, toks := tk } := by
  have hpl : ps.length ≤ N.length := by have := congrArg List.length S.pre; rw [List.length_take] at this; omega
  have noA : ∀ b : Addr, b ∉ (cxS P w K mg base N qual sc f cda cc A outer s H).ex := fun b z => absurd (show b ∈ ([] : List Addr) from z) (by simp)
  obtain ⟨oc, hoc, hdc⟩ := hcc
  have cl : ∀ (y : Str) (c : Addr), (cxS P w K mg base N qual sc f cda cc A outer s H).env.cells.lookup y = some c → c = cc ∧ y = "__class__" := fun y c h => by
    have h' : ([("__class__", cc)] : List (Str × Addr)).lookup y = some c := h
    by_cases e : y = "__class__"
    · subst e; exact ⟨(Option.some.inj h').symm, rfl⟩
    · have hb : (y == ("__class__" : Str)) = false := by simpa using e
      have : (match y == ("__class__" : Str) with | true => some cc | false => none) = some c := h'
      rw [hb] at this; cases this
  refine ⟨⟨e0.mod, S.kind, rfl, rfl, Nat.le_refl _, fun y z c p q => (cl y c p).2.trans (cl z c q).2.symm, fun y hy => ?_, fun y c z _ => Bool.noConfusion (show false = true from z), fun _ => hd, Around.frames_deeper e0.frames, .inr ⟨rfl, rfl⟩,
    fun b z => absurd z (noA b), e0.bs, e0.bsz, fun b _ _ => noA b, fun b z => absurd z (noA b), e0.funs, e0.frf⟩, rfl, e0.bare, Un.kept hk, ⟨_, hns, fun i y v p q z => ?_⟩, fun y c p => ?_, e0.hok.fresh (Nat.le_refl _), fun y c p => ?_,
    fun p hp => absurd (show p ∈ ([] : List (Addr × Obj)) from hp) (by simp), e0.hok.kept hk, ?_⟩
  · have hy : sc.names.lookup y = some .cell ∨ sc.names.lookup y = some .free := hy
    rcases hy with hy | hy
    · exact absurd rfl (S.nocell _ (PySem.mem_of_lookup hy))
    · have := S.only _ (PySem.mem_of_lookup hy) rfl
      subst this
      exact ⟨cc, rfl⟩
  · have hi : i < vs.length := by
      unfold L2.start at q
      by_cases hi : i < vs.length
      · exact hi
      · rw [List.getElem?_append_right (by simpa using hi), List.getElem?_replicate] at q
        split at q <;> cases q
    have ha : vs[i]? = some v := by
      unfold L2.start at q
      rw [List.getElem?_append_left (by simpa using hi), List.getElem?_map] at q
      cases e : vs[i]? with
      | none => rw [e] at q; cases q
      | some a => rw [e] at q; cases q; rfl
    obtain ⟨u, hu, rv⟩ := r.get ha
    have hp : ps[i]? = some y := by rw [← S.pre, List.getElem?_take_of_lt (by omega)]; exact p
    exact ⟨u, rv, .inl ⟨S.par y (List.mem_of_getElem? hp), zip_lookup (by rw [← S.pre]; exact S.nd.sublist (List.take_sublist _ _)) hp hu⟩⟩
  · obtain ⟨rfl, _⟩ := cl y c p
    exact ⟨some cv, oc, hk _ _ (e0.bs _ _ hoc).1, hdc⟩
  · obtain ⟨rfl, _⟩ := cl y c p
    exact (e0.bs _ _ hoc).2
  · unfold L2.start
    show _ = N.length
    rw [List.length_append, List.length_map, List.length_replicate]
    omega
end

section
variable {X : Cx} {pins : List (Addr × Obj)} {σ : L2.St} {H : Hp} {s : Shared} {a C u : Addr} {us : List Value} {Q : Value → Shared → Prop} {E : Value → Shared → Prop} {A : Around}
/-- the bound __init__ of ValueError called: what it lays down is not told -/
theorem call_mw (T : OexC X.K C) (I : Inv X pins σ H s) (e : H a = some (exo a C none)) (hu : s.heap.get? u = some (PySem.W.kxs_mw "ValueError.__init__" a)) (hl : us.length ≤ sizeLine) (h : ∀ s', Inv X pins σ H s' → Q .none s') :
    wpAny (model X.prog X.w) A (call (.ref u) us) Q E s := by
  obtain ⟨nm, q, N, bs, bm, sn, sub, ab, col, dd, k0, k1, k2, k3, k5, hC, hbm⟩ := T.cls
  obtain ⟨t1, ho⟩ := exo_at I.hok e
  have hCs := I.kIn _ _ hC
  obtain ⟨hp, g, d, t, os⟩ := s
  refine wpAny_call (codeAny_of_tree ?_)
  show wpAny _ A.in1 (callAny (.ref u) _) _ _ _
  unfold callAny
  refine wpAny_bind (wpAny_load hu ?_)
  simp only [PySem.W.kxs_mw, (by decide : (Value.type "method-wrapper" == Value.type "method" || Value.type "method-wrapper" == Value.type "builtin_function_or_method" || Value.type "method-wrapper" == Value.type "method-wrapper") = true), if_true]
  refine PySem.W.KFB.if_so (by decide) (wpAny_bind (PySem.W.check_bound_init F.excBase_ValueError.toExcCallFacts hCs ho rfl (wpAny_bind (wpAny_pure (wpAny_pure ⟨plainId_quiet F.excBase_ValueError.init.plain _, codeAny_builtin F.excBase_ValueError.initEntry ?_⟩)))))
  refine PySem.W.exc_init_tree (cls := .ref C) (t0 := t1) (dv := none) (c2 := .none) (c3 := .none) (b4 := .bool false) ho hl fun h' k hx _ => ?_
  have J := I.write (t' := t) (x := a) (e := a) (o := exo a C none) (by rw [e]; exact True.intro) (.inl rfl) k ⟨_, hx⟩ (exo_ok hx)
  have eu : upd H a (exo a C none) = H := funext fun b => by
    by_cases hb : b = a
    · subst hb; rw [upd_same, e]
    · rw [upd_ne hb]
  rw [eu] at J
  exact h _ J
end

section
variable {X : Cx} {σ : L2.St} {H : Hp} {s : Shared} {a C f cda cc : Addr} {qual : Str} {st : Stmt} {fd : FuncData} {e : Expr} {ta : TA} {p0 p1 p2 p3 p4 : Pos} {ar : Arg} {body : List Stmt} {pl : Sem Bool}
/-- super().__init__(e), where C is the class around the def and the object's own -/
theorem super_expr (F : SupF X.prog X.K C qual st f fd) (hm : X.mg "super" = none) (hc1 : X.env.kindOf "super" = some .globalImplicit) (hc2 : X.env.kindOf "__class__" = some .free) (hc3 : X.env.kindOf ar.arg = some .local) (hfu : X.env.func = some f)
    (hcl : ∀ cc', (∃ cl cld csl, X.K.lookup cc' = some ⟨cl, cld, .cell (some (.ref C)), csl⟩) → cc' = cc → X.env.cells.lookup ("__class__" : Str) = some cc') (hcc : ∃ (cl : Value) (cld : Option Addr) (csl : Array (Option Value)), X.K.lookup cc = some ⟨cl, cld, .cell (some (.ref C)), csl⟩) (hco : X.env.code = .ref cda)
    (hcd : ∃ (ccl : Value) (cdd : Option Addr) (vs : Array Value) (ccs : Array (Option Value)) (file : Str) (tf : Tok), X.K.lookup cda = some ⟨ccl, cdd, .fields vs, ccs⟩ ∧ vs[2]? = some (.str file tf) ∧ ((X.prog.main.file : Str) == file) = true)
    (hp : (fd.params.posonlyargs ++ fd.params.args).head? = some ar) (hi : interactive X.env = false) (hs : swapsWith (.Call (.Attribute (.Call (.Name "super" p0) [] [] p1) "__init__" p2) [e] [] p3) none p4.line X.env = pure false)
    (hev : eval (.Call (.Attribute (.Call (.Name "super" p0) [] [] p1) "__init__" p2) [e] [] p3) X.env = (do
      let ov ← attributeBase (.Call (.Name "super" p0) [] [] p1) "__init__" X.env (eval (.Call (.Name "super" p0) [] [] p1) X.env)
      standAt p2.atName
      let (g, first) ← holding [ov] (getMethod ov "__init__" pl)
      callWith p3 g first (backTo p3 (starEach [e] X.env)) []))
    (hst : starEach [e] X.env = (false, eval e X.env) :: starEach [] X.env) (hN : X.N[0]? = some ar.arg) (hσ : σ[0]? = some (some (.ref a))) (I : Inv X [] σ H s) (ea : H a = some (exo a C none)) (hta : PA X [e] ta) (q : ta σ H fun xs H1 => H1 = H ∧ xs.length ≤ 1000) :
    _root_.PySem.wpAt (model X.prog X.w) X.A (.func body X.env) (exec (.Expr (.Call (.Attribute (.Call (.Name "super" p0) [] [] p1) "__init__" p2) [e] [] p3) p4) X.env) (fun fl s' => fl = .next ∧ Inv X [] σ H s') X.xe s := by
  obtain ⟨oc, od, dV, kV, doc, pm, an, cda', ct, osl, cc', hfd, lk, -⟩ := F.ex
  obtain ⟨ccl, cdd, vc, ccs, file, tf, hcode, hvc, hfile⟩ := hcd
  obtain ⟨cl, cld, csl, hcell⟩ := hcc
  obtain ⟨mb, hb1, hb2⟩ := I.mod.blt
  obtain ⟨m, hns, hlk⟩ := id I.loc
  obtain ⟨u, ru, hu⟩ := hlk 0 ar.arg (.ref a) hN hσ (.inl hc3)
  obtain rfl : u = Value.ref a := ru
  have hma : m ar.arg = some (.ref a) := by
    rcases hu with ⟨_, z⟩ | ⟨z, _⟩
    · exact z
    · rcases z with z | z <;> (rw [hc3] at z; cases z)
  obtain ⟨nm, qn, N0, bs, bm, sn, sub, ab, col, dd, k0, k1, k2, k3, k5, hC, hbm⟩ := F.oex.cls
  obtain ⟨t1, ho⟩ := exo_at I.hok ea
  have KX := I.kIn
  have hCs := KX _ _ hC
  have hsc : ∃ cd, PySem.W.clsIn X.K C = some cd := by unfold PySem.W.clsIn; rw [hC]; exact ⟨_, rfl⟩
  obtain ⟨cdC, hcdC⟩ := hsc
  have hal : PySem.W.alongIn X.K "__init__" ((cdC.mro.dropWhile (· != .ref C)).drop 1) = some (some (.builtin "ValueError.__init__")) := by
    have z := F.sup
    unfold PySem.W.ks_superIn at z
    rw [hcdC] at z
    exact z
  have hxC : a ≠ C := fun z => by
    rw [z, hCs] at ho
    cases ho
  refine ks_wpAt_Expr_any (ks_wpAt_MethodCall (pl := pl) (ks_wpAt_super_base (of := ⟨oc, od, .func fd, osl⟩) hc1 hc2 (by decide) hfu (KX _ _ lk) rfl hp hco (KX _ _ hcode) rfl hvc hfile F.top ?_) hev) hi hs
  · refine PySem.W.ks_loadName_global I.ok.kind hc1 (Calls.loadGlobal_builtin (by rw [I.ok.glob]; exact I.mod.glob.keeps I.bk) hm (by rw [I.ok.blt]; exact hb1.keeps I.bk) ((hb2 "super" (by decide)).trans (by decide +kernel : bootBuiltins "super" = some (.type "super"))) ⟨rfl, ?_⟩)
    refine wpAny_loadName_free I.ok.kind hc2 (hcl cc ⟨_, _, _, hcell⟩ rfl) ⟨_, KX _ _ hcell, rfl⟩ (wpAny_loadName_local I.ok.kind hc3 hns hma (ks_wpAny_isType_cls hCs rfl ⟨rfl, ?_⟩))
    obtain ⟨hp, g, d, t, os⟩ := s
    refine ks_wpAny_call_super hCs rfl ho rfl (fun c z => by cases z) (PySem.W.looks_mroIn KX F.mro) fun h' e1 k => ?_
    have I1 : Inv X [] σ H ⟨h', g, d, t, os⟩ := I.kept (t' := t) k
    have I2 : W.InstAt h' a { cls := .ref C, dict := none, data := .fields #[.ref t1, .none, .none, .none, .bool false, .none] } C none := ⟨k _ _ ho, rfl, rfl, trivial⟩
    have hmr : W.Looks (model X.prog X.w) h' (mroOf (.ref C)) cdC.mro := (W.looks_clsIn I1.kIn hcdC).andThen .now
    refine PySem.W.kxs_getMethod PySem.W.kxs_ValueError e1 (PySem.W.looks_opaque I1.kIn F.opq) hmr rfl I1.kIn hal (I2.type.andThen (PySem.W.looks_subIn I1.kIn F.sub)) hxC (by decide) ?_
    have I3 : Inv X [] σ H ⟨h'.push (PySem.W.kxs_mw "ValueError.__init__" a), g, d, t + 1, os⟩ := I1.kept (t' := t + 1) fun b o z => Heap.get?_push_of_some _ z
    have hu3 : (h'.push (PySem.W.kxs_mw "ValueError.__init__" a)).get? h'.objs.size = some (PySem.W.kxs_mw "ValueError.__init__" a) := Heap.get?_push_at rfl rfl
    have I4 : Inv X [(h'.objs.size, PySem.W.kxs_mw "ValueError.__init__" a)] σ H ⟨h'.push (PySem.W.kxs_mw "ValueError.__init__" a), g, d, t + 1, os⟩ := I3.pins_of fun p hp => by
      obtain rfl : p = (h'.objs.size, PySem.W.kxs_mw "ValueError.__init__" a) := by simpa using hp
      exact ⟨hu3, I1.hok.fresh (Nat.le_refl _), Nat.ne_of_gt I1.lt, I1.nofs (Nat.le_refl _), fun v z => by cases z⟩
    show wpAny _ _ (callWith p3 (.ref h'.objs.size) [] (backTo p3 (starEach [e] X.env)) []) _ _ _
    have hrun := hta.run p3 [(h'.objs.size, PySem.W.kxs_mw "ValueError.__init__" a)] _ σ H _ I4 q
    rw [hst] at hrun ⊢
    refine PySem.W.kxs_callWith (i := "ValueError.__init__") (x := a) rfl (Calls.evalArgs_plain (thn hrun fun us s1 hh => ?_))
    obtain ⟨vs, H1, I5, r5, e5, hl5⟩ := hh
    subst e5
    have hlu : us.length ≤ sizeLine := by
      rw [← Paired.length r5, sizeLine_eq]
      omega
    refine ⟨(I5.pin (h'.objs.size, PySem.W.kxs_mw "ValueError.__init__" a) (List.mem_append_right _ List.mem_cons_self)).1, ?_⟩
    exact call_mw F.oex I5 ea (I5.pin (h'.objs.size, PySem.W.kxs_mw "ValueError.__init__" a) (List.mem_append_right _ List.mem_cons_self)).1 hlu fun s' J => ⟨rfl, J.pins_of fun p hp => absurd hp (by simp)⟩
end

section
variable {P : Program} {w : World} {K : PySem.W.Frag} {mg : Str → Option Value} {base : Heap}
/-- the def by its body: super().__init__(e), then the fields -/
theorem fn_super {C : Addr} {qual : Str} {st : Stmt} {f : Addr} {fd : FuncData} {N ps : List Str} {k : Nat} {sp : Sp} {e : Expr} {rest : List Stmt} {p0 p1 p2 p3 p4 : Pos} {ar : Arg} {p' : List Str} (F : SupF P K C qual st f fd) (hm : mg "super" = none)
    (S : SupS N ps (C8.fnScope st)) (hb : C8.fnBody st = .Expr (.Call (.Attribute (.Call (.Name "super" p0) [] [] p1) "__init__" p2) [e] [] p3) p4 :: rest) (hp : ((C8.fnArgs st).posonlyargs ++ (C8.fnArgs st).args).head? = some ar) (hps : ps = ar.arg :: p')
    (len : ∀ vs H Q E, sp vs H Q E → vs.length = ps.length) (self0 : ∀ vs H Q E, sp vs H Q E → ∃ a vs', vs = .ref a :: vs' ∧ H a = some (exo a C none))
    {pl : Env → Sem Bool} (hev : ∀ env : Env, eval (.Call (.Attribute (.Call (.Name "super" p0) [] [] p1) "__init__" p2) [e] [] p3) env = (do
      let ov ← attributeBase (.Call (.Name "super" p0) [] [] p1) "__init__" env (eval (.Call (.Name "super" p0) [] [] p1) env)
      standAt p2.atName
      let (g, first) ← holding [ov] (getMethod ov "__init__" (pl env))
      callWith p3 g first (backTo p3 (starEach [e] env)) []))
    (he : ∀ env : Env, starEach [e] env = (false, eval e env) :: starEach [] env) (hs : ∀ (env : Env) o, swapsWith (.Call (.Attribute (.Call (.Name "super" p0) [] [] p1) "__init__" p2) [e] [] p3) none o env = pure false)
    (hbody : ∀ (cda cc : Addr) (A : Around) (outer : List Env) (s : Shared) (H : Hp) (vs : List V) (Q : VK) (E : XK), Room k (A.deeper (PySem.W.ksEnv qual (C8.fnScope st) s.heap.objs.size f (.ref cda) cc)) → sp vs H Q E →
      ∃ ta t, PA (cxS P w K mg base N qual (C8.fnScope st) f cda cc A outer s H) [e] ta ∧ PSs (cxS P w K mg base N qual (C8.fnScope st) f cda cc A outer s H) rest t ∧
        (ta (L2.start N vs) H fun xs H1 => H1 = H ∧ xs.length ≤ 1000) ∧ t { nx := fun _ H' => Q .non H', rt := Q } (L2.start N vs) H) : FnOk P w K mg base C8.CX0 (k + 1) f fd ps sp := by
  refine ⟨len, fun A outer s H args us vs Q E hr e0 hbd r hsp => ?_⟩
  have hl := len _ _ _ _ hsp
  obtain ⟨a, vs', rfl, ea⟩ := self0 _ _ _ _ hsp
  obtain ⟨oc, od, dV, kV, doc, pm, an, cda, ct, osl, cc, rfl, lk, hcd, ⟨ccl, cdd, vc, ccs, file, tf, hcode, hvc, hfile⟩, cl, cld, csl, hcell⟩ := F.ex
  have KX : K.In s.heap := e0.mod.kin.keeps fun b o e => (e0.bs b o e).1
  have lim : s.heap.NoLimit := e0.mod.nolimit.keeps fun b o e => (e0.bs b o e).1
  refine PySem.ks_codeAny_call_defAt (body := C8.fnBody st) hr.depth (KX _ _ lk) rfl lim (PySem.W.codeRec_of KX hcd) rfl hbd S.nocell (fun y hy => S.par _ (List.of_mem_zip (a := y.1) (b := y.2) hy).1) (fun h1 hns hk => ?_) S.co S.gen S.kind
  have I : Inv (cxS P w K mg base N qual (C8.fnScope st) f cda cc A outer s H) [] (L2.start N (.ref a :: vs')) H { s with heap := h1, toks := s.toks + (ps.zip us).length } := inv_startS (cv := .ref C) S hr.hd e0 hl r hns hk ⟨_, e0.mod.kin _ _ hcell, rfl⟩
  obtain ⟨ta, t, hta, ht, hq, hq2⟩ := hbody cda cc A outer s H _ Q E (hr.deeper _) hsp
  rw [hb]
  have hN0 : N[0]? = some ar.arg := by
    have : (N.take ps.length)[0]? = some ar.arg := by rw [S.pre, hps]; rfl
    rwa [List.getElem?_take_of_lt (by rw [hps]; simp)] at this
  refine ks_wpAt_execs_cons (ks_wpAt_mono (super_expr (X := cxS P w K mg base N qual (C8.fnScope st) f cda cc A outer s H) (cc := cc) (cda := cda) (ar := ar) F hm S.sup S.cls (S.par _ (by rw [hps]; simp)) rfl (fun cc' _ z => by rw [z]; rfl) ⟨cl, cld, csl, hcell⟩ rfl ⟨ccl, cdd, vc, ccs, file, tf, hcode, hvc, hfile⟩ hp (by show (decide _ && _) = false; first | rfl | simp [cxS, S.kind]) (hs _ _) (hev _) (he _) hN0 rfl I ea hta hq) (fun fl s' hh => ?_) fun _ _ z => z.elim)
  obtain ⟨rfl, J⟩ := hh
  refine wpAt_of_wpAny (wpAny_mono (ht.run [] s' (L2.start N (.ref a :: vs')) H _ J hq2) (fun fl s2 h2 => ?_) fun _ _ z => z.elim)
  have fin : ∀ {σ' : L2.St} {H' : Hp} {v : V} {u : Value}, L2.Inv (cxS P w K mg base N qual (C8.fnScope st) f cda cc A outer s H) [] σ' H' s2 → L2.RelV v u → Q v H' → CE outer P w H s Q u s2 := fun {σ' H' v u} J rv q => ⟨v, H', J.os, J.bare, J.base, J.hok, rv, q⟩
  cases fl with
  | next =>
    obtain ⟨_, _, J2, q2⟩ := h2
    exact fin (v := V.non) J2 rfl q2
  | ret u =>
    obtain ⟨_, _, _, J2, rv, q2⟩ := h2
    exact fin J2 rv q2
  | brk => exact h2.elim fun _ z => z.elim fun _ y => y.2.elim
  | cont => exact h2.elim fun _ z => z.elim fun _ y => y.2.elim
end
end RJ
end

section
set_option maxRecDepth 100000
set_option maxHeartbeats 2000000
namespace RJ
open PySem PySem.Spec PyProof.Rows L2

/-! ### defs that may raise -/
/-- what lets errors out -/
abbrev CXN (P : Program) (w : World) : CXT := L2N.CX P w
structure CalX (P : Program) (w : World) (K : PySem.W.Frag) (mg : Str → Option Value) (base : Heap) (k : Nat) (x : Str) (sp : Sp) : Prop where
  ex : ∃ (f : Addr) (fd : FuncData) (ps : List Str), FnOk P w K mg base (CXN P w) k f fd ps sp ∧ mg x = some (.ref f) ∧ PySem.W.keepIn K (.ref f) = true ∧ Binds K fd ps []
structure MetX (P : Program) (w : World) (K : PySem.W.Frag) (mg : Str → Option Value) (base : Heap) (k : Nat) (C : Addr) (m : Str) (sp : Sp) : Prop where
  ex : ∃ (f : Addr) (fd : FuncData) (ps : List Str), Cls K C ∧ Meth K C m f ∧ FnOk P w K mg base (CXN P w) k f fd ps sp ∧ Binds K fd ps []
section
variable {P : Program} {w : World} {K : PySem.W.Frag} {mg : Str → Option Value} {base : Heap}
theorem fnX {x qual : Str} {st : Stmt} {f : Addr} {fd : FuncData} {N ps : List Str} {k : Nat} {sp : Sp} (F : C8.Fun K x qual st f fd) (S : FnScope N ps (C8.fnScope st)) (len : ∀ vs H Q E, sp vs H Q E → vs.length = ps.length)
    (hb : ∀ (cdv : Value) (A : Around) (outer : List Env) (s : Shared) (H : Hp) (vs : List V) (Q : VK) (E : XK), Room k (A.deeper (envOfC qual (C8.fnScope st) s.heap.objs.size f cdv)) → sp vs H Q E →
      L2N.Takes (cxOf (CXN P w) P w K mg base N qual (C8.fnScope st) f cdv A outer s H E) (fun cls d _ H' => E cls d H') →
      ∃ t, PSs (cxOf (CXN P w) P w K mg base N qual (C8.fnScope st) f cdv A outer s H E) (C8.fnBody st) t ∧ t { nx := fun _ H' => Q .non H', rt := Q } (start N vs) H) : FnOk P w K mg base (CXN P w) (k + 1) f fd ps sp := by
  obtain ⟨oc, od, dV, kV, doc, pm, an, cdv, ct, osl, rfl, lk, hcd⟩ := F.ex
  exact fn_of lk hcd S len fun A outer s H vs Q E hr hsp => hb cdv A outer s H vs Q E hr hsp (L2N.takes_of rfl rfl rfl rfl)
end
section
variable {X : Cx} {k j : Nat} {C : Addr} {x m : Str} {sp : Sp} {p pos apos : Pos} {e o : Expr} {es : List Expr} {ta : TE} {t : TA} {W : WX}
theorem pe_cx (c : CalX X.prog X.w X.K X.mg X.base k x sp) (hr : Room j X.A) (hk : k ≤ j) (tk : L2N.Takes X W) (hg : Gl X x) (ha : PA X (e :: es) t)
    (hdb : (x == ("__debug__" : Str)) = false := by decide) (he : starEach (e :: es) X.env = (false, eval e X.env) :: starEach es X.env := by rfl) (hpl : (backTo pos (starEach es X.env)).any (·.1) = false := by rfl) :
    PE X (.Call (.Name x p) (e :: es) [] pos) (tCallS sp (WE W) t) := by
  obtain ⟨f, fd, ps, F, hm, kp, b⟩ := c.ex
  exact pe_callS F (hr.mono hk) hg hm kp b (L2N.passAt tk) ha hdb he hpl
/-- an error's class, whose __init__ keeps sp -/
structure ErrC (P : Program) (w : World) (K : PySem.W.Frag) (mg : Str → Option Value) (base : Heap) (x : Str) (C : Addr) (sp : Sp) : Prop where
  oex : OexC K C
  mgc : mg x = some (.ref C)
  ini : ∃ (f : Addr) (fd : FuncData) (ps : List Str), PySem.W.findIn K (.ref C) "__init__" = some (some (.ref f)) ∧ PySem.W.typeIn K (.ref f) = some (.type "function") ∧ FnOk P w K mg base C8.CX0 1 f fd ps sp ∧ Binds K fd ps []
/-- C(e, ..), an error over ValueError -/
theorem pmk_err {e : Expr} {es : List Expr} {ta : TA} (T : ErrC X.prog X.w X.K X.mg X.base x C sp) (hr : Room j X.A) (hj : 2 ≤ j) (hg : Gl X x) (ha : PA X (e :: es) ta)
    (hdb : (x == ("__debug__" : Str)) = false := by decide) (he : starEach (e :: es) X.env = (false, eval e X.env) :: starEach es X.env := by rfl) (hpl : (backTo pos (starEach es X.env)).any (·.1) = false := by rfl) :
    L2N.PMk X (.Call (.Name x p) (e :: es) [] pos) (tMkO C sp [] ta) := by
  intro pins s σ H Q I h
  obtain ⟨fI, fd, ps, iC, tI, F1, hb⟩ := T.ini
  obtain ⟨nm, q, N, bs, bm, sn, sub, ab, col, dd, k0, k1, k2, k3, k5, hC, hbm⟩ := T.oex.cls
  refine wpAny_Call_Name_kw (ld_glob I hg T.mgc (PySem.W.callWith_K (h₀ := X.base) I.ok.mod.kin T.oex.kC (thn (ha.run pos pins s σ H _ I h) fun us s1 hh => ?_) he hpl) hdb)
  obtain ⟨vs, H1, I1, r1, hz, q1⟩ := hh
  refine ⟨I1.kIn, (show wpAny _ _ (call (.ref C) us) _ _ _ from ?_)⟩
  obtain ⟨hp, g, dr, tk, os⟩ := s1
  have hsz : hp.objs.size ≤ hp.objs.size + 1 := by omega
  have hq := q1 _ (I1.hok.fresh hsz)
  have kk : ∀ b o, hp.get? b = some o → ((hp.push (PySem.W.kdv_tup us)).push (PySem.HandSPX.excO C hp.objs.size)).get? b = some o := fun b o z => Heap.get?_push_of_some _ (Heap.get?_push_of_some _ z)
  have hnew : ((hp.push (PySem.W.kdv_tup us)).push (PySem.HandSPX.excO C hp.objs.size)).get? (hp.objs.size + 1) = some (PySem.HandSPX.excO C hp.objs.size) := by heap_get
  have I2 : Inv X pins σ (upd H1 (hp.objs.size + 1) (exo (hp.objs.size + 1) C none)) ⟨_, g, dr, tk, os⟩ := I1.laid (t' := tk) (a := hp.objs.size + 1) (o := exo (hp.objs.size + 1) C none) (h' := (hp.push (PySem.W.kdv_tup us)).push (PySem.HandSPX.excO C hp.objs.size)) kk hsz (exo_ok hnew)
  have r2 : Vals (V.ref (hp.objs.size + 1) :: (vs ++ [])) (Value.ref (hp.objs.size + 1) :: us) := by rw [List.append_nil]; exact .cons rfl r1
  have hl : (Value.ref (hp.objs.size + 1) :: us).length = ps.length := by rw [← r2.length]; exact F1.len _ _ _ _ hq
  have hbb := hb _ (Value.ref (hp.objs.size + 1) :: us) I2.kIn (by rw [List.append_nil]; exact hl)
  rw [List.append_nil] at hbb
  have hus : us.length ≤ sizeLine := by rw [← Paired.length r1, sizeLine_eq]; omega
  have hr2 : Room (1 + 1) X.A := hr.mono hj
  refine wpAny_call (PySem.HandSPX.call_own F.excBase_ValueError (fun Y => PySem.HandSPX.refsVE_contains Y bm hbm) (I1.kIn _ _ hC) (PySem.W.looks_findIn I1.kIn iC) (fun self => PySem.W.bind_fn I1.kIn self tI) hus
    (codeAny_mono (F1.run _ X.stack _ _ ⟨Value.ref (hp.objs.size + 1) :: us, []⟩ (Value.ref (hp.objs.size + 1) :: us) _ _ (fun _ _ _ => False) (hr2.make C us []) (I2.env0.make C us []) hbb r2 hq) fun r s' hq' => ?_))
  cases r with
  | error er => exact hq'.elim
  | ok fl =>
    cases fl with
    | next => exact hq'.elim
    | brk => exact hq'.elim
    | cont => exact hq'.elim
    | ret u =>
      obtain ⟨v, H2, os2, bare2, un2, hok2, rv, ev, d, fs, ea, ed, hd1, q2⟩ := hq'
      subst ev
      obtain ⟨h2, g2, d2, t2, os'⟩ := s'
      obtain ⟨t0, G, J, kG, ge, hoe, na⟩ := mk_end0 (d2 := d2) (t2 := t2) I1 hsz kk un2 hok2 os2 bare2 ea ed hd1
      exact ⟨rv, _, _, _, ⟨G, g2, d2, t2, os'⟩, _, .ref C, some d, rfl, J, kG, ge, hoe, ⟨rfl, rfl, fun vs' z => by cases z; rfl⟩, rfl, rfl, na, rfl, bare2, raises_own T.oex.exC T.oex.tyC, q2⟩
theorem takes0 : L2N.Takes X (fun _ _ _ _ => False) := fun u s' ⟨_, _, _, _, _, _, _, _, _, _, _, _, _, _, _, _, z⟩ => z.elim
end

/-! ### isinstance of the caught error, its fields -/
/-- what an error's class must say -/
structure ErrI (K : PySem.W.Frag) (D : Addr) : Prop where
  cl : (PySem.W.clsIn K D).isSome = true
  hg : PySem.W.findIn K (.ref D) "__getattribute__" = some (some (.builtin "BaseException.__getattribute__"))
  hk : PySem.W.findIn K (.ref D) "__getattr__" = some none
  hs : PySem.W.subIn K (.ref D) (.type "BaseException") = some true
  ha : PySem.W.findIn K (.ref D) "__class__" = some (some (.builtin "object.__class__"))
  hn : PySem.W.specialIn K (.builtin "object.__class__") "__get__" = some (some (.builtin "getset_descriptor.__get__"))
  ht : PySem.W.takesIn K (.builtin "object.__class__") = some true
  hm : PySem.W.mroIn K D (.type "object") = some true
  hd : PySem.W.hasDictIn K D = true
theorem ErrI.xf {K : PySem.W.Frag} {D : Addr} (h : ErrI K D) : XfC K D := ⟨h.hg, h.hk, h.hs, h.hd⟩
def rIsD (K : PySem.W.Frag) (a : Addr) (cls : Value) (d : Option Addr) : List V → Hp → VK → Prop := fun xs H Q => ∃ (D dd : Addr) (fs : List (Str × V)) (c : V) (cv : Value) (b : Bool), cls = .ref D ∧ d = some dd ∧ ErrI K D ∧ H dd = some (.xd fs) ∧ xs = [.ref a, c] ∧ (∀ u, RelV c u → u = cv) ∧ PySem.W.kitOne K (.ref D) cv = some b ∧ Q (.bl b) H
theorem call_isD {X : Cx} {a : Addr} {oe : Obj} {cls : Value} {d : Option Addr} {pn : List (Addr × Obj)} (hz : Zc cls d oe) (hf : ∃ vs, oe.data = .fields vs) : CallR (X.suite a ((a, oe) :: pn)) (.builtin "isinstance") (rIsD X.K a cls d) := by
  intro pins s σ H xs us Q I r h
  obtain ⟨D, dd, fs, c, cv, b, rfl, rfl, T, ed, rfl, hcv, e, q⟩ := h
  cases r with
  | cons rx rr =>
    cases rr with
    | cons rt rr =>
      cases rr
      cases rx
      have ec := hcv _ rt
      subst ec
      obtain ⟨hget, _⟩ := I.pin (a, oe) (List.mem_append.mpr (.inl List.mem_cons_self))
      obtain ⟨vs, hv⟩ := hf
      have hx : ObjOk X.prog X.w H s.heap dd (.xd fs) := I.hok dd _ ed
      obtain ⟨mA, hns, _⟩ := hx
      obtain ⟨od, ho, _⟩ := lookIn_ns hns
      have J : PySem.W.InstAt s.heap a oe D (some od) := ⟨hget, hz.1, by unfold PySem.W.notCls; rw [hv] <;> rfl, by rw [hz.2]; exact ho⟩
      exact PySem.W.kia_one (PySem.W.kitx_exc T.cl T.hg T.hk T.hs T.ha T.hn T.ht T.hm) I.kIn J e (fun z => nomatch z) fun tk => ⟨.bl b, H, I.kept (t' := tk) fun _ _ z => z, rfl, q⟩
/-- .. both for a class of the program and a built-in one -/
theorem rel_ref {a : Addr} : ∀ u, RelV (.ref a) u → u = .ref a := fun _ h => h
theorem rel_ty {n : String} : ∀ u, RelV (.ty n) u → u = .type n := fun _ h => h

/-! ### defs called where an error is handled -/
structure CalH (P : Program) (w : World) (K : PySem.W.Frag) (mg : Str → Option Value) (base : Heap) (k : Nat) (x : Str) (sp : Sp) : Prop where
  ex : ∃ (f : Addr) (fd : FuncData) (ps : List Str), L2H.FnH P w K mg base C8.CX0 k f fd ps sp ∧ mg x = some (.ref f) ∧ PySem.W.keepIn K (.ref f) = true ∧ Binds K fd ps []
section
variable {P : Program} {w : World} {K : PySem.W.Frag} {mg : Str → Option Value} {base : Heap}
theorem fnH0 {x qual : Str} {st : Stmt} {f : Addr} {fd : FuncData} {N ps : List Str} {k : Nat} {sp : Sp} (F : C8.Fun K x qual st f fd) (S : FnScope N ps (C8.fnScope st)) (len : ∀ vs H Q E, sp vs H Q E → vs.length = ps.length)
    (hb : ∀ (cdv : Value) (A : Around) (outer : List Env) (s : Shared) (H : Hp) (vs : List V) (Q : VK) (E : XK) (p : Addr × Obj), L2H.RoomH k (A.deeper (envOfC qual (C8.fnScope st) s.heap.objs.size f cdv)) → sp vs H Q E →
      L2H.HotC (L2H.cxH C8.CX0 P w K mg base N qual (C8.fnScope st) f cdv A outer s H E p).nox →
      ∃ t, PSs (L2H.cxH C8.CX0 P w K mg base N qual (C8.fnScope st) f cdv A outer s H E p).nox (C8.fnBody st) t ∧ t { nx := fun _ H' => Q .non H', rt := Q } (start N vs) H) : L2H.FnH P w K mg base C8.CX0 (k + 1) f fd ps sp := by
  obtain ⟨oc, od, dV, kV, doc, pm, an, cdv, ct, osl, rfl, lk, hcd⟩ := F.ex
  refine L2H.fn_ofH lk hcd S len fun A outer s H vs Q E p hot hr hsp => ?_
  obtain ⟨t, h, q⟩ := hb cdv A outer s H vs Q E p hr hsp ⟨p, hot, List.mem_singleton.mpr rfl⟩
  exact ⟨t, h.nox, q⟩
end
section
variable {X : Cx} {k j : Nat} {x : Str} {sp : Sp} {p pos : Pos} {e : Expr} {es : List Expr} {t : TA}
theorem pe_ch (c : CalH X.prog X.w X.K X.mg X.base k x sp) (hr : L2H.RoomH j X.A) (hk : k ≤ j) (hc : L2H.HotC X) (hg : Gl X x) (ha : PA X (e :: es) t)
    (hdb : (x == ("__debug__" : Str)) = false := by decide) (he : starEach (e :: es) X.env = (false, eval e X.env) :: starEach es X.env := by rfl) (hpl : (backTo pos (starEach es X.env)).any (·.1) = false := by rfl) :
    PE X (.Call (.Name x p) (e :: es) [] pos) (tCallS sp (fun _ => C8.E0) t) := by
  obtain ⟨f, fd, ps, F, hm, kp, b⟩ := c.ex
  exact L2H.pe_callH F (hr.mono hk) hc hg hm kp b (fun σ pins H s e s' I z => z.elim) ha hdb he hpl
theorem hotS {a : Addr} {oe : Obj} {cls : Value} {d : Option Addr} {pn : List (Addr × Obj)} (hz : L2N.Zn cls d oe) (hf : ∃ vs, oe.data = .fields vs) : L2H.HotC (X.suite a ((a, oe) :: pn)) := by
  obtain ⟨vs, hv⟩ := hf
  exact ⟨(a, oe), ⟨rfl, vs, hv, hz.2.2 vs hv⟩, List.mem_cons_self⟩
theorem roomS {a : Addr} {pn : List (Addr × Obj)} (hr : Room j X.A) : L2H.RoomH j (X.suite a pn).A := ⟨hr.dp, hr.un⟩
end
end RJ
end

section
set_option maxRecDepth 100000
set_option maxHeartbeats 2000000
namespace RJ
open PySem PySem.Spec PyProof.Rows L2
section
variable {P : Program} {w : World} {K : PySem.W.Frag} {mg : Str → Option Value} {base : Heap} {CX : CXT} {k : Nat} {f : Addr} {fd : FuncData} {ps : List Str} {sp sp' : Sp}
/-- a def that raises nothing, where errors are let out -/
theorem FnOk.lift (F : FnOk P w K mg base C8.CX0 k f fd ps sp) : FnOk P w K mg base CX k f fd ps sp :=
  ⟨F.len, fun A outer s H args us vs Q E hr e0 hb r h => codeAny_mono (F.run A outer s H args us vs Q E hr e0 hb r h) fun r s' hq => by
    cases r with
    | error e => exact hq.elim
    | ok fl => cases fl <;> exact hq⟩
/-- two promises of one def -/
theorem FnOk.or (F : FnOk P w K mg base CX k f fd ps sp) (G : FnOk P w K mg base CX k f fd ps sp') : FnOk P w K mg base CX k f fd ps (fun vs H Q E => sp vs H Q E ∨ sp' vs H Q E) :=
  ⟨fun vs H Q E h => h.elim (F.len vs H Q E) (G.len vs H Q E), fun A outer s H args us vs Q E hr e0 hb r h => h.elim (F.run A outer s H args us vs Q E hr e0 hb r) (G.run A outer s H args us vs Q E hr e0 hb r)⟩
end
/-- a class that is made by its name, whose __init__ may raise -/
structure MakX (P : Program) (w : World) (K : PySem.W.Frag) (mg : Str → Option Value) (base : Heap) (k : Nat) (x : Str) (C : Addr) (sp : Sp) : Prop where
  ex : ∃ (f : Addr) (fd : FuncData) (ps : List Str), Mk K C f ∧ FnOk P w K mg base (CXN P w) k f fd ps sp ∧ mg x = some (.ref C) ∧ Binds K fd ps []
section
variable {X : Cx} {k j : Nat} {C f : Addr} {fd : FuncData} {ps : List Str} {x : Str} {sp : Sp} {p pos : Pos} {e : Expr} {es : List Expr} {t : TA} {W : WX}
def tMakeS (C : Addr) (sp : Sp) (E : L2.St → XK) (t : TA) : TE := fun σ H Q => t σ H fun vs H1 => ∀ x dx, H1 x = none → H1 dx = none → dx ≠ x → sp (.ref x :: vs) (upd (upd H1 dx (.own x)) x (.ins C dx [])) (fun v H2 => v = .non ∧ Q (.ref x) H2) (E σ)
theorem run_makeS {pins : List (Addr × Obj)} {σ : L2.St} {H : Hp} {s : Shared} {Q : VK} {us : List Value} {vs : List V} {E : L2.St → XK} (M : Mk X.K C f) (F : FnOk X.prog X.w X.K X.mg X.base (CXN X.prog X.w) k f fd ps sp) (hr : Room (k + 1) X.A) (hb : Binds X.K fd ps [])
    (hx : PassesAt (CXN X.prog X.w) X σ (E σ)) (I : Inv X pins σ H s) (r : Vals vs us)
    (h : ∀ x dx, H x = none → H dx = none → dx ≠ x → sp (.ref x :: vs) (upd (upd H dx (.own x)) x (.ins C dx [])) (fun v H2 => v = .non ∧ Q (.ref x) H2) (E σ)) :
    wpAny (model X.prog X.w) X.A (call (.ref C) us) (EP X pins σ Q) X.xe s := by
  have hq := h (s.heap.objs.size + 1) s.heap.objs.size (I.hok.fresh (Nat.le_succ _)) (I.hok.fresh (Nat.le_refl _)) (Nat.ne_of_lt (Nat.lt_succ_self _))
  have I2 := Inv.made (C := C) I
  have r2 : Vals (V.ref (s.heap.objs.size + 1) :: vs) (Value.ref (s.heap.objs.size + 1) :: us) := .cons rfl r
  have hl : (Value.ref (s.heap.objs.size + 1) :: us).length = ps.length := by rw [← r2.length]; exact F.len _ _ _ _ hq
  have hbb := hb _ (Value.ref (s.heap.objs.size + 1) :: us) I2.kIn (by rw [List.append_nil]; exact hl)
  rw [List.append_nil] at hbb
  refine wpAny_call (make_map (f := f) I.kIn M.makes M.init (beq_iff_eq.mp M.fn) (codeAny_mono (F.run _ X.stack _ _ ⟨Value.ref (s.heap.objs.size + 1) :: us, []⟩ (Value.ref (s.heap.objs.size + 1) :: us) _ _ (E σ) (hr.make C us []) (I2.env0.make C us []) hbb r2 hq) fun r s' hq' => ?_))
  cases r with
  | error e => exact hx pins _ _ e s' I2 hq'
  | ok fl =>
    cases fl with
    | next => exact hq'.elim
    | brk => exact hq'.elim
    | cont => exact hq'.elim
    | ret u =>
      obtain ⟨v, H', I3, rv, ev, q3⟩ := I2.after hq'
      subst ev
      exact ⟨rv, ⟨V.ref (s.heap.objs.size + 1), H', I3, rfl, q3⟩⟩
theorem pe_makeS (c : MakX X.prog X.w X.K X.mg X.base k x C sp) (hr : Room j X.A) (hk : k + 1 ≤ j) (tk : L2N.Takes X W) (hg : Gl X x) (ha : PA X (e :: es) t)
    (hdb : (x == ("__debug__" : Str)) = false := by decide) (he : starEach (e :: es) X.env = (false, eval e X.env) :: starEach es X.env := by rfl) (hpl : (backTo pos (starEach es X.env)).any (·.1) = false := by rfl) :
    PE X (.Call (.Name x p) (e :: es) [] pos) (tMakeS C sp (WE W) t) := by
  obtain ⟨f, fd, ps, M, F, hm, b⟩ := c.ex
  refine ⟨fun pins s σ H Q I h => wpAny_Call_Name_kw (ld_glob I hg hm (PySem.W.callWith_K (h₀ := X.base) I.ok.mod.kin M.kp (thn (ha.run pos pins s σ H _ I h) fun us s1 hh => ?_) he hpl) hdb)⟩
  obtain ⟨vs, H1, I1, r, q⟩ := hh
  exact ⟨I1.kIn, run_makeS M F (hr.mono hk) b (L2N.passAt tk σ) I1 r q⟩
end
/-- isinstance of the caught error against a tuple of classes -/
def rIsDT (K : PySem.W.Frag) (a : Addr) (cls : Value) (d : Option Addr) : List V → Hp → VK → Prop := fun xs H Q => ∃ (D dd tp : Addr) (fs : List (Str × V)) (cs : List V) (ws : List Value) (b : Bool), cls = .ref D ∧ d = some dd ∧ ErrI K D ∧ H dd = some (.xd fs) ∧ xs = [.ref a, .ref tp] ∧ H tp = some (.tup cs) ∧ (∀ us, Vals cs us → us = ws) ∧ PySem.W.kitAny K (.ref D) ws = some b ∧ Q (.bl b) H
theorem call_isDT {X : Cx} {a : Addr} {oe : Obj} {cls : Value} {d : Option Addr} {pn : List (Addr × Obj)} (hz : Zc cls d oe) (hf : ∃ vs, oe.data = .fields vs) : CallR (X.suite a ((a, oe) :: pn)) (.builtin "isinstance") (rIsDT X.K a cls d) := by
  intro pins s σ H xs us Q I r h
  obtain ⟨D, dd, tp, fs, cs, ws, b, rfl, rfl, T, ed, rfl, htp, hws, e, q⟩ := h
  obtain ⟨u1, u2, rfl, r1, r2⟩ := vals2 r
  cases (show u1 = Value.ref a from r1)
  cases (show u2 = Value.ref tp from r2)
  obtain ⟨hget, _⟩ := I.pin (a, oe) (List.mem_append.mpr (.inl List.mem_cons_self))
  obtain ⟨vs, hv⟩ := hf
  have hx : ObjOk X.prog X.w H s.heap dd (.xd fs) := I.hok dd _ ed
  obtain ⟨mA, hns, _⟩ := hx
  obtain ⟨od, ho, _⟩ := lookIn_ns hns
  have J : PySem.W.InstAt s.heap a oe D (some od) := ⟨hget, hz.1, by unfold PySem.W.notCls; rw [hv] <;> rfl, by rw [hz.2]; exact ho⟩
  have hT : ObjOk X.prog X.w H s.heap tp (.tup cs) := I.hok tp _ htp
  obtain ⟨_, its, rv, o, g1, g2, n, g3⟩ := hT
  have e3 := hws its rv
  subst e3
  obtain ⟨oc, od2, dt, sl⟩ := o
  simp only at g2 g3
  subst g2 g3
  exact PySem.W.kia_tup (PySem.W.kitx_exc T.cl T.hg T.hk T.hs T.ha T.hn T.ht T.hm) I.kIn J g1 e (fun z => nomatch z) fun tk => ⟨.bl b, H, I.kept (t' := tk) fun _ _ z => z, rfl, q⟩
theorem vals_refs : ∀ {as : List Addr} {us : List Value}, Vals (as.map V.ref) us → us = as.map Value.ref
  | [], _, .nil => rfl
  | a :: as, _, .cons r t => by rw [vals_refs t, show _ = Value.ref a from r]; rfl
end RJ
end

section
set_option maxRecDepth 100000
set_option maxHeartbeats 2000000
namespace RJ
open PySem PySem.Spec PyProof.Rows L2
/-! ### methods that may raise -/
def tMethX (C : Addr) (m : Str) (sp : Sp) (E : L2.St → XK) (ta : TE) (t : TA) : TE := fun σ H Q => ta σ H fun x H1 => ∃ a dx fs, x = .ref a ∧ H1 a = some (.ins C dx fs) ∧ fs.lookup m = none ∧ t σ H1 fun vs H2 => sp (x :: vs) H2 Q (E σ)
section
variable {X : Cx} {k j : Nat} {C : Addr} {m : Str} {sp : Sp} {p pos apos : Pos} {e o : Expr} {es : List Expr} {ta : TE} {t : TA} {W : WX}
theorem pe_mx {pl : Sem Bool} (c : MetX X.prog X.w X.K X.mg X.base k C m sp) (hr : Room j X.A) (hk : k ≤ j) (tk : L2N.Takes X W) (he : PE X o ta) (ha : PA X (e :: es) t)
    (hst : starEach (e :: es) X.env = (false, eval e X.env) :: starEach es X.env := by rfl) (hpl : (backTo pos (starEach es X.env)).any (·.1) = false := by rfl)
    (ht : eval (.Call (.Attribute o m apos) (e :: es) [] pos) X.env = (do
      let ov ← eval o X.env
      standAt apos.atName
      let (f, first) ← holding [ov] (getMethod ov m pl)
      callWith pos f first (backTo pos (starEach (e :: es) X.env)) (backToKw pos (keywordEach [] X.env))) := by rfl) :
    PE X (.Call (.Attribute o m apos) (e :: es) [] pos) (tMethX C m sp (WE W) ta t) := by
  obtain ⟨f, fd, ps, hc, hm, F, b⟩ := c.ex
  refine ⟨fun pins s σ H Q I h => ?_⟩
  refine PySem.W.methodCall_KW (pl := pl) (thn (he.run pins s σ H _ I h) fun u s1 ⟨x, H1, I1, rx, a, dx, fs, ex, ea, l, q⟩ => ?_) ht
  subst ex
  obtain rfl : u = Value.ref a := rx
  refine getmeth_ok I1 ea hc hm l ?_
  refine PySem.W.callWith_K (first := [.ref a]) (h₀ := X.base) I.ok.mod.kin hm.kp (thn (ha.run pos pins s1 σ H1 _ I1 q) fun us s2 ⟨vs, H2, I2, r, q2⟩ => ⟨I2.kIn, ?_⟩) hst hpl
  exact run_fnS (us := .ref a :: us) (vs := .ref a :: vs) F (hr.mono hk) b (L2N.passAt tk σ) I2 (.cons rfl r) q2
end
end RJ
end

section
set_option maxRecDepth 100000
set_option maxHeartbeats 2000000
namespace RJ
open PySem PySem.Spec PyProof.Rows L2
/-! ### comprehensions whose elements may raise -/
/-- what is due when the block of a comprehension with the frame ce has run -/
def postX (M : Model) (A : Around) (E : Value → Shared → Prop) (use : Option (Value → Sem Unit)) (Q : Value → Shared → Prop) (acc : Value) (ce : Env) (r : Result) (s' : Shared) : Prop :=
  match r with
  | .ok f => compPost M A E use Q acc ce.locals (.ok f) s'
  | .error x => ∃ m, s'.heap.Ns ce.locals m ∧ ∀ h', Heap.SameBut ce.locals s'.heap h' → wpAny M A (passOn "comprehension.variables-let-go" x ce : Sem Value) (fun _ _ => False) E { s' with heap := h' }
theorem noteFrame_eq {x : Value} {e1 e2 : Env} (h : e1.frame = e2.frame) : noteFrame x e1 = noteFrame x e2 := by
  unfold noteFrame PySem.frameOf
  rw [h]
theorem passOn_eq {α : Type} {w : String} {x : Value} {e1 e2 : Env} (h : e1.frame = e2.frame) : (passOn w x e1 : Sem α) = passOn w x e2 := by
  unfold PySem.passOn
  rw [h]
section
variable {M : Model} {A : Around} {E : Value → Shared → Prop} {s : Shared} {env : Env}
theorem comp_run {e : Expr} {scope : Scope} {pos : Pos} {newAcc first : Sem Value} {g : Comprehension} {gs : List Comprehension} {cl : List (Str × Addr)} {use : Option (Value → Sem Unit)} {Q : Value → Shared → Prop}
    (hcl : clausesOf e = g :: gs) (hs : ∀ x, foldedSetIterable g.iter env x = pure x) (hclos : closureFor scope env = pure cl) (hkind : scope.kind = .function)
    (hnames : ∀ x ∈ scope.names, x.2 = .local → scope.names.lookup x.1 = some .local)
    (h : wpAny M A first (fun x s₁ => wpAny M A (pyIter x) (fun it s₂ => wpAny M A newAcc (fun acc s₃ =>
      wpAny M A (newFunctionEnv scope env.globals cl [] env.qual none .none (some env)) (fun cenv s₄ =>
        codeAny M A (.compStart e 0 it acc { cenv with scope := relabel scope env }) (postX M A E use Q acc { cenv with scope := relabel scope env }) s₄) E s₃) E s₂) E s₁) E s) :
    wpAny M A (comprehension e scope env pos newAcc false first use) Q E s := by
  have err : ∀ {α : Type} {t : Sem α} {P P' : α → Shared → Prop} {s : Shared}, wpAny M A t P E s → (∀ a s, P a s → P' a s) → wpAny M A t P' E s := fun x y => wpAny_mono x y fun _ _ z => z
  unfold comprehension
  rw [hclos, hcl]
  refine wpAny_bind (err h fun x s₁ h₁ => wpAny_bind (wpAny_standAt (wpAny_bind (wpAny_of_eq (hs x) (wpAny_bind (wpAny_holding (err h₁ fun it s₂ h₂ => ?_)))))))
  refine wpAny_standIf (wpAny_bind (err h₂ fun acc s₃ h₃ => wpAny_bind (wpAny_pure (wpAny_bind (err h₃ fun cenv s₄ h₄ => ?_)))))
  dsimp only
  have loc : ∀ x ∈ (scope.names.filter fun x => (x.2 == .local || x.2 == .cell) && x.1 != (".0" : Str)).reverse, x.2 = .local →
      Env.kindOf { cenv with scope := relabel scope env } x.1 = some .local := fun x hx hl => lookup_relabel_local (hnames x (List.mem_filter.mp (List.mem_reverse.mp hx)).1 hl)
  have loc' : ∀ x ∈ (scope.names.filter fun x => (x.2 == .local || x.2 == .cell) && x.1 != (".0" : Str)).reverse.drop 1 ++ (scope.names.filter fun x => (x.2 == .local || x.2 == .cell) && x.1 != (".0" : Str)).reverse.take 1,
      x.2 = .local → Env.kindOf { cenv with scope := relabel scope env } x.1 = some .local := fun x hx => (List.mem_append.mp hx).elim (fun z => loc x (List.mem_of_mem_drop z)) fun z => loc x (List.mem_of_mem_take z)
  refine wpAny_holding (wpAny_bind (wpAny_attempt (wpAny_holding (wpAny_run (codeAny_mono h₄ fun r s' hr => ?_)))))
  cases r with
  | error x =>
    obtain ⟨m, hn, k⟩ := hr
    exact wpAny_bind (wpAny_holding (wpAny_comp_letGo (cenv := { cenv with scope := relabel scope env }) hkind _ s' m loc hn fun h' _ _ sb => err (k h' sb) fun _ _ z => z.elim))
  | ok f =>
    cases use with
    | none =>
      obtain ⟨m, hn, k⟩ := hr
      exact wpAny_bind (wpAny_holding (wpAny_comp_letGo (cenv := { cenv with scope := relabel scope env }) hkind _ s' m loc hn fun h' _ _ sb => wpAny_pure (k h' sb)))
    | some u =>
      refine wpAny_bind (wpAny_rule (wpAny_bind (wpAny_holding (err hr fun _ s'' hr' => ?_))))
      obtain ⟨m, hn, k⟩ := hr'
      exact wpAny_bind (wpAny_comp_letGo (cenv := { cenv with scope := relabel scope env }) hkind _ s'' m loc' hn fun h' _ _ sb => wpAny_pure (k h' sb))
end

/-! ### an object of the block is let go -/
theorem hide_ne {h : Heap} {C b : Addr} {o : Obj} (e : (PySem.W.hideAll h [C]).get? b = some o) : b ≠ C ∧ h.get? b = some o := by
  refine ⟨fun z => ?_, PySem.W.of_hideAll _ e⟩
  rw [PySem.W.hideAll_none [C] (by simp [z])] at e
  cases e
theorem hide_get {h : Heap} {C b : Addr} {o : Obj} (e : h.get? b = some o) (n : b ≠ C) : (PySem.W.hideAll h [C]).get? b = some o := PySem.W.hideAll_get _ e (by simpa using n)
theorem hide_non {h : Heap} {C b : Addr} (e : h.get? b = none) : (PySem.W.hideAll h [C]).get? b = none := by
  cases q : (PySem.W.hideAll h [C]).get? b with
  | none => rfl
  | some o => rw [(hide_ne q).2] at e; cases e
theorem frames_hide {B h h' : Heap} {C : Addr} (k : ∀ b o, b ≠ C → h.get? b = some o → h'.get? b = some o) : ∀ {l : List Env}, h.FunFrames B l → C ∉ frs l → h'.FunFrames (PySem.W.hideAll B [C]) l
  | [], _, _ => trivial
  | env :: l, x, n => by
    obtain ⟨hk, ⟨L, o, hf, hn, ho, hd⟩, hr⟩ := x
    have m : ∀ b, b ∈ frs l → b ∈ frs (env :: l) := fun b hb => by
      obtain ⟨e, he, q⟩ := List.mem_filterMap.mp hb
      exact List.mem_filterMap.mpr ⟨e, List.mem_cons_of_mem _ he, q⟩
    exact ⟨hk, ⟨L, o, hf, hide_non hn, k L o (fun z => n (z ▸ List.mem_filterMap.mpr ⟨env, List.mem_cons_self, hf⟩)) ho, hd⟩, frames_hide k hr fun z => n (m C z)⟩
theorem held_hide {B h h' : Heap} {l : List Env} {a C L : Addr} {Z : Obj → Prop} {oC : Obj} (x : PySem.HandSPX.HeldZ B l a Z L h) (hC : B.get? C = some oC) (nC : C ∉ frs l) (k : ∀ b o, b ≠ C → h.get? b = some o → h'.get? b = some o) :
    PySem.HandSPX.HeldZ (PySem.W.hideAll B [C]) l a Z L h' := by
  obtain ⟨st, na, ff, oe, vs, T, oT, ts, he, hz, hd, h1, hnT, hTe, hT, hdT, h3⟩ := x
  have ne : ∀ {b : Addr}, B.get? b = none → b ≠ C := fun {b} e z => by rw [z, hC] at e; cases e
  exact ⟨fun b o e => k b o (hide_ne e).1 (st b o (hide_ne e).2), hide_non na, frames_hide k ff nC, oe, vs, T, oT, ts, k a oe (ne na) he, hz, hd, h1, hide_non hnT, hTe, k T oT (ne hnT) hT, hdT, h3⟩
theorem held_pass {M : Model} {A : Around} {E : Value → Shared → Prop} {s : Shared} {B : Heap} {l : List Env} {a L : Addr} {Z : Obj → Prop} {env : Env} {w : String} {Q : Value → Shared → Prop} (x : PySem.HandSPX.HeldZ B l a Z L s.heap) (hf : env.frame = some L)
    (hE : ∀ h', PySem.HandSPX.HeldZ B l a Z L h' → s.heap.UpToSlots h' → E (.ref a) { s with heap := h' }) : wpAny M A (passOn w (.ref a) env : Sem Value) Q E s := by
  obtain ⟨oe, vs, T, oT, ts, he, hz, hd, h1, hnT, hTe, hT, hdT, h3⟩ := x.2.2.2
  unfold PySem.passOn
  refine wpAny_bind (wpAny_field he hd h1 ?_)
  rw [if_neg (show ¬ ((Value.ref T == Value.none) = true) from by simp)]
  rw [hf]
  exact wpAny_bind (PySem.HandSPX.setFlight_onZ x fun h' hh up => wpAny_throw (hE h' hh up))
section
variable {X : Cx} {pins : List (Addr × Obj)} {σ : L2.St} {H : Hp} {s s' : Shared} {W : WX}
/-- an exception over a ground that keeps what is tracked is in our air -/
theorem xe_over (I : Inv X pins σ H s) {a : Addr} {B : Heap} {H' : Hp} {cls : Value} {d : Option Addr} (st : B.StaysIn s'.heap) (sk : L2.Sky B X.stack a (L2N.Zn cls d) X.env.locals s'.heap) (hok : HOk X.prog X.w H' B)
    (ub : UB (frs X.stack) H H' s.heap B s'.heap) (na : H' a = none) (os : s'.os = s.os) (ag : AllBare s'.gens) (w : W cls d σ H') : L2N.XE X W (.ref a) s' := by
  obtain ⟨G, g1, g2⟩ := restrict s'.heap fun b => (B.get? b).isSome || decide (b ∈ frs X.stack)
  have inB : ∀ b o, B.get? b = some o → G.get? b = some o := fun b o e => (g1 b (by simp [e])).trans (st b o e)
  have inF : ∀ b, b ∈ frs X.stack → G.get? b = s'.heap.get? b := fun b hb => g1 b (by simp [hb])
  have out : ∀ b o, G.get? b = some o → s'.heap.get? b = some o ∧ (b ∉ frs X.stack → B.get? b = some o) := fun b o e => by
    by_cases q : ((B.get? b).isSome || decide (b ∈ frs X.stack)) = true
    · rw [g1 b q] at e
      refine ⟨e, fun hb => ?_⟩
      have z : (B.get? b).isSome = true := by simpa [hb] using q
      obtain ⟨o', q'⟩ := Option.isSome_iff_exists.mp z
      rw [st b o' q'] at e
      cases e
      exact q'
    · rw [g2 b (by simpa using q)] at e
      cases e
  have slot : ∀ b o, s.heap.get? b = some o → b ∈ frs X.stack → ∃ sl, G.get? b = some { o with slots := sl } := fun b o e hb => by
    obtain ⟨sl, q⟩ := ub.slot b o e hb
    exact ⟨sl, (inF b hb).trans q⟩
  have J : Inv X pins σ H' { s with heap := G, gens := s'.gens, drawn := s'.drawn, toks := s'.toks } := I.call (ch := []) ⟨fun b o e n hb _ => inB b o (ub.keep b o e n hb), fun b o e _ hb _ => slot b o e hb, fun b o e n _ => ub.free b o e n, fun b o e _ => by
    by_cases hb : b ∈ frs X.stack
    · obtain ⟨sl, q⟩ := slot b o e hb
      exact ⟨_, q⟩
    · obtain ⟨o', q⟩ := ub.there b o e hb
      exact ⟨o', inB b o' q⟩, ub.tups, ub.frzs, ub.tbls⟩ (hok.kept inB) ag (fun _ z => nomatch z)
  exact ⟨a, B, _, pins, σ, H', cls, d, rfl, J, fun b o e hb => (out b o e).2 hb, Heap.UpToSlots.of_keeps fun b o e => (out b o e).1, sk, na, os, ag, w⟩
end
section
variable {X : Cx} {pins : List (Addr × Obj)} {σ : L2.St} {H3 : Hp} {s3 : Shared} {E : XK}
/-- what a call within a comprehension's block lets out goes out of the comprehension -/
theorem blk_out {scope : Scope} {ce : Env} {fp : List Addr} {xe : Value → Shared → Prop} {use : Option (Value → Sem Unit)} {Qf : Value → Shared → Prop} {acc : Value} (hs : X.stack = X.env :: X.outer) (hf : X.env.frame = some X.env.locals)
    (cf : ce.frame = X.env.frame) (cL : ce.locals = s3.heap.objs.size) (I3 : Inv X pins σ H3 s3) (ffp : ∀ b ∈ fp, FpOk X pins H3 b) (tk : L2N.Takes X (fun cls d _ H => E cls d H))
    (hxe : xe = notedBy (model X.prog X.w) X.A ce (fun e s' => postX (model X.prog X.w) X.A X.xe use Qf acc ce (.error e) s')) : ∀ σB : L2.St, PassesAt (CXN X.prog X.w) ((X.blk s3 H3 scope ce fp).tr [] xe) σB E := by
  intro σB pinsB H s u s' IB c
  obtain ⟨a, B, H', cls, d, rfl, fl, hok, ub, na, os, ag, hE⟩ := c
  obtain ⟨m, ⟨oC, es, ep, hoC, rC⟩, _⟩ := IB.loc
  have hoC : s.heap.get? ce.locals = some oC := hoC
  have nC : H ce.locals = none := IB.free
  have hfr : X.A.frames = some (X.env :: X.outer) := by rw [I3.ok.frames, hs]
  have nF : ce.locals ∉ frs X.stack := fun hm => by
    have z := I3.stkSub _ hm
    rw [cL] at z
    rcases List.mem_cons.mp z with z | z
    · exact absurd I3.lt (by rw [← z]; exact Nat.lt_irrefl _)
    · exact I3.nofs (Nat.le_refl _) z
  have kB : B.get? ce.locals = some oC := ub.keep _ oC hoC nC nF
  have nC' : H' ce.locals = none := ub.free _ oC hoC nC
  have J : Inv X pins σ H s := I3.call' (ch := fp) IB.os IB.base IB.hok IB.bare fun b hb => ⟨(ffp b hb).2.2.2.1, (ffp b hb).2.1, (ffp b hb).2.2.2.2.1, (ffp b hb).2.2.2.2.2⟩
  have fC : FpOk X pins H ce.locals := I3.fpOk (by rw [cL]; exact Nat.le_refl _) nC
  have JX : Inv X pins σ H { s with heap := PySem.W.hideAll s.heap [ce.locals] } := J.turned (t' := s.toks) (fun b o hb e => hide_get e hb) fC.1 fC.2.1 fC.2.2.2.1 fC.2.2.2.2.1 fC.2.2.2.2.2
  have flX : PySem.HandSPX.FlyingZ B (X.env :: X.outer) a (L2N.Zn cls d) s'.heap := by
    have z : PySem.HandSPX.FlyingZ B X.stack a (L2N.Zn cls d) s'.heap := fl
    rw [hs] at z
    exact z
  show xe (.ref a) s'
  rw [hxe]
  show wpAny (model X.prog X.w) X.A (noteFrame (.ref a) ce) _ _ s'
  rw [noteFrame_eq cf]
  refine PXN.looks_onZ L2N.Zn.steady hfr hf flX fun h1 hh1 up1 => ?_
  refine ⟨m, ⟨oC, es, ep, hh1.1 _ oC kB, rC⟩, fun h2 sb => ?_⟩
  have k12 : ∀ b o, b ≠ ce.locals → h1.get? b = some o → h2.get? b = some o := fun b o hb e => (sb.2 b hb).trans e
  have nF1 : ce.locals ∉ frs (X.env :: X.outer) := by rw [← hs]; exact nF
  refine held_pass (held_hide hh1 kB nF1 k12) (cf.trans hf) fun h3 hh3 up3 => ?_
  refine tk _ _ (xe_over JX (B := PySem.W.hideAll B [ce.locals]) hh3.1 (.inr (.inr (by rw [hs]; exact hh3))) (fun b u e => (hok b u e).stay (fun c v hc q => hide_get q fun z => ?_) (fun _ q => q) fun _ _ q => q)
    ⟨fun b o e n hb => hide_get (ub.keep b o (hide_ne e).2 n hb) (hide_ne e).1, fun b o e hb => ?_, fun b o e n => ub.free b o (hide_ne e).2 n, fun b o e hb => ?_, ub.tups, ub.frzs, ub.tbls⟩ na os ag hE)
  · rcases hc with hc | hc
    · rw [← hc, z, nC'] at e; cases e
    · rw [z, nC'] at hc; cases hc
  · obtain ⟨_, o₀, e₀, hnf⟩ := J.stack.mem hb
    rw [(hide_ne e).2] at e₀
    cases e₀
    obtain ⟨sl1, q1⟩ := ub.slot b o (hide_ne e).2 hb
    obtain ⟨sl2, q2⟩ := up1 b _ q1 hnf
    obtain ⟨sl3, q3⟩ := up3 b _ (k12 b _ (hide_ne e).1 q2) hnf
    exact ⟨sl3, q3⟩
  · obtain ⟨o', q⟩ := ub.there b o (hide_ne e).2 hb
    exact ⟨o', hide_get q (hide_ne e).1⟩
end
section
variable {X : Cx} {E : XK} {elt tg iter : Expr} {ifs : List Expr} {scope : Scope} {own : List (Str × Nat)} {pos pos' : Pos} {wi : TI} {g : TG} {tt : TT} {te : TE}
/-- a block whose iterator's objects have moved and whose locals are as before -/
structure Turns (X : Cx) (s3 : Shared) (H3 : Hp) (scope : Scope) (ce : Env) (fp : List Addr) (xe : Value → Shared → Prop) (τ : L2.St) (tn : Nat → Heap → Prop) (W : Nat → Nat → Hp → Prop) (n i : Nat) (H : Hp) (s : Shared) : Prop where
  inv : Inv ((X.blk s3 H3 scope ce fp).tr [] xe) [] τ H s
  at_ : tn i s.heap
  non : ∀ b ∈ fp, H b = none
  has : W i n H
theorem lc_coreX {pins : List (Addr × Obj)} {s : Shared} {σ : L2.St} {H : Hp} {Q : VK} {use : Option (Value → Sem Unit)} {Qf : Value → Shared → Prop} (hst : X.stack = X.env :: X.outer) (hf : X.env.frame = some X.env.locals) (tk : L2N.Takes X (fun cls d _ H => E cls d H))
    (hc : X.calm = true) (hN : X.N.Nodup) (I : Inv X pins σ H s) (hi : PI X tg iter wi) (ok : BlkOk X.N X.env.scope scope own)
    (hg : ∀ (s : Shared) (H : Hp) (C : Addr) (cl : List (Str × Addr)) (fp : List Addr) (xe : Value → Shared → Prop), PG ((X.blk s H scope (compEnvC scope cl C X.env) fp).tr [] xe) tg g)
    (ht : ∀ (s : Shared) (H : Hp) (C : Addr) (cl : List (Str × Addr)) (fp : List Addr) (xe : Value → Shared → Prop), (∀ σ : L2.St, PassesAt (CXN X.prog X.w) ((X.blk s H scope (compEnvC scope cl C X.env) fp).tr [] xe) σ E) →
      PTs ((X.blk s H scope (compEnvC scope cl C X.env) fp).tr [] xe) ifs tt)
    (he : ∀ (s : Shared) (H : Hp) (C : Addr) (cl : List (Str × Addr)) (fp : List Addr) (xe : Value → Shared → Prop), (∀ σ : L2.St, PassesAt (CXN X.prog X.w) ((X.blk s H scope (compEnvC scope cl C X.env) fp).tr [] xe) σ E) →
      PE ((X.blk s H scope (compEnvC scope cl C X.env) fp).tr [] xe) elt te)
    (hs : ∀ x, foldedSetIterable iter X.env x = pure x) (h : tLc wi g tt te (own.map (·.2)) σ H Q)
    (hRR : ∀ D C s' m H', Inv X pins σ H' s' → Q (.ref D) H' → s'.heap.Ns C m → FpOk X pins H' C → compPost (model X.prog X.w) X.A X.xe use Qf (.ref D) C (.ok .next) s') :
    wpAny (model X.prog X.w) X.A (comprehension (.ListComp elt [⟨tg, iter, ifs, 0⟩] scope pos) scope X.env pos' (newList []) false (eval iter X.env) use) Qf X.xe s := by
  have hfree : ∀ y ∈ scope.names, y.2 = .free → ∃ c, X.env.cells.lookup y.1 = some c := fun y hy e => I.ok.has _ (ok.free y hy e)
  refine comp_run (use := use) rfl hs (closure_ok hfree) ok.kind (fun y hy e => by rw [ok.uniq y hy, e]) (thn (hi.run pins s σ H _ I h) fun xv s1 hx => thn hx fun itv s2 h2 => ?_)
  obtain ⟨it, fp, tn, J, H2, e, I2, T, st2, f2, q⟩ := h2
  subst e
  refine wpAny_newObj_type (newEnv_comp ?_) (by show 0 ≤ sizeLine; decide)
  generalize hD : s2.heap.objs.size = D
  obtain ⟨W, ⟨m0, w0⟩, turn⟩ := q D (I2.hok.fresh (Nat.le_of_eq hD))
  generalize hs3 : ({ s2 with heap := s2.heap.push { cls := .type "list", data := .seq ([] : List Value).toArray } } : Shared) = s3
  have h3 : s3.heap = s2.heap.push { cls := .type "list", data := .seq ([] : List Value).toArray } := by rw [← hs3]
  have k23 : ∀ b o, s2.heap.get? b = some o → s3.heap.get? b = some o := fun b o e => by rw [h3]; exact Heap.get?_push_of_some _ e
  have I3 : Inv X pins σ (upd H2 D (.lst [])) s3 := by
    rw [← hs3]
    refine I2.laid (t' := s2.toks) (fun b o e => Heap.get?_push_of_some _ e) (Nat.le_of_eq hD) ⟨Nat.zero_le _, [], 0, .nil, ?_⟩
    rw [← hD]
    exact Heap.get?_push_size _ rfl
  have f3 : ∀ b ∈ fp, FpOk X pins (upd H2 D (.lst [])) b ∧ b < s3.heap.objs.size := fun b hb => by
    obtain ⟨o, e, _⟩ := T.obj _ _ st2 b hb
    have lt := Heap.lt_size e
    refine ⟨⟨?_, (f2 b hb).2⟩, Heap.lt_size (k23 b o e)⟩
    rw [upd_ne (by rw [← hD]; exact Nat.ne_of_lt lt)]
    exact (f2 b hb).1
  generalize hce : compEnvC scope (cellsFrom (s3.heap.objs.size + 1) scope.names (cloFrom X.env.cells scope.names [])) s3.heap.objs.size X.env = ce
  have cL : ce.locals = s3.heap.objs.size := by subst hce; rfl
  have cf : ce.frame = X.env.frame := by subst hce; rfl
  have I4 := block_start I3 ok hN f3
  rw [hce] at I4
  show codeAny _ _ (.compStart (.ListComp elt [⟨tg, iter, ifs, 0⟩] scope pos) 0 (.ref it) (.ref D) (compEnvC scope (cellsFrom (s3.heap.objs.size + 1) scope.names (cloFrom X.env.cells scope.names [])) s3.heap.objs.size X.env))
    (postX (model X.prog X.w) X.A X.xe use Qf (.ref D) (compEnvC scope (cellsFrom (s3.heap.objs.size + 1) scope.names (cloFrom X.env.cells scope.names [])) s3.heap.objs.size X.env)) { s3 with heap := pushCells (s3.heap.push { cls := .type "dict", data := .dict #[] }) scope.names }
  rw [hce]
  generalize hxe : notedBy (model X.prog X.w) X.A ce (fun e s' => postX (model X.prog X.w) X.A X.xe use Qf (.ref D) ce (.error e) s') = xe
  generalize hH3 : upd H2 D (.lst []) = H3 at I3 I4 w0 f3
  have pass := blk_out (scope := scope) (ce := ce) (fp := fp) (use := use) (Qf := Qf) (acc := .ref D) hst hf cf cL I3 (fun b hb => (f3 b hb).1) tk hxe.symm
  have pg := hg s3 H3 s3.heap.objs.size (cellsFrom (s3.heap.objs.size + 1) scope.names (cloFrom X.env.cells scope.names [])) fp xe
  have pt := ht s3 H3 s3.heap.objs.size (cellsFrom (s3.heap.objs.size + 1) scope.names (cloFrom X.env.cells scope.names [])) fp xe
  have pe := he s3 H3 s3.heap.objs.size (cellsFrom (s3.heap.objs.size + 1) scope.names (cloFrom X.env.cells scope.names [])) fp xe
  rw [hce] at pg pt pe
  have pe := pe pass
  have pt := pt pass
  have I5 : Inv ((X.blk s3 H3 scope ce fp).tr [] xe) [] (wipe σ (own.map (·.2))) H3 { s3 with heap := pushCells (s3.heap.push { cls := .type "dict", data := .dict #[] }) scope.names } := I4.toTry xe
  have st5 : tn 0 (pushCells (s3.heap.push { cls := .type "dict", data := .dict #[] }) scope.names) := T.keep _ _ _ st2 fun b _ o e => pushCells_keeps _ _ _ _ (Heap.get?_push_of_some _ (k23 b o e))
  have fps : ∀ {σ' : L2.St} {H' : Hp} {s' : Shared}, Inv ((X.blk s3 H3 scope ce fp).tr [] xe) [] σ' H' s' → (∀ b ∈ fp, H' b = none) → ∀ b ∈ fp, FpOk ((X.blk s3 H3 scope ce fp).tr [] xe) [] H' b := fun {σ' H' s'} I' hn b hb =>
    ⟨hn b hb, (I'.ok.exf b hb).1, I'.ok.exfs b hb, .inl hb, (I'.ok.exf b hb).2, fun p hp => absurd (show p ∈ ([] : List (Addr × Obj)) ++ [] from hp) (by simp)⟩
  have loop : codeAny (model X.prog X.w) X.A (.compLoop (.ListComp elt [⟨tg, iter, ifs, 0⟩] scope pos) 0 (.ref it) (.ref D) ce) (postX (model X.prog X.w) X.A X.xe use Qf (.ref D) ce)
      { s3 with heap := pushCells (s3.heap.push { cls := .type "dict", data := .dict #[] }) scope.names } := by
    refine compLoop_any (fun n s' => ∃ i H', Turns X s3 H3 scope ce fp xe (wipe σ (own.map (·.2))) tn W n i H' s') ?_ m0 ⟨0, H3, I5, st5, fun b hb => (f3 b hb).1.1, w0⟩
    rw [hxe]
    rintro n s6 ⟨i, H6, t6⟩
    rcases turn i n H6 t6.has with ⟨stop, qq⟩ | ⟨go, Nx, hNx, step⟩
    · refine thn (T.done ((X.blk s3 H3 scope ce fp).tr [] xe) rfl rfl rfl hc i [] s6 _ H6 xe t6.inv (fps t6.inv t6.non) t6.at_ stop) fun r s7 ⟨hr, I7⟩ => ?_
      subst hr
      have back : Inv X pins σ H6 s7 := I3.call' (ch := fp) I7.os I7.base I7.hok I7.bare fun b hb => ⟨(f3 b hb).1.2.2.2.1, (f3 b hb).1.2.1, (f3 b hb).1.2.2.2.2.1, (f3 b hb).1.2.2.2.2.2⟩
      obtain ⟨m, hn, _⟩ := I7.loc
      exact hRR D ce.locals s7 m H6 back qq hn (I3.fpOk (by rw [cL]; exact Nat.le_refl _) I7.free)
    · refine thn (T.item ((X.blk s3 H3 scope ce fp).tr [] xe) rfl rfl rfl hc i [] s6 _ H6 xe t6.inv (fps t6.inv t6.non) t6.at_ go) fun r s7 ⟨u, hr, h7⟩ => ?_
      subst hr
      refine thn h7 fun _ s8 ⟨x, H8, I8, r8, y8, st8, n8⟩ => ?_
      have I8' := I8.pinned (fps I8 n8) (T.obj _ _ st8)
      refine thn (pg.run _ s8 _ H8 x u _ I8' r8 (step x H8 y8)) fun _ s9 ⟨σ9, H9, I9, hw, q9⟩ => ?_
      refine thn (pt.run _ s9 σ9 H9 _ I9 q9) fun b s10 ⟨H10, I10, q10⟩ => ?_
      have next : ∀ {s' : Shared} {H' : Hp}, Inv ((X.blk s3 H3 scope ce fp).tr [] xe) ([] ++ pinsAt fp s8.heap) σ9 H' s' → Nx H' → ∃ m, m < n ∧ ∃ i H', Turns X s3 H3 scope ce fp xe (wipe σ (own.map (·.2))) tn W m i H' s' := fun {s' H'} I' nx => by
        obtain ⟨m', hm, w'⟩ := hNx H' nx
        have kept : ∀ b ∈ fp, ∀ o, s8.heap.get? b = some o → s'.heap.get? b = some o ∧ H' b = none := fun b hb o e =>
          have z := I'.pin (b, o) (List.mem_append_right _ (List.mem_append_right _ (mem_pinsAt hb e)))
          ⟨z.1, z.2.1⟩
        refine ⟨m', hm, i + 1, H', (I'.unpinned (pins := [])).weak (by rw [← hw, wipe_length]) (fun j v e => (wipe_some (by rw [hw]; exact e)).1), T.keep _ _ _ st8 fun b hb o e => (kept b hb o e).1, fun b hb => ?_, w'⟩
        obtain ⟨o, e, _⟩ := T.obj _ _ st8 b hb
        exact (kept b hb o e).2
      cases b with
      | false =>
        simp only [Bool.false_eq_true, if_false] at q10 ⊢
        exact next I10 q10
      | true =>
        simp only [if_true] at q10 ⊢
        refine thn (pe.run _ s10 σ9 H10 _ I10 q10) fun z s11 ⟨yv, H11, I11, r11, acc, hD11, hz, nx⟩ => ?_
        exact app_ok (X := (X.blk s3 H3 scope ce fp).tr [] xe) I11 hD11 hz r11 fun s12 I12 => next I12 nx
  exact codeAny_compStart_list loop (T.self X.A 0 _ _ _ st5 loop)
theorem pe_lcX (hst : X.stack = X.env :: X.outer) (hf : X.env.frame = some X.env.locals) (tk : L2N.Takes X (fun cls d _ H => E cls d H)) (hc : X.calm = true) (hN : X.N.Nodup) (hi : PI X tg iter wi) (ok : BlkOk X.N X.env.scope scope own)
    (hg : ∀ (s : Shared) (H : Hp) (C : Addr) (cl : List (Str × Addr)) (fp : List Addr) (xe : Value → Shared → Prop), PG ((X.blk s H scope (compEnvC scope cl C X.env) fp).tr [] xe) tg g)
    (ht : ∀ (s : Shared) (H : Hp) (C : Addr) (cl : List (Str × Addr)) (fp : List Addr) (xe : Value → Shared → Prop), (∀ σ : L2.St, PassesAt (CXN X.prog X.w) ((X.blk s H scope (compEnvC scope cl C X.env) fp).tr [] xe) σ E) →
      PTs ((X.blk s H scope (compEnvC scope cl C X.env) fp).tr [] xe) ifs tt)
    (he : ∀ (s : Shared) (H : Hp) (C : Addr) (cl : List (Str × Addr)) (fp : List Addr) (xe : Value → Shared → Prop), (∀ σ : L2.St, PassesAt (CXN X.prog X.w) ((X.blk s H scope (compEnvC scope cl C X.env) fp).tr [] xe) σ E) →
      PE ((X.blk s H scope (compEnvC scope cl C X.env) fp).tr [] xe) elt te)
    (hs : ∀ x, foldedSetIterable iter X.env x = pure x := by intro _; rfl) : PE X (.ListComp elt [⟨tg, iter, ifs, 0⟩] scope pos) (tLc wi g tt te (own.map (·.2))) := by
  refine ⟨fun pins s σ H Q I h => ?_⟩
  rw [eval_ListComp]
  refine lc_coreX hst hf tk hc hN I hi ok hg ht he hs h fun D C s' m H' J q hn f => ⟨m, hn, fun h' sb => ?_⟩
  exact ⟨.ref D, H', J.turned (t' := s'.toks) (fun b o hb e => (sb.2 b hb).trans e) f.1 f.2.1 f.2.2.2.1 f.2.2.2.2.1 f.2.2.2.2.2, rfl, q⟩
/-- name = [..] on one line, the name a local -/
theorem ps_setLcX {i : Nat} {y : Str} {py spos : Pos} (hst : X.stack = X.env :: X.outer) (hf : X.env.frame = some X.env.locals) (tk : L2N.Takes X (fun cls d _ H => E cls d H)) (hc : X.calm = true) (hN : X.N.Nodup) (hy : X.N[i]? = some y) (hyl : X.env.scope.names.lookup y = some .local)
    (hsw : swapsWith (.ListComp elt [⟨tg, iter, ifs, 0⟩] scope pos) (some (.Name y py)) spos.line X.env = pure true) (hi : PI X tg iter wi) (ok : BlkOk X.N X.env.scope scope own)
    (hg : ∀ (s : Shared) (H : Hp) (C : Addr) (cl : List (Str × Addr)) (fp : List Addr) (xe : Value → Shared → Prop), PG ((X.blk s H scope (compEnvC scope cl C X.env) fp).tr [] xe) tg g)
    (ht : ∀ (s : Shared) (H : Hp) (C : Addr) (cl : List (Str × Addr)) (fp : List Addr) (xe : Value → Shared → Prop), (∀ σ : L2.St, PassesAt (CXN X.prog X.w) ((X.blk s H scope (compEnvC scope cl C X.env) fp).tr [] xe) σ E) →
      PTs ((X.blk s H scope (compEnvC scope cl C X.env) fp).tr [] xe) ifs tt)
    (he : ∀ (s : Shared) (H : Hp) (C : Addr) (cl : List (Str × Addr)) (fp : List Addr) (xe : Value → Shared → Prop), (∀ σ : L2.St, PassesAt (CXN X.prog X.w) ((X.blk s H scope (compEnvC scope cl C X.env) fp).tr [] xe) σ E) →
      PE ((X.blk s H scope (compEnvC scope cl C X.env) fp).tr [] xe) elt te)
    (hs : ∀ x, foldedSetIterable iter X.env x = pure x := by intro _; rfl) : PS X (.Assign [.Name y py] (.ListComp elt [⟨tg, iter, ifs, 0⟩] scope pos) spos) (tAsg (tLc wi g tt te (own.map (·.2))) (gName i)) := by
  refine ⟨fun pins s σ H D I h => ?_⟩
  rw [exec_Assign_Name_used _ _ _ _ hsw]
  refine wpAny_bind (wpAny_standAt (wpAny_bind ?_))
  show wpAny _ X.A (do let _ ← comprehension (.ListComp elt [⟨tg, iter, ifs, 0⟩] scope pos) scope X.env (firstIterPos [⟨tg, iter, ifs, 0⟩] pos) (newList []) false (eval iter X.env) (some (assign (.Name y py) X.env))) _ _ s
  have h : tLc wi g tt te (own.map (·.2)) σ H (fun x H1 => gName i x σ H1 D.nx) := h
  refine wpAny_bind (thn (lc_coreX (Qf := fun _ s' => SP X pins D .next s') hst hf tk hc hN I hi ok hg ht he hs h fun L C s' m H' J q hn f => ?_) fun _ _ hq => wpAny_pure (wpAny_pure hq))
  show wpAny _ _ (assign (.Name y py) X.env (.ref L)) _ _ _
  refine wpAny_assign_Name (store_ok2 (v := V.ref L) J hN hy (.inl hyl) rfl (fun s2 J2 ⟨a, sb, ha⟩ => ?_) (.inr hyl))
  have away : C ≠ a := ha.elim (fun z => z ▸ f.2.1) fun z e => f.2.2.2.2.1 y a z e.symm
  exact ⟨m, hn.sameBut sb away, fun h' sb' => ⟨_, H', J2.turned (t' := s2.toks) (fun b o hb e => (sb'.2 b hb).trans e) f.1 f.2.1 f.2.2.2.1 f.2.2.2.2.1 f.2.2.2.2.2, q⟩⟩
end
/-! ### calls within such a block -/
section
variable {X : Cx} {E : XK} {k j : Nat} {C : Addr} {x m : Str} {sp : Sp} {p pos apos : Pos} {e o : Expr} {es : List Expr} {ta : TE} {t : TA}
theorem pe_cxB (c : CalX X.prog X.w X.K X.mg X.base k x sp) (hr : Room j X.A) (hk : k ≤ j) (hx : ∀ σ : L2.St, PassesAt (CXN X.prog X.w) X σ E) (hg : Gl X x) (ha : PA X (e :: es) t)
    (hdb : (x == ("__debug__" : Str)) = false := by decide) (he : starEach (e :: es) X.env = (false, eval e X.env) :: starEach es X.env := by rfl) (hpl : (backTo pos (starEach es X.env)).any (·.1) = false := by rfl) :
    PE X (.Call (.Name x p) (e :: es) [] pos) (tCallS sp (fun _ => E) t) := by
  obtain ⟨f, fd, ps, F, hm, kp, b⟩ := c.ex
  exact pe_callS F (hr.mono hk) hg hm kp b hx ha hdb he hpl
end
end RJ
end

section
set_option maxRecDepth 100000
set_option maxHeartbeats 2000000
namespace RJ
open PySem PySem.Spec PyProof.Rows L2
section
variable {X : Cx} {E : XK} {k j : Nat} {C : Addr} {m : Str} {sp : Sp} {p pos apos : Pos} {e o : Expr} {es : List Expr} {ta : TE} {t : TA}
/-- a method that may raise, within a comprehension's block -/
theorem pe_mxB {pl : Sem Bool} (c : MetX X.prog X.w X.K X.mg X.base k C m sp) (hr : Room j X.A) (hk : k ≤ j) (hx : ∀ σ : L2.St, PassesAt (CXN X.prog X.w) X σ E) (he : PE X o ta) (ha : PA X (e :: es) t)
    (hst : starEach (e :: es) X.env = (false, eval e X.env) :: starEach es X.env := by rfl) (hpl : (backTo pos (starEach es X.env)).any (·.1) = false := by rfl)
    (ht : eval (.Call (.Attribute o m apos) (e :: es) [] pos) X.env = (do
      let ov ← eval o X.env
      standAt apos.atName
      let (f, first) ← holding [ov] (getMethod ov m pl)
      callWith pos f first (backTo pos (starEach (e :: es) X.env)) (backToKw pos (keywordEach [] X.env))) := by rfl) :
    PE X (.Call (.Attribute o m apos) (e :: es) [] pos) (tMethX C m sp (fun _ => E) ta t) := by
  obtain ⟨f, fd, ps, hc, hm, F, b⟩ := c.ex
  refine ⟨fun pins s σ H Q I h => ?_⟩
  refine PySem.W.methodCall_KW (pl := pl) (thn (he.run pins s σ H _ I h) fun u s1 ⟨x, H1, I1, rx, a, dx, fs, ex, ea, l, q⟩ => ?_) ht
  subst ex
  obtain rfl : u = Value.ref a := rx
  refine getmeth_ok I1 ea hc hm l ?_
  refine PySem.W.callWith_K (first := [.ref a]) (h₀ := X.base) I.ok.mod.kin hm.kp (thn (ha.run pos pins s1 σ H1 _ I1 q) fun us s2 ⟨vs, H2, I2, r, q2⟩ => ⟨I2.kIn, ?_⟩) hst hpl
  exact run_fnS (E := fun _ => E) (us := .ref a :: us) (vs := .ref a :: vs) F (hr.mono hk) b (hx σ) I2 (.cons rfl r) q2
end
end RJ
end

section
set_option maxRecDepth 100000
set_option maxHeartbeats 4000000
namespace PySem
/-- enumerate(v), whatever the iterator of v is -/
theorem rj_new_en {prog : Program} {w : World} (v : Value) : MeetsIn prog w (Builtin.«enumerate.__new__» ⟨[.type "enumerate", v], []⟩)
    (fun A R s => wpAny (model prog w) A.in1 (pyIter v) (fun itv s1 => R (.ok (.ret (.ref s1.heap.objs.size))) { s1 with heap := s1.heap.push { cls := .type "enumerate", data := .fields #[.none, .bool false, itv, rawInt 0, .none, .none] } }) (fun e s1 => R (.error e) s1) s) :=
  .of_wp fun A R s h => by
    have sub := sub_enumerate
    have it : ∀ {Q : Value → Shared → Prop}, (∀ itv s1, R (.ok (.ret (.ref s1.heap.objs.size))) { s1 with heap := s1.heap.push { cls := .type "enumerate", data := .fields #[.none, .bool false, itv, rawInt 0, .none, .none] } } → Q itv s1) → wpAny (model prog w) A.in1 (pyIter v) Q (fun e s1 => R (.error e) s1) s := fun q => wpAny_mono h q fun _ _ z => z
    wp_walk using it
    refine wpAny_stack_any fun _ => wpAny_pure ?_
    split
    · rename_i c _ _ _ _ _
      cases (c == Value.type "enumerate") <;> (wp_walk using it; intro itv s1 hR; wp_walk; exact ⟨_, rfl, hR⟩)
    · wp_walk using it
      intro itv s1 hR
      wp_walk
      exact ⟨_, rfl, hR⟩
end PySem
namespace PySem
section
variable {prog : Program} {w : World} {A : Around} {E : Value → Shared → Prop} {s : Shared}
theorem rj_call_en {v : Value} {Q : Value → Shared → Prop}
    (hx : wpAny (model prog w) A.in1.in1 (pyIter v) (fun itv s1 => ∀ h', h'.get? s1.heap.objs.size = some { cls := .type "enumerate", data := .fields #[.none, .bool false, itv, rawInt 0, .none, .none] } → h'.objs.size = s1.heap.objs.size + 1 →
      (∀ c o, s1.heap.get? c = some o → h'.get? c = some o) → Q (.ref s1.heap.objs.size) { s1 with heap := h' }) E s) : wpAny (model prog w) A (call (.type "enumerate") [v]) Q E s := by
  refine callType_newIn F.called_enumerate (by decide) (F.typeCall_enumerate_1 v) (F.newCall_enumerate_1 v) (fun obj => F.args_object_init_2 obj _) F.entry_enumerate_new (rj_new_en v) ?_
  show wpAny (model prog w) A.in1.in1 (pyIter v) _ _ _
  refine wpAny_mono hx (fun itv s1 h => ?_) fun _ _ z => z
  have gm : (s1.heap.push { cls := .type "enumerate", data := .fields #[.none, .bool false, itv, rawInt 0, .none, .none] }).get? s1.heap.objs.size = some { cls := .type "enumerate", data := .fields #[.none, .bool false, itv, rawInt 0, .none, .none] } := Heap.get?_push_size _ rfl
  show _ ∧ _
  exact ⟨⟨_, gm, rfl⟩, h _ gm (Heap.size_push ..) fun c o e => Heap.get?_push_of_some _ e⟩
/-- a tuple's iterator that has ended -/
def EndedT (h : Heap) (a : Addr) (i : Nat) : Prop := ∃ o, h.get? a = some o ∧ o.cls = .type "tuple_iterator" ∧ o.data = .fields #[.none, .int i 0]
theorem rj_tuple_end {it t : Addr} {i : Nat} {items : Array Value} {Q : Value → Shared → Prop} (hh : A.handled = none) (hit : s.heap.IsTupleIter it t i) (ht : s.heap.IsTuple t items) (hx : items[i]? = none)
    (hE : ∀ h' e, Heap.ExtBut it s.heap h' → EndedT h' it i → (∃ o, h'.get? e = some o ∧ o.cls = .type "StopIteration") → E (.ref e) { s with heap := h' }) : wpAny (model prog w) A (Builtin.SmallTypes.nextOf (.ref it)) Q E s := by
  obtain ⟨o, ho, hc, hd⟩ := id hit
  obtain ⟨ol, hol, _, nl, hdl⟩ := ht
  unfold Builtin.SmallTypes.nextOf
  refine wpAny_bind (wpAny_callSpecial?_slot (name := Str.ofString "__next__") hit.typeIs F.slot_tuple_iterator_next
    (wpAny_call_entry F.slot_tuple_iterator_next hit.typeIs F.entry_tuple_iterator_next ?_ (F.args_tuple_iterator_next_1 _)))
  show wpAny _ _ (field (.ref it) 0 >>= _) _ _ s
  refine wpAny_bind (wpAny_field ho hd (x := .ref t) rfl ?_)
  show wpAny _ _ (if (Value.ref t == Value.none) = true then _ else _) _ _ s
  rw [if_neg (show ¬ ((Value.ref t == Value.none) = true) from Bool.false_ne_true)]
  show wpAny _ _ (field (.ref it) 1 >>= _) _ _ s
  refine wpAny_bind (wpAny_field ho hd (x := .int i 0) rfl ?_)
  show wpAny _ _ (seqItems? (.ref t) >>= _) _ _ s
  refine wpAny_bind (wpAny_seqItems hol hdl ?_)
  simp only [Int.toNat_natCast, hx]
  refine wpAny_bind (wpAny_rule (wpAny_bind (wpAny_setField ho hd (by simp) ?_)))
  show wpAny _ _ (newExc (.type "StopIteration") [] >>= _) _ _ _
  refine wpAny_bind ?_
  simp only [newExc, newTuple]
  refine wpAny_bind (wpAny_newObj_type ?_ (by size_fits))
  refine wpAny_bind (m := firstArgMember _ _) (wpAny_of_eq (a := Value.none) (by first | rfl | (simp only [firstArgMember]; rfl)) ?_)
  refine wpAny_newObj_type ?_ (by size_fits)
  simp only [raiseNew]
  refine wpAny_bind (wpAny_handled ?_)
  first | rw [show A.in1.handled = none from hh] | rw [hh]
  refine wpAny_bind (wpAny_pure (wpAny_throw ?_))
  exact hE _ _ (((Heap.SameBut.update ..).extBut.push _).push _) ⟨_, Heap.get?_push_of_some _ (Heap.get?_push_of_some _ (Heap.get?_update_self _ ho (Obj.isFreed_of_fields (Obj.data_mapFields hd _)))), (Obj.cls_mapFields ..).trans hc, by
    rw [Obj.data_mapFields hd]; simp⟩ ⟨_, Heap.get?_push_size _ rfl, rfl⟩
theorem rj_tuple_ended {it : Addr} {i : Nat} {Q : Value → Shared → Prop} (hh : A.handled = none) (hit : EndedT s.heap it i)
    (hE : ∀ h' e, (∀ b o, s.heap.get? b = some o → h'.get? b = some o) → (∃ o, h'.get? e = some o ∧ o.cls = .type "StopIteration") → E (.ref e) { s with heap := h' }) : wpAny (model prog w) A (Builtin.SmallTypes.nextOf (.ref it)) Q E s := by
  obtain ⟨o, ho, hc, hd⟩ := id hit
  have hT : s.TypeIs (.ref it) "tuple_iterator" := ⟨o, ho, hc⟩
  unfold Builtin.SmallTypes.nextOf
  refine wpAny_bind (wpAny_callSpecial?_slot (name := Str.ofString "__next__") hT F.slot_tuple_iterator_next
    (wpAny_call_entry F.slot_tuple_iterator_next hT F.entry_tuple_iterator_next ?_ (F.args_tuple_iterator_next_1 _)))
  show wpAny _ _ (field (.ref it) 0 >>= _) _ _ s
  refine wpAny_bind (wpAny_field ho hd (x := .none) rfl ?_)
  show wpAny _ _ (if (Value.none == Value.none) = true then _ else _) _ _ s
  rw [if_pos (show ((Value.none == Value.none) = true) from rfl)]
  refine wpAny_bind (wpAny_rule (wpAny_bind ?_))
  show wpAny _ _ (newExc (.type "StopIteration") [] >>= _) _ _ _
  refine wpAny_bind ?_
  simp only [newExc, newTuple]
  refine wpAny_bind (wpAny_newObj_type ?_ (by size_fits))
  refine wpAny_bind (m := firstArgMember _ _) (wpAny_of_eq (a := Value.none) (by first | rfl | (simp only [firstArgMember]; rfl)) ?_)
  refine wpAny_newObj_type ?_ (by size_fits)
  simp only [raiseNew]
  refine wpAny_bind (wpAny_handled ?_)
  first | rw [show A.in1.handled = none from hh] | rw [hh]
  refine wpAny_bind (wpAny_pure (wpAny_throw ?_))
  exact hE _ _ (fun b o e => Heap.get?_push_of_some _ (Heap.get?_push_of_some _ e)) ⟨_, Heap.get?_push_size _ rfl, rfl⟩
theorem rj_enum_end {e it : Addr} {i : Int} {old : Value} {G : Heap → Prop} {Q : Option Value → Shared → Prop} (he : IsEnum s.heap e it i old)
    (hn : ∀ (Q E : Value → Shared → Prop), (∀ h' x, G h' → (∃ o, h'.get? x = some o ∧ o.cls = .type "StopIteration") → E (.ref x) { s with heap := h' }) → wpAny (model prog w) A.in1 (Builtin.SmallTypes.nextOf (.ref it)) Q E s)
    (hQ : ∀ h', G h' → Q none { s with heap := h' }) : wpAny (model prog w) A (pyNext (.ref e)) Q E s := by
  have hT : s.TypeIs (.ref e) "enumerate" := ⟨_, he, rfl⟩
  unfold pyNext
  refine wpAny_bind (wpAny_attempt (wpAny_callSpecial?_slot (name := Str.ofString "__next__") hT F.slot_enumerate_next
    (wpAny_call_entry F.slot_enumerate_next hT F.entry_enumerate_next ?_ (F.args_enumerate_next_1 _))))
  show wpAny _ _ (field (.ref e) 2 >>= _) _ _ _
  refine wpAny_bind (wpAny_field he rfl (x := .ref it) rfl ?_)
  refine wpAny_bind (hn _ _ fun h' x he' hx' => ?_)
  obtain ⟨o, ho, hc⟩ := hx'
  refine wpAny_bind (wpAny_isInstance (T := "StopIteration") (b := true) ⟨o, ho, hc⟩ isSubtype_stop ?_)
  exact wpAny_pure (hQ _ he')
end
end PySem
namespace PySem
section
variable {prog : Program} {w : World} {A : Around} {E : Value → Shared → Prop} {s : Shared}
theorem rj_call_iterT {l : Addr} {items : Array Value} {Q : Value → Shared → Prop} (hl : s.heap.IsTuple l items) (h : Q (.ref s.heap.objs.size) { s with heap := s.heap.push { cls := .type "tuple_iterator", data := .fields #[.ref l, .int 0 0] } }) : wpAny (model prog w) A (call (.builtin "iter") [.ref l]) Q E s := by
  refine Calls.call_function_entry (by decide +kernel) (by decide +kernel) PySem.W.kdk_entry_iter (PySem.W.kdk_args_iter _) ?_
  unfold Builtin.«iter»
  refine wpAny_bind (m := someArgs "iter" 1 2 _) (wpAny_of_eq (a := [Value.ref l]) (by first | rfl | kernel_rfl!) ?_)
  show wpAny _ _ (pyIter (.ref l) >>= _) _ _ _
  refine wpAny_bind (wpAny_pyIter_tuple hl ?_)
  exact wpAny_pure ⟨_, rfl, h⟩
end
end PySem
namespace RJ
open PySem PySem.Spec PyProof.Rows L2
/-! ### the walk over an own object that gives a tuple's iterator, by enumerate -/
/-- an iterator of the tuple at t, of n items, that has given i -/
def TupI (it t : Addr) (n i : Nat) : HO := .ext fun h => h.IsTupleIter it t i ∨ (n ≤ i ∧ EndedT h it i)
theorem tupI_ok {P : Program} {w : World} {H : Hp} {h : Heap} {it t : Addr} {n i : Nat} (e : h.IsTupleIter it t i ∨ (n ≤ i ∧ EndedT h it i)) : ObjOk P w H h it (TupI it t n i) := by
  refine ⟨e, ?_, fun h1 h2 q k => ?_⟩
  · rcases e with ⟨o, ho, _⟩ | ⟨_, o, ho, _⟩
    · exact ⟨o, ho⟩
    · exact ⟨o, ho⟩
  · rcases q with ⟨o, ho, r⟩ | ⟨l, o, ho, r⟩
    · exact .inl ⟨o, k _ ho, r⟩
    · exact .inr ⟨l, o, k _ ho, r⟩
/-- iter(t), t a tuple -/
def rIterT : List V → Hp → VK → Prop := fun xs H Q => ∃ (l : Addr) (zs : List V), xs = [.ref l] ∧ H l = some (.tup zs) ∧ ∀ it, H it = none → Q (.ref it) (upd H it (TupI it l zs.length 0))
theorem call_iterT {X : Cx} : CallR X (.builtin "iter") rIterT := by
  intro pins s σ H xs us Q I r h
  obtain ⟨l, zs, rfl, hq, q⟩ := h
  obtain rfl := Vals.ref1 r
  obtain ⟨its, rv, pl, hz⟩ := I.tuple (SqT.of hq)
  refine rj_call_iterT pl ?_
  exact ⟨.ref s.heap.objs.size, _, I.laid (t' := s.toks) (fun b u e => Heap.get?_push_of_some _ e) (Nat.le_refl _) (tupI_ok (.inl ⟨_, Heap.get?_push_size _ rfl, rfl, rfl⟩)), rfl, q _ (I.hok.fresh (Nat.le_refl _))⟩
/-- each turn gives a new tuple (its number, the item) -/
def ItEO (it0 pa : Addr) (xs : List V) : It :=
  ⟨fun i H => H pa = some (.tup xs) ∧ H it0 = some (TupI it0 pa xs.length i) ∧ i < xs.length,
   fun i H v H' => ∃ T x, v = .ref T ∧ H T = none ∧ xs[i]? = some x ∧ H' = upd (upd H it0 (TupI it0 pa xs.length (i + 1))) T (.tup [.int (i : Nat), x]),
   fun i H => H pa = some (.tup xs) ∧ H it0 = some (TupI it0 pa xs.length i) ∧ i = xs.length⟩
def EnumO (e it0 : Addr) (i : Nat) (h : Heap) : Prop := (∃ old, IsEnum h e it0 ((i : Nat) : Int) old) ∧ e ≠ it0
theorem turn_enumO {P : Program} {w : World} {K : PySem.W.Frag} {elts : List Expr} {kk : Nat} {tpos : Pos} {e it0 pa : Addr} {xs : List V} : Turn P w K (.Tuple elts kk tpos) (ItEO it0 pa xs) [e] e (EnumO e it0) where
  mem := List.mem_cons_self ..
  obj := fun i h ⟨⟨_, a⟩, _⟩ b hb => by rw [List.mem_singleton.mp hb]; exact ⟨_, a, fun _ q => nomatch q⟩
  keep := fun i h h' ⟨⟨old, a⟩, n⟩ k => ⟨⟨old, k e (by simp) _ a⟩, n⟩
  item := by
    rintro X hP hw hK hc i pins s σ H E I hf ⟨⟨old, he⟩, hne⟩ ⟨hpa, hit, hlt⟩
    subst hP hw hK
    have hfe := hf e (by simp)
    have hne2 : pa ≠ it0 := fun z => by rw [z, hit] at hpa; cases hpa
    obtain ⟨its, rv, p, _⟩ := I.tuple (SqT.of hpa)
    have hl := rv.length
    have esz : its.toArray.size = xs.length := by simp [hl]
    have DD := Draws.tuple (prog := X.prog) (w := X.w) (A := X.A.in1) (I.ok.hd hc) it0 pa hne2 its.toArray
    rw [esz] at DD
    have hex : s.heap.IsTupleIter it0 pa i := by
      rcases (I.hok it0 _ hit).1 with q | ⟨q, _⟩
      · exact q
      · omega
    have apart : e ∉ [it0, pa] := fun z => by
      rcases List.mem_cons.mp z with z | z
      · exact hne z
      · rw [← List.mem_singleton.mp z, hfe.1] at hpa; cases hpa
    refine wpAny_pyNext_enum_itemC DD he ⟨hex, p⟩ hlt hne apart fun u h' tk hu ho j1 hT _ hk => ⟨_, rfl, ?_⟩
    obtain ⟨x, hx, ru⟩ : ∃ x, xs[i]? = some x ∧ RelV x u := by
      have q' : its[i]? = some u := by simpa using hu
      obtain ⟨u', hu', ru⟩ := rv.get (List.getElem?_eq_getElem hlt)
      rw [q'] at hu'
      cases hu'
      exact ⟨_, List.getElem?_eq_getElem hlt, ru⟩
    refine wpAny_letOwnedTupleGo_enum (s := { s with heap := h', toks := tk + 1 }) ho fun g zg sg => ?_
    have on : ∀ {c : Addr} {o : Obj}, c ≠ e → h'.get? c = some o → g.get? c = some o := fun n a => (sg.2 _ n).trans a
    have elt : e < s.heap.objs.size := Heap.lt_size he
    have ilt : it0 < s.heap.objs.size := by obtain ⟨o, ho, _⟩ := hex; exact Heap.lt_size ho
    have hgT := on (Nat.ne_of_gt elt) hT
    have hgi : g.IsTupleIter it0 pa (i + 1) := by
      obtain ⟨o, ho, r⟩ := j1.1
      exact ⟨o, on (Ne.symm hne) ho, r⟩
    have next : IsEnum g e it0 ((i + 1 : Nat) : Int) u := by rw [show ((i + 1 : Nat) : Int) = (i : Int) + 1 by omega]; exact zg
    have fT : H s.heap.objs.size = none := I.hok.fresh (Nat.le_refl _)
    have kk : ∀ b o, b ≠ e → b ≠ it0 → s.heap.get? b = some o → g.get? b = some o := fun b o h1 h2 q => on h1 (hk b o h1 h2 q)
    generalize hT0 : s.heap.objs.size = T at hgT fT
    have nT : ∀ b o, s.heap.get? b = some o → b ≠ T := fun b o q => by rw [← hT0]; exact Nat.ne_of_lt (Heap.lt_size q)
    obtain ⟨H2, hH2⟩ : ∃ H2, H2 = upd (upd H it0 (TupI it0 pa xs.length (i + 1))) T (.tup [.int (i : Nat), x]) := ⟨_, rfl⟩
    have h2T : H2 T = some (.tup [.int (i : Nat), x]) := by rw [hH2]; exact upd_same
    have h2i : H2 it0 = some (TupI it0 pa xs.length (i + 1)) := by rw [hH2, upd_ne (fun z => by rw [z, fT] at hit; cases hit)]; exact upd_same
    have h2o : ∀ b, b ≠ it0 → b ≠ T → H2 b = H b := fun b h1 h2 => by rw [hH2, upd_ne h2, upd_ne h1]
    have nob : ∀ b u, H b = some u → b ≠ T := fun b u q z => by rw [z, fT] at q; cases q
    have J : Inv X pins σ H2 { s with heap := g, gens := s.gens, drawn := s.drawn, toks := tk + 1 } := by
      refine I.call (ch := [e]) ⟨fun b o q n hb hc => ?_, fun b o q n hb hc => ?_, fun b o q n hc => ?_, fun b o q hc => ?_, fun b ys q => ?_, fun b o u q => ?_, fun b ps q => ?_⟩ (fun b u q => ?_) I.bare (fun b hb => ?_)
      · exact kk b o (fun z => hc (by simp [z])) (fun z => by rw [z, hit] at n; cases n) q
      · exact ⟨o.slots, kk b o (fun z => hc (by simp [z])) (fun z => by rw [z, hit] at n; cases n) q⟩
      · rw [h2o b (fun z => by rw [z, hit] at n; cases n) (nT b o q)]; exact n
      · by_cases z : b = it0
        · obtain ⟨o', q', _⟩ := hgi
          exact ⟨o', by rw [z]; exact q'⟩
        · exact ⟨o, kk b o (fun z => hc (by simp [z])) z q⟩
      · rw [h2o b (fun z => by rw [z, hit] at q; cases q) (nob b _ q)]; exact q
      · rw [h2o b (fun z => by rw [z, hit] at q; cases q) (nob b _ q)]; exact q
      · exact ⟨#[], by rw [h2o b (fun z => by rw [z, hit] at q; cases q) (nob b _ q), q]; simp⟩
      · by_cases z1 : b = T
        · subst z1
          rw [h2T] at q
          cases q
          exact ⟨by show 2 ≤ sizeLine; decide, [.int i tk, u], .cons ⟨_, rfl⟩ (.cons ru .nil), ⟨_, hgT, rfl, _, rfl⟩⟩
        · by_cases z2 : b = it0
          · subst z2
            rw [h2i] at q
            cases q
            exact tupI_ok (.inl hgi)
          · rw [h2o b z2 z1] at q
            refine (I.hok b u q).stay (fun c v hc q' => ?_) (fun c q' => ?_) fun c ys q' => ?_
            · rcases hc with hc | hc
              · subst hc
                exact kk c v (fun z => by rw [z, hfe.1] at q; cases q) z2 q'
              · exact kk c v (fun z => by rw [z, hfe.1] at hc; cases hc) (fun z => by rw [z, hit] at hc; cases hc) q'
            · rw [h2o c (fun z => by rw [z, hit] at q'; cases q') (nob c _ q')]; exact q'
            · rw [h2o c (fun z => by rw [z, hit] at q'; cases q') (nob c _ q')]; exact q'
      · rw [List.mem_singleton.mp hb]
        exact ⟨hfe.2.2.2.1, hfe.2.1, hfe.2.2.2.2.1, hfe.2.2.2.2.2⟩
    have hH3 : H2 e = none := by rw [h2o e hne (nT e _ he)]; exact hfe.1
    rw [hH2] at J hH3
    exact ⟨.ref T, _, J, rfl, ⟨T, x, rfl, fT, hx, rfl⟩, ⟨⟨u, next⟩, hne⟩, fun c hcm => by rw [List.mem_singleton.mp hcm]; exact hH3⟩
  done := by
    rintro X hP hw hK hc i pins s σ H E I hf ⟨⟨old, he⟩, hne⟩ ⟨hpa, hit, hge⟩
    subst hP hw hK
    have hfe := hf e (by simp)
    have hne2 : pa ≠ it0 := fun z => by rw [z, hit] at hpa; cases hpa
    obtain ⟨its, rv, p, _⟩ := I.tuple (SqT.of hpa)
    have hl := rv.length
    have back : ∀ h' : Heap, (∀ b o, b ≠ it0 → s.heap.get? b = some o → h'.get? b = some o) → EndedT h' it0 i → Inv X pins σ H { s with heap := h', gens := s.gens, drawn := s.drawn, toks := s.toks } := by
      intro h' kk en
      refine I.call (ch := []) ⟨fun b o q n hb _ => kk b o (fun z => by rw [z, hit] at n; cases n) q, fun b o q n hb _ => ⟨o.slots, kk b o (fun z => by rw [z, hit] at n; cases n) q⟩, fun b o q n _ => n, fun b o q _ => ?_, fun b ys q => q, fun b o u q => q, fun b ps q => ⟨#[], by rw [q]; simp⟩⟩ (fun b u q => ?_) I.bare (fun b hb => nomatch hb)
      · by_cases z : b = it0
        · obtain ⟨o', q', _⟩ := en
          exact ⟨o', by rw [z]; exact q'⟩
        · exact ⟨o, kk b o z q⟩
      · by_cases z2 : b = it0
        · subst z2
          rw [hit] at q
          cases q
          exact tupI_ok (.inr ⟨Nat.le_of_eq hge.symm, en⟩)
        · refine (I.hok b u q).stay (fun c v hc q' => ?_) (fun c q' => q') fun c ys q' => q'
          rcases hc with hc | hc
          · subst hc; exact kk c v z2 q'
          · exact kk c v (fun z => by rw [z, hit] at hc; cases hc) q'
    refine rj_enum_end (G := fun h' => (∀ b o, b ≠ it0 → s.heap.get? b = some o → h'.get? b = some o) ∧ EndedT h' it0 i) he (fun Q E hE => ?_) fun h' ⟨g1, g2⟩ => ⟨rfl, back h' g1 g2⟩
    rcases (I.hok it0 _ hit).1 with q | ⟨_, q⟩
    · exact rj_tuple_end (A := X.A.in1) (I.ok.hd hc) q p (by rw [List.getElem?_toArray]; exact List.getElem?_eq_none (by omega)) fun h' x eb en st => hE h' x ⟨fun b o nb qq => eb b o nb qq, en⟩ st
    · refine rj_tuple_ended (A := X.A.in1) (I.ok.hd hc) q fun h' x kk st => hE h' x ⟨fun b o _ qq => kk b o qq, ?_⟩ st
      obtain ⟨o, ho, r⟩ := q
      exact ⟨o, kk _ _ ho, r⟩
  self := fun A i s Q E st h => by
    obtain ⟨⟨_, he⟩, _⟩ := st
    exact wpAny_pyIter_enum he h
/-- enumerate(o), o an instance whose __iter__ gives a tuple's iterator -/
def iEnumO (C : Addr) (sp : Sp) (ta : TA) : TI := fun σ H R => ta σ H fun vs H1 => ∃ a dx fs, vs = [.ref a] ∧ H1 a = some (.ins C dx fs) ∧ sp [.ref a] H1 (fun v H2 => ∃ it0 pa xs, v = .ref it0 ∧ H2 it0 = some (TupI it0 pa xs.length 0) ∧ R (ItEO it0 pa xs) H2) C8.E0
theorem pi_enumO {X : Cx} {e : Expr} {ta : TA} {p pos tpos : Pos} {elts : List Expr} {kk k j : Nat} {C : Addr} {sp : Sp} (hg : Gl X "enumerate") (hm : X.mg "enumerate" = none) (c : C8.Met X.prog X.w X.K X.mg X.base k C "__iter__" sp []) (hr : Room j X.A) (hk : k + 2 ≤ j) (ha : PA X [e] ta) (hs : starEach [e] X.env = [(false, eval e X.env)] := by rfl) :
    PI X (.Tuple elts kk tpos) (.Call (.Name "enumerate" p) [e] [] pos) (iEnumO C sp ta) := by
  obtain ⟨f, fd, ps, ds, hc, hmt, F, b, d⟩ := c.ex
  cases d
  refine ⟨fun pins s σ H R I h => ?_⟩
  refine Call_ (ld_blt I hg hm boot_enumerate (PyProof.Rows.callWith_type1 (thn (ha.run pos pins s σ H _ I h) fun us s1 ⟨vs, H1, I1, r1, q1⟩ => ?_) hs rfl))
  obtain ⟨a, dx, fs, ex, ea, q⟩ := q1
  subst ex
  obtain rfl := Vals.ref1 r1
  refine rj_call_en ?_
  obtain ⟨mA, J, _⟩ := ins_get I1.hok ea
  obtain ⟨od, J, _⟩ := J.look
  obtain ⟨m, hF⟩ := I1.fr
  refine PySem.W.owit_iter hF I1.ok.mod.kin J hmt.at_ hmt.fn ?_
  have rm : Room k X.A.in1.in1 := (hr.mono hk).in1.in1
  have e0 : Env0 X.prog X.w X.K X.mg X.base X.A.in1.in1 X.stack s1 H1 := by
    have e := I1.env0
    exact ⟨e.frames, e.mod, e.bs, e.bsz, e.funs, e.frf, e.hok, e.bare⟩
  have hl := F.len _ _ _ _ q
  have r2 : Vals [V.ref a] [Value.ref a] := .cons rfl .nil
  refine wpAny_call (codeAny_mono (F.run X.A.in1.in1 X.stack s1 H1 ⟨[.ref a], []⟩ [.ref a] [.ref a] _ C8.E0 rm e0 (by
    have := b s1 [.ref a] I1.kIn (by simpa using hl)
    simpa using this) r2 q) fun r s' hq' => ?_)
  cases r with
  | error e => exact hq'.elim
  | ok fl =>
    cases fl with
    | next => exact False.elim hq'
    | brk => exact False.elim hq'
    | cont => exact False.elim hq'
    | ret u =>
      obtain ⟨v, H2, I2, rv, it0, pa, xs, ev, ei, hR⟩ := I1.after hq'
      subst ev
      cases rv
      have hT : s'.TypeIs (.ref it0) "tuple_iterator" := by
        rcases (I2.hok it0 _ ei).1 with ⟨o, ho, hc, _⟩ | ⟨_, o, ho, hc, _⟩
        · exact ⟨o, ho, hc⟩
        · exact ⟨o, ho, hc⟩
      unfold PySem.W.OwitIt
      refine wpAny_specialOf (name := Str.ofString "__next__") hT PySem.F.slot_tuple_iterator_next.lookup ?_
      intro h' he hsz hk'
      have he' : IsEnum h' s'.heap.objs.size it0 0 .none := he
      refine wpAny_pyIter_enum (s := { s' with heap := h' }) he' ?_
      have I3 : Inv X pins σ H2 { s' with heap := h' } := I2.kept (t' := s'.toks) hk'
      have ilt : it0 < s'.heap.objs.size := by obtain ⟨o, ho, _⟩ := hT; exact Heap.lt_size ho
      refine ⟨s'.heap.objs.size, [s'.heap.objs.size], _, _, H2, rfl, I3, turn_enumO, ⟨⟨.none, he'⟩, Nat.ne_of_gt ilt⟩, fun c hc => ?_, hR⟩
      rw [List.mem_singleton.mp hc]
      exact I2.fpOk (Nat.le_refl _) (I2.hok.fresh (Nat.le_refl _))
end RJ
end

section
set_option maxRecDepth 100000
set_option maxHeartbeats 4000000
namespace RJ
open PySem PySem.Spec PyProof.Rows L2
/-! ### a tuple whose object is known, and the dict of its pairs -/
def kTupF (K : PySem.W.Frag) (x : V) (H : Hp) (Q : VK) : Prop := ∃ p xs, x = .ref p ∧ SqL K H p xs ∧ ∀ (q : Addr) (o : Obj), H q = none → o.dict = none → Q (.ref q) (upd H q (.frz o (.tup xs)))
section
variable {X : Cx}
theorem rl_tupleF (pins : List (Addr × Obj)) (s : Shared) (σ : L2.St) (H : Hp) (x : V) (v : Value) (Q : VK) (I : Inv X pins σ H s) (r : RelV x v) (h : kTupF X.K x H Q) :
    wpAny (model X.prog X.w) X.A (call (.type "tuple") [v]) (EP X pins σ Q) X.xe s := by
  obtain ⟨p, xs, rfl, hs, q⟩ := h
  obtain rfl : v = .ref p := r
  obtain ⟨its, rv, pl, hz⟩ := I.list hs
  refine call_tuple_list pl.isList (fun h' hk => ?_) (by rw [List.size_toArray, ← rv.length]; exact hz)
  have I1 : Inv X pins σ H { s with heap := h' } := I.kept (t' := s.toks) hk
  have e0 : (h'.push { cls := .type "tuple", data := .seq its.toArray }).get? h'.objs.size = some { cls := .type "tuple", data := .seq its.toArray } := Heap.get?_push_size _ rfl
  have I2 : Inv X pins σ (upd H h'.objs.size (.frz { cls := .type "tuple", data := .seq its.toArray } (.tup xs))) { s with heap := h'.push { cls := .type "tuple", data := .seq its.toArray } } :=
    I1.laid (t' := s.toks) (fun b o e => Heap.get?_push_of_some _ e) (Nat.le_refl _) (show ObjOk X.prog X.w _ _ _ (.frz _ (.tup xs)) from ⟨e0, hz, its, rv, IsTup.new _ _⟩)
  exact ⟨.ref h'.objs.size, _, I2, rfl, q _ _ (I1.hok.fresh (Nat.le_refl _)) rfl⟩
theorem pe_tupleOfF {a : Expr} {ta : TE} {p pos : Pos} (hg : Gl X "tuple") (hm : X.mg "tuple" = none) (ha : PE X a ta) (na : starEach [a] X.env = (false, eval a X.env) :: starEach [] X.env := by rfl) :
    PE X (.Call (.Name "tuple" p) [a] [] pos) (tThen ta (kTupF X.K)) := by
  refine ⟨fun pins s σ H Q I h => ?_⟩
  exact Call_ (ld_blt I hg hm boot_tuple (PyProof.Rows.callWith_type1 (one_arg ha I h (fun v s2 x H2 I2 r q => rl_tupleF pins s2 σ H2 x v Q I2 r q) na) na))
theorem pairs_vals {pins : List (Addr × Obj)} {σ : L2.St} {H : Hp} {s : Shared} (I : Inv X pins σ H s) : ∀ {ps : List Addr} {kvs : List (Key × V)}, Paired (fun p kv => SqT X.K H p [kV kv.1, kv.2]) ps kvs →
    ∃ (prs : List (Key × Value)) (vps : List (Value × Value)), KV kvs prs ∧ prs.length = ps.length ∧ vps.length = ps.length ∧ ∀ (j : Nat) (q : Key × Value), prs[j]? = some q → ∃ (b : Addr) (u : Value), ps[j]? = some b ∧ vps[j]? = some (u, q.2) ∧ IsTup s.heap b #[u, q.2] ∧ (mixKind X.prog X.w).is q.1 u = true
  | _, _, .nil => ⟨[], [], .nil, rfl, rfl, fun j q e => by simp at e⟩
  | _, _, .cons (a := p) (b := kv) h t => by
    obtain ⟨prs, vps, r, hl, hl2, hp⟩ := pairs_vals I t
    obtain ⟨its, rv, ht, _⟩ := I.tuple h
    obtain ⟨u, y, ei, ru, ry⟩ := vals2 rv
    subst ei
    refine ⟨(kv.1, y) :: prs, (u, y) :: vps, .cons ⟨rfl, ry⟩ r, by rw [List.length_cons, List.length_cons, hl], by rw [List.length_cons, List.length_cons, hl2], fun j q e => ?_⟩
    cases j with
    | zero =>
      have e' : (kv.1, y) = q := Option.some.inj e
      subst e'
      exact ⟨p, u, rfl, rfl, ht, kV_is (P := X.prog) (w := X.w) ru⟩
    | succ j =>
      obtain ⟨b, u', e1, e2, e3, e4⟩ := hp j q (by simpa using e)
      exact ⟨b, u', by simpa using e1, by simpa using e2, e3, e4⟩
/-- dict(t), t a known tuple of pairs -/
def rDictT (K : PySem.W.Frag) : List V → Hp → VK → Prop := fun xs H Q => ∃ (a : Addr) (o : Obj) (ps : List Addr) (kvs : List (Key × V)), xs = [.ref a] ∧ H a = some (.frz o (.tup (ps.map V.ref))) ∧ o.dict = none ∧ Paired (fun p kv => SqT K H p [kV kv.1, kv.2]) ps kvs ∧
  ∀ p, H p = none → Q (.ref p) (upd H p (.dK (mergeK [] kvs)))
theorem call_dictT (hcalm : X.calm = true) : CallR X (.type "dict") (rDictT X.K) := by
  intro pins s σ H xs us Q I r q
  obtain ⟨a, o, ps, kvs, ex, ha, hd, hp, q⟩ := q
  subst ex
  obtain ⟨u, eu, rx⟩ := vals1 r
  subst eu
  cases rx
  obtain ⟨he, hz, its, rv, o', ho', hc, n, hdat⟩ : s.heap.get? a = some o ∧ ObjOk X.prog X.w H s.heap a (.tup (ps.map V.ref)) := I.hok a _ ha
  rw [he] at ho'
  cases ho'
  have ei := refs_at rv
  subst ei
  rw [List.length_map] at hz
  obtain ⟨prs, vps, rel, hl, hl2, hpr⟩ := pairs_vals I hp
  have hitem : ∀ j k v, vps[j]? = some (k, v) → ∃ q : Key × Value, prs[j]? = some q ∧ q.2 = v ∧ (mixKind X.prog X.w).is q.1 k = true ∧ ∃ b, ps[j]? = some b ∧ IsTup s.heap b #[k, v] := fun j k v e => by
    have hj : j < prs.length := by rw [hl, ← hl2]; exact (List.getElem?_eq_some_iff.mp e).1
    obtain ⟨b, u, e1, e2, e3, e4⟩ := hpr j prs[j] (List.getElem?_eq_getElem hj)
    rw [e] at e2
    obtain ⟨rfl, rfl⟩ := Prod.mk.inj (Option.some.inj e2)
    exact ⟨_, List.getElem?_eq_getElem hj, rfl, e4, b, e1, e3⟩
  refine PySem.call_dict_pairs (knd := mixKind X.prog X.w) (kvs := prs) (PairArg.tuple a (ps.map Value.ref).toArray (fun j => (ps[j]?).getD 0) vps) (I.ok.hd hcalm) ⟨⟨o, n, he, hc, hd, hdat⟩, by simp [hl2], fun j k v e => ?_⟩ ⟨by rw [hl, hl2], fun i key v e => ?_⟩ (by rw [hl2]; exact hz) fun h' tk hd' k => ?_
  · obtain ⟨_, _, _, _, b, eb, et⟩ := hitem j k v e
    exact ⟨by simp [eb], .inl (by have et' : s.heap.IsTuple b #[k, v] := et; simpa [eb] using et')⟩
  · obtain ⟨q', e1, e2, e3, _⟩ := hitem i key v e
    exact ⟨q'.1, by rw [e1, ← e2], e3⟩
  · have hm : (s.heap.objs.size == sysModules) = false := beq_eq_false_iff_ne.mpr (Nat.ne_of_gt I.big)
    have hlen : (mergeK [] kvs).length ≤ sizeLine := by
      refine Nat.le_trans (length_mergeK kvs []) ?_
      rw [List.length_nil, Nat.zero_add, rel.length, hl]
      exact hz
    exact ⟨.ref s.heap.objs.size, upd H s.heap.objs.size (.dK (mergeK [] kvs)), I.laid (t' := tk) (fun b o e => k b o (by simp) e) (Nat.le_refl _) (show ObjOk X.prog X.w _ _ _ (.dK (mergeK [] kvs)) from ⟨hlen, hm, merged [] prs, KV.merge rel .nil, hd'⟩), rfl, q _ (I.hok.fresh (Nat.le_refl _))⟩
end
end RJ
namespace RJ
open PySem PySem.Spec PyProof.Rows L2
/-! ### a property -/
structure PrpC (P : Program) (w : World) (K : PySem.W.Frag) (mg : Str → Option Value) (base : Heap) (k : Nat) (C : Addr) (m : Str) (sp : Sp) : Prop where
  ex : ∃ (p g : Addr) (fd : FuncData) (ps : List Str), Cls K C ∧ PropOf K C m p g ∧ FnOk P w K mg base C8.CX0 k g fd ps sp ∧ Binds K fd ps []
theorem pe_prp {X : Cx} {k j : Nat} {C : Addr} {m : Str} {sp : Sp} {e : Expr} {ta : TE} {pos : Pos} (c : PrpC X.prog X.w X.K X.mg X.base k C m sp) (hr : Room j X.A) (hk : k + 1 ≤ j) (he : PE X e ta)
    (hab : attributeBase e m X.env (eval e X.env) = eval e X.env := by rfl) : PE X (.Attribute e m pos) (tProp C sp [] C8.E0 ta) := by
  obtain ⟨p, g, fd, ps, hc, hp, F, b⟩ := c.ex
  exact pe_prop he hc hp F (hr.mono hk) b .nil C8.pass0 hab
end RJ
namespace RJ
open PySem PySem.Spec PyProof.Rows L2
theorem call_dictTK {X : Cx} {K : PySem.W.Frag} (h : X.K = K) (hc : X.calm = true) : CallR X (.type "dict") (rDictT K) := h ▸ call_dictT hc
/-- an item of a list, ahead of a store -/
def rGetL : V → V → Hp → VK → Prop := fun x y H Q => ∃ (p : Addr) (xs : List V) (k : Nat) (v : V), x = .ref p ∧ y = .int (k : Int) ∧ H p = some (.lst xs) ∧ xs[k]? = some v ∧ Q v H
theorem get_listN {X : Cx} : PGet X rGetL := by
  intro pins s σ H o i ov iv Q I ro ri h
  obtain ⟨p, xs, k, z, rfl, rfl, hp, he, q⟩ := h
  cases ro
  obtain ⟨t, rfl⟩ := ri
  obtain ⟨its, r, pl, hz⟩ := I.list (SqL.of hp)
  obtain ⟨w, ew, rw'⟩ := r.get he
  have hl := r.length
  have hn := line63
  have hk : k < xs.length := (List.getElem?_eq_some_iff.mp he).1
  exact wpAny_getItem_list pl.isList (Int.natCast_nonneg _) (by omega) (by rw [Int.toNat_natCast]; simpa using ew) ⟨z, H, I, rw', q⟩
end RJ
end

section
set_option maxRecDepth 100000
set_option maxHeartbeats 2000000
namespace RJ
open PySem PySem.Spec PyProof.Rows L2
/-! ### bits -/
theorem bit_sub_and : ∀ (q x c : Nat), (x - (x &&& c)).testBit q = (x.testBit q && !c.testBit q)
  | 0, x, c => by
    have h1 : (x &&& c) % 2 = 1 ↔ x % 2 = 1 ∧ c % 2 = 1 := Nat.and_mod_two_eq_one
    have h2 : (x &&& c) / 2 = x / 2 &&& c / 2 := Nat.and_div_two
    have h3 : x / 2 &&& c / 2 ≤ x / 2 := Nat.and_le_left
    rw [Nat.testBit_zero, Nat.testBit_zero, Nat.testBit_zero, Bool.eq_iff_iff, Bool.and_eq_true, Bool.not_eq_true', decide_eq_true_eq, decide_eq_true_eq, decide_eq_false_iff_not]
    omega
  | q + 1, x, c => by
    have h1 : (x &&& c) % 2 = 1 ↔ x % 2 = 1 ∧ c % 2 = 1 := Nat.and_mod_two_eq_one
    have h2 : (x &&& c) / 2 = x / 2 &&& c / 2 := Nat.and_div_two
    have h3 : x / 2 &&& c / 2 ≤ x / 2 := Nat.and_le_left
    rw [Nat.testBit_succ, Nat.testBit_succ, Nat.testBit_succ, ← bit_sub_and q (x / 2) (c / 2)]
    congr 1
    omega
/-- x & ~c -/
theorem bitAnd_not (x c : Nat) : Builtin.bitAnd (x : Int) (Builtin.bitNot (c : Int)) = ((x - (x &&& c) : Nat) : Int) := by
  have e1 : decide (0 ≤ (x : Int)) = true := decide_eq_true (Int.natCast_nonneg _)
  have e2 : decide (0 ≤ Builtin.bitNot (c : Int)) = false := decide_eq_false (by unfold Builtin.bitNot; omega)
  have e3 : (Builtin.bitNot (Builtin.bitNot (c : Int))).toNat = c := by unfold Builtin.bitNot; omega
  unfold Builtin.bitAnd
  rw [e1, e2]
  show (x : Int) - (((x : Int).toNat &&& (Builtin.bitNot (Builtin.bitNot (c : Int))).toNat : Nat) : Int) = _
  rw [e3, Int.toNat_natCast]
  have : x &&& c ≤ x := Nat.and_le_left
  omega
/-- (x >> q) & 1 == 1 -/
theorem bit_one (x q : Nat) : Builtin.bitAnd ((x : Int) / 2 ^ q) 1 = ((x / 2 ^ q % 2 : Nat) : Int) := by
  rw [bitAnd_m1, show ((2 : Int) ^ q) = (((2 ^ q : Nat)) : Int) by rw [Int.natCast_pow]; rfl, ← Int.natCast_ediv]
  omega
/-- a bit is put on top -/
theorem bit_add {c j q : Nat} (hc : c < 2 ^ j) (hq : q ≤ j) : (c + 2 ^ j).testBit q = (if q = j then true else c.testBit q) := by
  rw [Nat.add_comm]
  by_cases e : q = j
  · subst e
    rw [if_pos rfl, Nat.testBit_two_pow_add_eq, Nat.testBit_lt_two_pow hc]; rfl
  · rw [if_neg e, Nat.testBit_two_pow_add_gt (by omega)]
/-! ### spines as dicts -/
section
variable {b : Nat} {ps : List (Nat × Nat)} {sd : Nat × Nat → Nat}
theorem Spn.le (hs : Side sd) (hw : WF b ps) {x y : Nat} {bd : Option Nat} (h : Spn b ps sd x y bd) : y ≤ x ∧ (bd ≠ none → y < x) := by
  induction h with
  | self => exact ⟨Nat.le_refl _, fun h => absurd rfl h⟩
  | step h1 hp ih =>
    rename_i j p bd
    have := hw j p hp
    have h2 := hs p
    have : sd p < b + j := by rcases h2 with e | e <;> rw [e] <;> omega
    exact ⟨by omega, fun _ => by omega⟩
theorem Spn.top {x y k : Nat} (h : Spn b ps sd x y (some k)) : ∃ j p, x = b + j ∧ ps[j]? = some p := by
  have : ∀ {y : Nat} {bd : Option Nat}, Spn b ps sd x y bd → bd ≠ none → ∃ j p, x = b + j ∧ ps[j]? = some p := by
    intro y bd h
    induction h with
    | self => exact fun h => absurd rfl h
    | step h1 hp ih =>
      rename_i j p bd
      intro _
      cases bd with
      | none =>
        have := Spn.zero h1 rfl
        exact ⟨j, p, this.symm, hp⟩
      | some k => exact ih (by simp)
  exact this h (by simp)
theorem Spn.uniq (hs : Side sd) (hw : WF b ps) : ∀ (x : Nat) {y : Nat} {bd bd' : Option Nat}, Spn b ps sd x y bd → Spn b ps sd x y bd' → bd = bd' := by
  intro x
  induction x using Nat.strongRecOn with
  | _ x ih =>
    intro y bd bd' h1 h2
    cases bd with
    | none =>
      cases bd' with
      | none => rfl
      | some k' =>
        have e := Spn.zero h1 rfl
        have := (Spn.le hs hw h2).2 (by simp)
        omega
    | some k =>
      cases bd' with
      | none =>
        have e := Spn.zero h2 rfl
        have := (Spn.le hs hw h1).2 (by simp)
        omega
      | some k' =>
        obtain ⟨j, p, rfl, hp⟩ := h1.top
        have hlt : sd p < b + j := by
          have := hw j p hp
          rcases hs p with e | e <;> rw [e] <;> omega
        rcases Spn.down hp h1 with e | ⟨e1, e2⟩ | ⟨m, e1, e2⟩
        · cases e
        · rcases Spn.down hp h2 with e | ⟨f1, f2⟩ | ⟨m', f1, f2⟩
          · cases e
          · rw [e2, f2]
          · have := (Spn.le hs hw f2).2 (by simp)
            omega
        · rcases Spn.down hp h2 with e | ⟨f1, f2⟩ | ⟨m', f1, f2⟩
          · cases e
          · have := (Spn.le hs hw e2).2 (by simp)
            omega
          · have := ih _ hlt e2 f2
            rw [e1, f1, this]
end
theorem mergeK_miss : ∀ (kvs acc : List (Key × V)) (k : Key), (∀ p ∈ kvs, p.1 ≠ k) → valV (mergeK acc kvs) k = valV acc k
  | [], acc, k, _ => rfl
  | p :: r, acc, k, h => by
    show valV (mergeK (putK acc p.1 p.2) r) k = _
    rw [mergeK_miss r _ k (fun q hq => h q (List.mem_cons_of_mem _ hq)), valV_put, if_neg (fun e => h p (List.mem_cons_self ..) e.symm)]
theorem mergeK_hit : ∀ (kvs acc : List (Key × V)) (k : Key) (v : V), (k, v) ∈ kvs → (∀ p ∈ kvs, p.1 = k → p.2 = v) → valV (mergeK acc kvs) k = some v
  | p :: r, acc, k, v, h, hf => by
    show valV (mergeK (putK acc p.1 p.2) r) k = _
    by_cases c : ∃ v', (k, v') ∈ r
    · obtain ⟨v', hv⟩ := c
      have e := hf (k, v') (List.mem_cons_of_mem _ hv) rfl
      have e : v' = v := e
      subst e
      exact mergeK_hit r _ k v' hv fun q hq => hf q (List.mem_cons_of_mem _ hq)
    · rw [mergeK_miss r _ k (fun q hq e => c ⟨q.2, by rw [← e]; exact hq⟩)]
      rcases List.mem_cons.mp h with e | e
      · rw [← e, valV_put, if_pos rfl]
      · exact absurd ⟨v, e⟩ c
end RJ
end

section
set_option maxRecDepth 100000
set_option maxHeartbeats 4000000
namespace PySem
open HotX
section
variable {prog : Program} {w : World} {A : Around} {E : Value → Shared → Prop} {s : Shared}
/-- a list's iterator ends where an exception is handled -/
theorem rj_list_end_hot {it l x1 : Addr} {i : Nat} {items : Array Value} {Q : Option Value → Shared → Prop} (hot : HotAt A x1 s.heap) (nx : x1 ≠ it)
    (hit : s.heap.IsListIter it l i) (hl : s.heap.IsList l items) (hx : items[i]? = none)
    (hQ : ∀ h', Heap.ExtBut it s.heap h' → Q none { s with heap := h' }) : wpAny (model prog w) A (pyNext (.ref it)) Q E s := by
  obtain ⟨o, ho, hc, hd⟩ := id hit
  obtain ⟨ol, hol, _, nl, hdl⟩ := hl
  obtain ⟨hh, o1, vs1, h1, d1, c1⟩ := hot
  unfold pyNext
  refine wpAny_bind (wpAny_attempt (wpAny_callSpecial?_slot (name := Str.ofString "__next__") hit.typeIs slot_listiter_next
    (wpAny_call_entry slot_listiter_next hit.typeIs entry_listiter_next ?_ (args_listiter_next _))))
  show wpAny _ _ (field (.ref it) 0 >>= _) _ _ s
  refine wpAny_bind (wpAny_field ho hd (x := .ref l) rfl ?_)
  show wpAny _ _ (if (Value.ref l == Value.none) = true then _ else _) _ _ s
  rw [if_neg (show ¬ ((Value.ref l == Value.none) = true) from Bool.false_ne_true)]
  show wpAny _ _ (field (.ref it) 1 >>= _) _ _ s
  refine wpAny_bind (wpAny_field ho hd (x := .int i 0) rfl ?_)
  show wpAny _ _ (seqItems? (.ref l) >>= _) _ _ s
  refine wpAny_bind (wpAny_seqItems hol hdl ?_)
  simp only [Int.toNat_natCast, hx]
  refine wpAny_bind (wpAny_rule (wpAny_bind (wpAny_setField ho hd (by simp) ?_)))
  have h1' : (s.heap.update it (Obj.mapFields fun x => x.setIfInBounds 0 Value.none)).get? x1 = some o1 := (Heap.get?_update_other _ _ (Ne.symm nx)).trans h1
  have ext : Heap.ExtBut it s.heap (s.heap.update it (Obj.mapFields fun x => x.setIfInBounds 0 Value.none)) := (Heap.SameBut.update ..).extBut
  generalize s.heap.update it (Obj.mapFields fun x => x.setIfInBounds 0 Value.none) = h2 at h1' ext
  show wpAny _ _ (newExc (.type "StopIteration") [] >>= _) _ _ _
  refine wpAny_bind ?_
  simp only [newExc, newTuple]
  refine wpAny_bind (wpAny_newObj_type ?_ (by size_fits))
  refine wpAny_bind (m := firstArgMember _ _) (wpAny_of_eq (a := Value.none) (by first | rfl | (simp only [firstArgMember]; rfl)) ?_)
  refine wpAny_newObj_type ?_ (by size_fits)
  refine raiseNew_hot ⟨hh, o1, vs1, Heap.get?_push_of_some _ (Heap.get?_push_of_some _ h1'), d1, c1⟩ (Nat.ne_of_lt (Heap.lt_size (Heap.get?_push_of_some _ h1'))) (Heap.get?_push_size _ rfl) rfl (by first | (simp; done) | (simp; omega) | (simp only [Array.size_append]; simp; omega)) ?_
  refine wpAny_bind (wpAny_isInstance (T := "StopIteration") (b := true) ⟨_, Heap.get?_update_self _ (Heap.get?_push_size _ rfl) rfl, rfl⟩ isSubtype_stop ?_)
  refine wpAny_pure (hQ _ fun b o' nb e => ?_)
  have e' := ext b o' nb e
  rw [Heap.get?_update_other _ _ (Nat.ne_of_gt (Heap.lt_size (Heap.get?_push_of_some _ e')))]
  exact Heap.get?_push_of_some _ (Heap.get?_push_of_some _ e')
end
end PySem
namespace RJ
open PySem PySem.Spec PyProof.Rows L2 HotX
/-! ### a comprehension where an exception is handled -/
structure TurnHL (P : Program) (w : World) (K : PySem.W.Frag) (tg : Expr) (J : It) (fp : List Addr) (it : Addr) (tn : Nat → Heap → Prop) : Prop where
  mem : it ∈ fp
  obj : ∀ i h, tn i h → ∀ b ∈ fp, ∃ o, h.get? b = some o ∧ ∀ v, o.data ≠ .cell v
  keep : ∀ i h h', tn i h → (∀ b ∈ fp, ∀ o, h.get? b = some o → h'.get? b = some o) → tn i h'
  item : ∀ (X : Cx), X.prog = P → X.w = w → X.K = K → ∀ (i : Nat) (pins : List (Addr × Obj)) (s : Shared) (σ : L2.St) (H : Hp) (E : Value → Shared → Prop), Inv X pins σ H s → (∀ b ∈ fp, FpOk X pins H b) → tn i s.heap → J.go i H →
    wpAny (model P w) X.A (pyNext (.ref it)) (fun r s1 => ∃ u, r = some u ∧
      wpAny (model P w) X.A (letOwnedTupleGo tg (.ref it) u) (fun _ s2 => ∃ x H', Inv X pins σ H' s2 ∧ RelV x u ∧ J.yld i H x H' ∧ tn (i + 1) s2.heap ∧ ∀ b ∈ fp, H' b = none) E s1) E s
  done : ∀ (X : Cx), X.prog = P → X.w = w → X.K = K → ∀ (i : Nat) (pins : List (Addr × Obj)) (s : Shared) (σ : L2.St) (H : Hp) (E : Value → Shared → Prop), Inv X pins σ H s → (∃ x1, HotAt X.A x1 s.heap ∧ ∀ b ∈ fp, x1 ≠ b) → (∀ b ∈ fp, FpOk X pins H b) → tn i s.heap → J.stop i H →
    wpAny (model P w) X.A (pyNext (.ref it)) (fun r s1 => r = none ∧ Inv X pins σ H s1) E s
  self : ∀ (A : Around) (i : Nat) (s : Shared) (Q : Value → Shared → Prop) (E : Value → Shared → Prop), tn i s.heap → Q (.ref it) s → wpAny (model P w) A (pyIter (.ref it)) Q E s
def PIEHL (X : Cx) (pins : List (Addr × Obj)) (σ : L2.St) (tg : Expr) (R : It → Hp → Prop) (itv : Value) (s2 : Shared) : Prop :=
  ∃ (it : Addr) (fp : List Addr) (tn : Nat → Heap → Prop) (J : It) (H' : Hp), itv = .ref it ∧ Inv X pins σ H' s2 ∧ TurnHL X.prog X.w X.K tg J fp it tn ∧ tn 0 s2.heap ∧ (∀ b ∈ fp, FpOk X pins H' b) ∧ R J H'
structure PIHL (X : Cx) (tg iter : Expr) (wi : TI) : Prop where
  run : ∀ (pins : List (Addr × Obj)) (s : Shared) (σ : L2.St) (H : Hp) (R : It → Hp → Prop), Inv X pins σ H s → wi σ H R →
    wpAny (model X.prog X.w) X.A (eval iter X.env) (fun v s1 => wpAny (model X.prog X.w) X.A (pyIter v) (PIEHL X pins σ tg R) X.xe s1) X.xe s
theorem turn_listHL {P : Program} {w : World} {K : PySem.W.Frag} {tg : Expr} (a it : Addr) : TurnHL P w K tg (Itl K a) [it] it (fun i h => h.IsListIter it a i) where
  mem := (turn_list (P := P) (w := w) (K := K) (tg := tg) a it).mem
  obj := (turn_list (P := P) (w := w) (K := K) (tg := tg) a it).obj
  keep := (turn_list (P := P) (w := w) (K := K) (tg := tg) a it).keep
  item := by
    intro X hP hw hK i pins s σ H E I hf st hg
    subst hP hw hK
    obtain ⟨xs, x, hq, hx⟩ := hg
    obtain ⟨its, rv, p, hz⟩ := I.list hq
    obtain ⟨u, hu, ru⟩ := rv.get hx
    obtain ⟨f0, f1, f2, f3, f4, f5⟩ := hf it (by simp)
    refine wpAny_pyNext_list_item st p.isList (x := u) (by simpa using hu) fun h' st' sb => ?_
    have I1 : Inv X pins σ H { s with heap := h' } := I.turned (t' := s.toks) (fun b o hb e => (sb.2 b hb).trans e) f0 f1 f3 f4 f5
    obtain ⟨o, e, c, d⟩ := id st'
    exact ⟨u, rfl, go_of (s := { s with heap := h' }) e c d (by decide) ⟨x, H, I1, ru, ⟨rfl, fun ys hy => by rw [I.list_inj hy hq]; exact hx⟩, st', fun b hb => (hf b hb).1⟩⟩
  done := by
    intro X hP hw hK i pins s σ H E I ⟨x1, hot, hne⟩ hf st hg
    subst hP hw hK
    obtain ⟨xs, hq, hx⟩ := hg
    obtain ⟨its, rv, p, hz⟩ := I.list hq
    have hl := rv.length
    obtain ⟨f0, f1, f2, f3, f4, f5⟩ := hf it (by simp)
    exact rj_list_end_hot hot (hne it (by simp)) st p.isList (by simp; omega) fun h' eb => ⟨rfl, I.turned (t' := s.toks) (fun b o hb e => eb b o hb e) f0 f1 f3 f4 f5⟩
  self := (turn_list (P := P) (w := w) (K := K) (tg := tg) a it).self
theorem pi_listHL {X : Cx} {tg l : Expr} {tl : TE} (hl : PE X l tl) : PIHL X tg l (iList X.K tl) := by
  refine ⟨fun pins s σ H R I h => ?_⟩
  refine thn (hl.run pins s σ H _ I h) fun v s1 ⟨x, H1, I1, r1, q1⟩ => ?_
  obtain ⟨a, e, ⟨xs, hq⟩, q⟩ := q1
  subst e
  cases r1
  obtain ⟨its, rv, p, hz⟩ := I1.list hq
  refine wpAny_pyIter_list p.isList ?_
  refine ⟨s1.heap.objs.size, [s1.heap.objs.size], _, _, H1, rfl, I1.kept (t' := s1.toks) fun b o e => Heap.get?_push_of_some _ e, turn_listHL a _, ⟨_, Heap.get?_push_size _ rfl, rfl, rfl⟩, fun b hb => ?_, q⟩
  have e : b = s1.heap.objs.size := by simpa using hb
  subst e
  exact I1.fpOk (Nat.le_refl _) (I1.hok.fresh (Nat.le_refl _))
section
variable {X : Cx} {E : XK} {elt tg iter : Expr} {ifs : List Expr} {scope : Scope} {own : List (Str × Nat)} {pos pos' : Pos} {wi : TI} {g : TG} {tt : TT} {te : TE}
theorem lc_coreH {pins : List (Addr × Obj)} {s : Shared} {σ : L2.St} {H : Hp} {Q : VK} {use : Option (Value → Sem Unit)} {Qf : Value → Shared → Prop} (hst : X.stack = X.env :: X.outer) (hf : X.env.frame = some X.env.locals) (tk : L2N.Takes X (fun cls d _ H => E cls d H))
    (hot : L2H.HotC X) (hN : X.N.Nodup) (I : Inv X pins σ H s) (hi : PIHL X tg iter wi) (ok : BlkOk X.N X.env.scope scope own)
    (hg : ∀ (s : Shared) (H : Hp) (C : Addr) (cl : List (Str × Addr)) (fp : List Addr) (xe : Value → Shared → Prop), PG ((X.blk s H scope (compEnvC scope cl C X.env) fp).tr [] xe) tg g)
    (ht : ∀ (s : Shared) (H : Hp) (C : Addr) (cl : List (Str × Addr)) (fp : List Addr) (xe : Value → Shared → Prop), (∀ σ : L2.St, PassesAt (CXN X.prog X.w) ((X.blk s H scope (compEnvC scope cl C X.env) fp).tr [] xe) σ E) →
      PTs ((X.blk s H scope (compEnvC scope cl C X.env) fp).tr [] xe) ifs tt)
    (he : ∀ (s : Shared) (H : Hp) (C : Addr) (cl : List (Str × Addr)) (fp : List Addr) (xe : Value → Shared → Prop), (∀ σ : L2.St, PassesAt (CXN X.prog X.w) ((X.blk s H scope (compEnvC scope cl C X.env) fp).tr [] xe) σ E) →
      PE ((X.blk s H scope (compEnvC scope cl C X.env) fp).tr [] xe) elt te)
    (hs : ∀ x, foldedSetIterable iter X.env x = pure x) (h : tLc wi g tt te (own.map (·.2)) σ H Q)
    (hRR : ∀ D C s' m H', Inv X pins σ H' s' → Q (.ref D) H' → s'.heap.Ns C m → FpOk X pins H' C → compPost (model X.prog X.w) X.A X.xe use Qf (.ref D) C (.ok .next) s') :
    wpAny (model X.prog X.w) X.A (comprehension (.ListComp elt [⟨tg, iter, ifs, 0⟩] scope pos) scope X.env pos' (newList []) false (eval iter X.env) use) Qf X.xe s := by
  have hfree : ∀ y ∈ scope.names, y.2 = .free → ∃ c, X.env.cells.lookup y.1 = some c := fun y hy e => I.ok.has _ (ok.free y hy e)
  refine comp_run (use := use) rfl hs (closure_ok hfree) ok.kind (fun y hy e => by rw [ok.uniq y hy, e]) (thn (hi.run pins s σ H _ I h) fun xv s1 hx => thn hx fun itv s2 h2 => ?_)
  obtain ⟨it, fp, tn, J, H2, e, I2, T, st2, f2, q⟩ := h2
  subst e
  refine wpAny_newObj_type (newEnv_comp ?_) (by show 0 ≤ sizeLine; decide)
  generalize hD : s2.heap.objs.size = D
  obtain ⟨W, ⟨m0, w0⟩, turn⟩ := q D (I2.hok.fresh (Nat.le_of_eq hD))
  generalize hs3 : ({ s2 with heap := s2.heap.push { cls := .type "list", data := .seq ([] : List Value).toArray } } : Shared) = s3
  have h3 : s3.heap = s2.heap.push { cls := .type "list", data := .seq ([] : List Value).toArray } := by rw [← hs3]
  have k23 : ∀ b o, s2.heap.get? b = some o → s3.heap.get? b = some o := fun b o e => by rw [h3]; exact Heap.get?_push_of_some _ e
  have I3 : Inv X pins σ (upd H2 D (.lst [])) s3 := by
    rw [← hs3]
    refine I2.laid (t' := s2.toks) (fun b o e => Heap.get?_push_of_some _ e) (Nat.le_of_eq hD) ⟨Nat.zero_le _, [], 0, .nil, ?_⟩
    rw [← hD]
    exact Heap.get?_push_size _ rfl
  have f3 : ∀ b ∈ fp, FpOk X pins (upd H2 D (.lst [])) b ∧ b < s3.heap.objs.size := fun b hb => by
    obtain ⟨o, e, _⟩ := T.obj _ _ st2 b hb
    have lt := Heap.lt_size e
    refine ⟨⟨?_, (f2 b hb).2⟩, Heap.lt_size (k23 b o e)⟩
    rw [upd_ne (by rw [← hD]; exact Nat.ne_of_lt lt)]
    exact (f2 b hb).1
  generalize hce : compEnvC scope (cellsFrom (s3.heap.objs.size + 1) scope.names (cloFrom X.env.cells scope.names [])) s3.heap.objs.size X.env = ce
  have cL : ce.locals = s3.heap.objs.size := by subst hce; rfl
  have cf : ce.frame = X.env.frame := by subst hce; rfl
  have I4 := block_start I3 ok hN f3
  rw [hce] at I4
  show codeAny _ _ (.compStart (.ListComp elt [⟨tg, iter, ifs, 0⟩] scope pos) 0 (.ref it) (.ref D) (compEnvC scope (cellsFrom (s3.heap.objs.size + 1) scope.names (cloFrom X.env.cells scope.names [])) s3.heap.objs.size X.env))
    (postX (model X.prog X.w) X.A X.xe use Qf (.ref D) (compEnvC scope (cellsFrom (s3.heap.objs.size + 1) scope.names (cloFrom X.env.cells scope.names [])) s3.heap.objs.size X.env)) { s3 with heap := pushCells (s3.heap.push { cls := .type "dict", data := .dict #[] }) scope.names }
  rw [hce]
  generalize hxe : notedBy (model X.prog X.w) X.A ce (fun e s' => postX (model X.prog X.w) X.A X.xe use Qf (.ref D) ce (.error e) s') = xe
  generalize hH3 : upd H2 D (.lst []) = H3 at I3 I4 w0 f3
  have pass := blk_out (scope := scope) (ce := ce) (fp := fp) (use := use) (Qf := Qf) (acc := .ref D) hst hf cf cL I3 (fun b hb => (f3 b hb).1) tk hxe.symm
  have pg := hg s3 H3 s3.heap.objs.size (cellsFrom (s3.heap.objs.size + 1) scope.names (cloFrom X.env.cells scope.names [])) fp xe
  have pt := ht s3 H3 s3.heap.objs.size (cellsFrom (s3.heap.objs.size + 1) scope.names (cloFrom X.env.cells scope.names [])) fp xe
  have pe := he s3 H3 s3.heap.objs.size (cellsFrom (s3.heap.objs.size + 1) scope.names (cloFrom X.env.cells scope.names [])) fp xe
  rw [hce] at pg pt pe
  have pe := pe pass
  have pt := pt pass
  have I5 : Inv ((X.blk s3 H3 scope ce fp).tr [] xe) [] (wipe σ (own.map (·.2))) H3 { s3 with heap := pushCells (s3.heap.push { cls := .type "dict", data := .dict #[] }) scope.names } := I4.toTry xe
  have st5 : tn 0 (pushCells (s3.heap.push { cls := .type "dict", data := .dict #[] }) scope.names) := T.keep _ _ _ st2 fun b _ o e => pushCells_keeps _ _ _ _ (Heap.get?_push_of_some _ (k23 b o e))
  have fps : ∀ {σ' : L2.St} {H' : Hp} {s' : Shared}, Inv ((X.blk s3 H3 scope ce fp).tr [] xe) [] σ' H' s' → (∀ b ∈ fp, H' b = none) → ∀ b ∈ fp, FpOk ((X.blk s3 H3 scope ce fp).tr [] xe) [] H' b := fun {σ' H' s'} I' hn b hb =>
    ⟨hn b hb, (I'.ok.exf b hb).1, I'.ok.exfs b hb, .inl hb, (I'.ok.exf b hb).2, fun p hp => absurd (show p ∈ ([] : List (Addr × Obj)) ++ [] from hp) (by simp)⟩
  have hotB : ∀ {σ' : L2.St} {H' : Hp} {s' : Shared}, Inv ((X.blk s3 H3 scope ce fp).tr [] xe) [] σ' H' s' → ∃ x1, HotAt X.A x1 s'.heap ∧ ∀ b ∈ fp, x1 ≠ b := fun {σ' H' s'} I' => by
    obtain ⟨p, ⟨hh, v1, e1, c1⟩, hp⟩ := hot
    obtain ⟨g1, g2, g3, g4, _⟩ := I3.pin p (List.mem_append_left _ hp)
    refine ⟨p.1, ⟨hh, p.2, v1, I'.base.keep p.1 p.2 g1 g2 ?_ ?_, e1, c1⟩, fun b hb => (f3 b hb).1.2.2.2.2.2 p (List.mem_append_left _ hp)⟩
    · intro z
      rcases List.mem_cons.mp (I3.stkSub _ z) with z | z
      · exact g3 z
      · exact g4 z
    · intro z
      exact (f3 _ z).1.2.2.2.2.2 p (List.mem_append_left _ hp) rfl
  have loop : codeAny (model X.prog X.w) X.A (.compLoop (.ListComp elt [⟨tg, iter, ifs, 0⟩] scope pos) 0 (.ref it) (.ref D) ce) (postX (model X.prog X.w) X.A X.xe use Qf (.ref D) ce)
      { s3 with heap := pushCells (s3.heap.push { cls := .type "dict", data := .dict #[] }) scope.names } := by
    refine compLoop_any (fun n s' => ∃ i H', Turns X s3 H3 scope ce fp xe (wipe σ (own.map (·.2))) tn W n i H' s') ?_ m0 ⟨0, H3, I5, st5, fun b hb => (f3 b hb).1.1, w0⟩
    rw [hxe]
    rintro n s6 ⟨i, H6, t6⟩
    rcases turn i n H6 t6.has with ⟨stop, qq⟩ | ⟨go, Nx, hNx, step⟩
    · refine thn (T.done ((X.blk s3 H3 scope ce fp).tr [] xe) rfl rfl rfl i [] s6 _ H6 xe t6.inv (hotB t6.inv) (fps t6.inv t6.non) t6.at_ stop) fun r s7 ⟨hr, I7⟩ => ?_
      subst hr
      have back : Inv X pins σ H6 s7 := I3.call' (ch := fp) I7.os I7.base I7.hok I7.bare fun b hb => ⟨(f3 b hb).1.2.2.2.1, (f3 b hb).1.2.1, (f3 b hb).1.2.2.2.2.1, (f3 b hb).1.2.2.2.2.2⟩
      obtain ⟨m, hn, _⟩ := I7.loc
      exact hRR D ce.locals s7 m H6 back qq hn (I3.fpOk (by rw [cL]; exact Nat.le_refl _) I7.free)
    · refine thn (T.item ((X.blk s3 H3 scope ce fp).tr [] xe) rfl rfl rfl i [] s6 _ H6 xe t6.inv (fps t6.inv t6.non) t6.at_ go) fun r s7 ⟨u, hr, h7⟩ => ?_
      subst hr
      refine thn h7 fun _ s8 ⟨x, H8, I8, r8, y8, st8, n8⟩ => ?_
      have I8' := I8.pinned (fps I8 n8) (T.obj _ _ st8)
      refine thn (pg.run _ s8 _ H8 x u _ I8' r8 (step x H8 y8)) fun _ s9 ⟨σ9, H9, I9, hw, q9⟩ => ?_
      refine thn (pt.run _ s9 σ9 H9 _ I9 q9) fun b s10 ⟨H10, I10, q10⟩ => ?_
      have next : ∀ {s' : Shared} {H' : Hp}, Inv ((X.blk s3 H3 scope ce fp).tr [] xe) ([] ++ pinsAt fp s8.heap) σ9 H' s' → Nx H' → ∃ m, m < n ∧ ∃ i H', Turns X s3 H3 scope ce fp xe (wipe σ (own.map (·.2))) tn W m i H' s' := fun {s' H'} I' nx => by
        obtain ⟨m', hm, w'⟩ := hNx H' nx
        have kept : ∀ b ∈ fp, ∀ o, s8.heap.get? b = some o → s'.heap.get? b = some o ∧ H' b = none := fun b hb o e =>
          have z := I'.pin (b, o) (List.mem_append_right _ (List.mem_append_right _ (mem_pinsAt hb e)))
          ⟨z.1, z.2.1⟩
        refine ⟨m', hm, i + 1, H', (I'.unpinned (pins := [])).weak (by rw [← hw, wipe_length]) (fun j v e => (wipe_some (by rw [hw]; exact e)).1), T.keep _ _ _ st8 fun b hb o e => (kept b hb o e).1, fun b hb => ?_, w'⟩
        obtain ⟨o, e, _⟩ := T.obj _ _ st8 b hb
        exact (kept b hb o e).2
      cases b with
      | false =>
        simp only [Bool.false_eq_true, if_false] at q10 ⊢
        exact next I10 q10
      | true =>
        simp only [if_true] at q10 ⊢
        refine thn (pe.run _ s10 σ9 H10 _ I10 q10) fun z s11 ⟨yv, H11, I11, r11, acc, hD11, hz, nx⟩ => ?_
        exact app_ok (X := (X.blk s3 H3 scope ce fp).tr [] xe) I11 hD11 hz r11 fun s12 I12 => next I12 nx
  exact codeAny_compStart_list loop (T.self X.A 0 _ _ _ st5 loop)
theorem pe_lcH (hst : X.stack = X.env :: X.outer) (hf : X.env.frame = some X.env.locals) (tk : L2N.Takes X (fun cls d _ H => E cls d H)) (hot : L2H.HotC X) (hN : X.N.Nodup) (hi : PIHL X tg iter wi) (ok : BlkOk X.N X.env.scope scope own)
    (hg : ∀ (s : Shared) (H : Hp) (C : Addr) (cl : List (Str × Addr)) (fp : List Addr) (xe : Value → Shared → Prop), PG ((X.blk s H scope (compEnvC scope cl C X.env) fp).tr [] xe) tg g)
    (ht : ∀ (s : Shared) (H : Hp) (C : Addr) (cl : List (Str × Addr)) (fp : List Addr) (xe : Value → Shared → Prop), (∀ σ : L2.St, PassesAt (CXN X.prog X.w) ((X.blk s H scope (compEnvC scope cl C X.env) fp).tr [] xe) σ E) →
      PTs ((X.blk s H scope (compEnvC scope cl C X.env) fp).tr [] xe) ifs tt)
    (he : ∀ (s : Shared) (H : Hp) (C : Addr) (cl : List (Str × Addr)) (fp : List Addr) (xe : Value → Shared → Prop), (∀ σ : L2.St, PassesAt (CXN X.prog X.w) ((X.blk s H scope (compEnvC scope cl C X.env) fp).tr [] xe) σ E) →
      PE ((X.blk s H scope (compEnvC scope cl C X.env) fp).tr [] xe) elt te)
    (hs : ∀ x, foldedSetIterable iter X.env x = pure x := by intro _; rfl) : PE X (.ListComp elt [⟨tg, iter, ifs, 0⟩] scope pos) (tLc wi g tt te (own.map (·.2))) := by
  refine ⟨fun pins s σ H Q I h => ?_⟩
  rw [eval_ListComp]
  refine lc_coreH hst hf tk hot hN I hi ok hg ht he hs h fun D C s' m H' J q hn f => ⟨m, hn, fun h' sb => ?_⟩
  exact ⟨.ref D, H', J.turned (t' := s'.toks) (fun b o hb e => (sb.2 b hb).trans e) f.1 f.2.1 f.2.2.2.1 f.2.2.2.2.1 f.2.2.2.2.2, rfl, q⟩
end
end RJ
namespace RJ
open PySem PySem.Spec PyProof.Rows L2 HotX
/-! ### defs that are given the error that is handled -/
structure FnE (P : Program) (w : World) (K : PySem.W.Frag) (mg : Str → Option Value) (base : Heap) (k : Nat) (f : Addr) (fd : FuncData) (ps : List Str) (p : Addr × Obj) (sp : Sp) : Prop where
  len : ∀ vs H Q E, sp vs H Q E → vs.length = ps.length
  run : ∀ (A : Around) (outer : List Env) (s : Shared) (H : Hp) (args : Args) (us : List Value) (vs : List V) (Q : VK) (E : XK), L2H.RoomH k A → L2H.Hot1 A p → L2H.PinOk outer H s p → Env0 P w K mg base A outer s H → BindsTo s fd args (ps.zip us) → Vals vs us → sp vs H Q E →
    codeAny (model P w) A (.call (.ref f) args) (CR C8.CX0 outer P w H s Q E) s
structure CalE (P : Program) (w : World) (K : PySem.W.Frag) (mg : Str → Option Value) (base : Heap) (k : Nat) (x : Str) (sp : Addr → Value → Option Addr → Sp) : Prop where
  ex : ∃ (f : Addr) (fd : FuncData) (ps : List Str), mg x = some (.ref f) ∧ PySem.W.keepIn K (.ref f) = true ∧ Binds K fd ps [] ∧ ∀ (p : Addr × Obj) (cls : Value) (d : Option Addr), Zc cls d p.2 → (∃ vs, p.2.data = .fields vs) → FnE P w K mg base k f fd ps p (sp p.1 cls d)
/-- isinstance of an error that is pinned -/
theorem call_isP {X : Cx} {p : Addr × Obj} {cls : Value} {d : Option Addr} (hp : p ∈ X.pn) (hz : Zc cls d p.2) (hf : ∃ vs, p.2.data = .fields vs) : CallR X (.builtin "isinstance") (rIsD X.K p.1 cls d) := by
  intro pins s σ H xs us Q I r h
  obtain ⟨D, dd, fs, c, cv, b, rfl, rfl, T, ed, rfl, hcv, e, q⟩ := h
  obtain ⟨u1, u2, rfl, r1, r2⟩ := vals2 r
  cases (show u1 = Value.ref p.1 from r1)
  have ec := hcv _ r2
  subst ec
  obtain ⟨hget, _⟩ := I.pin p (List.mem_append.mpr (.inl hp))
  obtain ⟨vs, hv⟩ := hf
  have hx : ObjOk X.prog X.w H s.heap dd (.xd fs) := I.hok dd _ ed
  obtain ⟨mA, hns, _⟩ := hx
  obtain ⟨od, ho, _⟩ := lookIn_ns hns
  have J : PySem.W.InstAt s.heap p.1 p.2 D (some od) := ⟨hget, hz.1, by unfold PySem.W.notCls; rw [hv] <;> rfl, by rw [hz.2]; exact ho⟩
  exact PySem.W.kia_one (PySem.W.kitx_exc T.cl T.hg T.hk T.hs T.ha T.hn T.ht T.hm) I.kIn J e (fun z => nomatch z) fun tk => ⟨.bl b, H, I.kept (t' := tk) fun _ _ z => z, rfl, q⟩
theorem call_isPT {X : Cx} {p : Addr × Obj} {cls : Value} {d : Option Addr} (hp : p ∈ X.pn) (hz : Zc cls d p.2) (hf : ∃ vs, p.2.data = .fields vs) : CallR X (.builtin "isinstance") (rIsDT X.K p.1 cls d) := by
  intro pins s σ H xs us Q I r h
  obtain ⟨D, dd, tp, fs, cs, ws, b, rfl, rfl, T, ed, rfl, htp, hws, e, q⟩ := h
  obtain ⟨u1, u2, rfl, r1, r2⟩ := vals2 r
  cases (show u1 = Value.ref p.1 from r1)
  cases (show u2 = Value.ref tp from r2)
  obtain ⟨hget, _⟩ := I.pin p (List.mem_append.mpr (.inl hp))
  obtain ⟨vs, hv⟩ := hf
  have hx : ObjOk X.prog X.w H s.heap dd (.xd fs) := I.hok dd _ ed
  obtain ⟨mA, hns, _⟩ := hx
  obtain ⟨od, ho, _⟩ := lookIn_ns hns
  have J : PySem.W.InstAt s.heap p.1 p.2 D (some od) := ⟨hget, hz.1, by unfold PySem.W.notCls; rw [hv] <;> rfl, by rw [hz.2]; exact ho⟩
  have hT : ObjOk X.prog X.w H s.heap tp (.tup cs) := I.hok tp _ htp
  obtain ⟨_, its, rv, o, g1, g2, n, g3⟩ := hT
  have e3 := hws its rv
  subst e3
  obtain ⟨oc, od2, dt, sl⟩ := o
  simp only at g2 g3
  subst g2 g3
  exact PySem.W.kia_tup (PySem.W.kitx_exc T.cl T.hg T.hk T.hs T.ha T.hn T.ht T.hm) I.kIn J g1 e (fun z => nomatch z) fun tk => ⟨.bl b, H, I.kept (t' := tk) fun _ _ z => z, rfl, q⟩
section
variable {P : Program} {w : World} {K : PySem.W.Frag} {mg : Str → Option Value} {base : Heap}
theorem fn_ofE {k : Nat} {f : Addr} {name qual : Str} {params : Arguments} {body : List Stmt} {scope : Scope} {dV kV doc pm cdv ct oc : Value} {an od : Option Addr} {p : Addr × Obj}
    {osl : Array (Option Value)} {N ps : List Str} {sp : Sp} (lk : K.lookup f = some ⟨oc, od, .func (PySem.W.fnOf name qual params body scope dV kV doc pm an cdv ct), osl⟩) (hcd : PySem.W.codeIn K cdv qual = true) (S : FnScope N ps scope)
    (len : ∀ vs H Q E, sp vs H Q E → vs.length = ps.length)
    (hbody : ∀ (A : Around) (outer : List Env) (s : Shared) (H : Hp) (vs : List V) (Q : VK) (E : XK), L2H.Hot1 A p → L2H.RoomH k (A.deeper (envOfC qual scope s.heap.objs.size f cdv)) → sp vs H Q E →
      ∃ t, PSs (L2H.cxH C8.CX0 P w K mg base N qual scope f cdv A outer s H E p) body t ∧ t { nx := fun _ H' => Q .non H', rt := Q } (L2.start N vs) H) :
    FnE P w K mg base (k + 1) f (PySem.W.fnOf name qual params body scope dV kV doc pm an cdv ct) ps p sp := by
  refine ⟨len, fun A outer s H args us vs Q E hr hot hpin e0 hb r hsp => ?_⟩
  have hl := len _ _ _ _ hsp
  have KX : K.In s.heap := e0.mod.kin.keeps fun b o e => (e0.bs b o e).1
  have lim : s.heap.NoLimit := e0.mod.nolimit.keeps fun b o e => (e0.bs b o e).1
  have hkind : ∀ y ∈ ps.zip us, scope.names.lookup y.1 = some .local ∨ (scope.names.lookup y.1 = some .cell ∧ ((cellsFrom (s.heap.objs.size + 1) scope.names []).lookup y.1).isSome = true) := fun ⟨n, v⟩ hy => by
    rcases S.par n (List.of_mem_zip hy).1 with q | q
    · exact .inl q
    · exact .inr ⟨q, PySem.W.cellsFrom_some _ _ _ (.inl q)⟩
  refine codeAny_call_function hr.depth (KX _ _ lk) rfl S.co S.gen rfl (PySem.W.codeRec_of KX hcd) (hb _ _ _ _ ?_)
  refine wpAny_newFunctionEnv_cells S.kind hkind fun env he s1 x => ?_
  subst he
  refine ⟨lim.keeps x.toInCall.keep, codeAny_func ?_⟩
  obtain ⟨t, ht, hq⟩ := hbody A outer s H vs Q E hot (hr.deeper _) hsp
  have I : Inv (L2H.cxH C8.CX0 P w K mg base N qual scope f cdv A outer s H E p) [] (L2.start N vs) H s1 := L2H.inv_startH S hpin e0 hl r x
  refine wpAny_mono (ht.run [] s1 (L2.start N vs) H _ I hq) (fun fl s' hs => ?_) fun e s' hs => hs
  have fin : ∀ {σ' : L2.St} {H' : Hp} {v : V} {u : Value}, Inv (L2H.cxH C8.CX0 P w K mg base N qual scope f cdv A outer s H E p) [] σ' H' s' → RelV v u → Q v H' → CE outer P w H s Q u s' :=
    fun {σ' H' v u} J rv q => ⟨v, H', J.os, J.bare, J.base, J.hok, rv, q⟩
  cases fl with
  | ret u =>
    obtain ⟨v, σ', H', J, rv, q⟩ := hs
    exact fin J rv q
  | next =>
    obtain ⟨σ', H', J, q⟩ := hs
    exact fin (v := V.non) (u := Value.none) J rfl q
  | brk =>
    obtain ⟨_, _, _, q⟩ := hs
    exact False.elim q
  | cont =>
    obtain ⟨_, _, _, q⟩ := hs
    exact False.elim q

theorem fnE0 {x qual : Str} {st : Stmt} {f : Addr} {fd : FuncData} {N ps : List Str} {k : Nat} {p : Addr × Obj} {sp : Sp} (F : C8.Fun K x qual st f fd) (S : FnScope N ps (C8.fnScope st)) (len : ∀ vs H Q E, sp vs H Q E → vs.length = ps.length)
    (hb : ∀ (cdv : Value) (A : Around) (outer : List Env) (s : Shared) (H : Hp) (vs : List V) (Q : VK) (E : XK), L2H.RoomH k (A.deeper (envOfC qual (C8.fnScope st) s.heap.objs.size f cdv)) → sp vs H Q E →
      L2H.HotC (L2H.cxH C8.CX0 P w K mg base N qual (C8.fnScope st) f cdv A outer s H E p).nox → p ∈ (L2H.cxH C8.CX0 P w K mg base N qual (C8.fnScope st) f cdv A outer s H E p).nox.pn →
      ∃ t, PSs (L2H.cxH C8.CX0 P w K mg base N qual (C8.fnScope st) f cdv A outer s H E p).nox (C8.fnBody st) t ∧ t { nx := fun _ H' => Q .non H', rt := Q } (start N vs) H) : FnE P w K mg base (k + 1) f fd ps p sp := by
  obtain ⟨oc, od, dV, kV, doc, pm, an, cdv, ct, osl, rfl, lk, hcd⟩ := F.ex
  refine fn_ofE lk hcd S len fun A outer s H vs Q E hot hr hsp => ?_
  obtain ⟨t, h, q⟩ := hb cdv A outer s H vs Q E hr hsp ⟨p, hot, List.mem_singleton.mpr rfl⟩ (List.mem_singleton.mpr rfl)
  exact ⟨t, h.nox, q⟩
end
section
variable {X : Cx} {k j : Nat} {x : Str} {sp : Addr → Value → Option Addr → Sp} {q pos : Pos} {e : Expr} {es : List Expr} {t : TA} {a : Addr} {oe : Obj} {cls : Value} {d : Option Addr} {pn : List (Addr × Obj)}
/-- such a def called in the except suite -/
theorem pe_ce (c : CalE X.prog X.w X.K X.mg X.base k x sp) (hr : L2H.RoomH j (X.suite a ((a, oe) :: pn)).A) (hk : k ≤ j) (hz : L2N.Zn cls d oe) (hf : ∃ vs, oe.data = .fields vs) (hg : Gl (X.suite a ((a, oe) :: pn)) x) (ha : PA (X.suite a ((a, oe) :: pn)) (e :: es) t)
    (hdb : (x == ("__debug__" : Str)) = false := by decide) (he : starEach (e :: es) X.env = (false, eval e X.env) :: starEach es X.env := by rfl) (hpl : (backTo pos (starEach es X.env)).any (·.1) = false := by rfl) :
    PE (X.suite a ((a, oe) :: pn)) (.Call (.Name x q) (e :: es) [] pos) (tCallS (sp a cls d) (fun _ => C8.E0) t) := by
  obtain ⟨f, fd, ps, hm, kp, hb, F⟩ := c.ex
  have F := F (a, oe) cls d hz.zc hf
  obtain ⟨vs0, hv⟩ := hf
  refine ⟨fun pins s σ H Q I h => ?_⟩
  refine wpAny_Call_Name_kw (ld_glob I hg hm ?_ hdb)
  refine PySem.W.callWith_K (h₀ := X.base) I.ok.mod.kin kp (thn (ha.run pos pins s σ H _ I h) fun us s1 ⟨vs, H1, I1, r, h⟩ => ⟨I1.kIn, ?_⟩) he hpl
  have hl : us.length = ps.length := by rw [← r.length]; exact F.len _ _ _ _ h
  have b := hb s1 us I1.kIn (by rw [List.append_nil]; exact hl)
  rw [List.append_nil] at b
  have P1 := I1.pin (a, oe) (List.mem_append_left _ List.mem_cons_self)
  have hpin : L2H.PinOk X.stack H1 s1 (a, oe) := ⟨P1.1, P1.2.1, fun hm => (List.mem_cons.mp (I1.stkSub a hm)).elim P1.2.2.1 P1.2.2.2.1, P1.2.2.2.2⟩
  refine wpAny_call (codeAny_mono (F.run (X.suite a ((a, oe) :: pn)).A X.stack s1 H1 ⟨us, []⟩ us vs Q C8.E0 (hr.mono hk) ⟨rfl, vs0, hv, hz.2.2 vs0 hv⟩ hpin I1.env0 b r h) fun r s' hq => ?_)
  cases r with
  | error e => exact hq.elim
  | ok fl =>
    cases fl with
    | ret u => exact I1.after hq
    | next => exact False.elim hq
    | brk => exact False.elim hq
    | cont => exact False.elim hq
end
end RJ
end

section
set_option maxRecDepth 100000
set_option maxHeartbeats 4000000
namespace RJ
open PySem PySem.Spec PyProof.Rows L2
/-! ### a text turned about -/
def tRevS (te : TE) : TE := fun σ H Q => te σ H fun x H1 => ∃ z, x = .str z ∧ z.length ≤ sizeLine ∧ Q (.str ⟨z.cps.toList.reverse.toArray⟩) H1
section
variable {X : Cx}
theorem pe_revS {e : Expr} {te : TE} {k : Nat} {p1 p2 p3 pos : Pos} (he : PE X e te) : PE X (.Subscript e (.Slice none none (some (.UnaryOp .USub (.Constant (.int 1) k p1) p2)) p3) pos) (tRevS te) := by
  refine ⟨fun pins s σ H Q I h => ?_⟩
  refine Subscript_ (thn (he.run pins s σ H _ I h) fun v s1 ⟨x, H1, I1, r1, q1⟩ => ?_)
  obtain ⟨z, ex, hz, q⟩ := q1
  subst ex
  obtain ⟨t, rfl⟩ := r1
  have hst : PO X (some (.UnaryOp .USub (.Constant (.int 1) k p1) p2)) (tPart (tUn (rU fun i => .int (-i)) (tC (.int 1)))) := po_some (pe_un un_neg pe_int)
  refine wpAny_Slice (thn (po_none.run pins s1 σ H1 (fun o H2 => o = none ∧ H2 = H1) I1 ⟨rfl, rfl⟩) fun vl s2 ⟨l, H2, I2, pl, el, e2⟩ => ?_)
  subst el e2
  refine thn (po_none.run pins s2 σ H2 (fun o H3 => o = none ∧ H3 = H2) I2 ⟨rfl, rfl⟩) fun vu s3 ⟨u, H3, I3, pu, eu, e3⟩ => ?_
  subst eu e3
  refine thn (hst.run pins s3 σ H3 (fun o H4 => o = some (-1) ∧ H4 = H3) I3 ⟨1, rfl, -1, rfl, rfl, rfl⟩) fun vs s4 ⟨o, H4, I4, ps, eo, e4⟩ => ?_
  subst eo e4
  have I5 : Inv X pins σ H4 { s4 with heap := s4.heap.push { cls := .type "slice", data := .fields #[vl, vu, vs] } } := I4.kept (t' := s4.toks) fun b ob q => Heap.get?_push_of_some _ q
  cases pl
  cases pu
  obtain ⟨st, rfl, hst1⟩ := IsPart.raw ps
  cases st with
  | none => cases hst1
  | some st =>
  obtain ⟨si, stk⟩ := st
  cases hst1
  show wpAny (model X.prog X.w) X.A (subscriptTail e (.Slice none none (some (.UnaryOp .USub (.Constant (.int 1) k p1) p2)) p3) (.str z t) (.ref s4.heap.objs.size)) (EP X pins σ Q) X.xe { s4 with heap := s4.heap.push { cls := .type "slice", data := .fields #[.none, .none, .int (-1) stk] } }
  refine tail_any (ops := [.ref s4.heap.objs.size, .str z t]) (typeIs_str _ _ _) F.slot_str_getitem.lookup ?_ (by with_unfolding_all rfl)
  refine wpAny_getItem_str_slice (l := none) (u := none) (st := some (-1, stk)) ⟨_, Heap.get?_push_size _ rfl, rfl, rfl⟩ rfl ?_
  have e : (Builtin.Str.strSliceIndices none none (-1) z.length).filterMap (z.cps[·]?) = z.cps.toList.reverse := by
    show (sliceRange ((z.length : Int) - 1) (-1) (-1)).filterMap (z.cps[·]?) = _
    rw [PySem.W.krv_sliceRange, PySem.W.krv_range, List.filterMap_reverse]
    exact congrArg List.reverse (PySem.W.krv_all z.cps)
  show Made.post (if (((-1 : Int) == 1) && (Builtin.Str.strSliceIndices none none (-1) z.length).length == z.length) = true then Made.val (.str z t)
    else Made.str ⟨((Builtin.Str.strSliceIndices none none (-1) z.length).filterMap (z.cps[·]?)).toArray⟩) (EP X pins σ Q) _
  rw [if_neg (by simp), e]
  refine ⟨?_, .str _, H4, I5.tok _, ⟨_, rfl⟩, q⟩
  show (z.cps.toList.reverse.toArray).size ≤ sizeLine
  rw [List.size_toArray, List.length_reverse]
  exact hz
end
end RJ
end

section
namespace RJ
/-- the cut of a text -/
abbrev CT (al : List Nat) (ps : List (Nat × Nat)) (t : List Nat) : List Nat := cutL al.length ps (lets al t)
abbrev TX (al : List Nat) (ps : List (Nat × Nat)) (p : Nat) : List Nat := (textsOf al ps).getD p []
theorem adjs_snoc {C : List Nat} {p : Nat} {q : Nat × Nat} : q ∈ adjs (C ++ [p]) ↔ q ∈ adjs C ∨ (C.getLast? = some q.1 ∧ q.2 = p) := by
  rcases List.eq_nil_or_concat C with rfl | ⟨D, y, rfl⟩
  · simp [adjs]
  · rw [List.concat_eq_append, List.append_assoc]
    show q ∈ adjs (D ++ y :: [p]) ↔ _
    rw [adjs_append, List.mem_append]
    have e : adjs (y :: [p]) = [(y, p)] := rfl
    rw [e, List.mem_singleton, List.getLast?_append]
    have e2 : ([y] : List Nat).getLast?.or D.getLast? = some y := rfl
    rw [e2]
    constructor
    · rintro (h | h)
      · exact .inl h
      · subst h; exact .inr ⟨rfl, rfl⟩
    · rintro (h | ⟨h1, h2⟩)
      · exact .inl h
      · refine .inr ?_
        obtain ⟨q1, q2⟩ := q
        simp only [Option.some.injEq] at h1
        dsimp only at h2
        rw [h1, h2]
section
variable {al : List Nat} {ps : List (Nat × Nat)}
theorem CT_row (hnd : al.Nodup) (h : Proper al ps) {R : List Nat} (hR : ∀ x ∈ R, x < al.length + ps.length) : CT al ps (textR (textsOf al ps) R) = R ↔ ∀ q ∈ adjs R, ∀ r, ¬ Cross al.length ps q.1 q.2 r := by
  rw [← cut_row_iff (h.good hnd) hR, Dn_texts hnd h hR]
theorem textR_one (p : Nat) : textR (textsOf al ps) [p] = TX al ps p := by simp [textR]
/-- a text with a piece behind it -/
theorem CT_app (hnd : al.Nodup) (h : Proper al ps) {u : List Nat} {p : Nat} (hu : ∀ c ∈ u, c ∈ al) (hp : p < al.length + ps.length) :
    CT al ps (u ++ TX al ps p) = CT al ps u ++ [p] ↔ ∀ y, (CT al ps u).getLast? = some y → ∀ r, ¬ Cross al.length ps y p r := by
  have hC : ∀ x ∈ CT al ps u, x < al.length + ps.length := cut_lt hu
  have hR : ∀ x ∈ CT al ps u ++ [p], x < al.length + ps.length := fun x hx => (List.mem_append.mp hx).elim (hC x) fun z => by rw [List.mem_singleton.mp z]; exact hp
  have e1 : textR (textsOf al ps) (CT al ps u ++ [p]) = u ++ TX al ps p := by rw [textR_app, text_cut h.wf hu, textR_one]
  have e2 : CT al ps (textR (textsOf al ps) (CT al ps u)) = CT al ps u := by rw [text_cut h.wf hu]
  have e3 := CT_row hnd h hR
  rw [e1] at e3
  rw [e3]
  constructor
  · intro k y hy r
    exact k (y, p) (adjs_snoc.mpr (.inr ⟨hy, rfl⟩)) r
  · intro k q hq r
    rcases adjs_snoc.mp hq with z | ⟨z1, z2⟩
    · exact (CT_row hnd h hC).mp e2 q z r
    · rw [z2]; exact k _ z1 r
/-- the last piece of the cut of a text -/
theorem CT_last (hnd : al.Nodup) (h : Proper al ps) {t : List Nat} (ht : ∀ c ∈ t, c ∈ al) (hne : t ≠ []) : ∃ x u, (CT al ps t).getLast? = some x ∧ x < al.length + ps.length ∧ t = u ++ TX al ps x ∧ CT al ps t = CT al ps u ++ [x] ∧ 0 < (TX al ps x).length := by
  have htx := text_cut (ps := ps) h.wf ht
  rcases List.eq_nil_or_concat (CT al ps t) with z | ⟨D, x, z⟩
  · rw [show cutL al.length ps (lets al t) = [] from z] at htx
    exact absurd htx.symm hne
  · rw [List.concat_eq_append] at z
    have hlt : ∀ y ∈ D ++ [x], y < al.length + ps.length := by rw [← z]; exact cut_lt ht
    have hx : x < al.length + ps.length := hlt x (by simp)
    have hD : ∀ y ∈ D, y < al.length + ps.length := fun y hy => hlt y (by simp [hy])
    rw [show cutL al.length ps (lets al t) = D ++ [x] from z, textR_app, textR_one] at htx
    have hrow := (CT_row hnd h hlt).mp (by rw [← z]; show CT al ps (textR (textsOf al ps) (CT al ps t)) = CT al ps t; rw [text_cut h.wf ht])
    have hDc : CT al ps (textR (textsOf al ps) D) = D := (CT_row hnd h hD).mpr fun q hq => hrow q (adjs_snoc.mpr (.inl hq))
    exact ⟨x, textR (textsOf al ps) D, by rw [z]; simp, hx, htx.symm, by rw [z, hDc], texts_pos h.wf x hx⟩
/-- the last piece -/
def tailOf (al : List Nat) (ps : List (Nat × Nat)) (t : List Nat) : Nat := ((CT al ps t).getLast?).getD 0
/-- where a piece that ends a text may stand, it is the last one -/
theorem tail_uniq (hnd : al.Nodup) (h : Proper al ps) {t u : List Nat} {p : Nat} (ht : ∀ c ∈ t, c ∈ al) (hp : p < al.length + ps.length) (e : t = u ++ TX al ps p) (hb : u = [] ∨ ∀ r, ¬ Cross al.length ps (tailOf al ps u) p r) :
    p = tailOf al ps t ∧ CT al ps t = CT al ps u ++ [p] := by
  have hu : ∀ c ∈ u, c ∈ al := fun c hc => ht c (by rw [e]; exact List.mem_append_left _ hc)
  have key : CT al ps t = CT al ps u ++ [p] := by
    rw [e]
    refine (CT_app hnd h hu hp).mpr fun y hy r => ?_
    rcases hb with rfl | hb
    · rw [show CT al ps [] = [] from cut_nil _ _] at hy; cases hy
    · have : tailOf al ps u = y := by unfold tailOf; rw [hy]; rfl
      rw [← this]; exact hb r
  refine ⟨?_, key⟩
  unfold tailOf
  rw [key]; simp
/-- the last piece stands so -/
theorem tail_ex (hnd : al.Nodup) (h : Proper al ps) {t : List Nat} (ht : ∀ c ∈ t, c ∈ al) (hne : t ≠ []) : ∃ u, tailOf al ps t < al.length + ps.length ∧ t = u ++ TX al ps (tailOf al ps t) ∧ CT al ps t = CT al ps u ++ [tailOf al ps t] ∧ 0 < (TX al ps (tailOf al ps t)).length ∧
    (u = [] ∨ ∀ r, ¬ Cross al.length ps (tailOf al ps u) (tailOf al ps t) r) := by
  obtain ⟨x, u, h1, h2, h3, h4, h5⟩ := CT_last hnd h ht hne
  have e : tailOf al ps t = x := by unfold tailOf; rw [h1]; rfl
  rw [e]
  refine ⟨u, h2, h3, h4, h5, ?_⟩
  by_cases hu : u = []
  · exact .inl hu
  · have hul : ∀ c ∈ u, c ∈ al := fun c hc => ht c (by rw [h3]; exact List.mem_append_left _ hc)
    obtain ⟨y, _, g1, _⟩ := CT_last hnd h hul hu
    have ey : tailOf al ps u = y := by unfold tailOf; rw [g1]; rfl
    rw [ey]
    exact .inr ((CT_app hnd h hul h2).mp (by rw [← h3]; exact h4) y g1)
/-- the tails of the beginnings of a text -/
def tailsL (al : List Nat) (ps : List (Nat × Nat)) (t : List Nat) (n : Nat) : List Nat := (List.range n).map fun k => tailOf al ps (t.take (k + 1))
theorem tailsL_len (t : List Nat) (n : Nat) : (tailsL al ps t n).length = n := by unfold tailsL; rw [List.length_map, List.length_range]
theorem tailsL_succ (t : List Nat) (n : Nat) : tailsL al ps t (n + 1) = tailsL al ps t n ++ [tailOf al ps (t.take (n + 1))] := by
  unfold tailsL; rw [List.range_succ, List.map_append]; rfl
theorem tailsL_get (t : List Nat) {n k : Nat} (hk : k < n) : (tailsL al ps t n)[k]? = some (tailOf al ps (t.take (k + 1))) := by
  unfold tailsL; rw [List.getElem?_map, List.getElem?_range hk]; rfl
theorem tailsL_lt (hnd : al.Nodup) (h : Proper al ps) {t : List Nat} (ht : ∀ c ∈ t, c ∈ al) {n : Nat} (hn : n ≤ t.length) : ∀ x ∈ tailsL al ps t n, x < al.length + ps.length := fun x hx => by
  unfold tailsL at hx
  obtain ⟨k, hk, rfl⟩ := List.mem_map.mp hx
  have hk' := List.mem_range.mp hk
  have hne : t.take (k + 1) ≠ [] := fun z => by
    have := congrArg List.length z
    rw [List.length_take, List.length_nil] at this; omega
  obtain ⟨u, h1, _⟩ := tail_ex hnd h (t := t.take (k + 1)) (fun c hc => ht c (List.mem_of_mem_take hc)) hne
  exact h1
end
end RJ
namespace RJ
theorem tailsL_take {al : List Nat} {ps : List (Nat × Nat)} (t : List Nat) {n m : Nat} (h : n ≤ m) : tailsL al ps (t.take m) n = tailsL al ps t n := by
  unfold tailsL
  refine List.map_congr_left fun k hk => ?_
  have hk' := List.mem_range.mp hk
  rw [List.take_take, Nat.min_eq_left (by omega)]
end RJ
namespace RJ
section
variable {al : List Nat} {ps : List (Nat × Nat)}
/-- exactly the last piece fits -/
theorem fit_iff (hnd : al.Nodup) (h : Proper al ps) {t : List Nat} {p : Nat} (ht : ∀ c ∈ t, c ∈ al) (hne : t ≠ []) (hp : p < al.length + ps.length) :
    p = tailOf al ps t ↔ ∃ u, t = u ++ TX al ps p ∧ (u = [] ∨ ∀ r, ¬ Cross al.length ps (tailOf al ps u) p r) := by
  constructor
  · rintro rfl
    obtain ⟨u, _, h2, _, _, h5⟩ := tail_ex hnd h ht hne
    exact ⟨u, h2, h5⟩
  · rintro ⟨u, h1, h2⟩
    exact (tail_uniq hnd h ht hp h1 h2).1
theorem pair_iff (hnd : al.Nodup) (h : Proper al ps) {x y : Nat} (hx : x < al.length + ps.length) (hy : y < al.length + ps.length) : CT al ps (TX al ps x ++ TX al ps y) = [x, y] ↔ ∀ r, ¬ Cross al.length ps x y r := by
  have hx' : x < (textsOf al ps).length := by rw [textsOf_len]; exact hx
  have e : (textsOf al ps)[x]? = some (TX al ps x) := by
    rw [List.getElem?_eq_getElem hx']
    show _ = some ((textsOf al ps).getD x [])
    rw [List.getD_eq_getElem?_getD, List.getElem?_eq_getElem hx']; rfl
  have hc : CT al ps (TX al ps x) = [x] := cut_piece hnd h x _ e
  have hin : ∀ c ∈ TX al ps x, c ∈ al := textsOf_al _ (List.mem_of_getElem? e)
  have := CT_app hnd h hin hy
  rw [hc] at this
  rw [show ([x, y] : List Nat) = [x] ++ [y] from rfl, this]
  constructor
  · intro k; exact k x rfl
  · intro k z hz; cases hz; exact k
end
end RJ
end

section
namespace RJ
section
variable {al : List Nat} {ps : List (Nat × Nat)}
/-- the place at which the last piece of the cut of the first k letters begins -/
def parP (al : List Nat) (ps : List (Nat × Nat)) (t : List Nat) (k : Nat) : Nat := k - (TX al ps (tailOf al ps (t.take k))).length
theorem take_mem {t : List Nat} {k : Nat} (ht : ∀ c ∈ t, c ∈ al) : ∀ c ∈ t.take k, c ∈ al := fun c hc => ht c (List.mem_of_mem_take hc)
theorem par_spec (hnd : al.Nodup) (h : Proper al ps) {t : List Nat} (ht : ∀ c ∈ t, c ∈ al) {k : Nat} (h0 : 0 < k) (hk : k ≤ t.length) :
    parP al ps t k < k ∧ tailOf al ps (t.take k) < al.length + ps.length ∧ (TX al ps (tailOf al ps (t.take k))).length ≤ k ∧ t.take k = t.take (parP al ps t k) ++ TX al ps (tailOf al ps (t.take k)) ∧ CT al ps (t.take k) = CT al ps (t.take (parP al ps t k)) ++ [tailOf al ps (t.take k)] ∧
    (parP al ps t k = 0 ∨ ∀ r, ¬ Cross al.length ps (tailOf al ps (t.take (parP al ps t k))) (tailOf al ps (t.take k)) r) := by
  have hl : (t.take k).length = k := by rw [List.length_take]; omega
  have hne : t.take k ≠ [] := fun z => by rw [z] at hl; rw [List.length_nil] at hl; omega
  obtain ⟨u, h1, h2, h3, h4, h5⟩ := tail_ex hnd h (take_mem ht) hne
  have hlen : k = u.length + (TX al ps (tailOf al ps (t.take k))).length := by
    have := congrArg List.length h2
    rwa [hl, List.length_append] at this
  have hp : parP al ps t k = u.length := by unfold parP; omega
  have hu : t.take (parP al ps t k) = u := by
    have e := congrArg (List.take u.length) h2
    rw [List.take_left, List.take_take, Nat.min_eq_left (by omega)] at e
    rw [hp]; exact e
  refine ⟨by rw [hp]; omega, h1, by omega, by rw [hu]; exact h2, by rw [hu]; exact h3, ?_⟩
  rw [hu]
  rcases h5 with z | z
  · left; rw [hp, z]; rfl
  · exact .inr z
/-- the cut of the first c letters begins the one of the first k -/
def Anc (al : List Nat) (ps : List (Nat × Nat)) (t : List Nat) (c k : Nat) : Prop := c ≤ k ∧ CT al ps (t.take c) <+: CT al ps (t.take k)
theorem Anc.refl (t : List Nat) (k : Nat) : Anc al ps t k k := ⟨Nat.le_refl _, List.prefix_refl _⟩
theorem Anc.trans {t : List Nat} {a b c : Nat} (h1 : Anc al ps t a b) (h2 : Anc al ps t b c) : Anc al ps t a c := ⟨Nat.le_trans h1.1 h2.1, h1.2.trans h2.2⟩
theorem Anc.par (hnd : al.Nodup) (h : Proper al ps) {t : List Nat} (ht : ∀ c ∈ t, c ∈ al) {k : Nat} (h0 : 0 < k) (hk : k ≤ t.length) : Anc al ps t (parP al ps t k) k := by
  obtain ⟨h1, _, _, _, h5, _⟩ := par_spec hnd h ht h0 hk
  exact ⟨by omega, by rw [h5]; exact List.prefix_append _ _⟩
theorem pre_len {R R' : List Nat} {t t' : List Nat} (hw : WF al.length ps) (ht : ∀ c ∈ t, c ∈ al) (ht' : ∀ c ∈ t', c ∈ al) (h : CT al ps t <+: CT al ps t') : t <+: t' := by
  obtain ⟨S, hS⟩ := h
  have e := congrArg (textR (textsOf al ps)) hS
  rw [textR_app, text_cut hw ht, text_cut hw ht'] at e
  exact ⟨_, e⟩
theorem pre_split {a b : List Nat} {x : Nat} (h : a <+: b ++ [x]) : a <+: b ∨ a = b ++ [x] := by
  rcases List.prefix_concat_iff.mp h with z | z
  · exact .inr z
  · exact .inl z
theorem Anc.step (hnd : al.Nodup) (h : Proper al ps) {t : List Nat} (ht : ∀ c ∈ t, c ∈ al) {c k : Nat} (hc : Anc al ps t c k) (hlt : c < k) (hk : k ≤ t.length) : Anc al ps t c (parP al ps t k) := by
  obtain ⟨h1, _, _, _, h5, _⟩ := par_spec hnd h ht (by omega : 0 < k) hk
  have h2 := hc.2
  rw [h5] at h2
  rcases pre_split h2 with z | z
  · refine ⟨?_, z⟩
    have := (pre_len (R := []) (R' := []) h.wf (take_mem ht) (take_mem ht) z).length_le
    rw [List.length_take, List.length_take] at this; omega
  · exfalso
    have e := congrArg (fun r => (textR (textsOf al ps) r).length) (z.trans h5.symm)
    rw [text_cut h.wf (take_mem ht), text_cut h.wf (take_mem ht), List.length_take, List.length_take] at e
    omega
/-- a piece with which the cut of a text that begins so comes to its end, or first goes beyond it -/
def Cov (al : List Nat) (ps : List (Nat × Nat)) (t : List Nat) (b p : Nat) : Prop := b < t.length ∧ p < al.length + ps.length ∧ t.drop b <+: TX al ps p ∧ (b = 0 ∨ ∀ r, ¬ Cross al.length ps (tailOf al ps (t.take b)) p r)
theorem Cov.text (hnd : al.Nodup) (h : Proper al ps) {t : List Nat} (ht : ∀ c ∈ t, c ∈ al) {b p : Nat} (hc : Cov al ps t b p) :
    t <+: t.take b ++ TX al ps p ∧ (∀ c ∈ t.take b ++ TX al ps p, c ∈ al) ∧ CT al ps (t.take b ++ TX al ps p) = CT al ps (t.take b) ++ [p] ∧ t.length ≤ b + (TX al ps p).length := by
  obtain ⟨h1, h2, h3, h4⟩ := hc
  have hm : ∀ c ∈ TX al ps p, c ∈ al := by
    intro c hc
    have hp' : p < (textsOf al ps).length := by rw [textsOf_len]; exact h2
    refine textsOf_al _ (List.getElem_mem hp') c ?_
    have : TX al ps p = (textsOf al ps)[p] := by show (textsOf al ps).getD p [] = _; rw [List.getD_eq_getElem?_getD, List.getElem?_eq_getElem hp']; rfl
    rw [← this]; exact hc
  refine ⟨?_, fun c hc => (List.mem_append.mp hc).elim (take_mem ht c) (hm c), ?_, ?_⟩
  · obtain ⟨R, hR⟩ := h3
    refine ⟨R, ?_⟩
    rw [← hR, ← List.append_assoc, List.take_append_drop]
  · refine (CT_app hnd h (take_mem ht) h2).mpr fun y hy r => ?_
    rcases h4 with rfl | h4
    · rw [List.take_zero, show CT al ps [] = [] from cut_nil _ _] at hy; cases hy
    · have : tailOf al ps (t.take b) = y := by unfold tailOf; rw [hy]; rfl
      rw [← this]; exact h4 r
  · have := h3.length_le
    rw [List.length_drop] at this; omega
theorem take_pre {t y : List Nat} (h : t <+: y) {k : Nat} (hk : k ≤ t.length) : y.take k = t.take k := by
  obtain ⟨R, rfl⟩ := h
  rw [List.take_append_of_le_length hk]
theorem drop_pre {t y : List Nat} (h : t <+: y) (k : Nat) : t.drop k <+: y.drop k := by
  obtain ⟨R, rfl⟩ := h
  by_cases c : k ≤ t.length
  · rw [List.drop_append_of_le_length c]; exact List.prefix_append _ _
  · rw [List.drop_eq_nil_of_le (by omega)]; exact List.nil_prefix
/-- the cut of every text that begins so goes through one of them -/
theorem cov_ex (hnd : al.Nodup) (h : Proper al ps) {t y : List Nat} (hy : ∀ c ∈ y, c ∈ al) (hp : t <+: y) (hne : t ≠ []) : ∃ b p, Cov al ps t b p ∧ CT al ps (t.take b) ++ [p] <+: CT al ps y := by
  have h0 : 0 < t.length := List.length_pos_iff.mpr hne
  have hle := hp.length_le
  have key : ∀ n k, k ≤ n → t.length ≤ k → k ≤ y.length → ∃ b p, Cov al ps t b p ∧ CT al ps (t.take b) ++ [p] <+: CT al ps (y.take k) := by
    intro n
    induction n with
    | zero => intro k hk h1 _; omega
    | succ n ih =>
      intro k hk h1 h2
      obtain ⟨g1, g2, g3, g4, g5, g6⟩ := par_spec hnd h hy (by omega : 0 < k) h2
      by_cases c : t.length ≤ parP al ps y k
      · obtain ⟨b, p, h3, h4⟩ := ih (parP al ps y k) (by omega) c (by omega)
        exact ⟨b, p, h3, h4.trans (by rw [g5]; exact List.prefix_append _ _)⟩
      · have e : y.take (parP al ps y k) = t.take (parP al ps y k) := take_pre hp (by omega)
        refine ⟨parP al ps y k, tailOf al ps (y.take k), ⟨by omega, g2, ?_, ?_⟩, ?_⟩
        · have hd : (y.take k).drop (parP al ps y k) = TX al ps (tailOf al ps (y.take k)) := by
            conv => lhs; rw [g4]
            have hl : (y.take (parP al ps y k)).length = parP al ps y k := by rw [List.length_take]; omega
            conv => lhs; arg 1; rw [← hl]
            rw [List.drop_left]
          rw [← hd]
          have ht2 : t <+: y.take k := by
            obtain ⟨R, rfl⟩ := hp
            exact ⟨R.take (k - t.length), by rw [List.take_append, List.take_of_length_le h1]⟩
          exact drop_pre ht2 _
        · rw [e] at g6; exact g6
        · rw [g5, e]; exact List.prefix_refl _
  have := key y.length y.length (Nat.le_refl _) hle (Nat.le_refl _)
  rwa [List.take_length] at this
/-- the longest common beginning of the cuts of all texts that begin so -/
def SureIs (al : List Nat) (ps : List (Nat × Nat)) (t S : List Nat) : Prop := (∀ y, (∀ c ∈ y, c ∈ al) → t <+: y → S <+: CT al ps y) ∧ ∀ S', (∀ y, (∀ c ∈ y, c ∈ al) → t <+: y → S' <+: CT al ps y) → S' <+: S
theorem SureIs.uniq {t S S' : List Nat} (h : SureIs al ps t S) (h' : SureIs al ps t S') : S = S' := by
  have h1 := h.2 S' h'.1
  have h2 := h'.2 S h.1
  exact h2.eq_of_length (Nat.le_antisymm h2.length_le h1.length_le)
theorem SureIs.mono {t u S S' : List Nat} (h : SureIs al ps t S) (h' : SureIs al ps u S') (hp : t <+: u) : S <+: S' :=
  h'.2 S fun y hy hu => h.1 y hy (hp.trans hu)
theorem SureIs.cut {t S : List Nat} (h : SureIs al ps t S) (ht : ∀ c ∈ t, c ∈ al) : S <+: CT al ps t := h.1 t ht (List.prefix_refl _)
theorem sure_nil : SureIs al ps [] [] := ⟨fun y _ _ => List.nil_prefix, fun S' h => by
  have := h [] (fun c hc => absurd hc (by simp)) (List.prefix_refl _)
  rw [show CT al ps [] = [] from cut_nil _ _] at this; exact this⟩
/-- only one -/
theorem sure_one (hnd : al.Nodup) (h : Proper al ps) {t : List Nat} (ht : ∀ c ∈ t, c ∈ al) {b p : Nat} (hc : Cov al ps t b p) (hu : ∀ b' p', Cov al ps t b' p' → b' = b ∧ p' = p) : SureIs al ps t (CT al ps (t.take b) ++ [p]) := by
  have hne : t ≠ [] := fun z => by have := hc.1; rw [z, List.length_nil] at this; omega
  obtain ⟨c1, c2, c3, c4⟩ := hc.text hnd h ht
  refine ⟨fun y hy hp => ?_, fun S' h' => ?_⟩
  · obtain ⟨b', p', h1, h2⟩ := cov_ex hnd h hy hp hne
    obtain ⟨rfl, rfl⟩ := hu b' p' h1
    exact h2
  · rw [← c3]; exact h' _ c2 c1
/-- more than one: all of them, taken back to one place -/
theorem sure_more (hnd : al.Nodup) (h : Proper al ps) {t : List Nat} (ht : ∀ c ∈ t, c ∈ al) {b1 p1 b2 p2 c : Nat} (h1 : Cov al ps t b1 p1) (h2 : Cov al ps t b2 p2) (hne : ¬ (b1 = b2 ∧ p1 = p2)) (hct : c ≤ t.length)
    (hall : ∀ b p, Cov al ps t b p → Anc al ps t c b) (hmax : ∀ c', (∀ b p, Cov al ps t b p → Anc al ps t c' b) → Anc al ps t c' c) : SureIs al ps t (CT al ps (t.take c)) := by
  have htne : t ≠ [] := fun z => by have := h1.1; rw [z, List.length_nil] at this; omega
  refine ⟨fun y hy hp => ?_, fun S' h' => ?_⟩
  · obtain ⟨b', p', g1, g2⟩ := cov_ex hnd h hy hp htne
    exact ((hall b' p' g1).2.trans (List.prefix_append _ _)).trans g2
  · obtain ⟨k1, k2, k3, k4⟩ := h1.text hnd h ht
    have e1 := h' _ k2 k1
    rw [k3] at e1
    have e2 : CT al ps (t.take c) <+: CT al ps (t.take b1) ++ [p1] := (hall _ _ h1).2.trans (List.prefix_append _ _)
    rcases List.prefix_or_prefix_of_prefix e1 e2 with z | z
    · exact z
    · obtain ⟨R, hR⟩ := z
      cases R with
      | nil => rw [List.append_nil] at hR; rw [hR]; exact List.prefix_refl _
      | cons q R =>
        exfalso
        have hq : ∀ b p, Cov al ps t b p → CT al ps (t.take c) ++ [q] <+: CT al ps (t.take b) ∨ (c = b ∧ q = p) := by
          intro b p hc
          obtain ⟨j1, j2, j3, j4⟩ := hc.text hnd h ht
          have e3 := h' _ j2 j1
          rw [j3, ← hR] at e3
          have e4 : CT al ps (t.take c) ++ [q] <+: CT al ps (t.take b) ++ [p] := by
            refine List.IsPrefix.trans ⟨R, ?_⟩ e3
            rw [List.append_assoc]; rfl
          rcases pre_split e4 with z | z
          · exact .inl z
          · right
            obtain ⟨z1, z2⟩ := List.append_inj' z rfl
            refine ⟨?_, List.singleton_inj.mp z2⟩
            have e := congrArg (fun r => (textR (textsOf al ps) r).length) z1
            rw [text_cut h.wf (take_mem ht), text_cut h.wf (take_mem ht), List.length_take, List.length_take] at e
            have := hc.1
            omega
        have hqlt : ∀ b p, Cov al ps t b p → CT al ps (t.take c) ++ [q] <+: CT al ps (t.take b) → q < al.length + ps.length := fun b p _ z => by
          refine cut_lt (ps := ps) (t := t.take b) (take_mem ht) q ?_
          exact z.subset (by simp)
        have far : ∀ b p, Cov al ps t b p → CT al ps (t.take c) ++ [q] <+: CT al ps (t.take b) → Anc al ps t (c + (TX al ps q).length) b ∧ c + (TX al ps q).length ≤ b := fun b p hc z => by
          obtain ⟨R2, hR2⟩ := z
          have hrow : ∀ x ∈ CT al ps (t.take c) ++ [q], x < al.length + ps.length := fun x hx => cut_lt (ps := ps) (t := t.take b) (take_mem ht) x (by
            show x ∈ CT al ps (t.take b)
            rw [← hR2]; exact List.mem_append_left _ hx)
          have hrowb : ∀ x ∈ CT al ps (t.take b), x < al.length + ps.length := cut_lt (take_mem ht)
          have hcr := (CT_row hnd h hrowb).mp (by rw [text_cut h.wf (take_mem ht)])
          have hself : CT al ps (textR (textsOf al ps) (CT al ps (t.take c) ++ [q])) = CT al ps (t.take c) ++ [q] := (CT_row hnd h hrow).mpr fun x hx => hcr x (by rw [← hR2]; exact adjs_sub_left hx)
          have etx : textR (textsOf al ps) (CT al ps (t.take c) ++ [q]) = t.take c ++ TX al ps q := by rw [textR_app, text_cut h.wf (take_mem ht), textR_one]
          have eb : t.take c ++ TX al ps q <+: t.take b := by
            have e := congrArg (textR (textsOf al ps)) hR2
            rw [textR_app, etx, text_cut h.wf (take_mem ht)] at e
            exact ⟨_, e⟩
          have hlen := eb.length_le
          rw [List.length_append, List.length_take, List.length_take, Nat.min_eq_left hct] at hlen
          have e5 : t.take (c + (TX al ps q).length) = t.take c ++ TX al ps q := by
            have h6 : t.take c ++ TX al ps q <+: t := eb.trans (List.take_prefix _ _)
            have h7 := List.prefix_iff_eq_take.mp h6
            rw [List.length_append, List.length_take, Nat.min_eq_left hct] at h7
            exact h7.symm
          refine ⟨⟨by omega, ?_⟩, by omega⟩
          rw [e5, ← etx, hself]
          exact ⟨R2, hR2⟩
        by_cases ex : ∃ b p, Cov al ps t b p ∧ c = b ∧ q = p
        · obtain ⟨b, p, g1, rfl, rfl⟩ := ex
          have big := (g1.text hnd h ht).2.2.2
          have no : ∀ b' p', Cov al ps t b' p' → c = b' ∧ q = p' := fun b' p' g' => by
            rcases hq b' p' g' with z | z
            · have := (far b' p' g' z).2
              have := g'.1
              omega
            · exact z
          obtain ⟨a1, a2⟩ := no _ _ h1
          obtain ⟨a3, a4⟩ := no _ _ h2
          exact hne ⟨a1.symm.trans a3, a2.symm.trans a4⟩
        · have hq2 : ∀ b p, Cov al ps t b p → CT al ps (t.take c) ++ [q] <+: CT al ps (t.take b) := fun b p g => by
            rcases hq b p g with z | z
            · exact z
            · exact absurd ⟨b, p, g, z⟩ ex
          have := hmax (c + (TX al ps q).length) fun b p g => (far b p g (hq2 b p g)).1
          have pos := texts_pos h.wf q (hqlt _ _ h1 (hq2 _ _ h1))
          have := this.1
          have : (TX al ps q).length = ((textsOf al ps).getD q []).length := rfl
          omega
/-- what the covers' places are taken back to -/
structure Places (al : List Nat) (ps : List (Nat × Nat)) (t : List Nat) (B P : List Nat) : Prop where
  le : ∀ x ∈ P, x ≤ t.length
  up : ∀ b ∈ B, ∃ x ∈ P, Anc al ps t x b
  mx : ∀ c, (∀ b ∈ B, Anc al ps t c b) → ∀ x ∈ P, Anc al ps t c x
theorem Places.start {t B : List Nat} {P : List Nat} (hB : ∀ b ∈ B, b ≤ t.length) (h : ∀ x, x ∈ P ↔ x ∈ B) : Places al ps t B P :=
  ⟨fun x hx => hB x ((h x).mp hx), fun b hb => ⟨b, (h b).mpr hb, Anc.refl t b⟩, fun c hc x hx => hc x ((h x).mp hx)⟩
theorem Places.step (hnd : al.Nodup) (h : Proper al ps) {t : List Nat} (ht : ∀ c ∈ t, c ∈ al) {B P P' : List Nat} {m o : Nat} (I : Places al ps t B P) (hm : m ∈ P) (ho : o ∈ P) (hom : o < m) (h' : ∀ x, x ∈ P' ↔ (x ∈ P ∧ x ≠ m) ∨ x = parP al ps t m) : Places al ps t B P' := by
  have hml := I.le m hm
  obtain ⟨g1, _⟩ := par_spec hnd h ht (by omega : 0 < m) hml
  refine ⟨fun x hx => ?_, fun b hb => ?_, fun c hc x hx => ?_⟩
  · rcases (h' x).mp hx with z | z
    · exact I.le x z.1
    · omega
  · obtain ⟨x, hx, ha⟩ := I.up b hb
    by_cases e : x = m
    · subst e
      exact ⟨_, (h' _).mpr (.inr rfl), (Anc.par hnd h ht (by omega) hml).trans ha⟩
    · exact ⟨x, (h' x).mpr (.inl ⟨hx, e⟩), ha⟩
  · rcases (h' x).mp hx with z | z
    · exact I.mx c hc x z.1
    · subst z
      have a1 := I.mx c hc m hm
      have a2 := (I.mx c hc o ho).1
      exact a1.step hnd h ht (by omega) hml
/-- all covers, in their order -/
def covFrom (al : List Nat) (ps : List (Nat × Nat)) (t : List Nat) (fits : Nat → Nat → Bool) (lo n : Nat) : List (Nat × Nat) := (List.range' lo n).flatMap fun b => ((List.range (al.length + ps.length)).filter (fits b)).map fun p => (b, p)
theorem covFrom_mem {t : List Nat} {fits : Nat → Nat → Bool} {lo n b p : Nat} : (b, p) ∈ covFrom al ps t fits lo n ↔ (lo ≤ b ∧ b < lo + n) ∧ p < al.length + ps.length ∧ fits b p = true := by
  unfold covFrom
  rw [List.mem_flatMap]
  constructor
  · rintro ⟨a, ha, hb⟩
    obtain ⟨q, hq, e⟩ := List.mem_map.mp hb
    cases e
    rw [List.mem_filter, List.mem_range] at hq
    rw [List.mem_range'_1] at ha
    exact ⟨ha, hq.1, hq.2⟩
  · rintro ⟨h1, h2, h3⟩
    exact ⟨b, List.mem_range'_1.mpr h1, List.mem_map.mpr ⟨p, by rw [List.mem_filter, List.mem_range]; exact ⟨h2, h3⟩, rfl⟩⟩
theorem covFrom_nodup {t : List Nat} {fits : Nat → Nat → Bool} : ∀ {n lo : Nat}, (covFrom al ps t fits lo n).Nodup
  | 0, _ => List.nodup_nil
  | n + 1, lo => by
    have e : covFrom al ps t fits lo (n + 1) = (((List.range (al.length + ps.length)).filter (fits lo)).map fun p => (lo, p)) ++ covFrom al ps t fits (lo + 1) n := by
      unfold covFrom
      rw [List.range'_succ, List.flatMap_cons]
    rw [e]
    refine List.nodup_append.mpr ⟨?_, covFrom_nodup, fun x hx y hy => ?_⟩
    · have : ∀ l : List Nat, l.Nodup → (l.map fun p => (lo, p)).Nodup := by
        intro l hl
        induction l with
        | nil => exact List.nodup_nil
        | cons a l ih =>
          rw [List.nodup_cons] at hl
          rw [List.map_cons, List.nodup_cons]
          refine ⟨fun hm => ?_, ih hl.2⟩
          obtain ⟨q, hq, e⟩ := List.mem_map.mp hm
          cases e
          exact hl.1 hq
      exact this _ ((List.nodup_range).filter _)
    · obtain ⟨q, _, rfl⟩ := List.mem_map.mp hx
      rintro rfl
      have := (covFrom_mem.mp hy).1.1
      omega
end
end RJ
namespace RJ
section
variable {al : List Nat} {ps : List (Nat × Nat)}
/-- the pieces below n whose texts begin so -/
def begL (al : List Nat) (ps : List (Nat × Nat)) (n : Nat) (u : List Nat) : List Nat := (List.range n).filter fun q => u.isPrefixOf (TX al ps q)
/-- the same, with piece n where the beginning has at most i letters -/
def begC (al : List Nat) (ps : List (Nat × Nat)) (n i : Nat) (u : List Nat) : List Nat := begL al ps n u ++ (if u <+: TX al ps n ∧ u.length ≤ i then [n] else [])
theorem begL_zero (u : List Nat) : begL al ps 0 u = [] := rfl
theorem begL_mem {n : Nat} {u : List Nat} {q : Nat} : q ∈ begL al ps n u ↔ q < n ∧ u <+: TX al ps q := by
  unfold begL; rw [List.mem_filter, List.mem_range, List.isPrefixOf_iff_prefix]
theorem begL_succ (n : Nat) (u : List Nat) : begL al ps (n + 1) u = begC al ps n (TX al ps n).length u := by
  unfold begC begL
  rw [List.range_succ, List.filter_append]
  congr 1
  by_cases h : u <+: TX al ps n
  · rw [if_pos ⟨h, h.length_le⟩, List.filter_cons, if_pos (List.isPrefixOf_iff_prefix.mpr h)]; rfl
  · rw [if_neg (fun z => h z.1)]
    have : u.isPrefixOf (TX al ps n) = false := by
      cases e : u.isPrefixOf (TX al ps n) with
      | false => rfl
      | true => exact absurd (List.isPrefixOf_iff_prefix.mp e) h
    rw [List.filter_cons, if_neg (by rw [this]; exact Bool.false_ne_true)]; rfl
theorem begC_zero {n : Nat} {u : List Nat} (h : u ≠ []) : begC al ps n 0 u = begL al ps n u := by
  unfold begC
  rw [if_neg (fun z => h (List.eq_nil_of_length_eq_zero (Nat.le_zero.mp z.2))), List.append_nil]
theorem begC_here {n i : Nat} (hi : i + 1 ≤ (TX al ps n).length) : begC al ps n i ((TX al ps n).take (i + 1)) = begL al ps n ((TX al ps n).take (i + 1)) ∧ begC al ps n (i + 1) ((TX al ps n).take (i + 1)) = begL al ps n ((TX al ps n).take (i + 1)) ++ [n] := by
  have hl : ((TX al ps n).take (i + 1)).length = i + 1 := by rw [List.length_take]; omega
  constructor
  · unfold begC
    rw [if_neg (fun z => by have := z.2; omega), List.append_nil]
  · unfold begC
    rw [if_pos ⟨List.take_prefix _ _, by omega⟩]
theorem begC_other {n i : Nat} {u : List Nat} (h : u ≠ (TX al ps n).take (i + 1)) : begC al ps n (i + 1) u = begC al ps n i u := by
  unfold begC
  congr 1
  by_cases c : u <+: TX al ps n ∧ u.length ≤ i
  · rw [if_pos c, if_pos ⟨c.1, by omega⟩]
  · rw [if_neg c, if_neg]
    rintro ⟨c1, c2⟩
    refine c ⟨c1, ?_⟩
    rcases Nat.lt_or_ge u.length (i + 1) with z | z
    · omega
    · exfalso
      apply h
      have e := List.prefix_iff_eq_take.mp c1
      rw [show u.length = i + 1 by omega] at e
      exact e
end
end RJ
namespace RJ
section
variable {al : List Nat} {ps : List (Nat × Nat)}
noncomputable def covB (al : List Nat) (ps : List (Nat × Nat)) (t : List Nat) (b p : Nat) : Bool := @decide (Cov al ps t b p) (Classical.propDecidable _)
theorem covB_iff {t : List Nat} {b p : Nat} : covB al ps t b p = true ↔ Cov al ps t b p := by
  unfold covB; exact @decide_eq_true_iff _ (Classical.propDecidable _)
theorem covB_filter {t : List Nat} {b : Nat} : (begL al ps (al.length + ps.length) (t.drop b)).filter (covB al ps t b) = (List.range (al.length + ps.length)).filter (covB al ps t b) := by
  unfold begL
  rw [List.filter_filter]
  refine List.filter_congr fun q _ => ?_
  cases h : covB al ps t b q with
  | false => rfl
  | true =>
    have := (covB_iff.mp h).2.2.1
    rw [List.isPrefixOf_iff_prefix.mpr this]; rfl
theorem covFrom_succ {t : List Nat} {fits : Nat → Nat → Bool} {lo n : Nat} : covFrom al ps t fits lo (n + 1) = covFrom al ps t fits lo n ++ ((List.range (al.length + ps.length)).filter (fits (lo + n))).map fun p => (lo + n, p) := by
  unfold covFrom
  rw [show List.range' lo (n + 1) = List.range' lo n ++ [lo + n] by rw [List.range'_concat]; simp, List.flatMap_append, List.flatMap_singleton]
theorem sum_filter_ne {m : Nat} : ∀ {P : List Nat}, P.Nodup → m ∈ P → (P.filter fun x => decide (x ≠ m)).sum + m = P.sum
  | [], _, h => absurd h List.not_mem_nil
  | a :: P, hn, h => by
    rw [List.nodup_cons] at hn
    by_cases c : a = m
    · subst c
      rw [List.filter_cons, if_neg (by simp), List.sum_cons]
      have e : P.filter (fun x => decide (x ≠ a)) = P := List.filter_eq_self.mpr fun x hx => decide_eq_true (fun z => hn.1 (z ▸ hx))
      rw [e]; omega
    · rw [List.filter_cons, if_pos (by simpa using c), List.sum_cons, List.sum_cons]
      have hm : m ∈ P := (List.mem_cons.mp h).resolve_left (fun z => c z.symm)
      have := sum_filter_ne hn.2 hm
      omega
/-- one more, if it isn't there -/
def addP (P : List Nat) (x : Nat) : List Nat := if x ∈ P then P else P ++ [x]
theorem addP_mem {P : List Nat} {x y : Nat} : y ∈ addP P x ↔ y ∈ P ∨ y = x := by
  unfold addP
  split
  · rename_i h
    constructor
    · exact .inl
    · rintro (z | rfl)
      · exact z
      · exact h
  · rw [List.mem_append, List.mem_singleton]
theorem addP_nodup {P : List Nat} {x : Nat} (h : P.Nodup) : (addP P x).Nodup := by
  unfold addP
  split
  · exact h
  · rename_i hx
    rw [List.nodup_append]
    exact ⟨h, by simp, fun a ha b hb e => hx (by rw [List.mem_singleton.mp hb] at e; exact e ▸ ha)⟩
theorem addP_sum {P : List Nat} {x : Nat} : (addP P x).sum ≤ P.sum + x := by
  unfold addP
  split
  · omega
  · rw [List.sum_append]; simp
theorem addP_len {P : List Nat} {x : Nat} : (addP P x).length ≤ P.length + 1 := by
  unfold addP
  split
  · omega
  · rw [List.length_append]; simp
end
end RJ
namespace RJ
section
variable {al : List Nat} {ps : List (Nat × Nat)}
theorem covFrom_len {t : List Nat} {fits : Nat → Nat → Bool} {lo : Nat} : ∀ {n : Nat}, (covFrom al ps t fits lo n).length ≤ n * (al.length + ps.length)
  | 0 => Nat.zero_le _
  | n + 1 => by
    rw [covFrom_succ, List.length_append, List.length_map, Nat.succ_mul]
    have h1 := covFrom_len (t := t) (fits := fits) (lo := lo) (n := n)
    have h2 : ((List.range (al.length + ps.length)).filter (fits (lo + n))).length ≤ al.length + ps.length := Nat.le_trans (List.length_filter_le _ _) (by rw [List.length_range]; exact Nat.le_refl _)
    omega
theorem addsP : ∀ (l acc : List Nat), acc.Nodup → (l.foldl addP acc).Nodup ∧ (∀ x, x ∈ l.foldl addP acc ↔ x ∈ acc ∨ x ∈ l) ∧ (l.foldl addP acc).length ≤ acc.length + l.length
  | [], acc, h => ⟨h, fun x => by simp, Nat.le_refl _⟩
  | a :: l, acc, h => by
    obtain ⟨h1, h2, h3⟩ := addsP l (addP acc a) (addP_nodup h)
    refine ⟨h1, fun x => ?_, ?_⟩
    · show x ∈ l.foldl addP (addP acc a) ↔ _
      rw [h2 x, addP_mem, List.mem_cons]
      constructor
      · rintro ((z | z) | z)
        · exact .inl z
        · exact .inr (.inl z)
        · exact .inr (.inr z)
      · rintro (z | z | z)
        · exact .inl (.inl z)
        · exact .inl (.inr z)
        · exact .inr z
    · show (l.foldl addP (addP acc a)).length ≤ _
      have := addP_len (P := acc) (x := a)
      rw [List.length_cons]; omega
theorem other_of {P : List Nat} {x : Nat} (h : P.Nodup) (h2 : 1 < P.length) : ∃ o ∈ P, o ≠ x := by
  match P, h, h2 with
  | a :: b :: r, h, _ =>
    by_cases c : a = x
    · refine ⟨b, by simp, fun e => ?_⟩
      rw [List.nodup_cons] at h
      exact h.1 (by rw [c, ← e]; simp)
    · exact ⟨a, by simp, c⟩
end
end RJ
namespace RJ
/-- how far two rows agree -/
def lcpL : List Nat → List Nat → Nat
  | a :: u, b :: v => if a = b then lcpL u v + 1 else 0
  | _, _ => 0
theorem lcpL_le : ∀ (u v : List Nat), lcpL u v ≤ u.length ∧ lcpL u v ≤ v.length
  | [], v => ⟨Nat.le_refl _, Nat.zero_le _⟩
  | a :: u, [] => ⟨Nat.zero_le _, Nat.le_refl _⟩
  | a :: u, b :: v => by
    have := lcpL_le u v
    unfold lcpL
    split
    · rw [List.length_cons, List.length_cons]; omega
    · exact ⟨Nat.zero_le _, Nat.zero_le _⟩
theorem lcpL_take : ∀ (u v : List Nat) (n : Nat), n ≤ lcpL u v → u.take n = v.take n
  | [], v, n, h => by
    have : n = 0 := Nat.le_zero.mp h
    subst this; rw [List.take_zero, List.take_zero]
  | a :: u, [], n, h => by
    have : n = 0 := Nat.le_zero.mp h
    subst this; rw [List.take_zero, List.take_zero]
  | a :: u, b :: v, 0, _ => rfl
  | a :: u, b :: v, n + 1, h => by
    unfold lcpL at h
    split at h
    · rename_i e
      rw [List.take_succ_cons, List.take_succ_cons, e, lcpL_take u v n (by omega)]
    · omega
theorem lcpL_pre : ∀ {w u v : List Nat}, w <+: u → w <+: v → w.length ≤ lcpL u v
  | [], _, _, _, _ => Nat.zero_le _
  | a :: w, u, v, h1, h2 => by
    obtain ⟨r, rfl⟩ := h1
    obtain ⟨r2, rfl⟩ := h2
    show w.length + 1 ≤ (if a = a then lcpL (w ++ r) (w ++ r2) + 1 else 0)
    rw [if_pos rfl]
    have := lcpL_pre (w := w) (u := w ++ r) (v := w ++ r2) (List.prefix_append _ _) (List.prefix_append _ _)
    omega
theorem lcpL_next : ∀ (u v : List Nat) {x y : Nat}, u[lcpL u v]? = some x → v[lcpL u v]? = some y → x ≠ y
  | [], v, x, y, h, _ => by simp at h
  | a :: u, [], x, y, _, h => by simp at h
  | a :: u, b :: v, x, y, h1, h2 => by
    unfold lcpL at h1 h2
    split at h1
    · rename_i e
      rw [if_pos e] at h2
      rw [List.getElem?_cons_succ] at h1 h2
      exact lcpL_next u v h1 h2
    · rename_i e
      rw [if_neg e] at h2
      rw [List.getElem?_cons_zero] at h1 h2
      cases h1; cases h2
      exact e
/-- what lcpL is -/
theorem lcpL_is {u v : List Nat} {n : Nat} (h1 : u.take n = v.take n) (hu : n ≤ u.length) (hv : n ≤ v.length) (h2 : n = u.length ∨ n = v.length ∨ ∃ x y, u[n]? = some x ∧ v[n]? = some y ∧ x ≠ y) : lcpL u v = n := by
  have ge : n ≤ lcpL u v := by
    have := lcpL_pre (w := u.take n) (u := u) (v := v) (List.take_prefix _ _) (by rw [h1]; exact List.take_prefix _ _)
    rw [List.length_take] at this; omega
  have le := lcpL_le u v
  rcases h2 with h | h | ⟨x, y, hx, hy, hne⟩
  · omega
  · omega
  · rcases Nat.lt_or_ge n (lcpL u v) with c | c
    · exfalso
      have := lcpL_take u v (n + 1) c
      have e := congrArg (fun l => l[n]?) this
      rw [List.getElem?_take_of_lt (by omega), List.getElem?_take_of_lt (by omega), hx, hy] at e
      exact hne (Option.some.inj e)
    · omega
section
variable {al : List Nat} {ps : List (Nat × Nat)}
/-- one that goes beyond the text -/
def Long (al : List Nat) (ps : List (Nat × Nat)) (t : List Nat) (b : Nat) : Prop := ∃ p, Cov al ps t b p ∧ t.length < b + (TX al ps p).length
theorem sure_len (hnd : al.Nodup) (h : Proper al ps) {t R : List Nat} (hS : SureIs al ps t R) (ht : ∀ c ∈ t, c ∈ al) {m : Nat} (hm : m ≤ (CT al ps t).length) (h1 : ∀ b, Long al ps t b → m ≤ lcpL (CT al ps t) (CT al ps (t.take b))) (h2 : m = (CT al ps t).length ∨ ∃ b, Long al ps t b ∧ m = lcpL (CT al ps t) (CT al ps (t.take b))) : m = R.length := by
  have hRt := hS.cut ht
  have le1 : R.length ≤ m := by
    rcases h2 with rfl | ⟨b, ⟨p, hc, hl⟩, rfl⟩
    · exact hRt.length_le
    · refine lcpL_pre hRt ?_
      obtain ⟨c1, c2, c3, c4⟩ := hc.text hnd h ht
      have e1 := hS.1 _ c2 c1
      rw [c3] at e1
      rcases pre_split e1 with z | z
      · exact z
      · exfalso
        rw [z, ← c3] at hRt
        have := (pre_len (R := []) (R' := []) h.wf c2 ht hRt).length_le
        rw [List.length_append, List.length_take] at this
        have := hc.1
        omega
  have ge1 : m ≤ R.length := by
    have key : (CT al ps t).take m <+: R := by
      refine hS.2 _ fun y hy hp => ?_
      by_cases hne : t = []
      · subst hne
        rw [show CT al ps [] = [] from cut_nil _ _, List.take_nil]; exact List.nil_prefix
      obtain ⟨b, p, hc, hpre⟩ := cov_ex hnd h hy hp hne
      obtain ⟨c1, c2, c3, c4⟩ := hc.text hnd h ht
      by_cases hl : t.length < b + (TX al ps p).length
      · have := h1 b ⟨p, hc, hl⟩
        rw [lcpL_take _ _ _ this]
        exact ((List.take_prefix _ _).trans (List.prefix_append _ [p])).trans hpre
      · have e : t = t.take b ++ TX al ps p := by
          refine c1.eq_of_length ?_
          rw [List.length_append, List.length_take]
          have := hc.1; omega
        rw [← c3, ← e] at hpre
        exact (List.take_prefix _ _).trans hpre
    have := key.length_le
    rw [List.length_take] at this; omega
  omega
end
end RJ
namespace RJ
theorem max_ex {M : Nat → Prop} (h0 : M 0) : ∀ N : Nat, ∃ n, n ≤ N ∧ M n ∧ ∀ k, k ≤ N → M k → k ≤ n
  | 0 => ⟨0, Nat.le_refl _, h0, fun k hk _ => hk⟩
  | N + 1 => by
    by_cases c : M (N + 1)
    · exact ⟨N + 1, Nat.le_refl _, c, fun k hk _ => hk⟩
    · obtain ⟨n, h1, h2, h3⟩ := max_ex h0 N
      refine ⟨n, by omega, h2, fun k hk hM => ?_⟩
      rcases Nat.lt_or_ge N k with z | z
      · exact absurd hM (by rw [show k = N + 1 by omega]; exact c)
      · exact h3 k z hM
section
variable {al : List Nat} {ps : List (Nat × Nat)}
theorem sure_ex {t : List Nat} (ht : ∀ c ∈ t, c ∈ al) : ∃ R, SureIs al ps t R := by
  obtain ⟨n, h1, h2, h3⟩ := max_ex (M := fun n => ∀ y, (∀ c ∈ y, c ∈ al) → t <+: y → (CT al ps t).take n <+: CT al ps y) (fun y _ _ => by rw [List.take_zero]; exact List.nil_prefix) (CT al ps t).length
  refine ⟨(CT al ps t).take n, h2, fun S' h' => ?_⟩
  have hS := h' t ht (List.prefix_refl t)
  have e := List.prefix_iff_eq_take.mp hS
  have := h3 S'.length hS.length_le (fun y hy hp => by rw [← e]; exact h' y hy hp)
  rw [e]
  exact List.take_prefix_take_left this
end
end RJ
end

section
set_option maxRecDepth 100000
namespace RJ
open PySem PySem.Spec PyProof.Rows L2
set_option maxRecDepth 8000 in
theorem extend_tuple (l : Addr) (items : Array Value) (n : Nat) (b : Addr) (o : Obj) (items2 : Array Value) (n2 : Nat) (ho1 : o.cls = .type "tuple") (ho2 : o.data = .seq items2 n2) (hs0 : ¬(!items.isEmpty && Builtin.List.listTooLong (items.size + items2.size)) = true) (hs1 : items.size ≤ sizeLine) (hs2 : items.size + items2.size ≤ sizeLine + 1) :
    Meets (Builtin.«list.extend» ⟨[.ref l, .ref b], []⟩) (fun _ R s => s.heap.get? l = some { cls := .type "list", dict := none, data := .seq items n, slots := #[] } ∧ s.heap.get? b = some o ∧ R (.ok (.ret Value.none)) { s with heap := s.heap.update l (Obj.mapSeq fun x => x ++ items2), toks := s.toks }) :=
  .of_wp fun prog w A R s h => by
    obtain ⟨hp, g, d, tk, os⟩ := s; obtain ⟨hl, hb, h⟩ := h; obtain ⟨c, dd, da, sl⟩ := o; dsimp only at ho1 ho2; subst ho1 ho2; have f1 := PySem.AutoSeq1.idx_int; have f2 := PySem.AutoSeq1.sub_tuple_tuple; have f3 := PySem.AutoSeq1.sub_list_list; have f4 := PySem.AutoSeq1.sub_tuple_list; have f5 := PySem.AutoSeq1.sub_list_tuple;
    have hz' : (items ++ items2).size ≤ sizeLine + 1 := by rw [Array.size_append]; exact hs2
    wp_walk using (wpAny_updateSeq hl rfl (hz := hs1) (_hz' := hz')), wpAny_loadPart' hl, wpAny_loadPart' hb; exact ⟨_, rfl, h⟩
def rExtendA (K : PySem.W.Frag) : V → List V → Hp → VK → Prop := fun x vs H Q => ∃ l b xs zs, x = .ref l ∧ vs = [.ref b] ∧ H l = some (.lst xs) ∧ SqT K H b zs ∧ xs.length + zs.length ≤ sizeLine ∧ Q .non (upd H l (.lst (xs ++ zs)))
section
variable {X : Cx}
/-- l.extend(a tuple) -/
theorem mt_extendT : MtM X "list.extend" (rExtendA X.K) := by
  intro pins s σ H x vs v us Q I rx rv h
  obtain ⟨l, b, xs, zs, rfl, rfl, hH, hB, hz, q⟩ := h
  cases rx
  obtain ⟨u, rfl, ru⟩ := rv.one
  cases ru
  obtain ⟨z, its, n, r, hl, e⟩ := I.lstM hH
  obtain ⟨its2, r2, ⟨o, e2, ho, n2, hd⟩, z2⟩ := I.tuple hB
  have hl2 := r2.length
  have hsz : its.toArray.size + its2.toArray.size ≤ sizeLine := by rw [List.size_toArray, List.size_toArray]; omega
  have hlong : ¬ (!its.toArray.isEmpty && Builtin.List.listTooLong (its.toArray.size + its2.toArray.size)) = true := by
    rw [notLongL hsz, Bool.and_false]
    exact Bool.false_ne_true
  refine call_meets F.slot_list_extend ⟨_, e, rfl⟩ F.entry_list_extend (F.args_list_extend_2 _ _)
    (extend_tuple l its.toArray n b o its2.toArray n2 ho hd hlong (by rw [List.size_toArray]; omega) (by omega)) ⟨e, e2, ?_⟩
  refine ⟨.non, _, I.lset (its' := its ++ its2) hH e (by simp) (r.append r2) ?_, rfl, q⟩
  rw [List.length_append]
  omega
end
open PySem.W (minD AlikeAll alike alikeAll dataLt)
/-- min(l, default=x) of alike data -/
def rMinDV (K : PySem.W.Frag) : List V → List V → Hp → VK → Prop := fun vs zs H Q => ∃ (a : Addr) (xs : List V) (ds : List PyData) (z : V), vs = [V.ref a] ∧ zs = [z] ∧ H a = some (.lst xs) ∧ DpAll K H xs ds ∧ AlikeAll ds ∧ PyData.depthAll ds ≤ 60 ∧
  (ds = [] → Q z H) ∧ ∀ (d : PyData) (ds' : List PyData) (i : Nat) (x : V), ds = d :: ds' → xs[i]? = some x → ds[i]? = some (minD d ds') → Q x H
theorem cr_minDV {X : Cx} (hc : X.calm = true) (hu : X.A.units + 64 < cLine) : CallRK X (.builtin "min") [Str.ofString "default"] (rMinDV X.K) := by
  intro pins s σ H xs0 zs us ws Q I r rz h
  obtain ⟨a, xs, ds, zv, rfl, rfl, ha, hd, hal, hdep, q0, q1⟩ := h
  obtain ⟨its, rv, hl, _⟩ := I.list (SqL.of ha)
  rw [Vals.ref1 r]
  obtain ⟨u, rfl, ru⟩ := vals1 rz
  obtain ⟨as, hr⟩ := Dp.readsAll I ds xs its hd rv
  show wpAny _ _ (call (.builtin "min") [.ref a] [(Str.ofString "default", u)]) _ _ s
  refine PySem.W.min_list_default (I.ok.hd hc) hl.isList hr hal (by omega) (fun e h' tk hk => ⟨zv, H, I.kept hk, ru, q0 e⟩) fun y ys i v h' tk bs e hv hrd hk => ?_
  have hv' : its[i]? = some v := by simpa using hv
  have hl2 := rv.length
  have hi : i < xs.length := by
    have := (List.getElem?_eq_some_iff.mp hv').1
    omega
  obtain ⟨u2, hu2, ru2⟩ := rv.get (List.getElem?_eq_getElem hi)
  rw [hv'] at hu2
  cases hu2
  obtain ⟨d2, bs2, hd2, hr2⟩ := readsAll_ix hr hv'
  have heq : d2 = minD y ys := ((PyProof.Rows.reads_det (h := s.heap) (h' := h') (fun b o e _ => hk b o e) hr2 hrd).1).symm
  exact ⟨xs[i], H, I.kept hk, ru2, q1 y ys i _ e (List.getElem?_eq_getElem hi) (by rw [hd2, heq])⟩
end RJ
namespace RJ
open PySem PySem.Spec PyProof.Rows L2
section
variable {X : Cx}
/-- name = {..} on one line, the name a local -/
theorem ps_setDc {i : Nat} {y : Str} {py : Pos} {kx vx tg iter : Expr} {ifs : List Expr} {scope : Scope} {own : List (Str × Nat)} {pos spos : Pos} {wi : TI} {g : TG} {tt : TT} {tk tv : TE} (hc : X.calm = true) (hN : X.N.Nodup) (hy : X.N[i]? = some y) (hyl : X.env.scope.names.lookup y = some .local)
    (hsw : swapsWith (.DictComp kx vx [⟨tg, iter, ifs, 0⟩] scope pos) (some (.Name y py)) spos.line X.env = pure true) (hi : PI X tg iter wi) (ok : BlkOk X.N X.env.scope scope own)
    (hg : ∀ (s : Shared) (H : Hp) (C : Addr) (cl : List (Str × Addr)) (fp : List Addr), PG (X.blk s H scope (compEnvC scope cl C X.env) fp) tg g) (ht : ∀ (s : Shared) (H : Hp) (C : Addr) (cl : List (Str × Addr)) (fp : List Addr), PTs (X.blk s H scope (compEnvC scope cl C X.env) fp) ifs tt)
    (hk : ∀ (s : Shared) (H : Hp) (C : Addr) (cl : List (Str × Addr)) (fp : List Addr), PE (X.blk s H scope (compEnvC scope cl C X.env) fp) kx tk)
    (he : ∀ (s : Shared) (H : Hp) (C : Addr) (cl : List (Str × Addr)) (fp : List Addr), PE (X.blk s H scope (compEnvC scope cl C X.env) fp) vx tv) (hs : ∀ x, foldedSetIterable iter X.env x = pure x := by intro _; rfl) :
    PS X (.Assign [.Name y py] (.DictComp kx vx [⟨tg, iter, ifs, 0⟩] scope pos) spos) (tAsg (tDc wi g tt tk tv (own.map (·.2))) (gName i)) := by
  refine ⟨fun pins s σ H D I h => ?_⟩
  rw [exec_Assign_Name_used _ _ _ _ hsw]
  refine wpAny_bind (wpAny_standAt (wpAny_bind ?_))
  show wpAny _ X.A (do let _ ← comprehension (.DictComp kx vx [⟨tg, iter, ifs, 0⟩] scope pos) scope X.env (firstIterPos [⟨tg, iter, ifs, 0⟩] pos) newDict false (eval iter X.env) (some (assign (.Name y py) X.env))) _ _ s
  have h : tDc wi g tt tk tv (own.map (·.2)) σ H (fun x H1 => gName i x σ H1 D.nx) := h
  refine wpAny_bind (thn (dc_core (Qf := fun _ s' => SP X pins D .next s') hc hN I hi ok hg ht hk he hs h fun L C s' m H' I' q hn f => ?_) fun _ s' hq => wpAny_pure (wpAny_pure hq))
  show wpAny _ _ (assign (.Name y py) X.env (.ref L)) _ _ _
  refine wpAny_assign_Name (store_ok2 (v := V.ref L) I' hN hy (.inl hyl) rfl (fun s2 I2 ⟨a, sb, ha⟩ => ?_) (.inr hyl))
  obtain ⟨f0, f1, f2, f3, f4, f5⟩ := f
  have haC : C ≠ a := by
    rcases ha with z | z
    · rw [z]; exact f1
    · exact fun e => f4 y a z e.symm
  refine ⟨m, hn.sameBut sb haC, fun h3 sb3 => ?_⟩
  exact ⟨_, H', I2.turned (t' := s2.toks) (fun b o hb e => (sb3.2 b hb).trans e) f0 f1 f3 f4 f5, q⟩
theorem sw_trueD {kx vx : Expr} {gs : List Comprehension} {scope : Scope} {pos py : Pos} {y : Str} {l : Nat} {env : Env} (hk : env.scope.kind = .function) (hy : env.scope.names.lookup y = some .local) (hl : (py.line == pos.line) = true)
    (ha : (scope.names.any fun (n, k) => n == y && (k == .local || k == .cell)) = false) : swapsWith (.DictComp kx vx gs scope pos) (some (.Name y py)) l env = pure true := by
  have ky : env.kindOf y = some .local := hy
  have hb : env.blockKind = .function := by unfold Env.blockKind; rw [hk]; rfl
  unfold swapsWith
  simp only [hb, ky, ha, Expr.pos, hl]
  rfl
end
end RJ
end

section
set_option maxRecDepth 100000
set_option maxHeartbeats 2000000
namespace RJ
open PySem PySem.Spec PyProof.Rows L2
/-! ### a property that is read where an error is handled -/
structure PrpH (P : Program) (w : World) (K : PySem.W.Frag) (mg : Str → Option Value) (base : Heap) (k : Nat) (C : Addr) (m : Str) (sp : Sp) : Prop where
  ex : ∃ (p g : Addr) (fd : FuncData) (ps : List Str), Cls K C ∧ PropOf K C m p g ∧ L2H.FnH P w K mg base C8.CX0 k g fd ps sp ∧ Binds K fd ps []
theorem roomH_in1 {k : Nat} {A : Around} (r : L2H.RoomH (k + 1) A) : L2H.RoomH k A.in1 := by
  have h1 := r.dp
  have h2 := r.un
  exact ⟨by show A.depth + 3 * k + 5 < _; omega, by show A.units + 1 + 16 * k + 200 < _; omega⟩
section
variable {X : Cx} {k j : Nat} {C p g a dx : Addr} {fs : List (Str × V)} {f m : Str} {fd : FuncData} {ps : List Str} {sp : Sp} {e : Expr} {pos : Pos} {ta : TE}
theorem getprop_okH {pins : List (Addr × Obj)} {σ : L2.St} {H : Hp} {s : Shared} {Q : VK} {b : Bool} {E' : Value → Shared → Prop} (I : Inv X pins σ H s) (ea : H a = some (.ins C dx fs)) (c : Cls X.K C) (hp : PropOf X.K C f p g)
    (F : L2H.FnH X.prog X.w X.K X.mg X.base C8.CX0 k g fd ps sp) (hr : L2H.RoomH (k + 1) X.A) (hot : L2H.HotC X) (hb : Binds X.K fd ps []) (h : sp [.ref a] H Q C8.E0) :
    wpAny (model X.prog X.w) X.A (getAttr (.ref a) f b) (EP X pins σ Q) E' s := by
  obtain ⟨mA, O, _, _, _, _⟩ := ins_get I.hok ea
  obtain ⟨od, J, _⟩ := O.look
  obtain ⟨rest, hrec⟩ := hp.rec_
  have I1 := I.tok (s.toks + 1)
  obtain ⟨pp, hot1, hpn⟩ := hot
  have hl : ([Value.ref a] ++ []).length = ps.length := by
    rw [← F.len _ _ _ _ h]; rfl
  have hc : (PySem.W.clsIn X.K C).isSome = true := by
    obtain ⟨cd, hc, _⟩ := PySem.W.any_some c.hd
    rw [hc]
    rfl
  have P1 := I1.pin pp (List.mem_append_left _ hpn)
  have hpin : L2H.PinOk X.stack H { s with toks := s.toks + 1 } pp := ⟨P1.1, P1.2.1, fun hm => (List.mem_cons.mp (I1.stkSub pp.1 hm)).elim P1.2.2.1 P1.2.2.2.1, P1.2.2.2.2⟩
  refine PySem.W.get_bind I.kIn J (PySem.W.plainGet_of (c.get f)).1 (PySem.W.findObj_data hc hp.at_ hp.get hp.tak) (PySem.W.plainGet_of (c.get f)).2 (wpAny_call (PySem.W.prop_get (s := { s with toks := s.toks + 1 }) I.kIn hrec ?_))
  refine codeAny_mono (F.run X.A.in1 X.stack { s with toks := s.toks + 1 } H ⟨[.ref a], []⟩ [.ref a] [.ref a] Q C8.E0 pp (roomH_in1 hr) hot1 hpin I1.env0.in1 (hb _ [.ref a] I1.kIn hl) (.cons rfl .nil) h) fun r s' hq => ?_
  cases r with
  | error er => exact False.elim hq
  | ok fl =>
    cases fl with
    | ret u =>
      obtain ⟨v, H', I3, rv, q3⟩ := I1.after hq
      show wpAny _ _ (handedOut u) _ _ _
      rw [PySem.W.handedOut_of (handed_of rv)]
      exact wpAny_pure ⟨v, H', I3, rv, q3⟩
    | next => exact False.elim hq
    | brk => exact False.elim hq
    | cont => exact False.elim hq
theorem walks_listHot {prog : Program} {w : World} {A : Around} (I ax x1 : Addr) (hne : ax ≠ I) (hx : x1 ≠ I) (items : Array Value) :
    Walks prog w A I [I, ax, x1] [I] items.size (fun i v => items[i]? = some v) (fun i h => h.IsListIter I ax i ∧ h.IsList ax items ∧ HotX.HotAt A x1 h) where
  sub := fun b hb => by simp at hb; simp [hb]
  frame := fun _ _ _ st hk => by
    obtain ⟨s1, s2, hh, o, vs, e1, e2, e3⟩ := st
    exact ⟨s1.at fun o e => hk I (by simp) o e, s2.at fun o e => hk ax (by simp) o e, hh, o, vs, hk x1 (by simp) o e1, e2, e3⟩
  item := fun i s Q E hi st hQ => by
    obtain ⟨s1, s2, hh, o, vs, e1, e2, e3⟩ := st
    refine wpAny_pyNext_list_item s1 s2 (x := items[i]) (by simp [hi]) fun h' hit' hs' => ?_
    exact hQ _ h' s.toks (by simp [hi]) ⟨hit', s2.extBut hs'.extBut hne, hh, o, vs, hs'.extBut x1 o hx e1, e2, e3⟩ fun b o hb e => hs'.extBut b o (fun h => hb (by simp [h])) e
  done := fun s Q E st hQ => by
    obtain ⟨s1, s2, hot⟩ := st
    exact rj_list_end_hot hot hx s1 s2 (by simp) fun h' he' => hQ h' s.toks fun b o hb e => he' b o (fun h => hb (by simp [h])) e
  self := fun _ _ _ _ st hQ => wpAny_pyIter_listiter st.1 hQ
theorem sum_hot {prog : Program} {w : World} {A : Around} {E : Value → Shared → Prop} {s : Shared} {l x1 : Addr} {its : List Value} {ns : List Int} {Q : Value → Shared → Prop} (hot : HotX.HotAt A x1 s.heap) (hl : s.heap.IsList l its.toArray) (hi : IntsAre its ns)
    (h : ∀ h' tk t', (∀ b o, s.heap.get? b = some o → h'.get? b = some o) → Q (.int ns.sum t') { s with heap := h', toks := tk }) : wpAny (model prog w) A (call (.builtin "sum") [.ref l]) Q E s := by
  obtain ⟨xs, e⟩ := hi.allInts.items
  have hn : numsOf (intItems xs).toList = ns := by rw [← e]; exact hi.numsOf
  rw [nums_intItems] at hn
  rw [e] at hl
  obtain ⟨hh, o, vs, e1, e2, e3⟩ := hot
  have hlt := Heap.lt_size e1
  refine call_sum_walkG (iter_intList hl fun s₂ es st hfp hlI => ?_)
  subst es
  refine ⟨_, _, _, _, _, _, numAt xs, rfl, walks_listHot (A := A.in1) _ l x1 hlI (Nat.ne_of_lt hlt) (intItems xs), ⟨st.1, st.2, hh, o, vs, Heap.get?_push_of_some _ e1, e2, e3⟩, fun b hb => ?_, (fun _ _ => intItems_at), fun h' tk t' hk => ?_⟩
  · rcases List.mem_cons.mp hb with r | hb
    · exact hfp b (by simp [r])
    rcases List.mem_cons.mp hb with r | hb
    · exact hfp b (by simp [r])
    · rw [List.mem_singleton.mp hb]
      show x1 < (s.heap.push _).objs.size
      rw [Heap.size_push]; exact Nat.lt_succ_of_lt hlt
  · have := h h' tk t' (old_kept hk)
    rw [← hn] at this
    rw [show (intItems xs).size = xs.size by simp [intItems], preSum_eq, List.take_of_length_le (by simp)]; exact this
theorem cr_sumH (hot : L2H.HotC X) : CallR X (.builtin "sum") (rSum X.K) := by
  intro pins s σ H vs us Q I r h
  obtain ⟨a, ns, rfl, hs, q⟩ := h
  obtain ⟨its, rv, hl, _⟩ := I.list hs
  obtain ⟨x1, ht⟩ := hot.at I
  rw [Vals.ref1 r]
  exact sum_hot ht hl.isList rv.ints fun h' tk t' hk => ⟨.int _, H, I.kept hk, ⟨_, rfl⟩, q⟩
theorem pe_prpH (c : PrpH X.prog X.w X.K X.mg X.base k C m sp) (hr : L2H.RoomH j X.A) (hk : k + 1 ≤ j) (hot : L2H.HotC X) (he : PE X e ta)
    (hab : attributeBase e m X.env (eval e X.env) = eval e X.env := by rfl) : PE X (.Attribute e m pos) (tProp C sp [] C8.E0 ta) := by
  obtain ⟨p, g, fd, ps, hc, hp, F, b⟩ := c.ex
  refine ⟨fun pins s σ H Q I h => ?_⟩
  refine attr_of hab (thn (he.run pins s σ H _ I h) fun u s1 ⟨x, H1, I1, rx, a, dx, fs, ex, ea, q⟩ => ?_)
  subst ex
  obtain rfl : u = Value.ref a := rx
  exact getprop_okH I1 ea hc hp F (hr.mono hk) hot b q
end
end RJ
end

section
set_option maxRecDepth 100000
namespace RJ
open PySem PySem.Spec PyProof.Rows L2
def top (i : Nat) : Stmt := PySem.Challenge.pw_rankedjoins_k24_any_breaks.main.body.getD i (.Pass ⟨0, 0, 0, 0⟩)
/-- what the top leaves of the built-in names and of the module's constants -/
structure Txt (K : PySem.W.Frag) (mg : Str → Option Value) : Prop where
  b_isinstance : mg "isinstance" = none
  b_len : mg "len" = none
  b_min : mg "min" = none
  b_all : mg "all" = none
  b_abs : mg "abs" = none
  b_int : mg "int" = none
  b_bool : mg "bool" = none
  b_str : mg "str" = none
  b_tuple : mg "tuple" = none
  b_list : mg "list" = none
  b_zip : mg "zip" = none
  b_enumerate : mg "enumerate" = none
  b_range : mg "range" = none
  b_sorted : mg "sorted" = none
  b_max : mg "max" = none
  b_sum : mg "sum" = none
  b_dict : mg "dict" = none
  b_ValueError : mg "ValueError" = none
  b_iter : mg "iter" = none
  c_MOST_LETTERS : ∃ u, mg "MOST_LETTERS" = some u ∧ RelV (.int 30) u
  c_MOST_SIGNS_OF_PIECE : ∃ u, mg "MOST_SIGNS_OF_PIECE" = some u ∧ RelV (.int 40) u
theorem hu64_of {A : Around} {k : Nat} (hr : Room k A) : A.units + 64 < cLine := hr.units
/-! ### heaps -/
theorem Same.new {H H' : Hp} {p : Addr} {o : HO} (s : Same H H') (h : H' p = none) : Same H (upd H' p o) := fun b u e => by
  have := s b u e
  rw [upd_ne (ne_of_none this h)]; exact this
theorem Same.put {H H' : Hp} {p : Addr} {o : HO} (s : Same H H') (h : H p = none) : Same H (upd H' p o) := fun b u e => by
  rw [upd_ne (ne_of_none e h)]; exact s b u e
theorem same_new {H : Hp} {p : Addr} {o : HO} (h : H p = none) : Same H (upd H p o) := Same.new (Same.refl H) h
/-! ### values -/
/-- a row of pieces -/
def iv (l : List Nat) : List V := l.map fun (n : Nat) => V.int (n : Int)
theorem iv_len (l : List Nat) : (iv l).length = l.length := by rw [iv, List.length_map]
theorem iv_get {l : List Nat} {i : Nat} {v : V} (h : (iv l)[i]? = some v) : ∃ n : Nat, l[i]? = some n ∧ v = V.int (n : Int) := by
  rw [iv, List.getElem?_map] at h
  cases e : l[i]? with
  | none => rw [e] at h; cases h
  | some n => rw [e] at h; exact ⟨n, rfl, (Option.some.inj h).symm⟩
theorem iv_at {l : List Nat} {i n : Nat} (h : l[i]? = some n) : (iv l)[i]? = some (V.int (n : Int)) := by
  rw [iv, List.getElem?_map, h]; rfl
theorem iv_snoc (l : List Nat) (n : Nat) : iv l ++ [V.int (n : Int)] = iv (l ++ [n]) := by rw [iv, iv, List.map_append]; rfl
/-- a list or a tuple at p -/
def SeqAt (b : Bool) (H : Hp) (p : Addr) (xs : List V) : Prop := H p = some (match b with | true => .lst xs | false => .tup xs)
theorem SeqAt.same {b : Bool} {H H' : Hp} {p : Addr} {xs : List V} (h : SeqAt b H p xs) (s : Same H H') : SeqAt b H' p xs := s _ _ h
/-- a row at p: a list or a tuple -/
abbrev RowAt (b : Bool) (H : Hp) (p : Addr) (l : List Nat) : Prop := SeqAt b H p (iv l)
abbrev S (l : List Nat) : Str := SX.S l
theorem S_len (l : List Nat) : (S l).length = l.length := SX.S_len l
end RJ
end

section
set_option maxRecDepth 100000
set_option maxHeartbeats 2000000
namespace RJ
open PySem PySem.Spec PyProof.Rows L2
abbrev s_is_integer : Stmt := top 14
abbrev N_is_integer : List Str := ["value"]
theorem sc_is_integer : FnScope N_is_integer ["value"] (C8.fnScope s_is_integer) := C8.fnScope_by (by decide +kernel)
abbrev s_is_number_below : Stmt := top 15
abbrev N_is_number_below : List Str := ["value", "end"]
theorem sc_is_number_below : FnScope N_is_number_below ["value", "end"] (C8.fnScope s_is_number_below) := C8.fnScope_by (by decide +kernel)
abbrev s_is_sign : Stmt := top 16
abbrev N_is_sign : List Str := ["sign"]
theorem sc_is_sign : FnScope N_is_sign ["sign"] (C8.fnScope s_is_sign) := C8.fnScope_by (by decide +kernel)
abbrev s_is_alphabet : Stmt := top 17
abbrev N_is_alphabet : List Str := ["text", "ascending", "first", "second", "sign"]
theorem sc_is_alphabet : FnScope N_is_alphabet ["text"] (C8.fnScope s_is_alphabet) := C8.fnScope_by (by decide +kernel)
/-- is the value an integer that is no bool -/
def isIntV : V → Bool
  | .int _ => true
  | _ => false
/-- values whose kind isinstance knows -/
inductive Kind (H : Hp) : V → Prop
  | int (i : Int) : Kind H (.int i)
  | bl (b : Bool) : Kind H (.bl b)
  | non : Kind H .non
  | str (x : Str) : Kind H (.str x)
  | lst {a : Addr} {xs : List V} (e : H a = some (.lst xs)) : Kind H (.ref a)
  | tup {a : Addr} {xs : List V} (e : H a = some (.tup xs)) : Kind H (.ref a)
theorem Kind.isi {K : PySem.W.Frag} {H : Hp} {x : V} (k : Kind H x) : ∃ t, TyX K H x t ∧ ∃ b, PySem.W.kitOne K t (.type "bool") = some b ∧ ∃ c, PySem.W.kitOne K t (.type "int") = some c ∧ (c && !b) = isIntV x := by
  cases k with
  | int i => exact ⟨_, .base (.int i), false, kit_ty (by decide +kernel), true, kit_ty (by decide +kernel), rfl⟩
  | bl b => exact ⟨_, .base (.bl b), true, kit_ty (by decide +kernel), true, kit_ty (by decide +kernel), rfl⟩
  | non => exact ⟨_, .base .non, false, kit_ty (by decide +kernel), false, kit_ty (by decide +kernel), rfl⟩
  | str x => exact ⟨_, .base (.str x), false, kit_ty (by decide +kernel), false, kit_ty (by decide +kernel), rfl⟩
  | lst e => exact ⟨_, .base (.lst e), false, kit_ty (by decide +kernel), false, kit_ty (by decide +kernel), rfl⟩
  | tup e => exact ⟨_, .base (.tup e), false, kit_ty (by decide +kernel), false, kit_ty (by decide +kernel), rfl⟩
def numBelow (x : V) (n : Int) : Bool := match x with
  | .int i => decide (0 ≤ i) && decide (i < n)
  | _ => false
def sp_is_integer : Sp := fun vs H Q _ => ∃ x, vs = [x] ∧ Kind H x ∧ Q (.bl (isIntV x)) H
def sp_is_number_below : Sp := fun vs H Q _ => ∃ x n, vs = [x, .int n] ∧ Kind H x ∧ Q (.bl (numBelow x n)) H
def sp_is_sign : Sp := fun vs H Q _ => ∃ c, vs = [.str (S [c])] ∧ Q (.bl (decide (32 ≤ c ∧ c ≤ 126))) H
section
variable {P : Program} {w : World} {K : PySem.W.Frag} {mg : Str → Option Value} {base : Heap}
theorem ok_is_integer {f : Addr} {fd : FuncData} (F : C8.Fun K "is_integer" "is_integer" s_is_integer f fd) (T : Txt K mg) : FnOk P w K mg base C8.CX0 1 f fd ["value"] sp_is_integer := by
  refine C8.fn0 F sc_is_integer (fun vs H Q E h => ?_) (fun cdv A outer s H vs Q E hr h => ?_)
  · obtain ⟨x, rfl, _⟩ := h; rfl
  · obtain ⟨x, rfl, k, q⟩ := h
    refine ⟨_, (pss_one (ps_ret (pe_and (pe_callB call_isi (by rfl) T.b_isinstance (by decide +kernel) (pa_cons (pv 0) (pa_cons (pe_bltn (v := .ty "int") (u := .type "int") rfl T.b_int (by decide +kernel) rfl) pa_nil))) (pe_one (pe_not (pe_callB call_isi (by rfl) T.b_isinstance (by decide +kernel) (pa_cons (pv 0) (pa_cons (pe_bltn (v := .ty "bool") (u := .type "bool") rfl T.b_bool (by decide +kernel) rfl) pa_nil)))))))), ?_⟩
    obtain ⟨t, ty, b, hb, c, hc, e⟩ := k.isi (K := K)
    refine ⟨_, rfl, x, .ty "int", t, .type "int", c, rfl, .ty _, ty, hc, c, rfl, ?_⟩
    cases c with
    | false => 
      have e' : false = isIntV x := e
      refine iteF ?_
      rw [e']; exact q
    | true =>
      refine iteT ⟨_, rfl, x, .ty "bool", t, .type "bool", b, rfl, .ty _, ty, hb, b, rfl, ?_⟩
      have e' : (!b) = isIntV x := by rw [← e]; simp
      show Q (.bl (!b)) H
      rw [e']; exact q
end
end RJ
end

section
set_option maxRecDepth 100000
set_option maxHeartbeats 2000000
namespace RJ
open PySem PySem.Spec PyProof.Rows L2
theorem walkG {n : Nat} {G : Hp → Prop} {PX : Nat → List V → Prop} : Walk (ItG n G PX) n G (fun i H v H' => ∃ T xs, v = .ref T ∧ H T = none ∧ H' = upd H T (.tup xs) ∧ PX i xs) :=
  ⟨fun _ _ hi h => ⟨h, hi⟩, fun _ h => ⟨h, Nat.le_refl _⟩, fun _ _ _ _ _ _ y => y⟩
theorem cutS_from (l : List Nat) (k : Nat) : cutS (S l) (some (k : Int)) none = S (l.drop k) := by
  show (⟨(((S l).cps.toList.drop (HT.sIx (S l).length 0 (some (k : Int)))).take (HT.sIx (S l).length (S l).length none - HT.sIx (S l).length 0 (some (k : Int)))).toArray⟩ : Str) = ⟨(l.drop k).toArray⟩
  rw [HT.sIx_nat, HT.sIx_none, S_len]
  have e : (l.drop (min k l.length)).take (l.length - min k l.length) = l.drop k := by
    by_cases h : k ≤ l.length
    · rw [Nat.min_eq_left h, List.take_of_length_le (by rw [List.length_drop]; omega)]
    · rw [Nat.min_eq_right (by omega), List.drop_eq_nil_of_le (by omega : l.length ≤ k), List.drop_length, List.take_nil]
  exact congrArg (fun z : List Nat => (⟨z.toArray⟩ : Str)) e
theorem S_get (l : List Nat) (i : Nat) : (S l).cps[i]? = l[i]? := by
  show l.toArray[i]? = l[i]?
  rw [List.getElem?_toArray]
theorem S_size (l : List Nat) : (S l).cps.size = l.length := List.size_toArray
theorem str1 (c : Nat) : (⟨#[c]⟩ : Str) = S [c] := rfl
/-- the source that a text is -/
theorem src_text (H : Hp) (l : List Nat) : SrcV H (.str (S l)) l.length (fun _ => True) (fun i v => ∃ c, (S l).cps[i]? = some c ∧ v = .str ⟨#[c]⟩) :=
  .inl ⟨S l, rfl, (S_size l).symm, rfl, rfl⟩
abbrev s_check_alphabet : Stmt := top 18
abbrev N_check_alphabet : List Str := ["text"]
theorem sc_check_alphabet : FnScope N_check_alphabet ["text"] (C8.fnScope s_check_alphabet) := C8.fnScope_by (by decide +kernel)
/-- neighbors ascend -/
def ascL (l : List Nat) : List Bool := (l.zip (l.drop 1)).map fun p => decide (p.1 < p.2)
def alOk (l : List Nat) : Bool := decide (1 ≤ l.length ∧ l.length ≤ 30) && ((ascL l).all id && (l.map fun c => decide (32 ≤ c ∧ c ≤ 126)).all id)
def sp_is_alphabet : Sp := fun vs H Q _ => ∃ l : List Nat, vs = [.str (S l)] ∧ l.length ≤ 1000 ∧ ∀ H', Same H H' → Q (.bl (alOk l)) H'
def sp_check_alphabet : Sp := fun vs H Q _ => ∃ l : List Nat, vs = [.str (S l)] ∧ l.length ≤ 1000 ∧ alOk l = true ∧ ∀ H', Same H H' → Q .non H'
theorem small_le {n : Nat} (h : n ≤ 1000) : n ≤ sizeLine := Nat.le_of_lt (small1000 h)
theorem map_take_succ {α β : Type} {f : α → β} {l : List α} {i : Nat} {x : α} (h : l[i]? = some x) : (l.take (i + 1)).map f = (l.take i).map f ++ [f x] := by
  rw [List.take_add_one, h, List.map_append]; rfl
theorem lt_cps (a b : Nat) : decide ((S [a]).cps.toList < (S [b]).cps.toList) = decide (a < b) := by
  apply decide_eq_decide.mpr
  show ([a] < [b]) ↔ a < b
  rw [List.cons_lt_cons_iff]
  constructor
  · rintro (h | ⟨_, h⟩)
    · exact h
    · exact absurd h (by simp)
  · exact .inl
section
variable {P : Program} {w : World} {K : PySem.W.Frag} {mg : Str → Option Value} {base : Heap}
theorem ok_is_number_below {f : Addr} {fd : FuncData} (F : C8.Fun K "is_number_below" "is_number_below" s_is_number_below f fd) (T : Txt K mg) (c_is_integer : C8.Cal P w K mg base 1 "is_integer" sp_is_integer []) : FnOk P w K mg base C8.CX0 2 f fd ["value", "end"] sp_is_number_below := by
  refine C8.fn0 F sc_is_number_below (fun vs H Q E h => ?_) (fun cdv A outer s H vs Q E hr h => ?_)
  · obtain ⟨x, n, rfl, _⟩ := h; rfl
  · obtain ⟨x, n, rfl, k, q⟩ := h
    refine ⟨_, (pss_one (ps_ret (pe_and (C8.pe_c c_is_integer hr (by first | decide | omega) (by rfl) (pa_cons (pv 0) pa_nil)) (pe_one (pe_chain op_le op_lt pe_int (pv 0) (pv 1)))))), ?_⟩
    refine ⟨_, rfl, x, rfl, k, _, rfl, ?_⟩
    cases k with
    | int i =>
      refine iteT ⟨_, rfl, _, _, rfl, rfl, _, rfl, ?_⟩
      have q' : Q (.bl (decide (0 ≤ i) && decide (i < n))) H := q
      by_cases c : 0 ≤ i
      · rw [decide_eq_true c] at q' ⊢
        exact iteT ⟨_, rfl, _, _, rfl, rfl, q'⟩
      · rw [decide_eq_false c] at q' ⊢
        exact iteF q'
    | bl b => exact iteF q
    | non => exact iteF q
    | str x => exact iteF q
    | lst e => exact iteF q
    | tup e => exact iteF q
theorem ok_is_sign {f : Addr} {fd : FuncData} (F : C8.Fun K "is_sign" "is_sign" s_is_sign f fd) (T : Txt K mg) : FnOk P w K mg base C8.CX0 1 f fd ["sign"] sp_is_sign := by
  refine C8.fn0 F sc_is_sign (fun vs H Q E h => ?_) (fun cdv A outer s H vs Q E hr h => ?_)
  · obtain ⟨c, rfl, _⟩ := h; rfl
  · obtain ⟨c, rfl, q⟩ := h
    refine ⟨_, (pss_one (ps_ret (pe_chain op_le_str op_le_str pe_str (pv 0) pe_str))), ?_⟩
    refine ⟨_, rfl, S [32], S [c], rfl, rfl, _, rfl, ?_⟩
    rw [lt_cps]
    by_cases h1 : c < 32
    · rw [decide_eq_true h1]
      refine iteF ?_
      rw [decide_eq_false (by omega)] at q; exact q
    · rw [decide_eq_false h1]
      refine iteT ⟨S [c], S [126], rfl, rfl, ?_⟩
      rw [lt_cps]
      have e : (!decide (126 < c)) = decide (32 ≤ c ∧ c ≤ 126) := by
        by_cases h2 : 126 < c
        · rw [decide_eq_true h2, decide_eq_false (by omega)]; rfl
        · rw [decide_eq_false h2, decide_eq_true (by omega)]; rfl
      rw [e]; exact q
theorem ok_is_alphabet {f : Addr} {fd : FuncData} (F : C8.Fun K "is_alphabet" "is_alphabet" s_is_alphabet f fd) (T : Txt K mg) (c_is_sign : C8.Cal P w K mg base 1 "is_sign" sp_is_sign []) : FnOk P w K mg base C8.CX0 2 f fd ["text"] sp_is_alphabet := by
  refine C8.fn0 F sc_is_alphabet (fun vs H Q E h => ?_) (fun cdv A outer s H vs Q E hr h => ?_)
  · obtain ⟨l, rfl, _⟩ := h; rfl
  · obtain ⟨l, rfl, hl, q⟩ := h
    refine ⟨_, (pss_cons (ps_set (i := 1) sc_is_alphabet.nd rfl (Or.inl rfl) (pe_callB (cr_all rfl) (by rfl) T.b_all (by decide +kernel) (pa_cons (pe_lc (own := [("first", 2), ("second", 3)]) (g := gTup K 2 (gCons (gName 2) (gCons (gName 3) (gNil)))) (tt := tYes) rfl sc_is_alphabet.nd (pi_zipT2 rfl T.b_zip (pa_cons (pv 0) (pa_cons (pe_slice sl_str (pv 0) (po_some pe_int) po_none) pa_nil))) (blkOk_by (N := N_is_alphabet) (sc := C8.fnScope s_is_alphabet) (by decide +kernel)) (fun _ _ _ _ _ => (pg_tup rfl (pgs_cons (pg_name (i := 2) sc_is_alphabet.nd rfl (Or.inl rfl)) (pgs_cons (pg_name (i := 3) sc_is_alphabet.nd rfl (Or.inl rfl)) pgs_nil)))) (fun _ _ _ _ _ => pts_nil) (fun _ _ _ _ _ => (pe_cmpR op_lt_str (pv 2) (pv 3) (nomark _)))) pa_nil)))
      (pss_one (ps_ret (pe_and (pe_chain op_le op_le pe_int (pe_callB call_len_str (by rfl) T.b_len PySem.boot_len (pa_cons (pv 0) pa_nil)) (C8.pe_gc rfl T.c_MOST_LETTERS)) (pe_and (pv 1) (pe_one (pe_callB (cr_all rfl) (by rfl) T.b_all (by decide +kernel) (pa_cons (pe_lc (own := [("sign", 4)]) (g := gName 4) (tt := tYes) rfl sc_is_alphabet.nd (pi_str (pv 0)) (blkOk_by (N := N_is_alphabet) (sc := C8.fnScope s_is_alphabet) (by decide +kernel)) (fun _ _ _ _ _ => (pg_name (i := 4) sc_is_alphabet.nd rfl (Or.inl rfl))) (fun _ _ _ _ _ => pts_nil) (fun _ _ _ _ _ => (C8.pe_c c_is_sign hr (by first | decide | omega) (by rfl) (pa_cons (pv 4) pa_nil)))) pa_nil)))))))), ?_⟩
    refine ⟨_, rfl, _, rfl, 1, rfl, S l, rfl, by rw [S_len]; exact small_le hl, ?_⟩
    have e1 : cutS (S l) (some 1) none = S (l.drop 1) := cutS_from l 1
    rw [e1]
    refine ⟨_, _, _, _, _, _, _, _, rfl, src_text H l, src_text H (l.drop 1), fun D hD => lc_it walkG (fun i H' => Same H H' ∧ H' D = some (.lst (((ascL l).take i).map V.bl))) ⟨same_new hD, upd_same⟩ (fun _ _ _ _ => ⟨trivial, trivial⟩) ?_ ?_⟩
    · rintro i x H1 H2 hi ⟨s1, hd⟩ ⟨Tt, xs, rfl, hT, rfl, v1, v2, ⟨c1, h1, rfl⟩, ⟨c2, h2, rfl⟩, rfl⟩
      refine ⟨Tt, _, rfl, SqT.of upd_same, rfl, _, _, rfl, _, _, rfl, rfl, rfl, _, rfl, _, rfl, S [c1], S [c2], rfl, rfl, ?_⟩
      rw [S_get] at h1 h2
      have hz : (l.zip (l.drop 1))[i]? = some (c1, c2) := by
        rw [List.getElem?_zip_eq_some]; exact ⟨h1, h2⟩
      have hb : (ascL l)[i]? = some (decide (c1 < c2)) := by rw [ascL, List.getElem?_map, hz]; rfl
      have hne : D ≠ Tt := ne_of_none hd hT
      refine ⟨_, (upd_ne hne).trans hd, ?_, ?_, ?_⟩
      · rw [List.length_map, List.length_take]
        exact small1000 (by have := List.length_drop (i := 1) (l := l); omega)
      · exact Same.put (Same.new s1 hT) hD
      · rw [upd_same, lt_cps, map_take_succ hb]
    · rintro H1 ⟨s1, hd⟩
      have hn : min l.length (l.drop 1).length = (ascL l).length := by rw [ascL, List.length_map, List.length_zip]
      rw [hn, List.take_length] at hd
      refine ⟨D, _, rfl, SqL.of hd, ?_⟩
      have q2 := q
      refine ⟨_, rfl, S l, rfl, by rw [S_len]; exact small_le hl, 1, _, rfl, rfl, _, rfl, ?_⟩
      rw [S_len]
      by_cases c1 : 1 ≤ l.length ∧ l.length ≤ 30
      · rw [decide_eq_true (by omega : (1 : Int) ≤ (l.length : Int))]
        refine iteT ⟨_, _, rfl, rfl, _, rfl, ?_⟩
        rw [decide_eq_true (by omega : (l.length : Int) ≤ 30)]
        refine iteT ⟨_, rfl, _, rfl, ?_⟩
        have q3 : ∀ H', Same H H' → Q (.bl ((ascL l).all id && (l.map fun c => decide (32 ≤ c ∧ c ≤ 126)).all id)) H' := fun H' sm => by
          have := q H' sm
          rw [alOk, decide_eq_true c1] at this
          exact this
        cases hb : (ascL l).all id with
        | false =>
          rw [hb] at q3
          exact iteF (q3 _ s1)
        | true =>
          rw [hb] at q3
          refine iteT ?_
          refine ⟨_, rfl, S l, rfl, fun D2 hD2 => lc_it walk_str (fun i H' => Same H H' ∧ H' D2 = some (.lst (((l.map fun c => decide (32 ≤ c ∧ c ≤ 126)).take i).map V.bl))) ⟨Same.new s1 hD2, upd_same⟩ (fun _ _ _ _ => trivial) ?_ ?_⟩
          · rintro i x H2 H3 hi ⟨s2, hd2⟩ ⟨rfl, c, hc, rfl⟩
            rw [S_get] at hc
            refine ⟨rfl, _, rfl, c, rfl, ?_⟩
            have hb2 : (l.map fun c => decide (32 ≤ c ∧ c ≤ 126))[i]? = some (decide (32 ≤ c ∧ c ≤ 126)) := by rw [List.getElem?_map, hc]; rfl
            refine ⟨_, hd2, ?_, Same.put s2 (s1.free hD2), ?_⟩
            · rw [List.length_map, List.length_take, List.length_map]
              exact small1000 (by omega)
            · rw [upd_same, map_take_succ hb2]
          · rintro H2 ⟨s2, hd2⟩
            have hn2 : (S l).cps.size = (l.map fun c => decide (32 ≤ c ∧ c ≤ 126)).length := by rw [S_size, List.length_map]
            rw [hn2, List.take_length] at hd2
            exact ⟨D2, _, rfl, SqL.of hd2, q3 H2 s2⟩
      · have q3 : ∀ H', Same H H' → Q (.bl false) H' := fun H' sm => by
          have := q H' sm
          rw [alOk, decide_eq_false c1] at this
          exact this
        by_cases c2 : 1 ≤ l.length
        · rw [decide_eq_true (by omega : (1 : Int) ≤ (l.length : Int))]
          refine iteT ⟨_, _, rfl, rfl, _, rfl, ?_⟩
          rw [decide_eq_false (by omega : ¬ (l.length : Int) ≤ 30)]
          exact iteF (q3 _ s1)
        · rw [decide_eq_false (by omega : ¬ (1 : Int) ≤ (l.length : Int))]
          exact iteF ⟨_, rfl, iteF (q3 _ s1)⟩
theorem ok_check_alphabet {f : Addr} {fd : FuncData} (F : C8.Fun K "check_alphabet" "check_alphabet" s_check_alphabet f fd) (T : Txt K mg) (c_is_alphabet : C8.Cal P w K mg base 2 "is_alphabet" sp_is_alphabet []) : FnOk P w K mg base C8.CX0 3 f fd ["text"] sp_check_alphabet := by
  refine C8.fn0 F sc_check_alphabet (fun vs H Q E h => ?_) (fun cdv A outer s H vs Q E hr h => ?_)
  · obtain ⟨l, rfl, _⟩ := h; rfl
  · obtain ⟨l, rfl, hl, hok, q⟩ := h
    refine ⟨_, (pss_one (ps_if (pt_not (pt_val (C8.pe_c c_is_alphabet hr (by first | decide | omega) (by rfl) (pa_cons (pv 0) pa_nil)))) (pss_one ps_never) pss_nil)), ?_⟩
    refine ⟨_, rfl, l, rfl, hl, fun H' s1 => ⟨_, rfl, ?_⟩⟩
    rw [hok]
    exact iteF (q H' s1)
end
end RJ
end

section
set_option maxRecDepth 100000
set_option maxHeartbeats 2000000
namespace RJ
open PySem PySem.Spec PyProof.Rows L2
abbrev s_letter_row : Stmt := top 21
abbrev N_letter_row : List Str := ["alphabet", "text", "row", "at", "sign", "piece"]
theorem sc_letter_row : FnScope N_letter_row ["alphabet", "text"] (C8.fnScope s_letter_row) := C8.fnScope_by (by decide +kernel)
abbrev s_join_neighbors : Stmt := top 22
abbrev N_join_neighbors : List Str := ["row", "pair", "piece", "left", "right", "joined", "following"]
theorem sc_join_neighbors : FnScope N_join_neighbors ["row", "pair", "piece"] (C8.fnScope s_join_neighbors) := C8.fnScope_by (by decide +kernel)
abbrev s_lowest_join : Stmt := top 23
abbrev N_lowest_join : List Str := ["ranks", "row", "pair"]
theorem sc_lowest_join : FnScope N_lowest_join ["ranks", "row"] (C8.fnScope s_lowest_join) := C8.fnScope_by (by decide +kernel)
abbrev s_join_down : Stmt := top 24
abbrev N_join_down : List Str := ["ranks", "letters", "row", "lowest", "rank", "pair"]
theorem sc_join_down : FnScope N_join_down ["ranks", "letters", "row"] (C8.fnScope s_join_down) := C8.fnScope_by (by decide +kernel)
/-- a list or a tuple walked -/
def ItSeq (K : PySem.W.Frag) (b : Bool) (a : Addr) : It := match b with | true => Itl K a | false => Itt K a
def iSeq (K : PySem.W.Frag) (tl : TE) : TI := fun σ H R => tl σ H fun x H1 => ∃ b a xs, x = .ref a ∧ SeqAt b H1 a xs ∧ R (ItSeq K b a) H1
theorem walk_seq {K : PySem.W.Frag} {b : Bool} {a : Addr} {xs : List V} : Walk (ItSeq K b a) xs.length (fun H => SeqAt b H a xs) (YAt xs) := by
  cases b with
  | true => exact walk_list.mono (fun H h => SqL.of h) fun _ _ _ _ _ _ y => y
  | false => exact walk_tup.mono (fun H h => SqT.of h) fun _ _ _ _ _ _ y => y
theorem pi_seq {X : Cx} {tg l : Expr} {tl : TE} (hl : PE X l tl) : PI X tg l (iSeq X.K tl) := by
  refine ⟨fun pins s σ H R I h => ?_⟩
  refine thn (hl.run pins s σ H _ I h) fun v s1 ⟨x, H1, I1, r1, q1⟩ => ?_
  obtain ⟨b, a, xs, e, hq, q⟩ := q1
  subst e
  cases r1
  cases b with
  | true =>
    obtain ⟨its, rv, p, hz⟩ := I1.list (SqL.of hq)
    refine wpAny_pyIter_list p.isList ?_
    refine ⟨s1.heap.objs.size, [s1.heap.objs.size], _, _, H1, rfl, I1.kept (t' := s1.toks) fun b o e => Heap.get?_push_of_some _ e, turn_list a _, ⟨_, Heap.get?_push_size _ rfl, rfl, rfl⟩, fun b hb => ?_, q⟩
    have e : b = s1.heap.objs.size := by simpa using hb
    subst e
    exact I1.fpOk (Nat.le_refl _) (I1.hok.fresh (Nat.le_refl _))
  | false =>
    obtain ⟨its, rv, p, hz⟩ := I1.tuple (SqT.of hq)
    refine wpAny_pyIter_tuple (show s1.heap.IsTuple a its.toArray from p) ?_
    refine ⟨s1.heap.objs.size, [s1.heap.objs.size], _, _, H1, rfl, I1.kept (t' := s1.toks) fun b o e => Heap.get?_push_of_some _ e, turn_tuple a _, ⟨_, Heap.get?_push_size _ rfl, rfl, rfl⟩, fun b hb => ?_, q⟩
    have e : b = s1.heap.objs.size := by simpa using hb
    subst e
    exact I1.fpOk (Nat.le_refl _) (I1.hok.fresh (Nat.le_refl _))
/-- a slice of a list or a tuple -/
def rSlSeq (K : PySem.W.Frag) : V → Option Int → Option Int → Hp → VK → Prop := fun x lo hi H Q => rSlL K x lo hi H Q ∨ rSlA K x lo hi H Q
theorem sl_seq {X : Cx} : SlR X (rSlSeq X.K) := SlR.or sl_list sl_tupA
/-! ### signs and their places -/
theorem at_one (al : List Nat) (c i : Nat) : PySem.StrLaws.At (S al) ⟨#[c]⟩ (S al).length i ↔ al[i]? = some c := by
  have h := PySem.StrLaws.subAt_one (S al) c i
  exact h
theorem find_sign {al : List Nat} {c : Nat} (h : c ∈ al) : ∃ r, Builtin.Str.occurrences (S al) ⟨#[c]⟩ 0 (S al).length 1 = al.idxOf c :: r := by
  rcases PySem.StrLaws.occ_head (S al) ⟨#[c]⟩ 1 (Nat.le_refl _) with ⟨_, hn⟩ | ⟨i, r, e, hi, hn⟩
  · obtain ⟨i, hi⟩ := List.mem_iff_getElem?.mp h
    exact absurd ((at_one al c i).mpr hi) (hn i)
  · refine ⟨r, ?_⟩
    rw [e]
    have hi' := (at_one al c i).mp hi
    obtain ⟨hil, hie⟩ := List.getElem?_eq_some_iff.mp hi'
    have key : al.idxOf c = i := by
      have h1 : al.idxOf c < al.length := List.idxOf_lt_length_iff.mpr h
      have h2 : al[al.idxOf c] = c := List.getElem_idxOf h1
      rcases Nat.lt_trichotomy (al.idxOf c) i with q | q | q
      · exact absurd ((at_one al c _).mpr (by rw [List.getElem?_eq_getElem h1, h2])) (hn _ q)
      · exact q
      · exact absurd hie (by
          have := List.not_of_lt_findIdx (p := (· == c)) (xs := al) (i := i) (by exact q)
          intro z
          simp [z] at this)
    rw [key]
def sp_letter_row : Sp := fun vs H Q _ => ∃ al t : List Nat, vs = [.str (S al), .str (S t)] ∧ (∀ c ∈ t, c ∈ al) ∧ t.length ≤ 1000 ∧ ∀ H' p, Same H H' → H p = none → H' p = some (.lst (iv (lets al t))) → Q (.ref p) H'
def sp_join_neighbors : Sp := fun vs H Q _ => ∃ (b : Bool) (a p : Addr) (row : List Nat) (l r m : Nat), vs = [.ref a, .ref p, .int (m : Int)] ∧ RowAt b H a row ∧ H p = some (.tup [.int (l : Int), .int (r : Int)]) ∧ m ≠ l ∧ row.length ≤ 1000 ∧
  ∀ H' q, Same H H' → H q = none → H' q = some (.lst (iv (pass l r m row))) → Q (.ref q) H'
/-- the pass as the program does it -/
def stepJ (l r m : Nat) (acc : List Nat) (x : Nat) : List Nat := if acc.getLast? = some l ∧ x = r then acc.dropLast ++ [m] else acc ++ [x]
theorem pass_m {l r m : Nat} (hm : m ≠ l) (t : List Nat) : pass l r m (m :: t) = m :: pass l r m t := by
  cases t with
  | nil => rfl
  | cons c t => rw [pass, if_neg fun q => hm q.1]
theorem stepJ_pass {l r m : Nat} (hm : m ≠ l) : ∀ (t : List Nat) (acc : List Nat) (a : Nat), t.foldl (stepJ l r m) (acc ++ [a]) = acc ++ pass l r m (a :: t)
  | [], acc, a => rfl
  | b :: t, acc, a => by
    rw [List.foldl_cons, pass]
    have hl : (acc ++ [a]).getLast? = some a := by rw [List.getLast?_append]; rfl
    by_cases c : a = l ∧ b = r
    · rw [if_pos c, stepJ, if_pos ⟨by rw [hl, c.1], c.2⟩, List.dropLast_concat, stepJ_pass hm t acc m, pass_m hm]
    · rw [if_neg c, stepJ, if_neg fun q => c ⟨Option.some.inj (hl.symm.trans q.1), q.2⟩, stepJ_pass hm t (acc ++ [a]) b, List.append_assoc]; rfl
theorem stepJ_all {l r m : Nat} (hm : m ≠ l) (row : List Nat) : row.foldl (stepJ l r m) [] = pass l r m row := by
  cases row with
  | nil => rfl
  | cons a t => exact stepJ_pass hm t [] a
theorem foldl_take_succ {α β : Type} {f : β → α → β} {l : List α} {i : Nat} {x : α} (h : l[i]? = some x) (b : β) : (l.take (i + 1)).foldl f b = f ((l.take i).foldl f b) x := by
  rw [List.take_add_one, h, List.foldl_append]; rfl
theorem stepJ_len (l r m : Nat) (acc : List Nat) (x : Nat) : (stepJ l r m acc x).length ≤ acc.length + 1 := by
  unfold stepJ
  split
  · rw [List.length_append, List.length_dropLast]; simp only [List.length_cons, List.length_nil]; omega
  · rw [List.length_append]; exact Nat.le_refl _
theorem foldJ_len (l r m : Nat) : ∀ (row acc : List Nat), (row.foldl (stepJ l r m) acc).length ≤ acc.length + row.length
  | [], acc => Nat.le_refl _
  | x :: row, acc => by
    rw [List.foldl_cons]
    have h1 := foldJ_len l r m row (stepJ l r m acc x)
    have h2 := stepJ_len l r m acc x
    rw [List.length_cons]; omega
theorem atI_neg1 {xs : List V} {v : V} (h : xs.getLast? = some v) : atI xs (-1) = some v := by
  obtain ⟨ys, rfl⟩ := List.getLast?_eq_some_iff.mp h
  exact atI_last ys v
theorem iv_last {l : List Nat} {n : Nat} (h : l.getLast? = some n) : (iv l).getLast? = some (V.int (n : Int)) := by
  obtain ⟨ys, rfl⟩ := List.getLast?_eq_some_iff.mp h
  rw [← iv_snoc, List.getLast?_append]; rfl
theorem ixN_neg1 {n : Nat} (h : 0 < n) : ixN n (-1) = some (n - 1) := by
  unfold ixN
  rw [if_neg (by omega), if_pos (by omega)]
  exact congrArg some (by omega)
theorem iv_set_last {l : List Nat} (m : Nat) (h : l ≠ []) : (iv l).set (l.length - 1) (V.int (m : Int)) = iv (l.dropLast ++ [m]) := by
  obtain ⟨ys, y, rfl⟩ : ∃ ys y, l = ys ++ [y] := ⟨l.dropLast, l.getLast h, (List.dropLast_concat_getLast h).symm⟩
  rw [List.dropLast_concat, ← iv_snoc, ← iv_snoc]
  have e : (ys ++ [y]).length - 1 = (iv ys).length := by rw [iv_len, List.length_append]; simp
  rw [e, List.set_append_right _ _ (Nat.le_refl _), Nat.sub_self]; rfl
theorem nat_eq_int (a b : Nat) : decide ((V.int (a : Int)) = V.int (b : Int)) = decide (a = b) := by
  apply decide_eq_decide.mpr
  constructor
  · intro h; injection h with h; omega
  · intro h; rw [h]
section
variable {P : Program} {w : World} {K : PySem.W.Frag} {mg : Str → Option Value} {base : Heap}
theorem ok_letter_row {f : Addr} {fd : FuncData} (F : C8.Fun K "letter_row" "letter_row" s_letter_row f fd) (T : Txt K mg) : FnOk P w K mg base C8.CX0 1 f fd ["alphabet", "text"] sp_letter_row := by
  refine C8.fn0 F sc_letter_row (fun vs H Q E h => ?_) (fun cdv A outer s H vs Q E hr h => ?_)
  · obtain ⟨al, t, rfl, _⟩ := h; rfl
  · obtain ⟨al, t, rfl, hm, hl, q⟩ := h
    refine ⟨_, (pss_cons (ps_set (i := 2) sc_letter_row.nd rfl (Or.inl rfl) (pe_lst pa_nil))
      (pss_cons (ps_for PassesOwn.never rfl (pi_enumG rfl T.b_enumerate (pa_cons (pv 1) pa_nil)) (pg_tup rfl (pgs_cons (pg_name (i := 3) sc_letter_row.nd rfl (Or.inl rfl)) (pgs_cons (pg_name (i := 4) sc_letter_row.nd rfl (Or.inl rfl)) pgs_nil))) (pss_cons (ps_set (i := 5) sc_letter_row.nd rfl (Or.inl rfl) (pe_bm PySem.F.plainAttrs_str PySem.F.slot_str_find PySem.F.type_str_find mt_find (pv 0) (pa_cons (pv 4) pa_nil)))
      (pss_cons (ps_if (pt_cmpR op_lt (pv 5) pe_int (nomark _)) (pss_one ps_never) pss_nil)
      (pss_one (ps_expr (pe_bm PySem.F.plainAttrs_list PySem.F.slot_list_append PySem.F.type_list_append mt_append (pv 2) (pa_cons (pv 5) pa_nil)))))))
      (pss_one (ps_ret (pv 2))))), ?_⟩
    refine ⟨by show (0 : Nat) ≤ sizeLine; exact Nat.zero_le _, fun p hp => ?_⟩
    refine ⟨_, rfl, _, _, _, _, rfl, src_text _ t, for_it walkG (fun i σ H' => ∃ v3 v4 v5 : Option V, σ = [some (.str (S al)), some (.str (S t)), some (.ref p), v3, v4, v5] ∧ Same H H' ∧ H' p = some (.lst (iv (lets al (t.take i))))) ⟨none, none, none, rfl, same_new hp, upd_same⟩ (fun _ _ _ _ _ => trivial) ?_ ?_⟩
    · rintro i x σ H1 H2 hi ⟨v3, v4, v5, rfl, s1, hd⟩ ⟨Tt, xs, rfl, hT, rfl, v, ⟨c, hc, rfl⟩, rfl⟩
      rw [S_get] at hc
      obtain ⟨r, hfind⟩ := find_sign (hm c (List.mem_of_getElem? hc))
      refine ⟨Tt, _, rfl, SqT.of upd_same, rfl, _, _, rfl, _, _, rfl, rfl, ?_⟩
      refine ⟨_, rfl, rfl, _, rfl, S al, ⟨#[c]⟩, rfl, rfl, ?_⟩
      have hf : Txt.find (S al) ⟨#[c]⟩ = (al.idxOf c : Int) := by unfold Txt.find; rw [hfind]
      rw [hf]
      refine ⟨_, rfl, _, _, rfl, rfl, _, rfl, ?_⟩
      rw [decide_eq_false (by omega : ¬ (al.idxOf c : Int) < 0)]
      refine iteF ?_
      have hne : p ≠ Tt := ne_of_none hd hT
      have hd2 : upd H1 Tt (.tup [.int (i : Int), .str ⟨#[c]⟩]) p = some (.lst (iv (lets al (t.take i)))) := (upd_ne hne).trans hd
      refine ⟨_, rfl, .inl ⟨rfl, _, SqL.of hd2⟩, _, rfl, p, _, _, rfl, rfl, hd2, ?_, ?_⟩
      · rw [iv_len, lets, List.length_map, List.length_take]
        exact small1000 (by omega)
      · refine ⟨_, _, _, rfl, Same.put (Same.new s1 hT) hp, ?_⟩
        rw [upd_same, iv_snoc, lets, lets, map_take_succ hc]
    · rintro σ H1 ⟨v3, v4, v5, rfl, s1, hd⟩
      rw [List.take_length] at hd
      exact ⟨_, rfl, q H1 p s1 hp hd⟩
theorem ok_join_neighbors {f : Addr} {fd : FuncData} (F : C8.Fun K "join_neighbors" "join_neighbors" s_join_neighbors f fd) (T : Txt K mg) : FnOk P w K mg base C8.CX0 1 f fd ["row", "pair", "piece"] sp_join_neighbors := by
  refine C8.fn0 F sc_join_neighbors (fun vs H Q E h => ?_) (fun cdv A outer s H vs Q E hr h => ?_)
  · obtain ⟨b, a, p, row, l, r, m, rfl, _⟩ := h; rfl
  · obtain ⟨b, a, p, row, l, r, m, rfl, hrow, hpair, hm, hl, q⟩ := h
    refine ⟨_, (pss_cons (ps_asg (pv 1) (pg_tup rfl (pgs_cons (pg_name (i := 3) sc_join_neighbors.nd rfl (Or.inl rfl)) (pgs_cons (pg_name (i := 4) sc_join_neighbors.nd rfl (Or.inl rfl)) pgs_nil))))
      (pss_cons (ps_set (i := 5) sc_join_neighbors.nd rfl (Or.inl rfl) (pe_lst pa_nil))
      (pss_cons (ps_for PassesOwn.never rfl (pi_seq (pv 0)) (pg_name (i := 6) sc_join_neighbors.nd rfl (Or.inl rfl)) (pss_one (ps_if (PW.pt (pw_and (pt_truth (pv 5) (fun _ => rfl)) (pw_and (pt_cmpR op_eq (pe_ix ix_list (pv 5) (pe_un un_neg pe_int) (fun _ _ => rfl)) (pv 3) (nomark _)) (pw_and1 (pt_cmpR op_eq (pv 6) (pv 4) (nomark _)))))) (pss_one (ps_asg (pv 2) (pg_sub (pv 5) (pe_un un_neg pe_int) set_list))) (pss_one (ps_expr (pe_bm PySem.F.plainAttrs_list PySem.F.slot_list_append PySem.F.type_list_append mt_append (pv 5) (pa_cons (pv 6) pa_nil)))))))
      (pss_one (ps_ret (pv 5)))))), ?_⟩
    refine ⟨_, rfl, p, _, rfl, SqT.of hpair, rfl, _, _, rfl, _, _, rfl, rfl, ?_⟩
    refine ⟨by show (0 : Nat) ≤ sizeLine; exact Nat.zero_le _, fun J hJ => ?_⟩
    refine ⟨_, rfl, b, a, iv row, rfl, hrow.same (same_new hJ), for_it walk_seq (fun i σ H' => ∃ v6 : Option V, σ = [some (.ref a), some (.ref p), some (.int (m : Int)), some (.int (l : Int)), some (.int (r : Int)), some (.ref J), v6] ∧ Same H H' ∧ H' J = some (.lst (iv ((row.take i).foldl (stepJ l r m) []))))
        ⟨none, rfl, same_new hJ, upd_same⟩ (fun _ _ _ _ ⟨_, _, s1, _⟩ => hrow.same s1) ?_ ?_⟩
    · rintro i x σ H1 H2 hi ⟨v6, rfl, s1, hd⟩ ⟨rfl, hx⟩
      obtain ⟨n, hn, rfl⟩ := iv_get hx
      have hfold := foldl_take_succ (f := stepJ l r m) hn []
      have hlen : ((row.take i).foldl (stepJ l r m) []).length < sizeLine := small1000 (by
        have h1 := foldJ_len l r m (row.take i) []
        rw [List.length_take] at h1
        simp only [List.length_nil] at h1; omega)
      generalize hacc : (row.take i).foldl (stepJ l r m) [] = acc at hd hfold hlen
      refine ⟨_, rfl, _, .inl ⟨_, SqL.of hd, rfl⟩, ?_⟩
      have fin : ∀ (acc' : List Nat), acc' = stepJ l r m acc n → ∃ v6 : Option V, [some (V.ref a), some (.ref p), some (.int (m : Int)), some (.int (l : Int)), some (.int (r : Int)), some (.ref J), some (.int (n : Int))] = [some (V.ref a), some (.ref p), some (.int (m : Int)), some (.int (l : Int)), some (.int (r : Int)), some (.ref J), v6] ∧ Same H (upd H2 J (.lst (iv acc'))) ∧ (upd H2 J (.lst (iv acc'))) J = some (.lst (iv ((row.take (i + 1)).foldl (stepJ l r m) []))) := fun acc' e =>
        ⟨_, rfl, Same.put s1 hJ, by rw [upd_same, hfold, e]⟩
      cases hq : acc.getLast? with
      | none =>
        have e : acc = [] := List.getLast?_eq_none_iff.mp hq
        have hc : ¬ (acc.getLast? = some l ∧ n = r) := by rw [hq]; rintro ⟨q, _⟩; cases q
        have e2 : (!(iv acc).isEmpty) = false := by rw [e]; rfl
        rw [e2]
        refine iteF (iteF ?_)
        refine ⟨_, rfl, .inl ⟨rfl, _, SqL.of hd⟩, _, rfl, J, _, _, rfl, rfl, hd, by rw [iv_len]; exact hlen, ?_⟩
        rw [iv_snoc]
        exact fin _ (by rw [stepJ, if_neg hc])
      | some z =>
        have e2 : (!(iv acc).isEmpty) = true := by
          obtain ⟨ys, e⟩ := List.getLast?_eq_some_iff.mp hq
          rw [e, ← iv_snoc]; simp
        rw [e2]
        refine iteT ⟨_, rfl, _, rfl, J, iv acc, _, _, rfl, rfl, SqL.of hd, atI_neg1 (iv_last hq), _, rfl, rfl, _, rfl, ?_⟩
        rw [nat_eq_int]
        by_cases c1 : z = l
        · rw [decide_eq_true c1]
          refine iteT ⟨_, rfl, _, rfl, rfl, _, rfl, ?_⟩
          rw [nat_eq_int]
          by_cases c2 : n = r
          · rw [decide_eq_true c2]
            have hne : acc ≠ [] := by intro e; rw [e] at hq; cases hq
            have hpos : 0 < acc.length := List.length_pos_iff.mpr hne
            refine iteT ⟨_, rfl, _, rfl, _, rfl, J, iv acc, _, acc.length - 1, rfl, rfl, hd, by rw [iv_len]; exact ixN_neg1 hpos, ?_⟩
            rw [iv_set_last m hne]
            exact fin _ (by rw [stepJ, if_pos ⟨by rw [hq, c1], c2⟩])
          · rw [decide_eq_false c2]
            have hc : ¬ (acc.getLast? = some l ∧ n = r) := fun q => c2 q.2
            refine iteF ?_
            refine ⟨_, rfl, .inl ⟨rfl, _, SqL.of hd⟩, _, rfl, J, _, _, rfl, rfl, hd, by rw [iv_len]; exact hlen, ?_⟩
            rw [iv_snoc]
            exact fin _ (by rw [stepJ, if_neg hc])
        · rw [decide_eq_false c1]
          have hc : ¬ (acc.getLast? = some l ∧ n = r) := by rw [hq]; rintro ⟨q, _⟩; exact c1 (Option.some.inj q)
          refine iteF (iteF ?_)
          refine ⟨_, rfl, .inl ⟨rfl, _, SqL.of hd⟩, _, rfl, J, _, _, rfl, rfl, hd, by rw [iv_len]; exact hlen, ?_⟩
          rw [iv_snoc]
          exact fin _ (by rw [stepJ, if_neg hc])
    · rintro σ H1 ⟨v6, rfl, s1, hd⟩
      rw [iv_len, List.take_length, stepJ_all hm] at hd
      exact ⟨_, rfl, q H1 J s1 hJ hd⟩
end
end RJ
end

section
set_option maxRecDepth 100000
set_option maxHeartbeats 2000000
namespace RJ
open PySem PySem.Spec PyProof.Rows L2
open PySem.W (minD AlikeAll alike alikeAll dataLt)
/-! ### the dict of ranks -/
def pkey (p : Nat × Nat) : List Key := [.inl (p.1 : Int), .inl (p.2 : Int)]
theorem pkey_inj {p q : Nat × Nat} (h : pkey p = pkey q) : p = q := by
  obtain ⟨a, b⟩ := p
  obtain ⟨c, d⟩ := q
  have h' : ([.inl (a : Int), .inl (b : Int)] : List Key) = [.inl (c : Int), .inl (d : Int)] := h
  injection h' with h1 h2
  injection h2 with h2 h3
  injection h1 with h1
  injection h2 with h2
  have e1 : a = c := by omega
  have e2 : b = d := by omega
  rw [e1, e2]
def kvsF : Nat → List (Nat × Nat) → List (List Key × V)
  | _, [] => []
  | k, p :: ps => (pkey p, V.int (k : Int)) :: kvsF (k + 1) ps
theorem kvsF_len : ∀ (k : Nat) (ps : List (Nat × Nat)), (kvsF k ps).length = ps.length
  | _, [] => rfl
  | k, p :: ps => congrArg (· + 1) (kvsF_len (k + 1) ps)
theorem kvsF_snoc : ∀ (k : Nat) (ps : List (Nat × Nat)) (p : Nat × Nat), kvsF k (ps ++ [p]) = kvsF k ps ++ [(pkey p, V.int ((k + ps.length : Nat) : Int))]
  | k, [], p => rfl
  | k, q :: ps, p => by
    show (pkey q, V.int (k : Int)) :: kvsF (k + 1) (ps ++ [p]) = (pkey q, V.int (k : Int)) :: (kvsF (k + 1) ps ++ _)
    rw [kvsF_snoc (k + 1) ps p, show k + 1 + ps.length = k + (q :: ps).length by rw [List.length_cons]; omega]
theorem idxOf_ne {p q : Nat × Nat} (ps : List (Nat × Nat)) (h : ¬ q = p) : (q :: ps).idxOf p = ps.idxOf p + 1 := by
  rw [List.idxOf_cons]
  have : (q == p) = false := beq_eq_false_iff_ne.mpr h
  rw [this]; rfl
theorem kvsF_get (p : Nat × Nat) : ∀ (k : Nat) (ps : List (Nat × Nat)), valV (kvsF k ps) (pkey p) = if p ∈ ps then some (V.int ((k + ps.idxOf p : Nat) : Int)) else none
  | k, [] => by rw [if_neg List.not_mem_nil]; exact valV_nil
  | k, q :: ps => by
    show valV ((pkey q, V.int (k : Int)) :: kvsF (k + 1) ps) (pkey p) = _
    by_cases h : q = p
    · subst h
      rw [valV_pos (p := (pkey q, V.int (k : Int))) rfl, if_pos (List.mem_cons_self ..), List.idxOf_cons_self]; rfl
    · rw [valV_neg (p := (pkey q, V.int (k : Int))) fun z => h (pkey_inj z), kvsF_get p (k + 1) ps]
      by_cases hm : p ∈ ps
      · have e : List.idxOf p (q :: ps) = ps.idxOf p + 1 := idxOf_ne _ h
        rw [if_pos hm, if_pos (List.mem_cons_of_mem _ hm), e, show k + 1 + ps.idxOf p = k + (ps.idxOf p + 1) by omega]
      · rw [if_neg hm, if_neg fun z => by
          rcases List.mem_cons.mp z with e | e
          · exact h e.symm
          · exact hm e]
theorem idxOf_get {p : Nat × Nat} {ps : List (Nat × Nat)} (h : p ∈ ps) : ps[ps.idxOf p]? = some p := by
  have h1 : ps.idxOf p < ps.length := List.idxOf_lt_length_iff.mpr h
  rw [List.getElem?_eq_getElem h1, List.getElem_idxOf h1]
theorem idxOf_le {p : Nat × Nat} : ∀ {ps : List (Nat × Nat)} {j : Nat}, ps[j]? = some p → ps.idxOf p ≤ j
  | [], j, h => by cases h
  | q :: ps, j, h => by
    by_cases e : q = p
    · subst e; rw [List.idxOf_cons_self]; exact Nat.zero_le _
    · cases j with
      | zero => exact absurd (Option.some.inj h) e
      | succ j =>
        rw [idxOf_ne _ e]
        exact Nat.succ_le_succ (idxOf_le h)
/-! ### tuples stay -/
def SameT (H H' : Hp) : Prop := ∀ b xs, H b = some (.tup xs) → H' b = some (.tup xs)
theorem Same.t {H H' : Hp} (s : Same H H') : SameT H H' := fun b xs e => s b _ e
theorem SameT.put {H : Hp} {p : Addr} {o : HO} {xs : List V} (h : H p = some (.lst xs)) : SameT H (upd H p o) := fun b ys e => by
  rw [upd_ne (ne_of e h (by intro z; cases z))]; exact e
/-- a rank and its pair, as a tuple -/
def TripAt (H : Hp) (v : V) (x : Nat × (Nat × Nat)) : Prop := ∃ t q, v = .ref t ∧ H t = some (.tup [.int (x.1 : Int), .ref q]) ∧ H q = some (.tup [.int (x.2.1 : Int), .int (x.2.2 : Int)])
theorem TripAt.same {H H' : Hp} {v : V} {x : Nat × (Nat × Nat)} (h : TripAt H v x) (s : SameT H H') : TripAt H' v x := by
  obtain ⟨t, q, e, h1, h2⟩ := h
  exact ⟨t, q, e, s _ _ h1, s _ _ h2⟩
theorem Paired.snoc {α β : Type} {F : α → β → Prop} {x : α} {y : β} (r : F x y) : ∀ {xs : List α} {ys : List β}, Paired F xs ys → Paired F (xs ++ [x]) (ys ++ [y])
  | _, _, .nil => .cons r .nil
  | _, _, .cons a t => .cons a (Paired.snoc r t)
theorem Paired.at {α β : Type} {F : α → β → Prop} : ∀ {xs : List α} {ys : List β} {i : Nat} {x : α}, Paired F xs ys → xs[i]? = some x → ∃ y, ys[i]? = some y ∧ F x y
  | _, _, _, _, .nil, e => by simp at e
  | _, _, 0, _, .cons r _, e => by simp at e; subst e; exact ⟨_, rfl, r⟩
  | _, _, i + 1, x, .cons _ t, e => by
    obtain ⟨y, h1, h2⟩ := Paired.at (i := i) (x := x) t (by simpa using e)
    exact ⟨y, by simpa using h1, h2⟩
theorem Paired.at2 {α β : Type} {F : α → β → Prop} : ∀ {xs : List α} {ys : List β} {i : Nat} {y : β}, Paired F xs ys → ys[i]? = some y → ∃ x, xs[i]? = some x ∧ F x y
  | _, _, _, _, .nil, e => by simp at e
  | _, _, 0, _, .cons r _, e => by simp at e; subst e; exact ⟨_, rfl, r⟩
  | _, _, i + 1, y, .cons _ t, e => by
    obtain ⟨x, h1, h2⟩ := Paired.at2 (i := i) (y := y) t (by simpa using e)
    exact ⟨x, by simpa using h1, h2⟩
def tripD (x : Nat × (Nat × Nat)) : PyData := .tuple [.int (x.1 : Int), .tuple [.int (x.2.1 : Int), .int (x.2.2 : Int)]]
theorem tripD_inj {x y : Nat × (Nat × Nat)} (h : tripD x = tripD y) : x = y := by
  obtain ⟨a, b, c⟩ := x
  obtain ⟨a', b', c'⟩ := y
  injection h with h
  injection h with h1 h
  injection h with h2 h3
  injection h2 with h2
  injection h2 with h4 h5
  injection h5 with h5 h6
  injection h1 with h1
  injection h4 with h4
  injection h5 with h5
  have e1 : a = a' := by exact Int.ofNat.inj h1
  have e2 : b = b' := by exact Int.ofNat.inj h4
  have e3 : c = c' := by exact Int.ofNat.inj h5
  rw [e1, e2, e3]
theorem trips_dp {K : PySem.W.Frag} {H : Hp} : ∀ {xs : List V} {ts : List (Nat × (Nat × Nat))}, Paired (TripAt H) xs ts → DpAll K H xs (ts.map tripD)
  | _, _, .nil => .nil
  | _, _, .cons ⟨t, q, e, h1, h2⟩ r => by
    subst e
    exact .cons (.tup (SqT.of h1) (.cons (.int _) (.cons (.tup (SqT.of h2) (.cons (.int _) (.cons (.int _) .nil))) .nil))) (trips_dp r)
theorem trips_alike (ts : List (Nat × (Nat × Nat))) : AlikeAll (ts.map tripD) := by
  refine ⟨fun x hx y hy => ?_, fun x hx e => ?_⟩
  · obtain ⟨a, _, rfl⟩ := List.mem_map.mp hx
    obtain ⟨b, _, rfl⟩ := List.mem_map.mp hy
    simp [tripD, alike, alikeAll]
  · obtain ⟨a, _, rfl⟩ := List.mem_map.mp hx
    cases e
theorem trips_depth : ∀ ts : List (Nat × (Nat × Nat)), PyData.depthAll (ts.map tripD) ≤ 60
  | [] => by simp [PyData.depthAll]
  | t :: ts => by
    have ih := trips_depth ts
    rw [List.map_cons, PyData.depthAll]
    refine Nat.max_le.mpr ⟨?_, ih⟩
    simp [tripD, PyData.depth, PyData.depthAll]
def rkD : PyData → Int
  | .tuple (.int r :: _) => r
  | _ => 0
theorem trip_lt {x y : Nat × (Nat × Nat)} : (dataLt (tripD x) (tripD y) = true → rkD (tripD x) ≤ rkD (tripD y)) ∧ (dataLt (tripD x) (tripD y) = false → rkD (tripD y) ≤ rkD (tripD x)) := by
  have h := PySem.W.dataLt_pair (x := .int (x.1 : Int)) (y := .tuple [.int (x.2.1 : Int), .int (x.2.2 : Int)]) (x' := .int (y.1 : Int)) (y' := .tuple [.int (y.2.1 : Int), .int (y.2.2 : Int)]) (by simp [alike]) (by simp [alike, alikeAll])
  have h' : dataLt (tripD x) (tripD y) = _ := h
  show (dataLt (tripD x) (tripD y) = true → (x.1 : Int) ≤ (y.1 : Int)) ∧ (dataLt (tripD x) (tripD y) = false → (y.1 : Int) ≤ (x.1 : Int))
  rw [h']
  by_cases e : (x.1 : Int) = (y.1 : Int)
  · exact ⟨fun _ => Int.le_of_eq e, fun _ => Int.le_of_eq e.symm⟩
  · have e2 : PyData.eqv (.int (x.1 : Int)) (.int (y.1 : Int)) = false := by
      rw [PyData.eqv]; exact beq_eq_false_iff_ne.mpr e
    rw [e2, if_neg Bool.false_ne_true, PySem.W.dataLt_int]
    refine ⟨fun z => ?_, fun z => ?_⟩
    · have := of_decide_eq_true z; omega
    · have := of_decide_eq_false z; omega
theorem slSeq_from1 {K : PySem.W.Frag} {b : Bool} {a : Addr} {xs : List V} {H : Hp} {Q : VK} (h : SeqAt b H a xs) (k : ∀ H1 q, Same H H1 → SeqAt b H1 q (xs.drop 1) → Q (.ref q) H1) : rSlSeq K (.ref a) (some 1) none H Q := by
  have ecut : cutV xs (some 1) none = xs.drop 1 := by
    unfold cutV
    rw [show (some (1 : Int)) = some ((1 : Nat) : Int) from rfl, HT.sIx_nat, HT.sIx_none]
    by_cases hl : 1 ≤ xs.length
    · rw [Nat.min_eq_left hl, List.take_of_length_le (by rw [List.length_drop]; exact Nat.le_refl _)]
    · have : xs = [] := List.eq_nil_of_length_eq_zero (by omega)
      subst this; rfl
  cases b with
  | true => exact .inl ⟨a, xs, rfl, SqL.of h, fun p hp => k _ p (same_new hp) (by rw [ecut]; exact upd_same)⟩
  | false =>
    refine .inr ⟨a, xs, rfl, SqT.of h, fun hw => k _ a (Same.refl H) ?_, fun _ p hp => k _ p (same_new hp) (by rw [ecut]; exact upd_same)⟩
    have hz := hw.1
    rw [show (some (1 : Int)) = some ((1 : Nat) : Int) from rfl, HT.sIx_nat] at hz
    have : xs = [] := List.eq_nil_of_length_eq_zero (by omega)
    subst this
    exact h
theorem src_seq {b : Bool} {H : Hp} {a : Addr} {xs : List V} (h : SeqAt b H a xs) : SrcV H (.ref a) xs.length (fun H => SeqAt b H a xs) (fun i v => xs[i]? = some v) := by
  cases b with
  | true => exact .inr (.inr ⟨a, xs, rfl, h, rfl, rfl, rfl⟩)
  | false => exact .inr (.inl ⟨a, xs, rfl, h, rfl, rfl, rfl⟩)
/-- the joins that are there, by places -/
def found (ps : List (Nat × Nat)) (row : List Nat) : List (Nat × (Nat × Nat)) := ((adjs row).filter fun p => decide (p ∈ ps)).map fun p => (ps.idxOf p, p)
def foundTo (ps : List (Nat × Nat)) (l : List (Nat × Nat)) : List (Nat × (Nat × Nat)) := (l.filter fun p => decide (p ∈ ps)).map fun p => (ps.idxOf p, p)
theorem foundTo_snoc (ps l : List (Nat × Nat)) (p : Nat × Nat) : foundTo ps (l ++ [p]) = if p ∈ ps then foundTo ps l ++ [(ps.idxOf p, p)] else foundTo ps l := by
  unfold foundTo
  rw [List.filter_append, List.map_append]
  by_cases h : p ∈ ps
  · rw [if_pos h, List.filter_cons_of_pos (by simpa using h)]; rfl
  · rw [if_neg h, List.filter_cons_of_neg (by simpa using h)]
    exact List.append_nil _
theorem foundTo_len (ps l : List (Nat × Nat)) : (foundTo ps l).length ≤ l.length := by
  unfold foundTo
  rw [List.length_map]; exact List.length_filter_le _ _
/-- what lowest holds -/
def LowAt (H : Hp) (ps : List (Nat × Nat)) (row : List Nat) (v : V) : Prop :=
  (v = .non ∧ ∀ p ∈ ps, p ∉ adjs row) ∨ ∃ (p : Nat × Nat) (r : Nat) (t q : Addr), v = .ref t ∧ H t = some (.tup [.int (r : Int), .ref q]) ∧ H q = some (.tup [.int (p.1 : Int), .int (p.2 : Int)]) ∧ ps[r]? = some p ∧ p ∈ adjs row ∧ ∀ (j : Nat) q, j < r → ps[j]? = some q → q ∉ adjs row
def sp_lowest_join : Sp := fun vs H Q _ => ∃ (d a : Addr) (b : Bool) (ps : List (Nat × Nat)) (row : List Nat), vs = [.ref d, .ref a] ∧ H d = some (.dT (kvsF 0 ps)) ∧ RowAt b H a row ∧ row.length ≤ 1000 ∧
  ∀ H' v, Same H H' → LowAt H' ps row v → Q v H'
section
variable {P : Program} {w : World} {K : PySem.W.Frag} {mg : Str → Option Value} {base : Heap}
theorem ok_lowest_join {f : Addr} {fd : FuncData} (F : C8.Fun K "lowest_join" "lowest_join" s_lowest_join f fd) (T : Txt K mg) : FnOk P w K mg base C8.CX0 1 f fd ["ranks", "row"] sp_lowest_join := by
  refine C8.fn0 F sc_lowest_join (fun vs H Q E h => ?_) (fun cdv A outer s H vs Q E hr h => ?_)
  · obtain ⟨d, a, b, ps, row, rfl, _⟩ := h; rfl
  · obtain ⟨d, a, b, ps, row, rfl, hd, hrow, hl, q⟩ := h
    have q0 : (∀ p ∈ ps, p ∉ adjs row) → ∀ H', Same H H' → Q .non H' := fun hno H' s1 => q H' .non s1 (.inl ⟨rfl, hno⟩)
    have q1 : ∀ (p : Nat × Nat) (r : Nat), ps[r]? = some p → p ∈ adjs row → (∀ (j : Nat) q, j < r → ps[j]? = some q → q ∉ adjs row) → ∀ H' t q, Same H H' → H' t = some (.tup [.int (r : Int), .ref q]) → H' q = some (.tup [.int (p.1 : Int), .int (p.2 : Int)]) → Q (.ref t) H' :=
      fun p r hp ha hlo H' t q' s1 h1 h2 => q H' (.ref t) s1 (.inr ⟨p, r, t, q', rfl, h1, h2, hp, ha, hlo⟩)
    have hu := hu_of hr
    have hu64 := hu64_of hr
    refine ⟨_, (pss_one (ps_ret (pe_callBK (cr_minD rfl hu64) (by rfl) T.b_min (by decide +kernel) (pa_cons (pe_lc (own := [("pair", 2)]) (g := gName 2)  rfl sc_lowest_join.nd (pi_zipN rfl T.b_zip (pa_cons (pv 1) (pa_cons (pe_slice sl_seq (pv 1) (po_some pe_int) po_none) pa_nil))) (blkOk_by (N := N_lowest_join) (sc := C8.fnScope s_lowest_join) (by decide +kernel)) (fun _ _ _ _ _ => (pg_name (i := 2) sc_lowest_join.nd rfl (Or.inl rfl))) (fun _ _ _ _ _ => pts_one (pt_cmp (pc_din hu (pv 2) (pv 0)))) (fun _ _ _ _ _ => (pe_tup (pa_cons (pe_dget hu (pv 0) (pv 2) (fun _ _ => rfl)) (pa_cons (pv 2) pa_nil))))) pa_nil) (pk_cons pe_non pk_nil)))), ?_⟩
    refine ⟨_, rfl, _, rfl, 1, rfl, slSeq_from1 hrow fun H1 qa s1 hq => ?_⟩
    have hrow1 := hrow.same s1
    refine ⟨_, _, _, _, _, _, _, _, rfl, src_seq hrow1, src_seq hq, fun D hD => ?_⟩
    have hD0 : H D = none := s1.free hD
    have hn : min (iv row).length ((iv row).drop 1).length = (adjs row).length := by
      unfold adjs
      rw [List.length_zip, iv_len, List.length_drop, iv_len, List.length_tail]
    rw [hn]
    refine lc_it walkG (fun i H' => Same H1 H' ∧ ∃ xs, H' D = some (.lst xs) ∧ Paired (TripAt H') xs (foundTo ps ((adjs row).take i))) ⟨same_new hD, [], upd_same, .nil⟩ (fun i H' _ ⟨s2, _⟩ => ⟨hrow1.same s2, hq.same s2⟩) ?_ ?_
    · rintro i x H2 H3 hi ⟨s2, xs, hxs, hP⟩ ⟨Tt, ys, rfl, hT, rfl, v1, v2, h1, h2, rfl⟩
      obtain ⟨n1, hn1, rfl⟩ := iv_get h1
      have h2' : (iv row)[i + 1]? = some v2 := by rw [List.getElem?_drop] at h2; rw [Nat.add_comm]; exact h2
      obtain ⟨n2, hn2, rfl⟩ := iv_get h2'
      have hadj : (adjs row)[i]? = some (n1, n2) := by
        unfold adjs
        rw [List.getElem?_zip_eq_some]; exact ⟨hn1, by rw [List.getElem?_tail]; exact hn2⟩
      have hne : D ≠ Tt := ne_of_none hxs hT
      have hd3 : upd H2 Tt (.tup [.int (n1 : Int), .int (n2 : Int)]) d = some (.dT (kvsF 0 ps)) := (Same.new s2 hT) _ _ (s1 _ _ hd)
      have hg : DGet (upd H2 Tt (.tup [.int (n1 : Int), .int (n2 : Int)])) d (.ref Tt) (if (n1, n2) ∈ ps then some (V.int ((0 + ps.idxOf (n1, n2) : Nat) : Int)) else none) := by
        rw [← kvsF_get]
        exact DGet.t (k := pkey (n1, n2)) hd3 upd_same
      have hxs3 : upd H2 Tt (.tup [.int (n1 : Int), .int (n2 : Int)]) D = some (.lst xs) := (upd_ne hne).trans hxs
      have htk : (adjs row).take (i + 1) = (adjs row).take i ++ [(n1, n2)] := take_succ_of hadj
      have hlen : xs.length < sizeLine := small1000 (by
        have e1 := hP.length
        have e2 := foundTo_len ps ((adjs row).take i)
        rw [List.length_take] at e2
        have e3 : (adjs row).length ≤ row.length := by unfold adjs; rw [List.length_zip]; exact Nat.min_le_left _ _
        omega)
      refine ⟨rfl, _, rfl, _, rfl, d, _, rfl, hg, _, rfl, ?_⟩
      by_cases hm : (n1, n2) ∈ ps
      · rw [if_pos hm] at hg ⊢
        refine iteT ⟨_, rfl, _, rfl, d, _, rfl, hg, _, rfl, by show 2 ≤ sizeLine; decide, fun p hp => ?_⟩
        have hpD : D ≠ p := ne_of_none hxs3 hp
        have s4 : Same H2 (upd (upd H2 Tt (.tup [.int (n1 : Int), .int (n2 : Int)])) p (.tup [.int ((0 + ps.idxOf (n1, n2) : Nat) : Int), .ref Tt])) := Same.new (same_new hT) hp
        have hxs4 : (upd (upd H2 Tt (.tup [.int (n1 : Int), .int (n2 : Int)])) p (.tup [.int ((0 + ps.idxOf (n1, n2) : Nat) : Int), .ref Tt])) D = some (.lst xs) := (upd_ne hpD).trans hxs3
        refine ⟨xs, hxs4, hlen, Same.put (s2.trans s4) hD, _, upd_same, ?_⟩
        rw [htk, foundTo_snoc, if_pos hm]
        refine Paired.snoc ⟨p, Tt, rfl, SameT.put hxs4 _ _ (by rw [upd_same, Nat.zero_add]), SameT.put hxs4 _ _ ((upd_ne (ne_of_none upd_same hp)).trans upd_same)⟩ ?_
        exact Paired.mapP hP fun v t ht => ht.same fun b ys e => SameT.put hxs4 _ _ (s4 _ _ e)
      · rw [if_neg hm]
        refine iteF ⟨s2.trans (same_new hT), xs, hxs3, ?_⟩
        rw [htk, foundTo_snoc, if_neg hm]
        exact Paired.mapP hP fun v t ht => ht.same fun b ys e => same_new hT _ _ e
    · rintro H2 ⟨s2, xs, hxs, hP⟩
      rw [List.take_length] at hP
      refine ⟨D, xs, _, rfl, rfl, hxs, trips_dp hP, trips_alike _, trips_depth _, fun e => ?_, fun y ys i x e hx hmin => ?_⟩
      · refine q0 (fun p hp hadj => ?_) H2 (s1.trans s2)
        have e' : foundTo ps (adjs row) = [] := List.map_eq_nil_iff.mp e
        have e'' : (adjs row).filter (fun p => decide (p ∈ ps)) = [] := List.map_eq_nil_iff.mp e'
        have : p ∈ (adjs row).filter (fun p => decide (p ∈ ps)) := List.mem_filter.mpr ⟨hadj, by simpa using hp⟩
        rw [e''] at this; cases this
      · obtain ⟨t, ht, t1, q, rfl, h1, h2⟩ := Paired.at hP hx
        have hmem := List.mem_of_getElem? ht
        obtain ⟨p, hp, rfl⟩ := List.mem_map.mp hmem
        obtain ⟨hpa, hpp⟩ := List.mem_filter.mp hp
        have hpp' : p ∈ ps := by simpa using hpp
        have hget : ((foundTo ps (adjs row)).map tripD)[i]? = some (tripD (ps.idxOf p, p)) := by rw [List.getElem?_map, ht]; rfl
        rw [hget] at hmin
        have hmin' := (Option.some.inj hmin).symm
        refine q1 p (ps.idxOf p) (idxOf_get hpp') hpa (fun j q' hj ej hq' => ?_) H2 t1 q (s1.trans s2) h1 h2
        have hle := minD_le (rk := rkD) (Ok := fun d => ∃ x, d = tripD x) (fun x y ⟨a, ha⟩ ⟨b, hb⟩ => by rw [ha, hb]; exact trip_lt.1) (fun x y ⟨a, ha⟩ ⟨b, hb⟩ => by rw [ha, hb]; exact trip_lt.2) ys y
          (fun z hz => by rw [← e] at hz; obtain ⟨a, _, rfl⟩ := List.mem_map.mp hz; exact ⟨a, rfl⟩)
          (tripD (ps.idxOf q', q')) (by
            rw [← e]
            exact List.mem_map.mpr ⟨_, List.mem_map.mpr ⟨q', List.mem_filter.mpr ⟨hq', by simpa using List.mem_of_getElem? ej⟩, rfl⟩, rfl⟩)
        rw [hmin'] at hle
        have hle' : ((ps.idxOf p : Nat) : Int) ≤ ((ps.idxOf q' : Nat) : Int) := hle
        have := idxOf_le ej
        omega
end
end RJ
end

section
set_option maxRecDepth 100000
set_option maxHeartbeats 2000000
namespace RJ
open PySem PySem.Spec PyProof.Rows L2
def sp_join_down : Sp := fun vs H Q _ => ∃ (d a : Addr) (k : Bool) (b : Nat) (ps : List (Nat × Nat)) (row : List Nat), vs = [.ref d, .int (b : Int), .ref a] ∧ H d = some (.dT (kvsF 0 ps)) ∧ WF b ps ∧ RowAt k H a row ∧ row.length ≤ 1000 ∧
  ∀ H' q k', Same H H' → (k = true → k' = true) → RowAt k' H' q (cutL b ps row) → Q (.ref q) H'
section
variable {P : Program} {w : World} {K : PySem.W.Frag} {mg : Str → Option Value} {base : Heap}
theorem ok_join_down {f : Addr} {fd : FuncData} (F : C8.Fun K "join_down" "join_down" s_join_down f fd) (T : Txt K mg) (c_lowest_join : C8.Cal P w K mg base 1 "lowest_join" sp_lowest_join []) (c_join_neighbors : C8.Cal P w K mg base 1 "join_neighbors" sp_join_neighbors []) :
    FnOk P w K mg base C8.CX0 2 f fd ["ranks", "letters", "row"] sp_join_down := by
  refine C8.fn0 F sc_join_down (fun vs H Q E h => ?_) (fun cdv A outer s H vs Q E hr h => ?_)
  · obtain ⟨d, a, k, b, ps, row, rfl, _⟩ := h; rfl
  · obtain ⟨d, a, k, b, ps, row, rfl, hd, hw, hrow, hl, q⟩ := h
    refine ⟨_, (pss_cons (ps_set (i := 3) sc_join_down.nd rfl (Or.inl rfl) (C8.pe_c c_lowest_join hr (by first | decide | omega) (by rfl) (pa_cons (pv 0) (pa_cons (pv 2) pa_nil))))
      (pss_cons (ps_while PassesOwn.never (pt_cmpR op_notN (pv 3) pe_non (nomark _)) (pss_cons (ps_asg (pv 3) (pg_tup rfl (pgs_cons (pg_name (i := 4) sc_join_down.nd rfl (Or.inl rfl)) (pgs_cons (pg_name (i := 5) sc_join_down.nd rfl (Or.inl rfl)) pgs_nil))))
      (pss_cons (ps_set (i := 2) sc_join_down.nd rfl (Or.inl rfl) (C8.pe_c c_join_neighbors hr (by first | decide | omega) (by rfl) (pa_cons (pv 2) (pa_cons (pv 5) (pa_cons (pe_op op_add (pv 1) (pv 4)) pa_nil)))))
      (pss_one (ps_set (i := 3) sc_join_down.nd rfl (Or.inl rfl) (C8.pe_c c_lowest_join hr (by first | decide | omega) (by rfl) (pa_cons (pv 0) (pa_cons (pv 2) pa_nil))))))))
      (pss_one (ps_ret (pv 2))))), ?_⟩
    refine ⟨_, rfl, _, rfl, d, a, k, ps, row, rfl, hd, hrow, hl, fun H1 v s1 lo => ?_⟩
    refine ⟨fun m σ H' => ∃ (v4 v5 : Option V) (a' : Addr) (k' : Bool) (row' : List Nat) (lv : V), σ = [some (V.ref d), some (.int (b : Int)), some (.ref a'), some lv, v4, v5] ∧ Same H H' ∧ (k = true → k' = true) ∧ RowAt k' H' a' row' ∧ cutL b ps row' = cutL b ps row ∧ m = row'.length ∧ row'.length ≤ 1000 ∧ LowAt H' ps row' lv,
        ⟨row.length, none, none, a, k, row, v, rfl, s1, fun h => h, hrow.same s1, rfl, rfl, hl, lo⟩, ?_⟩
    rintro m σ H2 ⟨v4, v5, a', k', row', lv, rfl, s2, hk, hr2, he, rfl, hl2, lo2⟩
    refine ⟨_, rfl, rfl, _, rfl, ?_⟩
    rcases lo2 with ⟨rfl, hno⟩ | ⟨p, r, t, q1, rfl, ht, hq, hp, hadj, hlow⟩
    · refine iteF ⟨_, rfl, q H2 a' k' s2 hk ?_⟩
      rw [← he, cut_done hno]; exact hr2
    · refine iteT ?_
      have hpw := hw r p hp
      refine ⟨fun σ' H' => ∃ m', m' < row'.length ∧ ∃ (v4 v5 : Option V) (a' : Addr) (k' : Bool) (row' : List Nat) (lv : V), σ' = [some (V.ref d), some (.int (b : Int)), some (.ref a'), some lv, v4, v5] ∧ Same H H' ∧ (k = true → k' = true) ∧ RowAt k' H' a' row' ∧ cutL b ps row' = cutL b ps row ∧ m' = row'.length ∧ row'.length ≤ 1000 ∧ LowAt H' ps row' lv, fun σ' H' z => z, ?_⟩
      refine ⟨_, rfl, t, _, rfl, SqT.of ht, rfl, _, _, rfl, _, _, rfl, rfl, ?_⟩
      refine ⟨_, rfl, _, rfl, _, rfl, _, rfl, _, _, rfl, rfl, k', a', q1, row', p.1, p.2, b + r, rfl, hr2, hq, by omega, hl2, fun H3 J s3 hJ hJ3 => ?_⟩
      have hlt := pass_lt (m := b + r) hadj
      refine ⟨_, rfl, _, rfl, d, J, true, ps, pass p.1 p.2 (b + r) row', rfl, s3 _ _ (s2 _ _ hd), hJ3, by omega, fun H4 v s4 lo4 => ?_⟩
      exact ⟨_, hlt, _, _, J, true, _, v, rfl, (s2.trans s3).trans s4, fun _ => rfl, s4 _ _ hJ3, by rw [← he]; exact cut_step hw hp row' hlow, rfl, by omega, lo4⟩
end
end RJ
end

section
set_option maxRecDepth 100000
set_option maxHeartbeats 2000000
namespace RJ
open PySem PySem.Spec PyProof.Rows L2
/-! ### data on the heap -/
def strV (ts : List (List Nat)) : List V := ts.map fun t => V.str (S t)
theorem strV_len (ts : List (List Nat)) : (strV ts).length = ts.length := by rw [strV, List.length_map]
theorem strV_snoc (ts : List (List Nat)) (t : List Nat) : strV ts ++ [V.str (S t)] = strV (ts ++ [t]) := by rw [strV, strV, List.map_append]; rfl
theorem strV_at {ts : List (List Nat)} {i : Nat} (h : i < ts.length) : (strV ts)[i]? = some (V.str (S (ts.getD i []))) := by
  rw [strV, List.getElem?_map, List.getD_eq_getElem?_getD, List.getElem?_eq_getElem h]; rfl
def PairAt (H : Hp) (v : V) (p : Nat × Nat) : Prop := ∃ q, v = .ref q ∧ H q = some (.tup [.int (p.1 : Int), .int (p.2 : Int)])
theorem PairAt.same {H H' : Hp} {v : V} {p : Nat × Nat} (h : PairAt H v p) (s : SameT H H') : PairAt H' v p := by
  obtain ⟨q, e, h1⟩ := h
  exact ⟨q, e, s _ _ h1⟩
abbrev PairsAt (H : Hp) (vs : List V) (ps : List (Nat × Nat)) : Prop := Paired (PairAt H) vs ps
theorem PairsAt.same {H H' : Hp} {vs : List V} {ps : List (Nat × Nat)} (h : PairsAt H vs ps) (s : SameT H H') : PairsAt H' vs ps := Paired.mapP h fun _ _ q => q.same s
theorem S_inj {a b : List Nat} (h : S a = S b) : a = b := SX.S_inj h
theorem S_cat (a b : List Nat) : S a ++ S b = S (a ++ b) := SX.S_cat a b
abbrev s_may_follow : Stmt := top 27
abbrev N_may_follow : List Str := ["alphabet", "texts", "ranks", "pair", "left", "right", "text"]
theorem sc_may_follow : FnScope N_may_follow ["alphabet", "texts", "ranks", "pair"] (C8.fnScope s_may_follow) := C8.fnScope_by (by decide +kernel)
def sp_may_follow : Sp := fun vs H Q _ => ∃ (al : List Nat) (ts : List (List Nat)) (ps : List (Nat × Nat)) (l r : Int) (tx d pr : Addr), vs = [.str (S al), .ref tx, .ref d, .ref pr] ∧ H tx = some (.lst (strV ts)) ∧ H d = some (.dT (kvsF 0 ps)) ∧ H pr = some (.tup [.int l, .int r]) ∧
  WF al.length ps ∧ (∀ t ∈ ts, ∀ c ∈ t, c ∈ al) ∧ (∀ t ∈ ts, t.length ≤ 40) ∧ al.length ≤ 1000 ∧ ts.length ≤ 1000 ∧
  (∀ p : Nat × Nat, l = (p.1 : Int) → r = (p.2 : Int) → okP al ts ps p → ∀ H', Same H H' → Q (.bl true) H') ∧ ((∀ p : Nat × Nat, l = (p.1 : Int) → r = (p.2 : Int) → ¬ okP al ts ps p) → ∀ H', Same H H' → Q (.bl false) H')
theorem numBelow_yes {i n : Nat} (h : i < n) : numBelow (.int (i : Int)) (n : Int) = true := by
  show (decide (0 ≤ (i : Int)) && decide ((i : Int) < (n : Int))) = true
  rw [decide_eq_true (by omega), decide_eq_true (by omega)]; rfl
theorem numBelow_int {l : Int} {n : Nat} (h : numBelow (.int l) (n : Int) = true) : ∃ a : Nat, l = (a : Int) ∧ a < n := by
  unfold numBelow at h
  rw [Bool.and_eq_true, decide_eq_true_eq, decide_eq_true_eq] at h
  exact ⟨l.toNat, by omega, by omega⟩
theorem iv_dp {K : PySem.W.Frag} {H : Hp} : ∀ l : List Nat, DpAll K H (iv l) (l.map fun (n : Nat) => PyData.int (n : Int))
  | [] => .nil
  | n :: l => .cons (.int _) (iv_dp l)
theorem eqv_iv : ∀ a b : List Nat, PyData.eqvAll (a.map fun (n : Nat) => PyData.int (n : Int)) (b.map fun (n : Nat) => PyData.int (n : Int)) = decide (a = b)
  | [], [] => by simp [PyData.eqvAll]
  | [], _ :: _ => by simp [PyData.eqvAll]
  | _ :: _, [] => by simp [PyData.eqvAll]
  | x :: a, y :: b => by
    rw [List.map_cons, List.map_cons, PyData.eqvAll, eqv_iv a b, PyData.eqv]
    by_cases h : x = y
    · subst h; simp
    · have : ((x : Int) == (y : Int)) = false := beq_eq_false_iff_ne.mpr (by omega)
      rw [this]
      simp [h]
theorem shaped_iv (l : List Nat) : SeqAt.shaped (.list (l.map fun (n : Nat) => PyData.int (n : Int))) = true := by
  have h1 : PyData.canLayAll0 (l.map fun (n : Nat) => PyData.int (n : Int)) = true := by
    induction l with
    | nil => simp [PyData.canLayAll0]
    | cons n l ih => rw [List.map_cons, PyData.canLayAll0, ih]; simp [PyData.canLay0]
  have h2 : PyData.depthAll (l.map fun (n : Nat) => PyData.int (n : Int)) = 0 := by
    clear h1
    induction l with
    | nil => simp [PyData.depthAll]
    | cons n l ih => rw [List.map_cons, PyData.depthAll, ih]; simp [PyData.depth]
  unfold SeqAt.shaped
  rw [PyData.canLay0, h1, PyData.depth, h2]; rfl
section
variable {P : Program} {w : World} {K : PySem.W.Frag} {mg : Str → Option Value} {base : Heap}
theorem ok_may_follow {f : Addr} {fd : FuncData} (F : C8.Fun K "may_follow" "may_follow" s_may_follow f fd) (T : Txt K mg) (c_is_number_below : C8.Cal P w K mg base 2 "is_number_below" sp_is_number_below []) (c_join_down : C8.Cal P w K mg base 2 "join_down" sp_join_down []) (c_letter_row : C8.Cal P w K mg base 1 "letter_row" sp_letter_row []) :
    FnOk P w K mg base C8.CX0 3 f fd ["alphabet", "texts", "ranks", "pair"] sp_may_follow := by
  refine C8.fn0 F sc_may_follow (fun vs H Q E h => ?_) (fun cdv A outer s H vs Q E hr h => ?_)
  · obtain ⟨al, ts, ps, l, r, tx, d, pr, rfl, _⟩ := h; rfl
  · obtain ⟨al, ts, ps, l, r, tx, d, pr, rfl, htx, hd, hpr, hw, hin, hsh, hal, hts, qT, qF⟩ := h
    have hu64 := hu64_of hr
    have qF' : (∀ p : Nat × Nat, l = (p.1 : Int) → r = (p.2 : Int) → ¬ okP al ts ps p) → ∀ H', Same H H' → Q (.bl false) H' := qF
    refine ⟨_, (pss_cons (ps_asg (pv 3) (pg_tup rfl (pgs_cons (pg_name (i := 4) sc_may_follow.nd rfl (Or.inl rfl)) (pgs_cons (pg_name (i := 5) sc_may_follow.nd rfl (Or.inl rfl)) pgs_nil))))
      (pss_cons (ps_if (pt_not (PW.pt (pw_and (pt_val (C8.pe_c c_is_number_below hr (by first | decide | omega) (by rfl) (pa_cons (pv 4) (pa_cons (pe_callB call_len_seq (by rfl) T.b_len PySem.boot_len (pa_cons (pv 1) pa_nil)) pa_nil)))) (pw_and1 (pt_val (C8.pe_c c_is_number_below hr (by first | decide | omega) (by rfl) (pa_cons (pv 5) (pa_cons (pe_callB call_len_seq (by rfl) T.b_len PySem.boot_len (pa_cons (pv 1) pa_nil)) pa_nil)))))))) (pss_one (ps_ret pe_bl)) pss_nil)
      (pss_cons (ps_set (i := 6) sc_may_follow.nd rfl (Or.inl rfl) (pe_op op_add_str (pe_ix ix_list (pv 1) (pv 4) (fun _ _ => rfl)) (pe_ix ix_list (pv 1) (pv 5) (fun _ _ => rfl))))
      (pss_cons (ps_if (pt_cmpR op_gt (pe_callB call_len_str (by rfl) T.b_len PySem.boot_len (pa_cons (pv 6) pa_nil)) (C8.pe_gc rfl T.c_MOST_SIGNS_OF_PIECE) (nomark _)) (pss_one (ps_ret pe_bl)) pss_nil)
      (pss_one (ps_ret (pe_cmpR (op_eqD hu64) (C8.pe_c c_join_down hr (by first | decide | omega) (by rfl) (pa_cons (pv 2) (pa_cons (pe_callB call_len_str (by rfl) T.b_len PySem.boot_len (pa_cons (pv 0) pa_nil)) (pa_cons (C8.pe_c c_letter_row hr (by first | decide | omega) (by rfl) (pa_cons (pv 0) (pa_cons (pv 6) pa_nil))) pa_nil)))) (pe_lst (pa_cons (pv 4) (pa_cons (pv 5) pa_nil))) (nomark _)))))))), ?_⟩
    refine ⟨_, rfl, pr, _, rfl, SqT.of hpr, rfl, _, _, rfl, _, _, rfl, rfl, ?_⟩
    refine ⟨_, rfl, _, rfl, tx, _, rfl, .inl (SqL.of htx), _, _, rfl, .int l, _, rfl, ?_⟩
    rw [strV_len]
    cases h1 : numBelow (.int l) (ts.length : Int) with
    | false =>
      refine iteF (iteT (qF' (fun p e1 e2 ok => ?_) H (Same.refl H)))
      rw [e1, numBelow_yes ok.1] at h1; cases h1
    | true =>
      obtain ⟨a, rfl, ha⟩ := numBelow_int h1
      refine iteT ⟨_, rfl, _, rfl, tx, _, rfl, .inl (SqL.of htx), _, _, rfl, .int r, _, rfl, ?_⟩
      rw [strV_len]
      cases h2 : numBelow (.int r) (ts.length : Int) with
      | false =>
        refine iteT (qF' (fun p e1 e2 ok => ?_) H (Same.refl H))
        rw [e2, numBelow_yes ok.2.1] at h2; cases h2
      | true =>
        obtain ⟨b, rfl, hb⟩ := numBelow_int h2
        refine iteF ?_
        have uniq : ¬ okP al ts ps (a, b) → ∀ p : Nat × Nat, (a : Int) = (p.1 : Int) → (b : Int) = (p.2 : Int) → ¬ okP al ts ps p := fun hn p e1 e2 ok => by
          obtain ⟨p1, p2⟩ := p
          have z1 : a = p1 := by have e1' : (a : Int) = (p1 : Int) := e1; omega
          have z2 : b = p2 := by have e2' : (b : Int) = (p2 : Int) := e2; omega
          subst z1 z2
          exact hn ok
        have hla : (ts.getD a []).length ≤ 40 := by
          rcases getD_mem_or (ts := ts) (i := a) with m | m
          · exact hsh _ m
          · rw [m]; exact Nat.zero_le _
        have hlb : (ts.getD b []).length ≤ 40 := by
          rcases getD_mem_or (ts := ts) (i := b) with m | m
          · exact hsh _ m
          · rw [m]; exact Nat.zero_le _
        refine ⟨_, rfl, _, rfl, tx, _, _, _, rfl, rfl, SqL.of htx, atI_nat (strV_at ha), _, rfl, _, rfl, tx, _, _, _, rfl, rfl, SqL.of htx, atI_nat (strV_at hb), S _, S _, rfl, rfl, by rw [S_len, S_len]; exact small_le (by omega), ?_⟩
        rw [S_cat]
        have hlab : (ts.getD a [] ++ ts.getD b []).length ≤ 1000 := by rw [List.length_append]; omega
        refine ⟨_, rfl, S _, rfl, by rw [S_len]; exact small_le hlab, _, _, rfl, rfl, _, rfl, ?_⟩
        rw [S_len]
        by_cases hl : (ts.getD a [] ++ ts.getD b []).length ≤ 40
        · rw [decide_eq_false (by omega : ¬ (40 : Int) < ((ts.getD a [] ++ ts.getD b []).length : Int))]
          refine iteF ?_
          refine ⟨_, rfl, _, rfl, S al, rfl, by rw [S_len]; exact small_le hal, _, rfl, _, rfl, al, _, rfl, fun c hc => ?_, hlab, fun H1 p s1 hp0 hp => ?_⟩
          · rcases List.mem_append.mp hc with z | z
            · rcases getD_mem_or (ts := ts) (i := a) with m | m
              · exact hin _ m c z
              · rw [m] at z; cases z
            · rcases getD_mem_or (ts := ts) (i := b) with m | m
              · exact hin _ m c z
              · rw [m] at z; cases z
          · refine ⟨d, p, true, al.length, ps, _, by rw [S_len]; rfl, s1 _ _ hd, hw, hp, by rw [lets, List.length_map]; exact hlab, fun H2 q k' s2 hk hq => ?_⟩
            have hk' : k' = true := hk rfl
            subst hk'
            refine ⟨_, rfl, _, rfl, by show 2 ≤ sizeLine; decide, fun z hz => ?_⟩
            have hqz : upd H2 z (.lst [.int (a : Int), .int (b : Int)]) q = some (.lst (iv (cutL al.length ps (lets al (ts.getD a [] ++ ts.getD b []))))) := (upd_ne (ne_of_none (show H2 q = _ from hq) hz)).trans hq
            refine ⟨_, _, .lst (SqL.of hqz) (iv_dp _), .lst (SqL.of upd_same) (iv_dp [a, b]), shaped_iv _, shaped_iv [a, b], ?_⟩
            have sF : Same H (upd H2 z (.lst [.int (a : Int), .int (b : Int)])) := Same.new (s1.trans s2) hz
            show Q (.bl (PyData.eqv (.list _) (.list _))) _
            rw [PyData.eqv, eqv_iv]
            by_cases hc : cutL al.length ps (lets al (ts.getD a [] ++ ts.getD b [])) = [a, b]
            · rw [decide_eq_true hc]
              exact qT (a, b) rfl rfl ⟨ha, hb, hl, hc⟩ _ sF
            · rw [decide_eq_false hc]
              exact qF' (uniq fun ok => hc ok.2.2.2) _ sF
        · rw [decide_eq_true (by omega : (40 : Int) < ((ts.getD a [] ++ ts.getD b []).length : Int))]
          exact iteT (qF' (uniq fun ok => hl ok.2.2.1) H (Same.refl H))
end
end RJ
end

section
set_option maxRecDepth 100000
set_option maxHeartbeats 4000000
namespace RJ
open PySem PySem.Spec PyProof.Rows L2
/-! ### the object -/
def f1 (al : List Nat) : List (Str × V) := putF "alphabet" (.str (S al)) []
def f2 (al : List Nat) (t : Addr) : List (Str × V) := putF "pairs" (.ref t) (f1 al)
def f3 (al : List Nat) (t tx : Addr) : List (Str × V) := putF "_texts" (.ref tx) (f2 al t)
def f4 (al : List Nat) (t tx d : Addr) : List (Str × V) := putF "_ranks" (.ref d) (f3 al t tx)
def f5 (al : List Nat) (t tx d e : Addr) : List (Str × V) := putF "_pieces_by_text" (.ref e) (f4 al t tx d)
theorem putF_len (f : Str) (v : V) : ∀ fs : List (Str × V), (putF f v fs).length ≤ fs.length + 1
  | [] => Nat.le_refl _
  | (g, x) :: r => by
    rw [putF]
    split
    · exact Nat.le_succ _
    · have := putF_len f v r
      simp only [List.length_cons]; omega
theorem f_len (al : List Nat) (t tx d : Addr) : (f1 al).length < 1000 ∧ (f2 al t).length < 1000 ∧ (f3 al t tx).length < 1000 ∧ (f4 al t tx d).length < 1000 := by
  have h1 : (f1 al).length ≤ 1 := putF_len _ _ _
  have h2 : (f2 al t).length ≤ (f1 al).length + 1 := putF_len _ _ _
  have h3 : (f3 al t tx).length ≤ (f2 al t).length + 1 := putF_len _ _ _
  have h4 : (f4 al t tx d).length ≤ (f3 al t tx).length + 1 := putF_len _ _ _
  omega
theorem f1_alphabet (al : List Nat)  : (f1 al).lookup ("alphabet" : Str) = some (.str (S al)) := by
  unfold f1
  rw [lookup_putF, if_pos rfl]
theorem f2_pairs (al : List Nat) (t : Addr) : (f2 al t).lookup ("pairs" : Str) = some (.ref t) := by
  unfold f2 f1
  rw [lookup_putF, if_pos rfl]
theorem f2_alphabet (al : List Nat) (t : Addr) : (f2 al t).lookup ("alphabet" : Str) = some (.str (S al)) := by
  unfold f2 f1
  rw [lookup_putF, if_neg (by decide +kernel), lookup_putF, if_pos rfl]
theorem f3_texts (al : List Nat) (t : Addr) (tx : Addr) : (f3 al t tx).lookup ("_texts" : Str) = some (.ref tx) := by
  unfold f3 f2 f1
  rw [lookup_putF, if_pos rfl]
theorem f3_pairs (al : List Nat) (t : Addr) (tx : Addr) : (f3 al t tx).lookup ("pairs" : Str) = some (.ref t) := by
  unfold f3 f2 f1
  rw [lookup_putF, if_neg (by decide +kernel), lookup_putF, if_pos rfl]
theorem f3_alphabet (al : List Nat) (t : Addr) (tx : Addr) : (f3 al t tx).lookup ("alphabet" : Str) = some (.str (S al)) := by
  unfold f3 f2 f1
  rw [lookup_putF, if_neg (by decide +kernel), lookup_putF, if_neg (by decide +kernel), lookup_putF, if_pos rfl]
theorem f4_ranks (al : List Nat) (t : Addr) (tx : Addr) (d : Addr) : (f4 al t tx d).lookup ("_ranks" : Str) = some (.ref d) := by
  unfold f4 f3 f2 f1
  rw [lookup_putF, if_pos rfl]
theorem f4_texts (al : List Nat) (t : Addr) (tx : Addr) (d : Addr) : (f4 al t tx d).lookup ("_texts" : Str) = some (.ref tx) := by
  unfold f4 f3 f2 f1
  rw [lookup_putF, if_neg (by decide +kernel), lookup_putF, if_pos rfl]
theorem f4_pairs (al : List Nat) (t : Addr) (tx : Addr) (d : Addr) : (f4 al t tx d).lookup ("pairs" : Str) = some (.ref t) := by
  unfold f4 f3 f2 f1
  rw [lookup_putF, if_neg (by decide +kernel), lookup_putF, if_neg (by decide +kernel), lookup_putF, if_pos rfl]
theorem f4_alphabet (al : List Nat) (t : Addr) (tx : Addr) (d : Addr) : (f4 al t tx d).lookup ("alphabet" : Str) = some (.str (S al)) := by
  unfold f4 f3 f2 f1
  rw [lookup_putF, if_neg (by decide +kernel), lookup_putF, if_neg (by decide +kernel), lookup_putF, if_neg (by decide +kernel), lookup_putF, if_pos rfl]
theorem f5_pieces_by_text (al : List Nat) (t : Addr) (tx : Addr) (d : Addr) (e : Addr) : (f5 al t tx d e).lookup ("_pieces_by_text" : Str) = some (.ref e) := by
  unfold f5 f4 f3 f2 f1
  rw [lookup_putF, if_pos rfl]
theorem f5_ranks (al : List Nat) (t : Addr) (tx : Addr) (d : Addr) (e : Addr) : (f5 al t tx d e).lookup ("_ranks" : Str) = some (.ref d) := by
  unfold f5 f4 f3 f2 f1
  rw [lookup_putF, if_neg (by decide +kernel), lookup_putF, if_pos rfl]
theorem f5_texts (al : List Nat) (t : Addr) (tx : Addr) (d : Addr) (e : Addr) : (f5 al t tx d e).lookup ("_texts" : Str) = some (.ref tx) := by
  unfold f5 f4 f3 f2 f1
  rw [lookup_putF, if_neg (by decide +kernel), lookup_putF, if_neg (by decide +kernel), lookup_putF, if_pos rfl]
theorem f5_pairs (al : List Nat) (t : Addr) (tx : Addr) (d : Addr) (e : Addr) : (f5 al t tx d e).lookup ("pairs" : Str) = some (.ref t) := by
  unfold f5 f4 f3 f2 f1
  rw [lookup_putF, if_neg (by decide +kernel), lookup_putF, if_neg (by decide +kernel), lookup_putF, if_neg (by decide +kernel), lookup_putF, if_pos rfl]
theorem f5_alphabet (al : List Nat) (t : Addr) (tx : Addr) (d : Addr) (e : Addr) : (f5 al t tx d e).lookup ("alphabet" : Str) = some (.str (S al)) := by
  unfold f5 f4 f3 f2 f1
  rw [lookup_putF, if_neg (by decide +kernel), lookup_putF, if_neg (by decide +kernel), lookup_putF, if_neg (by decide +kernel), lookup_putF, if_neg (by decide +kernel), lookup_putF, if_pos rfl]
theorem f5_no (al : List Nat) (t : Addr) (tx : Addr) (d : Addr) (e : Addr) {m : Str} (h1 : ¬ m = "_pieces_by_text") (h2 : ¬ m = "_ranks") (h3 : ¬ m = "_texts") (h4 : ¬ m = "pairs") (h5 : ¬ m = "alphabet") : (f5 al t tx d e).lookup m = none := by
  unfold f5 f4 f3 f2 f1
  rw [lookup_putF, if_neg h1, lookup_putF, if_neg h2, lookup_putF, if_neg h3, lookup_putF, if_neg h4, lookup_putF, if_neg h5]; rfl
def kvsT : Nat → List (List Nat) → List (Key × V)
  | _, [] => []
  | k, t :: ts => (.inr (S t), V.int (k : Int)) :: kvsT (k + 1) ts
theorem kvsT_snoc : ∀ (k : Nat) (ts : List (List Nat)) (t : List Nat), kvsT k (ts ++ [t]) = kvsT k ts ++ [(.inr (S t), V.int ((k + ts.length : Nat) : Int))]
  | k, [], t => rfl
  | k, u :: ts, t => by
    show (Sum.inr (S u), V.int (k : Int)) :: kvsT (k + 1) (ts ++ [t]) = (Sum.inr (S u), V.int (k : Int)) :: (kvsT (k + 1) ts ++ _)
    rw [kvsT_snoc (k + 1) ts t, show k + 1 + ts.length = k + (u :: ts).length by rw [List.length_cons]; omega]
theorem kvsT_len : ∀ (k : Nat) (ts : List (List Nat)), (kvsT k ts).length = ts.length
  | _, [] => rfl
  | k, p :: ps => congrArg (· + 1) (kvsT_len (k + 1) ps)
theorem kvsT_get (t : List Nat) : ∀ (k : Nat) (ts : List (List Nat)), valV (kvsT k ts) (.inr (S t)) = if t ∈ ts then some (V.int ((k + ts.idxOf t : Nat) : Int)) else none
  | k, [] => by rw [if_neg List.not_mem_nil]; exact valV_nil
  | k, u :: ts => by
    show valV ((Sum.inr (S u), V.int (k : Int)) :: kvsT (k + 1) ts) (.inr (S t)) = _
    by_cases h : u = t
    · subst h
      rw [valV_pos (p := (Sum.inr (S u), V.int (k : Int))) rfl, if_pos (List.mem_cons_self ..), List.idxOf_cons_self]; rfl
    · rw [valV_neg (p := (Sum.inr (S u), V.int (k : Int))) fun z => h (S_inj (Sum.inr.inj z)), kvsT_get t (k + 1) ts]
      have e : List.idxOf t (u :: ts) = ts.idxOf t + 1 := by
        rw [List.idxOf_cons, show (u == t) = false from beq_eq_false_iff_ne.mpr h]; rfl
      by_cases hm : t ∈ ts
      · rw [if_pos hm, if_pos (List.mem_cons_of_mem _ hm), e, show k + 1 + ts.idxOf t = k + (ts.idxOf t + 1) by omega]
      · rw [if_neg hm, if_neg fun z => by
          rcases List.mem_cons.mp z with e | e
          · exact h e.symm
          · exact hm e]
/-- a list of joins at p -/
def JoinsAt (C : Addr) (H : Hp) (p : Addr) (al : List Nat) (ps : List (Nat × Nat)) : Prop := ∃ (dx t tx d e : Addr) (vs : List V), H p = some (.ins C dx (f5 al t tx d e)) ∧ H t = some (.tup vs) ∧ PairsAt H vs ps ∧
  H tx = some (.lst (strV (textsOf al ps))) ∧ H d = some (.dT (kvsF 0 ps)) ∧ H e = some (.dK (kvsT 0 (textsOf al ps)))
theorem JoinsAt.same {C p : Addr} {H H' : Hp} {al : List Nat} {ps : List (Nat × Nat)} (h : JoinsAt C H p al ps) (s : Same H H') : JoinsAt C H' p al ps := by
  obtain ⟨dx, t, tx, d, e, vs, h1, h2, h3, h4, h5, h6⟩ := h
  exact ⟨dx, t, tx, d, e, vs, s _ _ h1, s _ _ h2, h3.same (Same.t s), s _ _ h4, s _ _ h5, s _ _ h6⟩
/-- the class as the top has made it -/
structure JTxt (K : PySem.W.Frag) (C : Addr) : Prop where
  cl : Cls K C
  n1 : NoAttr K C "alphabet"
  n2 : NoAttr K C "pairs"
  n3 : NoAttr K C "_texts"
  n4 : NoAttr K C "_ranks"
  n5 : NoAttr K C "_pieces_by_text"
/-- all but p as it was -/
def SameX (p : Addr) (H H' : Hp) : Prop := ∀ b o, b ≠ p → H b = some o → H' b = some o
theorem Same.x {p : Addr} {H H' : Hp} (s : Same H H') : SameX p H H' := fun b o _ e => s b o e
theorem SameX.then {p : Addr} {H H1 H2 : Hp} (s : SameX p H H1) (t : Same H1 H2) : SameX p H H2 := fun b o h e => t b o (s b o h e)
theorem SameX.self {p : Addr} {H H1 : Hp} {o : HO} (s : SameX p H H1) : SameX p H (upd H1 p o) := fun b u h e => by rw [upd_ne h]; exact s b u h e
theorem SameX.put {p q : Addr} {H H1 : Hp} {o : HO} (s : SameX p H H1) (hq : H q = none) : SameX p H (upd H1 q o) := fun b u h e => by rw [upd_ne (ne_of_none e hq)]; exact s b u h e
theorem SameX.free {p q : Addr} {H H1 : Hp} (s : SameX p H H1) (hq : H1 q = none) (hp : ∃ o, H1 p = some o) : H q = none := by
  cases e : H q with
  | none => rfl
  | some o =>
    obtain ⟨u, hu⟩ := hp
    have h : q ≠ p := fun z => by rw [z, hu] at hq; cases hq
    rw [s q o h e] at hq; cases hq
theorem SameT.putO {H : Hp} {p : Addr} {o o' : HO} (h : H p = some o') (hne : ∀ xs, HO.tup xs ≠ o') : SameT H (upd H p o) := fun b ys e => by
  rw [upd_ne (ne_of e h (hne ys))]; exact e
/-- what __init__ keeps while it goes through the joins, behind n of them -/
def InitAt (C : Addr) (H : Hp) (p dx t tx d : Addr) (vs : List V) (al : List Nat) (ps : List (Nat × Nat)) (n : Nat) : Prop := H p = some (.ins C dx (f4 al t tx d)) ∧ H t = some (.tup vs) ∧ PairsAt H vs ps ∧
  H tx = some (.lst (strV (textsOf al (ps.take n)))) ∧ H d = some (.dT (kvsF 0 (ps.take n)))
theorem InitAt.same {C p dx t tx d : Addr} {H H' : Hp} {vs : List V} {al : List Nat} {ps : List (Nat × Nat)} {n : Nat} (h : InitAt C H p dx t tx d vs al ps n) (s : Same H H') : InitAt C H' p dx t tx d vs al ps n :=
  ⟨s _ _ h.1, s _ _ h.2.1, h.2.2.1.same (Same.t s), s _ _ h.2.2.2.1, s _ _ h.2.2.2.2⟩
theorem dc_it {J : It} {n : Nat} {G : Hp → Prop} {Y : Nat → Hp → V → Hp → Prop} (w : Walk J n G Y) {g : TG} {tt : TT} {tk tv : TE} {vs : List Nat} {σ : L2.St} {H1 : Hp} {D : Addr} {Qd : Hp → Prop} (Pv : Nat → Hp → Prop) (h0 : Pv 0 (upd H1 D (.dK []))) (hG : ∀ i H, i ≤ n → Pv i H → G H)
    (hs : ∀ i x H H', i < n → Pv i H → Y i H x H' → g x (wipe σ vs) H' fun σ2 H2 => wipe σ2 vs = wipe σ vs ∧ tt σ2 H2 fun b H3 =>
      if b = true then tk σ2 H3 fun y H4 => tv σ2 H4 fun z H5 => ∃ (kvs : List (Key × V)) (k : Key), y = kV k ∧ H5 D = some (.dK kvs) ∧ kvs.length < sizeLine ∧ Pv (i + 1) (upd H5 D (.dK (putK kvs k z))) else Pv (i + 1) H3) (hd : ∀ H, Pv n H → Qd H) :
    ∃ W : Nat → Nat → Hp → Prop, (∃ m, W 0 m (upd H1 D (.dK []))) ∧ ∀ i m H, W i m H →
      (J.stop i H ∧ Qd H) ∨ (J.go i H ∧ ∃ Nx : Hp → Prop, (∀ H', Nx H' → ∃ m', m' < m ∧ W (i + 1) m' H') ∧ ∀ x H', J.yld i H x H' → g x (wipe σ vs) H' fun σ2 H2 => wipe σ2 vs = wipe σ vs ∧ tt σ2 H2 fun b H3 =>
        if b = true then tk σ2 H3 fun y H4 => tv σ2 H4 fun z H5 => ∃ (kvs : List (Key × V)) (k : Key), y = kV k ∧ H5 D = some (.dK kvs) ∧ kvs.length < sizeLine ∧ Nx (upd H5 D (.dK (putK kvs k z))) else Nx H3) := by
  refine ⟨fun i m H => m = n - i ∧ i ≤ n ∧ Pv i H, ⟨n, by simp, Nat.zero_le _, h0⟩, ?_⟩
  rintro i m H ⟨rfl, hi, p⟩
  have q := hG i H hi p
  by_cases hlt : i < n
  · refine .inr ⟨w.goes i H hlt q, Pv (i + 1), fun H' p' => ⟨n - (i + 1), by omega, rfl, hlt, p'⟩, fun x H' y => hs i x H H' hlt p (w.yields i H x H' hlt q y)⟩
  · have e : i = n := by omega
    subst e
    exact .inl ⟨w.stops H q, hd H p⟩
abbrev s_Joins___init__ : Stmt := inClass (top 28) 0
abbrev N_Joins___init__ : List Str := ["self", "alphabet", "pairs", "rank", "pair", "left", "right", "piece", "text"]
theorem sc_Joins___init__ : FnScope N_Joins___init__ ["self", "alphabet", "pairs"] (C8.fnScope s_Joins___init__) := C8.fnScope_by (by decide +kernel)
abbrev s_Joins_text_of : Stmt := inClass (top 28) 5
abbrev N_Joins_text_of : List Str := ["self", "piece"]
theorem sc_Joins_text_of : FnScope N_Joins_text_of ["self", "piece"] (C8.fnScope s_Joins_text_of) := C8.fnScope_by (by decide +kernel)
abbrev s_Joins_check_piece : Stmt := inClass (top 28) 11
abbrev N_Joins_check_piece : List Str := ["self", "piece"]
theorem sc_Joins_check_piece : FnScope N_Joins_check_piece ["self", "piece"] (C8.fnScope s_Joins_check_piece) := C8.fnScope_by (by decide +kernel)
abbrev s_Joins_has_piece : Stmt := inClass (top 28) 10
abbrev N_Joins_has_piece : List Str := ["self", "piece"]
theorem sc_Joins_has_piece : FnScope N_Joins_has_piece ["self", "piece"] (C8.fnScope s_Joins_has_piece) := C8.fnScope_by (by decide +kernel)
def sp_init (C : Addr) : Sp := fun vs H Q _ => ∃ (p pa dx : Addr) (b : Bool) (al : List Nat) (ps : List (Nat × Nat)) (us : List V), vs = [.ref p, .str (S al), .ref pa] ∧ H p = some (.ins C dx []) ∧ SeqAt b H pa us ∧ PairsAt H us ps ∧
  alOk al = true ∧ al.Nodup ∧ al.length ≤ 30 ∧ Proper al ps ∧ ps.length ≤ 100 ∧ ∀ H', SameX p H H' → JoinsAt C H' p al ps → Q .non H'
section
variable {P : Program} {w : World} {K : PySem.W.Frag} {mg : Str → Option Value} {base : Heap}
theorem ok_init {f C : Addr} {fd : FuncData} (F : C8.Fun K "__init__" "Joins.__init__" s_Joins___init__ f fd) (T : Txt K mg) (J : JTxt K C) (c_check_alphabet : C8.Cal P w K mg base 3 "check_alphabet" sp_check_alphabet []) (c_may_follow : C8.Cal P w K mg base 3 "may_follow" sp_may_follow []) :
    FnOk P w K mg base C8.CX0 4 f fd ["self", "alphabet", "pairs"] (sp_init C) := by
  refine C8.fn0 F sc_Joins___init__ (fun vs H Q E h => ?_) (fun cdv A outer s H vs Q E hr h => ?_)
  · obtain ⟨p, pa, dx, b, al, ps, us, rfl, _⟩ := h; rfl
  · obtain ⟨p, pa, dx, b, al, ps, us, rfl, hp, hpa, hps, hal, hnd, hall, hprop, hpl, q⟩ := h
    have hu := hu_of hr
    refine ⟨_, (pss_cons (ps_expr (C8.pe_c c_check_alphabet hr (by first | decide | omega) (by rfl) (pa_cons (pv 1) pa_nil)))
      (pss_cons (ps_fld (pv 0) (pv 1) rfl)
      (pss_cons (ps_fld (pv 0) (pe_tupleOf (by rfl) T.b_tuple (pe_lc (own := [("left", 5), ("right", 6)]) (g := gTup K 2 (gCons (gName 5) (gCons (gName 6) (gNil)))) (tt := tYes) rfl sc_Joins___init__.nd (pi_seq (pv 2)) (blkOk_by (N := N_Joins___init__) (sc := C8.fnScope s_Joins___init__) (by decide +kernel)) (fun _ _ _ _ _ => (pg_tup rfl (pgs_cons (pg_name (i := 5) sc_Joins___init__.nd rfl (Or.inl rfl)) (pgs_cons (pg_name (i := 6) sc_Joins___init__.nd rfl (Or.inl rfl)) pgs_nil)))) (fun _ _ _ _ _ => pts_nil) (fun _ _ _ _ _ => (pe_tup (pa_cons (pv 5) (pa_cons (pv 6) pa_nil)))))) rfl)
      (pss_cons (ps_fld (pv 0) (pe_callTy (call_list_text rfl) (by rfl) T.b_list (by decide +kernel) (pa_cons (pv 1) pa_nil)) rfl)
      (pss_cons (ps_fld (pv 0) pe_dnewT rfl)
      (pss_cons (ps_for PassesOwn.never rfl (pi_enumG rfl T.b_enumerate (pa_cons (pe_fld (pv 0) rfl) pa_nil)) (pg_tup rfl (pgs_cons (pg_name (i := 3) sc_Joins___init__.nd rfl (Or.inl rfl)) (pgs_cons (pg_name (i := 4) sc_Joins___init__.nd rfl (Or.inl rfl)) pgs_nil))) (pss_cons (ps_if (pt_not (pt_val (C8.pe_c c_may_follow hr (by first | decide | omega) (by rfl) (pa_cons (pv 1) (pa_cons (pe_fld (pv 0) rfl) (pa_cons (pe_fld (pv 0) rfl) (pa_cons (pv 4) pa_nil))))))) (pss_one ps_never) pss_nil)
      (pss_cons (ps_expr (pe_bm PySem.F.plainAttrs_list PySem.F.slot_list_append PySem.F.type_list_append mt_append (pe_fld (pv 0) rfl) (pa_cons (pe_op op_add_str (pe_ix ix_list (pe_fld (pv 0) rfl) (pe_ix ix_tup (pv 4) pe_int (fun _ _ => rfl)) (fun _ _ => rfl)) (pe_ix ix_list (pe_fld (pv 0) rfl) (pe_ix ix_tup (pv 4) pe_int (fun _ _ => rfl)) (fun _ _ => rfl))) pa_nil)))
      (pss_one (ps_dput hu (pe_fld (pv 0) rfl) (pv 4) (pv 3) rfl)))))
      (pss_one (ps_fld (pv 0) (pe_dc (own := [("piece", 7), ("text", 8)]) (g := gTup K 2 (gCons (gName 7) (gCons (gName 8) (gNil)))) (tt := tYes) rfl sc_Joins___init__.nd (pi_enumG rfl T.b_enumerate (pa_cons (pe_fld (pv 0) rfl) pa_nil)) (blkOk_by (N := N_Joins___init__) (sc := C8.fnScope s_Joins___init__) (by decide +kernel)) (fun _ _ _ _ _ => (pg_tup rfl (pgs_cons (pg_name (i := 7) sc_Joins___init__.nd rfl (Or.inl rfl)) (pgs_cons (pg_name (i := 8) sc_Joins___init__.nd rfl (Or.inl rfl)) pgs_nil)))) (fun _ _ _ _ _ => pts_nil) (fun _ _ _ _ _ => (pv 8)) (fun _ _ _ _ _ => (pv 7))) rfl)))))))), ?_⟩
    have lens := f_len al
    refine ⟨_, rfl, al, rfl, by omega, hal, fun H1 s1 => ⟨_, rfl, _, rfl, p, C, dx, _, rfl, s1 _ _ hp, J.cl, J.n1, by show 0 < 1000; decide, ?_⟩⟩
    have x2 : SameX p H (upd H1 p (.ins C dx (f1 al))) := (Same.x s1).self
    have hp2 : (upd H1 p (.ins C dx (f1 al))) p = some (.ins C dx (f1 al)) := upd_same
    revert hp2 x2
    show SameX p H (upd H1 p (.ins C dx (f1 al))) → (upd H1 p (.ins C dx (f1 al))) p = some (.ins C dx (f1 al)) → tSeq _ _ _ _ (upd H1 p (.ins C dx (f1 al)))
    generalize upd H1 p (.ins C dx (f1 al)) = H2
    intro x2 hp2
    have hpap : pa ≠ p := by
      cases b with
      | true => exact ne_of hpa hp (by intro z; cases z)
      | false => exact ne_of hpa hp (by intro z; cases z)
    have sT2 : ∀ H3, SameX p H H3 → PairsAt H3 us ps := fun H3 x => hps.same fun b xs e => x b _ (fun z => by rw [z, hp] at e; cases e) e
    have hpa2 : SeqAt b H2 pa us := x2 _ _ hpap hpa
    -- self.pairs
    refine ⟨_, rfl, b, pa, us, rfl, hpa2, fun D hD => lc_it walk_seq (fun i H' => Same H2 H' ∧ ∃ ws, H' D = some (.lst ws) ∧ PairsAt H' ws (ps.take i)) ⟨same_new hD, [], upd_same, .nil⟩ (fun i H' _ ⟨sa, _⟩ => hpa2.same sa) ?_ ?_⟩
    · rintro i x Ha Hb hi ⟨sa, ws, hws, hP⟩ ⟨rfl, hx⟩
      obtain ⟨⟨l, r⟩, hpi, qa, rfl, hqa⟩ := Paired.at (sT2 _ (x2.then sa)) hx
      refine ⟨qa, _, rfl, SqT.of hqa, rfl, _, _, rfl, _, _, rfl, rfl, rfl, _, rfl, _, rfl, by show 2 ≤ sizeLine; decide, fun z hz => ?_⟩
      have hDz : D ≠ z := ne_of_none hws hz
      have hws' : upd Hb z (.tup [.int (l : Int), .int (r : Int)]) D = some (.lst ws) := (upd_ne hDz).trans hws
      refine ⟨ws, hws', small1000 ?_, Same.put (Same.new sa hz) hD, _, upd_same, ?_⟩
      · have e1 := hP.length
        rw [List.length_take] at e1; omega
      · rw [take_succ_of hpi]
        refine Paired.snoc ⟨z, rfl, SameT.put hws' _ _ upd_same⟩ ?_
        exact (hP.same (Same.t (same_new hz))).same (SameT.put hws')
    rintro H3 ⟨s3, ws, hws, hP3⟩
    have hlen0 : us.length = ps.length := hps.length
    rw [hlen0, List.take_length] at hP3
    refine .inl ⟨D, ws, rfl, SqL.of hws, fun t ht => ⟨_, rfl, p, C, dx, _, rfl, (Same.new s3 ht) _ _ hp2, J.cl, J.n2, lens 0 0 0 |>.1, ?_⟩⟩
    have x4 : SameX p H (upd (upd H3 t (.tup ws)) p (.ins C dx (f2 al t))) := (x2.then (Same.new s3 ht)).self
    have hp4 : (upd (upd H3 t (.tup ws)) p (.ins C dx (f2 al t))) p = some (.ins C dx (f2 al t)) := upd_same
    have hptn : t ≠ p := fun z => by rw [z, s3 _ _ hp2] at ht; cases ht
    have ht4 : (upd (upd H3 t (.tup ws)) p (.ins C dx (f2 al t))) t = some (.tup ws) := (upd_ne hptn).trans upd_same
    have hP4 : PairsAt (upd (upd H3 t (.tup ws)) p (.ins C dx (f2 al t))) ws ps :=
      (hP3.same (Same.t (same_new ht))).same (SameT.putO ((Same.new s3 ht) _ _ hp2) (by intro xs z; cases z))
    revert x4 hp4 ht4 hP4
    show SameX p H (upd (upd H3 t (.tup ws)) p (.ins C dx (f2 al t))) → (upd (upd H3 t (.tup ws)) p (.ins C dx (f2 al t))) p = some (.ins C dx (f2 al t)) → (upd (upd H3 t (.tup ws)) p (.ins C dx (f2 al t))) t = some (.tup ws) → PairsAt (upd (upd H3 t (.tup ws)) p (.ins C dx (f2 al t))) ws ps → tSeq _ _ _ _ (upd (upd H3 t (.tup ws)) p (.ins C dx (f2 al t)))
    generalize upd (upd H3 t (.tup ws)) p (.ins C dx (f2 al t)) = H4
    intro x4 hp4 ht4 hP4
    -- self._texts, self._ranks
    refine ⟨_, rfl, S al, rfl, by rw [S_size]; exact small_le (by omega), fun tx htx => ⟨_, rfl, p, C, dx, _, rfl, (same_new htx) _ _ hp4, J.cl, J.n3, lens t 0 0 |>.2.1, ?_⟩⟩
    intro d hd
    refine ⟨_, rfl, p, C, dx, _, rfl, (upd_ne (ne_of_none upd_same hd)).trans upd_same, J.cl, J.n4, lens t tx 0 |>.2.2.1, ?_⟩
    have htx0 : H tx = none := x4.free htx ⟨_, hp4⟩
    have etx : signsV (S al) = strV (textsOf al (ps.take 0)) := by
      rw [List.take_zero]
      show (al.toArray.toList.map fun c => V.str ⟨#[c]⟩) = strV (al.map fun c => [c])
      rw [strV, List.map_map]; rfl
    have txp : tx ≠ p := fun z => by rw [z, hp4] at htx; cases htx
    have hdp : d ≠ p := fun z => by rw [z, upd_same] at hd; cases hd
    have hdtx : tx ≠ d := fun z => by rw [← z, upd_ne txp, upd_same] at hd; cases hd
    have hd0 : H4 d = none := by
      rw [upd_ne hdp, upd_ne (Ne.symm hdtx)] at hd; exact hd
    have hd00 : H d = none := x4.free hd0 ⟨_, hp4⟩
    have start : ∃ (v3 v4 : Option V), [some (V.ref p), some (.str (S al)), some (.ref pa), none, none, none, none, none, none] = [some (V.ref p), some (.str (S al)), some (.ref pa), v3, v4, none, none, none, none] ∧ InitAt C (upd (upd (upd (upd H4 tx (.lst (signsV (S al)))) p (.ins C dx (f3 al t tx))) d (.dT [])) p (.ins C dx (f4 al t tx d))) p dx t tx d ws al ps 0 ∧
        SameX p H (upd (upd (upd (upd H4 tx (.lst (signsV (S al)))) p (.ins C dx (f3 al t tx))) d (.dT [])) p (.ins C dx (f4 al t tx d))) := by
      have xa : SameX p H4 (upd (upd (upd (upd H4 tx (.lst (signsV (S al)))) p (.ins C dx (f3 al t tx))) d (.dT [])) p (.ins C dx (f4 al t tx d))) :=
        (((Same.x (p := p) (same_new htx)).self).put hd0).self
      have xb : ∀ b o, b ≠ p → H b = some o → H4 b = some o := x4
      have tT : SameT H4 (upd (upd (upd (upd H4 tx (.lst (signsV (S al)))) p (.ins C dx (f3 al t tx))) d (.dT [])) p (.ins C dx (f4 al t tx d))) := fun b xs e => xa b _ (fun z => by rw [z, hp4] at e; cases e) e
      refine ⟨none, none, rfl, ⟨upd_same, tT _ _ ht4, hP4.same tT, ?_, ?_⟩, fun b o hb e => xa b o hb (x4 b o hb e)⟩
      · rw [upd_ne txp, upd_ne hdtx, upd_ne txp, upd_same, etx]
      · rw [upd_ne hdp, upd_same]; rfl
    revert start
    show (∃ (v3 v4 : Option V), _ ∧ InitAt C (upd (upd (upd (upd H4 tx (.lst (signsV (S al)))) p (.ins C dx (f3 al t tx))) d (.dT [])) p (.ins C dx (f4 al t tx d))) p dx t tx d ws al ps 0 ∧ SameX p H (upd (upd (upd (upd H4 tx (.lst (signsV (S al)))) p (.ins C dx (f3 al t tx))) d (.dT [])) p (.ins C dx (f4 al t tx d)))) → tSeq _ _ _ _ (upd (upd (upd (upd H4 tx (.lst (signsV (S al)))) p (.ins C dx (f3 al t tx))) d (.dT [])) p (.ins C dx (f4 al t tx d)))
    generalize upd (upd (upd (upd H4 tx (.lst (signsV (S al)))) p (.ins C dx (f3 al t tx))) d (.dT [])) p (.ins C dx (f4 al t tx d)) = H5
    intro start
    have hlenw : ws.length = ps.length := hP4.length
    obtain ⟨_, _, _, i0, _⟩ := id start
    refine ⟨_, rfl, p, C, dx, _, _, rfl, i0.1, J.cl, J.n2, f4_pairs al t tx d, _, _, _, _, rfl, src_seq (b := false) i0.2.1, for_it walkG (fun i σ H' => ∃ (v3 v4 : Option V), σ = [some (V.ref p), some (.str (S al)), some (.ref pa), v3, v4, none, none, none, none] ∧ InitAt C H' p dx t tx d ws al ps i ∧ SameX p H H') start (fun i σ H' _ ⟨_, _, _, ia, _⟩ => ia.2.1) ?_ ?_⟩
    · rintro i x σ Ha Hb hi ⟨v3, v4, rfl, ia, xa⟩ ⟨Tt, xs, rfl, hT, rfl, v, hv, rfl⟩
      obtain ⟨⟨l, r⟩, hpi, qa, rfl, hqa⟩ := Paired.at ia.2.2.1 hv
      have ib := ia.same (same_new hT (o := .tup [.int (i : Int), .ref qa]))
      have xb : SameX p H (upd Ha Tt (.tup [.int (i : Int), .ref qa])) := xa.then (same_new hT)
      have hqb : (upd Ha Tt (.tup [.int (i : Int), .ref qa])) qa = some (.tup [.int (l : Int), .int (r : Int)]) := (same_new hT) _ _ hqa
      have hTb : (upd Ha Tt (.tup [.int (i : Int), .ref qa])) Tt = some (.tup [.int (i : Int), .ref qa]) := upd_same
      revert ib xb hqb hTb
      show InitAt C (upd Ha Tt (.tup [.int (i : Int), .ref qa])) p dx t tx d ws al ps i → SameX p H (upd Ha Tt (.tup [.int (i : Int), .ref qa])) → (upd Ha Tt (.tup [.int (i : Int), .ref qa])) qa = some (.tup [.int (l : Int), .int (r : Int)]) → (upd Ha Tt (.tup [.int (i : Int), .ref qa])) Tt = some (.tup [.int (i : Int), .ref qa]) → gTup K 2 _ _ _ (upd Ha Tt (.tup [.int (i : Int), .ref qa])) _
      generalize upd Ha Tt (.tup [.int (i : Int), .ref qa]) = Hb
      intro ib xb hqb hTb
      obtain ⟨b1, b2, b3, b4, b5⟩ := ib
      have hok := hprop i (l, r) hpi
      have htl : (textsOf al (ps.take i)).length ≤ 200 := by rw [textsOf_len, List.length_take]; omega
      refine ⟨Tt, _, rfl, SqT.of hTb, rfl, _, _, rfl, _, _, rfl, rfl, ?_⟩
      refine ⟨_, rfl, _, rfl, p, C, dx, _, _, rfl, b1, J.cl, J.n3, f4_texts al t tx d, _, rfl, p, C, dx, _, _, rfl, b1, J.cl, J.n4, f4_ranks al t tx d, _, rfl, al, textsOf al (ps.take i), ps.take i, (l : Int), (r : Int), tx, d, qa, rfl, b4, b5, hqb, (hprop.take i).wf, textsOf_al, (hprop.take i).short, by omega, by omega,
        fun p' e1 e2 ok Hc sc => ⟨_, rfl, iteF ?_⟩, fun hno => absurd hok (hno (l, r) rfl rfl)⟩
      have ic : InitAt C Hc p dx t tx d ws al ps i := InitAt.same ⟨b1, b2, b3, b4, b5⟩ sc
      have xc : SameX p H Hc := xb.then sc
      have hqc := sc _ _ hqb
      obtain ⟨c1, c2, c3, c4, c5⟩ := ic
      have hg1 : l < (textsOf al (ps.take i)).length := hok.1
      have hg2 : r < (textsOf al (ps.take i)).length := hok.2.1
      have hsum : ((textsOf al (ps.take i)).getD l []).length + ((textsOf al (ps.take i)).getD r []).length ≤ 40 := by
        have := hok.2.2.1
        rw [List.length_append] at this; exact this
      have hts : textsOf al (ps.take i) ++ [(textsOf al (ps.take i)).getD l [] ++ (textsOf al (ps.take i)).getD r []] = textsOf al (ps.take (i + 1)) := by rw [take_succ_of hpi, textsOf_snoc]
      refine ⟨_, rfl, p, C, dx, _, _, rfl, c1, J.cl, J.n3, f4_texts al t tx d, .inl ⟨rfl, _, SqL.of c4⟩, ?_⟩
      refine ⟨_, rfl, p, C, dx, _, _, rfl, c1, J.cl, J.n3, f4_texts al t tx d, _, rfl, qa, _, 0, _, rfl, rfl, SqT.of hqc, rfl, tx, _, _, _, rfl, rfl, SqL.of c4, atI_nat (strV_at hg1),
        _, rfl, p, C, dx, _, _, rfl, c1, J.cl, J.n3, f4_texts al t tx d, _, rfl, qa, _, 1, _, rfl, rfl, SqT.of hqc, rfl, tx, _, _, _, rfl, rfl, SqL.of c4, atI_nat (strV_at hg2), S _, S _, rfl, rfl, ?_, ?_⟩
      · rw [S_len, S_len]
        exact small_le (by omega)
      refine ⟨tx, _, _, rfl, rfl, c4, by rw [strV_len]; exact small1000 (by omega), ?_⟩
      rw [S_cat, strV_snoc, hts]
      have ntx : ∀ (b : Addr) (o : HO), Hc b = some o → (∀ ys, o ≠ .lst ys) → (upd Hc tx (.lst (strV (textsOf al (ps.take (i + 1)))))) b = some o := fun b o e hne => by
        rw [upd_ne (ne_of e c4 (hne _))]; exact e
      have hd2 := ntx d _ c5 (by intro ys z; cases z)
      have hq2 := ntx qa _ hqc (by intro ys z; cases z)
      refine ⟨_, rfl, _, rfl, p, C, dx, _, _, rfl, ntx p _ c1 (by intro ys z; cases z), J.cl, J.n4, f4_ranks al t tx d, _, rfl, d, _, rfl, DPut.t (k := pkey (l, r)) hd2 hq2 (by rw [kvsF_len, List.length_take]; exact small1000 (by omega)), ?_⟩
      have hnew : putK (kvsF 0 (ps.take i)) (pkey (l, r)) (V.int (i : Int)) = kvsF 0 (ps.take (i + 1)) := by
        have hnot : (l, r) ∉ ps.take i := fun hm => by
          have := cut_clean (hprop.take i).wf (lets al ((textsOf al (ps.take i)).getD l [] ++ (textsOf al (ps.take i)).getD r [])) _ hm
          rw [show cutL al.length (ps.take i) (lets al ((textsOf al (ps.take i)).getD l [] ++ (textsOf al (ps.take i)).getD r [])) = [l, r] from hok.2.2.2] at this
          exact this (by show (l, r) ∈ [(l, r)]; exact List.mem_cons_self ..)
        have h0 : valV (kvsF 0 (ps.take i)) (pkey (l, r)) = none := by rw [kvsF_get, if_neg hnot]
        rw [putK_new _ h0, take_succ_of hpi, kvsF_snoc, take_len_of hpi, Nat.zero_add]
      rw [hnew]
      have nd : ∀ (b : Addr) (o : HO), (upd Hc tx (.lst (strV (textsOf al (ps.take (i + 1)))))) b = some o → (∀ ys, o ≠ .dT ys) → (upd (upd Hc tx (.lst (strV (textsOf al (ps.take (i + 1)))))) d (.dT (kvsF 0 (ps.take (i + 1))))) b = some o := fun b o e hne => by
        rw [upd_ne (ne_of e hd2 (hne _))]; exact e
      have tT : SameT Hc (upd (upd Hc tx (.lst (strV (textsOf al (ps.take (i + 1)))))) d (.dT (kvsF 0 (ps.take (i + 1))))) := fun b xs e => nd b _ (ntx b _ e (by intro ys z; cases z)) (by intro ys z; cases z)
      refine ⟨_, _, rfl, ⟨nd p _ (ntx p _ c1 (by intro ys z; cases z)) (by intro ys z; cases z), tT _ _ c2, c3.same tT, nd tx _ upd_same (by intro ys z; cases z), upd_same⟩, ?_⟩
      exact (xc.put htx0).put hd00
    · rintro σ H6 ⟨v3, v4, rfl, ⟨c1, c2, c3, c4, c5⟩, x6⟩
      rw [hlenw, List.take_length] at c4 c5
      refine ⟨_, rfl, p, C, dx, _, _, rfl, c1, J.cl, J.n3, f4_texts al t tx d, _, _, _, _, rfl, src_seq (b := true) c4, fun D2 hD2 => dc_it walkG (fun i H' => Same H6 H' ∧ H' D2 = some (.dK (kvsT 0 ((textsOf al ps).take i)))) ⟨same_new hD2, upd_same⟩ (fun i H' _ ⟨sa, _⟩ => sa _ _ c4) ?_ ?_⟩
      · rintro i x Ha Hb hi ⟨sa, ha⟩ ⟨Tt, xs, rfl, hT, rfl, v, hv, rfl⟩
        have hvt : ∃ u, (textsOf al ps)[i]? = some u ∧ v = .str (S u) := by
          rw [strV, List.getElem?_map] at hv
          cases e : (textsOf al ps)[i]? with
          | none => rw [e] at hv; cases hv
          | some u => rw [e] at hv; exact ⟨u, rfl, (Option.some.inj hv).symm⟩
        obtain ⟨u, hu1, rfl⟩ := hvt
        have hne : D2 ≠ Tt := ne_of_none ha hT
        refine ⟨Tt, _, rfl, SqT.of upd_same, rfl, _, _, rfl, _, _, rfl, rfl, rfl, _, rfl, _, rfl, _, Sum.inr (S u), rfl, (upd_ne hne).trans ha, ?_, Same.put (Same.new sa hT) hD2, ?_⟩
        · rw [kvsT_len, List.length_take, textsOf_len]; exact small1000 (by omega)
        · have hnot : u ∉ (textsOf al ps).take i := fun hm => by
            obtain ⟨j, hj, ej⟩ := mem_take_get hm
            have := texts_inj hnd hprop ej hu1; omega
          have h0 : valV (kvsT 0 ((textsOf al ps).take i)) (Sum.inr (S u) : Key) = none := by rw [kvsT_get, if_neg hnot]
          rw [upd_same, putK_new _ h0, take_succ_of hu1, kvsT_snoc, take_len_of hu1, Nat.zero_add]
      · rintro H7 ⟨s7, h7⟩
        have en : (strV (textsOf al ps)).length = (textsOf al ps).length := strV_len _
        rw [en, List.take_length] at h7
        refine ⟨_, rfl, p, C, dx, _, rfl, s7 _ _ c1, J.cl, J.n5, lens t tx d |>.2.2.2, q _ (x6.then s7).self ⟨dx, t, tx, d, D2, ws, upd_same, ?_⟩⟩
        have nx : ∀ (b : Addr) (o : HO), H7 b = some o → (∀ fs, o ≠ .ins C dx fs) → (upd H7 p (.ins C dx (putF "_pieces_by_text" (.ref D2) (f4 al t tx d)))) b = some o := fun b o e hne => by
          rw [upd_ne (ne_of e (s7 _ _ c1) (hne _))]; exact e
        have tT : SameT H6 (upd H7 p (.ins C dx (putF "_pieces_by_text" (.ref D2) (f4 al t tx d)))) := fun b xs e => nx b _ (s7 _ _ e) (by intro fs z; cases z)
        exact ⟨tT _ _ c2, c3.same tT, nx tx _ (s7 _ _ c4) (by intro fs z; cases z), nx d _ (s7 _ _ c5) (by intro fs z; cases z), nx D2 _ h7 (by intro fs z; cases z)⟩
end
end RJ
end

section
set_option maxRecDepth 100000
set_option maxHeartbeats 4000000
namespace RJ
open PySem PySem.Spec PyProof.Rows L2
abbrev s_letters_of : Stmt := top 37
abbrev N_letters_of : List Str := ["joins", "text"]
theorem sc_letters_of : FnScope N_letters_of ["joins", "text"] (C8.fnScope s_letters_of) := C8.fnScope_by (by decide +kernel)
abbrev s_text_of_row : Stmt := top 38
abbrev N_text_of_row : List Str := ["joins", "row", "piece"]
theorem sc_text_of_row : FnScope N_text_of_row ["joins", "row"] (C8.fnScope s_text_of_row) := C8.fnScope_by (by decide +kernel)
theorem joinL_nil : ∀ ys : List (List Nat), TL.joinL [] ys = ys.flatten
  | [] => rfl
  | [y] => by show y = y ++ []; rw [List.append_nil]
  | y :: z :: ys => by
    show y ++ ([] ++ TL.joinL [] (z :: ys)) = y ++ (z :: ys).flatten
    rw [List.nil_append, joinL_nil (z :: ys)]
def sp_has_piece (C : Addr) : Sp := fun vs H Q _ => ∃ (p : Addr) (x : V) (al : List Nat) (ps : List (Nat × Nat)), vs = [.ref p, x] ∧ JoinsAt C H p al ps ∧ Kind H x ∧ Q (.bl (numBelow x ((al.length + ps.length : Nat) : Int))) H
def sp_check_piece (C : Addr) : Sp := fun vs H Q _ => ∃ (p : Addr) (i : Nat) (al : List Nat) (ps : List (Nat × Nat)), vs = [.ref p, .int (i : Int)] ∧ JoinsAt C H p al ps ∧ i < al.length + ps.length ∧ Q .non H
def sp_text_of (C : Addr) : Sp := fun vs H Q _ => ∃ (p : Addr) (i : Nat) (al : List Nat) (ps : List (Nat × Nat)), vs = [.ref p, .int (i : Int)] ∧ JoinsAt C H p al ps ∧ i < al.length + ps.length ∧ Q (.str (S ((textsOf al ps).getD i []))) H
def sp_join_row (C : Addr) : Sp := fun vs H Q _ => ∃ (p a : Addr) (k : Bool) (row al : List Nat) (ps : List (Nat × Nat)), vs = [.ref p, .ref a] ∧ JoinsAt C H p al ps ∧ WF al.length ps ∧ RowAt k H a row ∧ row.length ≤ 1000 ∧ al.length ≤ 1000 ∧
  ∀ H' q k', Same H H' → (k = true → k' = true) → RowAt k' H' q (cutL al.length ps row) → Q (.ref q) H'
def sp_letters_of (C : Addr) : Sp := fun vs H Q _ => ∃ (p : Addr) (t al : List Nat) (ps : List (Nat × Nat)), vs = [.ref p, .str (S t)] ∧ JoinsAt C H p al ps ∧ (∀ c ∈ t, c ∈ al) ∧ t.length ≤ 1000 ∧
  ∀ H' q, Same H H' → H q = none → RowAt false H' q (lets al t) → Q (.ref q) H'
def sp_cut (C : Addr) : Sp := fun vs H Q _ => ∃ (p : Addr) (t al : List Nat) (ps : List (Nat × Nat)), vs = [.ref p, .str (S t)] ∧ JoinsAt C H p al ps ∧ WF al.length ps ∧ (∀ c ∈ t, c ∈ al) ∧ t.length ≤ 1000 ∧ al.length ≤ 1000 ∧
  ∀ H' q, Same H H' → RowAt false H' q (cutL al.length ps (lets al t)) → Q (.ref q) H'
def sp_text_of_row (C : Addr) : Sp := fun vs H Q _ => ∃ (p a : Addr) (b : Bool) (row al : List Nat) (ps : List (Nat × Nat)), vs = [.ref p, .ref a] ∧ JoinsAt C H p al ps ∧ Proper al ps ∧ RowAt b H a row ∧ (∀ i ∈ row, i < al.length + ps.length) ∧ row.length ≤ 1000 ∧
  ∀ H', Same H H' → Q (.str (S (textR (textsOf al ps) row))) H'
theorem sum_le {l : List (List Nat)} (h : ∀ t ∈ l, t.length ≤ 40) : ((l.map fun t => S t).map (·.length)).sum ≤ 40 * l.length := by
  induction l with
  | nil => exact Nat.le_refl _
  | cons t l ih =>
    have h1 := ih fun u hu => h u (List.mem_cons_of_mem _ hu)
    have h2 := h t (List.mem_cons_self ..)
    rw [List.map_cons, List.map_cons, List.sum_cons, S_len, List.length_cons]
    omega
section
variable {P : Program} {w : World} {K : PySem.W.Frag} {mg : Str → Option Value} {base : Heap}
theorem ok_has_piece {f C : Addr} {fd : FuncData} (F : C8.Fun K "has_piece" "Joins.has_piece" s_Joins_has_piece f fd) (T : Txt K mg) (J : JTxt K C) (c_is_number_below : C8.Cal P w K mg base 2 "is_number_below" sp_is_number_below []) : FnOk P w K mg base C8.CX0 3 f fd ["self", "piece"] (sp_has_piece C) := by
  refine C8.fn0 F sc_Joins_has_piece (fun vs H Q E h => ?_) (fun cdv A outer s H vs Q E hr h => ?_)
  · obtain ⟨p, x, al, ps, rfl, _⟩ := h; rfl
  · obtain ⟨p, x, al, ps, rfl, ⟨dx, t, tx, d, e, ws, h1, h2, h3, h4, h5, h6⟩, k, q⟩ := h
    refine ⟨_, (pss_one (ps_ret (C8.pe_c c_is_number_below hr (by first | decide | omega) (by rfl) (pa_cons (pv 1) (pa_cons (pe_callB call_len_seq (by rfl) T.b_len PySem.boot_len (pa_cons (pe_fld (pv 0) rfl) pa_nil)) pa_nil))))), ?_⟩
    refine ⟨_, rfl, _, rfl, p, C, dx, _, _, rfl, h1, J.cl, J.n3, f5_texts al t tx d e, tx, _, rfl, .inl (SqL.of h4), x, _, rfl, k, ?_⟩
    rw [strV_len, textsOf_len]; exact q
theorem ok_check_piece {f C : Addr} {fd : FuncData} (F : C8.Fun K "check_piece" "Joins.check_piece" s_Joins_check_piece f fd) (T : Txt K mg) (J : JTxt K C) (m_has_piece : C8.Met P w K mg base 3 C "has_piece" (sp_has_piece C) []) : FnOk P w K mg base C8.CX0 4 f fd ["self", "piece"] (sp_check_piece C) := by
  refine C8.fn0 F sc_Joins_check_piece (fun vs H Q E h => ?_) (fun cdv A outer s H vs Q E hr h => ?_)
  · obtain ⟨p, i, al, ps, rfl, _⟩ := h; rfl
  · obtain ⟨p, i, al, ps, rfl, hj, hi, q⟩ := h
    obtain ⟨dx, t, tx, d, e, ws, h1, h2, h3, h4, h5, h6⟩ := id hj
    refine ⟨_, (pss_one (ps_if (pt_not (pt_val (C8.pe_mt m_has_piece hr (by first | decide | omega) (pv 0) (pa_cons (pv 1) pa_nil)))) (pss_one ps_never) pss_nil)), ?_⟩
    refine ⟨_, rfl, p, dx, _, rfl, h1, f5_no al t tx d e (by decide +kernel) (by decide +kernel) (by decide +kernel) (by decide +kernel) (by decide +kernel), _, rfl, p, _, al, ps, rfl, hj, .int _, _, rfl, ?_⟩
    rw [numBelow_yes hi]
    exact iteF q
theorem ok_text_of {f C : Addr} {fd : FuncData} (F : C8.Fun K "text_of" "Joins.text_of" s_Joins_text_of f fd) (T : Txt K mg) (J : JTxt K C) (m_check_piece : C8.Met P w K mg base 4 C "check_piece" (sp_check_piece C) []) : FnOk P w K mg base C8.CX0 5 f fd ["self", "piece"] (sp_text_of C) := by
  refine C8.fn0 F sc_Joins_text_of (fun vs H Q E h => ?_) (fun cdv A outer s H vs Q E hr h => ?_)
  · obtain ⟨p, i, al, ps, rfl, _⟩ := h; rfl
  · obtain ⟨p, i, al, ps, rfl, hj, hi, q⟩ := h
    obtain ⟨dx, t, tx, d, e, ws, h1, h2, h3, h4, h5, h6⟩ := id hj
    refine ⟨_, (pss_cons (ps_expr (C8.pe_mt m_check_piece hr (by first | decide | omega) (pv 0) (pa_cons (pv 1) pa_nil)))
      (pss_one (ps_ret (pe_ix ix_list (pe_fld (pv 0) rfl) (pv 1) (fun _ _ => rfl))))), ?_⟩
    refine ⟨_, rfl, p, dx, _, rfl, h1, f5_no al t tx d e (by decide +kernel) (by decide +kernel) (by decide +kernel) (by decide +kernel) (by decide +kernel), _, rfl, p, _, al, ps, rfl, hj, hi, ?_⟩
    exact ⟨_, rfl, p, C, dx, _, _, rfl, h1, J.cl, J.n3, f5_texts al t tx d e, _, rfl, tx, _, _, _, rfl, rfl, SqL.of h4, atI_nat (strV_at (by rw [textsOf_len]; exact hi)), q⟩
theorem ok_letters_of {f C : Addr} {fd : FuncData} (F : C8.Fun K "letters_of" "letters_of" s_letters_of f fd) (T : Txt K mg) (J : JTxt K C) (c_letter_row : C8.Cal P w K mg base 1 "letter_row" sp_letter_row []) : FnOk P w K mg base C8.CX0 2 f fd ["joins", "text"] (sp_letters_of C) := by
  refine C8.fn0 F sc_letters_of (fun vs H Q E h => ?_) (fun cdv A outer s H vs Q E hr h => ?_)
  · obtain ⟨p, t, al, ps, rfl, _⟩ := h; rfl
  · obtain ⟨p, u, al, ps, rfl, ⟨dx, t, tx, d, e, ws, h1, h2, h3, h4, h5, h6⟩, hin, hl, q⟩ := h
    refine ⟨_, (pss_one (ps_ret (pe_tupleOf (by rfl) T.b_tuple (C8.pe_c c_letter_row hr (by first | decide | omega) (by rfl) (pa_cons (pe_fld (pv 0) rfl) (pa_cons (pv 1) pa_nil)))))), ?_⟩
    refine ⟨_, rfl, p, C, dx, _, _, rfl, h1, J.cl, J.n1, f5_alphabet al t tx d e, _, rfl, al, u, rfl, hin, hl, fun H1 r s1 hr0 hr1 => .inl ⟨r, _, rfl, SqL.of hr1, fun z hz => ?_⟩⟩
    exact q _ z (Same.new s1 hz) (s1.free hz) upd_same
theorem ok_text_of_row {f C : Addr} {fd : FuncData} (F : C8.Fun K "text_of_row" "text_of_row" s_text_of_row f fd) (T : Txt K mg) (J : JTxt K C) (m_text_of : C8.Met P w K mg base 5 C "text_of" (sp_text_of C) []) : FnOk P w K mg base C8.CX0 6 f fd ["joins", "row"] (sp_text_of_row C) := by
  refine C8.fn0 F sc_text_of_row (fun vs H Q E h => ?_) (fun cdv A outer s H vs Q E hr h => ?_)
  · obtain ⟨p, a, b, row, al, ps, rfl, _⟩ := h; rfl
  · obtain ⟨p, a, b, row, al, ps, rfl, hj, hp, hrow, hin, hl, q⟩ := h
    refine ⟨_, (pss_one (ps_ret (pe_join pe_str (pe_lc (own := [("piece", 2)]) (g := gName 2) (tt := tYes) rfl sc_text_of_row.nd (pi_seq (pv 1)) (blkOk_by (N := N_text_of_row) (sc := C8.fnScope s_text_of_row) (by decide +kernel)) (fun _ _ _ _ _ => (pg_name (i := 2) sc_text_of_row.nd rfl (Or.inl rfl))) (fun _ _ _ _ _ => pts_nil) (fun _ _ _ _ _ => (C8.pe_mt m_text_of hr (by first | decide | omega) (pv 0) (pa_cons (pv 2) pa_nil))))))), ?_⟩
    refine ⟨⟨_, rfl⟩, _, rfl, b, a, _, rfl, hrow, fun D hD => lc_it walk_seq (fun i H' => Same H H' ∧ H' D = some (.lst (((row.take i).map fun i => S ((textsOf al ps).getD i [])).map V.str))) ⟨same_new hD, upd_same⟩ (fun i H' _ ⟨sa, _⟩ => hrow.same sa) ?_ ?_⟩
    · rintro i x Ha Hb hi ⟨sa, ha⟩ ⟨rfl, hx⟩
      obtain ⟨n, hn, rfl⟩ := iv_get hx
      have hj' := hj.same sa
      obtain ⟨dx, t, tx, d, e, ws, h1, _⟩ := id hj'
      refine ⟨rfl, _, rfl, p, dx, _, rfl, h1, f5_no al t tx d e (by decide +kernel) (by decide +kernel) (by decide +kernel) (by decide +kernel) (by decide +kernel), _, rfl, p, n, al, ps, rfl, hj', hin n (List.mem_of_getElem? hn), ?_⟩
      refine ⟨_, ha, ?_, Same.put sa hD, ?_⟩
      · rw [List.length_map, List.length_map, List.length_take]; exact small1000 (by omega)
      · rw [upd_same, map_take_succ hn, List.map_append]; rfl
    · rintro H1 ⟨s1, h1⟩
      rw [iv_len, List.take_length] at h1
      refine ⟨S [], D, row.map fun i => S ((textsOf al ps).getD i []), rfl, rfl, .inl (SqL.of h1), ?_, ?_⟩
      · have e : (row.map fun i => S ((textsOf al ps).getD i [])) = (row.map fun i => (textsOf al ps).getD i []).map fun t => S t := by rw [List.map_map]; rfl
        rw [e]
        have := sum_le (l := row.map fun i => (textsOf al ps).getD i []) fun t ht => by
          obtain ⟨i, _, rfl⟩ := List.mem_map.mp ht
          exact getD_short hp.short i
        rw [List.length_map] at this
        rw [S_len]
        simp only [List.length_nil, Nat.mul_zero, Nat.add_zero]
        omega
      · have e : (row.map fun i => S ((textsOf al ps).getD i [])) = (row.map fun i => (textsOf al ps).getD i []).map SX.S := by rw [List.map_map]; rfl
        rw [e, SX.join_S, joinL_nil]
        exact q H1 s1
end
end RJ
end

section
set_option maxRecDepth 100000
set_option maxHeartbeats 4000000
namespace RJ
open PySem PySem.Spec PyProof.Rows L2
theorem hu65_of {A : Around} {k : Nat} (hr : Room k A) : A.units + 65 < cLine := by have := hr.un; omega
theorem pe_never {X : Cx} {e : Expr} : PE X e (fun _ _ _ => False) := ⟨fun _ _ _ _ _ _ h => h.elim⟩

def sp_numbers : Sp := fun vs H Q _ => ∃ (c a : Int) (m : Nat), vs = [.int c, .int a, .int (m : Int)] ∧ 0 ≤ a ∧ a ≤ 1000 ∧ m ≤ 200 ∧
  ∀ H' p ns, Same H H' → H p = none → ns.length = m → (∀ n ∈ ns, n < 1000) → H' p = some (.lst (iv ns)) → Q (.ref p) H'
/-- the same data of this depth at most -/
def scalV : V → Bool
  | .non => true
  | .bl _ => true
  | .int _ => true
  | .str _ => true
  | _ => false
def SameD (H : Hp) : Nat → V → V → Prop
  | 0, x, y => x = y ∧ scalV x = true
  | n + 1, x, y => (x = y ∧ scalV x = true) ∨ ∃ a b xs ys, x = .ref a ∧ y = .ref b ∧ H a = some (.tup xs) ∧ H b = some (.tup ys) ∧ xs.length ≤ 1000 ∧ Paired (SameD H n) xs ys
theorem SameD.flat {H : Hp} {x : V} (h : scalV x = true) : ∀ n, SameD H n x x
  | 0 => ⟨rfl, h⟩
  | _ + 1 => .inl ⟨rfl, h⟩
theorem Paired.same {α : Type} {F : α → α → Prop} : ∀ {l : List α}, (∀ x ∈ l, F x x) → Paired F l l
  | [], _ => .nil
  | x :: l, h => .cons (h x (List.mem_cons_self ..)) (Paired.same fun y hy => h y (List.mem_cons_of_mem _ hy))
theorem SameD.row {H : Hp} {a b : Addr} {l : List Nat} (ha : H a = some (.tup (iv l))) (hb : H b = some (.tup (iv l))) (hl : l.length ≤ 1000) : SameD H 1 (.ref a) (.ref b) :=
  .inr ⟨a, b, _, _, rfl, rfl, ha, hb, by rw [iv_len]; exact hl, Paired.same fun x hx => by
    obtain ⟨n, _, rfl⟩ := List.mem_map.mp hx
    exact ⟨rfl, rfl⟩⟩
theorem SameD.mono {H H' : Hp} (s : Same H H') : ∀ {n : Nat} {x y : V}, SameD H n x y → SameD H' n x y
  | 0, _, _, h => h
  | n + 1, _, _, h => by
    rcases h with h | ⟨a, b, xs, ys, h1, h2, h3, h4, h5, h6⟩
    · exact .inl h
    · exact .inr ⟨a, b, xs, ys, h1, h2, s _ _ h3, s _ _ h4, h5, Paired.mapP h6 fun x y q => SameD.mono s q⟩
def sp_same (n : Nat) : Sp := fun vs H Q _ => ∃ x y, vs = [x, y] ∧ SameD H n x y ∧ ∀ H', Same H H' → Q (.bl true) H'
theorem emod_nat (z m : Int) (h : 0 < m) : ∃ n : Nat, z % m = (n : Int) ∧ (n : Int) < m := ⟨(z % m).toNat, by have := Int.emod_nonneg z (by omega : m ≠ 0); omega, by have := Int.emod_lt_of_pos z h; have := Int.emod_nonneg z (by omega : m ≠ 0); omega⟩
theorem abs_nonneg (c : Int) : 0 ≤ (if c < 0 then -c else c) := by split <;> omega
section
variable {P : Program} {w : World} {K : PySem.W.Frag} {mg : Str → Option Value} {base : Heap}
end
end RJ
end

section
set_option maxRecDepth 100000
set_option maxHeartbeats 4000000
namespace RJ
open PySem PySem.Spec PyProof.Rows L2

/-! ### the alphabet -/
/-- the signs that are drawn: all from blank to tilde but one -/
def SG : List Nat := ((List.range 127).drop 32).filter fun c => c != 37
theorem SG_len : SG.length = 94 := by decide +kernel
theorem SG_in : ∀ c ∈ SG, 32 ≤ c ∧ c ≤ 126 := by decide +kernel
/-- signs as values -/
def sv (ls : List Nat) : List Str := ls.map fun c => S [c]
theorem sv_inj {a b : Nat} (h : S [a] = S [b]) : a = b := by
  have := S_inj h
  exact List.head_eq_of_cons_eq this
theorem in_sv {c : Nat} {ls : List Nat} : inV (.str (S [c])) ((sv ls).map V.str) = decide (c ∈ ls) := by
  unfold inV sv
  rw [List.map_map, List.any_map]
  induction ls with
  | nil => rfl
  | cons d ls ih =>
    rw [List.any_cons, ih]
    show ((S [d] == S [c]) || decide (c ∈ ls)) = _
    by_cases h : d = c
    · subst h
      rw [beq_self_eq_true, Bool.true_or, decide_eq_true (List.mem_cons_self ..)]
    · rw [beq_eq_false_iff_ne.mpr fun e => h (sv_inj e), Bool.false_or]
      exact decide_eq_decide.mpr ⟨List.mem_cons_of_mem _, fun z => (List.mem_cons.mp z).resolve_left fun e => h e.symm⟩
theorem flat_sv (ls : List Nat) : ((sv ls).map V.str).all flatV = true := by
  unfold sv
  rw [List.map_map, List.all_map]
  exact List.all_eq_true.mpr fun _ _ => rfl
def hd1 (z : Str) : Nat := z.cps.toList.headD 0
theorem sv_perm {ys : List Str} {ls : List Nat} (h : ys.Perm (sv ls)) : ∃ al, ys = sv al ∧ al.Perm ls := by
  refine ⟨ys.map hd1, ?_, ?_⟩
  · unfold sv
    rw [List.map_map]
    conv => lhs; rw [← List.map_id ys]
    refine List.map_congr_left fun y hy => ?_
    obtain ⟨c, _, rfl⟩ := List.mem_map.mp (h.mem_iff.mp hy)
    rfl
  · have := h.map hd1
    unfold sv at this
    rw [List.map_map] at this
    have e : List.map (hd1 ∘ fun c => S [c]) ls = ls := by
      conv => rhs; rw [← List.map_id ls]
      exact List.map_congr_left fun c _ => rfl
    rw [e] at this; exact this
theorem asc_sorted : ∀ {al : List Nat}, sortedS (sv al) = true → al.Nodup → (ascL al).all id = true
  | [], _, _ => rfl
  | [_], _, _ => rfl
  | a :: b :: al, h, hn => by
    have h' : (!ltCps (S [b]).cps.toList (S [a]).cps.toList && risingS (S [b]) (sv al)) = true := h
    rw [Bool.and_eq_true, Bool.not_eq_true'] at h'
    have ih : (ascL (b :: al)).all id = true := asc_sorted (al := b :: al) h'.2 (List.nodup_cons.mp hn).2
    have hab : a ≠ b := fun e => (List.nodup_cons.mp hn).1 (e ▸ List.mem_cons_self ..)
    have hlt : a < b := by
      have h1 : ltCps [b] [a] = false := h'.1
      have h2 : ¬ b < a := fun z => by
        have : ltCps [b] [a] = true := by simp [ltCps, z]
        rw [this] at h1; cases h1
      omega
    show ((decide (a < b) :: ascL (b :: al)).all id) = true
    rw [List.all_cons, ih, decide_eq_true hlt]; rfl
theorem alOk_of {al : List Nat} (h1 : (ascL al).all id = true) (h2 : ∀ c ∈ al, c ∈ SG) (h3 : 1 ≤ al.length) (h4 : al.length ≤ 30) : alOk al = true := by
  unfold alOk
  rw [decide_eq_true ⟨h3, h4⟩, h1, Bool.true_and, Bool.true_and, List.all_map]
  exact List.all_eq_true.mpr fun c hc => decide_eq_true (SG_in c (h2 c hc))
theorem flat1 (al : List Nat) : (al.map fun c => [c]).flatten = al := by
  induction al with
  | nil => rfl
  | cons a al ih => rw [List.map_cons, List.flatten_cons, ih]; rfl
theorem join1 (al : List Nat) : PySem.Txt.join (S []) (sv al) = S al := by
  have e : sv al = (al.map fun c => [c]).map SX.S := by unfold sv; rw [List.map_map]; rfl
  rw [e, SX.join_S, joinL_nil, flat1]
theorem sum1 (al : List Nat) : ((sv al).map (·.length)).sum = al.length := by
  induction al with
  | nil => rfl
  | cons a al ih =>
    show (S [a]).length + ((sv al).map (·.length)).sum = _
    rw [ih, S_len, List.length_cons, List.length_cons, List.length_nil]; omega
def sp_alphabet : Sp := fun vs H Q _ => ∃ (p : Addr) (ns : List Nat) (k m : Nat), vs = [.ref p, .int (k : Int), .int (m : Int)] ∧ H p = some (.lst (iv ns)) ∧ k + m ≤ ns.length ∧ ns.length ≤ 1000 ∧ 1 ≤ m ∧ m ≤ 30 ∧
  ∀ H' al, Same H H' → alOk al = true → al.Nodup → 1 ≤ al.length → al.length ≤ 30 → ((∀ c ∈ al, c ∈ SG) ∧ al.length ≤ m) → Q (.str (S al)) H'
def sp_join_all : Sp := fun vs H Q _ => ∃ (p pr : Addr) (row : List Nat) (l r m : Nat), vs = [.ref p, .ref pr, .int (m : Int)] ∧ H p = some (.lst (iv row)) ∧ H pr = some (.tup (iv [l, r])) ∧ row.length ≤ 1000 ∧
  ∀ H' z, Same H H' → H z = none → H' z = some (.lst (iv (pass l r m row))) → Q (.ref z) H'
def nextAt (gone : Bool) (i : Nat) : Nat := bif gone then i + 1 else i
theorem shaped_ivT (l : List Nat) : SeqAt.shaped (.tuple (l.map fun (n : Nat) => PyData.int (n : Int))) = true := by
  have := shaped_iv l
  exact this
section
variable {P : Program} {w : World} {K : PySem.W.Frag} {mg : Str → Option Value} {base : Heap}
end
end RJ
end

section
set_option maxRecDepth 100000
set_option maxHeartbeats 4000000
namespace RJ
open PySem PySem.Spec PyProof.Rows L2

theorem Paired.both {α β : Type} {F : α → β → Prop} : ∀ {as : List α} {bs : List β} {i : Nat}, Paired F as bs → i < bs.length → ∃ a b, as[i]? = some a ∧ bs[i]? = some b ∧ F a b
  | _, _, _, .nil, h => absurd h (Nat.not_lt_zero _)
  | _, _, 0, .cons f _, _ => ⟨_, _, rfl, rfl, f⟩
  | _, _, i + 1, .cons _ t, h => Paired.both (i := i) t (Nat.lt_of_succ_lt_succ h)
def sp_staged : Sp := fun vs H Q _ => ∃ (p z : Addr) (us : List V) (ps : List (Nat × Nat)) (row : List Nat) (b : Nat), vs = [.int (b : Int), .ref p, .ref z] ∧ H p = some (.lst us) ∧ PairsAt H us ps ∧ H z = some (.lst (iv row)) ∧ row.length ≤ 1000 ∧ ps.length ≤ 1000 ∧
  ∀ H' y, Same H H' → H' y = some (.lst (iv (cutL b ps row))) → Q (.ref y) H'
def sp_is_proper : Sp := fun vs H Q _ => ∃ (al : List Nat) (tx pp pr : Addr) (us : List V) (ps : List (Nat × Nat)) (a b : Nat), vs = [.str (S al), .ref tx, .ref pp, .ref pr] ∧ H tx = some (.lst (strV (textsOf al ps))) ∧ H pp = some (.lst us) ∧ PairsAt H us ps ∧
  H pr = some (.tup (iv [a, b])) ∧ Proper al ps ∧ al.length ≤ 1000 ∧ ps.length ≤ 1000 ∧ a < (textsOf al ps).length ∧ b < (textsOf al ps).length ∧ ∀ H', Same H H' → Q (.bl (decide (okP al (textsOf al ps) ps (a, b)))) H'
section
variable {P : Program} {w : World} {K : PySem.W.Frag} {mg : Str → Option Value} {base : Heap}
end
end RJ
end

section
set_option maxRecDepth 100000
set_option maxHeartbeats 4000000
namespace RJ
open PySem PySem.Spec PyProof.Rows L2

theorem modOf {L : Nat} (hL : 1 ≤ L) (n : Int) : ∃ a : Nat, a < L ∧ n % (L : Int) = (a : Int) := by
  obtain ⟨a, h1, h2⟩ := emod_nat n (L : Int) (by omega)
  exact ⟨a, by omega, h1⟩
theorem lastOf {L : Nat} (hL : 1 ≤ L) (n : Int) : ∃ a : Nat, a < L ∧ (L : Int) - 1 - n % (if (L : Int) < 3 then (L : Int) else 3) = (a : Int) := by
  obtain ⟨c, h1, h2⟩ := emod_nat n (if (L : Int) < 3 then (L : Int) else 3) (by split <;> omega)
  rw [h1]
  refine ⟨L - 1 - c, by omega, ?_⟩
  split at h2 <;> omega
theorem signs_texts (al : List Nat) : signsV (S al) = strV (textsOf al []) := by
  unfold signsV strV textsOf
  rw [List.foldl_nil, List.map_map]; rfl
def sp_list : Sp := fun vs H Q _ => ∃ (p : Addr) (ns al : List Nat) (k m : Nat), vs = [.ref p, .int (k : Int), .str (S al), .int (m : Int)] ∧ H p = some (.lst (iv ns)) ∧ k + 2 * m ≤ ns.length ∧ ns.length ≤ 1000 ∧ al.length ≤ 500 ∧ 1 ≤ al.length ∧ m ≤ 100 ∧
  ∀ H' r pp tx us ps, Same H H' → H' r = some (.tup [.ref pp, .ref tx]) → H' pp = some (.lst us) → PairsAt H' us ps → H' tx = some (.lst (strV (textsOf al ps))) → Proper al ps → ps.length ≤ m → Q (.ref r) H'
section
variable {P : Program} {w : World} {K : PySem.W.Frag} {mg : Str → Option Value} {base : Heap}
end
end RJ
end

section
set_option maxRecDepth 100000
set_option maxHeartbeats 4000000
namespace RJ
open PySem PySem.Spec PyProof.Rows L2
/-! ### cutting by an own hand: mathematics -/
def nbAt (row : List Nat) (i : Nat) (p : Nat × Nat) : Prop := row[i]? = some p.1 ∧ row[i + 1]? = some p.2
theorem nb_mem {p : Nat × Nat} : ∀ {row : List Nat}, p ∈ adjs row → ∃ i, nbAt row i p
  | [], h => by cases h
  | [a], h => by cases h
  | a :: b :: t, h => by
    rw [adjs_cons2] at h
    rcases List.mem_cons.mp h with e | e
    · subst e; exact ⟨0, rfl, rfl⟩
    · obtain ⟨i, h1, h2⟩ := nb_mem (row := b :: t) e
      exact ⟨i + 1, h1, h2⟩
theorem nb_fun {row : List Nat} {i : Nat} {p q : Nat × Nat} (h : nbAt row i p) (g : nbAt row i q) : p = q := by
  obtain ⟨p1, p2⟩ := p
  obtain ⟨q1, q2⟩ := q
  have e1 : some p1 = some q1 := h.1.symm.trans g.1
  have e2 : some p2 = some q2 := h.2.symm.trans g.2
  cases e1; cases e2; rfl
theorem nb_split {row : List Nat} {i : Nat} {p : Nat × Nat} (h : nbAt row i p) : row = row.take i ++ p.1 :: p.2 :: row.drop (i + 2) := by
  have e1 := split_at h.1
  have e2 : row.drop (i + 1) = p.2 :: row.drop (i + 2) := by
    obtain ⟨h1, h2⟩ := List.getElem?_eq_some_iff.mp h.2
    rw [List.drop_eq_getElem_cons h1, h2]
  rw [e2] at e1; exact e1
theorem nb_front {row : List Nat} {i : Nat} {p : Nat × Nat} (h : nbAt row i p) (hno : ∀ m : Nat, m < i → ¬ nbAt row m p) : p ∉ adjs (row.take i ++ [p.1]) := fun hm => by
  have e : row.take i ++ [p.1] = row.take (i + 1) := by rw [take_succ_of h.1]
  rw [e] at hm
  obtain ⟨m, h1, h2⟩ := nb_mem hm
  rw [List.getElem?_take] at h1 h2
  by_cases c : m + 1 < i + 1
  · rw [if_pos (by omega)] at h1
    rw [if_pos c] at h2
    exact hno m (by omega) ⟨h1, h2⟩
  · rw [if_neg c] at h2; cases h2
def Scan (ps : List (Nat × Nat)) (row : List Nat) (k best place : Nat) : Prop :=
  best ≤ ps.length ∧ (∀ (i : Nat) (q : Nat × Nat), i < k → nbAt row i q → ∀ j : Nat, j < best → ps[j]? ≠ some q) ∧ (best < ps.length → ∃ p, ps[best]? = some p ∧ nbAt row place p ∧ ∀ i : Nat, i < place → ¬ nbAt row i p)
theorem Scan.zero (ps : List (Nat × Nat)) (row : List Nat) : Scan ps row 0 ps.length 0 := ⟨Nat.le_refl _, fun i q h => absurd h (Nat.not_lt_zero _), fun h => absurd h (Nat.lt_irrefl _)⟩
theorem Scan.keep {ps : List (Nat × Nat)} {row : List Nat} {k best place : Nat} (h : Scan ps row k best place) (g : ∀ q, nbAt row k q → ∀ j : Nat, j < best → ps[j]? ≠ some q) : Scan ps row (k + 1) best place := by
  obtain ⟨h1, h2, h3⟩ := h
  refine ⟨h1, fun i q hi hq => ?_, h3⟩
  by_cases c : i = k
  · subst c; exact g q hq
  · exact h2 i q (by omega) hq
theorem Scan.put {ps : List (Nat × Nat)} {row : List Nat} {k best place j : Nat} {q : Nat × Nat} (h : Scan ps row k best place) (hq : nbAt row k q) (hj : ps[j]? = some q) (hmin : ∀ m : Nat, m < j → ps[m]? ≠ some q) (hlt : j < best) : Scan ps row (k + 1) j k := by
  obtain ⟨h1, h2, h3⟩ := h
  refine ⟨by omega, fun i q' hi hq' m hm => ?_, fun _ => ⟨q, hj, hq, fun i hi hn => h2 i q hi hn j hlt hj⟩⟩
  by_cases c : i = k
  · subst c; rw [nb_fun hq' hq]; exact hmin m hm
  · exact h2 i q' (by omega) hq' m (by omega)
theorem Scan.still {b : Nat} {ps : List (Nat × Nat)} {row : List Nat} {k place : Nat} (h : Scan ps row k ps.length place) (hk : row.length ≤ k + 1) : cutL b ps row = row := by
  refine cut_done fun p hp hm => ?_
  obtain ⟨i, hi⟩ := nb_mem hm
  obtain ⟨j, hj⟩ := List.getElem?_of_mem hp
  have hjl := (List.getElem?_eq_some_iff.mp hj).1
  have hil := (List.getElem?_eq_some_iff.mp hi.2).1
  exact h.2.1 i p (by omega) hi j hjl hj
theorem Scan.step {b : Nat} {ps : List (Nat × Nat)} (hw : WF b ps) {row : List Nat} {k best place : Nat} (h : Scan ps row k best place) (hk : row.length ≤ k + 1) (hlt : best < ps.length) :
    cutL b ps (row.take place ++ (b + best) :: row.drop (place + 2)) = cutL b ps row ∧ (row.take place ++ (b + best) :: row.drop (place + 2)).length + 1 = row.length := by
  obtain ⟨h1, h2, h3⟩ := h
  obtain ⟨p, hp, hn, hno⟩ := h3 hlt
  have hl := (List.getElem?_eq_some_iff.mp hn.2).1
  refine ⟨?_, ?_⟩
  · have e := nb_split hn
    have := cut_first hw hp (u := row.take place) (v := row.drop (place + 2)) (nb_front hn hno) (fun j q hj hq hm => by
      rw [← e] at hm
      obtain ⟨i, hi⟩ := nb_mem hm
      have hil := (List.getElem?_eq_some_iff.mp hi.2).1
      exact h2 i q (by omega) hi j hj hq)
    rw [this, ← e]
  · rw [List.length_append, List.length_cons, List.length_take, List.length_drop]; omega
theorem first_at {p : Nat × Nat} : ∀ {ps : List (Nat × Nat)}, p ∈ ps → ∃ j : Nat, ps[j]? = some p ∧ ∀ m : Nat, m < j → ps[m]? ≠ some p
  | [], h => by cases h
  | q :: ps, h => by
    by_cases c : q = p
    · subst c; exact ⟨0, rfl, fun (m : Nat) (hm : m < 0) => absurd hm (Nat.not_lt_zero _)⟩
    · obtain ⟨j, h1, h2⟩ := first_at ((List.mem_cons.mp h).resolve_left fun e => c e.symm)
      refine ⟨j + 1, h1, fun m hm => ?_⟩
      cases m with
      | zero => exact fun e => c (Option.some.inj e)
      | succ m => exact h2 m (by omega)
/-! ### pairs as data -/
def pairD (p : Nat × Nat) : PyData := .tuple ([p.1, p.2].map fun (n : Nat) => PyData.int (n : Int))
theorem eqv_pair (p q : Nat × Nat) : PyData.eqv (pairD p) (pairD q) = decide (p = q) := by
  unfold pairD
  rw [PyData.eqv, eqv_iv]
  refine decide_eq_decide.mpr ?_
  obtain ⟨a, b⟩ := p
  obtain ⟨c, d⟩ := q
  simp
theorem any_pair (p : Nat × Nat) (ps : List (Nat × Nat)) : ((ps.map pairD).any fun z => PyData.eqv z (pairD p)) = decide (p ∈ ps) := by
  rw [List.any_map]
  induction ps with
  | nil => rfl
  | cons q ps ih =>
    rw [List.any_cons, ih]
    show (PyData.eqv (pairD q) (pairD p) || decide (p ∈ ps)) = _
    rw [eqv_pair]
    by_cases c : q = p
    · subst c; simp
    · rw [decide_eq_false c, Bool.false_or]
      exact decide_eq_decide.mpr ⟨List.mem_cons_of_mem _, fun h => (List.mem_cons.mp h).resolve_left fun e => c e.symm⟩
theorem dp_pairs {K : PySem.W.Frag} {H : Hp} : ∀ {us : List V} {ps : List (Nat × Nat)}, PairsAt H us ps → DpAll K H us (ps.map pairD)
  | _, _, .nil => .nil
  | _, _, .cons h t => by
    obtain ⟨q, rfl, hq⟩ := h
    exact .cons (.tup (SqT.of hq) (iv_dp [_, _])) (dp_pairs t)
theorem shaped_pair (p : Nat × Nat) : SeqAt.shaped (pairD p) = true := shaped_ivT [p.1, p.2]
theorem shaped_pairs (ps : List (Nat × Nat)) : SeqAt.shaped (.list (ps.map pairD)) = true := by
  have h1 : PyData.canLayAll0 (ps.map pairD) = true := by
    induction ps with
    | nil => simp [PyData.canLayAll0]
    | cons p ps ih => rw [List.map_cons, PyData.canLayAll0, ih]; simp [pairD, PyData.canLay0, PyData.canLayAll0]
  have h2 : PyData.depthAll (ps.map pairD) ≤ 1 := by
    clear h1
    induction ps with
    | nil => simp [PyData.depthAll]
    | cons p ps ih =>
      rw [List.map_cons, PyData.depthAll]
      have : PyData.depth (pairD p) = 1 := by simp [pairD, PyData.depth, PyData.depthAll]
      omega
  unfold SeqAt.shaped
  rw [PyData.canLay0, h1, PyData.depth, Bool.true_and]
  exact decide_eq_true (by omega)
theorem get_pairD {ps : List (Nat × Nat)} {m : Nat} {z : PyData} (h : (ps.map pairD)[m]? = some z) : ∃ q, ps[m]? = some q ∧ z = pairD q := by
  rw [List.getElem?_map] at h
  cases e : ps[m]? with
  | none => rw [e] at h; cases h
  | some q => rw [e] at h; exact ⟨q, rfl, (Option.some.inj h).symm⟩
end RJ
end

section
set_option maxRecDepth 100000
set_option maxHeartbeats 8000000
namespace RJ
open PySem PySem.Spec PyProof.Rows L2
def sp_slow : Sp := fun vs H Q _ => ∃ (pp : Addr) (us : List V) (ps : List (Nat × Nat)) (al t : List Nat), vs = [.str (S al), .ref pp, .str (S t)] ∧ H pp = some (.lst us) ∧ PairsAt H us ps ∧ WF al.length ps ∧ ps.length ≤ 1000 ∧ al.length ≤ 1000 ∧
  (∀ c ∈ t, c ∈ al) ∧ t.length ≤ 900 ∧ ∀ H' z, Same H H' → H' z = some (.tup (iv (cutL al.length ps (lets al t)))) → Q (.ref z) H'
theorem cut_to (l : List Nat) (k : Nat) : cutV (iv l) none (some (k : Int)) = iv (l.take k) := by
  unfold cutV
  rw [HT.sIx_nat, HT.sIx_none, List.drop_zero, iv_len, Nat.sub_zero]
  unfold iv
  rw [List.map_take]
  by_cases h : k ≤ l.length
  · rw [Nat.min_eq_left h]
  · rw [Nat.min_eq_right (by omega), List.take_of_length_le (by rw [List.length_map]; exact Nat.le_refl _), List.take_of_length_le (by rw [List.length_map]; omega)]
theorem cut_on (l : List Nat) (k : Nat) : cutV (iv l) (some (k : Int)) none = iv (l.drop k) := by
  unfold cutV
  rw [HT.sIx_nat, HT.sIx_none, iv_len]
  unfold iv
  rw [List.map_drop]
  by_cases h : k ≤ l.length
  · rw [Nat.min_eq_left h, List.take_of_length_le (by rw [List.length_drop, List.length_map]; exact Nat.le_refl _)]
  · rw [Nat.min_eq_right (by omega), List.drop_eq_nil_of_le (by rw [List.length_map]; exact Nat.le_refl _), List.drop_eq_nil_of_le (by rw [List.length_map]; omega)]
    exact List.take_nil
theorem iv_mid (u v : List Nat) (n : Nat) : iv u ++ [V.int (n : Int)] ++ iv v = iv (u ++ n :: v) := by
  unfold iv
  rw [List.map_append, List.map_cons, List.append_assoc]; rfl
theorem index_at {K : PySem.W.Frag} {H : Hp} {pp z : Addr} {us : List V} {ps : List (Nat × Nat)} {a b j : Nat} {Q : VK} (hpp : H pp = some (.lst us)) (hps : PairsAt H us ps) (hz : H z = some (.tup (iv [a, b]))) (hj : ps[j]? = some (a, b)) (hmin : ∀ m : Nat, m < j → ps[m]? ≠ some (a, b))
    (q : Q (.int (j : Int)) H) : rIndexD K (.ref pp) [.ref z] H Q := by
  refine ⟨pp, .ref z, pairD (a, b), ps.map pairD, j, pairD (a, b), rfl, rfl, .lst (SqL.of hpp) (dp_pairs hps), .tup (SqT.of hz) (iv_dp [a, b]), shaped_pairs ps, shaped_pair (a, b), ?_, ?_, fun m z' hm hz' => ?_, q⟩
  · rw [List.getElem?_map, hj]; rfl
  · rw [eqv_pair]; exact decide_eq_true rfl
  · obtain ⟨p, hp, rfl⟩ := get_pairD hz'
    rw [eqv_pair]
    exact decide_eq_false fun e => hmin m hm (by rw [hp, e])
section
variable {P : Program} {w : World} {K : PySem.W.Frag} {mg : Str → Option Value} {base : Heap}
end
end RJ
end

section
set_option maxRecDepth 100000
set_option maxHeartbeats 8000000
namespace RJ
open PySem PySem.Spec PyProof.Rows L2
abbrev s_law : Stmt := top 63
abbrev N_law : List Str := ["script", "pool", "alphabet", "made", "joins", "text", "whole", "single", "told", "singly", "at", "k", "part", "due", "wrong", "j"]
theorem sc_law : FnScope N_law ["script"] (C8.fnScope s_law) := C8.fnScope_by (by decide +kernel)
/-! ### cutting keeps the text -/
end RJ
end

section
set_option maxRecDepth 100000
set_option maxHeartbeats 4000000
namespace RJ
open PySem PySem.Spec PyProof.Rows L2
open PySem.W (minD AlikeAll alike alikeAll dataLt)
abbrev s_Joins_rank_of : Stmt := inClass (top 28) 7
abbrev N_Joins_rank_of : List Str := ["self", "left", "right"]
theorem sc_Joins_rank_of : FnScope N_Joins_rank_of ["self", "left", "right"] (C8.fnScope s_Joins_rank_of) := C8.fnScope_by (by decide +kernel)
abbrev s_Joins_parts_of : Stmt := inClass (top 28) 6
abbrev N_Joins_parts_of : List Str := ["self", "piece"]
theorem sc_Joins_parts_of : FnScope N_Joins_parts_of ["self", "piece"] (C8.fnScope s_Joins_parts_of) := C8.fnScope_by (by decide +kernel)
abbrev s_spine : Stmt := top 30
abbrev N_spine : List Str := ["joins", "piece", "side", "steps", "parts", "left", "right"]
theorem sc_spine : FnScope N_spine ["joins", "piece", "side"] (C8.fnScope s_spine) := C8.fnScope_by (by decide +kernel)
abbrev s_right_spine : Stmt := top 31
abbrev N_right_spine : List Str := ["joins", "piece"]
theorem sc_right_spine : FnScope N_right_spine ["joins", "piece"] (C8.fnScope s_right_spine) := C8.fnScope_by (by decide +kernel)
abbrev s_left_spine : Stmt := top 32
abbrev N_left_spine : List Str := ["joins", "piece"]
theorem sc_left_spine : FnScope N_left_spine ["joins", "piece"] (C8.fnScope s_left_spine) := C8.fnScope_by (by decide +kernel)
abbrev s_is_ahead_in_left : Stmt := top 33
abbrev N_is_ahead_in_left : List Str := ["rank", "bound"]
theorem sc_is_ahead_in_left : FnScope N_is_ahead_in_left ["rank", "bound"] (C8.fnScope s_is_ahead_in_left) := C8.fnScope_by (by decide +kernel)
abbrev s_is_ahead_in_right : Stmt := top 34
abbrev N_is_ahead_in_right : List Str := ["rank", "bound"]
theorem sc_is_ahead_in_right : FnScope N_is_ahead_in_right ["rank", "bound"] (C8.fnScope s_is_ahead_in_right) := C8.fnScope_by (by decide +kernel)
/-- a bound -/
def bdV : Option Nat → V
  | none => .non
  | some k => .int (k : Int)
/-- the parts of x, or nothing -/
def PartAt (al : List Nat) (ps : List (Nat × Nat)) (x : Nat) (H : Hp) (v : V) : Prop := (v = .non ∧ x < al.length) ∨ ∃ j pr g, v = .ref g ∧ x = al.length + j ∧ ps[j]? = some pr ∧ H g = some (.tup (iv [pr.1, pr.2]))
def sp_partsG (C : Addr) : Sp := fun vs H Q _ => ∃ (p : Addr) (al : List Nat) (ps : List (Nat × Nat)) (x : Nat), vs = [.ref p, .int (x : Int)] ∧ JoinsAt C H p al ps ∧ al.length ≤ 1000 ∧ x < al.length + ps.length ∧
  ∀ v, PartAt al ps x H v → Q v H
def sp_rank (C : Addr) : Sp := fun vs H Q _ => ∃ (p : Addr) (al : List Nat) (ps : List (Nat × Nat)) (x y : Nat), vs = [.ref p, .int (x : Int), .int (y : Int)] ∧ JoinsAt C H p al ps ∧ x < al.length + ps.length ∧ y < al.length + ps.length ∧
  ∀ H', Same H H' → Q (bdV (if (x, y) ∈ ps then some (ps.idxOf (x, y)) else none)) H'
/-- an entry of a spine -/
def StepAt (H : Hp) (v : V) (e : Nat × Option Nat) : Prop := ∃ q, v = .ref q ∧ H q = some (.tup [.int (e.1 : Int), bdV e.2])
theorem StepAt.same {H H' : Hp} {v : V} {e : Nat × Option Nat} (s : SameT H H') (h : StepAt H v e) : StepAt H' v e := by
  obtain ⟨q, h1, h2⟩ := h
  exact ⟨q, h1, s _ _ h2⟩
def sdOf (k : Nat) : Nat × Nat → Nat := if k = 1 then Prod.snd else Prod.fst
theorem sdOf_side (k : Nat) : Side (sdOf k) := by
  unfold sdOf
  split
  · exact side2
  · exact side1
def sp_spine (C : Addr) : Sp := fun vs H Q _ => ∃ (p : Addr) (al : List Nat) (ps : List (Nat × Nat)) (x k : Nat), vs = [.ref p, .int (x : Int), .int (k : Int)] ∧ JoinsAt C H p al ps ∧ Proper al ps ∧ al.length ≤ 400 ∧ ps.length ≤ 400 ∧ x < al.length + ps.length ∧ k < 2 ∧
  ∀ H' q us es, Same H H' → H' q = some (.tup us) → Paired (StepAt H') us es → IsSpine al.length ps (sdOf k) x es → es.length ≤ 1000 → Q (.ref q) H'
def sp_rspine (k : Nat) (C : Addr) : Sp := fun vs H Q _ => ∃ (p : Addr) (al : List Nat) (ps : List (Nat × Nat)) (x : Nat), vs = [.ref p, .int (x : Int)] ∧ JoinsAt C H p al ps ∧ Proper al ps ∧ al.length ≤ 400 ∧ ps.length ≤ 400 ∧ x < al.length + ps.length ∧
  ∀ H' q us es, Same H H' → H' q = some (.tup us) → Paired (StepAt H') us es → IsSpine al.length ps (sdOf k) x es → es.length ≤ 1000 → Q (.ref q) H'
def sp_aheadL : Sp := fun vs H Q _ => ∃ (r : Nat) (bd : Option Nat), vs = [.int (r : Int), bdV bd] ∧ (∀ k : Bool, (k = true ↔ upTo (r + 1) bd) → Q (.bl k) H)
def sp_aheadR : Sp := fun vs H Q _ => ∃ (r : Nat) (bd : Option Nat), vs = [.int (r : Int), bdV bd] ∧ (∀ k : Bool, (k = true ↔ upTo r bd) → Q (.bl k) H)
def sp_time : Sp := fun vs H Q _ => ∃ (r : Nat) (bl br : Option Nat), vs = [.int (r : Int), bdV bl, bdV br] ∧ (∀ k : Bool, (k = true ↔ upTo (r + 1) bl ∧ upTo r br) → Q (.bl k) H)
def sp_crossing (C : Addr) : Sp := fun vs H Q _ => ∃ (p : Addr) (al : List Nat) (ps : List (Nat × Nat)) (x y : Nat), vs = [.ref p, .int (x : Int), .int (y : Int)] ∧ JoinsAt C H p al ps ∧ Proper al ps ∧ al.length ≤ 400 ∧ ps.length ≤ 400 ∧ x < al.length + ps.length ∧ y < al.length + ps.length ∧
  ∀ H' c, Same H H' → CrossIs al.length ps x y c → Q (bdV c) H'
def sp_sides (C : Addr) : Sp := fun vs H Q _ => ∃ (p : Addr) (al : List Nat) (ps : List (Nat × Nat)) (x y : Nat), vs = [.ref p, .int (x : Int), .int (y : Int)] ∧ JoinsAt C H p al ps ∧ Proper al ps ∧ al.length ≤ 400 ∧ ps.length ≤ 400 ∧ x < al.length + ps.length ∧ y < al.length + ps.length ∧
  ∀ H' c, Same H H' → CrossIs al.length ps x y c → Q (.bl c.isNone) H'
theorem bdV_none {c : Option Nat} : decide (bdV c = V.non) = c.isNone := by
  cases c with
  | none => exact decide_eq_true rfl
  | some k => exact decide_eq_false (by intro h; cases h)
section
variable {P : Program} {w : World} {K : PySem.W.Frag} {mg : Str → Option Value} {base : Heap}
theorem ok_partsG {f C : Addr} {fd : FuncData} (F : C8.Fun K "parts_of" "Joins.parts_of" s_Joins_parts_of f fd) (T : Txt K mg) (J : JTxt K C) (m_check_piece : C8.Met P w K mg base 4 C "check_piece" (sp_check_piece C) []) : FnOk P w K mg base C8.CX0 5 f fd ["self", "piece"] (sp_partsG C) := by
  refine C8.fn0 F sc_Joins_parts_of (fun vs H Q E h => ?_) (fun cdv A outer s H vs Q E hr h => ?_)
  · obtain ⟨p, al, ps, x, rfl, _⟩ := h; rfl
  · obtain ⟨p, al, ps, x, rfl, hj, hal, hx, q⟩ := h
    obtain ⟨dx, t, tx, d, e, ws, h1, h2, h3, h4, h5, h6⟩ := id hj
    refine ⟨_, (pss_cons (ps_expr (C8.pe_mt m_check_piece hr (by first | decide | omega) (pv 0) (pa_cons (pv 1) pa_nil)))
      (pss_cons (ps_if (pt_cmpR op_lt (pv 1) (pe_callB call_len_str (by rfl) T.b_len PySem.boot_len (pa_cons (pe_fld (pv 0) rfl) pa_nil)) (nomark _)) (pss_one (ps_ret pe_non)) pss_nil)
      (pss_one (ps_ret (pe_ix ix_tup (pe_fld (pv 0) rfl) (pe_op op_sub (pv 1) (pe_callB call_len_str (by rfl) T.b_len PySem.boot_len (pa_cons (pe_fld (pv 0) rfl) pa_nil))) (fun _ _ => rfl)))))), ?_⟩
    refine ⟨_, rfl, p, dx, _, rfl, h1, f5_no al t tx d e (by decide +kernel) (by decide +kernel) (by decide +kernel) (by decide +kernel) (by decide +kernel), _, rfl, p, x, al, ps, rfl, hj, by omega, ?_⟩
    refine ⟨_, rfl, _, rfl, p, C, dx, _, _, rfl, h1, J.cl, J.n1, f5_alphabet al t tx d e, S al, rfl, by rw [S_len]; exact small_le hal, _, _, rfl, rfl, _, rfl, ?_⟩
    rw [S_len]
    by_cases c : x < al.length
    · rw [decide_eq_true (by omega : (x : Int) < (al.length : Int))]
      exact iteT (q _ (.inl ⟨rfl, c⟩))
    · rw [decide_eq_false (by omega : ¬ (x : Int) < (al.length : Int))]
      obtain ⟨j, rfl⟩ : ∃ j, x = al.length + j := ⟨x - al.length, by omega⟩
      obtain ⟨pr, hpr⟩ : ∃ pr, ps[j]? = some pr := ⟨_, List.getElem?_eq_getElem (by omega)⟩
      obtain ⟨u, hu, g, rfl, hg⟩ := Paired.at2 h3 hpr
      refine iteF ⟨_, rfl, p, C, dx, _, _, rfl, h1, J.cl, J.n2, f5_pairs al t tx d e, _, rfl, _, rfl, p, C, dx, _, _, rfl, h1, J.cl, J.n1, f5_alphabet al t tx d e, S al, rfl, by rw [S_len]; exact small_le hal, _, _, rfl, rfl, t, _, _, _, rfl, rfl, SqT.of h2, ?_, q _ (.inr ⟨j, pr, g, rfl, rfl, hpr, hg⟩)⟩
      rw [S_len, show ((al.length + j : Nat) : Int) - (al.length : Int) = (j : Int) by omega]
      exact atI_nat hu
theorem ok_rank {f C : Addr} {fd : FuncData} (F : C8.Fun K "rank_of" "Joins.rank_of" s_Joins_rank_of f fd) (T : Txt K mg) (J : JTxt K C) (m_check_piece : C8.Met P w K mg base 4 C "check_piece" (sp_check_piece C) []) : FnOk P w K mg base C8.CX0 5 f fd ["self", "left", "right"] (sp_rank C) := by
  refine C8.fn0 F sc_Joins_rank_of (fun vs H Q E h => ?_) (fun cdv A outer s H vs Q E hr h => ?_)
  · obtain ⟨p, al, ps, x, y, rfl, _⟩ := h; rfl
  · obtain ⟨p, al, ps, x, y, rfl, hj, hx, hy, q⟩ := h
    have hu := hu_of hr
    obtain ⟨dx, t, tx, d, e, ws, h1, h2, h3, h4, h5, h6⟩ := id hj
    refine ⟨_, (pss_cons (ps_expr (C8.pe_mt m_check_piece hr (by first | decide | omega) (pv 0) (pa_cons (pv 1) pa_nil)))
      (pss_cons (ps_expr (C8.pe_mt m_check_piece hr (by first | decide | omega) (pv 0) (pa_cons (pv 2) pa_nil)))
      (pss_one (ps_ret (pe_dget1 hu (pe_fld (pv 0) rfl) (pe_tup (pa_cons (pv 1) (pa_cons (pv 2) pa_nil))) ⟨by rfl, by rfl, by rfl, by rfl⟩))))), ?_⟩
    refine ⟨_, rfl, p, dx, _, rfl, h1, f5_no al t tx d e (by decide +kernel) (by decide +kernel) (by decide +kernel) (by decide +kernel) (by decide +kernel), _, rfl, p, x, al, ps, rfl, hj, hx, ?_⟩
    refine ⟨_, rfl, p, dx, _, rfl, h1, f5_no al t tx d e (by decide +kernel) (by decide +kernel) (by decide +kernel) (by decide +kernel) (by decide +kernel), _, rfl, p, y, al, ps, rfl, hj, hy, ?_⟩
    refine ⟨_, rfl, p, C, dx, _, _, rfl, h1, J.cl, J.n4, f5_ranks al t tx d e, d, rfl, .inr ⟨_, .inl h5⟩, _, rfl, _, rfl, by show 2 ≤ sizeLine; decide, fun z hz => ?_⟩
    have hg : DGet (upd H z (.tup [.int (x : Int), .int (y : Int)])) d (.ref z) (if (x, y) ∈ ps then some (V.int ((0 + ps.idxOf (x, y) : Nat) : Int)) else none) := by
      rw [← kvsF_get]
      exact DGet.t (k := pkey (x, y)) (same_new hz _ _ h5) upd_same
    refine ⟨_, hg, ?_⟩
    have := q _ (same_new (o := .tup [.int (x : Int), .int (y : Int)]) hz)
    by_cases c : (x, y) ∈ ps
    · rw [if_pos c] at this ⊢
      rw [Nat.zero_add]; exact this
    · rw [if_neg c] at this ⊢
      exact this
theorem ok_spine {f C : Addr} {fd : FuncData} (F : C8.Fun K "spine" "spine" s_spine f fd) (T : Txt K mg) (J : JTxt K C) (m_parts_of : C8.Met P w K mg base 5 C "parts_of" (sp_partsG C) []) (m_rank_of : C8.Met P w K mg base 5 C "rank_of" (sp_rank C) []) : FnOk P w K mg base C8.CX0 6 f fd ["joins", "piece", "side"] (sp_spine C) := by
  refine C8.fn0 F sc_spine (fun vs H Q E h => ?_) (fun cdv A outer s H vs Q E hr h => ?_)
  · obtain ⟨p, al, ps, x, k, rfl, _⟩ := h; rfl
  · obtain ⟨p, al, ps, x, k, rfl, hj, hprop, hal, hpl, hx, hk, q⟩ := h
    have hw := hprop.wf
    have met : ∀ H', Same H H' → ∃ dx fs, H' p = some (.ins C dx fs) ∧ fs.lookup ("parts_of" : Str) = none ∧ fs.lookup ("rank_of" : Str) = none := fun H' s' => by
      obtain ⟨dx, t, tx, d, e, ws, h1, _⟩ := hj.same s'
      exact ⟨dx, _, h1, f5_no al t tx d e (by decide +kernel) (by decide +kernel) (by decide +kernel) (by decide +kernel) (by decide +kernel), f5_no al t tx d e (by decide +kernel) (by decide +kernel) (by decide +kernel) (by decide +kernel) (by decide +kernel)⟩
    refine ⟨_, (pss_cons (ps_set (i := 3) sc_spine.nd rfl (Or.inl rfl) (pe_lst (pa_cons (pe_tup (pa_cons (pv 1) (pa_cons pe_non pa_nil))) pa_nil)))
      (pss_cons (ps_set (i := 4) sc_spine.nd rfl (Or.inl rfl) (C8.pe_mt m_parts_of hr (by first | decide | omega) (pv 0) (pa_cons (pv 1) pa_nil)))
      (pss_cons (ps_while PassesOwn.never (pt_cmpR op_notN (pv 4) pe_non (nomark _)) (pss_cons (ps_asg (pv 4) (pg_tup rfl (pgs_cons (pg_name (i := 5) sc_spine.nd rfl (Or.inl rfl)) (pgs_cons (pg_name (i := 6) sc_spine.nd rfl (Or.inl rfl)) pgs_nil))))
      (pss_cons (ps_expr (pe_bm PySem.F.plainAttrs_list PySem.F.slot_list_append PySem.F.type_list_append mt_append (pv 3) (pa_cons (pe_tup (pa_cons (pe_ix ix_tup (pv 4) (pv 2) (fun _ _ => rfl)) (pa_cons (C8.pe_mt m_rank_of hr (by first | decide | omega) (pv 0) (pa_cons (pv 5) (pa_cons (pv 6) pa_nil))) pa_nil))) pa_nil)))
      (pss_one (ps_set (i := 4) sc_spine.nd rfl (Or.inl rfl) (C8.pe_mt m_parts_of hr (by first | decide | omega) (pv 0) (pa_cons (pe_ix ix_tup (pv 4) (pv 2) (fun _ _ => rfl)) pa_nil)))))))
      (pss_one (ps_ret (pe_tupleOf (by rfl) T.b_tuple (pv 3))))))), ?_⟩
    refine ⟨_, rfl, by show 2 ≤ sizeLine; decide, fun z hz => ⟨by show 1 ≤ sizeLine; decide, fun D hD => ?_⟩⟩
    have s0 : Same H (upd (upd H z (.tup [.int (x : Int), .non])) D (.lst [.ref z])) := Same.new (same_new hz) hD
    have hD0 : H D = none := (same_new hz).free hD
    have hz0 : (upd (upd H z (.tup [.int (x : Int), .non])) D (.lst [.ref z])) z = some (.tup [.int (x : Int), .non]) := (upd_ne (ne_of_none upd_same hD)).trans upd_same
    obtain ⟨dx0, fs0, i1, i2, i3⟩ := met _ s0
    refine ⟨_, rfl, p, dx0, fs0, rfl, i1, i2, _, rfl, p, al, ps, x, rfl, hj.same s0, by omega, hx, fun v hv => ?_⟩
    refine ⟨fun m σ H' => ∃ (y : Nat) (v : V) (v5 v6 : Option V) (us : List V) (es : List (Nat × Option Nat)), σ = [some (.ref p), some (.int (x : Int)), some (.int (k : Int)), some (.ref D), some v, v5, v6] ∧ Same H H' ∧ H' D = some (.lst us) ∧ Paired (StepAt H') us es ∧ IsSpineTo al.length ps (sdOf k) x es y ∧ y < al.length + ps.length ∧ es.length + y ≤ x + 1 ∧ PartAt al ps y H' v ∧ m = y,
      ⟨x, x, v, none, none, _, _, rfl, s0, upd_same, .cons ⟨z, rfl, hz0⟩ .nil, IsSpineTo.start x, hx, by show 1 + x ≤ x + 1; omega, hv, rfl⟩, ?_⟩
    rintro m σ H2 ⟨y, v, v5, v6, us, es, rfl, s2, hD2, hus, hsp, hy, hle, hv, rfl⟩
    refine ⟨_, rfl, rfl, _, rfl, ?_⟩
    rcases hv with ⟨rfl, hlow⟩ | ⟨j, pr, g, rfl, rfl, hpr, hg⟩
    · refine iteF ⟨_, rfl, .inl ⟨D, us, rfl, SqL.of hD2, fun t ht => ?_⟩⟩
      exact q _ t us es (Same.new s2 ht) upd_same (Paired.mapP hus fun _ _ h => StepAt.same (Same.t (same_new ht)) h) (hsp.done hlow) (by omega)
    · refine iteT ?_
      have hj' := hw j pr hpr
      refine ⟨fun σ' H' => ∃ m', m' < al.length + j ∧ ∃ (y : Nat) (v : V) (v5 v6 : Option V) (us : List V) (es : List (Nat × Option Nat)), σ' = [some (.ref p), some (.int (x : Int)), some (.int (k : Int)), some (.ref D), some v, v5, v6] ∧ Same H H' ∧ H' D = some (.lst us) ∧ Paired (StepAt H') us es ∧ IsSpineTo al.length ps (sdOf k) x es y ∧ y < al.length + ps.length ∧ es.length + y ≤ x + 1 ∧ PartAt al ps y H' v ∧ m' = y, fun σ' H' z => z, ?_⟩
      have hsd : atI [V.int (pr.1 : Int), V.int (pr.2 : Int)] (k : Int) = some (V.int (sdOf k pr : Int)) := by
        have : k = 0 ∨ k = 1 := by omega
        rcases this with rfl | rfl <;> rfl
      have hlt : sdOf k pr < al.length + j := by rcases sdOf_side k pr with e | e <;> rw [e] <;> omega
      have hul : us.length = es.length := hus.length
      obtain ⟨dx1, fs1, j1, j2, j3⟩ := met _ s2
      refine ⟨_, rfl, g, _, rfl, SqT.of hg, rfl, _, _, rfl, _, _, rfl, rfl, ?_⟩
      refine ⟨_, rfl, .inl ⟨rfl, _, SqL.of hD2⟩, _, rfl, _, rfl, g, _, _, _, rfl, rfl, SqT.of hg, hsd, _, rfl, p, dx1, fs1, rfl, j1, j3, _, rfl, _, rfl, p, al, ps, pr.1, pr.2, rfl, hj.same s2, by omega, by omega, fun H3 s3 => ?_⟩
      rw [if_pos (List.mem_of_getElem? hpr), hprop.idx hpr]
      refine ⟨by show 2 ≤ sizeLine; decide, fun t ht => ?_⟩
      have s4 : Same H2 (upd H3 t (.tup [.int (sdOf k pr : Int), .int (j : Int)])) := Same.new s3 ht
      have hD4 := s4 _ _ hD2
      refine ⟨D, us, _, rfl, rfl, hD4, small1000 (by omega), ?_⟩
      have sT : SameT (upd H3 t (.tup [.int (sdOf k pr : Int), .int (j : Int)])) (upd (upd H3 t (.tup [.int (sdOf k pr : Int), .int (j : Int)])) D (.lst (us ++ [.ref t]))) := SameT.put hD4
      have s5 : Same H (upd (upd H3 t (.tup [.int (sdOf k pr : Int), .int (j : Int)])) D (.lst (us ++ [.ref t]))) := Same.put (s2.trans s4) hD0
      obtain ⟨dx2, fs2, l1, l2, _⟩ := met _ s5
      have hg5 := sT _ _ (s4 _ _ hg)
      refine ⟨_, rfl, p, dx2, fs2, rfl, l1, l2, _, rfl, _, rfl, g, _, _, _, rfl, rfl, SqT.of hg5, hsd, p, al, ps, sdOf k pr, rfl, hj.same s5, by omega, by omega, fun v' hv' => ?_⟩
      refine ⟨_, hlt, _, v', _, _, us ++ [.ref t], es ++ [(sdOf k pr, some j)], rfl, s5, upd_same, Paired.snoc ⟨t, rfl, sT _ _ upd_same⟩ (Paired.mapP hus fun _ _ h => StepAt.same sT (StepAt.same (Same.t s4) h)), hsp.next hpr, by omega, ?_, hv', rfl⟩
      rw [List.length_append, List.length_singleton]; omega
theorem ok_rspine {f C : Addr} {fd : FuncData} (F : C8.Fun K "right_spine" "right_spine" s_right_spine f fd) (T : Txt K mg) (J : JTxt K C) (c_spine : C8.Cal P w K mg base 6 "spine" (sp_spine C) []) : FnOk P w K mg base C8.CX0 7 f fd ["joins", "piece"] (sp_rspine 1 C) := by
  refine C8.fn0 F sc_right_spine (fun vs H Q E h => ?_) (fun cdv A outer s H vs Q E hr h => ?_)
  · obtain ⟨p, al, ps, x, rfl, _⟩ := h; rfl
  · obtain ⟨p, al, ps, x, rfl, hj, hprop, hal, hpl, hx, q⟩ := h
    refine ⟨_, (pss_one (ps_ret (C8.pe_c c_spine hr (by first | decide | omega) (by rfl) (pa_cons (pv 0) (pa_cons (pv 1) (pa_cons pe_int pa_nil)))))), ?_⟩
    exact ⟨_, rfl, _, rfl, p, al, ps, x, 1, rfl, hj, hprop, hal, hpl, hx, by decide, q⟩
theorem ok_lspine {f C : Addr} {fd : FuncData} (F : C8.Fun K "left_spine" "left_spine" s_left_spine f fd) (T : Txt K mg) (J : JTxt K C) (c_spine : C8.Cal P w K mg base 6 "spine" (sp_spine C) []) : FnOk P w K mg base C8.CX0 7 f fd ["joins", "piece"] (sp_rspine 0 C) := by
  refine C8.fn0 F sc_left_spine (fun vs H Q E h => ?_) (fun cdv A outer s H vs Q E hr h => ?_)
  · obtain ⟨p, al, ps, x, rfl, _⟩ := h; rfl
  · obtain ⟨p, al, ps, x, rfl, hj, hprop, hal, hpl, hx, q⟩ := h
    refine ⟨_, (pss_one (ps_ret (C8.pe_c c_spine hr (by first | decide | omega) (by rfl) (pa_cons (pv 0) (pa_cons (pv 1) (pa_cons pe_int pa_nil)))))), ?_⟩
    exact ⟨_, rfl, _, rfl, p, al, ps, x, 0, rfl, hj, hprop, hal, hpl, hx, by decide, q⟩
theorem ok_aheadL {f : Addr} {fd : FuncData} (F : C8.Fun K "is_ahead_in_left" "is_ahead_in_left" s_is_ahead_in_left f fd) (T : Txt K mg) : FnOk P w K mg base C8.CX0 1 f fd ["rank", "bound"] sp_aheadL := by
  refine C8.fn0 F sc_is_ahead_in_left (fun vs H Q E h => ?_) (fun cdv A outer s H vs Q E hr h => ?_)
  · obtain ⟨r, bd, rfl, _⟩ := h; rfl
  · obtain ⟨r, bd, rfl, q⟩ := h
    refine ⟨_, (pss_one (ps_ret (pe_or (pe_cmpR op_isN (pv 1) pe_non (nomark _)) (pe_one (pe_cmpR op_lt (pv 0) (pv 1) (nomark _)))))), ?_⟩
    cases bd with
    | none => exact ⟨_, rfl, rfl, _, rfl, iteT (q true ⟨(fun _ k e => by cases e), fun _ => rfl⟩)⟩
    | some k =>
      refine ⟨_, rfl, rfl, _, rfl, iteF ⟨_, rfl, _, rfl, _, _, rfl, rfl, q _ ?_⟩⟩
      rw [decide_eq_true_eq]
      exact ⟨fun h j e => by cases e; omega, fun h => by have := h k rfl; omega⟩
theorem ok_aheadR {f : Addr} {fd : FuncData} (F : C8.Fun K "is_ahead_in_right" "is_ahead_in_right" s_is_ahead_in_right f fd) (T : Txt K mg) : FnOk P w K mg base C8.CX0 1 f fd ["rank", "bound"] sp_aheadR := by
  refine C8.fn0 F sc_is_ahead_in_right (fun vs H Q E h => ?_) (fun cdv A outer s H vs Q E hr h => ?_)
  · obtain ⟨r, bd, rfl, _⟩ := h; rfl
  · obtain ⟨r, bd, rfl, q⟩ := h
    refine ⟨_, (pss_one (ps_ret (pe_or (pe_cmpR op_isN (pv 1) pe_non (nomark _)) (pe_one (pe_cmpR op_le (pv 0) (pv 1) (nomark _)))))), ?_⟩
    cases bd with
    | none => exact ⟨_, rfl, rfl, _, rfl, iteT (q true ⟨(fun _ k e => by cases e), fun _ => rfl⟩)⟩
    | some k =>
      refine ⟨_, rfl, rfl, _, rfl, iteF ⟨_, rfl, _, rfl, _, _, rfl, rfl, q _ ?_⟩⟩
      rw [decide_eq_true_eq]
      exact ⟨fun h j e => by cases e; omega, fun h => by have := h k rfl; omega⟩
end
end RJ
end

section
set_option maxRecDepth 100000
set_option maxHeartbeats 4000000
namespace RJ
open PySem PySem.Spec PyProof.Rows L2
open PySem.W (minD AlikeAll alike alikeAll dataLt)
def rkI : PyData → Int
  | .int r => r
  | _ => 0
theorem ints_alike (ts : List Nat) : AlikeAll (ts.map fun (n : Nat) => PyData.int (n : Int)) := by
  refine ⟨fun x hx y hy => ?_, fun x hx e => ?_⟩
  · obtain ⟨a, _, rfl⟩ := List.mem_map.mp hx
    obtain ⟨b, _, rfl⟩ := List.mem_map.mp hy
    simp [alike]
  · obtain ⟨a, _, rfl⟩ := List.mem_map.mp hx
    cases e
theorem ints_depth : ∀ ts : List Nat, PyData.depthAll (ts.map fun (n : Nat) => PyData.int (n : Int)) ≤ 60
  | [] => by simp [PyData.depthAll]
  | t :: ts => by
    have ih := ints_depth ts
    rw [List.map_cons, PyData.depthAll]
    exact Nat.max_le.mpr ⟨by simp [PyData.depth], ih⟩
/-- min of a list of numbers, None of none -/
theorem minD_row {K : PySem.W.Frag} {H : Hp} {D : Addr} {R : List Nat} {Q : VK} (hD : H D = some (.lst (iv R))) (q0 : R = [] → Q .non H) (q1 : ∀ n, n ∈ R → (∀ m ∈ R, n ≤ m) → Q (.int (n : Int)) H) : rMinD K [.ref D] [.non] H Q := by
  refine ⟨D, iv R, R.map fun (n : Nat) => PyData.int (n : Int), rfl, rfl, hD, iv_dp R, ints_alike R, ints_depth R, fun e => q0 (List.map_eq_nil_iff.mp e), fun d ds i x e hx hmin => ?_⟩
  obtain ⟨n, hn, rfl⟩ := iv_get hx
  refine q1 n (List.mem_of_getElem? hn) fun m hmR => ?_
  have hget : (R.map fun (n : Nat) => PyData.int (n : Int))[i]? = some (.int (n : Int)) := by rw [List.getElem?_map, hn]; rfl
  rw [hget] at hmin
  have hmin' := (Option.some.inj hmin).symm
  have hle := minD_le (rk := rkI) (Ok := fun d => ∃ x : Nat, d = .int (x : Int)) (fun x y ⟨a, ha⟩ ⟨b, hb⟩ h => by
      subst ha hb
      rw [PySem.W.dataLt_int] at h
      have := of_decide_eq_true h
      exact Int.le_of_lt this) (fun x y ⟨a, ha⟩ ⟨b, hb⟩ h => by
      subst ha hb
      rw [PySem.W.dataLt_int] at h
      have := of_decide_eq_false h
      exact Int.not_lt.mp this) ds d
    (fun z hz => by rw [← e] at hz; obtain ⟨a, _, rfl⟩ := List.mem_map.mp hz; exact ⟨a, rfl⟩)
    (.int (m : Int)) (by rw [← e]; exact List.mem_map.mpr ⟨m, hmR, rfl⟩)
  rw [hmin'] at hle
  have hle' : (n : Int) ≤ (m : Int) := hle
  omega
theorem lt_million {n : Nat} (h : n ≤ 1000000) : n < sizeLine := Nat.lt_of_le_of_lt h (by decide)
section
variable {P : Program} {w : World} {K : PySem.W.Frag} {mg : Str → Option Value} {base : Heap}
end
end RJ
end

section
set_option maxRecDepth 100000
set_option maxHeartbeats 4000000
namespace RJ
open PySem PySem.Spec PyProof.Rows L2
abbrev s__law_pool : Stmt := top 49
abbrev N__law_pool : List Str := ["script", "many", "pool", "total", "cell", "rest", "k", "first", "second"]
theorem sc__law_pool : FnScope N__law_pool ["script", "many"] (C8.fnScope s__law_pool) := C8.fnScope_by (by decide +kernel)
abbrev s__law_draw : Stmt := top 50
abbrev N__law_draw : List Str := ["pool", "many"]
theorem sc__law_draw : FnScope N__law_draw ["pool", "many"] (C8.fnScope s__law_draw) := C8.fnScope_by (by decide +kernel)
abbrev s__law_alphabet : Stmt := top 51
abbrev N__law_alphabet : List Str := ["pool", "signs", "chosen", "k"]
theorem sc__law_alphabet : FnScope N__law_alphabet ["pool"] (C8.fnScope s__law_alphabet) := C8.fnScope_by (by decide +kernel)
/-! ### the pool -/
def PoolAt (p : Addr) (H : Hp) : Prop := ∃ ns : List Nat, H p = some (.lst (iv ns)) ∧ ns.length ≤ 1000
/-- all as it was but the pool -/
structure PSame (p : Addr) (H H' : Hp) : Prop where
  x : SameX p H H'
  at0 : PoolAt p H
  at1 : PoolAt p H'
section pool
variable {p : Addr}
theorem PSame.refl {H : Hp} (h : PoolAt p H) : PSame p H H := ⟨fun _ _ _ e => e, h, h⟩
theorem PSame.trans {H H1 H2 : Hp} (s : PSame p H H1) (u : PSame p H1 H2) : PSame p H H2 := ⟨fun b o h e => u.x b o h (s.x b o h e), s.at0, u.at1⟩
theorem PoolAt.same {H H' : Hp} (h : PoolAt p H) (s : Same H H') : PoolAt p H' := by
  obtain ⟨ns, h1, h2⟩ := h
  exact ⟨ns, s _ _ h1, h2⟩
theorem PSame.of {H H' : Hp} (h : PoolAt p H) (s : Same H H') : PSame p H H' := ⟨Same.x s, h, h.same s⟩
theorem PSame.then {H H1 H2 : Hp} (s : PSame p H H1) (u : Same H1 H2) : PSame p H H2 := s.trans (PSame.of s.at1 u)
theorem PSame.new {q : Addr} {H H1 : Hp} {o : HO} (s : PSame p H H1) (h : H1 q = none) : PSame p H (upd H1 q o) := s.then (same_new h)
theorem PoolAt.free {H : Hp} {q : Addr} (h : PoolAt p H) (hq : H q = none) : q ≠ p := by
  obtain ⟨ns, h1, _⟩ := h
  exact Ne.symm (ne_of_none h1 hq)
theorem PoolAt.put {H : Hp} {q : Addr} {o : HO} (h : PoolAt p H) (h1 : q ≠ p) : PoolAt p (upd H q o) := by
  obtain ⟨ns, e1, e2⟩ := h
  exact ⟨ns, (upd_ne (Ne.symm h1)).trans e1, e2⟩
/-- what is written where nothing stood, is kept out -/
theorem PSame.put {q : Addr} {H H1 : Hp} {o : HO} (s : PSame p H H1) (h : H q = none) : PSame p H (upd H1 q o) :=
  ⟨fun b u hb e => by rw [upd_ne (ne_of_none e h)]; exact s.x b u hb e, s.at0, s.at1.put (s.at0.free h)⟩
theorem PSame.none {q : Addr} {H H1 : Hp} (s : PSame p H H1) (h : H1 q = none) : H q = none := by
  have hne := s.at1.free h
  cases e : H q with
  | none => rfl
  | some o => rw [s.x q o hne e] at h; cases h
theorem PSame.lst {b : Addr} {H H' : Hp} {xs : List V} (s : PSame p H H') (hb : b ≠ p) (e : H b = some (.lst xs)) : H' b = some (.lst xs) := s.x b _ hb e
theorem PSame.tup {b : Addr} {H H' : Hp} {xs : List V} (s : PSame p H H') (e : H b = some (.tup xs)) : H' b = some (.tup xs) := by
  obtain ⟨ns, h1, _⟩ := s.at0
  exact s.x b _ (ne_of e h1 (fun z => by cases z)) e
theorem PSame.tt {H H' : Hp} (s : PSame p H H') : SameT H H' := fun b xs e => s.tup e
theorem JoinsAt.pool {C y : Addr} {H H' : Hp} {al : List Nat} {ps : List (Nat × Nat)} (h : JoinsAt C H y al ps) (s : PSame p H H') (hal : 0 < al.length) : JoinsAt C H' y al ps := by
  obtain ⟨dx, u, tx, d, e, ws, h1, h2, h3, h4, h5, h6⟩ := h
  obtain ⟨ns, e1, _⟩ := s.at0
  refine ⟨dx, u, tx, d, e, ws, s.x _ _ (ne_of h1 e1 (fun z => by cases z)) h1, s.tup h2, h3.same s.tt, s.x _ _ ?_ h4, s.x _ _ (ne_of h5 e1 (fun z => by cases z)) h5, s.x _ _ (ne_of h6 e1 (fun z => by cases z)) h6⟩
  rintro rfl
  rw [e1] at h4
  have hT : 0 < (textsOf al ps).length := by rw [textsOf_len]; omega
  cases hts : textsOf al ps with
  | nil => rw [hts] at hT; exact absurd hT (Nat.lt_irrefl _)
  | cons a b =>
    rw [hts] at h4
    have e2 : iv ns = strV (a :: b) := by injection h4 with h; injection h
    cases ns with
    | nil => cases e2
    | cons n ns =>
      have e3 : V.int (n : Int) = V.str (S a) := (List.cons.inj e2).1
      cases e3
end pool
def sp_pool (K : PySem.W.Frag) : Sp := fun vs H Q _ => ∃ (a : Addr) (zs : List Int) (m : Nat), vs = [.ref a, .int (m : Int)] ∧ SqL K H a (zs.map V.int) ∧ zs.length ≤ 63 ∧ m ≤ 1000 ∧ ∀ H' p, Same H H' → H p = none → PoolAt p H' → Q (.ref p) H'
def sp_drawB : Sp := fun vs H Q _ => ∃ (p : Addr) (m : Int), vs = [.ref p, .int m] ∧ PoolAt p H ∧ 0 < m ∧ ∀ (H' : Hp) (r : Nat), PSame p H H' → (r : Int) < m → Q (.int (r : Int)) H'
def sp_alphabetB : Sp := fun vs H Q _ => ∃ p : Addr, vs = [.ref p] ∧ PoolAt p H ∧
  ∀ H' al, PSame p H H' → alOk al = true → al.Nodup → 1 ≤ al.length → al.length ≤ 30 → (∀ c ∈ al, c ∈ SG) → Q (.str (S al)) H'
section
variable {P : Program} {w : World} {K : PySem.W.Frag} {mg : Str → Option Value} {base : Heap}
theorem ok_pool {f : Addr} {fd : FuncData} (F : C8.Fun K "_law_pool" "_law_pool" s__law_pool f fd) (T : Txt K mg) : FnOk P w K mg base C8.CX0 1 f fd ["script", "many"] (sp_pool K) := by
  refine C8.fn0 F sc__law_pool (fun vs H Q E h => ?_) (fun cdv A outer s H vs Q E hr h => ?_)
  · obtain ⟨a, zs, m, rfl, _⟩ := h; rfl
  · obtain ⟨a, zs, m, rfl, hS, hz, hm, q⟩ := h
    refine ⟨_, (pss_cons (ps_set (i := 2) sc__law_pool.nd rfl (Or.inl rfl) (pe_lst pa_nil))
      (pss_cons (ps_set (i := 3) sc__law_pool.nd rfl (Or.inl rfl) pe_int)
      (pss_cons (ps_for PassesOwn.never rfl (pi_list (pv 0)) (pg_name (i := 4) sc__law_pool.nd rfl (Or.inl rfl)) (pss_cons (ps_set (i := 5) sc__law_pool.nd rfl (Or.inl rfl) (pe_callTy call_int1 (by rfl) T.b_int (by decide +kernel) (pa_cons (pe_callB call_abs (by rfl) T.b_abs (by decide +kernel) (pa_cons (pv 4) pa_nil)) pa_nil)))
      (pss_cons (ps_if (pt_cmpR op_ge (pv 5) (pe_op op_pow pe_int pe_int) (nomark _)) (pss_one (ps_for PassesOwn.never rfl (pi_range1 rfl T.b_range (pa_cons (pe_callB (call_min2 rfl) (by rfl) T.b_min (by decide +kernel) (pa_cons pe_int (pa_cons (pe_op op_sub (pv 1) (pe_callB call_len_seq (by rfl) T.b_len PySem.boot_len (pa_cons (pv 2) pa_nil))) pa_nil))) pa_nil)) (pg_name (i := 6) sc__law_pool.nd rfl (Or.inl rfl)) (pss_cons (ps_expr (pe_bm PySem.F.plainAttrs_list PySem.F.slot_list_append PySem.F.type_list_append mt_append (pv 2) (pa_cons (pe_op op_mod (pe_callTy call_int1 (by rfl) T.b_int (by decide +kernel) (pa_cons (pv 5) pa_nil)) pe_int) pa_nil)))
      (pss_cons (ps_set (i := 5) sc__law_pool.nd rfl (Or.inl rfl) (pe_op op_fdiv (pv 5) pe_int))
      (pss_one (ps_if (pt_cmpR op_eq (pv 5) pe_int (nomark _)) (pss_one ps_break) pss_nil)))))) (pss_cons (ps_set (i := 7) sc__law_pool.nd rfl (Or.inl rfl) (pe_op op_mod (pe_callTy call_int1 (by rfl) T.b_int (by decide +kernel) (pa_cons (pe_op op_add (pe_op op_add (pe_op op_mul (pv 4) pe_int) (pe_op op_mul (pe_callB call_len_seq (by rfl) T.b_len PySem.boot_len (pa_cons (pv 2) pa_nil)) pe_int)) pe_int) pa_nil)) pe_int))
      (pss_cons (ps_set (i := 8) sc__law_pool.nd rfl (Or.inl rfl) (pe_op op_mod (pe_callTy call_int1 (by rfl) T.b_int (by decide +kernel) (pa_cons (pe_op op_add (pe_op op_mul (pv 7) (pv 7)) pe_int) pa_nil)) pe_int))
      (pss_cons (ps_expr (pe_bm PySem.F.plainAttrs_list PySem.F.slot_list_append PySem.F.type_list_append mt_append (pv 2) (pa_cons (pe_op op_mod (pe_callTy call_int1 (by rfl) T.b_int (by decide +kernel) (pa_cons (pe_op op_fdiv (pv 8) pe_int) pa_nil)) pe_int) pa_nil)))
      (pss_one (ps_expr (pe_bm PySem.F.plainAttrs_list PySem.F.slot_list_append PySem.F.type_list_append mt_append (pv 2) (pa_cons (pe_op op_mod (pe_op op_mod (pe_callTy call_int1 (by rfl) T.b_int (by decide +kernel) (pa_cons (pe_op op_add (pe_op op_mul (pv 8) pe_int) (pv 7)) pa_nil)) pe_int) pe_int) pa_nil))))))))
      (pss_one (ps_set (i := 3) sc__law_pool.nd rfl (Or.inl rfl) (pe_op op_mod (pe_callTy call_int1 (by rfl) T.b_int (by decide +kernel) (pa_cons (pe_op op_add (pe_op op_mul (pv 3) pe_int) (pv 4)) pa_nil)) pe_int))))))
      (pss_cons (ps_for PassesOwn.never rfl (pi_range1 rfl T.b_range (pa_cons (pv 1) pa_nil)) (pg_name (i := 6) sc__law_pool.nd rfl (Or.inl rfl)) (pss_cons (ps_set (i := 3) sc__law_pool.nd rfl (Or.inl rfl) (pe_op op_mod (pe_callTy call_int1 (by rfl) T.b_int (by decide +kernel) (pa_cons (pe_op op_add (pe_op op_add (pe_op op_mul (pv 3) pe_int) (pe_op op_mul (pv 6) pe_int)) pe_int) pa_nil)) pe_int))
      (pss_one (ps_expr (pe_bm PySem.F.plainAttrs_list PySem.F.slot_list_append PySem.F.type_list_append mt_append (pv 2) (pa_cons (pe_op op_mod (pe_callTy call_int1 (by rfl) T.b_int (by decide +kernel) (pa_cons (pe_op op_fdiv (pv 3) pe_int) pa_nil)) pe_int) pa_nil))))))
      (pss_cons (ps_set (i := 2) sc__law_pool.nd rfl (Or.inl rfl) (pe_slice sl_list (pv 2) po_none (po_some (pv 1))))
      (pss_cons (ps_expr (pe_bm0 PySem.F.plainAttrs_list PySem.F.slot_list_reverse PySem.F.type_list_reverse mt_reverse (pv 2)))
      (pss_one (ps_ret (pv 2))))))))), ?_⟩
    refine ⟨Nat.zero_le _, fun p hp => ?_⟩
    have hnew : ∀ (H' : Hp) (ns : List Nat) (z : Int), Same H H' → H' p = some (.lst (iv ns)) → ns.length ≤ 5000 → ∃ n : Nat, z % 2520 = (n : Int) ∧ ((iv ns).length < sizeLine) ∧ Same H (upd H' p (.lst (iv ns ++ [V.int (z % 2520)]))) ∧ (upd H' p (.lst (iv ns ++ [V.int (z % 2520)]))) p = some (.lst (iv (ns ++ [n]))) := fun H' ns z s' e hl => by
      obtain ⟨n, hn, _⟩ := emod_nat z 2520 (by decide)
      refine ⟨n, hn, by rw [iv_len]; exact Nat.lt_of_le_of_lt hl (by decide), Same.put s' hp, ?_⟩
      rw [upd_same, hn, iv_snoc]
    refine ⟨_, rfl, a, rfl, ⟨_, (same_new hp).seq hS⟩, for_it walk_list (fun i σ H' => ∃ (total : Int) (ns : List Nat) (v4 v5 v6 v7 v8 : Option V), σ = [some (.ref a), some (.int (m : Int)), some (.ref p), some (.int total), v4, v5, v6, v7, v8] ∧ Same H H' ∧ H' p = some (.lst (iv ns)) ∧ ns.length ≤ 60 * i)
      ⟨1, [], none, none, none, none, none, rfl, same_new hp, upd_same, Nat.zero_le _⟩ (fun i σ H' _ ⟨_, _, _, _, _, _, _, _, s', _⟩ => s'.seq hS) ?_ ?_⟩
    · rintro i x σ Ha Hb hi ⟨total, ns, v4, v5, v6, v7, v8, rfl, sa, hpb, hle⟩ ⟨rfl, hx⟩
      rw [List.length_map] at hi
      rw [List.getElem?_map] at hx
      obtain ⟨z, hz', rfl⟩ := Option.map_eq_some_iff.mp hx
      refine ⟨_, rfl, z, rfl, .inl ⟨_, rfl, ?_⟩⟩
      dsimp only [gName]
      show tSeq (tIfS _ _ _) _ _ [some (.ref a), some (.int (m : Int)), some (.ref p), some (.int total), some (.int z), some (.int (if z < 0 then -z else z)), v6, v7, v8] Hb
      show tTest _ _ _ _
      generalize hM : tAsg _ _ _ = M
      have key : ∀ (H' : Hp) (ns : List Nat) (w5 w6 w7 w8 : Option V), Same H H' → H' p = some (.lst (iv ns)) → ns.length ≤ 60 * (i + 1) → M [some (.ref a), some (.int (m : Int)), some (.ref p), some (.int total), some (.int z), w5, w6, w7, w8] H' := by
        intro H' ns w5 w6 w7 w8 s' e hl
        rw [← hM]
        exact ⟨_, rfl, _, _, rfl, rfl, .inr ⟨by decide, by decide⟩, _, rfl, _, _, rfl, rfl, .inl ⟨_, rfl, _, _, rfl, rfl, by show (0 : Int) < 1000003; decide, _, ns, _, _, _, _, _, rfl, s', e, hl⟩⟩
      have hi63 : i < 63 := by omega
      refine ⟨_, rfl, _, _, rfl, rfl, ⟨by decide, by decide, by decide⟩, _, _, rfl, rfl, _, rfl, ?_⟩
      obtain ⟨b, hb⟩ : ∃ b : Bool, b = decide (((10 : Int) ^ (18 : Int).toNat) ≤ (if z < 0 then -z else z)) := ⟨_, rfl⟩
      show (if decide (((10 : Int) ^ (18 : Int).toNat) ≤ (if z < 0 then -z else z)) = true then _ else _)
      rw [← hb]
      cases b with
      | true =>
        refine iteT ⟨_, rfl, _, rfl, p, _, rfl, .inl (SqL.of hpb), _, _, rfl, rfl, _, _, rfl, ?_⟩
        rw [iv_len]
        obtain ⟨n, hn⟩ : ∃ n : Int, n = (if (m : Int) - (ns.length : Int) < 60 then (m : Int) - (ns.length : Int) else 60) := ⟨_, rfl⟩
        have hn60 : n ≤ 60 ∧ -5000 ≤ n := by rw [hn]; split <;> omega
        rw [← hn]
        refine ⟨_, rfl, by omega, by omega, for_it walk_range (fun k σ H' => ∃ (rest : Int) (ns' : List Nat) (v6 : Option V), σ = [some (.ref a), some (.int (m : Int)), some (.ref p), some (.int total), some (.int z), some (.int rest), v6, v7, v8] ∧ Same H H' ∧ H' p = some (.lst (iv ns')) ∧ ns'.length ≤ 60 * i + k)
          ⟨_, ns, v6, rfl, sa, hpb, hle⟩ (fun _ _ _ _ _ => trivial) ?_ ?_⟩
        · rintro k x σ Hc Hd hk ⟨rest, ns', w6, rfl, sc, hpc, hlc⟩ ⟨rfl, hx⟩
          have hk60 : k < 60 := by omega
          obtain ⟨n1, en1, l1, s1, e1⟩ := hnew _ ns' rest sc hpc (by omega)
          refine ⟨_, rfl, .inl ⟨rfl, _, SqL.of hpc⟩, _, rfl, .inl ⟨_, rfl, _, _, rfl, rfl, by show (0 : Int) < 2520; decide, p, _, _, rfl, rfl, hpc, l1, ?_⟩⟩
          refine ⟨_, rfl, _, _, rfl, rfl, ⟨by decide, by decide⟩, ?_⟩
          refine ⟨_, rfl, rfl, _, rfl, ?_⟩
          obtain ⟨b2, hb2⟩ : ∃ b : Bool, b = decide (V.int (rest / 2520) = V.int 0) := ⟨_, rfl⟩
          show (if decide (V.int (rest / 2520) = V.int 0) = true then _ else _)
          rw [← hb2]
          have hl1 : (ns' ++ [n1]).length ≤ 60 * i + (k + 1) := by rw [List.length_append, List.length_singleton]; omega
          cases b2 with
          | true => exact iteT (key _ _ _ _ _ _ s1 e1 (by omega))
          | false => exact iteF ⟨_, ns' ++ [n1], _, rfl, s1, e1, hl1⟩
        · rintro σ Hc ⟨rest, ns', w6, rfl, sc, hpc, hlc⟩
          exact key _ _ _ _ _ _ sc hpc (by omega)
      | false =>
        refine iteF ⟨_, rfl, _, _, rfl, rfl, .inr ⟨by decide, by decide⟩, _, rfl, p, _, rfl, .inl (SqL.of hpb), _, _, rfl, rfl, .inr ⟨by decide, by decide⟩, _, _, rfl, rfl, _, _, rfl, rfl, .inl ⟨_, rfl, _, _, rfl, rfl, by show (0 : Int) < 2147483647; decide, ?_⟩⟩
        dsimp only [gName]
        generalize hf : ((z * 48271 + ((iv ns).length : Int) * 69621 + 11) % 2147483647) = fr
        have hfb : 0 ≤ fr ∧ fr < 2147483647 := by rw [← hf]; exact ⟨Int.emod_nonneg _ (by decide), Int.emod_lt_of_pos _ (by decide)⟩
        refine ⟨_, rfl, _, rfl, _, _, rfl, rfl, .inl ⟨by omega, by omega⟩, _, _, rfl, rfl, .inl ⟨_, rfl, _, _, rfl, rfl, by show (0 : Int) < 2147483629; decide, ?_⟩⟩
        dsimp only [gName]
        generalize hsc : ((fr * fr + 5) % 2147483629) = sc
        obtain ⟨n1, en1, l1, s1, e1⟩ := hnew _ ns (sc / 7) sa hpb (by omega)
        refine ⟨_, rfl, .inl ⟨rfl, _, SqL.of hpb⟩, _, rfl, _, _, rfl, rfl, ⟨by decide, by decide⟩, .inl ⟨_, rfl, _, _, rfl, rfl, by show (0 : Int) < 2520; decide, p, _, _, rfl, rfl, hpb, l1, ?_⟩⟩
        have hl1 : (ns ++ [n1]).length ≤ 60 * i + 1 := by rw [List.length_append, List.length_singleton]; omega
        have e1' : (upd Hb p (.lst (iv ns ++ [V.int (sc / 7 % 2520)]))) p = some (.lst (iv ns ++ [V.int (sc / 7 % 2520)])) := upd_same
        rw [e1] at e1'
        have ell : iv (ns ++ [n1]) = iv ns ++ [V.int (sc / 7 % 2520)] := by injection e1' with h; injection h
        obtain ⟨n2, en2, l2, s2, e2⟩ := hnew _ (ns ++ [n1]) ((sc * 16807 + fr) % 2147483587) s1 e1 (by omega)
        refine ⟨_, rfl, .inl ⟨rfl, _, SqL.of e1⟩, _, rfl, _, _, rfl, rfl, .inr ⟨by decide, by decide⟩, _, rfl, _, _, rfl, rfl, .inl ⟨_, rfl, _, _, rfl, rfl, by show (0 : Int) < 2147483587; decide, _, _, rfl, rfl, by show (0 : Int) < 2520; decide, p, _, _, rfl, rfl, e1, l2, ?_⟩⟩
        exact key _ _ _ _ _ _ s2 e2 (by rw [List.length_append, List.length_singleton]; omega)
    · rintro σ H1 ⟨total, ns, v4, v5, v6, v7, v8, rfl, sa, hpb, hle⟩
      rw [List.length_map] at hle
      have hle' : ns.length ≤ 3780 := by omega
      refine ⟨_, rfl, _, rfl, by omega, by omega, for_it walk_range (fun k σ H' => ∃ (total : Int) (ns' : List Nat) (v6 : Option V), σ = [some (.ref a), some (.int (m : Int)), some (.ref p), some (.int total), v4, v5, v6, v7, v8] ∧ Same H H' ∧ H' p = some (.lst (iv ns')) ∧ ns'.length ≤ 3780 + k)
        ⟨total, ns, v6, rfl, sa, hpb, hle'⟩ (fun _ _ _ _ _ => trivial) ?_ ?_⟩
      · rintro k x σ Hc Hd hk ⟨tot, ns', w6, rfl, sc, hpc, hlc⟩ ⟨rfl, hx⟩
        obtain rfl : x = V.int (k : Int) := hx.trans (congrArg V.int (Int.zero_add _))
        have hkm : k < m := by simpa using hk
        refine ⟨_, rfl, _, _, rfl, rfl, .inr ⟨by decide, by decide⟩, _, rfl, _, _, rfl, rfl, .inr ⟨by decide, by decide⟩, _, _, rfl, rfl, _, _, rfl, rfl, .inl ⟨_, rfl, _, _, rfl, rfl, by show (0 : Int) < 2147483647; decide, ?_⟩⟩
        dsimp only [gName]
        generalize hf : ((tot * 48271 + (k : Int) * 69621 + 17) % 2147483647) = t2
        obtain ⟨n1, en1, l1, s1, e1⟩ := hnew _ ns' (t2 / 5) sc hpc (by omega)
        exact ⟨_, rfl, .inl ⟨rfl, _, SqL.of hpc⟩, _, rfl, _, _, rfl, rfl, ⟨by decide, by decide⟩, .inl ⟨_, rfl, _, _, rfl, rfl, by show (0 : Int) < 2520; decide, p, _, _, rfl, rfl, hpc, l1, _, ns' ++ [n1], _, rfl, s1, e1, by rw [List.length_append, List.length_singleton]; omega⟩⟩
      · rintro σ H2 ⟨tot, ns', w6, rfl, sc, hpc, hlc⟩
        refine ⟨_, rfl, _, rfl, _, rfl, p, _, rfl, SqL.of hpc, fun p2 hp2 => ?_⟩
        rw [cut_to]
        refine ⟨_, rfl, .inl ⟨rfl, _, SqL.of upd_same⟩, p2, _, rfl, rfl, upd_same, _, rfl, ?_⟩
        refine q _ p2 (Same.put (Same.new sc hp2) (sc.free hp2)) (sc.free hp2) ⟨(ns'.take m).reverse, ?_, ?_⟩
        · rw [upd_same, iv, iv, List.map_reverse]
        · rw [List.length_reverse, List.length_take]; omega
theorem ok_drawB {f : Addr} {fd : FuncData} (F : C8.Fun K "_law_draw" "_law_draw" s__law_draw f fd) (T : Txt K mg) : FnOk P w K mg base C8.CX0 1 f fd ["pool", "many"] sp_drawB := by
  refine C8.fn0 F sc__law_draw (fun vs H Q E h => ?_) (fun cdv A outer s H vs Q E hr h => ?_)
  · obtain ⟨p, m, rfl, _⟩ := h; rfl
  · obtain ⟨p, m, rfl, hP, hm, q⟩ := h
    obtain ⟨ns, hp, hl⟩ := id hP
    refine ⟨_, (pss_cons (ps_if (pt_cmpR op_eq (pe_callB call_len_seq (by rfl) T.b_len PySem.boot_len (pa_cons (pv 0) pa_nil)) pe_int (nomark _)) (pss_one (ps_ret pe_int)) pss_nil)
      (pss_one (ps_ret (pe_op op_mod (pe_callTy call_int1 (by rfl) T.b_int (by decide +kernel) (pa_cons (pe_bm0 PySem.F.plainAttrs_list PySem.F.slot_list_pop PySem.F.type_list_pop mt_pop (pv 0)) pa_nil)) (pv 1))))), ?_⟩
    refine ⟨_, rfl, p, _, rfl, .inl (SqL.of hp), rfl, _, rfl, ?_⟩
    rw [iv_len]
    cases hns : ns.getLast? with
    | none =>
      have e : ns = [] := List.getLast?_eq_none_iff.mp hns
      subst e
      exact iteT (q H 0 (PSame.refl hP) (by omega))
    | some n =>
      obtain ⟨ms, rfl⟩ := List.getLast?_eq_some_iff.mp hns
      rw [show decide (V.int ((ms ++ [n]).length : Int) = V.int 0) = false from decide_eq_false (by intro z; injection z with z; rw [List.length_append, List.length_singleton] at z; omega)]
      have hiv : iv (ms ++ [n]) = iv ms ++ [V.int (n : Int)] := (iv_snoc ms n).symm
      refine iteF ⟨_, rfl, .inl ⟨rfl, _, SqL.of hp⟩, p, iv (ms ++ [n]), V.int (n : Int), rfl, rfl, hp, by rw [hiv]; simp, .inl ⟨_, rfl, _, rfl, _, _, rfl, rfl, hm, ?_⟩⟩
      obtain ⟨r, hr1, hr2⟩ := emod_nat (n : Int) m hm
      dsimp only [gName]
      rw [hr1, hiv, List.dropLast_concat]
      rw [List.length_append] at hl
      exact q _ r ⟨fun b o hb e => (upd_ne hb).trans e, hP, ms, upd_same, by omega⟩ hr2
end
end RJ
end

section
set_option maxRecDepth 100000
set_option maxHeartbeats 8000000
namespace RJ
open PySem PySem.Spec PyProof.Rows L2
abbrev s__law_staged : Stmt := top 52
abbrev N__law_staged : List Str := ["pairs", "letters", "row", "many", "rank", "out", "piece"]
theorem sc__law_staged : FnScope N__law_staged ["pairs", "letters", "row", "many"] (C8.fnScope s__law_staged) := C8.fnScope_by (by decide +kernel)
abbrev s__law_cut : Stmt := top 53
abbrev N__law_cut : List Str := ["pairs", "alphabet", "text", "sign"]
theorem sc__law_cut : FnScope N__law_cut ["pairs", "alphabet", "text"] (C8.fnScope s__law_cut) := C8.fnScope_by (by decide +kernel)
/-- ascending signs -/
theorem asc_of : ∀ {l : List Nat}, l.Pairwise (· < ·) → (ascL l).all id = true
  | [], _ => rfl
  | [_], _ => rfl
  | a :: b :: t, h => by
    have h1 := (List.pairwise_cons.mp h).1 b (List.mem_cons_self ..)
    have h2 := asc_of (List.pairwise_cons.mp h).2
    show (decide (a < b) && (ascL (b :: t)).all id) = true
    rw [decide_eq_true h1, h2]; rfl
theorem SG_asc : SG.Pairwise (· < ·) := by decide +kernel
/-- a dict of numbers, each with True -/
def dkeys (ks : List Nat) : List (Key × V) := ks.map fun (n : Nat) => ((Sum.inl (n : Int), .bl true) : Key × V)
theorem dkeys_val (n : Nat) : ∀ ks : List Nat, valV (dkeys ks) (.inl (n : Int)) = if n ∈ ks then some (.bl true) else none
  | [] => by rw [if_neg List.not_mem_nil]; exact valV_nil
  | k :: ks => by
    show valV (((Sum.inl (k : Int), .bl true) : Key × V) :: dkeys ks) _ = _
    by_cases h : k = n
    · subst h
      rw [valV_pos (p := ((Sum.inl (k : Int), .bl true) : Key × V)) rfl, if_pos (List.mem_cons_self ..)]
    · rw [valV_neg (p := ((Sum.inl (k : Int), .bl true) : Key × V)) (fun z => h (by have := Sum.inl.inj z; omega)), dkeys_val n ks]
      by_cases m : n ∈ ks
      · rw [if_pos m, if_pos (List.mem_cons_of_mem _ m)]
      · rw [if_neg m, if_neg fun z => by
          rcases List.mem_cons.mp z with e | e
          · exact h e.symm
          · exact m e]
theorem dkeys_put (n : Nat) (ks : List Nat) : putK (dkeys ks) (.inl (n : Int)) (.bl true) = if n ∈ ks then dkeys ks else dkeys (ks ++ [n]) := by
  by_cases m : n ∈ ks
  · rw [if_pos m]
    unfold putK
    rw [valV_any, dkeys_val, if_pos m]
    rw [if_pos (show (some (V.bl true)).isSome = true from rfl)]
    unfold dkeys
    rw [List.map_map]
    refine List.map_congr_left fun k _ => ?_
    show (if (Sum.inl (k : Int) : Key) = .inl (n : Int) then ((.inl (k : Int), .bl true) : Key × V) else (.inl (k : Int), .bl true)) = _
    split <;> rfl
  · rw [if_neg m, putK_new _ (by rw [dkeys_val, if_neg m])]
    unfold dkeys
    rw [List.map_append]; rfl
theorem dkeys_keys (ks : List Nat) : (dkeys ks).map (·.1) = (ks.map fun n : Nat => (n : Int)).map Sum.inl := by
  unfold dkeys
  rw [List.map_map, List.map_map]; rfl
theorem dkeys_len (ks : List Nat) : (dkeys ks).length = ks.length := by unfold dkeys; rw [List.length_map]
theorem perm_nat {ys : List Int} {ks : List Nat} (h : ys.Perm (ks.map fun n : Nat => (n : Int))) : ∃ l : List Nat, ys = l.map (fun n : Nat => (n : Int)) ∧ l.Perm ks := by
  refine ⟨ys.map Int.toNat, ?_, ?_⟩
  · rw [List.map_map]
    have key : ∀ y ∈ ys, ((fun n : Nat => (n : Int)) ∘ Int.toNat) y = y := fun y hy => by
      obtain ⟨n, _, rfl⟩ := List.mem_map.mp (h.mem_iff.mp hy)
      rfl
    rw [List.map_congr_left key, List.map_id']
  · have := h.map Int.toNat
    rw [List.map_map] at this
    have e : (ks.map (Int.toNat ∘ fun n : Nat => (n : Int))) = ks := by
      have : ∀ k ∈ ks, (Int.toNat ∘ fun n : Nat => (n : Int)) k = k := fun k _ => rfl
      rw [List.map_congr_left this, List.map_id']
    rw [e] at this
    exact this
theorem pair_lt {l : List Nat} (h : (l.map fun n : Nat => (n : Int)).Pairwise (· ≤ ·)) (hn : l.Nodup) : l.Pairwise (· < ·) := by
  induction l with
  | nil => exact .nil
  | cons a l ih =>
    rw [List.map_cons, List.pairwise_cons] at h
    rw [List.nodup_cons] at hn
    refine List.pairwise_cons.mpr ⟨fun b hb => ?_, ih h.2 hn.2⟩
    have h1 := h.1 (b : Int) (List.mem_map.mpr ⟨b, hb, rfl⟩)
    have h2 : a ≠ b := fun e => hn.1 (e ▸ hb)
    omega
theorem sg_map {l : List Nat} (h : l.Pairwise (· < ·)) (hb : ∀ n ∈ l, n < 94) : (l.map fun n => SG.getD n 0).Pairwise (· < ·) := by
  induction l with
  | nil => exact .nil
  | cons a l ih =>
    rw [List.pairwise_cons] at h
    rw [List.map_cons, List.pairwise_cons]
    refine ⟨fun c hc => ?_, ih h.2 fun n hn => hb n (List.mem_cons_of_mem _ hn)⟩
    obtain ⟨n, hn, rfl⟩ := List.mem_map.mp hc
    have h1 := h.1 n hn
    have h2 := hb n (List.mem_cons_of_mem _ hn)
    have h3 : a < SG.length := by rw [SG_len]; omega
    have h4 : n < SG.length := by rw [SG_len]; exact h2
    have := List.pairwise_iff_getElem.mp SG_asc a n h3 h4 h1
    rw [List.getD_eq_getElem?_getD, List.getD_eq_getElem?_getD, List.getElem?_eq_getElem h3, List.getElem?_eq_getElem h4]
    exact this
theorem pick12 (r : Nat) (hr : r < 12) : ∃ m : Nat, 1 ≤ m ∧ m ≤ 36 ∧ atI [V.int 1, V.int 2, V.int 2, V.int 3, V.int 3, V.int 4, V.int 5, V.int 9, V.int 2, V.int 3, V.int 4, V.int 36] (r : Int) = some (V.int (m : Int)) := by
  rcases r with _ | _ | _ | _ | _ | _ | _ | _ | _ | _ | _ | _ | r
  · exact ⟨1, by omega, by omega, rfl⟩
  · exact ⟨2, by omega, by omega, rfl⟩
  · exact ⟨2, by omega, by omega, rfl⟩
  · exact ⟨3, by omega, by omega, rfl⟩
  · exact ⟨3, by omega, by omega, rfl⟩
  · exact ⟨4, by omega, by omega, rfl⟩
  · exact ⟨5, by omega, by omega, rfl⟩
  · exact ⟨9, by omega, by omega, rfl⟩
  · exact ⟨2, by omega, by omega, rfl⟩
  · exact ⟨3, by omega, by omega, rfl⟩
  · exact ⟨4, by omega, by omega, rfl⟩
  · exact ⟨36, by omega, by omega, rfl⟩
  · omega
theorem smallB {n : Nat} (h : n ≤ 100000) : n < sizeLine := Nat.lt_of_le_of_lt h (by decide)
def sp_stagedB : Sp := fun vs H Q _ => ∃ (pp z : Addr) (us : List V) (ps : List (Nat × Nat)) (row : List Nat) (b m : Nat), vs = [.ref pp, .int (b : Int), .ref z, .int (m : Int)] ∧ H pp = some (.lst us) ∧ PairsAt H us ps ∧ WF b ps ∧ H z = some (.lst (iv row)) ∧ row.length ≤ 10000 ∧ m ≤ ps.length ∧ ps.length ≤ 1000 ∧ b ≤ 1000 ∧
  ∀ H' z', Same H H' → (z' = z ∨ H z' = none) → H' z' = some (.lst (iv (cutL b (ps.take m) row))) → Q (.ref z') H'
def sp_cutB : Sp := fun vs H Q _ => ∃ (pp : Addr) (us : List V) (ps : List (Nat × Nat)) (al t : List Nat), vs = [.ref pp, .str (S al), .str (S t)] ∧ H pp = some (.lst us) ∧ PairsAt H us ps ∧ WF al.length ps ∧ ps.length ≤ 1000 ∧ al.length ≤ 1000 ∧ (∀ c ∈ t, c ∈ al) ∧ t.length ≤ 10000 ∧
  ∀ H' z, Same H H' → H z = none → H' z = some (.lst (iv (cutL al.length ps (lets al t)))) → Q (.ref z) H'
section
variable {P : Program} {w : World} {K : PySem.W.Frag} {mg : Str → Option Value} {base : Heap}
theorem ok_alphabetB {f : Addr} {fd : FuncData} (F : C8.Fun K "_law_alphabet" "_law_alphabet" s__law_alphabet f fd) (T : Txt K mg) (c__law_draw : C8.Cal P w K mg base 1 "_law_draw" sp_drawB []) : FnOk P w K mg base C8.CX0 2 f fd ["pool"] sp_alphabetB := by
  refine C8.fn0 F sc__law_alphabet (fun vs H Q E h => ?_) (fun cdv A outer s H vs Q E hr h => ?_)
  · obtain ⟨p, rfl, _⟩ := h; rfl
  · obtain ⟨p, rfl, hP, q⟩ := h
    have hu := hu_of hr
    refine ⟨_, (pss_cons (ps_set (i := 1) sc__law_alphabet.nd rfl (Or.inr rfl) pe_str)
      (pss_cons (ps_set (i := 1) sc__law_alphabet.nd rfl (Or.inr rfl) (pe_op op_add_str (pv 1) pe_str))
      (pss_cons (ps_set (i := 2) sc__law_alphabet.nd rfl (Or.inl rfl) pe_dnewK)
      (pss_cons (ps_for PassesOwn.never rfl (pi_range1 rfl T.b_range (pa_cons (pe_ix ix_list (pe_lst (pa_cons pe_int (pa_cons pe_int (pa_cons pe_int (pa_cons pe_int (pa_cons pe_int (pa_cons pe_int (pa_cons pe_int (pa_cons pe_int (pa_cons pe_int (pa_cons pe_int (pa_cons pe_int (pa_cons pe_int pa_nil))))))))))))) (C8.pe_c c__law_draw hr (by first | decide | omega) (by rfl) (pa_cons (pv 0) (pa_cons pe_int pa_nil))) (fun _ _ => rfl)) pa_nil)) (pg_name (i := 3) sc__law_alphabet.nd rfl (Or.inl rfl)) (pss_one (ps_dput hu (pv 2) (C8.pe_c c__law_draw hr (by first | decide | omega) (by rfl) (pa_cons (pv 0) (pa_cons pe_int pa_nil))) pe_bl rfl)))
      (pss_one (ps_ret (pe_join pe_str (pe_lc (own := [("k", 3)]) (g := gName 3) (tt := tYes) rfl sc__law_alphabet.nd (pi_list (pe_slice sl_list (pe_callB (call_sortedDI rfl) (by rfl) T.b_sorted (by decide +kernel) (pa_cons (pv 2) pa_nil)) po_none (po_some pe_int))) (blkOk_by (N := N__law_alphabet) (sc := C8.fnScope s__law_alphabet) (by decide +kernel)) (fun _ _ _ _ _ => (pg_name (i := 3) sc__law_alphabet.nd rfl (Or.inl rfl))) (fun _ _ _ _ _ => pts_nil) (fun _ _ _ _ _ => (pe_ix ix_str (pv 1) (pv 3) (fun _ _ => rfl))))))))))), ?_⟩
    refine ⟨_, rfl, _, _, rfl, rfl, by decide +kernel, ?_⟩
    refine fun d hd => ?_
    have s0 : PSame p H (upd H d (.dK [])) := (PSame.refl hP).new hd
    have hdp : d ≠ p := hP.free hd
    refine ⟨by show 12 ≤ sizeLine; decide, fun L hL => ?_⟩
    have s1 := s0.new (o := .lst [V.int 1, V.int 2, V.int 2, V.int 3, V.int 3, V.int 4, V.int 5, V.int 9, V.int 2, V.int 3, V.int 4, V.int 36]) hL
    have hLp : L ≠ p := s0.at1.free hL
    have hLv : (upd (upd H d (.dK [])) L (.lst [V.int 1, V.int 2, V.int 2, V.int 3, V.int 3, V.int 4, V.int 5, V.int 9, V.int 2, V.int 3, V.int 4, V.int 36])) L = some (.lst [V.int 1, V.int 2, V.int 2, V.int 3, V.int 3, V.int 4, V.int 5, V.int 9, V.int 2, V.int 3, V.int 4, V.int 36]) := upd_same
    have hdL : (upd (upd H d (.dK [])) L (.lst [V.int 1, V.int 2, V.int 2, V.int 3, V.int 3, V.int 4, V.int 5, V.int 9, V.int 2, V.int 3, V.int 4, V.int 36])) d = some (.dK []) := (upd_ne (ne_of_none upd_same hL)).trans upd_same
    refine ⟨_, rfl, p, 12, rfl, s1.at1, by decide, fun H1 r1 s2 hr1 => ?_⟩
    obtain ⟨m, hm1, hm36, hsel⟩ := pick12 r1 (by omega)
    have sA := s1.trans s2
    have e1 : H1 d = some (.dK (dkeys [])) := s2.x d _ hdp hdL
    refine ⟨L, _, _, _, rfl, rfl, SqL.of (s2.lst hLp hLv), hsel, _, rfl, by omega, by omega, for_it walk_range (fun i σ H' => ∃ (ks : List Nat) (v3 : Option V), σ = [some (.ref p), some (.str (S SG)), some (.ref d), v3] ∧ PSame p H H' ∧ H' d = some (.dK (dkeys ks)) ∧ ks.Nodup ∧ (∀ k ∈ ks, k < 94) ∧ ks.length ≤ i ∧ (0 < i → 0 < ks.length))
      ⟨[], none, ?_, sA, e1, .nil, fun k hk => (List.not_mem_nil hk).elim, Nat.le_refl _, fun h => h⟩ (fun _ _ _ _ _ => trivial) ?_ ?_⟩
    · exact congrArg (fun z : Str => [some (V.ref p), some (.str z), some (.ref d), none]) (by decide +kernel : _ = S SG)
    · rintro i x σ Ha Hb hi ⟨ks, v3, rfl, sa, hd', hnd, hin, hle, hpos⟩ ⟨rfl, hx⟩
      have him : i < m := by simpa using hi
      refine ⟨_, rfl, _, rfl, p, 94, rfl, sa.at1, by decide, fun H2 n s3 hn => ?_⟩
      have hn94 : n < 94 := by omega
      have hd3 : H2 d = some (.dK (dkeys ks)) := s3.x d _ hdp hd'
      refine ⟨d, _, rfl, DPut.k (k := .inl (n : Int)) hd3 (by rw [dkeys_len]; exact small1000 (by omega)), ?_⟩
      rw [dkeys_put]
      have sc : PSame p H (upd H2 d (.dK (if n ∈ ks then dkeys ks else dkeys (ks ++ [n])))) := (sa.trans s3).put hd
      by_cases hm : n ∈ ks
      · rw [if_pos hm] at sc ⊢
        exact ⟨ks, _, rfl, sc, upd_same, hnd, hin, by omega, fun _ => List.length_pos_of_mem hm⟩
      · rw [if_neg hm] at sc ⊢
        refine ⟨ks ++ [n], _, rfl, sc, upd_same, ?_, ?_, ?_, fun _ => ?_⟩
        · exact List.nodup_append.mpr ⟨hnd, by simp, fun x hx y hy z => hm (by rw [List.mem_singleton.mp hy] at z; exact z ▸ hx)⟩
        · intro k hk
          rcases List.mem_append.mp hk with z | z
          · exact hin k z
          · rw [List.mem_singleton.mp z]; exact hn94
        · rw [List.length_append, List.length_singleton]; omega
        · rw [List.length_append, List.length_singleton]; omega
    · rintro σ H2 ⟨ks, v3, rfl, sa, hd', hnd, hin, hle, hpos⟩
      have hle' : ks.length ≤ m := by simpa using hle
      have hpos' : 0 < ks.length := hpos (Nat.lt_of_lt_of_le Nat.zero_lt_one hm1)
      refine ⟨⟨_, rfl⟩, _, rfl, d, dkeys ks, ks.map fun n : Nat => (n : Int), rfl, .inl hd', dkeys_keys ks, by rw [List.length_map]; omega, fun ys q0 hperm hsort hq0 => ?_⟩
      obtain ⟨l0, rfl, hl0⟩ := perm_nat hperm
      have hasc0 := pair_lt hsort (hl0.nodup_iff.mpr hnd)
      have el : ((l0.map fun n : Nat => (n : Int)).map V.int) = iv l0 := by rw [List.map_map]; rfl
      rw [el]
      have sp0 : PSame p H (upd H2 q0 (.lst (iv l0))) := sa.new hq0
      refine ⟨_, rfl, q0, _, rfl, SqL.of upd_same, fun q1 hq1 => ?_⟩
      rw [show (some (30 : Int)) = some ((30 : Nat) : Int) from rfl, cut_to]
      have sp : PSame p H (upd (upd H2 q0 (.lst (iv l0))) q1 (.lst (iv (l0.take 30)))) := sp0.new hq1
      obtain ⟨l, hl⟩ : ∃ l, l = l0.take 30 := ⟨_, rfl⟩
      rw [← hl] at sp ⊢
      have hasc : l.Pairwise (· < ·) := by rw [hl]; exact hasc0.sublist (List.take_sublist 30 l0)
      have hin' : ∀ n ∈ l, n < 94 := fun n hn => hin n (hl0.mem_iff.mp (by rw [hl] at hn; exact List.mem_of_mem_take hn))
      have hlen : 1 ≤ l.length ∧ l.length ≤ 30 := by have := hl0.length_eq; rw [hl, List.length_take]; omega
      refine ⟨q1, rfl, ⟨_, SqL.of upd_same⟩, fun D hD => lc_it walk_list (fun i H' => PSame p H H' ∧ H' q1 = some (.lst (iv l)) ∧ H' D = some (.lst ((sv ((l.map fun n => SG.getD n 0).take i)).map V.str))) ⟨sp.new hD, (upd_ne (ne_of_none upd_same hD)).trans upd_same, upd_same⟩ (fun i H' _ ⟨_, h, _⟩ => SqL.of h) ?_ ?_⟩
      · rintro i x Ha Hb hi ⟨sb, hpb, hDb⟩ ⟨rfl, hx⟩
        obtain ⟨n, hn, rfl⟩ := iv_get hx
        have hn94 := hin' n (List.mem_of_getElem? hn)
        have hc : SG[n]? = some (SG.getD n 0) := by rw [List.getD_eq_getElem?_getD, List.getElem?_eq_getElem (by rw [SG_len]; exact hn94)]; rfl
        refine ⟨rfl, _, rfl, _, rfl, S SG, _, SG.getD n 0, rfl, rfl, by decide +kernel, atI_nat hc, ?_⟩
        have hg : (l.map fun n => SG.getD n 0)[i]? = some (SG.getD n 0) := by rw [List.getElem?_map, hn]; rfl
        have hDq : D ≠ q1 := fun e => by rw [e, upd_same] at hD; cases hD
        refine ⟨_, hDb, ?_, ?_, (upd_ne (Ne.symm hDq)).trans hpb, ?_⟩
        · unfold sv; rw [List.length_map, List.length_map, List.length_take, List.length_map]; exact small1000 (by omega)
        · exact sb.put (sp.none hD)
        · rw [upd_same, take_succ_of hg]; unfold sv; rw [List.map_append, List.map_append]; rfl
      · rintro H3 ⟨sb, _, hDb⟩
        rw [iv_len, List.take_of_length_le (by rw [List.length_map]; exact Nat.le_refl _)] at hDb
        have hlm : (l.map fun n => SG.getD n 0).length = l.length := List.length_map _
        refine ⟨_, D, sv (l.map fun n => SG.getD n 0), rfl, rfl, .inl (SqL.of hDb), ?_, ?_⟩
        · rw [sum1, hlm]
          have : (sv (l.map fun n => SG.getD n 0)).length = l.length := by unfold sv; rw [List.length_map, hlm]
          show l.length + (sv (l.map fun n => SG.getD n 0)).length * 0 ≤ 16777216
          omega
        · have hp := sg_map hasc hin'
          have hsg : ∀ c ∈ l.map fun n => SG.getD n 0, c ∈ SG := fun c hc => by
            obtain ⟨n, hn, rfl⟩ := List.mem_map.mp hc
            rw [List.getD_eq_getElem?_getD, List.getElem?_eq_getElem (by rw [SG_len]; exact hin' n hn)]
            exact List.getElem_mem _
          have key := q H3 (l.map fun n => SG.getD n 0) sb (alOk_of (asc_of hp) hsg (by omega) (by omega)) (hp.imp fun h => Nat.ne_of_lt h) (by omega) (by omega) hsg
          rw [← join1 (l.map fun n => SG.getD n 0)] at key
          exact key
theorem ok_stagedB {f : Addr} {fd : FuncData} (F : C8.Fun K "_law_staged" "_law_staged" s__law_staged f fd) (T : Txt K mg) : FnOk P w K mg base C8.CX0 1 f fd ["pairs", "letters", "row", "many"] sp_stagedB := by
  refine C8.fn0 F sc__law_staged (fun vs H Q E h => ?_) (fun cdv A outer s H vs Q E hr h => ?_)
  · obtain ⟨pp, z, us, ps, row, b, m, rfl, _⟩ := h; rfl
  · obtain ⟨pp, z, us, ps, row, b, m, rfl, hpp, hps, hw, hz, hrl, hm, hpl, hb, q⟩ := h
    refine ⟨_, (pss_cons (ps_for PassesOwn.never rfl (pi_range1 rfl T.b_range (pa_cons (pv 3) pa_nil)) (pg_name (i := 4) sc__law_staged.nd rfl (Or.inl rfl)) (pss_cons (ps_set (i := 5) sc__law_staged.nd rfl (Or.inl rfl) (pe_lst pa_nil))
      (pss_cons (ps_for PassesOwn.never rfl (pi_list (pe_callTy call_list_of (by rfl) T.b_list (by decide +kernel) (pa_cons (pv 2) pa_nil))) (pg_name (i := 6) sc__law_staged.nd rfl (Or.inl rfl)) (pss_one (ps_if (PW.pt (pw_and (pt_cmpR op_gt (pe_callB call_len_seq (by rfl) T.b_len PySem.boot_len (pa_cons (pv 5) pa_nil)) pe_int (nomark _)) (pw_and (pt_cmpR op_eq (pv 6) (pe_ix ix_tup (pe_ix ix_list (pv 0) (pv 4) (fun _ _ => rfl)) pe_int (fun _ _ => rfl)) (nomark _)) (pw_and1 (pt_cmpR op_eq (pe_ix ix_list (pv 5) (pe_un un_neg pe_int) (fun _ _ => rfl)) (pe_ix ix_tup (pe_ix ix_list (pv 0) (pv 4) (fun _ _ => rfl)) pe_int (fun _ _ => rfl)) (nomark _)))))) (pss_one (ps_asg (pe_op op_add (pv 1) (pv 4)) (pg_sub (pv 5) (pe_un un_neg pe_int) set_list))) (pss_one (ps_expr (pe_bm PySem.F.plainAttrs_list PySem.F.slot_list_append PySem.F.type_list_append mt_append (pv 5) (pa_cons (pv 6) pa_nil)))))))
      (pss_one (ps_set (i := 2) sc__law_staged.nd rfl (Or.inl rfl) (pv 5))))))
      (pss_one (ps_ret (pv 2)))), ?_⟩
    refine ⟨_, rfl, _, rfl, by omega, by omega, for_it walk_range (fun i σ H' => ∃ (z' : Addr) (v4 v5 v6 : Option V), σ = [some (.ref pp), some (.int (b : Int)), some (.ref z'), some (.int (m : Int)), v4, v5, v6] ∧ Same H H' ∧ (z' = z ∨ H z' = none) ∧ H' z' = some (.lst (iv (cutL b (ps.take i) row))))
      ⟨z, none, none, none, rfl, Same.refl H, .inl rfl, by rw [List.take_zero]; exact hz⟩ (fun _ _ _ _ _ => trivial) ?_ ?_⟩
    · rintro i x σ Ha Hb hi ⟨z', v4, v5, v6, rfl, sa, hz', hzv⟩ ⟨rfl, hx⟩
      obtain rfl : x = V.int (i : Int) := hx.trans (congrArg V.int (Int.zero_add _))
      have him : i < ps.length := by have : i < m := by simpa using hi
                                     omega
      obtain ⟨u, pr, hu, hpr, g, rfl, hg⟩ := Paired.both hps him
      have hmne : b + i ≠ pr.1 := by have := (hw i pr hpr).1; omega
      have hcl := cutL_len b (ps.take i) row
      obtain ⟨R, hR⟩ : ∃ R, R = cutL b (ps.take i) row := ⟨_, rfl⟩
      rw [← hR] at hzv hcl
      refine ⟨Nat.zero_le _, fun J hJ => ?_⟩
      have sJ := same_new (o := .lst []) hJ
      refine ⟨_, rfl, z', _, rfl, .inl (SqL.of (sJ _ _ hzv)), fun zc hzc => ?_⟩
      have sC := Same.new (o := .lst (iv R)) sJ hzc
      have hJne : J ≠ zc := ne_of_none upd_same hzc
      refine ⟨zc, rfl, ⟨_, SqL.of upd_same⟩, for_it walk_list (fun k σ H' => ∃ v6 : Option V, σ = [some (.ref pp), some (.int (b : Int)), some (.ref z'), some (.int (m : Int)), some (.int (i : Int)), some (.ref J), v6] ∧ Same Hb H' ∧ H' zc = some (.lst (iv R)) ∧ H' J = some (.lst (iv ((R.take k).foldl (stepJ pr.1 pr.2 (b + i)) []))))
        ⟨v6, rfl, sC, upd_same, (upd_ne hJne).trans upd_same⟩ (fun _ _ _ _ ⟨_, _, _, h, _⟩ => SqL.of h) ?_ ?_⟩
      · rintro k x σ Hc Hd hk ⟨w6, rfl, s1, hzc', hd⟩ ⟨rfl, hx⟩
        obtain ⟨n, hn, rfl⟩ := iv_get hx
        have hfold := foldl_take_succ (f := stepJ pr.1 pr.2 (b + i)) hn []
        have hlen : ((R.take k).foldl (stepJ pr.1 pr.2 (b + i)) []).length < sizeLine := smallB (by
          have h1 := foldJ_len pr.1 pr.2 (b + i) (R.take k) []
          rw [List.length_take] at h1
          simp only [List.length_nil] at h1; omega)
        generalize hacc : (R.take k).foldl (stepJ pr.1 pr.2 (b + i)) [] = acc at hd hfold hlen
        have hppd := s1 _ _ (sa _ _ hpp)
        have hgd := s1 _ _ (sa _ _ hg)
        have fin : ∀ (acc' : List Nat), acc' = stepJ pr.1 pr.2 (b + i) acc n → ∃ v6 : Option V, [some (V.ref pp), some (.int (b : Int)), some (.ref z'), some (.int (m : Int)), some (.int (i : Int)), some (.ref J), some (.int (n : Int))] = [some (V.ref pp), some (.int (b : Int)), some (.ref z'), some (.int (m : Int)), some (.int (i : Int)), some (.ref J), v6] ∧ Same Hb (upd Hd J (.lst (iv acc'))) ∧ (upd Hd J (.lst (iv acc'))) zc = some (.lst (iv R)) ∧ (upd Hd J (.lst (iv acc'))) J = some (.lst (iv ((R.take (k + 1)).foldl (stepJ pr.1 pr.2 (b + i)) []))) := fun acc' e =>
          ⟨_, rfl, Same.put s1 hJ, (upd_ne (Ne.symm hJne)).trans hzc', by rw [upd_same, hfold, e]⟩
        refine ⟨_, rfl, J, _, rfl, .inl (SqL.of hd), _, _, rfl, rfl, _, rfl, ?_⟩
        rw [iv_len]
        cases hq : acc.getLast? with
        | none =>
          have e : acc = [] := List.getLast?_eq_none_iff.mp hq
          have hc : ¬ (acc.getLast? = some pr.1 ∧ n = pr.2) := by rw [hq]; rintro ⟨q, _⟩; cases q
          rw [decide_eq_false (by rw [e]; show ¬ (0 : Int) < ((0 : Nat) : Int); decide)]
          refine iteF (iteF ⟨_, rfl, .inl ⟨rfl, _, SqL.of hd⟩, _, rfl, J, _, _, rfl, rfl, hd, by rw [iv_len]; exact hlen, ?_⟩)
          rw [iv_snoc]
          exact fin _ (by rw [stepJ, if_neg hc])
        | some y =>
          have hne : acc ≠ [] := by intro e; rw [e] at hq; cases hq
          have hpos : 0 < acc.length := List.length_pos_iff.mpr hne
          rw [decide_eq_true (by omega : (0 : Int) < (acc.length : Int))]
          refine iteT ⟨_, rfl, _, rfl, _, rfl, pp, us, _, _, rfl, rfl, SqL.of hppd, atI_nat hu, g, _, _, _, rfl, rfl, SqT.of hgd, rfl, rfl, _, rfl, ?_⟩
          rw [nat_eq_int]
          by_cases c2 : n = pr.2
          · rw [decide_eq_true c2]
            refine iteT ⟨_, rfl, _, rfl, J, iv acc, _, _, rfl, rfl, SqL.of hd, atI_neg1 (iv_last hq), _, rfl, _, rfl, pp, us, _, _, rfl, rfl, SqL.of hppd, atI_nat hu, g, _, _, _, rfl, rfl, SqT.of hgd, rfl, rfl, _, rfl, ?_⟩
            rw [nat_eq_int]
            by_cases c1 : y = pr.1
            · rw [decide_eq_true c1]
              refine iteT ⟨_, rfl, _, rfl, _, _, rfl, rfl, _, rfl, _, rfl, J, iv acc, _, acc.length - 1, rfl, rfl, hd, by rw [iv_len]; exact ixN_neg1 hpos, ?_⟩
              have := iv_set_last (b + i) hne
              rw [show ((b + i : Nat) : Int) = (b : Int) + (i : Int) from rfl] at this
              rw [this]
              exact fin _ (by rw [stepJ, if_pos ⟨by rw [hq, c1], c2⟩])
            · rw [decide_eq_false c1]
              have hc : ¬ (acc.getLast? = some pr.1 ∧ n = pr.2) := by rw [hq]; rintro ⟨q, _⟩; exact c1 (Option.some.inj q)
              refine iteF ⟨_, rfl, .inl ⟨rfl, _, SqL.of hd⟩, _, rfl, J, _, _, rfl, rfl, hd, by rw [iv_len]; exact hlen, ?_⟩
              rw [iv_snoc]
              exact fin _ (by rw [stepJ, if_neg hc])
          · rw [decide_eq_false c2]
            have hc : ¬ (acc.getLast? = some pr.1 ∧ n = pr.2) := fun q => c2 q.2
            refine iteF (iteF ⟨_, rfl, .inl ⟨rfl, _, SqL.of hd⟩, _, rfl, J, _, _, rfl, rfl, hd, by rw [iv_len]; exact hlen, ?_⟩)
            rw [iv_snoc]
            exact fin _ (by rw [stepJ, if_neg hc])
      · rintro σ H1 ⟨w6, rfl, s1, _, hd⟩
        rw [iv_len, List.take_length, stepJ_all hmne, hR] at hd
        refine ⟨_, rfl, J, _, _, _, rfl, sa.trans s1, .inr (sa.free hJ), ?_⟩
        rw [hd, take_succ_of hpr, cutL_snoc, take_len_of hpr]
    · rintro σ H1 ⟨z', v4, v5, v6, rfl, sa, hz', hzv⟩
      refine ⟨_, rfl, q H1 z' sa hz' ?_⟩
      rw [hzv]; simp
theorem ok_cutB {f : Addr} {fd : FuncData} (F : C8.Fun K "_law_cut" "_law_cut" s__law_cut f fd) (T : Txt K mg) (c__law_staged : C8.Cal P w K mg base 1 "_law_staged" sp_stagedB []) : FnOk P w K mg base C8.CX0 2 f fd ["pairs", "alphabet", "text"] sp_cutB := by
  refine C8.fn0 F sc__law_cut (fun vs H Q E h => ?_) (fun cdv A outer s H vs Q E hr h => ?_)
  · obtain ⟨pp, us, ps, al, t, rfl, _⟩ := h; rfl
  · obtain ⟨pp, us, ps, al, t, rfl, hpp, hps, hw, hpl, hal, hin, htl, q⟩ := h
    refine ⟨_, (pss_one (ps_ret (C8.pe_c c__law_staged hr (by first | decide | omega) (by rfl) (pa_cons (pv 0) (pa_cons (pe_callB call_len_str (by rfl) T.b_len PySem.boot_len (pa_cons (pv 1) pa_nil)) (pa_cons (pe_lc (own := [("sign", 3)]) (g := gName 3) (tt := tYes) rfl sc__law_cut.nd (pi_str (pv 2)) (blkOk_by (N := N__law_cut) (sc := C8.fnScope s__law_cut) (by decide +kernel)) (fun _ _ _ _ _ => (pg_name (i := 3) sc__law_cut.nd rfl (Or.inl rfl))) (fun _ _ _ _ _ => pts_nil) (fun _ _ _ _ _ => (pe_bmK (K := K) rfl PySem.F.plainAttrs_str PySem.F.slot_str_find PySem.F.type_str_find mt_find (pv 1) (pa_cons (pv 3) pa_nil)))) (pa_cons (pe_callB call_len_seq (by rfl) T.b_len PySem.boot_len (pa_cons (pv 0) pa_nil)) pa_nil))))))), ?_⟩
    have hul : us.length = ps.length := hps.length
    refine ⟨_, rfl, _, rfl, S al, rfl, by rw [S_len]; exact small_le hal, _, rfl, S t, rfl, fun D0 hD0 => lc_it walk_str (fun i H' => Same H H' ∧ H' D0 = some (.lst (iv (lets al (t.take i))))) ⟨same_new hD0, upd_same⟩ (fun _ _ _ _ => trivial) ?_ ?_⟩
    · rintro i x Ha Hb hi ⟨sa, ha⟩ ⟨rfl, c, hc, rfl⟩
      rw [S_get] at hc
      obtain ⟨r, hfind⟩ := find_sign (hin c (List.mem_of_getElem? hc))
      have hf : Txt.find (S al) ⟨#[c]⟩ = (al.idxOf c : Int) := by unfold Txt.find; rw [hfind]
      refine ⟨rfl, _, rfl, rfl, _, rfl, S al, ⟨#[c]⟩, rfl, rfl, ?_⟩
      rw [hf]
      refine ⟨_, ha, ?_, Same.put sa hD0, ?_⟩
      · rw [iv_len, lets, List.length_map, List.length_take]; exact smallB (by omega)
      · rw [upd_same, iv_snoc, lets, lets, map_take_succ hc]
    rintro H1 ⟨s0, hy0⟩
    rw [S_size, List.take_length] at hy0
    refine ⟨_, rfl, pp, _, rfl, .inl (SqL.of (s0 _ _ hpp)), pp, D0, us, ps, lets al t, al.length, ps.length, by rw [S_len, hul]; rfl, s0 _ _ hpp, hps.same (Same.t s0), hw, hy0, by rw [lets, List.length_map]; exact htl, Nat.le_refl _, hpl, hal, fun H2 z' s2 hz' hzv => ?_⟩
    rw [List.take_length] at hzv
    refine q H2 z' (s0.trans s2) ?_ hzv
    rcases hz' with rfl | e
    · exact hD0
    · exact s0.free e
end
end RJ
end

section
set_option maxRecDepth 100000
set_option maxHeartbeats 8000000
namespace RJ
open PySem PySem.Spec PyProof.Rows L2
abbrev s__law_pairs : Stmt := top 54
abbrev N__law_pairs : List Str := ["pool", "alphabet", "most", "pairs", "texts", "k", "left", "right", "row", "at", "text", "sign"]
theorem sc__law_pairs : FnScope N__law_pairs ["pool", "alphabet", "most"] (C8.fnScope s__law_pairs) := C8.fnScope_by (by decide +kernel)
abbrev s__law_text : Stmt := top 55
abbrev N__law_text : List Str := ["pool", "alphabet", "texts", "most", "text", "k", "way", "part"]
theorem sc__law_text : FnScope N__law_text ["pool", "alphabet", "texts", "most"] (C8.fnScope s__law_text) := C8.fnScope_by (by decide +kernel)
theorem cutS_mid (l : List Nat) {k m : Nat} (h : k + m ≤ l.length) : cutS (S l) (some (k : Int)) (some ((k + m : Nat) : Int)) = S ((l.drop k).take m) := by
  show (⟨(((S l).cps.toList.drop (HT.sIx (S l).length 0 (some (k : Int)))).take (HT.sIx (S l).length (S l).length (some ((k + m : Nat) : Int)) - HT.sIx (S l).length 0 (some (k : Int)))).toArray⟩ : Str) = ⟨((l.drop k).take m).toArray⟩
  rw [HT.sIx_nat, HT.sIx_nat, S_len, Nat.min_eq_left h, Nat.min_eq_left (show k ≤ l.length by omega), show k + m - k = m by omega]
theorem cutS_take (l : List Nat) (k : Nat) : cutS (S l) none (some (k : Int)) = S (l.take k) := by
  show (⟨(((S l).cps.toList.drop (HT.sIx (S l).length 0 none)).take (HT.sIx (S l).length (S l).length (some (k : Int)) - HT.sIx (S l).length 0 none)).toArray⟩ : Str) = ⟨(l.take k).toArray⟩
  rw [HT.sIx_nat, HT.sIx_none, S_len, Nat.sub_zero, List.drop_zero]
  have e : l.take (min k l.length) = l.take k := by
    by_cases h : k ≤ l.length
    · rw [Nat.min_eq_left h]
    · rw [Nat.min_eq_right (by omega), List.take_length, List.take_of_length_le (by omega)]
  exact congrArg (fun z : List Nat => (⟨z.toArray⟩ : Str)) e
/-- each two letters that follow one another, the last ones first -/
def chP (L : Nat) : List (Nat × Nat) := (List.range (L - 1)).map fun i => (L - 2 - i, L - 1 - i)
theorem chP_len (L : Nat) : (chP L).length = L - 1 := by rw [chP, List.length_map, List.length_range]
theorem chP_get {L i : Nat} (h : i < L - 1) : (chP L)[i]? = some (L - 2 - i, L - 1 - i) := by
  rw [chP, List.getElem?_map, List.getElem?_range h]; rfl
theorem idx_at {al : List Nat} (hnd : al.Nodup) {i c : Nat} (h : al[i]? = some c) : al.idxOf c = i := by
  obtain ⟨hi, e⟩ := List.getElem?_eq_some_iff.mp h
  rw [← e]; exact hnd.idxOf_getElem i hi
theorem chP_proper {al : List Nat} (hnd : al.Nodup) : Proper al (chP al.length) := by
  intro i p hp
  have hi : i < al.length - 1 := by rw [← chP_len]; exact (List.getElem?_eq_some_iff.mp hp).1
  rw [chP_get hi] at hp
  obtain rfl := Option.some.inj hp
  obtain ⟨c, hc⟩ : ∃ c, al[al.length - 2 - i]? = some c := ⟨_, List.getElem?_eq_getElem (by omega)⟩
  obtain ⟨d, hd⟩ : ∃ d, al[al.length - 1 - i]? = some d := ⟨_, List.getElem?_eq_getElem (by omega)⟩
  have ec := texts_letter (al := al) (ps := (chP al.length).take i) hc
  have ed := texts_letter (al := al) (ps := (chP al.length).take i) hd
  refine ⟨by rw [textsOf_len]; show al.length - 2 - i < _; omega, by rw [textsOf_len]; show al.length - 1 - i < _; omega, ?_, ?_⟩
  · show ((_ ++ _ : List Nat)).length ≤ 40
    rw [ec, ed]; show 2 ≤ 40; decide
  · show cutL al.length _ (lets al (_ ++ _)) = [al.length - 2 - i, al.length - 1 - i]
    rw [ec, ed]
    show cutL al.length _ [al.idxOf c, al.idxOf d] = _
    rw [idx_at hnd hc, idx_at hnd hd]
    refine cut_done fun q hq hm => ?_
    rw [adjs_cons2, adjs_one] at hm
    rw [List.mem_singleton.mp hm] at hq
    obtain ⟨j, hj⟩ := List.getElem?_of_mem hq
    have hji : j < i := by have := (List.getElem?_eq_some_iff.mp hj).1; rw [List.length_take] at this; omega
    rw [List.getElem?_take_of_lt hji, chP_get (by omega)] at hj
    have := congrArg Prod.fst (Option.some.inj hj)
    have : al.length - 2 - j = al.length - 2 - i := this
    omega
theorem chP_text {al : List Nat} {i c d : Nat} (hi : i < al.length - 1) (hc : al[al.length - 2 - i]? = some c) (hd : al[al.length - 1 - i]? = some d) : textsOf al ((chP al.length).take (i + 1)) = textsOf al ((chP al.length).take i) ++ [[c, d]] := by
  rw [take_succ_of (chP_get hi), textsOf_snoc]
  show _ ++ [(textsOf al _).getD (al.length - 2 - i) [] ++ (textsOf al _).getD (al.length - 1 - i) []] = _
  rw [texts_letter hc, texts_letter hd]; rfl
theorem sv_strV (al : List Nat) : (sv al).map V.str = strV (textsOf al []) := by
  unfold sv strV textsOf
  rw [List.foldl_nil, List.map_map, List.map_map]; rfl
def sp_pairsB : Sp := fun vs H Q _ => ∃ (p : Addr) (al : List Nat) (m : Nat), vs = [.ref p, .str (S al), .int (m : Int)] ∧ PoolAt p H ∧ al.Nodup ∧ 1 ≤ al.length ∧ al.length ≤ 30 ∧ m ≤ 30 ∧
  ∀ H' r pp tx us ps, PSame p H H' → pp ≠ p → tx ≠ p → H' r = some (.tup [.ref pp, .ref tx]) → H' pp = some (.lst us) → PairsAt H' us ps → H' tx = some (.lst (strV (textsOf al ps))) → Proper al ps → ps.length ≤ 30 → Q (.ref r) H'
section
variable {P : Program} {w : World} {K : PySem.W.Frag} {mg : Str → Option Value} {base : Heap}
theorem ok_pairsB {f : Addr} {fd : FuncData} (F : C8.Fun K "_law_pairs" "_law_pairs" s__law_pairs f fd) (T : Txt K mg) (c__law_draw : C8.Cal P w K mg base 1 "_law_draw" sp_drawB []) (c__law_cut : C8.Cal P w K mg base 2 "_law_cut" sp_cutB []) : FnOk P w K mg base C8.CX0 3 f fd ["pool", "alphabet", "most"] sp_pairsB := by
  refine C8.fn0 F sc__law_pairs (fun vs H Q E h => ?_) (fun cdv A outer s H vs Q E hr h => ?_)
  · obtain ⟨p, al, m, rfl, _⟩ := h; rfl
  · obtain ⟨p, al, m, rfl, hP, hnd, h1, h30, hm, q⟩ := h
    have hu := hu_of hr
    have hu64 := hu64_of hr
    refine ⟨_, (pss_cons (ps_set (i := 3) sc__law_pairs.nd rfl (Or.inl rfl) (pe_lst pa_nil))
      (pss_cons (ps_setLc (own := [("sign", 11)]) (i := 4) (g := gName 11) (tt := tYes) rfl sc__law_pairs.nd rfl rfl (sw_true rfl rfl rfl (by decide +kernel)) (pi_str (pv 1)) (blkOk_by (N := N__law_pairs) (sc := C8.fnScope s__law_pairs) (by decide +kernel)) (fun _ _ _ _ _ => (pg_name (i := 11) sc__law_pairs.nd rfl (Or.inl rfl))) (fun _ _ _ _ _ => pts_nil) (fun _ _ _ _ _ => (pv 11)))
      (pss_cons (ps_if (PW.pt (pw_and (pt_cmpR op_gt (pe_callB call_len_str (by rfl) T.b_len PySem.boot_len (pa_cons (pv 1) pa_nil)) pe_int (nomark _)) (pw_and1 (pt_cmpR op_eq (C8.pe_c c__law_draw hr (by first | decide | omega) (by rfl) (pa_cons (pv 0) (pa_cons pe_int pa_nil))) pe_int (nomark _))))) (pss_cons (ps_setLc (own := [("k", 5)]) (i := 3) (g := gName 5) (tt := tYes) rfl sc__law_pairs.nd rfl rfl (sw_true rfl rfl rfl (by decide +kernel)) (pi_range3 rfl T.b_range (pa_cons (pe_op op_sub (pe_callB call_len_str (by rfl) T.b_len PySem.boot_len (pa_cons (pv 1) pa_nil)) pe_int) (pa_cons (pe_un un_neg pe_int) (pa_cons (pe_un un_neg pe_int) pa_nil)))) (blkOk_by (N := N__law_pairs) (sc := C8.fnScope s__law_pairs) (by decide +kernel)) (fun _ _ _ _ _ => (pg_name (i := 5) sc__law_pairs.nd rfl (Or.inl rfl))) (fun _ _ _ _ _ => pts_nil) (fun _ _ _ _ _ => (pe_tup (pa_cons (pv 5) (pa_cons (pe_op op_add (pv 5) pe_int) pa_nil)))))
      (pss_one (ps_ret (pe_tup (pa_cons (pv 3) (pa_cons (pe_op op_cat (pv 4) (pe_lc (own := [("k", 5)]) (g := gName 5) (tt := tYes) rfl sc__law_pairs.nd (pi_range3 rfl T.b_range (pa_cons (pe_op op_sub (pe_callB call_len_str (by rfl) T.b_len PySem.boot_len (pa_cons (pv 1) pa_nil)) pe_int) (pa_cons (pe_un un_neg pe_int) (pa_cons (pe_un un_neg pe_int) pa_nil)))) (blkOk_by (N := N__law_pairs) (sc := C8.fnScope s__law_pairs) (by decide +kernel)) (fun _ _ _ _ _ => (pg_name (i := 5) sc__law_pairs.nd rfl (Or.inl rfl))) (fun _ _ _ _ _ => pts_nil) (fun _ _ _ _ _ => (pe_slice sl_str (pv 1) (po_some (pv 5)) (po_some (pe_op op_add (pv 5) pe_int)))))) pa_nil)))))) pss_nil)
      (pss_cons (ps_for PassesOwn.never rfl (pi_range1 rfl T.b_range (pa_cons (pv 2) pa_nil)) (pg_name (i := 5) sc__law_pairs.nd rfl (Or.inl rfl)) (pss_cons (ps_set (i := 6) sc__law_pairs.nd rfl (Or.inl rfl) (C8.pe_c c__law_draw hr (by first | decide | omega) (by rfl) (pa_cons (pv 0) (pa_cons (pe_callB call_len_seq (by rfl) T.b_len PySem.boot_len (pa_cons (pv 4) pa_nil)) pa_nil))))
      (pss_cons (ps_set (i := 7) sc__law_pairs.nd rfl (Or.inl rfl) (C8.pe_c c__law_draw hr (by first | decide | omega) (by rfl) (pa_cons (pv 0) (pa_cons (pe_callB call_len_seq (by rfl) T.b_len PySem.boot_len (pa_cons (pv 4) pa_nil)) pa_nil))))
      (pss_cons (ps_if (pt_cmpR op_gt (C8.pe_c c__law_draw hr (by first | decide | omega) (by rfl) (pa_cons (pv 0) (pa_cons pe_int pa_nil))) pe_int (nomark _)) (pss_cons (ps_set (i := 8) sc__law_pairs.nd rfl (Or.inl rfl) (C8.pe_c c__law_cut hr (by first | decide | omega) (by rfl) (pa_cons (pv 3) (pa_cons (pv 1) (pa_cons (pe_op op_add_str (pe_ix ix_list (pv 4) (pv 6) (fun _ _ => rfl)) (pe_ix ix_list (pv 4) (pv 7) (fun _ _ => rfl))) pa_nil)))))
      (pss_cons (ps_set (i := 9) sc__law_pairs.nd rfl (Or.inl rfl) (C8.pe_c c__law_draw hr (by first | decide | omega) (by rfl) (pa_cons (pv 0) (pa_cons (pe_callB (call_max2 rfl) (by rfl) T.b_max (by decide +kernel) (pa_cons pe_int (pa_cons (pe_op op_sub (pe_callB call_len_seq (by rfl) T.b_len PySem.boot_len (pa_cons (pv 8) pa_nil)) pe_int) pa_nil))) pa_nil))))
      (pss_one (ps_if (pt_cmpR op_gt (pe_callB call_len_seq (by rfl) T.b_len PySem.boot_len (pa_cons (pv 8) pa_nil)) pe_int (nomark _)) (pss_cons (ps_set (i := 6) sc__law_pairs.nd rfl (Or.inl rfl) (pe_ix ix_list (pv 8) (pv 9) (fun _ _ => rfl)))
      (pss_one (ps_set (i := 7) sc__law_pairs.nd rfl (Or.inl rfl) (pe_ix ix_list (pv 8) (pe_op op_add (pv 9) pe_int) (fun _ _ => rfl))))) pss_nil)))) pss_nil)
      (pss_cons (ps_set (i := 10) sc__law_pairs.nd rfl (Or.inl rfl) (pe_op op_add_str (pe_ix ix_list (pv 4) (pv 6) (fun _ _ => rfl)) (pe_ix ix_list (pv 4) (pv 7) (fun _ _ => rfl))))
      (pss_one (ps_if (PW.pt (pw_and (pt_cmpR op_le (pe_callB call_len_str (by rfl) T.b_len PySem.boot_len (pa_cons (pv 10) pa_nil)) pe_int (nomark _)) (pw_and1 (pt_cmpR (op_eqD hu64) (C8.pe_c c__law_cut hr (by first | decide | omega) (by rfl) (pa_cons (pv 3) (pa_cons (pv 1) (pa_cons (pv 10) pa_nil)))) (pe_lst (pa_cons (pv 6) (pa_cons (pv 7) pa_nil))) (nomark _))))) (pss_cons (ps_expr (pe_bm PySem.F.plainAttrs_list PySem.F.slot_list_append PySem.F.type_list_append mt_append (pv 3) (pa_cons (pe_tup (pa_cons (pv 6) (pa_cons (pv 7) pa_nil))) pa_nil)))
      (pss_one (ps_expr (pe_bm PySem.F.plainAttrs_list PySem.F.slot_list_append PySem.F.type_list_append mt_append (pv 4) (pa_cons (pv 10) pa_nil))))) pss_nil)))))))
      (pss_one (ps_ret (pe_tup (pa_cons (pv 3) (pa_cons (pv 4) pa_nil))))))))), ?_⟩
    have hSl : (S al).length ≤ sizeLine := by rw [S_len]; exact small_le (by omega)
    refine ⟨Nat.zero_le _, fun pp hpp => ?_⟩
    have hppp : pp ≠ p := hP.free hpp
    have s0 := (PSame.refl hP).new (o := .lst []) hpp
    refine ⟨_, rfl, S al, rfl, fun tx htx => lc_it walk_str (fun i H' => PSame p H H' ∧ H' pp = some (.lst []) ∧ H' tx = some (.lst ((sv (al.take i)).map V.str))) ⟨s0.new htx, (upd_ne (ne_of_none upd_same htx)).trans upd_same, upd_same⟩ (fun _ _ _ _ => trivial) ?_ ?_⟩
    · rintro i x Ha Hb hi ⟨sa, hpb, ha⟩ ⟨rfl, c, hc, rfl⟩
      rw [S_get] at hc
      have hne : pp ≠ tx := ne_of_none upd_same htx
      refine ⟨rfl, _, rfl, _, ha, ?_, sa.put (s0.none htx), (upd_ne hne).trans hpb, ?_⟩
      · unfold sv; rw [List.length_map, List.length_map, List.length_take]; exact small1000 (by omega)
      · rw [upd_same, take_succ_of hc]; unfold sv; rw [List.map_append, List.map_append]; rfl
    rintro H1 ⟨s1, hp1, ht1⟩
    rw [S_size, List.take_length, sv_strV] at ht1
    have hne : pp ≠ tx := ne_of_none upd_same htx
    have htx0 : H tx = none := s0.none htx
    have htxp : tx ≠ p := hP.free htx0
    -- the chain
    dsimp only [gName]
    refine ⟨_, rfl, S al, rfl, hSl, _, _, rfl, rfl, _, rfl, ?_⟩
    rw [S_len]
    generalize hM : tSeq (tFor _ _ _) _ _ = M
    have key : ∀ H2, PSame p H1 H2 → M [some (.ref p), some (.str (S al)), some (.int (m : Int)), some (.ref pp), some (.ref tx), none, none, none, none, none, none, none] H2 := by
      intro H2 s12
      rw [← hM]
      have s2 := s1.trans s12
      refine ⟨_, rfl, _, rfl, by omega, by omega, for_it walk_range (fun i σ H' => ∃ (us : List V) (ps : List (Nat × Nat)) (v5 v6 v7 v8 v9 v10 : Option V), σ = [some (.ref p), some (.str (S al)), some (.int (m : Int)), some (.ref pp), some (.ref tx), v5, v6, v7, v8, v9, v10, none] ∧ PSame p H H' ∧
          H' pp = some (.lst us) ∧ PairsAt H' us ps ∧ H' tx = some (.lst (strV (textsOf al ps))) ∧ Proper al ps ∧ ps.length ≤ i)
        ⟨[], [], none, none, none, none, none, none, rfl, s2, s12.lst hppp hp1, .nil, s12.lst htxp ht1, Proper.nil al, Nat.le_refl _⟩ (fun _ _ _ _ _ => trivial) ?_ ?_⟩
      · rintro i x σ Ha Hb hi ⟨us, ps, v5, v6, v7, v8, v9, v10, rfl, sa, hpb, hps, htb, hprop, hle⟩ ⟨rfl, hx⟩
        have him : i < m := by simpa using hi
        obtain ⟨L, hLe⟩ : ∃ L, L = al.length + ps.length := ⟨_, rfl⟩
        have hLt : (textsOf al ps).length = L := by rw [textsOf_len, hLe]
        have hL : (strV (textsOf al ps)).length = L := by rw [strV_len, hLt]
        have pos : (0 : Int) < ((strV (textsOf al ps)).length : Int) := by rw [hL]; omega
        refine ⟨_, rfl, _, rfl, tx, _, rfl, .inl (SqL.of htb), p, _, rfl, sa.at1, pos, fun H3 a0 s3 ha0 => ?_⟩
        have sa3 := sa.trans s3
        refine ⟨_, rfl, _, rfl, tx, _, rfl, .inl (SqL.of (s3.lst htxp htb)), p, _, rfl, s3.at1, pos, fun H4 b0 s4 hb0 => ?_⟩
        have s34 := s3.trans s4
        rw [hL] at ha0 hb0
        dsimp only [gName]
        -- the draw
        refine ⟨_, rfl, p, 3, rfl, s34.at1, by decide, fun H5 r5 s5 hr5 => ⟨_, _, rfl, rfl, _, rfl, ?_⟩⟩
        have s35 := s34.trans s5
        generalize hM2 : tSeq (tAsg _ _) (tIfS _ _ _) _ = M2
        have key2 : ∀ (a b : Nat) (w8 w9 : Option V) (H6 : Hp), PSame p Hb H6 → a < L → b < L → M2 [some (.ref p), some (.str (S al)), some (.int (m : Int)), some (.ref pp), some (.ref tx), some x, some (.int (a : Int)), some (.int (b : Int)), w8, w9, v10, none] H6 := by
          intro a b w8 w9 H6 s6 ha hb
          rw [← hM2]
          have htx6 := s6.lst htxp htb
          have hpp6 := s6.lst hppp hpb
          have haT : a < (textsOf al ps).length := by rw [hLt]; exact ha
          have hbT : b < (textsOf al ps).length := by rw [hLt]; exact hb
          have hla : ((textsOf al ps).getD a []).length ≤ 40 := getD_short hprop.short a
          have hlb : ((textsOf al ps).getD b []).length ≤ 40 := getD_short hprop.short b
          have hmem : ∀ c ∈ (textsOf al ps).getD a [] ++ (textsOf al ps).getD b [], c ∈ al := fun c hc => by
            have key : ∀ i, c ∈ (textsOf al ps).getD i [] → c ∈ al := fun i hi => by
              rcases getD_mem_or (ts := textsOf al ps) (i := i) with m | m
              · exact textsOf_al _ m c hi
              · rw [m] at hi; cases hi
            rcases List.mem_append.mp hc with z | z
            · exact key _ z
            · exact key _ z
          refine ⟨_, rfl, _, rfl, tx, _, _, _, rfl, rfl, SqL.of htx6, atI_nat (strV_at haT), _, rfl, _, rfl, tx, _, _, _, rfl, rfl, SqL.of htx6, atI_nat (strV_at hbT), S _, S _, rfl, rfl, ?_, ?_⟩
          · rw [S_len, S_len]; exact small_le (by omega)
          rw [S_cat]
          obtain ⟨tt, htt⟩ : ∃ tt, tt = (textsOf al ps).getD a [] ++ (textsOf al ps).getD b [] := ⟨_, rfl⟩
          have htl : tt.length ≤ 80 := by rw [htt, List.length_append]; omega
          rw [← htt] at hmem ⊢
          refine ⟨_, rfl, S tt, rfl, by rw [S_len]; exact small_le (by omega), _, _, rfl, rfl, _, rfl, ?_⟩
          rw [S_len]
          by_cases h40 : tt.length ≤ 40
          · rw [decide_eq_true (by omega : (tt.length : Int) ≤ 40)]
            refine iteT ⟨_, rfl, _, rfl, _, rfl, pp, us, ps, al, tt, rfl, hpp6, hps.same s6.tt, hprop.wf, by omega, by omega, hmem, by omega, fun H7 y s7 hyn hy => ?_⟩
            refine ⟨_, rfl, _, rfl, by show 2 ≤ sizeLine; decide, fun D hD => ?_⟩
            have sd := Same.new (o := .lst [V.int (a : Int), V.int (b : Int)]) s7 hD
            have hyD : (upd H7 D (.lst [V.int (a : Int), V.int (b : Int)])) y = some (.lst (iv (cutL al.length ps (lets al tt)))) := (upd_ne (ne_of_none hy hD)).trans hy
            refine ⟨_, _, .lst (SqL.of hyD) (iv_dp _), .lst (SqL.of upd_same) (iv_dp [a, b]), shaped_iv _, shaped_iv [a, b], _, rfl, ?_⟩
            have ec : PyData.eqv (.list ((cutL al.length ps (lets al tt)).map fun (n : Nat) => PyData.int (n : Int))) (.list ([a, b].map fun (n : Nat) => PyData.int (n : Int))) = decide (cutL al.length ps (lets al tt) = [a, b]) := by rw [PyData.eqv, eqv_iv]
            have s8 := s6.then sd
            have hpp8 := sd _ _ hpp6
            have htx8 := sd _ _ htx6
            have hps8 := hps.same s8.tt
            by_cases hcut : cutL al.length ps (lets al tt) = [a, b]
            · rw [decide_eq_true hcut] at ec
              rw [ec]
              have hokp : okP al (textsOf al ps) ps (a, b) := ⟨haT, hbT, by rw [← htt]; exact h40, by rw [← htt]; exact hcut⟩
              have hul : us.length = ps.length := hps.length
              refine iteT ⟨_, rfl, .inl ⟨rfl, _, SqL.of hpp8⟩, _, rfl, _, rfl, by show 2 ≤ sizeLine; decide, fun g hg => ?_⟩
              have sg := same_new (o := .tup [V.int (a : Int), V.int (b : Int)]) hg
              have hpp9 := sg _ _ hpp8
              have htx9 := sg _ _ htx8
              have hps9 := hps8.same (Same.t sg)
              have g2v : (upd (upd H7 D (.lst [V.int (a : Int), V.int (b : Int)])) g (.tup [V.int (a : Int), V.int (b : Int)])) g = some (.tup [V.int (a : Int), V.int (b : Int)]) := upd_same
              have s9 := (sa.trans s8).new (o := .tup [V.int (a : Int), V.int (b : Int)]) hg
              generalize upd (upd H7 D (.lst [V.int (a : Int), V.int (b : Int)])) g (.tup [V.int (a : Int), V.int (b : Int)]) = H9 at *
              refine ⟨pp, us, _, rfl, rfl, hpp9, small1000 (by omega), ?_⟩
              have sT : SameT H9 (upd H9 pp (.lst (us ++ [.ref g]))) := SameT.put hpp9
              have t3 : (upd H9 pp (.lst (us ++ [.ref g]))) tx = some (.lst (strV (textsOf al ps))) := (upd_ne (Ne.symm hne)).trans htx9
              have p3 : (upd H9 pp (.lst (us ++ [.ref g]))) pp = some (.lst (us ++ [.ref g])) := upd_same
              have q3 : PairsAt (upd H9 pp (.lst (us ++ [.ref g]))) (us ++ [.ref g]) (ps ++ [(a, b)]) := Paired.snoc ⟨g, rfl, sT _ _ g2v⟩ (hps9.same sT)
              have s10 := s9.put (o := .lst (us ++ [.ref g])) hpp
              generalize upd H9 pp (.lst (us ++ [.ref g])) = H10 at *
              refine ⟨_, rfl, .inl ⟨rfl, _, SqL.of t3⟩, _, rfl, tx, _, _, rfl, rfl, t3, by rw [strV_len, textsOf_len]; exact small1000 (by omega), ?_⟩
              have et : strV (textsOf al ps) ++ [V.str (S tt)] = strV (textsOf al (ps ++ [(a, b)])) := by rw [strV_snoc, textsOf_snoc, htt]
              refine ⟨us ++ [.ref g], ps ++ [(a, b)], _, _, _, _, _, _, rfl, s10.put htx0, (upd_ne hne).trans p3, q3.same (SameT.put t3), by rw [upd_same, et], hprop.snoc hokp, by rw [List.length_append, List.length_singleton]; omega⟩
            · rw [decide_eq_false hcut] at ec
              rw [ec]
              exact iteF ⟨us, ps, _, _, _, _, _, _, rfl, sa.trans s8, hpp8, hps8, htx8, hprop, by omega⟩
          · rw [decide_eq_false (by omega : ¬ (tt.length : Int) ≤ 40)]
            exact iteF (iteF ⟨us, ps, _, _, _, _, _, _, rfl, sa.trans s6, hpp6, hps.same s6.tt, htx6, hprop, by omega⟩)
        obtain ⟨e, he⟩ : ∃ e : Bool, e = decide ((0 : Int) < (r5 : Int)) := ⟨_, rfl⟩
        show (if decide ((0 : Int) < (r5 : Int)) = true then _ else _)
        rw [← he]
        cases e with
        | false => exact iteF (key2 a0 b0 _ _ _ s35 (by omega) (by omega))
        | true =>
          have htx5 := s35.lst htxp htb
          have hpp5 := s35.lst hppp hpb
          have haT : a0 < (textsOf al ps).length := by omega
          have hbT : b0 < (textsOf al ps).length := by omega
          have hla : ((textsOf al ps).getD a0 []).length ≤ 40 := getD_short hprop.short a0
          have hlb : ((textsOf al ps).getD b0 []).length ≤ 40 := getD_short hprop.short b0
          have hmem : ∀ c ∈ (textsOf al ps).getD a0 [] ++ (textsOf al ps).getD b0 [], c ∈ al := fun c hc => by
            have key : ∀ i, c ∈ (textsOf al ps).getD i [] → c ∈ al := fun i hi => by
              rcases getD_mem_or (ts := textsOf al ps) (i := i) with m | m
              · exact textsOf_al _ m c hi
              · rw [m] at hi; cases hi
            rcases List.mem_append.mp hc with z | z
            · exact key _ z
            · exact key _ z
          refine iteT ⟨_, rfl, _, rfl, _, rfl, _, rfl, tx, _, _, _, rfl, rfl, SqL.of htx5, atI_nat (strV_at haT), _, rfl, _, rfl, tx, _, _, _, rfl, rfl, SqL.of htx5, atI_nat (strV_at hbT), S _, S _, rfl, rfl, ?_, ?_⟩
          · rw [S_len, S_len]; exact small_le (by omega)
          rw [S_cat]
          obtain ⟨tt, htt⟩ : ∃ tt, tt = (textsOf al ps).getD a0 [] ++ (textsOf al ps).getD b0 [] := ⟨_, rfl⟩
          have htl : tt.length ≤ 80 := by rw [htt, List.length_append]; omega
          rw [← htt] at hmem ⊢
          refine ⟨pp, us, ps, al, tt, rfl, hpp5, hps.same s35.tt, hprop.wf, by omega, by omega, hmem, by omega, fun H7 y s7 hyn hy => ?_⟩
          have s37 := s35.then s7
          have hyp : y ≠ p := s35.at1.free hyn
          obtain ⟨R, hR⟩ : ∃ R, R = cutL al.length ps (lets al tt) := ⟨_, rfl⟩
          have hRin : ∀ x ∈ R, x < al.length + ps.length := by rw [hR]; exact cut_lt hmem
          have hRl : R.length ≤ 80 := by have := cutL_len al.length ps (lets al tt); rw [← hR, lets, List.length_map] at this; omega
          rw [← hR] at hy
          obtain ⟨mx, hmx⟩ : ∃ mx : Int, mx = (if (R.length : Int) - 1 > 1 then (R.length : Int) - 1 else 1) := ⟨_, rfl⟩
          have hmxp : 0 < mx ∧ (1 < R.length → mx ≤ (R.length : Int) - 1) := by rw [hmx]; split <;> omega
          refine ⟨_, rfl, _, rfl, y, _, rfl, .inl (SqL.of hy), _, _, rfl, rfl, _, _, rfl, ?_⟩
          rw [iv_len, ← hmx]
          refine ⟨p, mx, rfl, s37.at1, hmxp.1, fun H8 r8 s8 hr8 => ?_⟩
          have s38 := s37.trans s8
          have hy8 := s8.lst hyp hy
          refine ⟨_, rfl, y, _, rfl, .inl (SqL.of hy8), _, _, rfl, rfl, _, rfl, ?_⟩
          rw [iv_len]
          by_cases hR1 : 1 < R.length
          · rw [decide_eq_true (by omega : (1 : Int) < (R.length : Int))]
            have hr81 : r8 + 1 < R.length := by have := hmxp.2 hR1; omega
            obtain ⟨u1, hu1⟩ : ∃ u, R[r8]? = some u := ⟨_, List.getElem?_eq_getElem (by omega)⟩
            obtain ⟨u2, hu2⟩ : ∃ u, R[r8 + 1]? = some u := ⟨_, List.getElem?_eq_getElem hr81⟩
            have hb1 := hRin u1 (List.mem_of_getElem? hu1)
            have hb2 := hRin u2 (List.mem_of_getElem? hu2)
            refine iteT ⟨_, rfl, _, rfl, y, _, _, _, rfl, rfl, SqL.of hy8, atI_nat (iv_at hu1), _, rfl, _, rfl, _, _, rfl, rfl, y, _, _, _, rfl, rfl, SqL.of hy8, atI_nat (iv_at hu2), ?_⟩
            exact key2 u1 u2 _ _ _ s38 (by omega) (by omega)
          · rw [decide_eq_false (by omega : ¬ (1 : Int) < (R.length : Int))]
            exact iteF (key2 a0 b0 _ _ _ s38 (by omega) (by omega))
      · rintro σ H3 ⟨us, ps, v5, v6, v7, v8, v9, v10, rfl, sa, hpb, hps, htb, hprop, hle⟩
        refine ⟨_, rfl, _, rfl, by show 2 ≤ sizeLine; decide, fun r hr' => ?_⟩
        have sN := same_new (o := .tup [.ref pp, .ref tx]) hr'
        have hle' : ps.length ≤ m := by simpa using hle
        exact q _ r pp tx us ps (sa.new hr') hppp htxp upd_same (sN _ _ hpb) (hps.same (Same.t sN)) (sN _ _ htb) hprop (by omega)
    by_cases hlen : 2 < al.length
    · rw [decide_eq_true (by omega : (2 : Int) < (al.length : Int))]
      refine iteT ⟨_, rfl, p, 5, rfl, s1.at1, by decide, fun H2 r2 s2 hr2 => ⟨rfl, _, rfl, ?_⟩⟩
      obtain ⟨e, he⟩ : ∃ e : Bool, e = decide (V.int (r2 : Int) = V.int 0) := ⟨_, rfl⟩
      show (if decide (V.int (r2 : Int) = V.int 0) = true then _ else _)
      rw [← he]
      cases e with
      | false => exact iteF (key H2 s2)
      | true =>
        have s12 := s1.trans s2
        have ht2 := s2.lst htxp ht1
        have hn : ((al.length : Int) - 2 - (-1)).toNat = al.length - 1 := by omega
        have rg : RgC ((al.length : Int) - 2) (-1) (-1) (al.length - 1) := by rw [← hn]; exact RgC.neg (by omega) (by omega) (by decide) (by decide)
        refine iteT ⟨_, rfl, S al, rfl, hSl, _, _, rfl, rfl, _, rfl, _, rfl, ?_⟩
        rw [S_len]
        refine ⟨_, _, _, _, rfl, rg, fun D hD => lc_it walk_rangeC (fun i H' => PSame p H H' ∧ H' tx = some (.lst (strV (textsOf al []))) ∧ ∃ us, H' D = some (.lst us) ∧ PairsAt H' us ((chP al.length).take i)) ⟨s12.new hD, (upd_ne (ne_of_none ht2 hD)).trans ht2, [], upd_same, .nil⟩ (fun _ _ _ _ => trivial) ?_ ?_⟩
        · rintro i x Ha Hb hi ⟨sa, hta, us, hDa, hpa⟩ ⟨rfl, hx⟩
          obtain rfl : x = V.int ((al.length - 2 - i : Nat) : Int) := hx.trans (congrArg V.int (by omega))
          refine ⟨rfl, _, rfl, _, rfl, _, _, rfl, rfl, by show 2 ≤ sizeLine; decide, fun g hg => ?_⟩
          have sg := same_new (o := .tup [V.int ((al.length - 2 - i : Nat) : Int), V.int (((al.length - 2 - i : Nat) : Int) + 1)]) hg
          have hDg := sg _ _ hDa
          have hul := hpa.length
          rw [List.length_take, chP_len] at hul
          have hDp : tx ≠ D := ne_of_none ht2 hD
          refine ⟨us, hDg, small1000 (by omega), (sa.new hg).put (s12.none hD), (upd_ne hDp).trans (sg _ _ hta), us ++ [.ref g], upd_same, ?_⟩
          rw [take_succ_of (chP_get hi)]
          refine Paired.snoc ⟨g, rfl, SameT.put hDg _ _ ?_⟩ ((hpa.same (Same.t sg)).same (SameT.put hDg))
          rw [upd_same]
          exact congrArg (fun z : Int => some (HO.tup [V.int ((al.length - 2 - i : Nat) : Int), V.int z])) (by omega : ((al.length - 2 - i : Nat) : Int) + 1 = ((al.length - 1 - i : Nat) : Int))
        rintro H3 ⟨s3, ht3, us, hD3, hp3⟩
        have hfull : (chP al.length).take (al.length - 1) = chP al.length := by rw [List.take_of_length_le (by rw [chP_len]; exact Nat.le_refl _)]
        rw [hfull] at hp3
        have hD0 : H D = none := s12.none hD
        refine ⟨_, rfl, _, rfl, _, rfl, S al, rfl, hSl, _, _, rfl, rfl, _, rfl, _, rfl, ?_⟩
        rw [S_len]
        refine ⟨_, _, _, _, rfl, rg, fun D2 hD2 => lc_it walk_rangeC (fun i H' => PSame p H H' ∧ H' tx = some (.lst (strV (textsOf al []))) ∧ H' D = some (.lst us) ∧ SameT H3 H' ∧ ∃ ts, H' D2 = some (.lst (strV ts)) ∧ textsOf al [] ++ ts = textsOf al ((chP al.length).take i) ∧ ts.length = i) ⟨s3.new hD2, (upd_ne (ne_of_none ht3 hD2)).trans ht3, (upd_ne (ne_of_none hD3 hD2)).trans hD3, Same.t (same_new hD2), [], upd_same, by rw [List.take_zero, List.append_nil], rfl⟩ (fun _ _ _ _ => trivial) ?_ ?_⟩
        · rintro i x Ha Hb hi ⟨sa, hta, hDa, sT, ts, hD2a, hts, htl⟩ ⟨rfl, hx⟩
          obtain rfl : x = V.int ((al.length - 2 - i : Nat) : Int) := hx.trans (congrArg V.int (by omega))
          obtain ⟨c, hc⟩ : ∃ c, al[al.length - 2 - i]? = some c := ⟨_, List.getElem?_eq_getElem (by omega)⟩
          obtain ⟨d, hd⟩ : ∃ d, al[al.length - 1 - i]? = some d := ⟨_, List.getElem?_eq_getElem (by omega)⟩
          refine ⟨rfl, _, rfl, _, rfl, _, rfl, _, rfl, _, _, rfl, rfl, _, rfl, S al, rfl, hSl, ?_⟩
          have e2 : (al.drop (al.length - 2 - i)).take 2 = [c, d] := by
            obtain ⟨hc1, hc2⟩ := List.getElem?_eq_some_iff.mp hc
            obtain ⟨hd1, hd2⟩ := List.getElem?_eq_some_iff.mp hd
            rw [List.drop_eq_getElem_cons hc1, List.take_succ_cons, hc2]
            have hd1' : al.length - 2 - i + 1 < al.length := by omega
            rw [List.drop_eq_getElem_cons hd1', List.take_succ_cons, List.take_zero]
            have : al[al.length - 2 - i + 1] = d := by rw [← hd2]; congr 1; omega
            rw [this]
          rw [show (((al.length - 2 - i : Nat) : Int) + 2) = ((al.length - 2 - i + 2 : Nat) : Int) from rfl, cutS_mid al (by omega), e2]
          have hne1 : tx ≠ D2 := ne_of_none ht3 hD2
          have hne2 : D ≠ D2 := ne_of_none hD3 hD2
          refine ⟨_, hD2a, ?_, sa.put (s3.none hD2), (upd_ne hne1).trans hta, (upd_ne hne2).trans hDa, fun b xs e => SameT.put hD2a _ _ (sT _ _ e), ts ++ [[c, d]], ?_, ?_, ?_⟩
          · rw [strV_len]; exact small1000 (by omega)
          · rw [upd_same, strV_snoc]
          · rw [← List.append_assoc, hts, chP_text hi hc hd]
          · rw [List.length_append, List.length_singleton, htl]
        · rintro H4 ⟨s4, ht4, hD4, sT, ts, hD24, hts, htl⟩
          rw [hfull] at hts
          refine ⟨tx, D2, _, _, rfl, rfl, ht4, hD24, by rw [strV_len, strV_len, textsOf_len, htl]; exact small_le (by show al.length + 0 + _ ≤ 1000; omega), fun t2 ht2' => ⟨by show 2 ≤ sizeLine; decide, fun r hr' => ?_⟩⟩
          have eT : strV (textsOf al []) ++ strV ts = strV (textsOf al (chP al.length)) := by rw [← hts, strV, strV, strV, List.map_append]
          have sN := Same.new (o := .tup [.ref D, .ref t2]) (same_new (o := .lst (strV (textsOf al []) ++ strV ts)) ht2') hr'
          have ht2v : (upd (upd H4 t2 (.lst (strV (textsOf al []) ++ strV ts))) r (.tup [.ref D, .ref t2])) t2 = some (.lst (strV (textsOf al (chP al.length)))) := by rw [upd_ne (ne_of_none upd_same hr'), upd_same, eT]
          exact q _ r D t2 us (chP al.length) (s4.then sN) (s12.at1.free hD) (s4.at1.free ht2') upd_same (sN _ _ hD4) ((hp3.same sT).same (Same.t sN)) ht2v (chP_proper hnd) (by rw [chP_len]; omega)
    · rw [decide_eq_false (by omega : ¬ (2 : Int) < (al.length : Int))]
      exact iteF (iteF (key H1 (PSame.refl s1.at1)))
end
end RJ
end

section
set_option maxRecDepth 100000
set_option maxHeartbeats 8000000
namespace RJ
open PySem PySem.Spec PyProof.Rows L2
abbrev s__law_same : Stmt := top 58
abbrev N__law_same : List Str := ["told", "due", "k"]
theorem sc__law_same : FnScope N__law_same ["told", "due"] (C8.fnScope s__law_same) := C8.fnScope_by (by decide +kernel)
theorem smallB_le {n : Nat} (h : n ≤ 100000) : n ≤ sizeLine := Nat.le_of_lt (smallB h)
theorem fold_memB {a : Array Nat} : ∀ (k : Nat) (b : Array Nat) (c : Nat), c ∈ ((List.replicate k a).foldl (· ++ ·) b).toList → c ∈ b.toList ∨ c ∈ a.toList
  | 0, _, _, h => .inl h
  | k + 1, b, c, h => by
    have h' : c ∈ ((List.replicate k a).foldl (· ++ ·) (b ++ a)).toList := h
    rcases fold_memB k (b ++ a) c h' with z | z
    · rw [Array.toList_append] at z
      exact List.mem_append.mp z
    · exact .inr z
theorem mul_memB {u : List Nat} {n : Int} {c : Nat} (h : c ∈ (PySem.Txt.mul (S u) n).cps.toList) : c ∈ u := by
  unfold PySem.Txt.mul at h
  split at h
  · cases h
  · split at h
    · exact h
    · rcases fold_memB _ _ c h with z | z
      · cases z
      · exact z
theorem mulB (u : List Nat) (n : Nat) : ∃ t : List Nat, PySem.Txt.mul (S u) (n : Int) = S t ∧ (∀ c ∈ t, c ∈ u) ∧ t.length ≤ u.length * n := by
  refine ⟨(PySem.Txt.mul (S u) (n : Int)).cps.toList, ?_, fun c hc => mul_memB hc, ?_⟩
  · show PySem.Txt.mul (S u) (n : Int) = ⟨(PySem.Txt.mul (S u) (n : Int)).cps.toList.toArray⟩
    rw [Array.toArray_toList]
  · have := len_mul_leN (x := S u) (n := (n : Int)) (L := u.length) (N := n) (by rw [S_len]; exact Nat.le_refl _) (Int.le_refl _)
    rw [Array.length_toList]; exact this
theorem mulB_ok {u : List Nat} {n : Nat} (h : u.length ≤ 40) (hn : n ≤ 7) : MulOk (S u) (n : Int) := by
  have e63 : (2 : Int) ^ 63 = 9223372036854775808 := by decide
  refine ⟨by rw [decide_eq_false (by omega), decide_eq_false (by omega)]; rfl, fun h1 _ => ?_, fun _ _ => ?_⟩
  · rw [S_len]
    have h2 : (1000 : Int) ≤ ((2 : Int) ^ 63 - 1) / (n : Int) := by
      refine (Int.le_ediv_iff_mul_le (by omega)).mpr ?_
      have : ((2 : Int) ^ 63 - 1) = 9223372036854775807 := by decide
      omega
    omega
  · rw [S_len]
    exact decide_eq_false (by
      have h3 : u.length * Int.toNat (n : Int) ≤ 40 * 7 := Nat.mul_le_mul h (by rw [Int.toNat_natCast]; exact hn)
      have := small1000 (n := u.length * Int.toNat (n : Int)) (by omega)
      omega)
theorem cutS_sub (l : List Nat) (lo hi : Option Int) : ∃ u, cutS (S l) lo hi = S u ∧ u.length ≤ l.length ∧ ∀ c ∈ u, c ∈ l := by
  refine ⟨(cutS (S l) lo hi).cps.toList, rfl, ?_, fun c hc => ?_⟩
  · have := cutS_length (S l) lo hi
    rw [S_len] at this
    exact this
  · exact List.mem_of_mem_drop (List.mem_of_mem_take hc)
theorem cut_midV (l : List Nat) (i k : Nat) (h : i + k ≤ l.length) : cutV (iv l) (some (i : Int)) (some ((i + k : Nat) : Int)) = iv ((l.drop i).take k) := by
  unfold cutV
  rw [HT.sIx_nat, HT.sIx_nat, iv_len, Nat.min_eq_left h, Nat.min_eq_left (show i ≤ l.length by omega), show i + k - i = k by omega]
  unfold iv
  rw [List.map_take, List.map_drop]
def sp_textB : Sp := fun vs H Q _ => ∃ (p tx : Addr) (al : List Nat) (ps : List (Nat × Nat)) (most : Nat), vs = [.ref p, .str (S al), .ref tx, .int (most : Int)] ∧ PoolAt p H ∧ H tx = some (.lst (strV (textsOf al ps))) ∧ tx ≠ p ∧ Proper al ps ∧ 1 ≤ al.length ∧ al.length ≤ 30 ∧ ps.length ≤ 100 ∧ most ≤ 60 ∧
  ∀ H' t, PSame p H H' → (∀ c ∈ t, c ∈ al) → t.length ≤ most → Q (.str (S t)) H'
def sp_joinedB : Sp := fun vs H Q _ => ∃ (tx a : Addr) (ts : List (List Nat)) (row : List Nat), vs = [.ref tx, .ref a] ∧ H tx = some (.lst (strV ts)) ∧ H a = some (.lst (iv row)) ∧ (∀ x ∈ row, x < ts.length) ∧ (∀ t ∈ ts, t.length ≤ 40) ∧ row.length ≤ 1000 ∧
  ∀ H', Same H H' → Q (.str (S (textR ts row))) H'
def sp_stretch : Sp := fun vs H Q _ => ∃ (p a : Addr) (row : List Nat), vs = [.ref p, .ref a] ∧ PoolAt p H ∧ H a = some (.lst (iv row)) ∧ a ≠ p ∧ row.length ≤ 1000 ∧
  ∀ H' z i k, PSame p H H' → H z = none → H' z = some (.lst (iv ((row.drop i).take k))) → Q (.ref z) H'
section
variable {P : Program} {w : World} {K : PySem.W.Frag} {mg : Str → Option Value} {base : Heap}
theorem ok_sameB0 {f : Addr} {fd : FuncData} (F : C8.Fun K "_law_same" "_law_same" s__law_same f fd) (T : Txt K mg) : FnOk P w K mg base C8.CX0 1 f fd ["told", "due"] (sp_same 0) := by
  refine C8.fn0 F sc__law_same (fun vs H Q E h => ?_) (fun cdv A outer s H vs Q E hr h => ?_)
  · obtain ⟨x, y, rfl, _⟩ := h; rfl
  · obtain ⟨x, y, rfl, ⟨rfl, hsc⟩, q⟩ := h
    refine ⟨_, (pss_cons (ps_if (pt_val (pe_callB call_isi (by rfl) T.b_isinstance (by decide +kernel) (pa_cons (pv 1) (pa_cons (pe_bltn (v := .ty "tuple") (u := .type "tuple") rfl T.b_tuple (by decide +kernel) rfl) pa_nil)))) (pss_cons (ps_if (PW.pt (pw_or (pt_not (pt_val (pe_callB call_isi (by rfl) T.b_isinstance (by decide +kernel) (pa_cons (pv 0) (pa_cons (pe_bltn (v := .ty "tuple") (u := .type "tuple") rfl T.b_tuple (by decide +kernel) rfl) pa_nil))))) (pw_or1 (pt_cmpR op_ne (pe_callB call_len_seq (by rfl) T.b_len PySem.boot_len (pa_cons (pv 0) pa_nil)) (pe_callB call_len_seq (by rfl) T.b_len PySem.boot_len (pa_cons (pv 1) pa_nil)) (nomark _))))) (pss_one (ps_ret pe_bl)) pss_nil)
      (pss_cons (ps_for PassesOwn.never rfl (pi_range1 rfl T.b_range (pa_cons (pe_callB call_len_seq (by rfl) T.b_len PySem.boot_len (pa_cons (pv 1) pa_nil)) pa_nil)) (pg_name (i := 2) sc__law_same.nd rfl (Or.inl rfl)) (pss_one (ps_if (pt_not (pt_val pe_never)) (pss_one (ps_ret pe_bl)) pss_nil)))
      (pss_one (ps_ret pe_bl)))) pss_nil)
      (pss_cons (ps_if (pt_cmpR op_isN (pv 1) pe_non (nomark _)) (pss_one (ps_ret (pe_cmpR op_isN (pv 0) pe_non (nomark _)))) pss_nil)
      (pss_cons (ps_if (pt_val (pe_callB call_isi (by rfl) T.b_isinstance (by decide +kernel) (pa_cons (pv 1) (pa_cons (pe_bltn (v := .ty "bool") (u := .type "bool") rfl T.b_bool (by decide +kernel) rfl) pa_nil)))) (pss_one (ps_ret (pe_and (pe_callB call_isi (by rfl) T.b_isinstance (by decide +kernel) (pa_cons (pv 0) (pa_cons (pe_bltn (v := .ty "bool") (u := .type "bool") rfl T.b_bool (by decide +kernel) rfl) pa_nil))) (pe_one (pe_cmpR op_eq (pv 0) (pv 1) (nomark _)))))) pss_nil)
      (pss_cons (ps_if (pt_val (pe_callB call_isi (by rfl) T.b_isinstance (by decide +kernel) (pa_cons (pv 1) (pa_cons (pe_bltn (v := .ty "str") (u := .type "str") rfl T.b_str (by decide +kernel) rfl) pa_nil)))) (pss_one (ps_ret (pe_and (pe_callB call_isi (by rfl) T.b_isinstance (by decide +kernel) (pa_cons (pv 0) (pa_cons (pe_bltn (v := .ty "str") (u := .type "str") rfl T.b_str (by decide +kernel) rfl) pa_nil))) (pe_one (pe_cmpR op_eq (pv 0) (pv 1) (nomark _)))))) pss_nil)
      (pss_one (ps_ret (pe_and (pe_callB call_isi (by rfl) T.b_isinstance (by decide +kernel) (pa_cons (pv 0) (pa_cons (pe_bltn (v := .ty "int") (u := .type "int") rfl T.b_int (by decide +kernel) rfl) pa_nil))) (pe_and (pe_not (pe_callB call_isi (by rfl) T.b_isinstance (by decide +kernel) (pa_cons (pv 0) (pa_cons (pe_bltn (v := .ty "bool") (u := .type "bool") rfl T.b_bool (by decide +kernel) rfl) pa_nil)))) (pe_one (pe_cmpR op_eq (pv 0) (pv 1) (nomark _))))))))))), ?_⟩
    cases x with
    | non => exact ⟨_, rfl, _, .ty "tuple", _, .type "tuple", false, rfl, .ty _, .base .non, kit_ty (by decide +kernel), _, rfl, iteF ⟨_, rfl, rfl, _, rfl, iteT ⟨_, rfl, rfl, q H (Same.refl H)⟩⟩⟩
    | str z =>
      refine ⟨_, rfl, _, .ty "tuple", .type "str", .type "tuple", false, rfl, .ty _, .base (.str z), kit_ty (by decide +kernel), _, rfl, iteF ⟨_, rfl, rfl, _, rfl, iteF ?_⟩⟩
      refine ⟨_, rfl, _, .ty "bool", .type "str", .type "bool", false, rfl, .ty _, .base (.str z), kit_ty (by decide +kernel), _, rfl, iteF ⟨_, rfl, _, .ty "str", .type "str", .type "str", true, rfl, .ty _, .base (.str z), kit_ty (by decide +kernel), _, rfl, iteT ⟨_, rfl, _, .ty "str", .type "str", .type "str", true, rfl, .ty _, .base (.str z), kit_ty (by decide +kernel), _, rfl, iteT ⟨_, rfl, _, rfl, rfl, ?_⟩⟩⟩⟩
      rw [decide_eq_true rfl]; exact q H (Same.refl H)
    | bl z =>
      refine ⟨_, rfl, _, .ty "tuple", .type "bool", .type "tuple", false, rfl, .ty _, .base (.bl z), kit_ty (by decide +kernel), _, rfl, iteF ⟨_, rfl, rfl, _, rfl, iteF ?_⟩⟩
      refine ⟨_, rfl, _, .ty "bool", .type "bool", .type "bool", true, rfl, .ty _, .base (.bl z), kit_ty (by decide +kernel), _, rfl, iteT ⟨_, rfl, _, .ty "bool", .type "bool", .type "bool", true, rfl, .ty _, .base (.bl z), kit_ty (by decide +kernel), _, rfl, iteT ⟨_, rfl, _, rfl, rfl, ?_⟩⟩⟩
      rw [decide_eq_true rfl]; exact q H (Same.refl H)
    | int z =>
      refine ⟨_, rfl, _, .ty "tuple", .type "int", .type "tuple", false, rfl, .ty _, .base (.int z), kit_ty (by decide +kernel), _, rfl, iteF ⟨_, rfl, rfl, _, rfl, iteF ?_⟩⟩
      refine ⟨_, rfl, _, .ty "bool", .type "int", .type "bool", false, rfl, .ty _, .base (.int z), kit_ty (by decide +kernel), _, rfl, iteF ⟨_, rfl, _, .ty "str", .type "int", .type "str", false, rfl, .ty _, .base (.int z), kit_ty (by decide +kernel), _, rfl, iteF ⟨_, rfl, _, .ty "int", .type "int", .type "int", true, rfl, .ty _, .base (.int z), kit_ty (by decide +kernel), _, rfl, iteT ⟨_, rfl, _, .ty "bool", .type "int", .type "bool", false, rfl, .ty _, .base (.int z), kit_ty (by decide +kernel), _, rfl, _, rfl, iteT ⟨_, rfl, _, rfl, rfl, ?_⟩⟩⟩⟩⟩
      rw [decide_eq_true rfl]; exact q H (Same.refl H)
    | byt z => cases hsc
    | flt z => cases hsc
    | ref z => cases hsc
    | ty z => cases hsc
theorem ok_sameBS {f : Addr} {fd : FuncData} {n k : Nat} (F : C8.Fun K "_law_same" "_law_same" s__law_same f fd) (T : Txt K mg) (c__law_same : C8.Cal P w K mg base k "_law_same" (sp_same n) []) : FnOk P w K mg base C8.CX0 (k + 1) f fd ["told", "due"] (sp_same (n + 1)) := by
  refine C8.fn0 F sc__law_same (fun vs H Q E h => ?_) (fun cdv A outer s H vs Q E hr h => ?_)
  · obtain ⟨x, y, rfl, _⟩ := h; rfl
  · obtain ⟨x, y, rfl, hxy, q⟩ := h
    refine ⟨_, (pss_cons (ps_if (pt_val (pe_callB call_isi (by rfl) T.b_isinstance (by decide +kernel) (pa_cons (pv 1) (pa_cons (pe_bltn (v := .ty "tuple") (u := .type "tuple") rfl T.b_tuple (by decide +kernel) rfl) pa_nil)))) (pss_cons (ps_if (PW.pt (pw_or (pt_not (pt_val (pe_callB call_isi (by rfl) T.b_isinstance (by decide +kernel) (pa_cons (pv 0) (pa_cons (pe_bltn (v := .ty "tuple") (u := .type "tuple") rfl T.b_tuple (by decide +kernel) rfl) pa_nil))))) (pw_or1 (pt_cmpR op_ne (pe_callB call_len_seq (by rfl) T.b_len PySem.boot_len (pa_cons (pv 0) pa_nil)) (pe_callB call_len_seq (by rfl) T.b_len PySem.boot_len (pa_cons (pv 1) pa_nil)) (nomark _))))) (pss_one (ps_ret pe_bl)) pss_nil)
      (pss_cons (ps_for PassesOwn.never rfl (pi_range1 rfl T.b_range (pa_cons (pe_callB call_len_seq (by rfl) T.b_len PySem.boot_len (pa_cons (pv 1) pa_nil)) pa_nil)) (pg_name (i := 2) sc__law_same.nd rfl (Or.inl rfl)) (pss_one (ps_if (pt_not (pt_val (C8.pe_c c__law_same hr (by first | decide | omega) (by rfl) (pa_cons (pe_ix ix_tup (pv 0) (pv 2) (fun _ _ => rfl)) (pa_cons (pe_ix ix_tup (pv 1) (pv 2) (fun _ _ => rfl)) pa_nil))))) (pss_one (ps_ret pe_bl)) pss_nil)))
      (pss_one (ps_ret pe_bl)))) pss_nil)
      (pss_cons (ps_if (pt_cmpR op_isN (pv 1) pe_non (nomark _)) (pss_one (ps_ret (pe_cmpR op_isN (pv 0) pe_non (nomark _)))) pss_nil)
      (pss_cons (ps_if (pt_val (pe_callB call_isi (by rfl) T.b_isinstance (by decide +kernel) (pa_cons (pv 1) (pa_cons (pe_bltn (v := .ty "bool") (u := .type "bool") rfl T.b_bool (by decide +kernel) rfl) pa_nil)))) (pss_one (ps_ret (pe_and (pe_callB call_isi (by rfl) T.b_isinstance (by decide +kernel) (pa_cons (pv 0) (pa_cons (pe_bltn (v := .ty "bool") (u := .type "bool") rfl T.b_bool (by decide +kernel) rfl) pa_nil))) (pe_one (pe_cmpR op_eq (pv 0) (pv 1) (nomark _)))))) pss_nil)
      (pss_cons (ps_if (pt_val (pe_callB call_isi (by rfl) T.b_isinstance (by decide +kernel) (pa_cons (pv 1) (pa_cons (pe_bltn (v := .ty "str") (u := .type "str") rfl T.b_str (by decide +kernel) rfl) pa_nil)))) (pss_one (ps_ret (pe_and (pe_callB call_isi (by rfl) T.b_isinstance (by decide +kernel) (pa_cons (pv 0) (pa_cons (pe_bltn (v := .ty "str") (u := .type "str") rfl T.b_str (by decide +kernel) rfl) pa_nil))) (pe_one (pe_cmpR op_eq (pv 0) (pv 1) (nomark _)))))) pss_nil)
      (pss_one (ps_ret (pe_and (pe_callB call_isi (by rfl) T.b_isinstance (by decide +kernel) (pa_cons (pv 0) (pa_cons (pe_bltn (v := .ty "int") (u := .type "int") rfl T.b_int (by decide +kernel) rfl) pa_nil))) (pe_and (pe_not (pe_callB call_isi (by rfl) T.b_isinstance (by decide +kernel) (pa_cons (pv 0) (pa_cons (pe_bltn (v := .ty "bool") (u := .type "bool") rfl T.b_bool (by decide +kernel) rfl) pa_nil)))) (pe_one (pe_cmpR op_eq (pv 0) (pv 1) (nomark _))))))))))), ?_⟩
    rcases hxy with ⟨rfl, hsc⟩ | ⟨a, b, xs, ys, rfl, rfl, ha, hb, hlen, hP⟩
    · cases x with
      | non => exact ⟨_, rfl, _, .ty "tuple", _, .type "tuple", false, rfl, .ty _, .base .non, kit_ty (by decide +kernel), _, rfl, iteF ⟨_, rfl, rfl, _, rfl, iteT ⟨_, rfl, rfl, q H (Same.refl H)⟩⟩⟩
      | str z =>
        refine ⟨_, rfl, _, .ty "tuple", .type "str", .type "tuple", false, rfl, .ty _, .base (.str z), kit_ty (by decide +kernel), _, rfl, iteF ⟨_, rfl, rfl, _, rfl, iteF ?_⟩⟩
        refine ⟨_, rfl, _, .ty "bool", .type "str", .type "bool", false, rfl, .ty _, .base (.str z), kit_ty (by decide +kernel), _, rfl, iteF ⟨_, rfl, _, .ty "str", .type "str", .type "str", true, rfl, .ty _, .base (.str z), kit_ty (by decide +kernel), _, rfl, iteT ⟨_, rfl, _, .ty "str", .type "str", .type "str", true, rfl, .ty _, .base (.str z), kit_ty (by decide +kernel), _, rfl, iteT ⟨_, rfl, _, rfl, rfl, ?_⟩⟩⟩⟩
        rw [decide_eq_true rfl]; exact q H (Same.refl H)
      | bl z =>
        refine ⟨_, rfl, _, .ty "tuple", .type "bool", .type "tuple", false, rfl, .ty _, .base (.bl z), kit_ty (by decide +kernel), _, rfl, iteF ⟨_, rfl, rfl, _, rfl, iteF ?_⟩⟩
        refine ⟨_, rfl, _, .ty "bool", .type "bool", .type "bool", true, rfl, .ty _, .base (.bl z), kit_ty (by decide +kernel), _, rfl, iteT ⟨_, rfl, _, .ty "bool", .type "bool", .type "bool", true, rfl, .ty _, .base (.bl z), kit_ty (by decide +kernel), _, rfl, iteT ⟨_, rfl, _, rfl, rfl, ?_⟩⟩⟩
        rw [decide_eq_true rfl]; exact q H (Same.refl H)
      | int z =>
        refine ⟨_, rfl, _, .ty "tuple", .type "int", .type "tuple", false, rfl, .ty _, .base (.int z), kit_ty (by decide +kernel), _, rfl, iteF ⟨_, rfl, rfl, _, rfl, iteF ?_⟩⟩
        refine ⟨_, rfl, _, .ty "bool", .type "int", .type "bool", false, rfl, .ty _, .base (.int z), kit_ty (by decide +kernel), _, rfl, iteF ⟨_, rfl, _, .ty "str", .type "int", .type "str", false, rfl, .ty _, .base (.int z), kit_ty (by decide +kernel), _, rfl, iteF ⟨_, rfl, _, .ty "int", .type "int", .type "int", true, rfl, .ty _, .base (.int z), kit_ty (by decide +kernel), _, rfl, iteT ⟨_, rfl, _, .ty "bool", .type "int", .type "bool", false, rfl, .ty _, .base (.int z), kit_ty (by decide +kernel), _, rfl, _, rfl, iteT ⟨_, rfl, _, rfl, rfl, ?_⟩⟩⟩⟩⟩
        rw [decide_eq_true rfl]; exact q H (Same.refl H)
      | byt z => cases hsc
      | flt z => cases hsc
      | ref z => cases hsc
      | ty z => cases hsc
    · have el : xs.length = ys.length := hP.length
      refine ⟨_, rfl, _, .ty "tuple", .type "tuple", .type "tuple", true, rfl, .ty _, .base (.tup hb), kit_ty (by decide +kernel), _, rfl, iteT ?_⟩
      refine ⟨_, rfl, _, .ty "tuple", .type "tuple", .type "tuple", true, rfl, .ty _, .base (.tup ha), kit_ty (by decide +kernel), _, rfl, iteF ?_⟩
      refine ⟨_, rfl, a, xs, rfl, .inr (SqT.of ha), _, rfl, b, ys, rfl, .inr (SqT.of hb), rfl, _, rfl, ?_⟩
      rw [el, decide_eq_true rfl]
      refine iteF ⟨_, rfl, b, ys, rfl, .inr (SqT.of hb), _, rfl, by omega, by omega, for_it walk_range (fun i σ H' => ∃ v2 : Option V, σ = [some (.ref a), some (.ref b), v2] ∧ Same H H') ⟨none, rfl, Same.refl H⟩ (fun _ _ _ _ _ => trivial) ?_ ?_⟩
      · rintro i x σ Ha Hb hi ⟨v2, rfl, sa⟩ ⟨rfl, rfl⟩
        have hi2 : i < ys.length := by simpa using hi
        have hi1 : i < xs.length := by omega
        obtain ⟨y, hy, hsame⟩ := Paired.at hP (List.getElem?_eq_getElem hi1)
        refine ⟨_, rfl, _, rfl, a, xs, _, _, rfl, rfl, SqT.of (sa _ _ ha), at_of (by simp) (List.getElem?_eq_getElem hi1), _, rfl, _, rfl, b, ys, _, _, rfl, rfl, SqT.of (sa _ _ hb), at_of (by simp) hy, _, _, rfl, SameD.mono sa hsame, fun H2 s2 => ⟨_, rfl, iteF ⟨_, rfl, sa.trans s2⟩⟩⟩
      · rintro σ H1 ⟨v2, rfl, sa⟩
        exact q H1 sa
theorem ok_textB {f : Addr} {fd : FuncData} (F : C8.Fun K "_law_text" "_law_text" s__law_text f fd) (T : Txt K mg) (c__law_draw : C8.Cal P w K mg base 1 "_law_draw" sp_drawB []) : FnOk P w K mg base C8.CX0 2 f fd ["pool", "alphabet", "texts", "most"] sp_textB := by
  refine C8.fn0 F sc__law_text (fun vs H Q E h => ?_) (fun cdv A outer s H vs Q E hr h => ?_)
  · obtain ⟨p, tx, al, ps, most, rfl, _⟩ := h; rfl
  · obtain ⟨p, tx, al, ps, most, rfl, hP, htx, htp, hprop, h1, h30, hpl, hm, q⟩ := h
    refine ⟨_, (pss_cons (ps_set (i := 4) sc__law_text.nd rfl (Or.inl rfl) pe_str)
      (pss_cons (ps_for PassesOwn.never rfl (pi_range1 rfl T.b_range (pa_cons (C8.pe_c c__law_draw hr (by first | decide | omega) (by rfl) (pa_cons (pv 0) (pa_cons (pe_op op_add (pv 3) pe_int) pa_nil))) pa_nil)) (pg_name (i := 5) sc__law_text.nd rfl (Or.inl rfl)) (pss_one (ps_if (pt_cmpR op_lt (pe_callB call_len_str (by rfl) T.b_len PySem.boot_len (pa_cons (pv 4) pa_nil)) (pv 3) (nomark _)) (pss_cons (ps_set (i := 6) sc__law_text.nd rfl (Or.inl rfl) (C8.pe_c c__law_draw hr (by first | decide | omega) (by rfl) (pa_cons (pv 0) (pa_cons pe_int pa_nil))))
      (pss_cons (ps_set (i := 7) sc__law_text.nd rfl (Or.inl rfl) (pe_ix ix_str (pv 1) (C8.pe_c c__law_draw hr (by first | decide | omega) (by rfl) (pa_cons (pv 0) (pa_cons (pe_callB call_len_str (by rfl) T.b_len PySem.boot_len (pa_cons (pv 1) pa_nil)) pa_nil))) (fun _ _ => rfl)))
      (pss_cons (ps_if (pt_cmpR op_gt (pv 6) pe_int (nomark _)) (pss_one (ps_set (i := 7) sc__law_text.nd rfl (Or.inl rfl) (pe_op op_mul_text (pe_ix ix_list (pv 2) (C8.pe_c c__law_draw hr (by first | decide | omega) (by rfl) (pa_cons (pv 0) (pa_cons (pe_callB call_len_seq (by rfl) T.b_len PySem.boot_len (pa_cons (pv 2) pa_nil)) pa_nil))) (fun _ _ => rfl)) (pe_ix ix_list (pe_lst (pa_cons pe_int (pa_cons pe_int (pa_cons pe_int (pa_cons pe_int pa_nil))))) (pe_op op_sub (pv 6) pe_int) (fun _ _ => rfl))))) pss_nil)
      (pss_cons (ps_if (pt_cmpR op_eq (pv 6) pe_int (nomark _)) (pss_one (ps_set (i := 7) sc__law_text.nd rfl (Or.inl rfl) (pe_slice sl_str (pv 1) (po_some (pe_bm PySem.F.plainAttrs_str PySem.F.slot_str_find PySem.F.type_str_find mt_find (pv 1) (pa_cons (pv 7) pa_nil))) po_none))) pss_nil)
      (pss_one (ps_set (i := 4) sc__law_text.nd rfl (Or.inl rfl) (pe_op op_add_str (pv 4) (pv 7)))))))) pss_nil)))
      (pss_one (ps_ret (pe_slice sl_str (pv 4) po_none (po_some (pv 3))))))), ?_⟩
    have hSl : (S al).length ≤ sizeLine := by rw [S_len]; exact small_le (by omega)
    refine ⟨_, rfl, _, rfl, _, _, rfl, rfl, p, _, rfl, hP, by omega, fun H1 r1 s1 hr1 => ⟨_, rfl, by omega, by omega, ?_⟩⟩
    refine for_it walk_range (fun i σ H' => ∃ (t : List Nat) (v5 v6 v7 : Option V), σ = [some (.ref p), some (.str (S al)), some (.ref tx), some (.int (most : Int)), some (.str (S t)), v5, v6, v7] ∧ PSame p H H' ∧ (∀ c ∈ t, c ∈ al) ∧ t.length ≤ 400)
      ⟨[], none, none, none, rfl, s1, fun c hc => (List.not_mem_nil hc).elim, by decide⟩ (fun _ _ _ _ _ => trivial) ?_ ?_
    · rintro i x σ Ha Hb hi ⟨t, v5, v6, v7, rfl, sa, htm, htl⟩ ⟨rfl, hx⟩
      have hStl : (S t).length ≤ sizeLine := by rw [S_len]; exact small_le (by omega)
      refine ⟨_, rfl, S t, rfl, hStl, _, rfl, _, _, rfl, rfl, _, rfl, ?_⟩
      rw [S_len]
      by_cases hlt : t.length < most
      · rw [decide_eq_true (by omega : (t.length : Int) < (most : Int))]
        refine iteT ⟨_, rfl, p, 8, rfl, sa.at1, by decide, fun H2 way s2 hway => ?_⟩
        have sa2 := sa.trans s2
        refine ⟨_, rfl, _, rfl, _, rfl, S al, rfl, hSl, ?_⟩
        rw [S_len]
        refine ⟨p, _, rfl, s2.at1, by omega, fun H3 r3 s3 hr3 => ?_⟩
        have sa3 := sa2.trans s3
        obtain ⟨c, hc⟩ : ∃ c, al[r3]? = some c := ⟨_, List.getElem?_eq_getElem (by omega)⟩
        refine ⟨S al, _, c, rfl, rfl, hSl, atI_nat hc, ?_⟩
        dsimp only [gName]
        refine ⟨_, rfl, _, _, rfl, rfl, _, rfl, ?_⟩
        obtain ⟨e, he⟩ : ∃ e : Bool, e = decide ((3 : Int) < (way : Int)) := ⟨_, rfl⟩
        show (if decide ((3 : Int) < (way : Int)) = true then _ else _)
        rw [← he]
        generalize hM : tSeq (tIfS _ _ _) _ _ = M
        have key : ∀ (part : List Nat) (H4 : Hp), PSame p H H4 → (∀ c ∈ part, c ∈ al) → part.length ≤ 300 → M [some (.ref p), some (.str (S al)), some (.ref tx), some (.int (most : Int)), some (.str (S t)), some x, some (.int (way : Int)), some (.str (S part))] H4 := by
          intro part H4 s4 hpm hpl
          rw [← hM]
          show tTest _ _ _ _
          generalize hM2 : tAsg (tOp _ (tVar 4) (tVar 7)) _ _ = M2
          have key2 : ∀ (part : List Nat), (∀ c ∈ part, c ∈ al) → part.length ≤ 300 → M2 [some (.ref p), some (.str (S al)), some (.ref tx), some (.int (most : Int)), some (.str (S t)), some x, some (.int (way : Int)), some (.str (S part))] H4 := by
            intro part hpm hpl
            rw [← hM2]
            refine ⟨_, rfl, _, rfl, S t, S part, rfl, rfl, by rw [S_len, S_len]; exact small_le (by omega), t ++ part, some x, some (.int (way : Int)), some (.str (S part)), congrArg (fun z : Str => [some (V.ref p), some (.str (S al)), some (.ref tx), some (.int (most : Int)), some (.str z), some x, some (.int (way : Int)), some (.str (S part))]) (S_cat t part), s4, fun c hc => ?_, by rw [List.length_append]; omega⟩
            rcases List.mem_append.mp hc with z | z
            · exact htm c z
            · exact hpm c z
          refine ⟨_, rfl, rfl, _, rfl, ?_⟩
          obtain ⟨e3, he3⟩ : ∃ e : Bool, e = decide (V.int (way : Int) = V.int 3) := ⟨_, rfl⟩
          show (if decide (V.int (way : Int) = V.int 3) = true then _ else _)
          rw [← he3]
          cases e3 with
          | false => exact iteF (key2 part hpm hpl)
          | true =>
            obtain ⟨u, eu, hul, hum⟩ := cutS_sub al (some (Txt.find (S al) (S part))) none
            refine iteT ⟨_, rfl, _, rfl, rfl, _, rfl, S al, S part, rfl, rfl, _, rfl, S al, rfl, hSl, ?_⟩
            rw [eu]
            exact key2 u hum (by omega)
        cases e with
        | false => exact iteF (key [c] H3 sa3 (fun d hd => by rw [List.mem_singleton.mp hd]; exact List.mem_of_getElem? hc) (by rw [List.length_singleton]; omega))
        | true =>
          have hw3 : 3 < way := by have := of_decide_eq_true he.symm; omega
          have htx3 := sa3.lst htp htx
          have hLt : (strV (textsOf al ps)).length = al.length + ps.length := by rw [strV_len, textsOf_len]
          refine iteT ⟨_, rfl, _, rfl, _, rfl, tx, _, rfl, .inl (SqL.of htx3), p, _, rfl, sa3.at1, by rw [hLt]; omega, fun H4 r4 s4 hr4 => ?_⟩
          rw [hLt] at hr4
          have sa4 := sa3.trans s4
          have hr4T : r4 < (textsOf al ps).length := by rw [textsOf_len]; omega
          obtain ⟨u, hu⟩ : ∃ u, u = (textsOf al ps).getD r4 [] := ⟨_, rfl⟩
          have hul : u.length ≤ 40 := by rw [hu]; exact getD_short hprop.short r4
          have hum : ∀ c ∈ u, c ∈ al := fun c hc => by
            rw [hu] at hc
            rcases getD_mem_or (ts := textsOf al ps) (i := r4) with m | m
            · exact textsOf_al _ m c hc
            · rw [m] at hc; cases hc
          refine ⟨tx, _, _, _, rfl, rfl, SqL.of (s4.lst htp htx3), atI_nat (strV_at hr4T), by show 4 ≤ sizeLine; decide, fun L hL => ?_⟩
          rw [← hu]
          obtain ⟨m, hm7, hsel⟩ : ∃ m : Nat, m ≤ 7 ∧ atI [V.int 1, V.int 1, V.int 1, V.int 7] ((way : Int) - 4) = some (V.int (m : Int)) := by
            have : way = 4 ∨ way = 5 ∨ way = 6 ∨ way = 7 := by omega
            rcases this with rfl | rfl | rfl | rfl
            · exact ⟨1, by decide, rfl⟩
            · exact ⟨1, by decide, rfl⟩
            · exact ⟨1, by decide, rfl⟩
            · exact ⟨7, by decide, rfl⟩
          obtain ⟨tt, ett, httm, httl⟩ := mulB u m
          refine ⟨_, rfl, _, _, rfl, rfl, L, _, _, _, rfl, rfl, SqL.of upd_same, hsel, S u, (m : Int), rfl, rfl, mulB_ok hul hm7, ?_⟩
          rw [ett]
          have : u.length * m ≤ 40 * 7 := Nat.mul_le_mul hul hm7
          exact key tt _ (sa4.new hL) (fun c hc => hum c (httm c hc)) (by omega)
      · rw [decide_eq_false (by omega : ¬ (t.length : Int) < (most : Int))]
        exact iteF ⟨t, _, _, _, rfl, sa, htm, htl⟩
    · rintro σ H2 ⟨t, v5, v6, v7, rfl, sa, htm, htl⟩
      refine ⟨_, rfl, _, rfl, _, rfl, S t, rfl, by rw [S_len]; exact small_le (by omega), ?_⟩
      rw [cutS_take]
      exact q H2 _ sa (fun c hc => htm c (List.mem_of_mem_take hc)) (by rw [List.length_take]; omega)
end
end RJ
end

section
set_option maxRecDepth 100000
set_option maxHeartbeats 8000000
namespace RJ
open PySem PySem.Spec PyProof.Rows L2
abbrev s_following_masks : Stmt := top 35
abbrev N_following_masks : List Str := ["joins", "right_bounds", "left_bounds", "masks", "rank", "left", "right", "crossed", "piece", "bounds", "_"]
theorem sc_following_masks : FnScope N_following_masks ["joins"] (C8.fnScope s_following_masks) := C8.fnScope_by (by decide +kernel)
abbrev s_Joins___iter__ : Stmt := inClass (top 28) 3
abbrev N_Joins___iter__ : List Str := ["self"]
theorem sc_Joins___iter__ : FnScope N_Joins___iter__ ["self"] (C8.fnScope s_Joins___iter__) := C8.fnScope_by (by decide +kernel)
abbrev s_Joins_pieces : Stmt := inClass (top 28) 1
abbrev N_Joins_pieces : List Str := ["self"]
theorem sc_Joins_pieces : FnScope N_Joins_pieces ["self"] (C8.fnScope s_Joins_pieces) := C8.fnScope_by (by decide +kernel)
def sp_spineF (C : Addr) : Sp := fun vs H Q _ => ∃ (p : Addr) (al : List Nat) (ps : List (Nat × Nat)) (x k : Nat), vs = [.ref p, .int (x : Int), .int (k : Int)] ∧ JoinsAt C H p al ps ∧ Proper al ps ∧ al.length ≤ 400 ∧ ps.length ≤ 400 ∧ x < al.length + ps.length ∧ k < 2 ∧
  ∀ H' q o us es, Same H H' → H' q = some (.frz o (.tup us)) → o.dict = none → Paired (StepAt H') us es → IsSpine al.length ps (sdOf k) x es → es.length ≤ 1000 → Q (.ref q) H'
def sp_rspineF (k : Nat) (C : Addr) : Sp := fun vs H Q _ => ∃ (p : Addr) (al : List Nat) (ps : List (Nat × Nat)) (x : Nat), vs = [.ref p, .int (x : Int)] ∧ JoinsAt C H p al ps ∧ Proper al ps ∧ al.length ≤ 400 ∧ ps.length ≤ 400 ∧ x < al.length + ps.length ∧
  ∀ H' q o us es, Same H H' → H' q = some (.frz o (.tup us)) → o.dict = none → Paired (StepAt H') us es → IsSpine al.length ps (sdOf k) x es → es.length ≤ 1000 → Q (.ref q) H'
def sp_iter (C : Addr) : Sp := fun vs H Q _ => ∃ (p : Addr) (al : List Nat) (ps : List (Nat × Nat)), vs = [.ref p] ∧ JoinsAt C H p al ps ∧
  ∀ it pa us, H pa = some (.tup us) → PairsAt H us ps → H it = none → Q (.ref it) (upd H it (TupI it pa us.length 0))
def sp_pieces (C : Addr) : Sp := fun vs H Q _ => ∃ (p : Addr) (al : List Nat) (ps : List (Nat × Nat)), vs = [.ref p] ∧ JoinsAt C H p al ps ∧ Q (.int ((al.length + ps.length : Nat) : Int)) H
section
variable {P : Program} {w : World} {K : PySem.W.Frag} {mg : Str → Option Value} {base : Heap}
theorem ok_spineF {f C : Addr} {fd : FuncData} (F : C8.Fun K "spine" "spine" s_spine f fd) (T : Txt K mg) (J : JTxt K C) (m_parts_of : C8.Met P w K mg base 5 C "parts_of" (sp_partsG C) []) (m_rank_of : C8.Met P w K mg base 5 C "rank_of" (sp_rank C) []) : FnOk P w K mg base C8.CX0 6 f fd ["joins", "piece", "side"] (sp_spineF C) := by
  refine C8.fn0 F sc_spine (fun vs H Q E h => ?_) (fun cdv A outer s H vs Q E hr h => ?_)
  · obtain ⟨p, al, ps, x, k, rfl, _⟩ := h; rfl
  · obtain ⟨p, al, ps, x, k, rfl, hj, hprop, hal, hpl, hx, hk, q⟩ := h
    have hw := hprop.wf
    have met : ∀ H', Same H H' → ∃ dx fs, H' p = some (.ins C dx fs) ∧ fs.lookup ("parts_of" : Str) = none ∧ fs.lookup ("rank_of" : Str) = none := fun H' s' => by
      obtain ⟨dx, t, tx, d, e, ws, h1, _⟩ := hj.same s'
      exact ⟨dx, _, h1, f5_no al t tx d e (by decide +kernel) (by decide +kernel) (by decide +kernel) (by decide +kernel) (by decide +kernel), f5_no al t tx d e (by decide +kernel) (by decide +kernel) (by decide +kernel) (by decide +kernel) (by decide +kernel)⟩
    refine ⟨_, (pss_cons (ps_set (i := 3) sc_spine.nd rfl (Or.inl rfl) (pe_lst (pa_cons (pe_tup (pa_cons (pv 1) (pa_cons pe_non pa_nil))) pa_nil)))
      (pss_cons (ps_set (i := 4) sc_spine.nd rfl (Or.inl rfl) (C8.pe_mt m_parts_of hr (by first | decide | omega) (pv 0) (pa_cons (pv 1) pa_nil)))
      (pss_cons (ps_while PassesOwn.never (pt_cmpR op_notN (pv 4) pe_non (nomark _)) (pss_cons (ps_asg (pv 4) (pg_tup rfl (pgs_cons (pg_name (i := 5) sc_spine.nd rfl (Or.inl rfl)) (pgs_cons (pg_name (i := 6) sc_spine.nd rfl (Or.inl rfl)) pgs_nil))))
      (pss_cons (ps_expr (pe_bm PySem.F.plainAttrs_list PySem.F.slot_list_append PySem.F.type_list_append mt_append (pv 3) (pa_cons (pe_tup (pa_cons (pe_ix ix_tup (pv 4) (pv 2) (fun _ _ => rfl)) (pa_cons (C8.pe_mt m_rank_of hr (by first | decide | omega) (pv 0) (pa_cons (pv 5) (pa_cons (pv 6) pa_nil))) pa_nil))) pa_nil)))
      (pss_one (ps_set (i := 4) sc_spine.nd rfl (Or.inl rfl) (C8.pe_mt m_parts_of hr (by first | decide | omega) (pv 0) (pa_cons (pe_ix ix_tup (pv 4) (pv 2) (fun _ _ => rfl)) pa_nil)))))))
      (pss_one (ps_ret (pe_tupleOfF (by rfl) T.b_tuple (pv 3))))))), ?_⟩
    refine ⟨_, rfl, by show 2 ≤ sizeLine; decide, fun z hz => ⟨by show 1 ≤ sizeLine; decide, fun D hD => ?_⟩⟩
    have s0 : Same H (upd (upd H z (.tup [.int (x : Int), .non])) D (.lst [.ref z])) := Same.new (same_new hz) hD
    have hD0 : H D = none := (same_new hz).free hD
    have hz0 : (upd (upd H z (.tup [.int (x : Int), .non])) D (.lst [.ref z])) z = some (.tup [.int (x : Int), .non]) := (upd_ne (ne_of_none upd_same hD)).trans upd_same
    obtain ⟨dx0, fs0, i1, i2, i3⟩ := met _ s0
    refine ⟨_, rfl, p, dx0, fs0, rfl, i1, i2, _, rfl, p, al, ps, x, rfl, hj.same s0, by omega, hx, fun v hv => ?_⟩
    refine ⟨fun m σ H' => ∃ (y : Nat) (v : V) (v5 v6 : Option V) (us : List V) (es : List (Nat × Option Nat)), σ = [some (.ref p), some (.int (x : Int)), some (.int (k : Int)), some (.ref D), some v, v5, v6] ∧ Same H H' ∧ H' D = some (.lst us) ∧ Paired (StepAt H') us es ∧ IsSpineTo al.length ps (sdOf k) x es y ∧ y < al.length + ps.length ∧ es.length + y ≤ x + 1 ∧ PartAt al ps y H' v ∧ m = y,
      ⟨x, x, v, none, none, _, _, rfl, s0, upd_same, .cons ⟨z, rfl, hz0⟩ .nil, IsSpineTo.start x, hx, by show 1 + x ≤ x + 1; omega, hv, rfl⟩, ?_⟩
    rintro m σ H2 ⟨y, v, v5, v6, us, es, rfl, s2, hD2, hus, hsp, hy, hle, hv, rfl⟩
    refine ⟨_, rfl, rfl, _, rfl, ?_⟩
    rcases hv with ⟨rfl, hlow⟩ | ⟨j, pr, g, rfl, rfl, hpr, hg⟩
    · refine iteF ⟨_, rfl, D, us, rfl, SqL.of hD2, fun t o ht ho => ?_⟩
      exact q _ t o us es (Same.new s2 ht) upd_same ho (Paired.mapP hus fun _ _ h => StepAt.same (Same.t (same_new ht)) h) (hsp.done hlow) (by omega)
    · refine iteT ?_
      have hj' := hw j pr hpr
      refine ⟨fun σ' H' => ∃ m', m' < al.length + j ∧ ∃ (y : Nat) (v : V) (v5 v6 : Option V) (us : List V) (es : List (Nat × Option Nat)), σ' = [some (.ref p), some (.int (x : Int)), some (.int (k : Int)), some (.ref D), some v, v5, v6] ∧ Same H H' ∧ H' D = some (.lst us) ∧ Paired (StepAt H') us es ∧ IsSpineTo al.length ps (sdOf k) x es y ∧ y < al.length + ps.length ∧ es.length + y ≤ x + 1 ∧ PartAt al ps y H' v ∧ m' = y, fun σ' H' z => z, ?_⟩
      have hsd : atI [V.int (pr.1 : Int), V.int (pr.2 : Int)] (k : Int) = some (V.int (sdOf k pr : Int)) := by
        have : k = 0 ∨ k = 1 := by omega
        rcases this with rfl | rfl <;> rfl
      have hlt : sdOf k pr < al.length + j := by rcases sdOf_side k pr with e | e <;> rw [e] <;> omega
      have hul : us.length = es.length := hus.length
      obtain ⟨dx1, fs1, j1, j2, j3⟩ := met _ s2
      refine ⟨_, rfl, g, _, rfl, SqT.of hg, rfl, _, _, rfl, _, _, rfl, rfl, ?_⟩
      refine ⟨_, rfl, .inl ⟨rfl, _, SqL.of hD2⟩, _, rfl, _, rfl, g, _, _, _, rfl, rfl, SqT.of hg, hsd, _, rfl, p, dx1, fs1, rfl, j1, j3, _, rfl, _, rfl, p, al, ps, pr.1, pr.2, rfl, hj.same s2, by omega, by omega, fun H3 s3 => ?_⟩
      rw [if_pos (List.mem_of_getElem? hpr), hprop.idx hpr]
      refine ⟨by show 2 ≤ sizeLine; decide, fun t ht => ?_⟩
      have s4 : Same H2 (upd H3 t (.tup [.int (sdOf k pr : Int), .int (j : Int)])) := Same.new s3 ht
      have hD4 := s4 _ _ hD2
      refine ⟨D, us, _, rfl, rfl, hD4, small1000 (by omega), ?_⟩
      have sT : SameT (upd H3 t (.tup [.int (sdOf k pr : Int), .int (j : Int)])) (upd (upd H3 t (.tup [.int (sdOf k pr : Int), .int (j : Int)])) D (.lst (us ++ [.ref t]))) := SameT.put hD4
      have s5 : Same H (upd (upd H3 t (.tup [.int (sdOf k pr : Int), .int (j : Int)])) D (.lst (us ++ [.ref t]))) := Same.put (s2.trans s4) hD0
      obtain ⟨dx2, fs2, l1, l2, _⟩ := met _ s5
      have hg5 := sT _ _ (s4 _ _ hg)
      refine ⟨_, rfl, p, dx2, fs2, rfl, l1, l2, _, rfl, _, rfl, g, _, _, _, rfl, rfl, SqT.of hg5, hsd, p, al, ps, sdOf k pr, rfl, hj.same s5, by omega, by omega, fun v' hv' => ?_⟩
      refine ⟨_, hlt, _, v', _, _, us ++ [.ref t], es ++ [(sdOf k pr, some j)], rfl, s5, upd_same, Paired.snoc ⟨t, rfl, sT _ _ upd_same⟩ (Paired.mapP hus fun _ _ h => StepAt.same sT (StepAt.same (Same.t s4) h)), hsp.next hpr, by omega, ?_, hv', rfl⟩
      rw [List.length_append, List.length_singleton]; omega
theorem ok_rspineF {f C : Addr} {fd : FuncData} (F : C8.Fun K "right_spine" "right_spine" s_right_spine f fd) (T : Txt K mg) (J : JTxt K C) (c_spineF : C8.Cal P w K mg base 6 "spine" (sp_spineF C) []) : FnOk P w K mg base C8.CX0 7 f fd ["joins", "piece"] (sp_rspineF 1 C) := by
  refine C8.fn0 F sc_right_spine (fun vs H Q E h => ?_) (fun cdv A outer s H vs Q E hr h => ?_)
  · obtain ⟨p, al, ps, x, rfl, _⟩ := h; rfl
  · obtain ⟨p, al, ps, x, rfl, hj, hprop, hal, hpl, hx, q⟩ := h
    refine ⟨_, (pss_one (ps_ret (C8.pe_c c_spineF hr (by first | decide | omega) (by rfl) (pa_cons (pv 0) (pa_cons (pv 1) (pa_cons pe_int pa_nil)))))), ?_⟩
    exact ⟨_, rfl, _, rfl, p, al, ps, x, 1, rfl, hj, hprop, hal, hpl, hx, by decide, q⟩
theorem ok_lspineF {f C : Addr} {fd : FuncData} (F : C8.Fun K "left_spine" "left_spine" s_left_spine f fd) (T : Txt K mg) (J : JTxt K C) (c_spineF : C8.Cal P w K mg base 6 "spine" (sp_spineF C) []) : FnOk P w K mg base C8.CX0 7 f fd ["joins", "piece"] (sp_rspineF 0 C) := by
  refine C8.fn0 F sc_left_spine (fun vs H Q E h => ?_) (fun cdv A outer s H vs Q E hr h => ?_)
  · obtain ⟨p, al, ps, x, rfl, _⟩ := h; rfl
  · obtain ⟨p, al, ps, x, rfl, hj, hprop, hal, hpl, hx, q⟩ := h
    refine ⟨_, (pss_one (ps_ret (C8.pe_c c_spineF hr (by first | decide | omega) (by rfl) (pa_cons (pv 0) (pa_cons (pv 1) (pa_cons pe_int pa_nil)))))), ?_⟩
    exact ⟨_, rfl, _, rfl, p, al, ps, x, 0, rfl, hj, hprop, hal, hpl, hx, by decide, q⟩
theorem ok_iter {f C : Addr} {fd : FuncData} (F : C8.Fun K "__iter__" "Joins.__iter__" s_Joins___iter__ f fd) (T : Txt K mg) (J : JTxt K C) : FnOk P w K mg base C8.CX0 1 f fd ["self"] (sp_iter C) := by
  refine C8.fn0 F sc_Joins___iter__ (fun vs H Q E h => ?_) (fun cdv A outer s H vs Q E hr h => ?_)
  · obtain ⟨p, al, ps, rfl, _⟩ := h; rfl
  · obtain ⟨p, al, ps, rfl, ⟨dx, t, tx, d, e, ws, h1, h2, h3, h4, h5, h6⟩, q⟩ := h
    refine ⟨_, (pss_one (ps_ret (pe_callB call_iterT (by rfl) T.b_iter (by decide +kernel) (pa_cons (pe_fld (pv 0) rfl) pa_nil)))), ?_⟩
    exact ⟨_, rfl, p, C, dx, _, _, rfl, h1, J.cl, J.n2, f5_pairs al t tx d e, t, ws, rfl, h2, fun it hit => q it t ws h2 h3 hit⟩
theorem ok_pieces {f C : Addr} {fd : FuncData} (F : C8.Fun K "pieces" "Joins.pieces" s_Joins_pieces f fd) (T : Txt K mg) (J : JTxt K C) : FnOk P w K mg base C8.CX0 1 f fd ["self"] (sp_pieces C) := by
  refine C8.fn0 F sc_Joins_pieces (fun vs H Q E h => ?_) (fun cdv A outer s H vs Q E hr h => ?_)
  · obtain ⟨p, al, ps, rfl, _⟩ := h; rfl
  · obtain ⟨p, al, ps, rfl, ⟨dx, t, tx, d, e, ws, h1, h2, h3, h4, h5, h6⟩, q⟩ := h
    refine ⟨_, (pss_one (ps_ret (pe_callB call_len_seq (by rfl) T.b_len PySem.boot_len (pa_cons (pe_fld (pv 0) rfl) pa_nil)))), ?_⟩
    refine ⟨_, rfl, p, C, dx, _, _, rfl, h1, J.cl, J.n3, f5_texts al t tx d e, tx, _, rfl, .inl (SqL.of h4), ?_⟩
    rw [strV_len, textsOf_len]; exact q
end
end RJ
end

section
set_option maxRecDepth 100000
set_option maxHeartbeats 8000000
namespace RJ
open PySem PySem.Spec PyProof.Rows L2
theorem for_own {it0 pa : Addr} {xs : List V} {g : TG} {tb : TS} {D : Ends} {σ : L2.St} {H : Hp} (Pv : Nat → L2.St → Hp → Prop) (h0 : Pv 0 σ H) (hG : ∀ i σ H, i ≤ xs.length → Pv i σ H → H pa = some (.tup xs) ∧ H it0 = some (TupI it0 pa xs.length i))
    (hs : ∀ i x T σ H, i < xs.length → Pv i σ H → xs[i]? = some x → H T = none → g (.ref T) σ (upd (upd H it0 (TupI it0 pa xs.length (i + 1))) T (.tup [.int (i : Nat), x])) fun σ2 H2 => tb { D with nx := Pv (i + 1), ct := Pv (i + 1), bk := D.nx } σ2 H2) (hd : ∀ σ H, Pv xs.length σ H → D.nx σ H) :
    ∃ W : Nat → Nat → L2.St → Hp → Prop, (∃ m, W 0 m σ H) ∧ ∀ i m σ H, W i m σ H → ((ItEO it0 pa xs).stop i H ∧ D.nx σ H) ∨ ((ItEO it0 pa xs).go i H ∧ ∃ N : L2.St → Hp → Prop, (∀ σ' H', N σ' H' → ∃ m', m' < m ∧ W (i + 1) m' σ' H') ∧
      ∀ x H', (ItEO it0 pa xs).yld i H x H' → g x σ H' fun σ2 H2 => tb { D with nx := N, ct := N, bk := D.nx } σ2 H2) := by
  refine ⟨fun i m σ H => m = xs.length - i ∧ i ≤ xs.length ∧ Pv i σ H, ⟨xs.length, rfl, Nat.zero_le _, h0⟩, ?_⟩
  rintro i m σ H ⟨rfl, hi, p⟩
  obtain ⟨g1, g2⟩ := hG i σ H hi p
  by_cases hlt : i < xs.length
  · refine .inr ⟨⟨g1, g2, hlt⟩, Pv (i + 1), fun σ' H' p' => ⟨xs.length - (i + 1), by omega, rfl, hlt, p'⟩, fun v H' y => ?_⟩
    obtain ⟨T, x, rfl, hT, hx, rfl⟩ := y
    exact hs i x T σ H hlt p hx hT
  · have e : i = xs.length := by omega
    subst e
    exact .inl ⟨⟨g1, g2, rfl⟩, hd σ H p⟩
/-- the bounds of a spine as a dict -/
def BdsAt (b : Nat) (ps : List (Nat × Nat)) (sd : Nat × Nat → Nat) (H : Hp) (v : V) (x : Nat) : Prop := ∃ d kvs, v = .ref d ∧ H d = some (.dK kvs) ∧ (∀ (y : Nat) bd, Spn b ps sd x y bd → valV kvs (.inl (y : Int)) = some (bdV bd)) ∧ ∀ y : Nat, (∀ bd, ¬ Spn b ps sd x y bd) → valV kvs (.inl (y : Int)) = none
theorem BdsAt.same {b : Nat} {ps : List (Nat × Nat)} {sd : Nat × Nat → Nat} {H H' : Hp} {v : V} {x : Nat} (h : BdsAt b ps sd H v x) (s : Same H H') : BdsAt b ps sd H' v x := by
  obtain ⟨d, kvs, e, hd, r⟩ := h
  exact ⟨d, kvs, e, s _ _ hd, r⟩
theorem BdsAt.samex {b : Nat} {ps : List (Nat × Nat)} {sd : Nat × Nat → Nat} {H H' : Hp} {v : V} {x : Nat} {R : Addr} {us : List V} (h : BdsAt b ps sd H v x) (hR : H R = some (.lst us)) (s : SameX R H H') : BdsAt b ps sd H' v x := by
  obtain ⟨d, kvs, e, hd, r⟩ := h
  exact ⟨d, kvs, e, s _ _ (fun z => by rw [z, hR] at hd; cases hd) hd, r⟩
theorem steps_dict {K : PySem.W.Frag} {H : Hp} : ∀ {us : List V} {es : List (Nat × Option Nat)}, Paired (StepAt H) us es → ∃ ads : List Addr, us = ads.map V.ref ∧ Paired (fun p (kv : Key × V) => SqT K H p [kV kv.1, kv.2]) ads (es.map fun e => ((.inl (e.1 : Int) : Key), bdV e.2))
  | _, _, .nil => ⟨[], rfl, .nil⟩
  | _, _, .cons ⟨q, e, h⟩ t => by
    subst e
    obtain ⟨ads, e, r⟩ := steps_dict (K := K) t
    subst e
    exact ⟨q :: ads, rfl, .cons (SqT.of h) r⟩
theorem spine_bds {b : Nat} {ps : List (Nat × Nat)} {sd : Nat × Nat → Nat} {x : Nat} {es : List (Nat × Option Nat)} (hs : Side sd) (hw : WF b ps) (h : IsSpine b ps sd x es) :
    (∀ (y : Nat) bd, Spn b ps sd x y bd → valV (mergeK [] (es.map fun e => ((.inl (e.1 : Int) : Key), bdV e.2))) (.inl (y : Int)) = some (bdV bd)) ∧ ∀ y : Nat, (∀ bd, ¬ Spn b ps sd x y bd) → valV (mergeK [] (es.map fun e => ((.inl (e.1 : Int) : Key), bdV e.2))) (.inl (y : Int)) = none := by
  refine ⟨fun y bd hy => mergeK_hit _ _ _ _ (List.mem_map.mpr ⟨(y, bd), h.all y bd hy, rfl⟩) fun p hp e => ?_, fun y hy => ?_⟩
  · obtain ⟨q, hq, rfl⟩ := List.mem_map.mp hp
    have e : (q.1 : Int) = (y : Int) := Sum.inl.inj e
    have e : q.1 = y := by omega
    have h1 := h.ok q hq
    rw [e] at h1
    rw [Spn.uniq hs hw x h1 hy]
  · rw [mergeK_miss _ _ _ fun p hp e => ?_]
    · rfl
    · obtain ⟨q, hq, rfl⟩ := List.mem_map.mp hp
      have e : (q.1 : Int) = (y : Int) := Sum.inl.inj e
      have e : q.1 = y := by omega
      have h1 := h.ok q hq
      rw [e] at h1
      exact hy _ h1
/-- for each piece the pieces that stand on its right -/
def MasksAt (b : Nat) (ps : List (Nat × Nat)) (n : Nat) (Ms : List Nat) : Prop := Ms.length = b + ps.length ∧ ∀ x q, x < b + ps.length → q < b + ps.length → ∃ m, Ms[x]? = some m ∧ (m.testBit q = true ↔ ∀ r, r < n → ¬ Cross b ps x q r)
def sp_masks (C : Addr) : Sp := fun vs H Q _ => ∃ (p : Addr) (al : List Nat) (ps : List (Nat × Nat)), vs = [.ref p] ∧ JoinsAt C H p al ps ∧ Proper al ps ∧ al.length ≤ 400 ∧ ps.length ≤ 400 ∧
  ∀ H' q Ms, Same H H' → H' q = some (.tup (iv Ms)) → MasksAt al.length ps ps.length Ms → Q (.ref q) H'
section
variable {P : Program} {w : World} {K : PySem.W.Frag} {mg : Str → Option Value} {base : Heap}
theorem ok_masks {f C : Addr} {fd : FuncData} (F : C8.Fun K "following_masks" "following_masks" s_following_masks f fd) (T : Txt K mg) (J : JTxt K C) (p_pieces : PrpC P w K mg base 1 C "pieces" (sp_pieces C)) (m___iter__ : C8.Met P w K mg base 1 C "__iter__" (sp_iter C) [])
    (c_right_spineF : C8.Cal P w K mg base 7 "right_spine" (sp_rspineF 1 C) []) (c_left_spineF : C8.Cal P w K mg base 7 "left_spine" (sp_rspineF 0 C) []) (c_is_ahead_in_left : C8.Cal P w K mg base 1 "is_ahead_in_left" sp_aheadL []) (c_is_ahead_in_right : C8.Cal P w K mg base 1 "is_ahead_in_right" sp_aheadR []) :
    FnOk P w K mg base C8.CX0 8 f fd ["joins"] (sp_masks C) := by
  refine C8.fn0 F sc_following_masks (fun vs H Q E h => ?_) (fun cdv A outer s H vs Q E hr h => ?_)
  · obtain ⟨p, al, ps, rfl, _⟩ := h; rfl
  · obtain ⟨p, al, ps, rfl, hj, hprop, hal, hpl, q⟩ := h
    have hu := hu_of hr
    have hw := hprop.wf
    have ins : ∀ H', JoinsAt C H' p al ps → ∃ dx fs, H' p = some (.ins C dx fs) := fun H' hj' => by
      obtain ⟨dx, t, tx, d, e, ws, h1, _⟩ := hj'
      exact ⟨dx, _, h1⟩
    refine ⟨_, (pss_cons (ps_setLc (own := [("piece", 8)]) (i := 1) (g := gName 8) (tt := tYes) rfl sc_following_masks.nd rfl rfl (sw_true rfl rfl rfl (by decide +kernel)) (pi_range1 rfl T.b_range (pa_cons (pe_prp p_pieces hr (by first | decide | omega) (pv 0)) pa_nil)) (blkOk_by (N := N_following_masks) (sc := C8.fnScope s_following_masks) (by decide +kernel)) (fun _ _ _ _ _ => (pg_name (i := 8) sc_following_masks.nd rfl (Or.inl rfl))) (fun _ _ _ _ _ => pts_nil) (fun _ _ _ _ _ => (pe_callTy (call_dictTK (K := K) rfl rfl) (by rfl) T.b_dict (by decide +kernel) (pa_cons (C8.pe_c c_right_spineF hr (by first | decide | omega) (by rfl) (pa_cons (pv 0) (pa_cons (pv 8) pa_nil))) pa_nil))))
      (pss_cons (ps_setLc (own := [("piece", 8)]) (i := 2) (g := gName 8) (tt := tYes) rfl sc_following_masks.nd rfl rfl (sw_true rfl rfl rfl (by decide +kernel)) (pi_range1 rfl T.b_range (pa_cons (pe_prp p_pieces hr (by first | decide | omega) (pv 0)) pa_nil)) (blkOk_by (N := N_following_masks) (sc := C8.fnScope s_following_masks) (by decide +kernel)) (fun _ _ _ _ _ => (pg_name (i := 8) sc_following_masks.nd rfl (Or.inl rfl))) (fun _ _ _ _ _ => pts_nil) (fun _ _ _ _ _ => (pe_callTy (call_dictTK (K := K) rfl rfl) (by rfl) T.b_dict (by decide +kernel) (pa_cons (C8.pe_c c_left_spineF hr (by first | decide | omega) (by rfl) (pa_cons (pv 0) (pa_cons (pv 8) pa_nil))) pa_nil))))
      (pss_cons (ps_setLc (own := [("_", 10)]) (i := 3) (g := gName 10) (tt := tYes) rfl sc_following_masks.nd rfl rfl (sw_true rfl rfl rfl (by decide +kernel)) (pi_range1 rfl T.b_range (pa_cons (pe_prp p_pieces hr (by first | decide | omega) (pv 0)) pa_nil)) (blkOk_by (N := N_following_masks) (sc := C8.fnScope s_following_masks) (by decide +kernel)) (fun _ _ _ _ _ => (pg_name (i := 10) sc_following_masks.nd rfl (Or.inl rfl))) (fun _ _ _ _ _ => pts_nil) (fun _ _ _ _ _ => (pe_op op_sub (pe_op op_oneShl pe_int (pe_prp p_pieces hr (by first | decide | omega) (pv 0))) pe_int)))
      (pss_cons (ps_for PassesOwn.never rfl (pi_enumO rfl T.b_enumerate m___iter__ hr (by first | decide | omega) (pa_cons (pv 0) pa_nil)) (pg_tup rfl (pgs_cons (pg_name (i := 4) sc_following_masks.nd rfl (Or.inl rfl)) (pgs_cons (pg_tup rfl (pgs_cons (pg_name (i := 5) sc_following_masks.nd rfl (Or.inl rfl)) (pgs_cons (pg_name (i := 6) sc_following_masks.nd rfl (Or.inl rfl)) pgs_nil))) pgs_nil))) (pss_cons (ps_set (i := 7) sc_following_masks.nd rfl (Or.inl rfl) pe_int)
      (pss_cons (ps_for PassesOwn.never rfl (pi_enumG rfl T.b_enumerate (pa_cons (pv 2) pa_nil)) (pg_tup rfl (pgs_cons (pg_name (i := 8) sc_following_masks.nd rfl (Or.inl rfl)) (pgs_cons (pg_name (i := 9) sc_following_masks.nd rfl (Or.inl rfl)) pgs_nil))) (pss_one (ps_if (PW.pt (pw_and (pt_cmp (pc_din hu (pv 6) (pv 9))) (pw_and1 (pt_val (C8.pe_c c_is_ahead_in_right hr (by first | decide | omega) (by rfl) (pa_cons (pv 4) (pa_cons (pe_dget hu (pv 9) (pv 6) (fun _ _ => rfl)) pa_nil))))))) (pss_one (ps_aug (i := 7) sc_following_masks.nd rfl (Or.inl rfl) (pe_op op_oneShl pe_int (pv 8)) ip_add)) pss_nil)))
      (pss_one (ps_for PassesOwn.never rfl (pi_enumG rfl T.b_enumerate (pa_cons (pv 1) pa_nil)) (pg_tup rfl (pgs_cons (pg_name (i := 8) sc_following_masks.nd rfl (Or.inl rfl)) (pgs_cons (pg_name (i := 9) sc_following_masks.nd rfl (Or.inl rfl)) pgs_nil))) (pss_one (ps_if (PW.pt (pw_and (pt_cmp (pc_din hu (pv 5) (pv 9))) (pw_and1 (pt_val (C8.pe_c c_is_ahead_in_left hr (by first | decide | omega) (by rfl) (pa_cons (pv 4) (pa_cons (pe_dget hu (pv 9) (pv 5) (fun _ _ => rfl)) pa_nil))))))) (pss_one (ps_augS (pv 3) (pv 8) get_listN (pe_un un_inv (pv 7)) iop_and set_list)) pss_nil)))))))
      (pss_one (ps_ret (pe_tupleOf (by rfl) T.b_tuple (pv 3)))))))), ?_⟩
    -- the bounds of the right spines
    obtain ⟨dx, fs, h1⟩ := ins H hj
    refine ⟨_, rfl, p, dx, fs, rfl, h1, p, al, ps, rfl, hj, ?_⟩
    refine ⟨_, rfl, by omega, by omega, fun R hR => lc_it walk_range (fun i H' => Same H H' ∧ ∃ us, H' R = some (.lst us) ∧ Paired (BdsAt al.length ps Prod.snd H') us (List.range i)) ⟨same_new hR, [], upd_same, .nil⟩ (fun _ _ _ _ => trivial) ?_ ?_⟩
    · rintro i x Ha Hb hi ⟨sa, us, ha, hP⟩ ⟨rfl, hx⟩
      obtain rfl : x = V.int (i : Int) := hx.trans (congrArg V.int (Int.zero_add _))
      have hi : i < al.length + ps.length := by rw [Int.toNat_natCast] at hi; exact hi
      refine ⟨rfl, _, rfl, _, rfl, p, al, ps, i, rfl, hj.same sa, hprop, hal, hpl, hi, fun H3 z o ws es s3 hz ho hws hsp hel => ?_⟩
      have hsp : IsSpine al.length ps Prod.snd i es := hsp
      obtain ⟨ads, rfl, hads⟩ := steps_dict (K := K) hws
      refine ⟨z, o, ads, _, rfl, hz, ho, hads, fun d hd => ?_⟩
      have hls : us.length = i := by have := hP.length; rwa [List.length_range] at this
      have ha3 := s3 _ _ ha
      have hne : R ≠ d := ne_of_none ha3 hd
      have s4 := Same.new (o := .dK (mergeK [] (es.map fun e => ((.inl (e.1 : Int) : Key), bdV e.2)))) s3 hd
      refine ⟨us, s4 _ _ ha, small1000 (by omega), Same.put (sa.trans s4) hR, us ++ [.ref d], upd_same, ?_⟩
      rw [List.range_succ]
      have hm := spine_bds side2 hw hsp
      exact Paired.snoc (F := BdsAt al.length ps Prod.snd _) ⟨d, _, rfl, (upd_ne (Ne.symm hne)).trans upd_same, hm⟩ (Paired.mapP hP fun _ _ h => BdsAt.samex h ha (SameX.self (Same.x s4)))
    rintro H1 ⟨s1, rs, hR1, hP1⟩
    rw [Int.toNat_natCast] at hP1
    have hj1 := hj.same s1
    obtain ⟨dx1, fs1, g1⟩ := ins H1 hj1
    refine ⟨_, rfl, p, dx1, fs1, rfl, g1, p, al, ps, rfl, hj1, ?_⟩
    refine ⟨_, rfl, by omega, by omega, fun L hL => lc_it walk_range (fun i H' => Same H1 H' ∧ ∃ us, H' L = some (.lst us) ∧ Paired (BdsAt al.length ps Prod.fst H') us (List.range i)) ⟨same_new hL, [], upd_same, .nil⟩ (fun _ _ _ _ => trivial) ?_ ?_⟩
    · rintro i x Ha Hb hi ⟨sa, us, ha, hP⟩ ⟨rfl, hx⟩
      obtain rfl : x = V.int (i : Int) := hx.trans (congrArg V.int (Int.zero_add _))
      have hi : i < al.length + ps.length := by rw [Int.toNat_natCast] at hi; exact hi
      refine ⟨rfl, _, rfl, _, rfl, p, al, ps, i, rfl, hj1.same sa, hprop, hal, hpl, hi, fun H3 z o ws es s3 hz ho hws hsp hel => ?_⟩
      have hsp : IsSpine al.length ps Prod.fst i es := hsp
      obtain ⟨ads, rfl, hads⟩ := steps_dict (K := K) hws
      refine ⟨z, o, ads, _, rfl, hz, ho, hads, fun d hd => ?_⟩
      have hls : us.length = i := by have := hP.length; rwa [List.length_range] at this
      have ha3 := s3 _ _ ha
      have hne : L ≠ d := ne_of_none ha3 hd
      have s4 := Same.new (o := .dK (mergeK [] (es.map fun e => ((.inl (e.1 : Int) : Key), bdV e.2)))) s3 hd
      refine ⟨us, s4 _ _ ha, small1000 (by omega), Same.put (sa.trans s4) hL, us ++ [.ref d], upd_same, ?_⟩
      rw [List.range_succ]
      have hm := spine_bds side1 hw hsp
      exact Paired.snoc (F := BdsAt al.length ps Prod.fst _) ⟨d, _, rfl, (upd_ne (Ne.symm hne)).trans upd_same, hm⟩ (Paired.mapP hP fun _ _ h => BdsAt.samex h ha (SameX.self (Same.x s4)))
    rintro H2 ⟨s2, ls, hL2, hP2⟩
    rw [Int.toNat_natCast] at hP2
    have hj2 := hj1.same s2
    have hR2 := s2 _ _ hR1
    have hP1 := Paired.mapP hP1 fun _ _ h => BdsAt.same h s2
    obtain ⟨dx2, fs2, g2⟩ := ins H2 hj2
    refine ⟨_, rfl, p, dx2, fs2, rfl, g2, p, al, ps, rfl, hj2, ?_⟩
    refine ⟨_, rfl, by omega, by omega, fun M hM => lc_it walk_range (fun i H' => Same H2 H' ∧ H' M = some (.lst (iv (List.replicate i (2 ^ (al.length + ps.length) - 1))))) ⟨same_new hM, upd_same⟩ (fun _ _ _ _ => trivial) ?_ ?_⟩
    · rintro i x Ha Hb hi ⟨sa, ha⟩ ⟨rfl, hx⟩
      have hi : i < al.length + ps.length := by rw [Int.toNat_natCast] at hi; exact hi
      have hja := hj2.same sa
      obtain ⟨dx3, fs3, g3⟩ := ins Hb hja
      refine ⟨rfl, _, rfl, p, dx3, fs3, rfl, g3, p, al, ps, rfl, hja, _, rfl, rfl, by omega, _, _, rfl, rfl, _, ha, by rw [iv_len, List.length_replicate]; exact small1000 (by omega), Same.put sa hM, ?_⟩
      have e1 : ((2 : Int) ^ (al.length + ps.length) - 1) = ((2 ^ (al.length + ps.length) - 1 : Nat) : Int) := by
        have : 0 < 2 ^ (al.length + ps.length) := Nat.two_pow_pos _
        rw [Int.natCast_sub this, Int.natCast_pow]; rfl
      rw [upd_same]
      show some (HO.lst (iv (List.replicate i (2 ^ (al.length + ps.length) - 1)) ++ [V.int ((2 : Int) ^ (al.length + ps.length) - 1)])) = _
      rw [e1, iv_snoc, ← List.replicate_succ']
    rintro H3 ⟨s3, hM3⟩
    rw [Int.toNat_natCast] at hM3
    have hj3 := hj2.same s3
    obtain ⟨dx3, fs3, g3⟩ := ins H3 hj3
    refine ⟨_, rfl, p, dx3, fs3, rfl, g3, p, al, ps, rfl, hj3, fun it pa us hpa hus hit => ⟨it, pa, us, rfl, upd_same, ?_⟩⟩
    have hul : us.length = ps.length := hus.length
    have npi : pa ≠ it := ne_of_none hpa hit
    have nMi : M ≠ it := ne_of_none hM3 hit
    have hM2 : H2 M = none := hM
    have hit2 : H2 it = none := s3.free hit
    have npM : pa ≠ M := fun z => by rw [z, hM3] at hpa; cases hpa
    have hpa2 : H3 pa = some (.tup us) := hpa
    refine for_own (fun i σ H' => ∃ (v4 v5 v6 v7 v8 v9 : Option V) (Ms : List Nat), σ = [some (.ref p), some (.ref R), some (.ref L), some (.ref M), v4, v5, v6, v7, v8, v9, none] ∧ Same H2 H' ∧ H' pa = some (.tup us) ∧ PairsAt H' us ps ∧ H' it = some (TupI it pa us.length i) ∧ H' M = some (.lst (iv Ms)) ∧ MasksAt al.length ps i Ms)
      ⟨none, none, none, none, none, none, _, rfl, Same.put s3 hit2, (upd_ne npi).trans hpa, hus.same (fun b xs e => (upd_ne (ne_of_none e hit)).trans e), upd_same, (upd_ne nMi).trans hM3, ?_⟩ (fun i σ H' _ ⟨_, _, _, _, _, _, _, _, _, h1, _, h2, _⟩ => ⟨h1, h2⟩) ?_ ?_
    · refine ⟨by rw [List.length_replicate], fun x q hx hq => ⟨2 ^ (al.length + ps.length) - 1, by rw [List.getElem?_replicate, if_pos hx], ?_⟩⟩
      rw [Nat.testBit_two_pow_sub_one, decide_eq_true hq]
      exact ⟨fun _ r hr => absurd hr (Nat.not_lt_zero _), fun _ => rfl⟩
    · rintro i x T σ Hb hi ⟨v4, v5, v6, v7, v8, v9, Ms, rfl, sb, hpb, hub, hib, hMb, hMs⟩ hx hT
      obtain ⟨pr, hpr, g, rfl, hg⟩ := Paired.at hub hx
      have hil : i < ps.length := by omega
      have nTi : it ≠ T := ne_of_none hib hT
      have ngi : g ≠ it := fun z => by rw [z, hib] at hg; cases hg
      obtain ⟨Hc, hHc⟩ : ∃ Hc, Hc = upd (upd Hb it (TupI it pa us.length (i + 1))) T (.tup [.int (i : Nat), .ref g]) := ⟨_, rfl⟩
      have sX : SameX it Hb Hc := fun b o hb e => by rw [hHc]; exact (upd_ne (ne_of_none e hT)).trans ((upd_ne hb).trans e)
      have hic : Hc it = some (TupI it pa us.length (i + 1)) := by rw [hHc]; exact (upd_ne nTi).trans upd_same
      have hTc : Hc T = some (.tup [.int (i : Nat), .ref g]) := by rw [hHc]; exact upd_same
      have sc : Same H2 Hc := by rw [hHc]; exact Same.new (Same.put sb hit2) ((upd_ne (Ne.symm nTi)).trans hT)
      have hgc := sX _ _ ngi hg
      have hpc := sX _ _ npi hpb
      have hMc := sX _ _ nMi hMb
      have huc : PairsAt Hc us ps := hub.same fun b xs e => sX _ _ (fun z => by rw [z, hib] at e; cases e) e
      have hRc := sc _ _ hR2
      have hLc := sc _ _ hL2
      have hP1c := Paired.mapP hP1 fun _ _ h => BdsAt.same h sc
      have hP2c := Paired.mapP hP2 fun _ _ h => BdsAt.same h sc
      rw [← hHc]
      clear hHc sX
      have hrl : rs.length = al.length + ps.length := by have := hP1.length; rwa [List.length_range] at this
      have hll : ls.length = al.length + ps.length := by have := hP2.length; rwa [List.length_range] at this
      refine ⟨T, _, rfl, SqT.of hTc, rfl, _, _, rfl, _, _, rfl, g, _, rfl, SqT.of hgc, rfl, _, _, rfl, _, _, rfl, rfl, rfl, ?_⟩
      refine ⟨_, rfl, _, _, _, _, rfl, src_seq (b := true) hLc, for_it walkG (fun j σ H' => ∃ (c : Nat) (v8 v9 : Option V), σ = [some (.ref p), some (.ref R), some (.ref L), some (.ref M), some (.int (i : Int)), some (.int (pr.1 : Int)), some (.int (pr.2 : Int)), some (.int (c : Int)), v8, v9, none] ∧ Same Hc H' ∧ c < 2 ^ j ∧
          ∀ q, q < j → (c.testBit q = true ↔ ∃ bd, Spn al.length ps Prod.fst q pr.2 bd ∧ upTo i bd)) ⟨0, v8, v9, rfl, Same.refl Hc, by decide, fun q hq => absurd hq (Nat.not_lt_zero _)⟩ (fun j σ H' _ ⟨_, _, _, _, sa, _⟩ => sa _ _ hLc) ?_ ?_⟩
      · rintro j x σ Ha Hd hj2 ⟨c, v8, v9, rfl, sa, hc, hbit⟩ ⟨T2, ys, rfl, hT2, rfl, v, hv, rfl⟩
        have hjn : j < al.length + ps.length := by have := (List.getElem?_eq_some_iff.mp hv).1; omega
        obtain ⟨q', hq', d, kvs, rfl, hd, hh, hm⟩ := Paired.at hP2c hv
        rw [List.getElem?_range hjn] at hq'
        cases hq'
        have s5 := Same.new (o := .tup [.int (j : Int), .ref d]) sa hT2
        have DG : DGet (upd Ha T2 (.tup [.int (j : Int), .ref d])) d (.int (pr.2 : Int)) (valV kvs (.inl (pr.2 : Int))) := DGet.k (k := .inl (pr.2 : Int)) (s5 _ _ hd)
        have hc2 : c < 2 ^ (j + 1) := Nat.lt_trans hc (Nat.pow_lt_pow_right (by decide) (Nat.lt_succ_self j))
        have no : ¬ (∃ bd, Spn al.length ps Prod.fst j pr.2 bd ∧ upTo i bd) → ∀ q, q < j + 1 → (c.testBit q = true ↔ ∃ bd, Spn al.length ps Prod.fst q pr.2 bd ∧ upTo i bd) := fun hno q hq => by
          rcases Nat.lt_succ_iff_lt_or_eq.mp hq with h | h
          · exact hbit q h
          · subst h
            rw [Nat.testBit_lt_two_pow hc]
            exact ⟨fun z => (by cases z), fun z => absurd z hno⟩
        refine ⟨T2, _, rfl, SqT.of upd_same, rfl, _, _, rfl, _, _, rfl, rfl, ?_⟩
        refine ⟨_, rfl, _, rfl, d, _, rfl, DG, _, rfl, ?_⟩
        by_cases cS : ∃ bd, Spn al.length ps Prod.fst j pr.2 bd
        · obtain ⟨bd, hs⟩ := cS
          rw [hh _ _ hs] at DG ⊢
          refine iteT ⟨_, rfl, _, rfl, _, rfl, d, _, rfl, DG, i, bd, rfl, fun k hk => ⟨k, rfl, ?_⟩⟩
          cases k with
          | true =>
            refine iteT ⟨_, rfl, _, rfl, j, rfl, rfl, by omega, _, _, rfl, rfl, c + 2 ^ j, some (.int (j : Int)), some (.ref d), ?_, s5, ?_, fun q hq => ?_⟩
            · have e9 : ((c : Int) + 2 ^ j) = ((c + 2 ^ j : Nat) : Int) := by rw [Int.natCast_add, Int.natCast_pow]; rfl
              show [some (.ref p), some (.ref R), some (.ref L), some (.ref M), some (.int (i : Int)), some (.int (pr.1 : Int)), some (.int (pr.2 : Int)), some (V.int ((c : Int) + 2 ^ j)), some (.int (j : Int)), some (.ref d), none] = _
              rw [e9]
            · rw [Nat.pow_succ]; omega
            · rw [bit_add hc (by omega)]
              by_cases e : q = j
              · subst e
                rw [if_pos rfl]
                exact ⟨fun _ => ⟨bd, hs, hk.mp rfl⟩, fun _ => rfl⟩
              · rw [if_neg e]
                exact hbit q (by omega)
          | false =>
            refine iteF ⟨c, _, _, rfl, s5, hc2, no fun ⟨bd', h1, h2⟩ => ?_⟩
            rw [Spn.uniq side1 hw j h1 hs] at h2
            cases hk.mpr h2
        · rw [hm _ fun bd h => cS ⟨bd, h⟩]
          exact iteF (iteF ⟨c, _, _, rfl, s5, hc2, no fun ⟨bd', h1, _⟩ => cS ⟨bd', h1⟩⟩)
      · rintro σ He ⟨c, v8, v9, rfl, se, hc, hbit⟩
        rw [hll] at hbit
        have hRM : R ≠ M := ne_of_none hR2 hM2
        refine ⟨_, rfl, _, _, _, _, rfl, src_seq (b := true) (se _ _ hRc), for_it walkG (fun j σ H' => ∃ (v8 v9 : Option V) (Ns : List Nat), σ = [some (.ref p), some (.ref R), some (.ref L), some (.ref M), some (.int (i : Int)), some (.int (pr.1 : Int)), some (.int (pr.2 : Int)), some (.int (c : Int)), v8, v9, none] ∧ SameX M He H' ∧ H' M = some (.lst (iv Ns)) ∧ Ns.length = Ms.length ∧
            ∀ x m, Ms[x]? = some m → ∃ m', Ns[x]? = some m' ∧ ∀ q, (m'.testBit q = true ↔ m.testBit q = true ∧ ¬ (x < j ∧ (∃ bd, Spn al.length ps Prod.snd x pr.1 bd ∧ upTo (i + 1) bd) ∧ c.testBit q = true)))
          ⟨v8, v9, Ms, rfl, fun _ _ _ e => e, se _ _ hMc, rfl, fun x m hm => ⟨m, hm, fun q => ⟨fun h => ⟨h, fun z => absurd z.1 (Nat.not_lt_zero _)⟩, fun h => h.1⟩⟩⟩ (fun j σ H' _ ⟨_, _, _, _, sa, _⟩ => sa _ _ hRM (se _ _ hRc)) ?_ ?_⟩
        · rintro j x σ Ha Hd hj2 ⟨v8, v9, Ns, rfl, sa, hMa, hNl, hN⟩ ⟨T2, ys, rfl, hT2, rfl, v, hv, rfl⟩
          have hjn : j < al.length + ps.length := by have := (List.getElem?_eq_some_iff.mp hv).1; omega
          obtain ⟨q', hq', d, kvs, rfl, hd, hh, hm⟩ := Paired.at hP1c hv
          rw [List.getElem?_range hjn] at hq'
          cases hq'
          have ndM : d ≠ M := fun z => by rw [z, hMc] at hd; cases hd
          have s5 : SameX M He (upd Ha T2 (.tup [.int (j : Int), .ref d])) := fun b o hb e => (upd_ne (ne_of_none (sa b o hb e) hT2)).trans (sa b o hb e)
          have hM5 : (upd Ha T2 (.tup [.int (j : Int), .ref d])) M = some (.lst (iv Ns)) := (upd_ne (ne_of_none hMa hT2)).trans hMa
          have DG : DGet (upd Ha T2 (.tup [.int (j : Int), .ref d])) d (.int (pr.1 : Int)) (valV kvs (.inl (pr.1 : Int))) := DGet.k (k := .inl (pr.1 : Int)) (s5 _ _ ndM (se _ _ hd))
          have no : ¬ (∃ bd, Spn al.length ps Prod.snd j pr.1 bd ∧ upTo (i + 1) bd) → ∀ x m, Ms[x]? = some m → ∃ m', Ns[x]? = some m' ∧ ∀ q, (m'.testBit q = true ↔ m.testBit q = true ∧ ¬ (x < j + 1 ∧ (∃ bd, Spn al.length ps Prod.snd x pr.1 bd ∧ upTo (i + 1) bd) ∧ c.testBit q = true)) := fun hno x m hx => by
            obtain ⟨m', h1, h2⟩ := hN x m hx
            refine ⟨m', h1, fun q => (h2 q).trans ?_⟩
            constructor
            · rintro ⟨a, b⟩
              refine ⟨a, fun ⟨z1, z2, z3⟩ => b ⟨?_, z2, z3⟩⟩
              rcases Nat.lt_succ_iff_lt_or_eq.mp z1 with h | h
              · exact h
              · subst h; exact absurd z2 hno
            · rintro ⟨a, b⟩
              exact ⟨a, fun ⟨z1, z2, z3⟩ => b ⟨by omega, z2, z3⟩⟩
          refine ⟨T2, _, rfl, SqT.of upd_same, rfl, _, _, rfl, _, _, rfl, rfl, ?_⟩
          refine ⟨_, rfl, _, rfl, d, _, rfl, DG, _, rfl, ?_⟩
          by_cases cS : ∃ bd, Spn al.length ps Prod.snd j pr.1 bd
          · obtain ⟨bd, hs⟩ := cS
            rw [hh _ _ hs] at DG ⊢
            refine iteT ⟨_, rfl, _, rfl, _, rfl, d, _, rfl, DG, i, bd, rfl, fun k hk => ⟨k, rfl, ?_⟩⟩
            cases k with
            | true =>
              obtain ⟨m0, hm0⟩ : ∃ m0, Ms[j]? = some m0 := ⟨_, List.getElem?_eq_getElem (by rw [hMs.1]; exact hjn)⟩
              obtain ⟨m1, hm1, hq1⟩ := hN j m0 hm0
              have hjl : j < Ns.length := (List.getElem?_eq_some_iff.mp hm1).1
              refine iteT ⟨_, rfl, _, rfl, M, _, j, _, rfl, rfl, hM5, iv_at hm1, _, rfl, _, rfl, _, _, rfl, rfl, M, _, (j : Int), j, rfl, rfl, hM5, ?_, _, _, Ns.set j (m1 - (m1 &&& c)), rfl, ?_, ?_, by rw [List.length_set]; exact hNl, fun x m hx => ?_⟩
              · unfold ixN
                rw [iv_len, if_pos (Int.natCast_nonneg _), if_pos (by omega), Int.toNat_natCast]
              · exact fun b o hb e => (upd_ne hb).trans (s5 b o hb e)
              · rw [upd_same]
                show some (HO.lst ((iv Ns).set j (V.int (Builtin.bitAnd (m1 : Int) (Builtin.bitNot (c : Int)))))) = _
                rw [bitAnd_not]
                unfold iv
                rw [List.map_set]
              · by_cases e : x = j
                · subst e
                  rw [hm0] at hx
                  cases hx
                  refine ⟨_, List.getElem?_set_self hjl, fun q => ?_⟩
                  rw [bit_sub_and, Bool.and_eq_true, Bool.not_eq_true', hq1 q]
                  constructor
                  · rintro ⟨⟨a, _⟩, b⟩
                    exact ⟨a, fun ⟨_, _, z⟩ => by rw [b] at z; cases z⟩
                  · rintro ⟨a, b⟩
                    refine ⟨⟨a, fun ⟨z, _⟩ => absurd z (Nat.lt_irrefl _)⟩, ?_⟩
                    cases hcq : c.testBit q with
                    | false => rfl
                    | true => exact absurd ⟨Nat.lt_succ_self _, ⟨bd, hs, hk.mp rfl⟩, hcq⟩ b
                · obtain ⟨m', h1, h2⟩ := hN x m hx
                  refine ⟨m', by rw [List.getElem?_set_ne (Ne.symm e)]; exact h1, fun q => (h2 q).trans ?_⟩
                  constructor
                  · rintro ⟨a, b⟩
                    exact ⟨a, fun ⟨z1, z2, z3⟩ => b ⟨by omega, z2, z3⟩⟩
                  · rintro ⟨a, b⟩
                    exact ⟨a, fun ⟨z1, z2, z3⟩ => b ⟨by omega, z2, z3⟩⟩
            | false =>
              refine iteF ⟨_, _, Ns, rfl, s5, hM5, hNl, no fun ⟨bd', h1, h2⟩ => ?_⟩
              rw [Spn.uniq side2 hw j h1 hs] at h2
              cases hk.mpr h2
          · rw [hm _ fun bd h => cS ⟨bd, h⟩]
            exact iteF (iteF ⟨_, _, Ns, rfl, s5, hM5, hNl, no fun ⟨bd', h1, _⟩ => cS ⟨bd', h1⟩⟩)
        · rintro σ Hf ⟨v8, v9, Ns, rfl, sx, hMf, hNl, hN⟩
          rw [hrl] at hN
          refine ⟨_, _, _, _, _, _, Ns, rfl, fun b o e => sx b o (ne_of_none e hM2) ((sc.trans se) b o e), sx _ _ npM (se _ _ hpc), huc.same fun b xs e => sx b _ (fun z => by rw [z, hMc] at e; cases e) (se _ _ e), sx _ _ (Ne.symm nMi) (se _ _ hic), hMf, by rw [hNl]; exact hMs.1, fun x q hxn hq => ?_⟩
          obtain ⟨m, hm, hb⟩ := hMs.2 x q hxn hq
          obtain ⟨m', hm', hb'⟩ := hN x m hm
          refine ⟨m', hm', (hb' q).trans ?_⟩
          rw [hb, hbit q hq]
          constructor
          · rintro ⟨a, b⟩ r hr hcr
            rcases Nat.lt_succ_iff_lt_or_eq.mp hr with h | h
            · exact a r h hcr
            · subst h
              obtain ⟨p', bx, by', e1, e2, e3, e4, e5⟩ := hcr
              rw [hpr] at e1
              cases e1
              exact b ⟨hxn, ⟨bx, e2, e4⟩, ⟨by', e3, e5⟩⟩
          · intro a
            refine ⟨fun r hr => a r (by omega), fun ⟨_, ⟨bx, e2, e4⟩, ⟨by', e3, e5⟩⟩ => a i (Nat.lt_succ_self _) ⟨pr, bx, by', hpr, e2, e3, e4, e5⟩⟩
    · rintro σ H' ⟨v4, v5, v6, v7, v8, v9, Ms, rfl, sb, hpb, hub, hib, hMb, hMs⟩
      rw [hul] at hMs
      refine ⟨_, rfl, .inl ⟨M, _, rfl, SqL.of hMb, fun z hz => q _ z Ms (Same.new ((s1.trans s2).trans sb) hz) upd_same hMs⟩⟩
end
end RJ
end

section
set_option maxRecDepth 100000
set_option maxHeartbeats 4000000
namespace RJ
open PySem PySem.Spec PyProof.Rows L2
abbrev s_Joins_piece_of : Stmt := inClass (top 28) 8
abbrev N_Joins_piece_of : List Str := ["self", "text"]
theorem sc_Joins_piece_of : FnScope N_Joins_piece_of ["self", "text"] (C8.fnScope s_Joins_piece_of) := C8.fnScope_by (by decide +kernel)
abbrev s_is_tail : Stmt := top 40
abbrev N_is_tail : List Str := ["masks", "row_of_tails", "piece", "begin"]
theorem sc_is_tail : FnScope N_is_tail ["masks", "row_of_tails", "piece", "begin"] (C8.fnScope s_is_tail) := C8.fnScope_by (by decide +kernel)
abbrev s_next_tail : Stmt := top 41
abbrev N_next_tail : List Str := ["joins", "masks", "text", "row_of_tails", "longest", "length", "begin", "piece"]
theorem sc_next_tail : FnScope N_next_tail ["joins", "masks", "text", "row_of_tails"] (C8.fnScope s_next_tail) := C8.fnScope_by (by decide +kernel)
abbrev s_chain : Stmt := top 42
abbrev N_chain : List Str := ["joins", "row_of_tails", "at", "row", "piece"]
theorem sc_chain : FnScope N_chain ["joins", "row_of_tails"] (C8.fnScope s_chain) := C8.fnScope_by (by decide +kernel)
def pieceV (ts : List (List Nat)) (t : List Nat) : V := if t ∈ ts then .int ((ts.idxOf t : Nat) : Int) else .non
def sp_piece_of (C : Addr) : Sp := fun vs H Q _ => ∃ (p : Addr) (t al : List Nat) (ps : List (Nat × Nat)), vs = [.ref p, .str (S t)] ∧ JoinsAt C H p al ps ∧ Q (pieceV (textsOf al ps) t) H
def sp_is_tail : Sp := fun vs H Q _ => ∃ (mk r : Addr) (b : Nat) (row Ms : List Nat) (ps : List (Nat × Nat)) (p g : Nat), vs = [.ref mk, .ref r, .int (p : Int), .int (g : Int)] ∧ H mk = some (.tup (iv Ms)) ∧ MasksAt b ps ps.length Ms ∧ H r = some (.lst (iv row)) ∧ g ≤ row.length ∧ (∀ x ∈ row, x < b + ps.length) ∧ p < b + ps.length ∧
  ∀ (k : Bool), (k = true ↔ g = 0 ∨ ∃ y, row[g - 1]? = some y ∧ ∀ r, ¬ Cross b ps y p r) → Q (.bl k) H
def sp_next_tail (C : Addr) : Sp := fun vs H Q _ => ∃ (j mk r : Addr) (al t Ms : List Nat) (ps : List (Nat × Nat)), vs = [.ref j, .ref mk, .str (S t), .ref r] ∧ JoinsAt C H j al ps ∧ Proper al ps ∧ al.Nodup ∧ al.length ≤ 400 ∧ ps.length ≤ 400 ∧ (∀ c ∈ t, c ∈ al) ∧ t ≠ [] ∧ t.length ≤ 1000 ∧ H mk = some (.tup (iv Ms)) ∧ MasksAt al.length ps ps.length Ms ∧ H r = some (.lst (iv (tailsL al ps t (t.length - 1)))) ∧
  ∀ H', Same H H' → Q (.int ((tailOf al ps t : Nat) : Int)) H'
section
variable {P : Program} {w : World} {K : PySem.W.Frag} {mg : Str → Option Value} {base : Heap}
theorem ok_piece_of {f C : Addr} {fd : FuncData} (F : C8.Fun K "piece_of" "Joins.piece_of" s_Joins_piece_of f fd) (T : Txt K mg) (J : JTxt K C) : FnOk P w K mg base C8.CX0 1 f fd ["self", "text"] (sp_piece_of C) := by
  refine C8.fn0 F sc_Joins_piece_of (fun vs H Q E h => ?_) (fun cdv A outer s H vs Q E hr h => ?_)
  · obtain ⟨p, t, al, ps, rfl, _⟩ := h; rfl
  · obtain ⟨p, u, al, ps, rfl, ⟨dx, t, tx, d, e, ws, h1, h2, h3, h4, h5, h6⟩, q⟩ := h
    have hu := hu_of hr
    refine ⟨_, (pss_one (ps_ret (pe_dget1 hu (pe_fld (pv 0) rfl) (pv 1) ⟨by rfl, by rfl, by rfl, by rfl⟩))), ?_⟩
    refine ⟨_, rfl, p, C, dx, _, _, rfl, h1, J.cl, J.n5, f5_pieces_by_text al t tx d e, e, rfl, .inl ⟨_, .inl h6⟩, _, rfl, _, DGet.k (k := .inr (S u)) h6, ?_⟩
    rw [kvsT_get]
    unfold pieceV at q
    by_cases c : u ∈ textsOf al ps
    · rw [if_pos c] at q ⊢
      rw [Nat.zero_add]; exact q
    · rw [if_neg c] at q ⊢; exact q
theorem ok_is_tail {f : Addr} {fd : FuncData} (F : C8.Fun K "is_tail" "is_tail" s_is_tail f fd) (T : Txt K mg) : FnOk P w K mg base C8.CX0 1 f fd ["masks", "row_of_tails", "piece", "begin"] sp_is_tail := by
  refine C8.fn0 F sc_is_tail (fun vs H Q E h => ?_) (fun cdv A outer s H vs Q E hr h => ?_)
  · obtain ⟨mk, r, b, row, Ms, ps, p, g, rfl, _⟩ := h; rfl
  · obtain ⟨mk, r, b, row, Ms, ps, p, g, rfl, hmk, hMs, hrow, hb, hlt, hp, q⟩ := h
    refine ⟨_, (pss_one (ps_ret (pe_or (pe_cmpR op_eq (pv 3) pe_int (nomark _)) (pe_one (pe_cmpR op_eq (pe_op op_and (pe_op op_shrN (pe_ix ix_tup (pv 0) (pe_ix ix_list (pv 1) (pe_op op_sub (pv 3) pe_int) (fun _ _ => rfl)) (fun _ _ => rfl)) (pv 2)) pe_int) pe_int (nomark _)))))), ?_⟩
    refine ⟨_, rfl, rfl, _, rfl, ?_⟩
    by_cases hb0 : g = 0
    · subst hb0
      rw [decide_eq_true (show V.int ((0 : Nat) : Int) = V.int 0 from rfl)]
      exact iteT (q true ⟨fun _ => .inl rfl, fun _ => rfl⟩)
    · rw [decide_eq_false (fun z => hb0 (by injection z with z; omega))]
      obtain ⟨y, hy⟩ : ∃ y, row[g - 1]? = some y := ⟨_, List.getElem?_eq_getElem (by omega)⟩
      obtain ⟨m, hm, hbit⟩ := hMs.2 y p (hlt y (List.mem_of_getElem? hy)) hp
      have hat : atI (iv row) ((g : Int) - 1) = some (.int (y : Int)) := by
        have e : (g : Int) - 1 = ((g - 1 : Nat) : Int) := by omega
        rw [e]; exact atI_nat (iv_at hy)
      refine iteF ⟨_, rfl, _, rfl, _, rfl, _, _, rfl, rfl, r, _, _, _, rfl, rfl, SqL.of hrow, hat, mk, _, _, _, rfl, rfl, SqT.of hmk, atI_nat (iv_at hm), _, rfl, (m : Int), p, rfl, rfl, _, _, rfl, rfl, rfl, q _ ?_⟩
      show decide (V.int (Builtin.bitAnd ((m : Int) / 2 ^ p) 1) = V.int 1) = true ↔ _
      rw [bit_one, decide_eq_true_eq]
      have e2 : V.int ((m / 2 ^ p % 2 : Nat) : Int) = V.int 1 ↔ m.testBit p = true := by
        rw [Nat.testBit_eq_decide_div_mod_eq, decide_eq_true_eq]
        constructor
        · intro z; injection z with z; omega
        · intro z; rw [z]; rfl
      rw [e2, hbit]
      constructor
      · exact fun h => .inr ⟨y, hy, fun r hc => h r hc.lt hc⟩
      · rintro (h | ⟨y', hy', h⟩)
        · exact absurd h hb0
        · rw [hy] at hy'
          cases hy'
          exact fun r _ => h r
theorem ok_next_tail {f C : Addr} {fd : FuncData} (F : C8.Fun K "next_tail" "next_tail" s_next_tail f fd) (T : Txt K mg) (J : JTxt K C) (m_piece_of : C8.Met P w K mg base 1 C "piece_of" (sp_piece_of C) []) (c_is_tail : C8.Cal P w K mg base 1 "is_tail" sp_is_tail []) : FnOk P w K mg base C8.CX0 2 f fd ["joins", "masks", "text", "row_of_tails"] (sp_next_tail C) := by
  refine C8.fn0 F sc_next_tail (fun vs H Q E h => ?_) (fun cdv A outer s H vs Q E hr h => ?_)
  · obtain ⟨j, mk, r, al, t, Ms, ps, rfl, _⟩ := h; rfl
  · obtain ⟨j, mk, r, al, t, Ms, ps, rfl, hj, hprop, hnd, hal, hpl, ht, hne, htl, hmk, hMs, hr0, q⟩ := h
    refine ⟨_, (pss_cons (ps_set (i := 4) sc_next_tail.nd rfl (Or.inl rfl) (pe_callB (call_min2 rfl) (by rfl) T.b_min (by decide +kernel) (pa_cons (pe_callB call_len_str (by rfl) T.b_len PySem.boot_len (pa_cons (pv 2) pa_nil)) (pa_cons (C8.pe_gc rfl T.c_MOST_SIGNS_OF_PIECE) pa_nil))))
      (pss_cons (ps_for PassesOwn.never rfl (pi_range2 rfl T.b_range (pa_cons pe_int (pa_cons (pe_op op_add (pv 4) pe_int) pa_nil))) (pg_name (i := 5) sc_next_tail.nd rfl (Or.inl rfl)) (pss_cons (ps_set (i := 6) sc_next_tail.nd rfl (Or.inl rfl) (pe_op op_sub (pe_callB call_len_str (by rfl) T.b_len PySem.boot_len (pa_cons (pv 2) pa_nil)) (pv 5)))
      (pss_cons (ps_set (i := 7) sc_next_tail.nd rfl (Or.inl rfl) (C8.pe_mt m_piece_of hr (by first | decide | omega) (pv 0) (pa_cons (pe_slice sl_str (pv 2) (po_some (pv 6)) po_none) pa_nil)))
      (pss_one (ps_if (PW.pt (pw_and (pt_cmpR op_notN (pv 7) pe_non (nomark _)) (pw_and1 (pt_val (C8.pe_c c_is_tail hr (by first | decide | omega) (by rfl) (pa_cons (pv 1) (pa_cons (pv 3) (pa_cons (pv 7) (pa_cons (pv 6) pa_nil))))))))) (pss_one (ps_ret (pv 7))) pss_nil)))))
      (pss_one (ps_ret pe_non)))), ?_⟩
    refine ⟨_, rfl, S t, rfl, by rw [S_len]; exact small_le htl, (((S t).length : Nat) : Int), 40, rfl, ?_⟩
    rw [S_len]
    obtain ⟨L, hL, hL1, hL2⟩ : ∃ L : Nat, (if (40 : Int) < (t.length : Int) then (40 : Int) else (t.length : Int)) = (L : Int) ∧ L ≤ t.length ∧ (L = 40 ∨ L = t.length) := by
      by_cases c : (40 : Int) < (t.length : Int)
      · exact ⟨40, by rw [if_pos c]; rfl, by omega, .inl rfl⟩
      · exact ⟨t.length, by rw [if_neg c], Nat.le_refl _, .inr rfl⟩
    rw [hL]
    obtain ⟨u0, hx, htu, hct, hpos, hno⟩ := tail_ex hnd hprop ht hne
    have hxm : (textsOf al ps)[tailOf al ps t]? = some (TX al ps (tailOf al ps t)) := by
      rw [List.getElem?_eq_getElem (by rw [textsOf_len]; exact hx)]
      show _ = some ((textsOf al ps).getD _ [])
      rw [List.getD_eq_getElem?_getD, List.getElem?_eq_getElem (by rw [textsOf_len]; exact hx)]; rfl
    have hsh := hprop.short _ (List.mem_of_getElem? hxm)
    have htl2 : t.length = u0.length + (TX al ps (tailOf al ps t)).length := by
      have := congrArg List.length htu
      rwa [List.length_append] at this
    refine ⟨_, rfl, _, _, rfl, rfl, _, _, rfl, ⟨by omega, by omega, by omega, by omega⟩, for_it walk_range (fun i σ H' => ∃ v4 v5 v6 : Option V, σ = [some (.ref j), some (.ref mk), some (.str (S t)), some (.ref r), some (.int (L : Int)), v4, v5, v6] ∧ Same H H' ∧ i < (TX al ps (tailOf al ps t)).length) ⟨none, none, none, rfl, Same.refl H, hpos⟩ (fun _ _ _ _ _ => trivial) ?_ ?_⟩
    · rintro i x σ Ha Hb hi ⟨v4, v5, v6, rfl, sa, hil⟩ ⟨rfl, hx2⟩
      have hiL : i < L := by have : i < ((L : Int) + 1 - 1).toNat := hi; omega
      have hja := hj.same sa
      obtain ⟨dx, fs, m1, m2⟩ : ∃ dx fs, Hb j = some (.ins C dx fs) ∧ fs.lookup ("piece_of" : Str) = none := by
        obtain ⟨dx, t, tx, d, e, ws, h1, _⟩ := id hja
        exact ⟨dx, _, h1, f5_no al t tx d e (by decide +kernel) (by decide +kernel) (by decide +kernel) (by decide +kernel) (by decide +kernel)⟩
      obtain rfl : x = V.int (1 + (i : Int)) := hx2
      obtain ⟨bg, hbg, hbl⟩ : ∃ bg : Nat, (t.length : Int) - (1 + (i : Int)) = (bg : Int) ∧ bg + (1 + i) = t.length := ⟨t.length - (1 + i), by omega, by omega⟩
      refine ⟨_, rfl, S t, rfl, by rw [S_len]; exact small_le htl, _, rfl, _, _, rfl, rfl, _, rfl, j, dx, fs, rfl, m1, m2, ?_⟩
      rw [S_len]
      dsimp only
      rw [hbg]
      refine ⟨_, rfl, _, rfl, _, rfl, S t, rfl, by rw [S_len]; exact small_le htl, ?_⟩
      rw [cutS_from]
      refine ⟨j, t.drop bg, al, ps, rfl, hja, ?_⟩
      have hadv : ¬ (bg = t.length - (TX al ps (tailOf al ps t)).length) → i + 1 < (TX al ps (tailOf al ps t)).length := fun h => by omega
      have hdrop : bg = t.length - (TX al ps (tailOf al ps t)).length → t.drop bg = TX al ps (tailOf al ps t) ∧ t.take bg = u0 := fun h => by
        have e : bg = u0.length := by omega
        rw [e]
        constructor
        · conv => lhs; rw [htu]
          rw [List.drop_left]
        · conv => lhs; rw [htu]
          rw [List.take_left]
      unfold pieceV
      by_cases hm : t.drop bg ∈ textsOf al ps
      · rw [if_pos hm]
        have hpl2 := List.idxOf_lt_length_of_mem hm
        have hpm : (textsOf al ps)[(textsOf al ps).idxOf (t.drop bg)]? = some (t.drop bg) := by rw [List.getElem?_eq_getElem hpl2, List.getElem_idxOf]
        obtain ⟨p, hp⟩ : ∃ p, p = (textsOf al ps).idxOf (t.drop bg) := ⟨_, rfl⟩
        rw [← hp] at hpm hpl2 ⊢
        have hpt : TX al ps p = t.drop bg := by show (textsOf al ps).getD p [] = _; rw [List.getD_eq_getElem?_getD, hpm]; rfl
        have hp' : p < al.length + ps.length := by rw [← textsOf_len]; exact hpl2
        refine ⟨_, rfl, rfl, _, rfl, iteT ⟨_, rfl, _, rfl, _, rfl, _, rfl, mk, r, al.length, _, Ms, ps, p, bg, rfl, sa _ _ hmk, hMs, sa _ _ hr0, by rw [tailsL_len]; omega, tailsL_lt hnd hprop ht (by omega), hp', fun k hk => ⟨k, rfl, ?_⟩⟩⟩
        have hcond : k = true ↔ t.take bg = [] ∨ ∀ r, ¬ Cross al.length ps (tailOf al ps (t.take bg)) p r := by
          rw [hk]
          constructor
          · rintro (h | ⟨y, hy, h⟩)
            · exact .inl (by rw [h, List.take_zero])
            · by_cases h0 : bg = 0
              · exact .inl (by rw [h0, List.take_zero])
              · rw [tailsL_get t (by omega : bg - 1 < t.length - 1), show bg - 1 + 1 = bg by omega] at hy
                cases hy
                exact .inr h
          · by_cases h0 : bg = 0
            · exact fun _ => .inl h0
            · rintro (h | h)
              · have := congrArg List.length h
                rw [List.length_take, List.length_nil] at this; omega
              · exact .inr ⟨_, by rw [tailsL_get t (by omega : bg - 1 < t.length - 1), show bg - 1 + 1 = bg by omega], h⟩
        have htb : t = t.take bg ++ TX al ps p := by rw [hpt, List.take_append_drop]
        cases k with
        | true =>
          have := (tail_uniq hnd hprop ht hp' htb (hcond.mp rfl)).1
          refine iteT ⟨_, rfl, ?_⟩
          rw [this]
          exact q _ sa
        | false =>
          refine iteF ⟨_, _, _, rfl, sa, hadv fun h => ?_⟩
          obtain ⟨h1, h2⟩ := hdrop h
          rw [h1] at hpm
          have hpx := texts_inj hnd hprop hpm hxm
          have := hcond.mpr (by rw [h2, hpx]; exact hno)
          cases this
      · rw [if_neg hm]
        refine ⟨_, rfl, rfl, _, rfl, iteF (iteF ⟨_, _, _, rfl, sa, hadv fun h => hm ?_⟩)⟩
        rw [(hdrop h).1]
        exact List.mem_of_getElem? hxm
    · rintro σ H2 ⟨v4, v5, v6, rfl, sa, hil⟩
      exfalso
      have e : ((L : Int) + 1 - 1).toNat = L := by omega
      rw [e] at hil
      omega
end
end RJ
end

section
set_option maxRecDepth 100000
set_option maxHeartbeats 4000000
namespace RJ
open PySem PySem.Spec PyProof.Rows L2
def sp_tails (C : Addr) : Sp := fun vs H Q _ => ∃ (j : Addr) (al t : List Nat) (ps : List (Nat × Nat)), vs = [.ref j, .str (S t)] ∧ JoinsAt C H j al ps ∧ Proper al ps ∧ al.Nodup ∧ al.length ≤ 400 ∧ ps.length ≤ 400 ∧ (∀ c ∈ t, c ∈ al) ∧ t.length ≤ 1000 ∧
  ∀ H' q, Same H H' → H' q = some (.tup (iv (tailsL al ps t t.length))) → Q (.ref q) H'
def sp_chainT (C : Addr) : Sp := fun vs H Q _ => ∃ (j r : Addr) (al t : List Nat) (ps : List (Nat × Nat)), vs = [.ref j, .ref r] ∧ JoinsAt C H j al ps ∧ Proper al ps ∧ al.Nodup ∧ al.length ≤ 400 ∧ ps.length ≤ 400 ∧ (∀ c ∈ t, c ∈ al) ∧ t.length ≤ 1000 ∧ H r = some (.tup (iv (tailsL al ps t t.length))) ∧
  ∀ H' q, Same H H' → H' q = some (.tup (iv (CT al ps t))) → Q (.ref q) H'
theorem cutS_upto (l : List Nat) (k : Nat) : cutS (S l) none (some (k : Int)) = S (l.take k) := by
  show (⟨(((S l).cps.toList.drop (HT.sIx (S l).length 0 none)).take (HT.sIx (S l).length (S l).length (some (k : Int)) - HT.sIx (S l).length 0 none)).toArray⟩ : Str) = ⟨(l.take k).toArray⟩
  rw [HT.sIx_nat, HT.sIx_none, S_len]
  have e : (l.drop 0).take (min k l.length - 0) = l.take k := by
    rw [List.drop_zero, Nat.sub_zero]
    by_cases h : k ≤ l.length
    · rw [Nat.min_eq_left h]
    · rw [Nat.min_eq_right (by omega), List.take_length, List.take_of_length_le (by omega)]
  exact congrArg (fun z : List Nat => (⟨z.toArray⟩ : Str)) e
section
variable {P : Program} {w : World} {K : PySem.W.Frag} {mg : Str → Option Value} {base : Heap}
theorem ok_chainT {f C : Addr} {fd : FuncData} (F : C8.Fun K "chain" "chain" s_chain f fd) (T : Txt K mg) (J : JTxt K C) (m_text_of : C8.Met P w K mg base 5 C "text_of" (sp_text_of C) []) : FnOk P w K mg base C8.CX0 6 f fd ["joins", "row_of_tails"] (sp_chainT C) := by
  refine C8.fn0 F sc_chain (fun vs H Q E h => ?_) (fun cdv A outer s H vs Q E hr h => ?_)
  · obtain ⟨j, r, al, t, ps, rfl, _⟩ := h; rfl
  · obtain ⟨j, r, al, t, ps, rfl, hj, hprop, hnd, hal, hpl, ht, htl, hr0, q⟩ := h
    refine ⟨_, (pss_cons (ps_set (i := 2) sc_chain.nd rfl (Or.inl rfl) (pe_callB call_len_seq (by rfl) T.b_len PySem.boot_len (pa_cons (pv 1) pa_nil)))
      (pss_cons (ps_set (i := 3) sc_chain.nd rfl (Or.inl rfl) (pe_lst pa_nil))
      (pss_cons (ps_while PassesOwn.never (pt_cmpR op_gt (pv 2) pe_int (nomark _)) (pss_cons (ps_set (i := 4) sc_chain.nd rfl (Or.inl rfl) (pe_ix ix_tup (pv 1) (pe_op op_sub (pv 2) pe_int) (fun _ _ => rfl)))
      (pss_cons (ps_expr (pe_bm PySem.F.plainAttrs_list PySem.F.slot_list_append PySem.F.type_list_append mt_append (pv 3) (pa_cons (pv 4) pa_nil)))
      (pss_one (ps_aug (i := 2) sc_chain.nd rfl (Or.inl rfl) (pe_callB call_len_str (by rfl) T.b_len PySem.boot_len (pa_cons (C8.pe_mt m_text_of hr (by first | decide | omega) (pv 0) (pa_cons (pv 4) pa_nil)) pa_nil)) ip_sub)))))
      (pss_one (ps_ret (pe_tupleOf (by rfl) T.b_tuple (pe_revL (pv 3)))))))), ?_⟩
    refine ⟨_, rfl, r, _, rfl, .inr (SqT.of hr0), Nat.zero_le _, fun D hD => ?_⟩
    rw [iv_len, tailsL_len]
    have s0 := same_new (o := .lst []) hD
    refine ⟨fun m σ H' => ∃ (R : List Nat) (v4 : Option V), σ = [some (.ref j), some (.ref r), some (.int (m : Int)), some (.ref D), v4] ∧ Same H H' ∧ H' D = some (.lst (iv R)) ∧ m ≤ t.length ∧ m + R.length ≤ t.length ∧ CT al ps t = CT al ps (t.take m) ++ R.reverse, ⟨t.length, [], none, rfl, s0, upd_same, Nat.le_refl _, Nat.le_refl _, by rw [List.take_length]; simp⟩, ?_⟩
    rintro m σ H2 ⟨R, v4, rfl, s2, hD2, hmt, hmR, hct⟩
    refine ⟨_, rfl, _, _, rfl, rfl, _, rfl, ?_⟩
    by_cases h0 : 0 < m
    · rw [decide_eq_true (by omega : (0 : Int) < (m : Int))]
      refine iteT ⟨fun σ' H' => ∃ m', m' < m ∧ ∃ (R : List Nat) (v4 : Option V), σ' = [some (.ref j), some (.ref r), some (.int (m' : Int)), some (.ref D), v4] ∧ Same H H' ∧ H' D = some (.lst (iv R)) ∧ m' ≤ t.length ∧ m' + R.length ≤ t.length ∧ CT al ps t = CT al ps (t.take m') ++ R.reverse, fun σ' H' ⟨m', h1, h2⟩ => ⟨m', h1, h2⟩, ?_⟩
      have htm : (t.take m).length = m := by rw [List.length_take]; omega
      obtain ⟨u, hx, htu, hcu, hpos, _⟩ := tail_ex hnd hprop (t := t.take m) (fun c hc => ht c (List.mem_of_mem_take hc)) (fun z => by rw [z] at htm; rw [List.length_nil] at htm; omega)
      obtain ⟨y, hy⟩ : ∃ y, y = tailOf al ps (t.take m) := ⟨_, rfl⟩
      rw [← hy] at hx htu hcu hpos
      have hlen : m = u.length + (TX al ps y).length := by
        have := congrArg List.length htu
        rwa [htm, List.length_append] at this
      have hul : u = t.take u.length := by
        have e := congrArg (List.take u.length) htu
        rw [List.take_left, List.take_take, Nat.min_eq_left (by omega)] at e
        exact e.symm
      have hat : (tailsL al ps t t.length)[m - 1]? = some y := by rw [tailsL_get t (by omega), show m - 1 + 1 = m by omega, hy]
      obtain ⟨dx, fs, m1, m2⟩ : ∃ dx fs, (upd H2 D (.lst (iv (R ++ [y])))) j = some (.ins C dx fs) ∧ fs.lookup ("text_of" : Str) = none := by
        obtain ⟨dx, t, tx, d, e, ws, h1, _⟩ := (hj.same (Same.put (o := .lst (iv (R ++ [y]))) s2 hD))
        exact ⟨dx, _, h1, f5_no al t tx d e (by decide +kernel) (by decide +kernel) (by decide +kernel) (by decide +kernel) (by decide +kernel)⟩
      have hat' : atI (iv (tailsL al ps t t.length)) ((m : Int) - 1) = some (.int (y : Int)) := by
        have e : (m : Int) - 1 = ((m - 1 : Nat) : Int) := by omega
        rw [e]; exact atI_nat (iv_at hat)
      refine ⟨_, rfl, _, rfl, _, _, rfl, rfl, r, _, _, _, rfl, rfl, SqT.of (s2 _ _ hr0), hat', ?_⟩
      refine ⟨_, rfl, .inl ⟨rfl, _, SqL.of hD2⟩, _, rfl, D, _, _, rfl, rfl, hD2, by rw [iv_len]; exact small1000 (by omega), ?_⟩
      rw [iv_snoc]
      refine ⟨_, rfl, _, rfl, j, dx, fs, rfl, m1, m2, _, rfl, j, y, al, ps, rfl, hj.same (Same.put s2 hD), hx, ?_⟩
      have hsz : ((textsOf al ps).getD y []).length = (TX al ps y).length := rfl
      refine ⟨_, rfl, by rw [S_len, hsz]; exact small_le (by omega), _, _, rfl, rfl, u.length, by omega, R ++ [y], some (.int (y : Int)), ?_, Same.put s2 hD, upd_same, by omega, by rw [List.length_append, List.length_singleton]; omega, ?_⟩
      · rw [S_len, hsz]
        have e9 : (m : Int) - ((TX al ps y).length : Int) = (u.length : Int) := by omega
        show [some (.ref j), some (.ref r), some (V.int ((m : Int) - ((TX al ps y).length : Int))), some (.ref D), some (.int (y : Int))] = _
        rw [e9]
      · rw [hct, hcu, ← hul, List.reverse_append]; simp
    · rw [decide_eq_false (by omega : ¬ (0 : Int) < (m : Int))]
      have hm0 : m = 0 := by omega
      subst hm0
      refine iteF ⟨_, rfl, D, _, rfl, SqL.of hD2, fun z hz => .inl ⟨z, _, rfl, SqL.of upd_same, fun z2 hz2 => ?_⟩⟩
      have e : (iv R).reverse = iv (CT al ps t) := by
        rw [hct, List.take_zero, show CT al ps [] = [] from cut_nil _ _, List.nil_append]
        unfold iv
        rw [← List.map_reverse]
      rw [e] at hz2 ⊢
      exact q _ z2 (Same.new (Same.new s2 hz) hz2) upd_same
end
end RJ
end

section
set_option maxRecDepth 100000
set_option maxHeartbeats 4000000
namespace RJ
open PySem PySem.Spec PyProof.Rows L2
abbrev s_UnknownSign___init__ : Stmt := inClass (top 6) 0
abbrev N_UnknownSign___init__ : List Str := ["self", "sign", "at"]
theorem sc_UnknownSign___init__ : SupS N_UnknownSign___init__ ["self", "sign", "at"] (C8.fnScope s_UnknownSign___init__) := supS_of (by decide +kernel)
abbrev s_NoPiece___init__ : Stmt := inClass (top 5) 0
abbrev N_NoPiece___init__ : List Str := ["self", "piece"]
theorem sc_NoPiece___init__ : SupS N_NoPiece___init__ ["self", "piece"] (C8.fnScope s_NoPiece___init__) := supS_of (by decide +kernel)
abbrev s_InvalidNumber___init__ : Stmt := inClass (top 8) 0
abbrev N_InvalidNumber___init__ : List Str := ["self", "number"]
theorem sc_InvalidNumber___init__ : SupS N_InvalidNumber___init__ ["self", "number"] (C8.fnScope s_InvalidNumber___init__) := supS_of (by decide +kernel)
abbrev s_InvalidAlphabet___init__ : Stmt := inClass (top 3) 0
abbrev N_InvalidAlphabet___init__ : List Str := ["self", "alphabet"]
theorem sc_InvalidAlphabet___init__ : SupS N_InvalidAlphabet___init__ ["self", "alphabet"] (C8.fnScope s_InvalidAlphabet___init__) := supS_of (by decide +kernel)
abbrev s_NotProper___init__ : Stmt := inClass (top 4) 0
abbrev N_NotProper___init__ : List Str := ["self", "rank"]
theorem sc_NotProper___init__ : SupS N_NotProper___init__ ["self", "rank"] (C8.fnScope s_NotProper___init__) := supS_of (by decide +kernel)
/-- an error's __init__ that keeps one value, two values -/
def sp_err1 (C : Addr) (f1 : Str) (G : V → Prop) : Sp := fun vs H Q _ => ∃ (a : Addr) (x : V), vs = [.ref a, x] ∧ G x ∧ H a = some (exo a C none) ∧
  ∀ dx, H dx = none → dx ≠ a → Q .non (upd (upd H dx (exd dx [(f1, x)])) a (exo a C (some dx)))
def sp_err2 (C : Addr) (f1 f2 : Str) (G : V → V → Prop) : Sp := fun vs H Q _ => ∃ (a : Addr) (x y : V), vs = [.ref a, x, y] ∧ G x y ∧ H a = some (exo a C none) ∧
  ∀ dx, H dx = none → dx ≠ a → Q .non (upd (upd (upd H dx (exd dx [(f1, x)])) a (exo a C (some dx))) dx (exd dx [(f2, y), (f1, x)]))
/-- the error that is raised -/
def ErrAt (E : XK) (C : Addr) (H : Hp) (fs : List (Str × V)) : Prop := ∀ d H', Same H H' → H' d = some (.xd fs) → E (.ref C) (some d) H'
theorem ErrAt.same {E : XK} {C : Addr} {H H' : Hp} {fs : List (Str × V)} (h : ErrAt E C H fs) (s : Same H H') : ErrAt E C H' fs := fun d H2 s2 => h d H2 (s.trans s2)
theorem err_end {C a d : Addr} {H H2 : Hp} {fs : List (Str × V)} (ha : H a = none) (hd : H d = none) (hne : d ≠ a) (k : ∀ b o, b ≠ a → b ≠ d → H b = some o → H2 b = some o) : Same H (upd (del H2 a) d (.xd fs)) ∧ (upd (del H2 a) d (.xd fs)) d = some (.xd fs) := by
  refine ⟨fun b o e => ?_, upd_same⟩
  have h1 : b ≠ a := ne_of_none e ha
  have h2 : b ≠ d := ne_of_none e hd
  rw [upd_ne h2, del_ne h1]
  exact k b o h1 h2 e
theorem mk_err2 {C : Addr} {f1 f2 : Str} {G : V → V → Prop} {ta : TA} {σ : L2.St} {H : Hp} {Q : XK} {x y : V} (hg : G x y) (h : ta σ H fun vs H1 => vs = [x, y] ∧ ErrAt Q C H1 [(f2, y), (f1, x)]) (mono : ∀ {R R' : List V → Hp → Prop}, ta σ H R → (∀ vs H1, R vs H1 → R' vs H1) → ta σ H R') :
    tMkO C (sp_err2 C f1 f2 G) [] ta σ H Q := by
  refine mono h fun vs H1 hh => ?_
  obtain ⟨rfl, q⟩ := hh
  refine ⟨by show 2 ≤ 1000; decide, fun a ha => ⟨a, x, y, rfl, hg, upd_same, fun dx hdx hne => ?_⟩⟩
  rw [upd_ne hne] at hdx
  have e0 := err_end (C := C) (H2 := upd (upd (upd (upd H1 a (exo a C none)) dx (exd dx [(f1, x)])) a (exo a C (some dx))) dx (exd dx [(f2, y), (f1, x)])) (fs := [(f2, y), (f1, x)]) ha hdx hne fun b o h1 h2 e => by
    rw [upd_ne h2, upd_ne h1, upd_ne h2, upd_ne h1]; exact e
  exact ⟨rfl, dx, _, (upd_ne (Ne.symm hne)).trans upd_same, upd_same, hdx, q dx _ e0.1 e0.2⟩
theorem mk_err1 {C : Addr} {f1 : Str} {G : V → Prop} {ta : TA} {σ : L2.St} {H : Hp} {Q : XK} {x : V} (hg : G x) (h : ta σ H fun vs H1 => vs = [x] ∧ ErrAt Q C H1 [(f1, x)]) (mono : ∀ {R R' : List V → Hp → Prop}, ta σ H R → (∀ vs H1, R vs H1 → R' vs H1) → ta σ H R') :
    tMkO C (sp_err1 C f1 G) [] ta σ H Q := by
  refine mono h fun vs H1 hh => ?_
  obtain ⟨rfl, q⟩ := hh
  refine ⟨by show 1 ≤ 1000; decide, fun a ha => ⟨a, x, rfl, hg, upd_same, fun dx hdx hne => ?_⟩⟩
  rw [upd_ne hne] at hdx
  have e0 := err_end (C := C) (H2 := upd (upd (upd H1 a (exo a C none)) dx (exd dx [(f1, x)])) a (exo a C (some dx))) (fs := [(f1, x)]) ha hdx hne fun b o h1 h2 e => by
    rw [upd_ne h1, upd_ne h2, upd_ne h1]; exact e
  exact ⟨rfl, dx, _, upd_same, (upd_ne hne).trans upd_same, hdx, q dx _ e0.1 e0.2⟩
theorem repr_sign {c : Nat} (h : c < 1114112) : (reprText (S [c])).length ≤ 12 := by
  have := PySem.StrLaws.reprText_len (S [c]) (fun x hx => by
    have hx' : x ∈ [c] := hx
    obtain rfl := List.mem_singleton.mp hx'
    have : (16 : Nat) ^ 8 = 4294967296 := by decide
    omega)
  rw [S_len] at this
  exact this
/-- a sign and a place -/
def gSign (x y : V) : Prop := ∃ c i : Nat, x = .str (S [c]) ∧ y = .int (i : Int) ∧ c < 1114112 ∧ i ≤ 1000
theorem int_len {i : Nat} (h : i ≤ 1000) : (Str.ofString (toString (i : Int))).length ≤ 100 := by
  have : ∀ i : Nat, i ≤ 1000 → (Str.ofString (toString (i : Int))).length ≤ 100 := by
    intro i hi
    have e : toString ((i : Nat) : Int) = toString i := rfl
    rw [SX.num_S, S_len]
    by_cases h0 : i = 0
    · subst h0; decide
    · exact Nat.le_trans (TL.numL_len (n := i) (k := 4) (by decide) (by omega)) (by decide)
  exact this i h
section
variable {P : Program} {w : World} {K : PySem.W.Frag} {mg : Str → Option Value} {base : Heap}
theorem ok_UnknownSign {f C : Addr} {fd : FuncData} (F : SupF P K C "UnknownSign.__init__" s_UnknownSign___init__ f fd) (T : Txt K mg) (hm : mg "super" = none) (n1 : PySem.W.findIn K (.ref C) "sign" = some none) (n2 : PySem.W.findIn K (.ref C) "at" = some none) :
    FnOk P w K mg base C8.CX0 1 f fd ["self", "sign", "at"] (sp_err2 C "sign" "at" gSign) := by
  refine fn_super F hm sc_UnknownSign___init__ rfl rfl rfl (fun vs H Q E h => ?_) (fun vs H Q E h => ?_) (fun _ => rfl) (fun _ => rfl) (fun _ _ => rfl) (fun cda cc A outer s H vs Q E hr h => ?_)
  · obtain ⟨a, x, y, rfl, _⟩ := h; rfl
  · obtain ⟨a, x, y, rfl, _, ea, _⟩ := h; exact ⟨a, _, rfl, ea⟩
  · obtain ⟨a, x, y, rfl, ⟨c, i, rfl, rfl, hc, hi⟩, ea, q⟩ := h
    have nd : N_UnknownSign___init__.Nodup := sc_UnknownSign___init__.nd
    refine ⟨_, _, (pa_cons (pe_joined (PJ.cons pe_str (PJ.cons (pe_fmtR (pv 1)) (PJ.cons pe_str (PJ.cons (pe_fmtR (pv 2)) PJ.nil))))) pa_nil), (pss_cons (ps_ost (pv 0) (pv 1))
      (pss_one (ps_ost (pv 0) (pv 2)))), ?_, ?_⟩
    · have h1 := repr_sign hc
      have h2 := int_len hi
      have hsl : sizeLine = 16777216 := sizeLine_eq
      refine ⟨_, rfl, ?_, ⟨_, rfl, .inl ⟨S [c], rfl, by omega, ⟨_, rfl, ?_, ⟨_, rfl, ?_, ⟨_, rfl, .inr ⟨(i : Int), rfl, ?_, ⟨_, rfl, ?_, ⟨rfl, by show 1 ≤ 1000; decide⟩⟩⟩⟩⟩⟩⟩⟩⟩
      · decide
      · rw [PySem.Str.length_append]
        have c1 : (Str.empty ++ Str.ofString "no letter: ").length = 11 := by decide
        omega
      · rw [PySem.Str.length_append, PySem.Str.length_append]
        have c1 : (Str.empty ++ Str.ofString "no letter: ").length = 11 := by decide
        have c2 : (Str.ofString " at ").length = 4 := by decide
        omega
      · rw [Int.natAbs_natCast]
        exact Nat.lt_of_le_of_lt (Nat.log2_le_self i) (by omega)
      · rw [PySem.Str.length_append, PySem.Str.length_append, PySem.Str.length_append]
        have c1 : (Str.empty ++ Str.ofString "no letter: ").length = 11 := by decide
        have c2 : (Str.ofString " at ").length = 4 := by decide
        omega
    · refine ⟨.str (S [c]), rfl, .ref a, rfl, a, C, rfl, F.oex, n1, .inl ⟨ea, fun dx hdx hne => ?_⟩⟩
      exact ⟨.int (i : Int), rfl, .ref a, rfl, a, C, rfl, F.oex, n2, .inr ⟨dx, _, upd_same, (upd_ne hne).trans upd_same, by show 1 ≤ 900; decide, q dx hdx hne⟩⟩
end
end RJ
end

section
set_option maxRecDepth 100000
set_option maxHeartbeats 4000000
namespace RJ
open PySem PySem.Spec PyProof.Rows L2
/-- the first sign that is no letter -/
def FirstBad (al t : List Nat) (i c : Nat) : Prop := t[i]? = some c ∧ c ∉ al ∧ ∀ x ∈ t.take i, x ∈ al
def sp_letter_rowX (CU : Addr) : Sp := fun vs H _ E => ∃ (al t : List Nat) (i c : Nat), vs = [.str (S al), .str (S t)] ∧ FirstBad al t i c ∧ t.length ≤ 1000 ∧ c < 1114112 ∧ ErrAt E CU H [("at", .int (i : Int)), ("sign", .str (S [c]))]
def sp_letters_ofX (C CU : Addr) : Sp := fun vs H _ E => ∃ (p : Addr) (t al : List Nat) (ps : List (Nat × Nat)) (i c : Nat), vs = [.ref p, .str (S t)] ∧ JoinsAt C H p al ps ∧ FirstBad al t i c ∧ t.length ≤ 1000 ∧ c < 1114112 ∧ ErrAt E CU H [("at", .int (i : Int)), ("sign", .str (S [c]))]
theorem find_none {al : List Nat} {c : Nat} (h : c ∉ al) : Txt.find (S al) ⟨#[c]⟩ = -1 := by
  have e := SX.in_one al c
  rw [decide_eq_false h] at e
  have e2 : Builtin.Str.occurrences (S al) ⟨#[c]⟩ 0 (S al).length 1 = [] := by
    have e3 : (Builtin.Str.occurrences (SX.S al) (SX.S [c]) 0 (SX.S al).length 1).isEmpty = true := by
      cases z : (Builtin.Str.occurrences (SX.S al) (SX.S [c]) 0 (SX.S al).length 1).isEmpty with
      | true => rfl
      | false => rw [z] at e; cases e
    exact List.isEmpty_iff.mp e3
  unfold Txt.find
  rw [e2]
theorem FirstBad.lt {al t : List Nat} {i c j d : Nat} (h : FirstBad al t i c) (hd : t[j]? = some d) (hdl : d ∉ al) (hj : ∀ x ∈ t.take j, x ∈ al) : j = i ∧ d = c := by
  obtain ⟨h1, h2, h3⟩ := h
  have : j = i := by
    rcases Nat.lt_trichotomy j i with z | z | z
    · exact absurd (h3 d (List.mem_of_getElem? (by rw [List.getElem?_take_of_lt z]; exact hd))) hdl
    · exact z
    · exact absurd (hj c (List.mem_of_getElem? (by rw [List.getElem?_take_of_lt z]; exact h1))) h2
  subst this
  rw [h1] at hd
  exact ⟨rfl, (Option.some.inj hd).symm⟩
section
variable {P : Program} {w : World} {K : PySem.W.Frag} {mg : Str → Option Value} {base : Heap}
theorem ok_letter_rowX {f CUnknownSign : Addr} {fd : FuncData} (F : C8.Fun K "letter_row" "letter_row" s_letter_row f fd) (T : Txt K mg) (eUnknownSign : ErrC P w K mg base "UnknownSign" CUnknownSign (sp_err2 CUnknownSign "sign" "at" gSign)) : FnOk P w K mg base (CXN P w) 3 f fd ["alphabet", "text"] (sp_letter_rowX CUnknownSign) := by
  refine fnX F sc_letter_row (fun vs H Q E h => ?_) (fun cdv A outer s H vs Q E hr h tk => ?_)
  · obtain ⟨al, t, i, c, rfl, _⟩ := h; rfl
  · obtain ⟨al, t, i, c, rfl, hb, hl, hc, q⟩ := h
    refine ⟨_, (pss_cons (ps_set (i := 2) sc_letter_row.nd rfl (Or.inl rfl) (pe_lst pa_nil))
      (pss_cons (ps_for (L2.passes_of rfl) rfl (pi_enumG rfl T.b_enumerate (pa_cons (pv 1) pa_nil)) (pg_tup rfl (pgs_cons (pg_name (i := 3) sc_letter_row.nd rfl (Or.inl rfl)) (pgs_cons (pg_name (i := 4) sc_letter_row.nd rfl (Or.inl rfl)) pgs_nil))) (pss_cons (ps_set (i := 5) sc_letter_row.nd rfl (Or.inl rfl) (pe_bm PySem.F.plainAttrs_str PySem.F.slot_str_find PySem.F.type_str_find mt_find (pv 0) (pa_cons (pv 4) pa_nil)))
      (pss_cons (ps_if (pt_cmpR op_lt (pv 5) pe_int (nomark _)) (pss_one (L2N.ps_raise rfl tk (pmk_err eUnknownSign hr (by first | decide | omega) (by rfl) (pa_cons (pv 4) (pa_cons (pv 3) pa_nil))))) pss_nil)
      (pss_one (ps_expr (pe_bm PySem.F.plainAttrs_list PySem.F.slot_list_append PySem.F.type_list_append mt_append (pv 2) (pa_cons (pv 5) pa_nil)))))))
      (pss_one (ps_ret (pv 2))))), ?_⟩
    refine ⟨by show (0 : Nat) ≤ sizeLine; exact Nat.zero_le _, fun p hp => ?_⟩
    have hil : i < t.length := (List.getElem?_eq_some_iff.mp hb.1).1
    refine ⟨_, rfl, _, _, _, _, rfl, src_text _ t, for_it walkG (fun j σ H' => ∃ v3 v4 v5 : Option V, σ = [some (.str (S al)), some (.str (S t)), some (.ref p), v3, v4, v5] ∧ Same H H' ∧ H' p = some (.lst (iv (lets al (t.take j)))) ∧ ∀ x ∈ t.take j, x ∈ al) ⟨none, none, none, rfl, same_new hp, upd_same, fun x hx => absurd hx (by simp)⟩ (fun _ _ _ _ _ => trivial) ?_ ?_⟩
    · rintro j x σ H1 H2 hj ⟨v3, v4, v5, rfl, s1, hd, hin⟩ ⟨Tt, xs, rfl, hT, rfl, v, ⟨d, hdd, rfl⟩, rfl⟩
      rw [S_get] at hdd
      refine ⟨Tt, _, rfl, SqT.of upd_same, rfl, _, _, rfl, _, _, rfl, rfl, ?_⟩
      refine ⟨_, rfl, rfl, _, rfl, S al, ⟨#[d]⟩, rfl, rfl, ?_⟩
      have hne : p ≠ Tt := ne_of_none hd hT
      have hd2 : upd H1 Tt (.tup [.int (j : Int), .str ⟨#[d]⟩]) p = some (.lst (iv (lets al (t.take j)))) := (upd_ne hne).trans hd
      by_cases hdl : d ∈ al
      · obtain ⟨r, hfind⟩ := find_sign hdl
        have hf : Txt.find (S al) ⟨#[d]⟩ = (al.idxOf d : Int) := by unfold Txt.find; rw [hfind]
        rw [hf]
        refine ⟨_, rfl, _, _, rfl, rfl, _, rfl, ?_⟩
        rw [decide_eq_false (by omega : ¬ (al.idxOf d : Int) < 0)]
        refine iteF ?_
        refine ⟨_, rfl, .inl ⟨rfl, _, SqL.of hd2⟩, _, rfl, p, _, _, rfl, rfl, hd2, ?_, ?_⟩
        · rw [iv_len, lets, List.length_map, List.length_take]
          exact small1000 (by omega)
        · refine ⟨_, _, _, rfl, Same.put (Same.new s1 hT) hp, ?_, fun x hx => ?_⟩
          · rw [upd_same, iv_snoc, lets, lets, map_take_succ hdd]
          · rw [List.take_add_one, hdd] at hx
            rcases List.mem_append.mp hx with z | z
            · exact hin x z
            · obtain rfl : x = d := by simpa using z
              exact hdl
      · obtain ⟨rfl, rfl⟩ := hb.lt hdd hdl hin
        rw [find_none hdl]
        refine ⟨_, rfl, _, _, rfl, rfl, _, rfl, ?_⟩
        rw [decide_eq_true (by decide : (-1 : Int) < 0)]
        refine iteT (mk_err2 (x := .str (S [d])) (y := .int (j : Int)) ⟨d, j, rfl, rfl, hc, by omega⟩ ⟨_, rfl, _, rfl, rfl, q.same (Same.new s1 hT)⟩ fun h1 h2 => ?_)
        obtain ⟨a1, e1, a2, e2, h1⟩ := h1
        exact ⟨a1, e1, a2, e2, h2 _ _ h1⟩
    · rintro σ H1 ⟨v3, v4, v5, rfl, s1, hd, hin⟩
      rw [List.take_length] at hin
      exact absurd (hin c (List.mem_of_getElem? hb.1)) hb.2.1
theorem ok_letters_ofX {f C CU : Addr} {fd : FuncData} (F : C8.Fun K "letters_of" "letters_of" s_letters_of f fd) (T : Txt K mg) (J : JTxt K C) (x_letter_row : CalX P w K mg base 3 "letter_row" (sp_letter_rowX CU)) : FnOk P w K mg base (CXN P w) 4 f fd ["joins", "text"] (sp_letters_ofX C CU) := by
  refine fnX F sc_letters_of (fun vs H Q E h => ?_) (fun cdv A outer s H vs Q E hr h tk => ?_)
  · obtain ⟨p, t, al, ps, i, c, rfl, _⟩ := h; rfl
  · obtain ⟨p, u, al, ps, i, c, rfl, ⟨dx, t, tx, d, e, ws, h1, h2, h3, h4, h5, h6⟩, hb, hl, hc, q⟩ := h
    refine ⟨_, (pss_one (ps_ret (pe_tupleOf (by rfl) T.b_tuple (pe_cx x_letter_row hr (by first | decide | omega) tk (by rfl) (pa_cons (pe_fld (pv 0) rfl) (pa_cons (pv 1) pa_nil)))))), ?_⟩
    exact ⟨_, rfl, p, C, dx, _, _, rfl, h1, J.cl, J.n1, f5_alphabet al t tx d e, _, rfl, al, u, i, c, rfl, hb, hl, hc, q⟩
end
end RJ
end

section
set_option maxRecDepth 100000
set_option maxHeartbeats 4000000
namespace RJ
open PySem PySem.Spec PyProof.Rows L2
abbrev s__law_alone : Stmt := top 59
abbrev N__law_alone : List Str := ["e", "kind", "kinds", "one"]
theorem sc__law_alone : FnScope N__law_alone ["e", "kind"] (C8.fnScope s__law_alone) := C8.fnScope_by (by decide +kernel)
abbrev s__law_refused : Stmt := top 62
abbrev N__law_refused : List Str := ["stream", "wrong", "made", "told", "text", "e"]
theorem sc__law_refused : FnScope N__law_refused ["stream", "wrong", "made", "told", "text"] (C8.fnScope s__law_refused) := C8.fnScope_by (by decide +kernel)
/-- an error that is of its own kind alone: a def that is given the error -/
def sp_alone (CE : Addr) (kk : Nat) (a : Addr) (cls : Value) (d : Option Addr) : Sp := fun vs H Q _ => ∃ (dd : Addr) (fs : List (Str × V)), vs = [.ref a, .int (kk : Int)] ∧ cls = .ref CE ∧ d = some dd ∧ H dd = some (.xd fs) ∧ kk < 4 ∧ ∀ H', Same H H' → Q (.bl true) H'
def sp_tailsX (C CU : Addr) : Sp := fun vs H _ E => ∃ (p : Addr) (t al : List Nat) (ps : List (Nat × Nat)) (i c : Nat), vs = [.ref p, .str (S t)] ∧ JoinsAt C H p al ps ∧ Proper al ps ∧ al.length ≤ 400 ∧ ps.length ≤ 400 ∧ FirstBad al t i c ∧ t.length ≤ 1000 ∧ c < 1114112 ∧ ErrAt E CU H [("at", .int (i : Int)), ("sign", .str (S [c]))]
def sp_refusedT (C : Addr) : Sp := fun vs H Q _ => ∃ (p wr : Addr) (t al : List Nat) (ps : List (Nat × Nat)) (i c : Nat), vs = [.ref p, .ref wr] ∧ H wr = some (.tup [.str (S t), .str (S [c]), .int (i : Int)]) ∧ JoinsAt C H p al ps ∧ Proper al ps ∧ al.length ≤ 400 ∧ ps.length ≤ 400 ∧ FirstBad al t i c ∧ t.length ≤ 1000 ∧ c < 1114112 ∧ ∀ H', Same H H' → Q (.bl true) H'
section
variable {P : Program} {w : World} {K : PySem.W.Frag} {mg : Str → Option Value} {base : Heap}
theorem ok_sameHB0 {f : Addr} {fd : FuncData} (F : C8.Fun K "_law_same" "_law_same" s__law_same f fd) (T : Txt K mg) : L2H.FnH P w K mg base C8.CX0 1 f fd ["told", "due"] (sp_same 0) := by
  refine fnH0 F sc__law_same (fun vs H Q E h => ?_) (fun cdv A outer s H vs Q E p hr h hot => ?_)
  · obtain ⟨x, y, rfl, _⟩ := h; rfl
  · obtain ⟨x, y, rfl, ⟨rfl, hsc⟩, q⟩ := h
    refine ⟨_, (pss_cons (ps_if (pt_val (pe_callB call_isi (by rfl) T.b_isinstance (by decide +kernel) (pa_cons (pv 1) (pa_cons (pe_bltn (v := .ty "tuple") (u := .type "tuple") rfl T.b_tuple (by decide +kernel) rfl) pa_nil)))) (pss_cons (ps_if (PW.pt (pw_or (pt_not (pt_val (pe_callB call_isi (by rfl) T.b_isinstance (by decide +kernel) (pa_cons (pv 0) (pa_cons (pe_bltn (v := .ty "tuple") (u := .type "tuple") rfl T.b_tuple (by decide +kernel) rfl) pa_nil))))) (pw_or1 (pt_cmpR op_ne (pe_callB call_len_seq (by rfl) T.b_len PySem.boot_len (pa_cons (pv 0) pa_nil)) (pe_callB call_len_seq (by rfl) T.b_len PySem.boot_len (pa_cons (pv 1) pa_nil)) (nomark _))))) (pss_one (ps_ret pe_bl)) pss_nil)
      (pss_cons (L2H.ps_forH PassesOwn.never hot (L2H.pi_range1H rfl T.b_range (pa_cons (pe_callB call_len_seq (by rfl) T.b_len PySem.boot_len (pa_cons (pv 1) pa_nil)) pa_nil)) (pg_name (i := 2) sc__law_same.nd rfl (Or.inl rfl)) (pss_one (ps_if (pt_not (pt_val pe_never)) (pss_one (ps_ret pe_bl)) pss_nil)))
      (pss_one (ps_ret pe_bl)))) pss_nil)
      (pss_cons (ps_if (pt_cmpR op_isN (pv 1) pe_non (nomark _)) (pss_one (ps_ret (pe_cmpR op_isN (pv 0) pe_non (nomark _)))) pss_nil)
      (pss_cons (ps_if (pt_val (pe_callB call_isi (by rfl) T.b_isinstance (by decide +kernel) (pa_cons (pv 1) (pa_cons (pe_bltn (v := .ty "bool") (u := .type "bool") rfl T.b_bool (by decide +kernel) rfl) pa_nil)))) (pss_one (ps_ret (pe_and (pe_callB call_isi (by rfl) T.b_isinstance (by decide +kernel) (pa_cons (pv 0) (pa_cons (pe_bltn (v := .ty "bool") (u := .type "bool") rfl T.b_bool (by decide +kernel) rfl) pa_nil))) (pe_one (pe_cmpR op_eq (pv 0) (pv 1) (nomark _)))))) pss_nil)
      (pss_cons (ps_if (pt_val (pe_callB call_isi (by rfl) T.b_isinstance (by decide +kernel) (pa_cons (pv 1) (pa_cons (pe_bltn (v := .ty "str") (u := .type "str") rfl T.b_str (by decide +kernel) rfl) pa_nil)))) (pss_one (ps_ret (pe_and (pe_callB call_isi (by rfl) T.b_isinstance (by decide +kernel) (pa_cons (pv 0) (pa_cons (pe_bltn (v := .ty "str") (u := .type "str") rfl T.b_str (by decide +kernel) rfl) pa_nil))) (pe_one (pe_cmpR op_eq (pv 0) (pv 1) (nomark _)))))) pss_nil)
      (pss_one (ps_ret (pe_and (pe_callB call_isi (by rfl) T.b_isinstance (by decide +kernel) (pa_cons (pv 0) (pa_cons (pe_bltn (v := .ty "int") (u := .type "int") rfl T.b_int (by decide +kernel) rfl) pa_nil))) (pe_and (pe_not (pe_callB call_isi (by rfl) T.b_isinstance (by decide +kernel) (pa_cons (pv 0) (pa_cons (pe_bltn (v := .ty "bool") (u := .type "bool") rfl T.b_bool (by decide +kernel) rfl) pa_nil)))) (pe_one (pe_cmpR op_eq (pv 0) (pv 1) (nomark _))))))))))), ?_⟩
    cases x with
    | non => exact ⟨_, rfl, _, .ty "tuple", _, .type "tuple", false, rfl, .ty _, .base .non, kit_ty (by decide +kernel), _, rfl, iteF ⟨_, rfl, rfl, _, rfl, iteT ⟨_, rfl, rfl, q H (Same.refl H)⟩⟩⟩
    | str z =>
      refine ⟨_, rfl, _, .ty "tuple", .type "str", .type "tuple", false, rfl, .ty _, .base (.str z), kit_ty (by decide +kernel), _, rfl, iteF ⟨_, rfl, rfl, _, rfl, iteF ?_⟩⟩
      refine ⟨_, rfl, _, .ty "bool", .type "str", .type "bool", false, rfl, .ty _, .base (.str z), kit_ty (by decide +kernel), _, rfl, iteF ⟨_, rfl, _, .ty "str", .type "str", .type "str", true, rfl, .ty _, .base (.str z), kit_ty (by decide +kernel), _, rfl, iteT ⟨_, rfl, _, .ty "str", .type "str", .type "str", true, rfl, .ty _, .base (.str z), kit_ty (by decide +kernel), _, rfl, iteT ⟨_, rfl, _, rfl, rfl, ?_⟩⟩⟩⟩
      rw [decide_eq_true rfl]; exact q H (Same.refl H)
    | bl z =>
      refine ⟨_, rfl, _, .ty "tuple", .type "bool", .type "tuple", false, rfl, .ty _, .base (.bl z), kit_ty (by decide +kernel), _, rfl, iteF ⟨_, rfl, rfl, _, rfl, iteF ?_⟩⟩
      refine ⟨_, rfl, _, .ty "bool", .type "bool", .type "bool", true, rfl, .ty _, .base (.bl z), kit_ty (by decide +kernel), _, rfl, iteT ⟨_, rfl, _, .ty "bool", .type "bool", .type "bool", true, rfl, .ty _, .base (.bl z), kit_ty (by decide +kernel), _, rfl, iteT ⟨_, rfl, _, rfl, rfl, ?_⟩⟩⟩
      rw [decide_eq_true rfl]; exact q H (Same.refl H)
    | int z =>
      refine ⟨_, rfl, _, .ty "tuple", .type "int", .type "tuple", false, rfl, .ty _, .base (.int z), kit_ty (by decide +kernel), _, rfl, iteF ⟨_, rfl, rfl, _, rfl, iteF ?_⟩⟩
      refine ⟨_, rfl, _, .ty "bool", .type "int", .type "bool", false, rfl, .ty _, .base (.int z), kit_ty (by decide +kernel), _, rfl, iteF ⟨_, rfl, _, .ty "str", .type "int", .type "str", false, rfl, .ty _, .base (.int z), kit_ty (by decide +kernel), _, rfl, iteF ⟨_, rfl, _, .ty "int", .type "int", .type "int", true, rfl, .ty _, .base (.int z), kit_ty (by decide +kernel), _, rfl, iteT ⟨_, rfl, _, .ty "bool", .type "int", .type "bool", false, rfl, .ty _, .base (.int z), kit_ty (by decide +kernel), _, rfl, _, rfl, iteT ⟨_, rfl, _, rfl, rfl, ?_⟩⟩⟩⟩⟩
      rw [decide_eq_true rfl]; exact q H (Same.refl H)
    | byt z => cases hsc
    | flt z => cases hsc
    | ref z => cases hsc
    | ty z => cases hsc
theorem ok_alone {f CE CUnknownSign CInvalidNumber CNoPiece CNotCut CInvalidAlphabet CInvalidModel CInvalidText CNoChance CNotProper : Addr} {fd : FuncData} {kk : Nat} (F : C8.Fun K "_law_alone" "_law_alone" s__law_alone f fd) (T : Txt K mg)
    (GUnknownSign : mg "UnknownSign" = some (.ref CUnknownSign)) (GInvalidNumber : mg "InvalidNumber" = some (.ref CInvalidNumber)) (GNoPiece : mg "NoPiece" = some (.ref CNoPiece)) (GNotCut : mg "NotCut" = some (.ref CNotCut))
    (GInvalidAlphabet : mg "InvalidAlphabet" = some (.ref CInvalidAlphabet)) (GInvalidModel : mg "InvalidModel" = some (.ref CInvalidModel)) (GInvalidText : mg "InvalidText" = some (.ref CInvalidText)) (GNoChance : mg "NoChance" = some (.ref CNoChance)) (GNotProper : mg "NotProper" = some (.ref CNotProper))
    (eiE : ErrI K CE) (o0 : PySem.W.kitOne K (.ref CE) (.ref CUnknownSign) = some (kk == 0)) (o1 : PySem.W.kitOne K (.ref CE) (.ref CInvalidNumber) = some (kk == 1)) (o2 : PySem.W.kitOne K (.ref CE) (.ref CNoPiece) = some (kk == 2)) (o3 : PySem.W.kitOne K (.ref CE) (.ref CNotCut) = some (kk == 3))
    (oV : PySem.W.kitOne K (.ref CE) (.type "ValueError") = some true) (oA : PySem.W.kitAny K (.ref CE) [.ref CInvalidAlphabet, .ref CInvalidModel, .ref CInvalidText, .ref CNoChance, .ref CNotProper] = some false)
    (p : Addr × Obj) (cls : Value) (d : Option Addr) (hz : Zc cls d p.2) (hf : ∃ vs, p.2.data = .fields vs) : FnE P w K mg base 1 f fd ["e", "kind"] p (sp_alone CE kk p.1 cls d) := by
  refine fnE0 F sc__law_alone (fun vs H Q E h => ?_) (fun cdv A outer s H vs Q E hr h hot hp => ?_)
  · obtain ⟨dd, fs, rfl, _⟩ := h; rfl
  · obtain ⟨dd, fs, rfl, rfl, rfl, hd, hkk, q⟩ := h
    refine ⟨_, (pss_cons (ps_set (i := 2) sc__law_alone.nd rfl (Or.inl rfl) (pe_lst (pa_cons (pe_callB (call_isP hp hz hf) (by rfl) T.b_isinstance (by decide +kernel) (pa_cons (pv 0) (pa_cons (pe_glob (v := .ref CUnknownSign) rfl GUnknownSign rfl) pa_nil))) (pa_cons (pe_callB (call_isP hp hz hf) (by rfl) T.b_isinstance (by decide +kernel) (pa_cons (pv 0) (pa_cons (pe_glob (v := .ref CInvalidNumber) rfl GInvalidNumber rfl) pa_nil))) (pa_cons (pe_callB (call_isP hp hz hf) (by rfl) T.b_isinstance (by decide +kernel) (pa_cons (pv 0) (pa_cons (pe_glob (v := .ref CNoPiece) rfl GNoPiece rfl) pa_nil))) (pa_cons (pe_callB (call_isP hp hz hf) (by rfl) T.b_isinstance (by decide +kernel) (pa_cons (pv 0) (pa_cons (pe_glob (v := .ref CNotCut) rfl GNotCut rfl) pa_nil))) pa_nil))))))
      (pss_cons (ps_if (pt_val (pe_callB (call_isPT hp hz hf) (by rfl) T.b_isinstance (by decide +kernel) (pa_cons (pv 0) (pa_cons (pe_tup (pa_cons (pe_glob (v := .ref CInvalidAlphabet) rfl GInvalidAlphabet rfl) (pa_cons (pe_glob (v := .ref CInvalidModel) rfl GInvalidModel rfl) (pa_cons (pe_glob (v := .ref CInvalidText) rfl GInvalidText rfl) (pa_cons (pe_glob (v := .ref CNoChance) rfl GNoChance rfl) (pa_cons (pe_glob (v := .ref CNotProper) rfl GNotProper rfl) pa_nil)))))) pa_nil)))) (pss_one (ps_ret pe_bl)) pss_nil)
      (pss_one (ps_ret (pe_and (pe_callB (call_isP hp hz hf) (by rfl) T.b_isinstance (by decide +kernel) (pa_cons (pv 0) (pa_cons (pe_bltn (v := .ty "ValueError") (u := .type "ValueError") rfl T.b_ValueError (by decide +kernel) rfl) pa_nil))) (pe_and (pe_ix ix_list (pv 2) (pv 1) (fun _ _ => rfl)) (pe_one (pe_cmpR op_eq (pe_callB call_len_seq (by rfl) T.b_len PySem.boot_len (pa_cons (pe_lcH (E := C8.E0) (own := [("one", 3)]) (g := gName 3)  rfl rfl takes0 hot sc__law_alone.nd (pi_listHL (pv 2)) (blkOk_by (N := N__law_alone) (sc := C8.fnScope s__law_alone) (by decide +kernel)) (fun _ _ _ _ _ _ => (pg_name (i := 3) sc__law_alone.nd rfl (Or.inl rfl))) (fun _ _ _ _ _ _ hB => pts_one (pt_val (pv 3))) (fun _ _ _ _ _ _ hB => (pv 3))) pa_nil)) pe_int (nomark _))))))))), ?_⟩
    refine ⟨_, rfl, CE, dd, _, _, _, _, rfl, rfl, eiE, hd, rfl, rel_ref, o0, ?_⟩
    refine ⟨_, rfl, CE, dd, _, _, _, _, rfl, rfl, eiE, hd, rfl, rel_ref, o1, ?_⟩
    refine ⟨_, rfl, CE, dd, _, _, _, _, rfl, rfl, eiE, hd, rfl, rel_ref, o2, ?_⟩
    refine ⟨_, rfl, CE, dd, _, _, _, _, rfl, rfl, eiE, hd, rfl, rel_ref, o3, ?_⟩
    refine ⟨by show 4 ≤ sizeLine; decide, fun z hz => ?_⟩
    have s1 := same_new (o := .lst [.bl (kk == 0), .bl (kk == 1), .bl (kk == 2), .bl (kk == 3)]) hz
    have hz1 : (upd H z (.lst [.bl (kk == 0), .bl (kk == 1), .bl (kk == 2), .bl (kk == 3)])) z = some (.lst ([kk == 0, kk == 1, kk == 2, kk == 3].map V.bl)) := upd_same
    generalize upd H z (.lst [.bl (kk == 0), .bl (kk == 1), .bl (kk == 2), .bl (kk == 3)]) = H1 at s1 hz1 ⊢
    obtain ⟨ks, hks⟩ : ∃ ks, ks = [kk == 0, kk == 1, kk == 2, kk == 3] := ⟨_, rfl⟩
    rw [← hks] at hz1
    refine ⟨_, rfl, by show 5 ≤ sizeLine; decide, fun tp htp => ?_⟩
    have s2 := Same.new (o := .tup [.ref CInvalidAlphabet, .ref CInvalidModel, .ref CInvalidText, .ref CNoChance, .ref CNotProper]) s1 htp
    have ht1 : (upd H1 tp (.tup [.ref CInvalidAlphabet, .ref CInvalidModel, .ref CInvalidText, .ref CNoChance, .ref CNotProper])) tp = some (.tup [.ref CInvalidAlphabet, .ref CInvalidModel, .ref CInvalidText, .ref CNoChance, .ref CNotProper]) := upd_same
    have hz2 := (same_new (o := .tup [.ref CInvalidAlphabet, .ref CInvalidModel, .ref CInvalidText, .ref CNoChance, .ref CNotProper]) htp) _ _ hz1
    generalize upd H1 tp (.tup [.ref CInvalidAlphabet, .ref CInvalidModel, .ref CInvalidText, .ref CNoChance, .ref CNotProper]) = H2 at s2 ht1 hz2 ⊢
    refine ⟨CE, dd, tp, _, _, [.ref CInvalidAlphabet, .ref CInvalidModel, .ref CInvalidText, .ref CNoChance, .ref CNotProper], _, rfl, rfl, eiE, s2 _ _ hd, rfl, ht1, fun us hv => ?_, oA, false, rfl, iteF ?_⟩
    · match us, hv with
      | _, .cons h1 (.cons h2 (.cons h3 (.cons h4 (.cons h5 .nil)))) =>
        cases (show _ = Value.ref CInvalidAlphabet from h1)
        cases (show _ = Value.ref CInvalidModel from h2)
        cases (show _ = Value.ref CInvalidText from h3)
        cases (show _ = Value.ref CNoChance from h4)
        cases (show _ = Value.ref CNotProper from h5)
        rfl
    refine ⟨_, rfl, CE, dd, _, _, _, _, rfl, rfl, eiE, s2 _ _ hd, rfl, rel_ty, oV, true, rfl, iteT ?_⟩
    have hat : atI (ks.map V.bl) (kk : Int) = some (.bl true) := by
      refine atI_nat ?_
      rw [hks]
      match kk, hkk with
      | 0, _ => rfl
      | 1, _ => rfl
      | 2, _ => rfl
      | 3, _ => rfl
    refine ⟨_, rfl, _, rfl, z, _, _, _, rfl, rfl, SqL.of hz2, hat, true, rfl, iteT ?_⟩
    refine ⟨_, rfl, z, rfl, ⟨_, SqL.of hz2⟩, fun D hD => lc_it walk_list (fun i H' => Same H2 H' ∧ H' D = some (.lst (((ks.take i).filter id).map V.bl))) ⟨same_new hD, upd_same⟩ (fun i H' _ ⟨s', _⟩ => SqL.of (s' _ _ hz2)) ?_ ?_⟩
    · rintro i x Ha Hb hi ⟨sb, hDb⟩ ⟨rfl, hx⟩
      rw [List.getElem?_map] at hx
      obtain ⟨b, hb, rfl⟩ := Option.map_eq_some_iff.mp hx
      refine ⟨rfl, _, rfl, b, rfl, ?_⟩
      have hl4 : ks.length = 4 := by rw [hks]; rfl
      have hfl : (((ks.take i).filter id).map V.bl).length ≤ 4 := by
        rw [List.length_map]
        refine Nat.le_trans (List.length_filter_le _ _) ?_
        rw [List.length_take]; omega
      have htk : (ks.take (i + 1)).filter id = (ks.take i).filter id ++ (if b = true then [b] else []) := by
        rw [List.take_add_one, hb, List.filter_append]
        cases b <;> rfl
      cases b with
      | true =>
        refine iteT ⟨_, rfl, _, hDb, small1000 (by omega), Same.put sb hD, ?_⟩
        rw [upd_same, htk, List.map_append]; rfl
      | false =>
        refine iteF ⟨sb, ?_⟩
        rw [htk, if_neg (by decide), List.append_nil]; exact hDb
    · rintro H3 ⟨s3, h3⟩
      rw [List.length_map, List.take_length] at h3
      refine ⟨D, _, rfl, .inl (SqL.of h3), rfl, ?_⟩
      have h1 : (((ks.filter id).map V.bl).length : Int) = 1 := by
        rw [hks, List.length_map]
        match kk, hkk with
        | 0, _ => rfl
        | 1, _ => rfl
        | 2, _ => rfl
        | 3, _ => rfl
      rw [h1, decide_eq_true rfl]
      exact q _ (s2.trans s3)
end
end RJ
end

section
set_option maxRecDepth 100000
set_option maxHeartbeats 4000000
namespace RJ
open PySem PySem.Spec PyProof.Rows L2
abbrev s__law_stranger : Stmt := top 56
abbrev N__law_stranger : List Str := ["pool", "alphabet", "signs", "at", "found", "sign"]
theorem sc__law_stranger : FnScope N__law_stranger ["pool", "alphabet"] (C8.fnScope s__law_stranger) := C8.fnScope_by (by decide +kernel)
abbrev s__law_with_strangers : Stmt := top 57
abbrev N__law_with_strangers : List Str := ["pool", "alphabet", "text", "sign", "at", "wrong", "more"]
theorem sc__law_with_strangers : FnScope N__law_with_strangers ["pool", "alphabet", "text"] (C8.fnScope s__law_with_strangers) := C8.fnScope_by (by decide +kernel)
theorem cutS_uptoQ (l : List Nat) (k : Nat) : cutS (S l) none (some (k : Int)) = S (l.take k) := by
  show (⟨(((S l).cps.toList.drop (HT.sIx (S l).length 0 none)).take (HT.sIx (S l).length (S l).length (some (k : Int)) - HT.sIx (S l).length 0 none)).toArray⟩ : Str) = ⟨(l.take k).toArray⟩
  rw [HT.sIx_nat, HT.sIx_none, S_len]
  have e : (l.drop 0).take (min k l.length - 0) = l.take k := by
    rw [List.drop_zero, Nat.sub_zero]
    by_cases h : k ≤ l.length
    · rw [Nat.min_eq_left h]
    · rw [Nat.min_eq_right (by omega), List.take_length, List.take_of_length_le (by omega)]
  exact congrArg (fun z : List Nat => (⟨z.toArray⟩ : Str)) e
theorem SG_smallB : ∀ c ∈ SG, c < 127 := by decide +kernel
theorem pigeonB : ∀ {l : List Nat}, l.Nodup → ∀ al : List Nat, (∀ x ∈ l, x ∈ al) → l.length ≤ al.length
  | [], _, _, _ => Nat.zero_le _
  | x :: l, hn, al, h => by
    have hx := h x (List.mem_cons_self ..)
    rw [List.nodup_cons] at hn
    have := pigeonB hn.2 (al.erase x) fun y hy => (List.mem_erase_of_ne (fun e => hn.1 (by rw [← e]; exact hy))).mpr (h y (List.mem_cons_of_mem _ hy))
    rw [List.length_erase_of_mem hx] at this
    have := List.length_pos_of_mem hx
    rw [List.length_cons]; omega
def sp_strangerB : Sp := fun vs H Q _ => ∃ (p : Addr) (al : List Nat), vs = [.ref p, .str (S al)] ∧ PoolAt p H ∧ al.length ≤ 30 ∧ ∀ (H' : Hp) (c : Nat), PSame p H H' → c ∉ al → c < 127 → Q (.str (S [c])) H'
def sp_withB : Sp := fun vs H Q _ => ∃ (p : Addr) (al t : List Nat), vs = [.ref p, .str (S al), .str (S t)] ∧ PoolAt p H ∧ al.length ≤ 30 ∧ (∀ c ∈ t, c ∈ al) ∧ t.length ≤ 400 ∧
  ∀ (H' : Hp) (wr : Addr) (u : List Nat) (i c : Nat), PSame p H H' → H' wr = some (.tup [.str (S u), .str (S [c]), .int (i : Int)]) → FirstBad al u i c → u.length ≤ t.length + 2 → c < 127 → Q (.ref wr) H'
section
variable {P : Program} {w : World} {K : PySem.W.Frag} {mg : Str → Option Value} {base : Heap}
theorem ok_strangerB {f : Addr} {fd : FuncData} (F : C8.Fun K "_law_stranger" "_law_stranger" s__law_stranger f fd) (T : Txt K mg) (c__law_draw : C8.Cal P w K mg base 1 "_law_draw" sp_drawB []) : FnOk P w K mg base C8.CX0 2 f fd ["pool", "alphabet"] sp_strangerB := by
  refine C8.fn0 F sc__law_stranger (fun vs H Q E h => ?_) (fun cdv A outer s H vs Q E hr h => ?_)
  · obtain ⟨p, al, rfl, _⟩ := h; rfl
  · obtain ⟨p, al, rfl, hP, h30, q⟩ := h
    refine ⟨_, (pss_cons (ps_set (i := 2) sc__law_stranger.nd rfl (Or.inl rfl) pe_str)
      (pss_cons (ps_set (i := 2) sc__law_stranger.nd rfl (Or.inl rfl) (pe_op op_add_str (pv 2) pe_str))
      (pss_cons (ps_set (i := 3) sc__law_stranger.nd rfl (Or.inl rfl) (C8.pe_c c__law_draw hr (by first | decide | omega) (by rfl) (pa_cons (pv 0) (pa_cons (pe_callB call_len_str (by rfl) T.b_len PySem.boot_len (pa_cons (pv 2) pa_nil)) pa_nil))))
      (pss_cons (ps_setLc (own := [("sign", 5)]) (i := 4) (g := gName 5)  rfl sc__law_stranger.nd rfl rfl (sw_true rfl rfl rfl (by decide +kernel)) (pi_str (pe_op op_add_str (pe_slice sl_str (pv 2) (po_some (pv 3)) po_none) (pe_slice sl_str (pv 2) po_none (po_some (pv 3))))) (blkOk_by (N := N__law_stranger) (sc := C8.fnScope s__law_stranger) (by decide +kernel)) (fun _ _ _ _ _ => (pg_name (i := 5) sc__law_stranger.nd rfl (Or.inl rfl))) (fun _ _ _ _ _ => pts_one (pt_cmpR op_notIn_sign (pv 5) (pv 1) (by rfl))) (fun _ _ _ _ _ => (pv 5)))
      (pss_one (ps_ret (pe_ix ix_list (pv 4) pe_int (fun _ _ => rfl)))))))), ?_⟩
    refine ⟨_, rfl, _, _, rfl, rfl, by decide, ?_⟩
    rw [show (_ : Str) = S SG from (by decide +kernel : (Str.ofString " !\"#$&'()*+,-./0123456789:;<=>?@ABCDEFGHIJKLMNOPQRSTUVWXYZ[\\]^_`" ++ Str.ofString "abcdefghijklmnopqrstuvwxyz{|}~") = S SG)]
    refine ⟨_, rfl, _, rfl, S SG, rfl, by decide, p, _, rfl, hP, by decide, fun H1 r s1 hr1 => ?_⟩
    have hr94 : r < 94 := by rw [S_len, SG_len] at hr1; omega
    refine ⟨_, rfl, _, rfl, _, rfl, S SG, rfl, by decide, _, rfl, _, rfl, _, rfl, S SG, rfl, by decide, ?_⟩
    rw [cutS_from, cutS_uptoQ]
    refine ⟨_, _, rfl, rfl, by rw [S_len, S_len, List.length_drop, List.length_take, SG_len]; exact small_le (by omega), ?_⟩
    rw [S_cat]
    obtain ⟨rs, hrs⟩ : ∃ rs, rs = SG.drop r ++ SG.take r := ⟨_, rfl⟩
    have rl : rs.length = 94 := by rw [hrs, List.length_append, List.length_drop, List.length_take, SG_len]; omega
    have rmem : ∀ x, x ∈ rs ↔ x ∈ SG := fun x => by
      rw [hrs, List.mem_append, or_comm, ← List.mem_append, List.take_append_drop]
    rw [← hrs]
    obtain ⟨d0, hd1, hd2⟩ : ∃ d, d ∈ SG ∧ d ∉ al := by
      by_cases h : ∃ d, d ∈ SG ∧ d ∉ al
      · exact h
      · exfalso
        have := pigeonB (l := SG) (SG_asc.imp fun h => Nat.ne_of_lt h) al fun x hx => Classical.byContradiction fun hn => h ⟨x, hx, hn⟩
        rw [SG_len] at this; omega
    refine ⟨S rs, rfl, fun D hD => lc_it walk_str (fun i H' => ∃ cs : List Nat, PSame p H H' ∧ H' D = some (.lst ((sv cs).map V.str)) ∧ cs.length ≤ i ∧ cs = (rs.take i).filter fun c => decide (c ∉ al)) ⟨[], s1.new hD, upd_same, Nat.le_refl _, rfl⟩ (fun _ _ _ _ => trivial) ?_ ?_⟩
    · rintro i2 x2 Hd He hi2 ⟨cs, sb2, hDb, hcl, hcs⟩ ⟨rfl, c, hc, rfl⟩
      rw [S_get] at hc
      have hi94 : i2 < 94 := by have := (List.getElem?_eq_some_iff.mp hc).1; rw [rl] at this; exact this
      refine ⟨rfl, _, rfl, _, rfl, c, S al, rfl, rfl, _, rfl, ?_⟩
      show (if (!decide (c ∈ al)) = true then _ else _)
      by_cases h : c ∈ al
      · rw [decide_eq_true h]
        refine iteF ⟨cs, sb2, hDb, by omega, ?_⟩
        rw [take_succ_of hc, List.filter_append, ← hcs, List.filter_cons_of_neg (by simpa using h)]
        exact (List.append_nil cs).symm
      · rw [decide_eq_false h]
        refine iteT ⟨_, rfl, _, hDb, ?_, cs ++ [c], sb2.put (s1.none hD), ?_, ?_, ?_⟩
        · unfold sv; rw [List.length_map, List.length_map]; exact small1000 (by omega)
        · rw [upd_same]; unfold sv; rw [List.map_append, List.map_append]; rfl
        · rw [List.length_append, List.length_singleton]; omega
        · rw [take_succ_of hc, List.filter_append, ← hcs, List.filter_cons_of_pos (by simpa using h)]; rfl
    rintro H2 ⟨cs, s2, hDb, hcl, hcs⟩
    rw [S_size, List.take_length] at hcs
    have hpos : d0 ∈ cs := by rw [hcs]; exact List.mem_filter.mpr ⟨(rmem d0).mpr hd1, by simpa using hd2⟩
    cases cs with
    | nil => cases hpos
    | cons c cs =>
      have hm : c ∈ (rs.filter fun c => decide (c ∉ al)) := by rw [← hcs]; exact List.mem_cons_self
      rw [List.mem_filter] at hm
      exact ⟨_, rfl, D, _, _, _, rfl, rfl, SqL.of hDb, (show atI ((sv (c :: cs)).map V.str) ((0 : Nat) : Int) = some (.str (S [c])) from atI_nat rfl), q _ c s2 (by simpa using hm.2) (SG_smallB c ((rmem c).mp hm.1))⟩
theorem firstBad_ins {al u : List Nat} {i c k d : Nat} (h : FirstBad al u i c) (hk : i < k) : FirstBad al (u.take k ++ [d] ++ u.drop k) i c := by
  obtain ⟨h1, h2, h3⟩ := h
  have hil := (List.getElem?_eq_some_iff.mp h1).1
  have hl : i < (u.take k).length := by rw [List.length_take]; omega
  refine ⟨?_, h2, fun x hx => ?_⟩
  · rw [List.append_assoc, List.getElem?_append_left hl, List.getElem?_take_of_lt hk]; exact h1
  · rw [List.append_assoc, List.take_append_of_le_length (Nat.le_of_lt hl), List.take_take, Nat.min_eq_left (Nat.le_of_lt hk)] at hx
    exact h3 x hx
theorem ok_withB {f : Addr} {fd : FuncData} (F : C8.Fun K "_law_with_strangers" "_law_with_strangers" s__law_with_strangers f fd) (T : Txt K mg) (c__law_stranger : C8.Cal P w K mg base 2 "_law_stranger" sp_strangerB []) (c__law_draw : C8.Cal P w K mg base 1 "_law_draw" sp_drawB []) : FnOk P w K mg base C8.CX0 3 f fd ["pool", "alphabet", "text"] sp_withB := by
  refine C8.fn0 F sc__law_with_strangers (fun vs H Q E h => ?_) (fun cdv A outer s H vs Q E hr h => ?_)
  · obtain ⟨p, al, t, rfl, _⟩ := h; rfl
  · obtain ⟨p, al, t, rfl, hP, h30, ht, htl, q⟩ := h
    refine ⟨_, (pss_cons (ps_set (i := 3) sc__law_with_strangers.nd rfl (Or.inl rfl) (C8.pe_c c__law_stranger hr (by first | decide | omega) (by rfl) (pa_cons (pv 0) (pa_cons (pv 1) pa_nil))))
      (pss_cons (ps_set (i := 4) sc__law_with_strangers.nd rfl (Or.inl rfl) (C8.pe_c c__law_draw hr (by first | decide | omega) (by rfl) (pa_cons (pv 0) (pa_cons (pe_op op_add (pe_callB call_len_str (by rfl) T.b_len PySem.boot_len (pa_cons (pv 2) pa_nil)) pe_int) pa_nil))))
      (pss_cons (ps_set (i := 5) sc__law_with_strangers.nd rfl (Or.inl rfl) (pe_op op_add_str (pe_op op_add_str (pe_slice sl_str (pv 2) po_none (po_some (pv 4))) (pv 3)) (pe_slice sl_str (pv 2) (po_some (pv 4)) po_none)))
      (pss_cons (ps_if (pt_cmpR op_eq (C8.pe_c c__law_draw hr (by first | decide | omega) (by rfl) (pa_cons (pv 0) (pa_cons pe_int pa_nil))) pe_int (nomark _)) (pss_cons (ps_set (i := 6) sc__law_with_strangers.nd rfl (Or.inl rfl) (C8.pe_c c__law_draw hr (by first | decide | omega) (by rfl) (pa_cons (pv 0) (pa_cons (pe_op op_sub (pe_callB call_len_str (by rfl) T.b_len PySem.boot_len (pa_cons (pv 5) pa_nil)) (pv 4)) pa_nil))))
      (pss_one (ps_set (i := 5) sc__law_with_strangers.nd rfl (Or.inl rfl) (pe_op op_add_str (pe_op op_add_str (pe_slice sl_str (pv 5) po_none (po_some (pe_op op_add (pe_op op_add (pv 4) pe_int) (pv 6)))) (C8.pe_c c__law_stranger hr (by first | decide | omega) (by rfl) (pa_cons (pv 0) (pa_cons (pv 1) pa_nil)))) (pe_slice sl_str (pv 5) (po_some (pe_op op_add (pe_op op_add (pv 4) pe_int) (pv 6))) po_none))))) pss_nil)
      (pss_one (ps_ret (pe_tup (pa_cons (pv 5) (pa_cons (pv 3) (pa_cons (pv 4) pa_nil)))))))))), ?_⟩
    refine ⟨_, rfl, _, rfl, p, al, rfl, hP, h30, fun H1 c s1 hc hc7 => ?_⟩
    refine ⟨_, rfl, _, rfl, S t, rfl, by rw [S_len]; exact small_le (by omega), _, _, rfl, rfl, p, _, rfl, s1.at1, by rw [S_len]; omega, fun H2 at_ s2 hat => ?_⟩
    rw [S_len] at hat
    have hat' : at_ ≤ t.length := by omega
    refine ⟨_, rfl, _, rfl, _, rfl, S t, rfl, by rw [S_len]; exact small_le (by omega), ?_⟩
    rw [cutS_uptoQ]
    refine ⟨_, rfl, _, _, rfl, rfl, by rw [S_len, S_len, List.length_take]; exact small_le (by show min at_ t.length + 1 ≤ _; omega), ?_⟩
    rw [S_cat]
    refine ⟨_, rfl, _, rfl, _, rfl, S t, rfl, by rw [S_len]; exact small_le (by omega), ?_⟩
    rw [cutS_from]
    refine ⟨_, _, rfl, rfl, by rw [S_len, S_len, List.length_append, List.length_take, List.length_drop]; exact small_le (by show min at_ t.length + 1 + (t.length - at_) ≤ _; omega), ?_⟩
    rw [S_cat]
    have hb0 : FirstBad al (t.take at_ ++ [c] ++ t.drop at_) at_ c := by
      have hl : (t.take at_).length = at_ := by rw [List.length_take]; omega
      refine ⟨?_, hc, fun x hx => ?_⟩
      · rw [List.append_assoc, List.getElem?_append_right (by omega), hl, Nat.sub_self]; rfl
      · rw [List.append_assoc, List.take_left' hl] at hx
        exact ht x (List.mem_of_mem_take hx)
    have hl0 : (t.take at_ ++ [c] ++ t.drop at_).length = t.length + 1 := by
      rw [List.length_append, List.length_append, List.length_take, List.length_drop, List.length_singleton]; omega
    generalize t.take at_ ++ [c] ++ t.drop at_ = u0 at hb0 hl0
    have s12 := s1.trans s2
    have fin : ∀ (H3 : Hp) (u : List Nat) (v6 : Option V), PSame p H H3 → FirstBad al u at_ c → u.length ≤ t.length + 2 → tRet (tTup (tCons (tVar 5) (tCons (tVar 3) (tCons (tVar 4) tNil)))) { nx := fun x H' => Q .non H', rt := Q } [some (.ref p), some (.str (S al)), some (.str (S t)), some (.str (S [c])), some (.int (at_ : Int)), some (.str (S u)), v6] H3 := by
      intro H3 u v6 s3 hb hl
      refine ⟨_, rfl, _, rfl, _, rfl, by show 3 ≤ sizeLine; decide, fun z hz => ?_⟩
      exact q _ z u at_ c (s3.new hz) upd_same hb hl hc7
    refine ⟨_, rfl, p, 2, rfl, s12.at1, by decide, fun H3 r3 s3 hr3 => ⟨rfl, _, rfl, ?_⟩⟩
    obtain ⟨e, he⟩ : ∃ e : Bool, e = decide (V.int (r3 : Int) = V.int 0) := ⟨_, rfl⟩
    show (if decide (V.int (r3 : Int) = V.int 0) = true then _ else _)
    rw [← he]
    have s13 := s12.trans s3
    cases e with
    | false => exact iteF (fin H3 u0 _ s13 hb0 (by omega))
    | true =>
      refine iteT ⟨_, rfl, _, rfl, S u0, rfl, by rw [S_len]; exact small_le (by omega), _, rfl, _, _, rfl, rfl, p, _, rfl, s13.at1, by rw [S_len]; omega, fun H4 mo s4 hmo => ?_⟩
      rw [S_len] at hmo
      have s14 := s13.trans s4
      have e1 : (at_ : Int) + 1 + (mo : Int) = ((at_ + 1 + mo : Nat) : Int) := by omega
      refine ⟨_, rfl, _, rfl, _, _, rfl, rfl, _, rfl, _, _, rfl, rfl, _, rfl, S u0, rfl, by rw [S_len]; exact small_le (by omega), ?_⟩
      rw [e1, cutS_uptoQ]
      refine ⟨_, rfl, _, rfl, p, al, rfl, s14.at1, h30, fun H5 c5 s5 hc5 hc57 => ?_⟩
      refine ⟨_, _, rfl, rfl, by rw [S_len, S_len, List.length_take]; exact small_le (by show min (at_ + 1 + mo) u0.length + 1 ≤ _; omega), ?_⟩
      rw [S_cat]
      refine ⟨_, rfl, _, rfl, _, _, rfl, rfl, _, rfl, _, _, rfl, rfl, _, rfl, S u0, rfl, by rw [S_len]; exact small_le (by omega), ?_⟩
      rw [e1, cutS_from]
      refine ⟨_, _, rfl, rfl, by rw [S_len, S_len, List.length_append, List.length_take, List.length_drop]; exact small_le (by show min (at_ + 1 + mo) u0.length + 1 + (u0.length - (at_ + 1 + mo)) ≤ _; omega), ?_⟩
      rw [S_cat]
      refine fin H5 _ _ (s14.trans s5) (firstBad_ins hb0 (by omega)) ?_
      rw [List.length_append, List.length_append, List.length_take, List.length_drop, List.length_singleton]; omega
end
end RJ
end

section
set_option maxRecDepth 100000
set_option maxHeartbeats 8000000
namespace RJ
open PySem PySem.Spec PyProof.Rows L2

/-- a place of a list or of a tuple -/
def rIxS (K : PySem.W.Frag) : R2 := fun x y H Q => rIxL K x y H Q ∨ rIxT K x y H Q
theorem ix_seq {X : Cx} : IxR X (rIxS X.K) := fun value slice pins s σ H x y v u Q I rx ry h e => h.elim (fun h => ix_list value slice pins s σ H x y v u Q I rx ry h e) (fun h => ix_tup value slice pins s σ H x y v u Q I rx ry h e)
theorem tailsL_upto {al : List Nat} {ps : List (Nat × Nat)} (t : List Nat) {n k : Nat} (h : k ≤ n) : (tailsL al ps t n).take k = tailsL al ps t k := by
  unfold tailsL
  rw [← List.map_take, List.take_range, Nat.min_eq_left h]
theorem slA_to {K : PySem.W.Frag} {H : Hp} {Q : VK} {dd : Addr} {l : List Nat} {k : Nat} (h : H dd = some (.tup (iv l))) (q : ∀ (a : Addr) (H' : Hp), Same H H' → H' a = some (.tup (iv (l.take k))) → Q (.ref a) H') : rSlA K (.ref dd) none (some (k : Int)) H Q := by
  refine ⟨dd, _, rfl, SqT.of h, fun c => q dd H (Same.refl H) ?_, fun _ a ha => q a _ (same_new ha) ?_⟩
  · have c2 := c.2
    rw [HT.sIx_nat, iv_len] at c2
    rw [List.take_of_length_le (by omega)]; exact h
  · rw [upd_same, cut_to]
def sp_chainU (C : Addr) : Sp := fun vs H Q _ => ∃ (j r : Addr) (b : Bool) (al t : List Nat) (ps : List (Nat × Nat)), vs = [.ref j, .ref r] ∧ JoinsAt C H j al ps ∧ Proper al ps ∧ al.Nodup ∧ al.length ≤ 400 ∧ ps.length ≤ 400 ∧ (∀ c ∈ t, c ∈ al) ∧ t.length ≤ 1000 ∧ SeqAt b H r (iv (tailsL al ps t t.length)) ∧
  ∀ H' q, Same H H' → H' q = some (.tup (iv (CT al ps t))) → Q (.ref q) H'
def sp_toldU (C : Addr) : Sp := fun vs H Q _ => ∃ (p j pp dd : Addr) (us : List V) (al t : List Nat) (ps : List (Nat × Nat)), vs = [.ref p, .ref j, .str (S al), .ref pp, .str (S t), .ref dd] ∧ PoolAt p H ∧ JoinsAt C H j al ps ∧ H pp = some (.lst us) ∧ pp ≠ p ∧ PairsAt H us ps ∧ H dd = some (.tup (iv (tailsL al ps t t.length))) ∧
  Proper al ps ∧ al.Nodup ∧ 1 ≤ al.length ∧ al.length ≤ 30 ∧ ps.length ≤ 30 ∧ (∀ c ∈ t, c ∈ al) ∧ t.length ≤ 60 ∧ ∀ H', PSame p H H' → Q (.bl true) H'
section
variable {P : Program} {w : World} {K : PySem.W.Frag} {mg : Str → Option Value} {base : Heap}
theorem ok_chainU {f C : Addr} {fd : FuncData} (F : C8.Fun K "chain" "chain" s_chain f fd) (T : Txt K mg) (J : JTxt K C) (m_text_of : C8.Met P w K mg base 5 C "text_of" (sp_text_of C) []) : FnOk P w K mg base C8.CX0 6 f fd ["joins", "row_of_tails"] (sp_chainU C) := by
  refine C8.fn0 F sc_chain (fun vs H Q E h => ?_) (fun cdv A outer s H vs Q E hr h => ?_)
  · obtain ⟨j, r, b, al, t, ps, rfl, _⟩ := h; rfl
  · obtain ⟨j, r, b, al, t, ps, rfl, hj, hprop, hnd, hal, hpl, ht, htl, hr0, q⟩ := h
    refine ⟨_, (pss_cons (ps_set (i := 2) sc_chain.nd rfl (Or.inl rfl) (pe_callB call_len_seq (by rfl) T.b_len PySem.boot_len (pa_cons (pv 1) pa_nil)))
      (pss_cons (ps_set (i := 3) sc_chain.nd rfl (Or.inl rfl) (pe_lst pa_nil))
      (pss_cons (ps_while PassesOwn.never (pt_cmpR op_gt (pv 2) pe_int (nomark _)) (pss_cons (ps_set (i := 4) sc_chain.nd rfl (Or.inl rfl) (pe_ix ix_seq (pv 1) (pe_op op_sub (pv 2) pe_int) (fun _ _ => rfl)))
      (pss_cons (ps_expr (pe_bm PySem.F.plainAttrs_list PySem.F.slot_list_append PySem.F.type_list_append mt_append (pv 3) (pa_cons (pv 4) pa_nil)))
      (pss_one (ps_aug (i := 2) sc_chain.nd rfl (Or.inl rfl) (pe_callB call_len_str (by rfl) T.b_len PySem.boot_len (pa_cons (C8.pe_mt m_text_of hr (by first | decide | omega) (pv 0) (pa_cons (pv 4) pa_nil)) pa_nil)) ip_sub)))))
      (pss_one (ps_ret (pe_tupleOf (by rfl) T.b_tuple (pe_revL (pv 3)))))))), ?_⟩
    have hsq : ∀ H2, Same H H2 → SqL K H2 r (iv (tailsL al ps t t.length)) ∨ SqT K H2 r (iv (tailsL al ps t t.length)) := fun H2 s2 => by
      cases b with
      | true => exact .inl (SqL.of (s2 _ _ hr0))
      | false => exact .inr (SqT.of (s2 _ _ hr0))
    refine ⟨_, rfl, r, _, rfl, hsq H (Same.refl H), Nat.zero_le _, fun D hD => ?_⟩
    rw [iv_len, tailsL_len]
    have s0 := same_new (o := .lst []) hD
    refine ⟨fun m σ H' => ∃ (R : List Nat) (v4 : Option V), σ = [some (.ref j), some (.ref r), some (.int (m : Int)), some (.ref D), v4] ∧ Same H H' ∧ H' D = some (.lst (iv R)) ∧ m ≤ t.length ∧ m + R.length ≤ t.length ∧ CT al ps t = CT al ps (t.take m) ++ R.reverse, ⟨t.length, [], none, rfl, s0, upd_same, Nat.le_refl _, Nat.le_refl _, by rw [List.take_length]; simp⟩, ?_⟩
    rintro m σ H2 ⟨R, v4, rfl, s2, hD2, hmt, hmR, hct⟩
    refine ⟨_, rfl, _, _, rfl, rfl, _, rfl, ?_⟩
    by_cases h0 : 0 < m
    · rw [decide_eq_true (by omega : (0 : Int) < (m : Int))]
      refine iteT ⟨fun σ' H' => ∃ m', m' < m ∧ ∃ (R : List Nat) (v4 : Option V), σ' = [some (.ref j), some (.ref r), some (.int (m' : Int)), some (.ref D), v4] ∧ Same H H' ∧ H' D = some (.lst (iv R)) ∧ m' ≤ t.length ∧ m' + R.length ≤ t.length ∧ CT al ps t = CT al ps (t.take m') ++ R.reverse, fun σ' H' ⟨m', h1, h2⟩ => ⟨m', h1, h2⟩, ?_⟩
      have htm : (t.take m).length = m := by rw [List.length_take]; omega
      obtain ⟨u, hx, htu, hcu, hpos, _⟩ := tail_ex hnd hprop (t := t.take m) (fun c hc => ht c (List.mem_of_mem_take hc)) (fun z => by rw [z] at htm; rw [List.length_nil] at htm; omega)
      obtain ⟨y, hy⟩ : ∃ y, y = tailOf al ps (t.take m) := ⟨_, rfl⟩
      rw [← hy] at hx htu hcu hpos
      have hlen : m = u.length + (TX al ps y).length := by
        have := congrArg List.length htu
        rwa [htm, List.length_append] at this
      have hul : u = t.take u.length := by
        have e := congrArg (List.take u.length) htu
        rw [List.take_left, List.take_take, Nat.min_eq_left (by omega)] at e
        exact e.symm
      have hat : (tailsL al ps t t.length)[m - 1]? = some y := by rw [tailsL_get t (by omega), show m - 1 + 1 = m by omega, hy]
      obtain ⟨dx, fs, m1, m2⟩ : ∃ dx fs, (upd H2 D (.lst (iv (R ++ [y])))) j = some (.ins C dx fs) ∧ fs.lookup ("text_of" : Str) = none := by
        obtain ⟨dx, t, tx, d, e, ws, h1, _⟩ := (hj.same (Same.put (o := .lst (iv (R ++ [y]))) s2 hD))
        exact ⟨dx, _, h1, f5_no al t tx d e (by decide +kernel) (by decide +kernel) (by decide +kernel) (by decide +kernel) (by decide +kernel)⟩
      have hat' : atI (iv (tailsL al ps t t.length)) ((m : Int) - 1) = some (.int (y : Int)) := by
        have e : (m : Int) - 1 = ((m - 1 : Nat) : Int) := by omega
        rw [e]; exact atI_nat (iv_at hat)
      have hix : ∀ {Q : VK}, Q (.int (y : Int)) H2 → rIxS K (.ref r) (.int ((m : Int) - 1)) H2 Q := fun q => (hsq H2 s2).elim (fun z => .inl ⟨r, _, _, _, rfl, rfl, z, hat', q⟩) (fun z => .inr ⟨r, _, _, _, rfl, rfl, z, hat', q⟩)
      refine ⟨_, rfl, _, rfl, _, _, rfl, rfl, hix ?_⟩
      refine ⟨_, rfl, .inl ⟨rfl, _, SqL.of hD2⟩, _, rfl, D, _, _, rfl, rfl, hD2, by rw [iv_len]; exact small1000 (by omega), ?_⟩
      rw [iv_snoc]
      refine ⟨_, rfl, _, rfl, j, dx, fs, rfl, m1, m2, _, rfl, j, y, al, ps, rfl, hj.same (Same.put s2 hD), hx, ?_⟩
      have hsz : ((textsOf al ps).getD y []).length = (TX al ps y).length := rfl
      refine ⟨_, rfl, by rw [S_len, hsz]; exact small_le (by omega), _, _, rfl, rfl, u.length, by omega, R ++ [y], some (.int (y : Int)), ?_, Same.put s2 hD, upd_same, by omega, by rw [List.length_append, List.length_singleton]; omega, ?_⟩
      · rw [S_len, hsz]
        have e9 : (m : Int) - ((TX al ps y).length : Int) = (u.length : Int) := by omega
        show [some (.ref j), some (.ref r), some (V.int ((m : Int) - ((TX al ps y).length : Int))), some (.ref D), some (.int (y : Int))] = _
        rw [e9]
      · rw [hct, hcu, ← hul, List.reverse_append]; simp
    · rw [decide_eq_false (by omega : ¬ (0 : Int) < (m : Int))]
      have hm0 : m = 0 := by omega
      subst hm0
      refine iteF ⟨_, rfl, D, _, rfl, SqL.of hD2, fun z hz => .inl ⟨z, _, rfl, SqL.of upd_same, fun z2 hz2 => ?_⟩⟩
      have e : (iv R).reverse = iv (CT al ps t) := by
        rw [hct, List.take_zero, show CT al ps [] = [] from cut_nil _ _, List.nil_append]
        unfold iv
        rw [← List.map_reverse]
      rw [e] at hz2 ⊢
      exact q _ z2 (Same.new (Same.new s2 hz) hz2) upd_same
end
end RJ
end

section
set_option maxRecDepth 100000
set_option maxHeartbeats 4000000
namespace RJ
open PySem PySem.Spec PyProof.Rows L2
abbrev s_pieces_by_beginning : Stmt := top 44
abbrev N_pieces_by_beginning : List Str := ["joins", "found", "piece", "text", "end"]
theorem sc_pieces_by_beginning : FnScope N_pieces_by_beginning ["joins"] (C8.fnScope s_pieces_by_beginning) := C8.fnScope_by (by decide +kernel)
abbrev s_covers_of : Stmt := top 45
abbrev N_covers_of : List Str := ["masks", "beginnings", "text", "row_of_tails", "found", "begin", "piece"]
theorem sc_covers_of : FnScope N_covers_of ["masks", "beginnings", "text", "row_of_tails"] (C8.fnScope s_covers_of) := C8.fnScope_by (by decide +kernel)
abbrev s_common_begin : Stmt := top 46
abbrev N_common_begin : List Str := ["joins", "row_of_tails", "begins", "places", "latest", "begin"]
theorem sc_common_begin : FnScope N_common_begin ["joins", "row_of_tails", "begins"] (C8.fnScope s_common_begin) := C8.fnScope_by (by decide +kernel)
/-- the pieces by the beginnings of their texts -/
def BegAt (al : List Nat) (ps : List (Nat × Nat)) (H : Hp) (d : Addr) : Prop := ∃ kvs : List (Key × V), H d = some (.dK kvs) ∧ ∀ u : List Nat, u ≠ [] → (begL al ps (al.length + ps.length) u = [] → valV kvs (.inr (S u)) = none) ∧ (begL al ps (al.length + ps.length) u ≠ [] → ∃ a, valV kvs (.inr (S u)) = some (.ref a) ∧ H a = some (.lst (iv (begL al ps (al.length + ps.length) u))))
theorem BegAt.same {al : List Nat} {ps : List (Nat × Nat)} {H H' : Hp} {d : Addr} (h : BegAt al ps H d) (s : Same H H') : BegAt al ps H' d := by
  obtain ⟨kvs, h1, h2⟩ := h
  refine ⟨kvs, s _ _ h1, fun u hu => ⟨(h2 u hu).1, fun hn => ?_⟩⟩
  obtain ⟨a, e1, e2⟩ := (h2 u hu).2 hn
  exact ⟨a, e1, s _ _ e2⟩
structure BegI (al : List Nat) (ps : List (Nat × Nat)) (H0 : Hp) (d : Addr) (n i : Nat) (H : Hp) (kvs : List (Key × V)) : Prop where
  sm : Same H0 H
  at0 : H0 d = none
  hd : H d = some (.dK kvs)
  len : kvs.length ≤ 40 * n + i
  no : ∀ u : List Nat, u ≠ [] → begC al ps n i u = [] → valV kvs (.inr (S u)) = none
  yes : ∀ u : List Nat, u ≠ [] → begC al ps n i u ≠ [] → ∃ a, valV kvs (.inr (S u)) = some (.ref a) ∧ H a = some (.lst (iv (begC al ps n i u))) ∧ H0 a = none
  inj : ∀ (u u' : List Nat) (a : Addr), u ≠ [] → u' ≠ [] → valV kvs (.inr (S u)) = some (.ref a) → valV kvs (.inr (S u')) = some (.ref a) → u = u'
def sp_begs (C : Addr) : Sp := fun vs H Q _ => ∃ (j : Addr) (al : List Nat) (ps : List (Nat × Nat)), vs = [.ref j] ∧ JoinsAt C H j al ps ∧ Proper al ps ∧ al.length ≤ 400 ∧ ps.length ≤ 400 ∧
  ∀ H' d Hn, Same H H' → Same Hn H' → (∀ a o, Hn a = some o → H a = none) → BegAt al ps Hn d → Q (.ref d) H'
section
variable {P : Program} {w : World} {K : PySem.W.Frag} {mg : Str → Option Value} {base : Heap}
theorem ok_begs {f C : Addr} {fd : FuncData} (F : C8.Fun K "pieces_by_beginning" "pieces_by_beginning" s_pieces_by_beginning f fd) (T : Txt K mg) (J : JTxt K C) (p_pieces : PrpC P w K mg base 1 C "pieces" (sp_pieces C)) (m_text_of : C8.Met P w K mg base 5 C "text_of" (sp_text_of C) []) : FnOk P w K mg base C8.CX0 6 f fd ["joins"] (sp_begs C) := by
  refine C8.fn0 F sc_pieces_by_beginning (fun vs H Q E h => ?_) (fun cdv A outer s H vs Q E hr h => ?_)
  · obtain ⟨j, al, ps, rfl, _⟩ := h; rfl
  · obtain ⟨j, al, ps, rfl, hj, hprop, hal, hpl, q⟩ := h
    have hsz : sizeLine = 16777216 := sizeLine_eq
    refine ⟨_, (pss_cons (ps_set (i := 1) sc_pieces_by_beginning.nd rfl (Or.inl rfl) pe_dnewK)
      (pss_cons (ps_for PassesOwn.never rfl (pi_range1 rfl T.b_range (pa_cons (pe_prp p_pieces hr (by first | decide | omega) (pv 0)) pa_nil)) (pg_name (i := 2) sc_pieces_by_beginning.nd rfl (Or.inl rfl)) (pss_cons (ps_set (i := 3) sc_pieces_by_beginning.nd rfl (Or.inl rfl) (C8.pe_mt m_text_of hr (by first | decide | omega) (pv 0) (pa_cons (pv 2) pa_nil)))
      (pss_one (ps_for PassesOwn.never rfl (pi_range2 rfl T.b_range (pa_cons pe_int (pa_cons (pe_op op_add (pe_callB call_len_str (by rfl) T.b_len PySem.boot_len (pa_cons (pv 3) pa_nil)) pe_int) pa_nil))) (pg_name (i := 4) sc_pieces_by_beginning.nd rfl (Or.inl rfl)) (pss_one (ps_expr (pe_bm PySem.F.plainAttrs_list PySem.F.slot_list_append PySem.F.type_list_append mt_append (pe_dsetd (pv 1) (pe_slice sl_str (pv 3) po_none (po_some (pv 4))) (pe_lst pa_nil) ⟨by rfl, by rfl, by rfl, by rfl⟩) (pa_cons (pv 2) pa_nil))))))))
      (pss_one (ps_ret (pv 1))))), ?_⟩
    obtain ⟨dxj, fsj, hins⟩ : ∃ dx fs, H j = some (.ins C dx fs) := by
      obtain ⟨dx, t, tx, d, e, ws, h1, _⟩ := id hj
      exact ⟨dx, _, h1⟩
    refine fun d hd => ?_
    have s0 := same_new (o := .dK []) hd
    have I0 : BegI al ps H d 0 0 (upd H d (.dK [])) [] := ⟨s0, hd, upd_same, Nat.zero_le _, fun _ _ _ => valV_nil, fun u hu h => absurd (by rw [begC_zero hu, begL_zero]) h, fun u u' a _ _ h => by rw [valV_nil] at h; cases h⟩
    refine ⟨_, rfl, j, dxj, fsj, rfl, s0 _ _ hins, j, al, ps, rfl, hj.same s0, ?_⟩
    refine ⟨_, rfl, by omega, by omega, for_it walk_range (fun n σ H' => ∃ (v2 v3 v4 : Option V) (kvs : List (Key × V)), σ = [some (.ref j), some (.ref d), v2, v3, v4] ∧ BegI al ps H d n 0 H' kvs) ⟨none, none, none, [], rfl, I0⟩ (fun _ _ _ _ _ => trivial) ?_ ?_⟩
    · rintro n x σ Ha Hb hn ⟨v2, v3, v4, kvs, rfl, Ia⟩ ⟨rfl, hx⟩
      obtain rfl : x = V.int (n : Int) := hx.trans (congrArg V.int (Int.zero_add _))
      have hn' : n < al.length + ps.length := by rw [Int.toNat_natCast] at hn; exact hn
      have hjb := hj.same Ia.sm
      obtain ⟨dx, fs, m1, m2⟩ : ∃ dx fs, Hb j = some (.ins C dx fs) ∧ fs.lookup ("text_of" : Str) = none := by
        obtain ⟨dx, t, tx, d, e, ws, h1, _⟩ := id hjb
        exact ⟨dx, _, h1, f5_no al t tx d e (by decide +kernel) (by decide +kernel) (by decide +kernel) (by decide +kernel) (by decide +kernel)⟩
      have hsh : (TX al ps n).length ≤ 40 := by
        have hp' : n < (textsOf al ps).length := by rw [textsOf_len]; exact hn'
        exact getD_short hprop.short n
      refine ⟨_, rfl, j, dx, fs, rfl, m1, m2, _, rfl, j, n, al, ps, rfl, hjb, hn', ?_⟩
      refine ⟨_, rfl, S (TX al ps n), rfl, by rw [S_len]; exact small_le (by omega), _, _, rfl, rfl, _, _, rfl, ?_⟩
      rw [S_len]
      refine ⟨by omega, for_it walk_range (fun i σ H' => ∃ (v4 : Option V) (kvs : List (Key × V)), σ = [some (.ref j), some (.ref d), some (.int (n : Int)), some (.str (S (TX al ps n))), v4] ∧ BegI al ps H d n i H' kvs) ⟨v4, kvs, rfl, Ia⟩ (fun _ _ _ _ _ => trivial) ?_ ?_⟩
      · rintro i x σ Hc Hd hi ⟨v4, kvs, rfl, Ic⟩ ⟨rfl, hx⟩
        have hi' : i + 1 ≤ (TX al ps n).length := by omega
        obtain rfl : x = V.int (((i + 1 : Nat) : Int)) := hx.trans (congrArg V.int (by omega))
        have hdH := Ic.hd
        have hlen := Ic.len
        have hu0 : (TX al ps n).take (i + 1) ≠ [] := fun z => by
          have := congrArg List.length z
          rw [List.length_take, List.length_nil] at this; omega
        obtain ⟨hh1, hh2⟩ := begC_here hi'
        have hkey : ∀ {u : List Nat}, (Sum.inr (S u) : Key) = .inr (S ((TX al ps n).take (i + 1))) → u = (TX al ps n).take (i + 1) := fun e => S_inj (Sum.inr.inj e)
        have hbl : (begL al ps n ((TX al ps n).take (i + 1))).length ≤ n := by
          unfold begL
          exact Nat.le_trans (List.length_filter_le _ _) (by rw [List.length_range]; exact Nat.le_refl _)
        refine ⟨_, rfl, d, rfl, .inl ⟨_, .inl hdH⟩, _, rfl, _, rfl, _, rfl, S (TX al ps n), rfl, by rw [S_len]; exact small_le (by omega), ?_⟩
        rw [cutS_upto]
        refine ⟨Nat.zero_le _, fun z hz => ?_⟩
        have nzd : z ≠ d := Ne.symm (ne_of_none hdH hz)
        have sz := same_new (o := .lst []) hz
        have hz0 : H z = none := Ic.sm.free hz
        refine ⟨kvs, .inr (S ((TX al ps n).take (i + 1))), sz _ _ hdH, rfl, by omega, fun v hv => ?_, fun hno => ?_⟩
        · have hne : begC al ps n i ((TX al ps n).take (i + 1)) ≠ [] := fun e => by
            rw [Ic.no _ hu0 e] at hv; cases hv
          obtain ⟨a, e1, e2, e3⟩ := Ic.yes _ hu0 hne
          rw [e1] at hv
          obtain rfl : v = .ref a := (Option.some.inj hv).symm
          rw [hh1] at e2
          have nad : a ≠ d := ne_of e2 hdH (fun z => by cases z)
          refine ⟨.inl ⟨rfl, _, SqL.of (sz _ _ e2)⟩, _, rfl, a, _, _, rfl, rfl, sz _ _ e2, by rw [iv_len]; exact smallB (by omega), ?_⟩
          rw [iv_snoc, ← hh2]
          refine ⟨_, kvs, rfl, Same.put (Ic.sm.trans sz) e3, Ic.at0, (upd_ne (Ne.symm nad)).trans (sz _ _ hdH), by omega, fun u hu h => ?_, fun u hu h => ?_, Ic.inj⟩
          · by_cases c : u = (TX al ps n).take (i + 1)
            · subst c; rw [hh2] at h; exact absurd h (by simp)
            · exact Ic.no u hu (by rw [← begC_other c]; exact h)
          · by_cases c : u = (TX al ps n).take (i + 1)
            · subst c; exact ⟨a, e1, upd_same, e3⟩
            · rw [begC_other c] at h ⊢
              obtain ⟨a2, f1, f2, f3⟩ := Ic.yes u hu h
              refine ⟨a2, f1, ?_, f3⟩
              rw [upd_ne (fun z => by rw [z] at f1; exact c (Ic.inj _ _ _ hu hu0 f1 e1))]
              exact sz _ _ f2
        · have hnil : begC al ps n i ((TX al ps n).take (i + 1)) = [] := by
            cases e : begC al ps n i ((TX al ps n).take (i + 1)) with
            | nil => rfl
            | cons x r =>
              obtain ⟨a, e1, _⟩ := Ic.yes _ hu0 (by rw [e]; exact List.cons_ne_nil _ _)
              rw [e1] at hno; cases hno
          rw [hh1] at hnil
          have e9 : (upd (upd Hd z (.lst [])) d (.dK (putK kvs (.inr (S ((TX al ps n).take (i + 1)))) (.ref z)))) z = some (.lst []) := (upd_ne nzd).trans upd_same
          refine ⟨.inl ⟨rfl, _, SqL.of e9⟩, _, rfl, z, _, _, rfl, rfl, e9, by show 0 < sizeLine; omega, ?_⟩
          refine ⟨_, _, rfl, Same.put (Same.put (Ic.sm.trans sz) Ic.at0) hz0, Ic.at0, (upd_ne (Ne.symm nzd)).trans upd_same, ?_, fun u hu h => ?_, fun u hu h => ?_, fun u u' a hu hu' f1 f2 => ?_⟩
          · have := length_putK kvs (.inr (S ((TX al ps n).take (i + 1)))) (.ref z); omega
          · rw [valV_put]
            by_cases c : u = (TX al ps n).take (i + 1)
            · subst c; rw [hh2] at h; exact absurd h (by simp)
            · rw [if_neg (fun e => c (hkey e))]
              exact Ic.no u hu (by rw [← begC_other c]; exact h)
          · rw [valV_put]
            by_cases c : u = (TX al ps n).take (i + 1)
            · subst c
              rw [if_pos rfl]
              refine ⟨z, rfl, ?_, hz0⟩
              rw [hh2, hnil, upd_same]; rfl
            · rw [if_neg (fun e => c (hkey e))]
              rw [begC_other c] at h ⊢
              obtain ⟨a2, f1, f2, f3⟩ := Ic.yes u hu h
              refine ⟨a2, f1, ?_, f3⟩
              have na2z : a2 ≠ z := ne_of_none f2 hz
              have na2d : a2 ≠ d := ne_of f2 hdH (fun z => by cases z)
              rw [upd_ne na2z, upd_ne na2d]
              exact sz _ _ f2
          · have old : ∀ {w : List Nat} {a : Addr}, w ≠ [] → w ≠ (TX al ps n).take (i + 1) → valV (putK kvs (.inr (S ((TX al ps n).take (i + 1)))) (.ref z)) (.inr (S w)) = some (.ref a) → valV kvs (.inr (S w)) = some (.ref a) ∧ a ≠ z := fun {w a} hw hc hv => by
              rw [valV_put, if_neg (fun e => hc (hkey e))] at hv
              refine ⟨hv, ?_⟩
              rintro rfl
              by_cases cn : begC al ps n i w = []
              · rw [Ic.no w hw cn] at hv; cases hv
              · obtain ⟨a2, g1, g2, _⟩ := Ic.yes w hw cn
                rw [g1] at hv
                cases hv
                rw [hz] at g2; cases g2
            by_cases c : u = (TX al ps n).take (i + 1)
            · by_cases c' : u' = (TX al ps n).take (i + 1)
              · rw [c, c']
              · exfalso
                obtain ⟨_, k2⟩ := old hu' c' f2
                subst c
                rw [valV_put, if_pos rfl] at f1
                cases f1
                exact k2 rfl
            · obtain ⟨k1, k2⟩ := old hu c f1
              by_cases c' : u' = (TX al ps n).take (i + 1)
              · exfalso
                subst c'
                rw [valV_put, if_pos rfl] at f2
                cases f2
                exact k2 rfl
              · exact Ic.inj u u' a hu hu' k1 (old hu' c' f2).1
      · rintro σ He ⟨v4, kvs, rfl, Ie⟩
        have e : (((TX al ps n).length : Int) + 1 - 1).toNat = (TX al ps n).length := by omega
        rw [e] at Ie
        have hz : ∀ u : List Nat, u ≠ [] → begC al ps (n + 1) 0 u = begC al ps n (TX al ps n).length u := fun u hu => by rw [begC_zero hu, begL_succ]
        refine ⟨_, _, _, kvs, rfl, Ie.sm, Ie.at0, Ie.hd, by have := Ie.len; omega, fun u hu h => Ie.no u hu (by rw [← hz u hu]; exact h), fun u hu h => ?_, Ie.inj⟩
        obtain ⟨a, e1, e2, e3⟩ := Ie.yes u hu (by rw [← hz u hu]; exact h)
        exact ⟨a, e1, by rw [hz u hu]; exact e2, e3⟩
    · rintro σ He ⟨v2, v3, v4, kvs, rfl, Ie⟩
      rw [Int.toNat_natCast] at Ie
      refine ⟨_, rfl, q He d (fun a => if H a = none then He a else none) Ie.sm (fun a o e => ?_) (fun a o e => ?_) ⟨kvs, ?_, fun u hu => ⟨fun h => Ie.no u hu (by rw [begC_zero hu]; exact h), fun h => ?_⟩⟩⟩
      · replace e : (if H a = none then He a else none) = some o := e
        split at e
        · exact e
        · cases e
      · replace e : (if H a = none then He a else none) = some o := e
        split at e
        · assumption
        · cases e
      · show (if H d = none then He d else none) = _
        rw [if_pos Ie.at0]; exact Ie.hd
      · obtain ⟨a, e1, e2, e3⟩ := Ie.yes u hu (by rw [begC_zero hu]; exact h)
        rw [begC_zero hu] at e2
        refine ⟨a, e1, ?_⟩
        show (if H a = none then He a else none) = _
        rw [if_pos e3]; exact e2
end
end RJ
end

section
set_option maxRecDepth 100000
set_option maxHeartbeats 4000000
namespace RJ
open PySem PySem.Spec PyProof.Rows L2
open PySem.W (minD AlikeAll alike alikeAll dataLt)
/-- a set of places, kept as a dict -/
def plK (P : List Nat) : List (Key × V) := P.map fun (x : Nat) => (.inl (x : Int), .bl true)
theorem plK_val {P : List Nat} {x : Nat} : (valV (plK P) (.inl (x : Int))).isSome = true ↔ x ∈ P := by
  rw [← valV_any]
  unfold plK
  rw [List.any_map, List.any_eq_true]
  constructor
  · rintro ⟨y, hy, e⟩
    have e' : (Sum.inl (y : Int) : Key) = .inl (x : Int) := by simpa using e
    have e2 := Sum.inl.inj e'
    have e3 : y = x := by omega
    exact e3 ▸ hy
  · intro h
    exact ⟨x, h, by simp⟩
theorem plK_put {P : List Nat} {x : Nat} : putK (plK P) (.inl (x : Int)) (.bl true) = plK (addP P x) := by
  have h := plK_val (P := P) (x := x)
  rw [← valV_any] at h
  unfold putK addP
  by_cases c : x ∈ P
  · rw [if_pos (h.mpr c), if_pos c]
    unfold plK
    rw [List.map_map]
    refine List.map_congr_left fun y _ => ?_
    show (if (Sum.inl (y : Int) : Key) = .inl (x : Int) then _ else _) = _
    split <;> rfl
  · rw [if_neg (fun z => c (h.mp z)), if_neg c]
    unfold plK
    rw [List.map_append]; rfl
theorem plK_drop {P : List Nat} {x : Nat} : dropK (plK P) (.inl (x : Int)) = plK (P.filter fun y => decide (y ≠ x)) := by
  unfold dropK plK
  rw [List.filter_map]
  congr 1
  refine List.filter_congr fun y _ => ?_
  show decide ((Sum.inl (y : Int) : Key) ≠ .inl (x : Int)) = decide (y ≠ x)
  by_cases c : y = x
  · subst c; simp
  · have h1 : (Sum.inl (y : Int) : Key) ≠ .inl (x : Int) := fun e => c (by have := Sum.inl.inj e; omega)
    simp [c, h1]
theorem plK_keys {P : List Nat} : ((plK P).map fun kv => kV kv.1) = iv P := by
  unfold plK iv
  rw [List.map_map]; rfl
theorem plK_len {P : List Nat} : (plK P).length = P.length := by unfold plK; rw [List.length_map]
def sp_covers : Sp := fun vs H Q _ => ∃ (mk bg tl : Addr) (al t Ms : List Nat) (ps : List (Nat × Nat)), vs = [.ref mk, .ref bg, .str (S t), .ref tl] ∧ H mk = some (.tup (iv Ms)) ∧ MasksAt al.length ps ps.length Ms ∧ BegAt al ps H bg ∧ H tl = some (.lst (iv (tailsL al ps t t.length))) ∧
  Proper al ps ∧ al.Nodup ∧ al.length ≤ 400 ∧ ps.length ≤ 400 ∧ (∀ c ∈ t, c ∈ al) ∧ t.length ≤ 1000 ∧
  ∀ H' q us cs, Same H H' → H' q = some (.lst us) → PairsAt H' us cs → cs.Nodup → (∀ b p, (b, p) ∈ cs ↔ Cov al ps t b p) → cs.length ≤ 40000 → Q (.ref q) H'
def sp_common (C : Addr) : Sp := fun vs H Q _ => ∃ (j tl bl : Addr) (al t B : List Nat) (ps : List (Nat × Nat)), vs = [.ref j, .ref tl, .ref bl] ∧ JoinsAt C H j al ps ∧ H tl = some (.lst (iv (tailsL al ps t t.length))) ∧ H bl = some (.lst (iv B)) ∧ (∀ b ∈ B, b ≤ t.length) ∧ B.length ≤ 100000 ∧
  Proper al ps ∧ al.Nodup ∧ al.length ≤ 400 ∧ ps.length ≤ 400 ∧ (∀ c ∈ t, c ∈ al) ∧ t.length ≤ 1000 ∧
  ∀ H' c, Same H H' → c ≤ t.length → (B = [] → c = 0) → (B ≠ [] → (∀ b ∈ B, Anc al ps t c b) ∧ ∀ c', (∀ b ∈ B, Anc al ps t c' b) → Anc al ps t c' c) → Q (.int (c : Int)) H'
section
variable {P : Program} {w : World} {K : PySem.W.Frag} {mg : Str → Option Value} {base : Heap}
theorem ok_covers {f : Addr} {fd : FuncData} (F : C8.Fun K "covers_of" "covers_of" s_covers_of f fd) (T : Txt K mg) (c_is_tail : C8.Cal P w K mg base 1 "is_tail" sp_is_tail []) : FnOk P w K mg base C8.CX0 2 f fd ["masks", "beginnings", "text", "row_of_tails"] sp_covers := by
  refine C8.fn0 F sc_covers_of (fun vs H Q E h => ?_) (fun cdv A outer s H vs Q E hr h => ?_)
  · obtain ⟨mk, bg, tl, al, t, Ms, ps, rfl, _⟩ := h; rfl
  · obtain ⟨mk, bg, tl, al, t, Ms, ps, rfl, hmk, hMs, hbg, htl, hprop, hnd, hal, hpl, ht, htlen, q⟩ := h
    have hsz : sizeLine = 16777216 := sizeLine_eq
    have hu := hu_of hr
    refine ⟨_, (pss_cons (ps_set (i := 4) sc_covers_of.nd rfl (Or.inl rfl) (pe_lst pa_nil))
      (pss_cons (ps_for PassesOwn.never rfl (pi_range2 rfl T.b_range (pa_cons (pe_callB (call_max2 rfl) (by rfl) T.b_max (by decide +kernel) (pa_cons pe_int (pa_cons (pe_op op_sub (pe_callB call_len_str (by rfl) T.b_len PySem.boot_len (pa_cons (pv 2) pa_nil)) (C8.pe_gc rfl T.c_MOST_SIGNS_OF_PIECE)) pa_nil))) (pa_cons (pe_callB call_len_str (by rfl) T.b_len PySem.boot_len (pa_cons (pv 2) pa_nil)) pa_nil))) (pg_name (i := 5) sc_covers_of.nd rfl (Or.inl rfl)) (pss_one (ps_for PassesOwn.never rfl (pi_seq (pe_dget2 hu (pv 1) (pe_slice sl_str (pv 2) (po_some (pv 5)) po_none) (pe_tup pa_nil) ⟨by rfl, by rfl, by rfl, by rfl⟩)) (pg_name (i := 6) sc_covers_of.nd rfl (Or.inl rfl)) (pss_one (ps_if (pt_val (C8.pe_c c_is_tail hr (by first | decide | omega) (by rfl) (pa_cons (pv 0) (pa_cons (pv 3) (pa_cons (pv 6) (pa_cons (pv 5) pa_nil)))))) (pss_one (ps_expr (pe_bm PySem.F.plainAttrs_list PySem.F.slot_list_append PySem.F.type_list_append mt_append (pv 4) (pa_cons (pe_tup (pa_cons (pv 5) (pa_cons (pv 6) pa_nil))) pa_nil)))) pss_nil)))))
      (pss_one (ps_ret (pv 4))))), ?_⟩
    obtain ⟨lo, hlo, hlo1, hlo2⟩ : ∃ lo : Nat, (if (t.length : Int) - 40 > 0 then (t.length : Int) - 40 else 0) = (lo : Int) ∧ lo ≤ t.length ∧ t.length ≤ lo + 40 := by
      by_cases c : (t.length : Int) - 40 > 0
      · exact ⟨t.length - 40, by rw [if_pos c]; omega, by omega, by omega⟩
      · exact ⟨0, by rw [if_neg c]; rfl, by omega, by omega⟩
    have zt : (S t).length ≤ sizeLine := by rw [S_len]; exact small_le (by omega)
    obtain ⟨kvs, hkv, hbk⟩ := id hbg
    refine ⟨Nat.zero_le _, fun D hD => ?_⟩
    have s0 := same_new (o := .lst []) hD
    refine ⟨_, rfl, S t, rfl, zt, _, _, rfl, rfl, _, _, rfl, ?_⟩
    rw [S_len, hlo]
    refine ⟨_, rfl, S t, rfl, zt, _, _, rfl, ?_⟩
    rw [S_len]
    refine ⟨by omega, for_it walk_range (fun i σ H' => ∃ (v5 v6 : Option V) (us : List V), σ = [some (.ref mk), some (.ref bg), some (.str (S t)), some (.ref tl), some (.ref D), v5, v6] ∧ Same H H' ∧ H' D = some (.lst us) ∧ PairsAt H' us (covFrom al ps t (covB al ps t) lo i)) ⟨none, none, [], rfl, s0, upd_same, .nil⟩ (fun _ _ _ _ _ => trivial) ?_ ?_⟩
    · rintro i x σ Ha Hb hi ⟨v5, v6, us, rfl, sa, hDb, hus⟩ ⟨rfl, hx⟩
      obtain rfl : x = V.int ((lo + i : Nat) : Int) := hx.trans (congrArg V.int (by omega))
      have hi40 : i < 40 := by have : i < ((t.length : Int) - (lo : Int)).toNat := hi
                               omega
      have hbt : lo + i < t.length := by have : i < ((t.length : Int) - (lo : Int)).toNat := hi
                                         omega
      obtain ⟨b, hb⟩ : ∃ b, b = lo + i := ⟨_, rfl⟩
      rw [← hb] at hbt ⊢
      have hdr : t.drop b ≠ [] := fun z => by
        have := congrArg List.length z
        rw [List.length_drop, List.length_nil] at this; omega
      obtain ⟨k1, k2⟩ := hbk (t.drop b) hdr
      refine ⟨_, rfl, bg, rfl, .inl ⟨_, .inl (sa _ _ hkv)⟩, _, rfl, _, rfl, _, rfl, S t, rfl, zt, ?_⟩
      rw [cutS_from]
      refine ⟨Nat.zero_le _, fun z hz => ?_⟩
      have sz := same_new (o := .tup []) hz
      have hDz := sz _ _ hDb
      have nDz : z ≠ D := Ne.symm (ne_of_none hDb hz)
      obtain ⟨kb, a, hoa, hsq, naD⟩ : ∃ (kb : Bool) (a : Addr), (valV kvs (.inr (S (t.drop b)))).getD (.ref z) = .ref a ∧ SeqAt kb (upd Hb z (.tup [])) a (iv (begL al ps (al.length + ps.length) (t.drop b))) ∧ a ≠ D := by
        by_cases c : begL al ps (al.length + ps.length) (t.drop b) = []
        · rw [k1 c, c]
          exact ⟨false, z, rfl, upd_same, nDz⟩
        · obtain ⟨a, e1, e2⟩ := k2 c
          rw [e1]
          exact ⟨true, a, rfl, sz _ _ (sa _ _ e2), ne_of_none e2 hD⟩
      refine ⟨_, DGet.k (k := .inr (S (t.drop b))) (sz _ _ (sa _ _ hkv)), ?_⟩
      rw [hoa]
      refine ⟨kb, a, _, rfl, hsq, for_it walk_seq (fun k σ H' => ∃ (v6 : Option V) (us : List V), σ = [some (.ref mk), some (.ref bg), some (.str (S t)), some (.ref tl), some (.ref D), some (.int (b : Int)), v6] ∧ Same H H' ∧ SeqAt kb H' a (iv (begL al ps (al.length + ps.length) (t.drop b))) ∧ H' D = some (.lst us) ∧ PairsAt H' us (covFrom al ps t (covB al ps t) lo i ++ (((begL al ps (al.length + ps.length) (t.drop b)).take k).filter (covB al ps t b)).map fun p => (b, p)))
        ⟨v6, us, rfl, sa.trans sz, hsq, hDz, by rw [List.take_zero, List.filter_nil, List.map_nil, List.append_nil]; exact hus.same (Same.t sz)⟩ (fun k σ H' _ ⟨_, _, _, _, h, _⟩ => h) ?_ ?_⟩
      · rintro k x σ Hc Hd hk ⟨v6, us, rfl, sc, hsqc, hDc, husc⟩ ⟨rfl, hx⟩
        obtain ⟨p, hp, rfl⟩ := iv_get hx
        have hpm := begL_mem.mp (List.mem_of_getElem? hp)
        have hmkc := sc _ _ hmk
        have htlc := sc _ _ htl
        refine ⟨_, rfl, _, rfl, _, rfl, _, rfl, mk, tl, al.length, _, Ms, ps, p, b, rfl, hmkc, hMs, htlc, by rw [tailsL_len]; omega, tailsL_lt hnd hprop ht (Nat.le_refl _), hpm.1, fun kk hkk => ⟨kk, rfl, ?_⟩⟩
        have hcv : kk = true ↔ covB al ps t b p = true := by
          rw [covB_iff, hkk]
          constructor
          · rintro (h | ⟨y, hy, h⟩)
            · exact ⟨hbt, hpm.1, hpm.2, .inl h⟩
            · by_cases h0 : b = 0
              · exact ⟨hbt, hpm.1, hpm.2, .inl h0⟩
              · rw [tailsL_get t (by omega : b - 1 < t.length), show b - 1 + 1 = b by omega] at hy
                cases hy
                exact ⟨hbt, hpm.1, hpm.2, .inr h⟩
          · rintro ⟨_, _, _, h | h⟩
            · exact .inl h
            · by_cases h0 : b = 0
              · exact .inl h0
              · exact .inr ⟨_, by rw [tailsL_get t (by omega : b - 1 < t.length), show b - 1 + 1 = b by omega], h⟩
        have hlen := Paired.length husc
        have hlen2 : us.length ≤ 40000 := by
          rw [hlen, List.length_append, List.length_map]
          have h1 := covFrom_len (al := al) (ps := ps) (t := t) (fits := covB al ps t) (lo := lo) (n := i)
          have h2 := List.length_filter_le (covB al ps t b) ((begL al ps (al.length + ps.length) (t.drop b)).take k)
          have h3 : (begL al ps (al.length + ps.length) (t.drop b)).length ≤ 800 := Nat.le_trans (List.length_filter_le _ _) (by rw [List.length_range]; omega)
          rw [List.length_take] at h2
          have h4 : i * (al.length + ps.length) ≤ 40 * 800 := Nat.mul_le_mul (by omega) (by omega)
          omega
        have hnext : ((begL al ps (al.length + ps.length) (t.drop b)).take (k + 1)).filter (covB al ps t b) = ((begL al ps (al.length + ps.length) (t.drop b)).take k).filter (covB al ps t b) ++ (if covB al ps t b p = true then [p] else []) := by
          rw [take_succ_of hp, List.filter_append]
          congr 1
          rw [List.filter_cons]; rfl
        cases hkv : kk with
        | true =>
          have hc := hcv.mp hkv
          refine iteT ⟨_, rfl, .inl ⟨rfl, _, SqL.of hDc⟩, _, rfl, _, rfl, by show 2 ≤ sizeLine; omega, fun q2 hq2 => ?_⟩
          have sq := same_new (o := .tup [.int (b : Int), .int (p : Int)]) hq2
          have nq2 : q2 ≠ D := Ne.symm (ne_of_none hDc hq2)
          refine ⟨D, _, _, rfl, rfl, sq _ _ hDc, by omega, ?_⟩
          refine ⟨_, us ++ [.ref q2], rfl, Same.put (sc.trans sq) hD, ?_, upd_same, ?_⟩
          · exact (upd_ne naD).trans (sq _ _ hsqc)
          · rw [hnext, if_pos hc, List.map_append, ← List.append_assoc]
            refine Paired.snoc ⟨q2, rfl, (upd_ne nq2).trans upd_same⟩ ?_
            refine (husc.same (Same.t sq)).same fun x xs e => ?_
            rw [upd_ne (fun z => by rw [z] at e; rw [sq _ _ hDc] at e; cases e)]; exact e
        | false =>
          have hc : ¬ covB al ps t b p = true := fun z => by rw [hcv.mpr z] at hkv; cases hkv
          refine iteF ⟨_, us, rfl, sc, hsqc, hDc, ?_⟩
          rw [hnext, if_neg hc, List.append_nil]; exact husc
      · rintro σ Hc ⟨v6, us, rfl, sc, hsqc, hDc, husc⟩
        refine ⟨_, _, us, rfl, sc, hDc, ?_⟩
        rw [iv_len, List.take_length, covB_filter] at husc
        rw [covFrom_succ, ← hb]; exact husc
    · rintro σ Hb ⟨v5, v6, us, rfl, sa, hDb, hus⟩
      have e : ((t.length : Int) - (lo : Int)).toNat = t.length - lo := by omega
      rw [e] at hus
      refine ⟨_, rfl, q Hb D us _ sa hDb hus covFrom_nodup (fun b p => ?_) ?_⟩
      · rw [covFrom_mem, covB_iff]
        constructor
        · exact fun h => h.2.2
        · intro h
          have h1 := h.1
          have h2 := h.2.1
          have h3 := h.2.2.1.length_le
          rw [List.length_drop] at h3
          have h4 : (TX al ps p).length ≤ 40 := getD_short hprop.short p
          exact ⟨⟨by omega, by omega⟩, h2, h⟩
      · have h1 := covFrom_len (al := al) (ps := ps) (t := t) (fits := covB al ps t) (lo := lo) (n := t.length - lo)
        have h4 : (t.length - lo) * (al.length + ps.length) ≤ 40 * 800 := Nat.mul_le_mul (by omega) (by omega)
        omega
theorem ok_common {f C : Addr} {fd : FuncData} (F : C8.Fun K "common_begin" "common_begin" s_common_begin f fd) (T : Txt K mg) (J : JTxt K C) (m_text_of : C8.Met P w K mg base 5 C "text_of" (sp_text_of C) []) : FnOk P w K mg base C8.CX0 6 f fd ["joins", "row_of_tails", "begins"] (sp_common C) := by
  refine C8.fn0 F sc_common_begin (fun vs H Q E h => ?_) (fun cdv A outer s H vs Q E hr h => ?_)
  · obtain ⟨j, tl, bl, al, t, B, ps, rfl, _⟩ := h; rfl
  · obtain ⟨j, tl, bl, al, t, B, ps, rfl, hj, htl, hbl, hB, hBl, hprop, hnd, hal, hpl, ht, htlen, q⟩ := h
    have hsz : sizeLine = 16777216 := sizeLine_eq
    have hu := hu_of hr
    have hu64 := hu64_of hr
    refine ⟨_, (pss_cons (ps_setDc (own := [("begin", 5)]) (i := 3) (g := gName 5) (tt := tYes) rfl sc_common_begin.nd rfl rfl (sw_trueD rfl rfl rfl (by decide +kernel)) (pi_list (pv 2)) (blkOk_by (N := N_common_begin) (sc := C8.fnScope s_common_begin) (by decide +kernel)) (fun _ _ _ _ _ => (pg_name (i := 5) sc_common_begin.nd rfl (Or.inl rfl))) (fun _ _ _ _ _ => pts_nil) (fun _ _ _ _ _ => (pv 5)) (fun _ _ _ _ _ => pe_bl))
      (pss_cons (ps_while PassesOwn.never (pt_cmpR op_gt (pe_callB call_lenD (by rfl) T.b_len PySem.boot_len (pa_cons (pv 3) pa_nil)) pe_int (nomark _)) (pss_cons (ps_set (i := 4) sc_common_begin.nd rfl (Or.inl rfl) (pe_callB (cr_max rfl) (by rfl) T.b_max (by decide +kernel) (pa_cons (pe_callTy (call_listD rfl) (by rfl) T.b_list (by decide +kernel) (pa_cons (pv 3) pa_nil)) pa_nil)))
      (pss_cons (ps_ddel (pv 3) (pv 4))
      (pss_one (ps_dput hu (pv 3) (pe_op op_sub (pv 4) (pe_callB call_len_str (by rfl) T.b_len PySem.boot_len (pa_cons (C8.pe_mt m_text_of hr (by first | decide | omega) (pv 0) (pa_cons (pe_ix ix_list (pv 1) (pe_op op_sub (pv 4) pe_int) (fun _ _ => rfl)) pa_nil)) pa_nil))) pe_bl rfl)))))
      (pss_one (ps_ret (pe_callBK (cr_minDV rfl hu64) (by rfl) T.b_min (by decide +kernel) (pa_cons (pe_callTy (call_listD rfl) (by rfl) T.b_list (by decide +kernel) (pa_cons (pv 3) pa_nil)) pa_nil) (pk_cons pe_int pk_nil)))))), ?_⟩
    have W0 := addsP B [] List.nodup_nil
    refine ⟨_, rfl, bl, rfl, ⟨_, SqL.of hbl⟩, fun D hD => dc_it walk_list (fun i H' => Same H H' ∧ H' D = some (.dK (plK ((B.take i).foldl addP [])))) ⟨same_new hD, upd_same⟩ (fun i H' _ ⟨sa, _⟩ => SqL.of (sa _ _ hbl)) ?_ ?_⟩
    · rintro i x Ha Hb hi ⟨sa, hDb⟩ ⟨rfl, hx⟩
      obtain ⟨b, hb, rfl⟩ := iv_get hx
      have hl := (addsP (B.take i) [] List.nodup_nil).2.2
      rw [List.length_take] at hl
      refine ⟨rfl, _, rfl, _, .inl (b : Int), rfl, hDb, ?_, Same.put sa hD, ?_⟩
      · rw [plK_len]; rw [List.length_nil] at hl; omega
      · rw [upd_same, plK_put, take_succ_of hb, List.foldl_append]; rfl
    · rintro Hb ⟨sa, hDb⟩
      rw [iv_len, List.take_length] at hDb
      refine ⟨fun m σ H' => ∃ (R : List Nat) (v4 v5 : Option V), m = R.sum ∧ σ = [some (.ref j), some (.ref tl), some (.ref bl), some (.ref D), v4, v5] ∧ Same H H' ∧ H' D = some (.dK (plK R)) ∧ R.Nodup ∧ R.length ≤ 100000 ∧ (R = [] ↔ B = []) ∧ Places al ps t B R, ⟨_, B.foldl addP [], none, none, rfl, rfl, sa, hDb, W0.1, ?_, ⟨fun e => ?_, fun e => by rw [e]; rfl⟩, Places.start hB fun x => ?_⟩, ?_⟩
      · have := W0.2.2; rw [List.length_nil] at this; omega
      · cases B with
        | nil => rfl
        | cons b B =>
          have := (W0.2.1 b).mpr (.inr List.mem_cons_self)
          rw [e] at this; exact absurd this List.not_mem_nil
      · rw [W0.2.1 x]
        exact ⟨fun h => h.resolve_left List.not_mem_nil, .inr⟩
      · rintro m σ Hc ⟨R, v4, v5, rfl, rfl, sc, hDc, hRn, hRl, hRB, hP⟩
        refine ⟨_, rfl, D, _, rfl, hDc, _, _, rfl, rfl, _, rfl, ?_⟩
        rw [plK_len]
        by_cases h1 : 1 < R.length
        · rw [decide_eq_true (by omega : (1 : Int) < (R.length : Int))]
          refine iteT ⟨fun σ H' => ∃ m', m' < R.sum ∧ ∃ (R : List Nat) (v4 v5 : Option V), m' = R.sum ∧ σ = [some (.ref j), some (.ref tl), some (.ref bl), some (.ref D), v4, v5] ∧ Same H H' ∧ H' D = some (.dK (plK R)) ∧ R.Nodup ∧ R.length ≤ 100000 ∧ (R = [] ↔ B = []) ∧ Places al ps t B R, fun σ' H' h => h, ?_⟩
          refine ⟨_, rfl, D, _, rfl, .inl hDc, fun l hl => ?_⟩
          rw [plK_keys]
          have sl := same_new (o := .lst (iv R)) hl
          refine ⟨l, R.map fun (n : Nat) => (n : Int), rfl, SqL.of (by rw [List.map_map]; exact upd_same), by rw [List.length_map]; omega, fun m hm hmax => ?_⟩
          obtain ⟨x, hx, rfl⟩ := List.mem_map.mp hm
          have hmx : ∀ y ∈ R, y ≤ x := fun y hy => by
            have := hmax _ (List.mem_map_of_mem (f := fun (n : Nat) => (n : Int)) hy)
            omega
          obtain ⟨o, ho, hox⟩ := other_of (x := x) hRn h1
          have hoxl : o < x := by have := hmx o ho; omega
          have hxt := hP.le x hx
          obtain ⟨g1, g2, g3, g4, _⟩ := par_spec hnd hprop ht (by omega : 0 < x) hxt
          have hDl := sl _ _ hDc
          refine ⟨_, rfl, _, rfl, D, _, .inl (x : Int), rfl, hDl, rfl, plK_val.mpr hx, ?_⟩
          rw [plK_drop]
          have sD := Same.put (o := .dK (plK (R.filter fun y => decide (y ≠ x)))) (sc.trans sl) hD
          obtain ⟨dx, fs, m1, m2⟩ : ∃ dx fs, (upd (upd Hc l (.lst (iv R))) D (.dK (plK (R.filter fun y => decide (y ≠ x))))) j = some (.ins C dx fs) ∧ fs.lookup ("text_of" : Str) = none := by
            obtain ⟨dx, t, tx, d, e, ws, h1, _⟩ := hj.same sD
            exact ⟨dx, _, h1, f5_no al t tx d e (by decide +kernel) (by decide +kernel) (by decide +kernel) (by decide +kernel) (by decide +kernel)⟩
          have hat : atI (iv (tailsL al ps t t.length)) ((x : Int) - 1) = some (.int ((tailOf al ps (t.take x) : Nat) : Int)) := by
            have e : (x : Int) - 1 = ((x - 1 : Nat) : Int) := by omega
            rw [e]
            refine atI_nat (iv_at ?_)
            rw [tailsL_get t (by omega : x - 1 < t.length), show x - 1 + 1 = x by omega]
          have h40 : (TX al ps (tailOf al ps (t.take x))).length ≤ 40 := getD_short hprop.short _
          refine ⟨_, rfl, _, rfl, _, rfl, j, dx, fs, rfl, m1, m2, _, rfl, _, rfl, _, _, rfl, rfl, tl, _, _, _, rfl, rfl, SqL.of (sD _ _ htl), hat, j, _, al, ps, rfl, hj.same sD, g2, _, rfl, by rw [S_len]; exact small_le (show (TX al ps (tailOf al ps (t.take x))).length ≤ 1000 by omega), _, _, rfl, rfl, ?_⟩
          have hpar : (x : Int) - ((TX al ps (tailOf al ps (t.take x))).length : Int) = ((parP al ps t x : Nat) : Int) := by
            unfold parP; omega
          dsimp only
          rw [S_len]
          show ∃ a H4, _
          rw [show ((x : Int) - (((textsOf al ps).getD (tailOf al ps (t.take x)) []).length : Int)) = ((parP al ps t x : Nat) : Int) from hpar]
          have hfl : (R.filter fun y => decide (y ≠ x)).length ≤ R.length := List.length_filter_le _ _
          have hnew := addP_len (P := R.filter fun y => decide (y ≠ x)) (x := parP al ps t x)
          have hs1 := sum_filter_ne hRn hx
          have hs2 := addP_sum (P := R.filter fun y => decide (y ≠ x)) (x := parP al ps t x)
          have hfl2 : (R.filter fun y => decide (y ≠ x)).length < R.length := by
            rcases Nat.lt_or_ge (R.filter fun y => decide (y ≠ x)).length R.length with z | z
            · exact z
            · have e := (List.filter_sublist (p := fun y => decide (y ≠ x)) (l := R)).eq_of_length (Nat.le_antisymm hfl z)
              rw [← e] at hx
              have := (List.mem_filter.mp hx).2
              simp at this
          have hP2 : Places al ps t B (addP (R.filter fun y => decide (y ≠ x)) (parP al ps t x)) := hP.step hnd hprop ht hx ho hoxl fun y => by
            rw [addP_mem, List.mem_filter]
            simp
          refine ⟨D, _, rfl, DPut.k (k := .inl ((parP al ps t x : Nat) : Int)) upd_same (by rw [plK_len]; omega), (addP (R.filter fun y => decide (y ≠ x)) (parP al ps t x)).sum, by omega, _, _, _, rfl, rfl, Same.put sD hD, ?_, addP_nodup (hRn.filter _), by omega, ⟨fun e => ?_, fun e => ?_⟩, hP2⟩
          · rw [upd_same, plK_put]
          · have := addP_mem (P := R.filter fun y => decide (y ≠ x)) (x := parP al ps t x) (y := parP al ps t x)
            rw [e] at this
            exact absurd (this.mpr (.inr rfl)) List.not_mem_nil
          · rw [hRB.mpr e] at hx; exact absurd hx List.not_mem_nil
        · rw [decide_eq_false (by omega : ¬ (1 : Int) < (R.length : Int))]
          refine iteF ⟨_, rfl, D, _, rfl, .inl hDc, fun l hl => ?_⟩
          rw [plK_keys]
          have sl := Same.new (o := .lst (iv R)) sc hl
          match R, h1, hRB, hP with
          | [], _, hRB, _ =>
            exact ⟨l, [], [], .int 0, rfl, rfl, upd_same, .nil, ⟨fun x hx => absurd hx (by simp), fun x hx => absurd hx (by simp)⟩, by decide, fun _ => q _ 0 sl (Nat.zero_le _) (fun _ => rfl) (fun h => absurd (hRB.mp rfl) h), fun d ds' i x e => by cases e⟩
          | [c], _, hRB, hP =>
            refine ⟨l, _, [.int (c : Int)], .int 0, rfl, rfl, upd_same, .cons (.int _) .nil, ⟨fun x hx y hy => ?_, fun x hx => ?_⟩, by simp [PyData.depthAll, PyData.depth], (fun e => by cases e), fun d ds' i x e hx hd => ?_⟩
            · rw [List.mem_singleton.mp hx, List.mem_singleton.mp hy]; rfl
            · rw [List.mem_singleton.mp hx]; exact fun z => by cases z
            · cases e
              have hi : i = 0 := by
                cases i with
                | zero => rfl
                | succ i => simp [iv] at hx
              subst hi
              obtain rfl : x = .int (c : Int) := (Option.some.inj hx).symm
              refine q _ c sl (hP.le c (by simp)) (fun hB0 => ?_) (fun hB0 => ⟨fun b hb => ?_, fun c' hc' => hP.mx c' hc' c (by simp)⟩)
              · have := hRB.mpr hB0; cases this
              · obtain ⟨x, hx, ha⟩ := hP.up b hb
                rw [List.mem_singleton.mp hx] at ha; exact ha
          | a :: b :: r, h1, _, _ => exact absurd (by rw [List.length_cons, List.length_cons]; omega) h1
end
end RJ
end

section
set_option maxRecDepth 100000
set_option maxHeartbeats 4000000
namespace RJ
open PySem PySem.Spec PyProof.Rows L2
abbrev s_Stream___init__ : Stmt := inClass (top 47) 0
abbrev N_Stream___init__ : List Str := ["self", "joins"]
theorem sc_Stream___init__ : FnScope N_Stream___init__ ["self", "joins"] (C8.fnScope s_Stream___init__) := C8.fnScope_by (by decide +kernel)
abbrev s_Stream_begin_anew : Stmt := inClass (top 47) 1
abbrev N_Stream_begin_anew : List Str := ["self"]
theorem sc_Stream_begin_anew : FnScope N_Stream_begin_anew ["self"] (C8.fnScope s_Stream_begin_anew) := C8.fnScope_by (by decide +kernel)
abbrev s_Stream_feed : Stmt := inClass (top 47) 2
abbrev N_Stream_feed : List Str := ["self", "text", "sign", "row"]
theorem sc_Stream_feed : FnScope N_Stream_feed ["self", "text"] (C8.fnScope s_Stream_feed) := C8.fnScope_by (by decide +kernel)
abbrev s_Stream_sure_row : Stmt := inClass (top 47) 3
abbrev N_Stream_sure_row : List Str := ["self", "covers", "begin", "piece", "_"]
theorem sc_Stream_sure_row : FnScope N_Stream_sure_row ["self"] (C8.fnScope s_Stream_sure_row) := C8.fnScope_by (by decide +kernel)
abbrev s_Stream_finish : Stmt := inClass (top 47) 4
abbrev N_Stream_finish : List Str := ["self", "row"]
theorem sc_Stream_finish : FnScope N_Stream_finish ["self"] (C8.fnScope s_Stream_finish) := C8.fnScope_by (by decide +kernel)
abbrev s_Stream_told : Stmt := inClass (top 47) 5
abbrev N_Stream_told : List Str := ["self"]
theorem sc_Stream_told : FnScope N_Stream_told ["self"] (C8.fnScope s_Stream_told) := C8.fnScope_by (by decide +kernel)
abbrev s_Stream_waiting : Stmt := inClass (top 47) 6
abbrev N_Stream_waiting : List Str := ["self"]
theorem sc_Stream_waiting : FnScope N_Stream_waiting ["self"] (C8.fnScope s_Stream_waiting) := C8.fnScope_by (by decide +kernel)
structure STxt (K : PySem.W.Frag) (CS : Addr) : Prop where
  cl : Cls K CS
  s1 : NoAttr K CS "_joins"
  s2 : NoAttr K CS "_masks"
  s3 : NoAttr K CS "_beginnings"
  s4 : NoAttr K CS "_read"
  s5 : NoAttr K CS "_tails"
  s6 : NoAttr K CS "_told"
  s7 : NoAttr K CS "_told_letters"
theorem cutV_from (l : List Nat) (k : Nat) : cutV (iv l) (some (k : Int)) none = iv (l.drop k) := by
  unfold cutV
  rw [HT.sIx_nat, HT.sIx_none, iv_len]
  unfold iv
  rw [← List.map_drop, ← List.map_take]
  congr 1
  by_cases h : k ≤ l.length
  · rw [Nat.min_eq_left h, List.take_of_length_le (by rw [List.length_drop]; omega)]
  · rw [Nat.min_eq_right (by omega), List.drop_eq_nil_of_le (by omega : l.length ≤ k), List.drop_length, List.take_nil]
/-- t[k:] of a tuple of numbers -/
theorem slT_from {K : PySem.W.Frag} {H : Hp} {a : Addr} {l : List Nat} {k : Nat} {Q : VK} (ha : H a = some (.tup (iv l))) (q : ∀ H' p, Same H H' → H' p = some (.tup (iv (l.drop k))) → Q (.ref p) H') : rSlA K (.ref a) (some (k : Int)) none H Q := by
  refine ⟨a, iv l, rfl, SqT.of ha, fun h => ?_, fun _ p hp => ?_⟩
  · rw [HT.sIx_nat, iv_len] at h
    have h0 : l.drop k = l := by
      by_cases c : l.length = 0
      · rw [List.eq_nil_of_length_eq_zero c, List.drop_nil]
      · have : k = 0 := by have := h.1; omega
        rw [this, List.drop_zero]
    exact q H a (Same.refl H) (by rw [h0]; exact ha)
  · rw [cutV_from]
    exact q _ p (same_new hp) upd_same
/-- a stream's fields -/
def stB (y mk bg : Addr) : List (Str × V) := [("_joins", .ref y), ("_masks", .ref mk), ("_beginnings", .ref bg)]
def stF (y mk bg tl : Addr) (t : List Nat) (n m : Int) : List (Str × V) := [("_joins", .ref y), ("_masks", .ref mk), ("_beginnings", .ref bg), ("_read", .str (S t)), ("_tails", .ref tl), ("_told", .int n), ("_told_letters", .int m)]
theorem stF_1 (y mk bg tl : Addr) (t : List Nat) (n m : Int) : (stF y mk bg tl t n m).lookup ("_joins" : Str) = some (.ref y) := rfl
theorem stF_2 (y mk bg tl : Addr) (t : List Nat) (n m : Int) : (stF y mk bg tl t n m).lookup ("_masks" : Str) = some (.ref mk) := rfl
theorem stF_3 (y mk bg tl : Addr) (t : List Nat) (n m : Int) : (stF y mk bg tl t n m).lookup ("_beginnings" : Str) = some (.ref bg) := rfl
theorem stF_4 (y mk bg tl : Addr) (t : List Nat) (n m : Int) : (stF y mk bg tl t n m).lookup ("_read" : Str) = some (.str (S t)) := rfl
theorem stF_5 (y mk bg tl : Addr) (t : List Nat) (n m : Int) : (stF y mk bg tl t n m).lookup ("_tails" : Str) = some (.ref tl) := rfl
theorem stF_6 (y mk bg tl : Addr) (t : List Nat) (n m : Int) : (stF y mk bg tl t n m).lookup ("_told" : Str) = some (.int n) := rfl
theorem stF_7 (y mk bg tl : Addr) (t : List Nat) (n m : Int) : (stF y mk bg tl t n m).lookup ("_told_letters" : Str) = some (.int m) := rfl
theorem stF_no (y mk bg tl : Addr) (t : List Nat) (n k : Int) {m : Str} (h1 : ¬ m = "_joins") (h2 : ¬ m = "_masks") (h3 : ¬ m = "_beginnings") (h4 : ¬ m = "_read") (h5 : ¬ m = "_tails") (h6 : ¬ m = "_told") (h7 : ¬ m = "_told_letters") : (stF y mk bg tl t n k).lookup m = none := by
  unfold stF
  rw [List.lookup_cons, beq_false_of_ne h1, List.lookup_cons, beq_false_of_ne h2, List.lookup_cons, beq_false_of_ne h3, List.lookup_cons, beq_false_of_ne h4, List.lookup_cons, beq_false_of_ne h5, List.lookup_cons, beq_false_of_ne h6, List.lookup_cons, beq_false_of_ne h7]; rfl
theorem stB_no (y mk bg : Addr) {m : Str} (h1 : ¬ m = "_joins") (h2 : ¬ m = "_masks") (h3 : ¬ m = "_beginnings") : (stB y mk bg).lookup m = none := by
  unfold stB
  rw [List.lookup_cons, beq_false_of_ne h1, List.lookup_cons, beq_false_of_ne h2, List.lookup_cons, beq_false_of_ne h3]; rfl
/-- all but a stream's own things as it was -/
def PFr2 (st tl : Addr) (H H' : Hp) : Prop := ∀ x o, x ≠ st → x ≠ tl → H x = some o → H' x = some o
/-- a stream that has read t, n pieces of m letters told; what stays of it in Hs -/
structure StrG (C CS : Addr) (Hs H : Hp) (st tl y : Addr) (al : List Nat) (ps : List (Nat × Nat)) (t : List Nat) (n m : Nat) : Prop where
  sub : Same Hs H
  jo : JoinsAt C Hs y al ps
  ob : ∃ dx mk bg Ms, H st = some (.ins CS dx (stF y mk bg tl t (n : Int) (m : Int))) ∧ Hs mk = some (.tup (iv Ms)) ∧ MasksAt al.length ps ps.length Ms ∧ BegAt al ps Hs bg
  tls : H tl = some (.lst (iv (tailsL al ps t t.length)))
  n1 : Hs st = none
  n2 : Hs tl = none
  ne : st ≠ tl
  ht : ∀ c ∈ t, c ∈ al
/-- it has told what is sure -/
def StrAt (C CS : Addr) (Hs H : Hp) (st tl y : Addr) (al : List Nat) (ps : List (Nat × Nat)) (t : List Nat) (R : List Nat) : Prop := StrG C CS Hs H st tl y al ps t R.length (textR (textsOf al ps) R).length ∧ SureIs al ps t R
theorem StrG.keep {C CS : Addr} {Hs H H' : Hp} {st tl y : Addr} {al : List Nat} {ps : List (Nat × Nat)} {t : List Nat} {n m : Nat} (h : StrG C CS Hs H st tl y al ps t n m) (s : Same Hs H') (h1 : ∀ o, H st = some o → H' st = some o) (h2 : ∀ o, H tl = some o → H' tl = some o) : StrG C CS Hs H' st tl y al ps t n m := by
  obtain ⟨dx, mk, bg, Ms, e1, e2⟩ := h.ob
  exact ⟨s, h.jo, ⟨dx, mk, bg, Ms, h1 _ e1, e2⟩, h2 _ h.tls, h.n1, h.n2, h.ne, h.ht⟩
theorem StrG.same {C CS : Addr} {Hs H H' : Hp} {st tl y : Addr} {al : List Nat} {ps : List (Nat × Nat)} {t : List Nat} {n m : Nat} (h : StrG C CS Hs H st tl y al ps t n m) (s : Same H H') : StrG C CS Hs H' st tl y al ps t n m := h.keep (h.sub.trans s) (fun o e => s _ _ e) (fun o e => s _ _ e)
theorem StrAt.same {C CS : Addr} {Hs H H' : Hp} {st tl y : Addr} {al : List Nat} {ps : List (Nat × Nat)} {t R : List Nat} (h : StrAt C CS Hs H st tl y al ps t R) (s : Same H H') : StrAt C CS Hs H' st tl y al ps t R := ⟨h.1.same s, h.2⟩
def Lim (al : List Nat) (ps : List (Nat × Nat)) : Prop := Proper al ps ∧ al.Nodup ∧ 1 ≤ al.length ∧ al.length ≤ 400 ∧ ps.length ≤ 400
def sp_anew (CS : Addr) : Sp := fun vs H Q _ => ∃ (st dx y mk bg : Addr) (fs : List (Str × V)), vs = [.ref st] ∧ H st = some (.ins CS dx fs) ∧ (fs = stB y mk bg ∨ ∃ tl t n m, fs = stF y mk bg tl t n m) ∧
  ∀ H' tl', (∀ x o, x ≠ st → H x = some o → H' x = some o) → H tl' = none → H' st = some (.ins CS dx (stF y mk bg tl' [] 0 0)) → H' tl' = some (.lst []) → tl' ≠ st → Q .non H'
def sp_sure (C CS : Addr) : Sp := fun vs H Q _ => ∃ (Hs : Hp) (st tl y : Addr) (al : List Nat) (ps : List (Nat × Nat)) (t : List Nat) (n m : Nat), vs = [.ref st] ∧ StrG C CS Hs H st tl y al ps t n m ∧ Lim al ps ∧ t.length ≤ 1000 ∧
  ∀ H' q R, Same H H' → SureIs al ps t R → H' q = some (.tup (iv R)) → Q (.ref q) H'
def sp_feed (C CS : Addr) : Sp := fun vs H Q _ => ∃ (Hs : Hp) (st tl y : Addr) (al : List Nat) (ps : List (Nat × Nat)) (t u R : List Nat), vs = [.ref st, .str (S u)] ∧ StrAt C CS Hs H st tl y al ps t R ∧ Lim al ps ∧ (∀ c ∈ u, c ∈ al) ∧ t.length + u.length ≤ 1000 ∧
  ∀ H' q R', PFr2 st tl H H' → StrAt C CS Hs H' st tl y al ps (t ++ u) R' → R <+: R' → H' q = some (.tup (iv (R'.drop R.length))) → Q (.ref q) H'
def sp_finish (C CS : Addr) : Sp := fun vs H Q _ => ∃ (Hs : Hp) (st tl y : Addr) (al : List Nat) (ps : List (Nat × Nat)) (t R : List Nat), vs = [.ref st] ∧ StrAt C CS Hs H st tl y al ps t R ∧ Lim al ps ∧ t.length ≤ 1000 ∧
  ∀ H' q tl', (∀ x o, x ≠ st → H x = some o → H' x = some o) → H tl' = none → StrAt C CS Hs H' st tl' y al ps [] [] → H' q = some (.tup (iv ((CT al ps t).drop R.length))) → Q (.ref q) H'
def sp_told (C CS : Addr) : Sp := fun vs H Q _ => ∃ (Hs : Hp) (st tl y : Addr) (al : List Nat) (ps : List (Nat × Nat)) (t : List Nat) (n m : Nat), vs = [.ref st] ∧ StrG C CS Hs H st tl y al ps t n m ∧ Q (.int (n : Int)) H
def sp_waiting (C CS : Addr) : Sp := fun vs H Q _ => ∃ (Hs : Hp) (st tl y : Addr) (al : List Nat) (ps : List (Nat × Nat)) (t : List Nat) (n m : Nat), vs = [.ref st] ∧ StrG C CS Hs H st tl y al ps t n m ∧ t.length ≤ 1000 ∧ Q (.str (S (t.drop m))) H
def sp_sinit (C CS : Addr) : Sp := fun vs H Q _ => ∃ (st dx y : Addr) (al : List Nat) (ps : List (Nat × Nat)) (H0 : Hp), vs = [.ref st, .ref y] ∧ H st = some (.ins CS dx []) ∧ Same H0 H ∧ JoinsAt C H0 y al ps ∧ H0 st = none ∧ Lim al ps ∧
  ∀ H' tl Hs, (∀ x o, x ≠ st → H x = some o → H' x = some o) → H tl = none → Same H0 Hs → (∀ x o, Hs x = some o → H0 x = some o ∨ H x = none ∨ ∃ xs, o = .tup xs) → StrAt C CS Hs H' st tl y al ps [] [] → Q .non H'
section
variable {P : Program} {w : World} {K : PySem.W.Frag} {mg : Str → Option Value} {base : Heap}
theorem ok_anew {f CS : Addr} {fd : FuncData} (F : C8.Fun K "begin_anew" "Stream.begin_anew" s_Stream_begin_anew f fd) (T : Txt K mg) (JS : STxt K CS) : FnOk P w K mg base C8.CX0 1 f fd ["self"] (sp_anew CS) := by
  refine C8.fn0 F sc_Stream_begin_anew (fun vs H Q E h => ?_) (fun cdv A outer s H vs Q E hr h => ?_)
  · obtain ⟨st, dx, y, mk, bg, fs, rfl, _⟩ := h; rfl
  · obtain ⟨st, dx, y, mk, bg, fs, rfl, hst, hfs, q⟩ := h
    refine ⟨_, (pss_cons (ps_fld (pv 0) pe_str rfl)
      (pss_cons (ps_fld (pv 0) (pe_lst pa_nil) rfl)
      (pss_cons (ps_fld (pv 0) pe_int rfl)
      (pss_one (ps_fld (pv 0) pe_int rfl))))), ?_⟩
    have hl : fs.length ≤ 7 := by
      rcases hfs with rfl | ⟨tl, t, n, m, rfl⟩
      · show 3 ≤ 7; decide
      · show 7 ≤ 7; decide
    refine ⟨_, rfl, st, CS, dx, _, rfl, hst, JS.cl, JS.s4, by omega, ?_⟩
    refine ⟨Nat.zero_le _, fun tl hb => ?_⟩
    have hne : tl ≠ st := by
      rintro rfl
      rw [upd_same] at hb; cases hb
    have hH : H tl = none := by rwa [upd_ne hne] at hb
    have fin : ∀ fs2 : List (Str × V), putF "_told_letters" (.int 0) (putF "_told" (.int 0) (putF "_tails" (.ref tl) (putF "_read" (.str (S [])) fs))) = fs2 → fs2 = stF y mk bg tl [] 0 0 := by
      rintro fs2 rfl
      rcases hfs with rfl | ⟨tl, t, n, m, rfl⟩ <;> rfl
    refine ⟨_, rfl, st, CS, dx, _, rfl, (upd_ne (Ne.symm hne)).trans upd_same, JS.cl, JS.s5, ?_, ?_⟩
    · rcases hfs with rfl | ⟨tl, t, n, m, rfl⟩
      · show 4 < 1000; decide
      · show 7 < 1000; decide
    refine ⟨_, rfl, st, CS, dx, _, rfl, upd_same, JS.cl, JS.s6, ?_, ?_⟩
    · rcases hfs with rfl | ⟨tl, t, n, m, rfl⟩
      · show 5 < 1000; decide
      · show 7 < 1000; decide
    refine ⟨_, rfl, st, CS, dx, _, rfl, upd_same, JS.cl, JS.s7, ?_, ?_⟩
    · rcases hfs with rfl | ⟨tl, t, n, m, rfl⟩
      · show 6 < 1000; decide
      · show 7 < 1000; decide
    refine q _ tl (fun x o hx e => ?_) hH ?_ ?_ hne
    · rw [upd_ne hx, upd_ne hx, upd_ne hx, upd_ne (ne_of_none e hH), upd_ne hx]; exact e
    · rw [upd_same]
      exact congrArg (fun z => some (HO.ins CS dx z)) (fin _ rfl)
    · rw [upd_ne hne, upd_ne hne, upd_ne hne, upd_same]
theorem ok_sure {f C CS : Addr} {fd : FuncData} (F : C8.Fun K "sure_row" "Stream.sure_row" s_Stream_sure_row f fd) (T : Txt K mg) (JS : STxt K CS) (c_covers_of : C8.Cal P w K mg base 2 "covers_of" sp_covers []) (c_common_begin : C8.Cal P w K mg base 6 "common_begin" (sp_common C) []) (c_chain : C8.Cal P w K mg base 6 "chain" (sp_chainU C) []) : FnOk P w K mg base C8.CX0 7 f fd ["self"] (sp_sure C CS) := by
  refine C8.fn0 F sc_Stream_sure_row (fun vs H Q E h => ?_) (fun cdv A outer s H vs Q E hr h => ?_)
  · obtain ⟨Hs, st, tl, y, al, ps, t, n, m, rfl, _⟩ := h; rfl
  · obtain ⟨Hs, st, tl, y, al, ps, t, n, m, rfl, G, ⟨hprop, hnd, h1, hal, hpl⟩, htl, q⟩ := h
    refine ⟨_, (pss_cons (ps_set (i := 1) sc_Stream_sure_row.nd rfl (Or.inl rfl) (C8.pe_c c_covers_of hr (by first | decide | omega) (by rfl) (pa_cons (pe_fld (pv 0) rfl) (pa_cons (pe_fld (pv 0) rfl) (pa_cons (pe_fld (pv 0) rfl) (pa_cons (pe_fld (pv 0) rfl) pa_nil))))))
      (pss_cons (ps_if (pt_cmpR op_eq (pe_callB call_len_seq (by rfl) T.b_len PySem.boot_len (pa_cons (pv 1) pa_nil)) pe_int (nomark _)) (pss_cons (ps_asg (pe_ix ix_list (pv 1) pe_int (fun _ _ => rfl)) (pg_tup rfl (pgs_cons (pg_name (i := 2) sc_Stream_sure_row.nd rfl (Or.inl rfl)) (pgs_cons (pg_name (i := 3) sc_Stream_sure_row.nd rfl (Or.inl rfl)) pgs_nil))))
      (pss_one (ps_ret (pe_op op_catA (C8.pe_c c_chain hr (by first | decide | omega) (by rfl) (pa_cons (pe_fld (pv 0) rfl) (pa_cons (pe_slice sl_list (pe_fld (pv 0) rfl) po_none (po_some (pv 2))) pa_nil))) (pe_tup (pa_cons (pv 3) pa_nil)))))) pss_nil)
      (pss_cons (ps_set (i := 2) sc_Stream_sure_row.nd rfl (Or.inl rfl) (C8.pe_c c_common_begin hr (by first | decide | omega) (by rfl) (pa_cons (pe_fld (pv 0) rfl) (pa_cons (pe_fld (pv 0) rfl) (pa_cons (pe_lc (own := [("begin", 2), ("_", 4)]) (g := gTup K 2 (gCons (gName 2) (gCons (gName 4) (gNil)))) (tt := tYes) rfl sc_Stream_sure_row.nd (pi_list (pv 1)) (blkOk_by (N := N_Stream_sure_row) (sc := C8.fnScope s_Stream_sure_row) (by decide +kernel)) (fun _ _ _ _ _ => (pg_tup rfl (pgs_cons (pg_name (i := 2) sc_Stream_sure_row.nd rfl (Or.inl rfl)) (pgs_cons (pg_name (i := 4) sc_Stream_sure_row.nd rfl (Or.inl rfl)) pgs_nil)))) (fun _ _ _ _ _ => pts_nil) (fun _ _ _ _ _ => (pv 2))) pa_nil)))))
      (pss_one (ps_ret (C8.pe_c c_chain hr (by first | decide | omega) (by rfl) (pa_cons (pe_fld (pv 0) rfl) (pa_cons (pe_slice sl_list (pe_fld (pv 0) rfl) po_none (po_some (pv 2))) pa_nil)))))))), ?_⟩
    have hsz : sizeLine = 16777216 := sizeLine_eq
    obtain ⟨dx, mk, bg, Ms, g1, g2, g3, g4⟩ := id G.ob
    have fld : ∀ {H' : Hp}, Same H H' → H' st = some (.ins CS dx (stF y mk bg tl t (n : Int) (m : Int))) := fun s => s _ _ g1
    refine ⟨_, rfl, st, CS, dx, _, _, rfl, g1, JS.cl, JS.s2, stF_2 _ _ _ _ _ _ _, _, rfl, st, CS, dx, _, _, rfl, g1, JS.cl, JS.s3, stF_3 _ _ _ _ _ _ _, _, rfl, st, CS, dx, _, _, rfl, g1, JS.cl, JS.s4, stF_4 _ _ _ _ _ _ _, _, rfl, st, CS, dx, _, _, rfl, g1, JS.cl, JS.s5, stF_5 _ _ _ _ _ _ _, ?_⟩
    refine ⟨mk, bg, tl, al, t, Ms, ps, rfl, G.sub _ _ g2, g3, g4.same G.sub, G.tls, hprop, hnd, hal, hpl, G.ht, htl, fun H1 qv us cs s1 hq hus hcn hcm hcl => ?_⟩
    have hlen := Paired.length hus
    have htx : ∀ c, c ≤ t.length → cutV (iv (tailsL al ps t t.length)) none (some (c : Int)) = iv (tailsL al ps (t.take c) (t.take c).length) := fun c hc => by
      rw [cut_to]
      have hl : (t.take c).length = c := by rw [List.length_take]; omega
      have e : (tailsL al ps t t.length).take c = tailsL al ps t c := by
        unfold tailsL
        rw [← List.map_take, List.take_range, Nat.min_eq_left hc]
      rw [e, hl, tailsL_take t (Nat.le_refl c)]
    refine ⟨_, rfl, qv, _, rfl, .inl (SqL.of hq), rfl, _, rfl, ?_⟩
    rw [hlen]
    by_cases c1 : cs.length = 1
    · rw [c1, decide_eq_true (show V.int ((1 : Nat) : Int) = V.int 1 from rfl)]
      obtain ⟨⟨b, p⟩, rfl⟩ := List.length_eq_one_iff.mp c1
      match us, hus with
      | [u], .cons ⟨z, ez, hz⟩ .nil =>
        subst ez
        have hcov := (hcm b p).mp (by simp)
        have hbt : b ≤ t.length := by have := hcov.1; omega
        refine iteT ⟨_, rfl, qv, _, _, _, rfl, rfl, SqL.of hq, rfl, z, _, rfl, SqT.of hz, rfl, _, _, rfl, _, _, rfl, rfl, ?_⟩
        refine ⟨_, rfl, st, CS, dx, _, _, rfl, fld s1, JS.cl, JS.s1, stF_1 _ _ _ _ _ _ _, _, rfl, st, CS, dx, _, _, rfl, fld s1, JS.cl, JS.s5, stF_5 _ _ _ _ _ _ _, _, rfl, _, rfl, tl, _, rfl, SqL.of (s1 _ _ G.tls), fun l hl => ?_⟩
        rw [htx b hbt]
        have s2 := Same.new (o := .lst (iv (tailsL al ps (t.take b) (t.take b).length))) s1 hl
        refine ⟨y, l, true, al, t.take b, ps, rfl, (G.jo.same G.sub).same s2, hprop, hnd, hal, hpl, take_mem G.ht, by rw [List.length_take]; omega, upd_same, fun H3 r s3 hr3 => ?_⟩
        have s13 := s2.trans s3
        refine ⟨_, rfl, by show 1 ≤ sizeLine; omega, fun z2 hz2 => ?_⟩
        have sz := Same.new (o := .tup [.int (p : Int)]) s13 hz2
        have hS := sure_one hnd hprop G.ht hcov fun b' p' h' => by
          have := (hcm b' p').mpr h'
          rw [List.mem_singleton] at this
          exact ⟨(Prod.mk.inj this).1, (Prod.mk.inj this).2⟩
        have hr4 := (same_new (o := .tup [.int (p : Int)]) hz2) _ _ hr3
        have hcl := cutL_len al.length ps (lets al (t.take b))
        have hll : (lets al (t.take b)).length ≤ t.length := by rw [lets, List.length_map, List.length_take]; omega
        refine ⟨r, z2, iv (CT al ps (t.take b)), iv [p], rfl, rfl, SqT.of hr4, SqT.of upd_same, by rw [iv_len, iv_len]; show (cutL al.length ps (lets al (t.take b))).length + 1 ≤ _; omega, fun e => ?_, fun _ e => ?_, fun _ _ z3 hz3 => ?_⟩
        · have : CT al ps (t.take b) = [] := by
            cases h : CT al ps (t.take b) with
            | nil => rfl
            | cons x r => rw [h] at e; cases e
          refine q _ z2 _ sz hS ?_
          rw [this, upd_same]; rfl
        · cases e
        · refine q _ z3 _ (Same.new sz hz3) hS ?_
          rw [upd_same]
          unfold iv; rw [List.map_append]
    · rw [decide_eq_false (fun e => c1 (by have e2 : ((cs.length : Nat) : Int) = 1 := by injection e
                                           omega))]
      refine iteF ⟨_, rfl, st, CS, dx, _, _, rfl, fld s1, JS.cl, JS.s1, stF_1 _ _ _ _ _ _ _, _, rfl, st, CS, dx, _, _, rfl, fld s1, JS.cl, JS.s5, stF_5 _ _ _ _ _ _ _, _, rfl, qv, rfl, ⟨_, SqL.of hq⟩, fun D hD => lc_it walk_list (fun i H' => Same H1 H' ∧ H' D = some (.lst (iv ((cs.take i).map Prod.fst)))) ⟨same_new hD, upd_same⟩ (fun i H' _ ⟨sa, _⟩ => SqL.of (sa _ _ hq)) ?_ ?_⟩
      · rintro i x Ha Hb hi ⟨sa, hDb⟩ ⟨rfl, hx⟩
        obtain ⟨⟨b, p⟩, hbp, z, rfl, hz⟩ := Paired.at hus hx
        refine ⟨z, _, rfl, SqT.of (sa _ _ hz), rfl, _, _, rfl, _, _, rfl, rfl, rfl, _, rfl, _, hDb, ?_, Same.put sa hD, ?_⟩
        · rw [iv_len, List.length_map, List.length_take]; omega
        · rw [upd_same, take_succ_of hbp, List.map_append, iv_snoc]; rfl
      · rintro Hb ⟨sa, hDb⟩
        have s2 := s1.trans sa
        have hfull : us.length = cs.length := hlen
        rw [hfull, List.take_length] at hDb
        have hB : ∀ b, b ∈ cs.map Prod.fst ↔ ∃ p, Cov al ps t b p := fun b => by
          rw [List.mem_map]
          constructor
          · rintro ⟨⟨b', p⟩, h, rfl⟩
            exact ⟨p, (hcm _ _).mp h⟩
          · rintro ⟨p, h⟩
            exact ⟨(b, p), (hcm b p).mpr h, rfl⟩
        refine ⟨y, tl, D, al, t, cs.map Prod.fst, ps, rfl, (G.jo.same G.sub).same s2, s2 _ _ G.tls, hDb, fun b hb => ?_, by rw [List.length_map]; omega, hprop, hnd, hal, hpl, G.ht, htl, fun H3 c s3 hct hc0 hcB => ?_⟩
        · obtain ⟨p, h⟩ := (hB b).mp hb
          have := h.1; omega
        · have s13 := s2.trans s3
          have hS : SureIs al ps t (CT al ps (t.take c)) := by
            by_cases hnil : cs = []
            · have hte : t = [] := by
                by_cases h : t = []
                · exact h
                · obtain ⟨b, p, h1, _⟩ := cov_ex hnd hprop G.ht (List.prefix_refl t) h
                  have := (hcm b p).mpr h1
                  rw [hnil] at this; exact absurd this List.not_mem_nil
              subst hte
              rw [List.take_nil, show CT al ps [] = [] from cut_nil _ _]
              exact sure_nil
            · obtain ⟨k1, k2⟩ := hcB (fun e => hnil (List.map_eq_nil_iff.mp e))
              match cs, hcn, c1, hnil, hcm, hB, k1, k2 with
              | [x], _, c1, _, _, _, _, _ => exact absurd rfl c1
              | (b1, p1) :: (b2, p2) :: r, hcn, _, _, hcm, hB, k1, k2 =>
                refine sure_more hnd hprop G.ht ((hcm b1 p1).mp (by simp)) ((hcm b2 p2).mp (by simp)) (fun e => ?_) hct (fun b p h => k1 b ((hB b).mpr ⟨p, h⟩)) fun c' h' => k2 c' fun b hb => ?_
                · rw [List.nodup_cons] at hcn
                  exact hcn.1 (by rw [e.1, e.2]; simp)
                · obtain ⟨p, h⟩ := (hB b).mp hb
                  exact h' b p h
          refine ⟨_, rfl, st, CS, dx, _, _, rfl, fld s13, JS.cl, JS.s1, stF_1 _ _ _ _ _ _ _, _, rfl, st, CS, dx, _, _, rfl, fld s13, JS.cl, JS.s5, stF_5 _ _ _ _ _ _ _, _, rfl, _, rfl, tl, _, rfl, SqL.of (s13 _ _ G.tls), fun l hl => ?_⟩
          rw [htx c hct]
          have s4 := Same.new (o := .lst (iv (tailsL al ps (t.take c) (t.take c).length))) s13 hl
          exact ⟨y, l, true, al, t.take c, ps, rfl, (G.jo.same G.sub).same s4, hprop, hnd, hal, hpl, take_mem G.ht, by rw [List.length_take]; omega, upd_same, fun H5 r s5 hr5 => q H5 r _ (s4.trans s5) hS hr5⟩
end
end RJ
end

section
set_option maxRecDepth 100000
set_option maxHeartbeats 4000000
namespace RJ
open PySem PySem.Spec PyProof.Rows L2
section
variable {P : Program} {w : World} {K : PySem.W.Frag} {mg : Str → Option Value} {base : Heap}
theorem ok_stold {f C CS : Addr} {fd : FuncData} (F : C8.Fun K "told" "Stream.told" s_Stream_told f fd) (T : Txt K mg) (JS : STxt K CS) : FnOk P w K mg base C8.CX0 1 f fd ["self"] (sp_told C CS) := by
  refine C8.fn0 F sc_Stream_told (fun vs H Q E h => ?_) (fun cdv A outer s H vs Q E hr h => ?_)
  · obtain ⟨Hs, st, tl, y, al, ps, t, n, m, rfl, _⟩ := h; rfl
  · obtain ⟨Hs, st, tl, y, al, ps, t, n, m, rfl, G, q⟩ := h
    refine ⟨_, (pss_one (ps_ret (pe_fld (pv 0) rfl))), ?_⟩
    obtain ⟨dx, mk, bg, Ms, g1, g2, g3, g4⟩ := id G.ob
    exact ⟨_, rfl, st, CS, dx, _, _, rfl, g1, JS.cl, JS.s6, stF_6 _ _ _ _ _ _ _, q⟩
theorem ok_waiting {f C CS : Addr} {fd : FuncData} (F : C8.Fun K "waiting" "Stream.waiting" s_Stream_waiting f fd) (T : Txt K mg) (JS : STxt K CS) : FnOk P w K mg base C8.CX0 1 f fd ["self"] (sp_waiting C CS) := by
  refine C8.fn0 F sc_Stream_waiting (fun vs H Q E h => ?_) (fun cdv A outer s H vs Q E hr h => ?_)
  · obtain ⟨Hs, st, tl, y, al, ps, t, n, m, rfl, _⟩ := h; rfl
  · obtain ⟨Hs, st, tl, y, al, ps, t, n, m, rfl, G, htl, q⟩ := h
    refine ⟨_, (pss_one (ps_ret (pe_slice sl_str (pe_fld (pv 0) rfl) (po_some (pe_fld (pv 0) rfl)) po_none))), ?_⟩
    obtain ⟨dx, mk, bg, Ms, g1, g2, g3, g4⟩ := id G.ob
    refine ⟨_, rfl, st, CS, dx, _, _, rfl, g1, JS.cl, JS.s4, stF_4 _ _ _ _ _ _ _, _, rfl, st, CS, dx, _, _, rfl, g1, JS.cl, JS.s7, stF_7 _ _ _ _ _ _ _, _, rfl, S t, rfl, by rw [S_len]; exact small_le (by omega), ?_⟩
    rw [cutS_from]
    exact q
theorem ok_sinit {f C CS : Addr} {fd : FuncData} (F : C8.Fun K "__init__" "Stream.__init__" s_Stream___init__ f fd) (T : Txt K mg) (JS : STxt K CS) (c_following_masks : C8.Cal P w K mg base 8 "following_masks" (sp_masks C) []) (c_pieces_by_beginning : C8.Cal P w K mg base 6 "pieces_by_beginning" (sp_begs C) []) (m_begin_anew : C8.Met P w K mg base 1 CS "begin_anew" (sp_anew CS) []) : FnOk P w K mg base C8.CX0 9 f fd ["self", "joins"] (sp_sinit C CS) := by
  refine C8.fn0 F sc_Stream___init__ (fun vs H Q E h => ?_) (fun cdv A outer s H vs Q E hr h => ?_)
  · obtain ⟨st, dx, y, al, ps, H0, rfl, _⟩ := h; rfl
  · obtain ⟨st, dx, y, al, ps, H0, rfl, hst, s0, hj, h0, ⟨hprop, hnd, h1, hal, hpl⟩, q⟩ := h
    refine ⟨_, (pss_cons (ps_fld (pv 0) (pv 1) rfl)
      (pss_cons (ps_fld (pv 0) (C8.pe_c c_following_masks hr (by first | decide | omega) (by rfl) (pa_cons (pv 1) pa_nil)) rfl)
      (pss_cons (ps_fld (pv 0) (C8.pe_c c_pieces_by_beginning hr (by first | decide | omega) (by rfl) (pa_cons (pv 1) pa_nil)) rfl)
      (pss_one (ps_expr (C8.pe_mt0 m_begin_anew hr (by first | decide | omega) (pv 0))))))), ?_⟩
    have nst : ∀ {x : Addr} {o : HO}, H0 x = some o → x ≠ st := fun e => ne_of_none e h0
    refine ⟨_, rfl, _, rfl, st, CS, dx, _, rfl, hst, JS.cl, JS.s1, by show 0 < 1000; decide, ?_⟩
    have sA : Same H0 (upd H st (.ins CS dx (putF "_joins" (.ref y) []))) := fun x o e => (upd_ne (nst e)).trans (s0 _ _ e)
    refine ⟨_, rfl, y, al, ps, rfl, hj.same sA, hprop, hal, hpl, fun H1 mk Ms s1 hmk hMs => ?_⟩
    have hst1 := s1 _ _ (upd_same (H := H) (a := st) (o := .ins CS dx (putF "_joins" (.ref y) [])))
    refine ⟨_, rfl, st, CS, dx, _, rfl, hst1, JS.cl, JS.s2, by show 1 < 1000; decide, ?_⟩
    have nmk : mk ≠ st := ne_of hmk hst1 (fun z => by cases z)
    have s1' : ∀ x o, x ≠ st → H x = some o → H1 x = some o := fun x o hx e => s1 _ _ ((upd_ne hx).trans e)
    have s01 : Same H0 (upd H1 st (.ins CS dx (putF "_masks" (.ref mk) (putF "_joins" (.ref y) [])))) := fun x o e => (upd_ne (nst e)).trans (s1' x o (nst e) (s0 _ _ e))
    refine ⟨_, rfl, y, al, ps, rfl, hj.same s01, hprop, hal, hpl, fun H2 bg Hn s2 sn hnew hbg => ?_⟩
    have hst2 := s2 _ _ (upd_same (H := H1) (a := st) (o := .ins CS dx (putF "_masks" (.ref mk) (putF "_joins" (.ref y) []))))
    refine ⟨_, rfl, st, CS, dx, _, rfl, hst2, JS.cl, JS.s3, by show 2 < 1000; decide, ?_⟩
    have s2' : ∀ x o, x ≠ st → H1 x = some o → H2 x = some o := fun x o hx e => s2 _ _ ((upd_ne hx).trans e)
    have hst3 : (upd H2 st (.ins CS dx (putF "_beginnings" (.ref bg) (putF "_masks" (.ref mk) (putF "_joins" (.ref y) []))))) st = some (.ins CS dx (stB y mk bg)) := upd_same
    have s3' : ∀ x o, x ≠ st → H2 x = some o → (upd H2 st (.ins CS dx (putF "_beginnings" (.ref bg) (putF "_masks" (.ref mk) (putF "_joins" (.ref y) []))))) x = some o := fun x o hx e => (upd_ne hx).trans e
    generalize upd H2 st (.ins CS dx (putF "_beginnings" (.ref bg) (putF "_masks" (.ref mk) (putF "_joins" (.ref y) [])))) = H3 at hst3 s3' ⊢
    refine ⟨_, rfl, st, dx, _, rfl, hst3, stB_no _ _ _ (by decide +kernel) (by decide +kernel) (by decide +kernel), st, dx, y, mk, bg, _, rfl, hst3, .inl rfl, fun H4 tl s4 htl hst4 htl4 hne => ?_⟩
    have hHtl : H tl = none := by
      cases e : H tl with
      | none => rfl
      | some o =>
        have := s3' tl o hne (s2' tl o hne (s1' tl o hne e))
        rw [htl] at this; cases this
    have nHnst : ∀ {x : Addr} {o : HO}, Hn x = some o → x ≠ st := fun {x o} e z => by
      have := hnew x o e
      rw [z, upd_same] at this; cases this
    have hnH : ∀ {x : Addr} {o : HO}, Hn x = some o → H x = none := fun {x o} e => by
      cases e2 : H x with
      | none => rfl
      | some o2 =>
        have k := hnew x o e
        rw [upd_ne (nHnst e), s1' x o2 (nHnst e) e2] at k; cases k
    have hn4 : ∀ {x : Addr} {o : HO}, Hn x = some o → H4 x = some o := fun e => s4 _ _ (nHnst e) (s3' _ _ (nHnst e) (sn _ _ e))
    have hmk4 : H4 mk = some (.tup (iv Ms)) := s4 _ _ nmk (s3' _ _ nmk (s2' _ _ nmk hmk))
    have h04 : Same H0 H4 := fun x o e => s4 _ _ (nst e) (s3' _ _ (nst e) (s2' _ _ (nst e) (s1' x o (nst e) (s0 _ _ e))))
    have ntl0 : H0 tl = none := by
      cases e : H0 tl with
      | none => rfl
      | some o => rw [s0 _ _ e] at hHtl; cases hHtl
    have ntlmk : tl ≠ mk := ne_of htl4 hmk4 (fun z => by cases z)
    have ntln : Hn tl = none := by
      cases e : Hn tl with
      | none => rfl
      | some o =>
        have := s3' _ _ (nHnst e) (sn _ _ e)
        rw [htl] at this; cases this
    refine q H4 tl (fun x => if (H0 x).isSome then H0 x else if (Hn x).isSome then Hn x else if x = mk then some (.tup (iv Ms)) else none) (fun x o hx e => s4 _ _ hx (s3' _ _ hx (s2' _ _ hx (s1' _ _ hx e)))) hHtl (fun x o e => ?_) (fun x o e => ?_) ⟨⟨fun x o e => ?_, hj.same fun x o e => ?_, ⟨dx, mk, bg, Ms, hst4, ?_, hMs, hbg.same fun x o e => ?_⟩, htl4, ?_, ?_, Ne.symm hne, fun c hc => absurd hc (by simp)⟩, sure_nil⟩
    · show (if (H0 x).isSome then H0 x else _) = _
      rw [e]; rfl
    · replace e : (if (H0 x).isSome then H0 x else if (Hn x).isSome then Hn x else if x = mk then some (.tup (iv Ms)) else none) = some o := e
      split at e
      · exact .inl e
      · split at e
        · exact .inr (.inl (hnH e))
        · split at e
          · cases e; exact .inr (.inr ⟨_, rfl⟩)
          · cases e
    · replace e : (if (H0 x).isSome then H0 x else if (Hn x).isSome then Hn x else if x = mk then some (.tup (iv Ms)) else none) = some o := e
      split at e
      · exact h04 _ _ e
      · split at e
        · exact hn4 e
        · split at e
          · rename_i h
            cases e; rw [h]; exact hmk4
          · cases e
    · show (if (H0 x).isSome then H0 x else _) = _
      rw [e]; rfl
    · show (if (H0 mk).isSome then H0 mk else if (Hn mk).isSome then Hn mk else if mk = mk then some (.tup (iv Ms)) else none) = _
      cases e : H0 mk with
      | some o => exact (h04 _ _ e).symm.trans hmk4
      | none =>
        cases e2 : Hn mk with
        | some o => exact (hn4 e2).symm.trans hmk4
        | none => rw [if_neg (by simp), if_neg (by simp), if_pos rfl]
    · show (if (H0 x).isSome then H0 x else if (Hn x).isSome then Hn x else _) = _
      cases e2 : H0 x with
      | some o2 =>
        have h1 := h04 _ _ e2
        rw [hn4 e] at h1
        show some o2 = some o
        exact h1.symm
      | none => rw [e]; rfl
    · show (if (H0 st).isSome then H0 st else if (Hn st).isSome then Hn st else if st = mk then some (.tup (iv Ms)) else none) = _
      rw [h0, if_neg (by simp)]
      cases e2 : Hn st with
      | some o => exact absurd rfl (nHnst e2)
      | none => rw [if_neg (by simp), if_neg (Ne.symm nmk)]
    · show (if (H0 tl).isSome then H0 tl else if (Hn tl).isSome then Hn tl else if tl = mk then some (.tup (iv Ms)) else none) = _
      rw [ntl0, ntln, if_neg (by simp), if_neg (by simp), if_neg ntlmk]
theorem ok_finish {f C CS : Addr} {fd : FuncData} (F : C8.Fun K "finish" "Stream.finish" s_Stream_finish f fd) (T : Txt K mg) (JS : STxt K CS) (c_chain : C8.Cal P w K mg base 6 "chain" (sp_chainU C) []) (m_begin_anew : C8.Met P w K mg base 1 CS "begin_anew" (sp_anew CS) []) : FnOk P w K mg base C8.CX0 7 f fd ["self"] (sp_finish C CS) := by
  refine C8.fn0 F sc_Stream_finish (fun vs H Q E h => ?_) (fun cdv A outer s H vs Q E hr h => ?_)
  · obtain ⟨Hs, st, tl, y, al, ps, t, R, rfl, _⟩ := h; rfl
  · obtain ⟨Hs, st, tl, y, al, ps, t, R, rfl, ⟨G, hS⟩, ⟨hprop, hnd, h1, hal, hpl⟩, htl, q⟩ := h
    refine ⟨_, (pss_cons (ps_set (i := 1) sc_Stream_finish.nd rfl (Or.inl rfl) (pe_slice sl_tupA (C8.pe_c c_chain hr (by first | decide | omega) (by rfl) (pa_cons (pe_fld (pv 0) rfl) (pa_cons (pe_fld (pv 0) rfl) pa_nil))) (po_some (pe_fld (pv 0) rfl)) po_none))
      (pss_cons (ps_expr (C8.pe_mt0 m_begin_anew hr (by first | decide | omega) (pv 0)))
      (pss_one (ps_ret (pv 1))))), ?_⟩
    obtain ⟨dx, mk, bg, Ms, g1, g2, g3, g4⟩ := id G.ob
    refine ⟨_, rfl, st, CS, dx, _, _, rfl, g1, JS.cl, JS.s1, stF_1 _ _ _ _ _ _ _, _, rfl, st, CS, dx, _, _, rfl, g1, JS.cl, JS.s5, stF_5 _ _ _ _ _ _ _, ?_⟩
    refine ⟨y, tl, true, al, t, ps, rfl, G.jo.same G.sub, hprop, hnd, hal, hpl, G.ht, htl, G.tls, fun H1 r s1 hr1 => ?_⟩
    refine ⟨_, rfl, st, CS, dx, _, _, rfl, s1 _ _ g1, JS.cl, JS.s6, stF_6 _ _ _ _ _ _ _, _, rfl, ?_⟩
    dsimp only [tNoPart]
    refine slT_from hr1 fun H2 r2 s2 hr2 => ?_
    have s12 := s1.trans s2
    have g1' := s12 _ _ g1
    refine ⟨_, rfl, st, dx, _, rfl, g1', stF_no _ _ _ _ _ _ _ (by decide +kernel) (by decide +kernel) (by decide +kernel) (by decide +kernel) (by decide +kernel) (by decide +kernel) (by decide +kernel), ?_⟩
    refine ⟨st, dx, y, mk, bg, _, rfl, g1', .inr ⟨tl, t, _, _, rfl⟩, fun H3 tl' s3 htl' hst3 htl3 hne => ?_⟩
    have fr : ∀ x o, x ≠ st → H x = some o → H3 x = some o := fun x o hx e => s3 _ _ hx (s12 _ _ e)
    have hHtl := s12.free htl'
    refine ⟨_, rfl, q H3 r2 tl' fr hHtl ⟨⟨fun x o e => fr x o (ne_of_none e G.n1) (G.sub _ _ e), G.jo, ⟨dx, mk, bg, Ms, hst3, g2, g3, g4⟩, htl3, G.n1, ?_, Ne.symm hne, fun c hc => absurd hc (by simp)⟩, sure_nil⟩ (s3 _ _ (ne_of hr2 g1' (fun z => by cases z)) hr2)⟩
    cases e : Hs tl' with
    | none => rfl
    | some o => rw [G.sub _ _ e] at hHtl; cases hHtl
theorem ok_feed {f C CS : Addr} {fd : FuncData} (F : C8.Fun K "feed" "Stream.feed" s_Stream_feed f fd) (T : Txt K mg) (JS : STxt K CS) (c_letters_of : C8.Cal P w K mg base 2 "letters_of" (sp_letters_of C) []) (c_next_tail : C8.Cal P w K mg base 2 "next_tail" (sp_next_tail C) []) (m_sure_row : C8.Met P w K mg base 7 CS "sure_row" (sp_sure C CS) []) (c_text_of_row : C8.Cal P w K mg base 6 "text_of_row" (sp_text_of_row C) []) : FnOk P w K mg base C8.CX0 8 f fd ["self", "text"] (sp_feed C CS) := by
  refine C8.fn0 F sc_Stream_feed (fun vs H Q E h => ?_) (fun cdv A outer s H vs Q E hr h => ?_)
  · obtain ⟨Hs, st, tl, y, al, ps, t, u, R, rfl, _⟩ := h; rfl
  · obtain ⟨Hs, st, tl, y, al, ps, t, u, R, rfl, ⟨G, hS⟩, ⟨hprop, hnd, h1, hal, hpl⟩, hu, hlen, q⟩ := h
    refine ⟨_, (pss_cons (ps_expr (C8.pe_c c_letters_of hr (by first | decide | omega) (by rfl) (pa_cons (pe_fld (pv 0) rfl) (pa_cons (pv 1) pa_nil))))
      (pss_cons (ps_for PassesOwn.never rfl (pi_str (pv 1)) (pg_name (i := 2) sc_Stream_feed.nd rfl (Or.inl rfl)) (pss_cons (ps_fld (pv 0) (pe_op op_add_str (pe_fld (pv 0) rfl) (pv 2)) rfl)
      (pss_one (ps_expr (pe_bm PySem.F.plainAttrs_list PySem.F.slot_list_append PySem.F.type_list_append mt_append (pe_fld (pv 0) rfl) (pa_cons (C8.pe_c c_next_tail hr (by first | decide | omega) (by rfl) (pa_cons (pe_fld (pv 0) rfl) (pa_cons (pe_fld (pv 0) rfl) (pa_cons (pe_fld (pv 0) rfl) (pa_cons (pe_fld (pv 0) rfl) pa_nil))))) pa_nil))))))
      (pss_cons (ps_set (i := 3) sc_Stream_feed.nd rfl (Or.inl rfl) (pe_slice sl_tupA (C8.pe_mt0 m_sure_row hr (by first | decide | omega) (pv 0)) (po_some (pe_fld (pv 0) rfl)) po_none))
      (pss_cons (ps_fldaug (pv 0) (pe_callB call_len_seq (by rfl) T.b_len PySem.boot_len (pa_cons (pv 3) pa_nil)) in_add)
      (pss_cons (ps_fldaug (pv 0) (pe_callB call_len_str (by rfl) T.b_len PySem.boot_len (pa_cons (C8.pe_c c_text_of_row hr (by first | decide | omega) (by rfl) (pa_cons (pe_fld (pv 0) rfl) (pa_cons (pv 3) pa_nil))) pa_nil)) in_add)
      (pss_one (ps_ret (pv 3)))))))), ?_⟩
    have hsz : sizeLine = 16777216 := sizeLine_eq
    obtain ⟨dx, mk, bg, Ms, g1, g2, g3, g4⟩ := id G.ob
    have nst : ∀ {x : Addr} {o : HO}, Hs x = some o → x ≠ st := fun e => ne_of_none e G.n1
    have ntl : ∀ {x : Addr} {o : HO}, Hs x = some o → x ≠ tl := fun e => ne_of_none e G.n2
    refine ⟨_, rfl, st, CS, dx, _, _, rfl, g1, JS.cl, JS.s1, stF_1 _ _ _ _ _ _ _, _, rfl, y, u, al, ps, rfl, G.jo.same G.sub, hu, by omega, fun H1 z s1 _ hz => ?_⟩
    refine ⟨_, rfl, S u, rfl, for_it walk_str (fun i σ H' => ∃ v2 : Option V, σ = [some (.ref st), some (.str (S u)), v2, none] ∧ PFr2 st tl H H' ∧ H' st = some (.ins CS dx (stF y mk bg tl (t ++ u.take i) ((R.length : Nat) : Int) (((textR (textsOf al ps) R).length : Nat) : Int))) ∧ H' tl = some (.lst (iv (tailsL al ps (t ++ u.take i) (t ++ u.take i).length))))
      ⟨none, rfl, fun x o _ _ e => s1 _ _ e, by rw [List.take_zero, List.append_nil]; exact s1 _ _ g1, by rw [List.take_zero, List.append_nil]; exact s1 _ _ G.tls⟩ (fun _ _ _ _ _ => trivial) ?_ ?_⟩
    · rintro i x σ Ha Hb hi ⟨v2, rfl, fr, hst, htl⟩ ⟨rfl, c, hc, rfl⟩
      rw [S_get] at hc
      have hci := List.mem_of_getElem? hc
      obtain ⟨W, hW⟩ : ∃ W, W = t ++ u.take i := ⟨_, rfl⟩
      have hWl : W.length ≤ t.length + u.length := by rw [hW, List.length_append, List.length_take]; omega
      have hWn : t ++ u.take (i + 1) = W ++ [c] := by rw [take_succ_of hc, hW, List.append_assoc]
      have hWa : ∀ x ∈ W ++ [c], x ∈ al := fun x hx => by
        rcases List.mem_append.mp hx with h | h
        · rw [hW] at h
          rcases List.mem_append.mp h with h | h
          · exact G.ht x h
          · exact hu x (List.mem_of_mem_take h)
        · rw [List.mem_singleton.mp h]; exact hu c hci
      have hW1 : (W ++ [c]).length ≤ 1000 := by
        have : i < u.length := by rw [S_size] at hi; exact hi
        rw [List.length_append, List.length_singleton, hW, List.length_append, List.length_take]; omega
      rw [hWn]
      rw [← hW] at hst htl
      refine ⟨_, rfl, st, CS, dx, _, _, rfl, hst, JS.cl, JS.s4, stF_4 _ _ _ _ _ _ _, _, rfl, _, _, rfl, rfl, ?_, ?_⟩
      · rw [List.length_append, List.length_singleton] at hW1
        rw [S_len]; exact small_le (show W.length + 1 ≤ 1000 by omega)
      rw [show (S W ++ (⟨#[c]⟩ : Str)) = S (W ++ [c]) from S_cat W [c]]
      refine ⟨_, rfl, st, CS, dx, _, rfl, hst, JS.cl, JS.s4, by show 7 < 1000; decide, ?_⟩
      have hst2 : (upd Hb st (.ins CS dx (putF "_read" (.str (S (W ++ [c]))) (stF y mk bg tl W ((R.length : Nat) : Int) (((textR (textsOf al ps) R).length : Nat) : Int))))) st = some (.ins CS dx (stF y mk bg tl (W ++ [c]) ((R.length : Nat) : Int) (((textR (textsOf al ps) R).length : Nat) : Int))) := upd_same
      have k2 : ∀ x o, x ≠ st → Hb x = some o → (upd Hb st (.ins CS dx (putF "_read" (.str (S (W ++ [c]))) (stF y mk bg tl W ((R.length : Nat) : Int) (((textR (textsOf al ps) R).length : Nat) : Int))))) x = some o := fun x o hx e => (upd_ne hx).trans e
      generalize upd Hb st (.ins CS dx (putF "_read" (.str (S (W ++ [c]))) (stF y mk bg tl W ((R.length : Nat) : Int) (((textR (textsOf al ps) R).length : Nat) : Int)))) = H2 at hst2 k2 ⊢
      have htl2 := k2 _ _ (Ne.symm G.ne) htl
      have sub2 : Same Hs H2 := fun x o e => k2 _ _ (nst e) (fr _ _ (nst e) (ntl e) (G.sub _ _ e))
      refine ⟨_, rfl, st, CS, dx, _, _, rfl, hst2, JS.cl, JS.s5, stF_5 _ _ _ _ _ _ _, .inl ⟨rfl, _, SqL.of htl2⟩, ?_⟩
      refine ⟨_, rfl, st, CS, dx, _, _, rfl, hst2, JS.cl, JS.s1, stF_1 _ _ _ _ _ _ _, _, rfl, st, CS, dx, _, _, rfl, hst2, JS.cl, JS.s2, stF_2 _ _ _ _ _ _ _, _, rfl, st, CS, dx, _, _, rfl, hst2, JS.cl, JS.s4, stF_4 _ _ _ _ _ _ _, _, rfl, st, CS, dx, _, _, rfl, hst2, JS.cl, JS.s5, stF_5 _ _ _ _ _ _ _, ?_⟩
      have hpre : tailsL al ps (W ++ [c]) W.length = tailsL al ps W W.length := by
        have := tailsL_take (al := al) (ps := ps) (W ++ [c]) (Nat.le_refl W.length)
        rw [List.take_left] at this; exact this.symm
      have hl1 : (W ++ [c]).length = W.length + 1 := by rw [List.length_append, List.length_singleton]
      refine ⟨y, mk, tl, al, W ++ [c], Ms, ps, rfl, G.jo.same sub2, hprop, hnd, hal, hpl, hWa, by simp, hW1, sub2 _ _ g2, g3, by rw [hl1, Nat.add_sub_cancel, hpre]; exact htl2, fun H3 s3 => ?_⟩
      refine ⟨tl, _, _, rfl, rfl, s3 _ _ htl2, by rw [iv_len, tailsL_len]; omega, ?_⟩
      refine ⟨_, rfl, fun x o hx1 hx2 e => (upd_ne hx2).trans (s3 _ _ (k2 _ _ hx1 (fr _ _ hx1 hx2 e))), (upd_ne G.ne).trans (s3 _ _ hst2), ?_⟩
      rw [upd_same, iv_snoc, hl1, tailsL_succ, hpre, show (W ++ [c]).take (W.length + 1) = W ++ [c] from List.take_of_length_le (by omega)]
    · rintro σ Hb ⟨v2, rfl, fr, hst, htl⟩
      rw [S_size, List.take_length] at hst htl
      have ht2 : ∀ c ∈ t ++ u, c ∈ al := fun c hc => (List.mem_append.mp hc).elim (G.ht c) (hu c)
      have sub2 : Same Hs Hb := fun x o e => fr _ _ (nst e) (ntl e) (G.sub _ _ e)
      have hle : (t ++ u).length ≤ 1000 := by rw [List.length_append]; omega
      have G2 : StrG C CS Hs Hb st tl y al ps (t ++ u) R.length (textR (textsOf al ps) R).length := ⟨sub2, G.jo, ⟨dx, mk, bg, Ms, hst, g2, g3, g4⟩, htl, G.n1, G.n2, G.ne, ht2⟩
      refine ⟨_, rfl, st, dx, _, rfl, hst, stF_no _ _ _ _ _ _ _ (by decide +kernel) (by decide +kernel) (by decide +kernel) (by decide +kernel) (by decide +kernel) (by decide +kernel) (by decide +kernel), Hs, st, tl, y, al, ps, t ++ u, _, _, rfl, G2, ⟨hprop, hnd, h1, hal, hpl⟩, hle, fun H3 q3 R' s3 hS' hq3 => ?_⟩
      refine ⟨_, rfl, st, CS, dx, _, _, rfl, s3 _ _ hst, JS.cl, JS.s6, stF_6 _ _ _ _ _ _ _, _, rfl, ?_⟩
      dsimp only [tNoPart]
      refine slT_from hq3 fun H4 r s4 hr4 => ?_
      have hpre : R <+: R' := hS.mono hS' (List.prefix_append _ _)
      have hcut := hS'.cut ht2
      have hlt : ∀ x ∈ R', x < al.length + ps.length := fun x hx => cut_lt ht2 x (hcut.subset hx)
      have hRl : R'.length ≤ 1000 := by
        have h1 := hcut.length_le
        have h2 := cutL_len al.length ps (lets al (t ++ u))
        have h3 : (lets al (t ++ u)).length = (t ++ u).length := by rw [lets, List.length_map]
        have h4 : (CT al ps (t ++ u)).length = (cutL al.length ps (lets al (t ++ u))).length := rfl
        omega
      have hdl : (R'.drop R.length).length ≤ R'.length := by rw [List.length_drop]; omega
      have s34 := s3.trans s4
      have hst4 := s34 _ _ hst
      have nr : r ≠ st := ne_of hr4 hst4 (fun z => by cases z)
      refine ⟨_, rfl, st, CS, dx, _, _, rfl, hst4, JS.cl, JS.s6, stF_6 _ _ _ _ _ _ _, _, rfl, r, _, rfl, .inr (SqT.of hr4), _, _, rfl, rfl, dx, _, hst4, by show 7 < 1000; decide, ?_⟩
      have e1 : ((R.length : Nat) : Int) + ((iv (R'.drop R.length)).length : Int) = ((R'.length : Nat) : Int) := by
        rw [iv_len, List.length_drop]
        have := hpre.length_le
        omega
      rw [e1]
      have hst5 : (upd H4 st (.ins CS dx (putF "_told" (.int ((R'.length : Nat) : Int)) (stF y mk bg tl (t ++ u) ((R.length : Nat) : Int) (((textR (textsOf al ps) R).length : Nat) : Int))))) st = some (.ins CS dx (stF y mk bg tl (t ++ u) ((R'.length : Nat) : Int) (((textR (textsOf al ps) R).length : Nat) : Int))) := upd_same
      have k5 : ∀ x o, x ≠ st → H4 x = some o → (upd H4 st (.ins CS dx (putF "_told" (.int ((R'.length : Nat) : Int)) (stF y mk bg tl (t ++ u) ((R.length : Nat) : Int) (((textR (textsOf al ps) R).length : Nat) : Int))))) x = some o := fun x o hx e => (upd_ne hx).trans e
      generalize upd H4 st (.ins CS dx (putF "_told" (.int ((R'.length : Nat) : Int)) (stF y mk bg tl (t ++ u) ((R.length : Nat) : Int) (((textR (textsOf al ps) R).length : Nat) : Int)))) = H5 at hst5 k5 ⊢
      have sub5 : Same Hs H5 := fun x o e => k5 _ _ (nst e) (s34 _ _ (sub2 _ _ e))
      have hr5 := k5 _ _ nr hr4
      refine ⟨_, rfl, st, CS, dx, _, _, rfl, hst5, JS.cl, JS.s7, stF_7 _ _ _ _ _ _ _, _, rfl, st, CS, dx, _, _, rfl, hst5, JS.cl, JS.s1, stF_1 _ _ _ _ _ _ _, _, rfl, ?_⟩
      refine ⟨y, r, false, R'.drop R.length, al, ps, rfl, G.jo.same sub5, hprop, hr5, fun i hi => hlt i (List.mem_of_mem_drop hi), by omega, fun H6 s6 => ?_⟩
      have hsh : (textR (textsOf al ps) (R'.drop R.length)).length ≤ 40000 := by
        have h3 : ∀ row : List Nat, (textR (textsOf al ps) row).length ≤ 40 * row.length := by
          intro row
          induction row with
          | nil => exact Nat.le_refl _
          | cons a row ih =>
            have h4 : ((textsOf al ps).getD a []).length ≤ 40 := getD_short hprop.short a
            rw [textR_cons, List.length_append, List.length_cons]; omega
        have := h3 (R'.drop R.length)
        omega
      refine ⟨S (textR (textsOf al ps) (R'.drop R.length)), rfl, by rw [S_len]; omega, _, _, rfl, rfl, dx, _, s6 _ _ hst5, by show 7 < 1000; decide, ?_⟩
      have e2 : (((textR (textsOf al ps) R).length : Nat) : Int) + ((S (textR (textsOf al ps) (R'.drop R.length))).length : Int) = (((textR (textsOf al ps) R').length : Nat) : Int) := by
        obtain ⟨R2, rfl⟩ := hpre
        rw [S_len, List.drop_left, textR_app, List.length_append]; omega
      rw [e2]
      refine ⟨_, rfl, q _ r R' (fun x o hx1 hx2 e => ?_) ⟨⟨fun x o e => (upd_ne (nst e)).trans (s6 _ _ (sub5 _ _ e)), G.jo, ⟨dx, mk, bg, Ms, upd_same, g2, g3, g4⟩, (upd_ne (Ne.symm G.ne)).trans (s6 _ _ (k5 _ _ (Ne.symm G.ne) (s34 _ _ htl))), G.n1, G.n2, G.ne, ht2⟩, hS'⟩ hpre ((upd_ne nr).trans (s6 _ _ hr5))⟩
      exact (upd_ne hx1).trans (s6 _ _ (k5 _ _ hx1 (s34 _ _ (fr _ _ hx1 hx2 e))))
end
end RJ
end

section
set_option maxRecDepth 100000
set_option maxHeartbeats 4000000
namespace RJ
open PySem PySem.Spec PyProof.Rows L2
abbrev s__law_fed : Stmt := top 60
abbrev N__law_fed : List Str := ["stream", "text", "told", "due", "more"]
theorem sc__law_fed : FnScope N__law_fed ["stream", "text", "told", "due"] (C8.fnScope s__law_fed) := C8.fnScope_by (by decide +kernel)
abbrev s__law_waits : Stmt := top 61
abbrev N__law_waits : List Str := ["stream", "texts", "told", "text", "many", "piece"]
theorem sc__law_waits : FnScope N__law_waits ["stream", "texts", "told", "text"] (C8.fnScope s__law_waits) := C8.fnScope_by (by decide +kernel)
theorem JoinsAt.minus {C y p : Addr} {H : Hp} {al : List Nat} {ps : List (Nat × Nat)} (h : JoinsAt C H y al ps) (hp : PoolAt p H) (hal : 0 < al.length) : JoinsAt C (fun x => if x = p then none else H x) y al ps := by
  obtain ⟨dx, u, tx, d, e, ws, h1, h2, h3, h4, h5, h6⟩ := h
  obtain ⟨ns, e1, _⟩ := hp
  have k : ∀ {x : Addr} {o : HO}, x ≠ p → H x = some o → (fun x => if x = p then none else H x) x = some o := fun hx e => by
    show (if _ = p then none else H _) = _
    rw [if_neg hx]; exact e
  refine ⟨dx, u, tx, d, e, ws, k (ne_of h1 e1 (fun z => by cases z)) h1, k (ne_of h2 e1 (fun z => by cases z)) h2, h3.same fun x xs e => k (ne_of e e1 (fun z => by cases z)) e, k ?_ h4, k (ne_of h5 e1 (fun z => by cases z)) h5, k (ne_of h6 e1 (fun z => by cases z)) h6⟩
  rintro rfl
  rw [e1] at h4
  have hT : 0 < (textsOf al ps).length := by rw [textsOf_len]; omega
  cases hts : textsOf al ps with
  | nil => rw [hts] at hT; exact absurd hT (Nat.lt_irrefl _)
  | cons a b =>
    rw [hts] at h4
    have e2 : iv ns = strV (a :: b) := by injection h4 with h; injection h
    cases ns with
    | nil => cases e2
    | cons n ns =>
      have e3 : V.int (n : Int) = V.str (S a) := (List.cons.inj e2).1
      cases e3
theorem minus_sub {p : Addr} {H : Hp} : Same (fun x => if x = p then none else H x) H := fun x o e => by
  replace e : (if x = p then none else H x) = some o := e
  split at e
  · cases e
  · exact e
theorem minus_none {p : Addr} {H : Hp} : (fun x => if x = p then none else H x) p = none := by
  show (if p = p then none else H p) = _
  rw [if_pos rfl]
theorem minus_free {p x : Addr} {H : Hp} (h : H x = none) : (fun x => if x = p then none else H x) x = none := by
  show (if x = p then none else H x) = _
  rw [h]; split <;> rfl
/-- all as it was but these -/
def PFr3 (st tl to : Addr) (H H' : Hp) : Prop := ∀ x o, x ≠ st → x ≠ tl → x ≠ to → H x = some o → H' x = some o
def sp_fed (C CS : Addr) : Sp := fun vs H Q _ => ∃ (Hs : Hp) (st tl y to du : Addr) (al : List Nat) (ps : List (Nat × Nat)) (t u R : List Nat), vs = [.ref st, .str (S u), .ref to, .ref du] ∧ StrAt C CS Hs H st tl y al ps t R ∧ H to = some (.lst (iv R)) ∧ H du = some (.lst (iv (CT al ps (t ++ u)))) ∧ Hs to = none ∧ to ≠ st ∧ to ≠ tl ∧ du ≠ to ∧ du ≠ tl ∧ Lim al ps ∧ (∀ c ∈ u, c ∈ al) ∧ t.length + u.length ≤ 1000 ∧
  ∀ H' R', PFr3 st tl to H H' → StrAt C CS Hs H' st tl y al ps (t ++ u) R' → R <+: R' → H' to = some (.lst (iv R')) → Q (.bl true) H'
def sp_waits (C CS : Addr) : Sp := fun vs H Q _ => ∃ (Hs : Hp) (st tl y to tx : Addr) (al : List Nat) (ps : List (Nat × Nat)) (t R : List Nat), vs = [.ref st, .ref tx, .ref to, .str (S t)] ∧ StrAt C CS Hs H st tl y al ps t R ∧ H to = some (.lst (iv R)) ∧ H tx = some (.lst (strV (textsOf al ps))) ∧ Lim al ps ∧ t.length ≤ 1000 ∧
  ∀ H', Same H H' → Q (.bl true) H'
def sp_begun (C CS : Addr) : Sp := fun vs H Q _ => ∃ (Hs : Hp) (st tl y : Addr) (al : List Nat) (ps : List (Nat × Nat)), vs = [.ref st] ∧ StrAt C CS Hs H st tl y al ps [] [] ∧ ∀ H', Same H H' → Q (.bl true) H'
def sp_following : Sp := fun vs H Q _ => ∃ (p tx : Addr) (al t : List Nat) (ps : List (Nat × Nat)), vs = [.ref p, .str (S al), .ref tx, .str (S t)] ∧ PoolAt p H ∧ H tx = some (.lst (strV (textsOf al ps))) ∧ tx ≠ p ∧ Proper al ps ∧ 1 ≤ al.length ∧ al.length ≤ 30 ∧ ps.length ≤ 100 ∧ t.length ≤ 100 ∧
  ∀ H' m, PSame p H H' → (∀ c ∈ m, c ∈ al) → m.length ≤ 40 → Q (.str (S m)) H'
theorem sum_lens (ts : List (List Nat)) : ∀ R : List Nat, ((R.map fun x => (ts.getD x []).length).map fun (n : Nat) => (n : Int)).sum = ((textR ts R).length : Int)
  | [] => rfl
  | a :: R => by
    rw [List.map_cons, List.map_cons, List.sum_cons, sum_lens ts R, textR_cons, List.length_append]; omega
theorem told_len {al : List Nat} {ps : List (Nat × Nat)} {t R : List Nat} (h : SureIs al ps t R) (ht : ∀ c ∈ t, c ∈ al) : R.length ≤ t.length ∧ (∀ x ∈ R, x < al.length + ps.length) ∧ (CT al ps t).take R.length = R ∧ (CT al ps t).length ≤ t.length := by
  have hcut := h.cut ht
  have h2 := cutL_len al.length ps (lets al t)
  have h3 : (lets al t).length = t.length := by rw [lets, List.length_map]
  have h4 : (CT al ps t).length = (cutL al.length ps (lets al t)).length := rfl
  have h1 := hcut.length_le
  exact ⟨by omega, fun x hx => cut_lt ht x (hcut.subset hx), (List.prefix_iff_eq_take.mp hcut).symm, by omega⟩
section
variable {P : Program} {w : World} {K : PySem.W.Frag} {mg : Str → Option Value} {base : Heap}
theorem ok_fed {f C CS : Addr} {fd : FuncData} (F : C8.Fun K "_law_fed" "_law_fed" s__law_fed f fd) (T : Txt K mg) (JS : STxt K CS) (m_feed : C8.Met P w K mg base 8 CS "feed" (sp_feed C CS) []) (p_told : PrpC P w K mg base 1 CS "told" (sp_told C CS)) (c__law_same : C8.Cal P w K mg base 2 "_law_same" (sp_same 1) []) : FnOk P w K mg base C8.CX0 9 f fd ["stream", "text", "told", "due"] (sp_fed C CS) := by
  refine C8.fn0 F sc__law_fed (fun vs H Q E h => ?_) (fun cdv A outer s H vs Q E hr h => ?_)
  · obtain ⟨Hs, st, tl, y, to, du, al, ps, t, u, R, rfl, _⟩ := h; rfl
  · obtain ⟨Hs, st, tl, y, to, du, al, ps, t, u, R, rfl, hSA, hto, hdu, hsto, n1, n2, n3, n4, hL, hu, hlen, q⟩ := h
    have hsz : sizeLine = 16777216 := sizeLine_eq
    refine ⟨_, (pss_cons (ps_set (i := 4) sc__law_fed.nd rfl (Or.inl rfl) (C8.pe_mt m_feed hr (by first | decide | omega) (pv 0) (pa_cons (pv 1) pa_nil)))
      (pss_cons (ps_if (pt_not (pt_val (pe_callB call_isi (by rfl) T.b_isinstance (by decide +kernel) (pa_cons (pv 4) (pa_cons (pe_bltn (v := .ty "tuple") (u := .type "tuple") rfl T.b_tuple (by decide +kernel) rfl) pa_nil))))) (pss_one (ps_ret pe_bl)) pss_nil)
      (pss_cons (ps_expr (pe_bm PySem.F.plainAttrs_list PySem.F.slot_list_extend PySem.F.type_list_extend mt_extendT (pv 2) (pa_cons (pv 4) pa_nil)))
      (pss_one (ps_ret (pe_and (C8.pe_c c__law_same hr (by first | decide | omega) (by rfl) (pa_cons (pe_prp p_told hr (by first | decide | omega) (pv 0)) (pa_cons (pe_callB call_len_seq (by rfl) T.b_len PySem.boot_len (pa_cons (pv 2) pa_nil)) pa_nil))) (pe_one (C8.pe_c c__law_same hr (by first | decide | omega) (by rfl) (pa_cons (pe_tupleOf (by rfl) T.b_tuple (pv 2)) (pa_cons (pe_tupleOf (by rfl) T.b_tuple (pe_slice sl_list (pv 3) po_none (po_some (pe_callB call_len_seq (by rfl) T.b_len PySem.boot_len (pa_cons (pv 2) pa_nil))))) pa_nil)))))))))), ?_⟩
    obtain ⟨dx, mk, bg, Ms, g1, _⟩ := id hSA.1.ob
    refine ⟨_, rfl, st, dx, _, rfl, g1, stF_no _ _ _ _ _ _ _ (by decide +kernel) (by decide +kernel) (by decide +kernel) (by decide +kernel) (by decide +kernel) (by decide +kernel) (by decide +kernel), _, rfl, Hs, st, tl, y, al, ps, t, u, R, rfl, hSA, hL, hu, hlen, fun H1 q1 R' fr hS1 hpre hq1 => ?_⟩
    have hto1 := fr _ _ n1 n2 hto
    have ndst : du ≠ st := ne_of hdu g1 (fun z => by cases z)
    have hdu1 := fr _ _ ndst n4 hdu
    have ht2 := hS1.1.ht
    obtain ⟨k1, k2, k3, k4⟩ := told_len hS1.2 ht2
    have hl2 : (t ++ u).length ≤ 1000 := by rw [List.length_append]; omega
    have hdl : (R'.drop R.length).length ≤ R'.length := by rw [List.length_drop]; omega
    have hRR := hpre.length_le
    refine ⟨_, rfl, _, .ty "tuple", .type "tuple", .type "tuple", true, rfl, .ty _, .base (.tup hq1), kit_ty (by decide +kernel), _, rfl, iteF ?_⟩
    refine ⟨_, rfl, .inl ⟨rfl, _, SqL.of hto1⟩, _, rfl, to, q1, _, _, rfl, rfl, hto1, SqT.of hq1, by rw [iv_len, iv_len]; omega, ?_⟩
    have e1 : iv R ++ iv (R'.drop R.length) = iv R' := by
      obtain ⟨R2, rfl⟩ := hpre
      rw [List.drop_left]; unfold iv; rw [List.map_append]
    rw [e1]
    have nq1 : q1 ≠ to := ne_of hq1 hto1 (fun z => by cases z)
    have hto2 : (upd H1 to (.lst (iv R'))) to = some (.lst (iv R')) := upd_same
    have k5 : ∀ x o, x ≠ to → H1 x = some o → (upd H1 to (.lst (iv R'))) x = some o := fun x o hx e => (upd_ne hx).trans e
    generalize upd H1 to (.lst (iv R')) = H2 at hto2 k5 ⊢
    have G2 : StrG C CS Hs H2 st tl y al ps (t ++ u) R'.length (textR (textsOf al ps) R').length := hS1.1.keep (fun x o e => k5 _ _ (ne_of_none e hsto) (hS1.1.sub _ _ e)) (fun o e => k5 _ _ (Ne.symm n1) e) (fun o e => k5 _ _ (Ne.symm n2) e)
    obtain ⟨dx2, mk2, bg2, Ms2, j1, _⟩ := id G2.ob
    have hdu2 := k5 _ _ n3 hdu1
    refine ⟨_, rfl, st, dx2, _, rfl, j1, Hs, st, tl, y, al, ps, t ++ u, _, _, rfl, G2, ?_⟩
    refine ⟨_, rfl, to, _, rfl, .inl (SqL.of hto2), ?_⟩
    rw [iv_len]
    refine ⟨.int ((R'.length : Nat) : Int), .int ((R'.length : Nat) : Int), rfl, SameD.flat rfl 1, fun H3 s3 => ⟨true, rfl, ?_⟩⟩
    refine iteT ⟨_, rfl, .inl ⟨to, _, rfl, SqL.of (s3 _ _ hto2), fun z1 hz1 => ?_⟩⟩
    have s4 := Same.new (o := .tup (iv R')) s3 hz1
    have hz1' : (upd H3 z1 (.tup (iv R'))) z1 = some (.tup (iv R')) := upd_same
    generalize upd H3 z1 (.tup (iv R')) = H4 at s4 hz1' ⊢
    refine ⟨_, rfl, _, rfl, to, _, rfl, .inl (SqL.of (s4 _ _ hto2)), ?_⟩
    rw [iv_len]
    refine ⟨_, rfl, du, _, rfl, SqL.of (s4 _ _ hdu2), fun l hl => ?_⟩
    rw [cut_to, k3]
    have s5 := Same.new (o := .lst (iv R')) s4 hl
    refine .inl ⟨l, _, rfl, SqL.of upd_same, fun z2 hz2 => ?_⟩
    have s6 := Same.new (o := .tup (iv R')) s5 hz2
    have hz1'' := (same_new (o := .tup (iv R')) hz2) _ _ ((same_new (o := .lst (iv R')) hl) _ _ hz1')
    refine ⟨.ref z1, .ref z2, rfl, SameD.row (l := R') hz1'' upd_same (by omega), fun H7 s7 => ?_⟩
    have s27 := s6.trans s7
    exact q H7 R' (fun x o h1 h2 h3 e => s27 _ _ (k5 _ _ h3 (fr _ _ h1 h2 e))) ⟨G2.same s27, hS1.2⟩ hpre (s27 _ _ hto2)
theorem ok_waits {f C CS : Addr} {fd : FuncData} (F : C8.Fun K "_law_waits" "_law_waits" s__law_waits f fd) (T : Txt K mg) (JS : STxt K CS) (p_waiting : PrpC P w K mg base 1 CS "waiting" (sp_waiting C CS)) (c__law_same : C8.Cal P w K mg base 2 "_law_same" (sp_same 1) []) : FnOk P w K mg base C8.CX0 3 f fd ["stream", "texts", "told", "text"] (sp_waits C CS) := by
  refine C8.fn0 F sc__law_waits (fun vs H Q E h => ?_) (fun cdv A outer s H vs Q E hr h => ?_)
  · obtain ⟨Hs, st, tl, y, to, tx, al, ps, t, R, rfl, _⟩ := h; rfl
  · obtain ⟨Hs, st, tl, y, to, tx, al, ps, t, R, rfl, ⟨G, hS⟩, hto, htx, ⟨hprop, hnd, h1, hal, hpl⟩, hlen, q⟩ := h
    have hsz : sizeLine = 16777216 := sizeLine_eq
    obtain ⟨k1, k2, k3, k4⟩ := told_len hS G.ht
    refine ⟨_, (pss_cons (ps_set (i := 4) sc__law_waits.nd rfl (Or.inl rfl) (pe_callB (cr_sum rfl) (by rfl) T.b_sum (by decide +kernel) (pa_cons (pe_lc (own := [("piece", 5)]) (g := gName 5) (tt := tYes) rfl sc__law_waits.nd (pi_list (pv 2)) (blkOk_by (N := N__law_waits) (sc := C8.fnScope s__law_waits) (by decide +kernel)) (fun _ _ _ _ _ => (pg_name (i := 5) sc__law_waits.nd rfl (Or.inl rfl))) (fun _ _ _ _ _ => pts_nil) (fun _ _ _ _ _ => (pe_callB call_len_str (by rfl) T.b_len PySem.boot_len (pa_cons (pe_ix (ix_listK (K := K) rfl) (pv 1) (pv 5) (fun _ _ => rfl)) pa_nil)))) pa_nil)))
      (pss_one (ps_ret (C8.pe_c c__law_same hr (by first | decide | omega) (by rfl) (pa_cons (pe_prp p_waiting hr (by first | decide | omega) (pv 0)) (pa_cons (pe_slice sl_str (pv 3) (po_some (pv 4)) po_none) pa_nil)))))), ?_⟩
    refine ⟨_, rfl, to, rfl, ⟨_, SqL.of hto⟩, fun D hD => lc_it walk_list (fun i H' => Same H H' ∧ H' D = some (.lst (iv ((R.take i).map fun x => ((textsOf al ps).getD x []).length)))) ⟨same_new hD, upd_same⟩ (fun i H' _ ⟨sa, _⟩ => SqL.of (sa _ _ hto)) ?_ ?_⟩
    · rintro i x Ha Hb hi ⟨sa, hDb⟩ ⟨rfl, hx⟩
      obtain ⟨n, hn, rfl⟩ := iv_get hx
      have hn' := k2 n (List.mem_of_getElem? hn)
      have h40 : ((textsOf al ps).getD n []).length ≤ 40 := getD_short hprop.short n
      refine ⟨rfl, _, rfl, _, rfl, tx, _, _, _, rfl, rfl, SqL.of (sa _ _ htx), atI_nat (strV_at (by rw [textsOf_len]; exact hn')), S ((textsOf al ps).getD n []), rfl, by rw [S_len]; omega, _, hDb, ?_, Same.put sa hD, ?_⟩
      · rw [iv_len, List.length_map, List.length_take]; omega
      · rw [upd_same, map_take_succ hn, S_len, iv_snoc]
    · rintro Hb ⟨sa, hDb⟩
      rw [iv_len, List.take_length] at hDb
      refine ⟨D, (R.map fun x => ((textsOf al ps).getD x []).length).map fun (n : Nat) => (n : Int), rfl, SqL.of (by rw [List.map_map]; exact hDb), ?_⟩
      rw [sum_lens]
      obtain ⟨dx, mk, bg, Ms, g1, _⟩ := id G.ob
      refine ⟨_, rfl, st, dx, _, rfl, sa _ _ g1, Hs, st, tl, y, al, ps, t, _, _, rfl, G.same sa, hlen, ?_⟩
      refine ⟨_, rfl, _, rfl, _, rfl, S t, rfl, by rw [S_len]; exact small_le (by omega), ?_⟩
      rw [cutS_from]
      exact ⟨_, _, rfl, SameD.flat rfl 1, fun H2 s2 => q H2 (sa.trans s2)⟩
end
end RJ
end

section
set_option maxRecDepth 100000
set_option maxHeartbeats 16000000
namespace RJ
open PySem PySem.Spec PyProof.Rows L2
theorem cutS_mid2 (l : List Nat) (a b : Nat) : cutS (S l) (some (a : Int)) (some (b : Int)) = S ((l.drop a).take (b - a)) := by
  show (⟨(((S l).cps.toList.drop (HT.sIx (S l).length 0 (some (a : Int)))).take (HT.sIx (S l).length (S l).length (some (b : Int)) - HT.sIx (S l).length 0 (some (a : Int)))).toArray⟩ : Str) = ⟨((l.drop a).take (b - a)).toArray⟩
  rw [HT.sIx_nat, HT.sIx_nat, S_len]
  have e : (l.drop (min a l.length)).take (min b l.length - min a l.length) = (l.drop a).take (b - a) := by
    by_cases c : a ≤ l.length
    · rw [Nat.min_eq_left c]
      by_cases d : b ≤ l.length
      · rw [Nat.min_eq_left d]
      · rw [Nat.min_eq_right (by omega), List.take_of_length_le (by rw [List.length_drop]; omega), List.take_of_length_le (by rw [List.length_drop]; omega)]
    · rw [Nat.min_eq_right (by omega : l.length ≤ a), List.drop_eq_nil_of_le (by omega : l.length ≤ a), List.drop_length, List.take_nil, List.take_nil]
  exact congrArg (fun z : List Nat => (⟨z.toArray⟩ : Str)) e
theorem mkStream {C CS y st dx : Addr} {al : List Nat} {ps : List (Nat × Nat)} {H0 Hc : Hp} {Q : VK} {E : XK} (hj : JoinsAt C H0 y al ps) (s0 : Same H0 Hc) (hL : Lim al ps) (npg : Hc st = none) (nd : Hc dx = none)
    (q : ∀ Hd tl Hs, Same Hc Hd → Hc tl = none → Same H0 Hs → (∀ x o, Hs x = some o → H0 x = some o ∨ Hc x = none ∨ ∃ xs, o = .tup xs) → StrAt C CS Hs Hd st tl y al ps [] [] → Q .non Hd) : sp_sinit C CS [.ref st, .ref y] (upd (upd Hc dx (.own st)) st (.ins CS dx [])) Q E := by
  have sM : Same Hc (upd (upd Hc dx (.own st)) st (.ins CS dx [])) := fun b o e => by
    rw [upd_ne (ne_of_none e npg), upd_ne (ne_of_none e nd)]; exact e
  refine ⟨st, dx, y, al, ps, H0, rfl, upd_same, s0.trans sM, hj, ?_, hL, fun H' tl Hs fr htl sh hn hS => ?_⟩
  · cases e : H0 st with
    | none => rfl
    | some o => rw [s0 _ _ e] at npg; cases npg
  · refine q H' tl Hs (fun x o e => fr x o (ne_of_none e npg) (sM x o e)) (sM.free htl) sh (fun x o e => ?_) hS
    rcases hn x o e with h | h | h
    · exact .inl h
    · exact .inr (.inl (sM.free h))
    · exact .inr (.inr h)
theorem hs_free {H0 Hc Hd Hs : Hp} {z : Addr} {o : HO} (hn : ∀ x o, Hs x = some o → H0 x = some o ∨ Hc x = none ∨ ∃ xs, o = .tup xs) (sub : Same Hs Hd) (h0 : H0 z = none) (hz : Hc z = some o) (hd : Hd z = some o) (no : ∀ xs, o ≠ .tup xs) : Hs z = none := by
  cases e : Hs z with
  | none => rfl
  | some o2 =>
    rcases hn z o2 e with h | h | ⟨xs, h⟩
    · rw [h0] at h; cases h
    · rw [hz] at h; cases h
    · have := sub _ _ e
      rw [hd] at this
      exact absurd ((Option.some.inj this).trans h) (no xs)
/-- a stream, what it has told, and the pool -/
structure Inv25 (C CS : Addr) (Hs H5 H : Hp) (p st tl to y : Addr) (al : List Nat) (ps : List (Nat × Nat)) (t R : List Nat) : Prop where
  pq : PSame p H5 H
  sa : StrAt C CS Hs H st tl y al ps t R
  ht : H to = some (.lst (iv R))
  sp : Hs p = none
  so : Hs to = none
  n1 : to ≠ st
  n2 : to ≠ tl
  n3 : p ≠ st
  n4 : p ≠ tl
  n5 : to ≠ p
  f1 : H5 st = none
  f2 : H5 tl = none
  f3 : H5 to = none
section
variable {C CS : Addr} {Hs H5 H H' : Hp} {p st tl to y : Addr} {al : List Nat} {ps : List (Nat × Nat)} {t R : List Nat}
theorem Inv25.psame (I : Inv25 C CS Hs H5 H p st tl to y al ps t R) (s : PSame p H H') : Inv25 C CS Hs H5 H' p st tl to y al ps t R :=
  ⟨I.pq.trans s, ⟨I.sa.1.keep (fun x o e => s.x _ _ (ne_of_none e I.sp) (I.sa.1.sub _ _ e)) (fun o e => s.x _ _ (Ne.symm I.n3) e) (fun o e => s.x _ _ (Ne.symm I.n4) e), I.sa.2⟩, s.x _ _ I.n5 I.ht, I.sp, I.so, I.n1, I.n2, I.n3, I.n4, I.n5, I.f1, I.f2, I.f3⟩
theorem Inv25.same (I : Inv25 C CS Hs H5 H p st tl to y al ps t R) (s : Same H H') : Inv25 C CS Hs H5 H' p st tl to y al ps t R := I.psame (PSame.of I.pq.at1 s)
theorem Inv25.fed {t' R' : List Nat} (I : Inv25 C CS Hs H5 H p st tl to y al ps t R) (fr : PFr3 st tl to H H') (sa : StrAt C CS Hs H' st tl y al ps t' R') (ht : H' to = some (.lst (iv R'))) : Inv25 C CS Hs H5 H' p st tl to y al ps t' R' := by
  refine ⟨⟨fun b o hb e => fr _ _ (ne_of_none e I.f1) (ne_of_none e I.f2) (ne_of_none e I.f3) (I.pq.x _ _ hb e), I.pq.at0, ?_⟩, sa, ht, I.sp, I.so, I.n1, I.n2, I.n3, I.n4, I.n5, I.f1, I.f2, I.f3⟩
  obtain ⟨ns, e1, e2⟩ := I.pq.at1
  exact ⟨ns, fr _ _ I.n3 I.n4 (Ne.symm I.n5) e1, e2⟩
end
end RJ
end

section
set_option maxRecDepth 100000
set_option maxHeartbeats 4000000
namespace RJ
open PySem PySem.Spec PyProof.Rows L2
def pair2 {α : Type} (o : Nat) (x y : α) : List α := if o = 0 then [x, y] else [y, x]
theorem nd_ne {l : List Addr} (h : l.Nodup) {i j : Nat} {x y : Addr} (hx : l[i]? = some x) (hy : l[j]? = some y) (hij : i ≠ j) : x ≠ y := by
  rintro rfl
  obtain ⟨h1, e1⟩ := List.getElem?_eq_some_iff.mp hx
  obtain ⟨h2, e2⟩ := List.getElem?_eq_some_iff.mp hy
  rcases Nat.lt_or_gt_of_ne hij with c | c
  · exact List.pairwise_iff_getElem.mp h i j h1 h2 c (e1.trans e2.symm)
  · exact List.pairwise_iff_getElem.mp h j i h2 h1 c (e2.trans e1.symm)
theorem pair2_swap {α : Type} {o : Nat} (h : o < 2) (x y : α) : pair2 (1 - o) y x = pair2 o x y := by
  match o, h with
  | 0, _ => rfl
  | 1, _ => rfl
theorem pair2_at {o : Nat} (h : o < 2) (x y : V) : atI (pair2 o x y) (o : Int) = some x := by
  match o, h with
  | 0, _ => rfl
  | 1, _ => rfl
theorem pair2_set {o : Nat} (h : o < 2) (x y z : V) : (pair2 o x y).set o z = pair2 o z y := by
  match o, h with
  | 0, _ => rfl
  | 1, _ => rfl
/-- addresses that differ and stand -/
structure NdL (l : List Addr) (H : Hp) : Prop where
  nd : l.Nodup
  lv : ∀ z ∈ l, ∃ o, H z = some o
theorem NdL.same {l : List Addr} {H H' : Hp} (h : NdL l H) (s : Same H H') : NdL l H' := ⟨h.nd, fun z hz => (h.lv z hz).imp fun o e => s _ _ e⟩
theorem NdL.cons {l : List Addr} {H H' : Hp} {z : Addr} (h : NdL l H) (s : Same H H') (hz : H z = none) (hl : ∃ o, H' z = some o) : NdL (z :: l) H' := by
  refine ⟨List.nodup_cons.mpr ⟨fun hm => ?_, h.nd⟩, fun x hx => ?_⟩
  · obtain ⟨o, e⟩ := h.lv z hm
    rw [hz] at e; cases e
  · rcases List.mem_cons.mp hx with rfl | hx
    · exact hl
    · exact (h.lv x hx).imp fun o e => s _ _ e
theorem reidx {l : List Addr} (h : l.Nodup) {σ : List Nat} (hs : σ.Nodup) (hb : ∀ i ∈ σ, i < l.length) : (σ.map fun i => l.getD i 0).Nodup := by
  induction σ with
  | nil => exact .nil
  | cons i σ ih =>
    rw [List.nodup_cons] at hs
    rw [List.map_cons, List.nodup_cons]
    refine ⟨fun hm => ?_, ih hs.2 fun j hj => hb j (List.mem_cons_of_mem _ hj)⟩
    obtain ⟨j, hj, e⟩ := List.mem_map.mp hm
    have h1 := hb i List.mem_cons_self
    have h2 := hb j (List.mem_cons_of_mem _ hj)
    refine nd_ne h (i := j) (j := i) (x := l.getD j 0) (y := l.getD i 0) ?_ ?_ (fun z => hs.1 (z ▸ hj)) e
    · rw [List.getD_eq_getElem?_getD, List.getElem?_eq_getElem h2]; rfl
    · rw [List.getD_eq_getElem?_getD, List.getElem?_eq_getElem h1]; rfl
theorem mem_set_or {l : List Addr} {i : Nat} {x z : Addr} (h : z ∈ l.set i x) : z = x ∨ z ∈ l := by
  rcases List.mem_or_eq_of_mem_set h with h | h
  · exact .inr h
  · exact .inl h
theorem nodup_set : ∀ {l : List Addr} {i : Nat} {x : Addr}, l.Nodup → x ∉ l → (l.set i x).Nodup
  | [], _, _, _, _ => by rw [List.set_nil]; exact List.nodup_nil
  | a :: l, 0, x, h, hx => by
    rw [List.nodup_cons] at h
    rw [List.set_cons_zero, List.nodup_cons]
    exact ⟨fun hm => hx (List.mem_cons_of_mem _ hm), h.2⟩
  | a :: l, i + 1, x, h, hx => by
    rw [List.nodup_cons] at h
    rw [List.set_cons_succ, List.nodup_cons]
    refine ⟨fun hm => ?_, nodup_set h.2 fun hm => hx (List.mem_cons_of_mem _ hm)⟩
    rcases mem_set_or hm with z | z
    · exact hx (by rw [z]; exact List.mem_cons_self)
    · exact h.1 z
end RJ
end

section
set_option maxRecDepth 100000
set_option maxHeartbeats 8000000
namespace RJ
open PySem PySem.Spec PyProof.Rows L2
def sp_feedX (C CU CS : Addr) : Sp := fun vs H _ E => ∃ (Hs : Hp) (st tl y : Addr) (al : List Nat) (ps : List (Nat × Nat)) (t u R : List Nat) (i c : Nat), vs = [.ref st, .str (S u)] ∧ StrAt C CS Hs H st tl y al ps t R ∧ FirstBad al u i c ∧ u.length ≤ 1000 ∧ c < 1114112 ∧ ErrAt E CU H [("at", .int (i : Int)), ("sign", .str (S [c]))]
def sp_refusedW (C CS : Addr) : Sp := fun vs H Q _ => ∃ (Hs : Hp) (st tl y wr md to tx pp : Addr) (al : List Nat) (ps : List (Nat × Nat)) (t u R : List Nat) (i c : Nat), vs = [.ref st, .ref wr, .ref md, .ref to, .str (S t)] ∧ StrAt C CS Hs H st tl y al ps t R ∧ H wr = some (.tup [.str (S u), .str (S [c]), .int (i : Int)]) ∧ H md = some (.tup [.ref pp, .ref tx]) ∧ H tx = some (.lst (strV (textsOf al ps))) ∧ H to = some (.lst (iv R)) ∧ Lim al ps ∧ t.length ≤ 1000 ∧ FirstBad al u i c ∧ u.length ≤ 1000 ∧ c < 1114112 ∧ ∀ H', Same H H' → Q (.bl true) H'
section
variable {P : Program} {w : World} {K : PySem.W.Frag} {mg : Str → Option Value} {base : Heap}
theorem ok_feedX {f C CU CS : Addr} {fd : FuncData} (F : C8.Fun K "feed" "Stream.feed" s_Stream_feed f fd) (T : Txt K mg) (JS : STxt K CS) (x_letters_of : CalX P w K mg base 4 "letters_of" (sp_letters_ofX C CU)) (c_next_tail : C8.Cal P w K mg base 2 "next_tail" (sp_next_tail C) []) (m_sure_row : C8.Met P w K mg base 7 CS "sure_row" (sp_sure C CS) []) (c_text_of_row : C8.Cal P w K mg base 6 "text_of_row" (sp_text_of_row C) []) : FnOk P w K mg base (CXN P w) 8 f fd ["self", "text"] (sp_feedX C CU CS) := by
  refine fnX F sc_Stream_feed (fun vs H Q E h => ?_) (fun cdv A outer s H vs Q E hr h tk => ?_)
  · obtain ⟨Hs, st, tl, y, al, ps, t, u, R, i, c, rfl, _⟩ := h; rfl
  · obtain ⟨Hs, st, tl, y, al, ps, t, u, R, i, c, rfl, ⟨G, hS⟩, hb, hl, hc, q⟩ := h
    refine ⟨_, (pss_cons (ps_expr (pe_cx x_letters_of hr (by first | decide | omega) tk (by rfl) (pa_cons (pe_fld (pv 0) rfl) (pa_cons (pv 1) pa_nil))))
      (pss_cons (ps_for (L2.passes_of rfl) rfl (pi_str (pv 1)) (pg_name (i := 2) sc_Stream_feed.nd rfl (Or.inl rfl)) (pss_cons (ps_fld (pv 0) (pe_op op_add_str (pe_fld (pv 0) rfl) (pv 2)) rfl)
      (pss_one (ps_expr (pe_bm PySem.F.plainAttrs_list PySem.F.slot_list_append PySem.F.type_list_append mt_append (pe_fld (pv 0) rfl) (pa_cons (C8.pe_c c_next_tail hr (by first | decide | omega) (by rfl) (pa_cons (pe_fld (pv 0) rfl) (pa_cons (pe_fld (pv 0) rfl) (pa_cons (pe_fld (pv 0) rfl) (pa_cons (pe_fld (pv 0) rfl) pa_nil))))) pa_nil))))))
      (pss_cons (ps_set (i := 3) sc_Stream_feed.nd rfl (Or.inl rfl) (pe_slice sl_tupA (C8.pe_mt0 m_sure_row hr (by first | decide | omega) (pv 0)) (po_some (pe_fld (pv 0) rfl)) po_none))
      (pss_cons (ps_fldaug (pv 0) (pe_callB call_len_seq (by rfl) T.b_len PySem.boot_len (pa_cons (pv 3) pa_nil)) in_add)
      (pss_cons (ps_fldaug (pv 0) (pe_callB call_len_str (by rfl) T.b_len PySem.boot_len (pa_cons (C8.pe_c c_text_of_row hr (by first | decide | omega) (by rfl) (pa_cons (pe_fld (pv 0) rfl) (pa_cons (pv 3) pa_nil))) pa_nil)) in_add)
      (pss_one (ps_ret (pv 3)))))))), ?_⟩
    obtain ⟨dx, mk, bg, Ms, g1, g2, g3, g4⟩ := id G.ob
    exact ⟨_, rfl, st, CS, dx, _, _, rfl, g1, JS.cl, JS.s1, stF_1 _ _ _ _ _ _ _, _, rfl, y, u, al, ps, i, c, rfl, G.jo.same G.sub, hb, hl, hc, q⟩
theorem ok_stoldH {f C CS : Addr} {fd : FuncData} (F : C8.Fun K "told" "Stream.told" s_Stream_told f fd) (T : Txt K mg) (JS : STxt K CS) : L2H.FnH P w K mg base C8.CX0 1 f fd ["self"] (sp_told C CS) := by
  refine fnH0 F sc_Stream_told (fun vs H Q E h => ?_) (fun cdv A outer s H vs Q E p hr h hot => ?_)
  · obtain ⟨Hs, st, tl, y, al, ps, t, n, m, rfl, _⟩ := h; rfl
  · obtain ⟨Hs, st, tl, y, al, ps, t, n, m, rfl, G, q⟩ := h
    refine ⟨_, (pss_one (ps_ret (pe_fld (pv 0) rfl))), ?_⟩
    obtain ⟨dx, mk, bg, Ms, g1, g2, g3, g4⟩ := id G.ob
    exact ⟨_, rfl, st, CS, dx, _, _, rfl, g1, JS.cl, JS.s6, stF_6 _ _ _ _ _ _ _, q⟩
theorem ok_waitingH {f C CS : Addr} {fd : FuncData} (F : C8.Fun K "waiting" "Stream.waiting" s_Stream_waiting f fd) (T : Txt K mg) (JS : STxt K CS) : L2H.FnH P w K mg base C8.CX0 1 f fd ["self"] (sp_waiting C CS) := by
  refine fnH0 F sc_Stream_waiting (fun vs H Q E h => ?_) (fun cdv A outer s H vs Q E p hr h hot => ?_)
  · obtain ⟨Hs, st, tl, y, al, ps, t, n, m, rfl, _⟩ := h; rfl
  · obtain ⟨Hs, st, tl, y, al, ps, t, n, m, rfl, G, hl, q⟩ := h
    refine ⟨_, (pss_one (ps_ret (pe_slice sl_str (pe_fld (pv 0) rfl) (po_some (pe_fld (pv 0) rfl)) po_none))), ?_⟩
    obtain ⟨dx, mk, bg, Ms, g1, g2, g3, g4⟩ := id G.ob
    refine ⟨_, rfl, st, CS, dx, _, _, rfl, g1, JS.cl, JS.s4, stF_4 _ _ _ _ _ _ _, _, rfl, st, CS, dx, _, _, rfl, g1, JS.cl, JS.s7, stF_7 _ _ _ _ _ _ _, _, rfl, S t, rfl, by rw [S_len]; exact small_le (by omega), ?_⟩
    rw [cutS_from]
    exact q
theorem ok_waitsH {f C CS : Addr} {fd : FuncData} (F : C8.Fun K "_law_waits" "_law_waits" s__law_waits f fd) (T : Txt K mg) (JS : STxt K CS) (h_waiting : PrpH P w K mg base 1 CS "waiting" (sp_waiting C CS)) (h__law_same : CalH P w K mg base 1 "_law_same" (sp_same 0)) : L2H.FnH P w K mg base C8.CX0 3 f fd ["stream", "texts", "told", "text"] (sp_waits C CS) := by
  refine fnH0 F sc__law_waits (fun vs H Q E h => ?_) (fun cdv A outer s H vs Q E p hr h hot => ?_)
  · obtain ⟨Hs, st, tl, y, to, tx, al, ps, t, R, rfl, _⟩ := h; rfl
  · obtain ⟨Hs, st, tl, y, to, tx, al, ps, t, R, rfl, ⟨G, hS⟩, hto, htx, ⟨hprop, hnd, h1, hal, hpl⟩, hlen, q⟩ := h
    have hsz : sizeLine = 16777216 := sizeLine_eq
    obtain ⟨k1, k2, k3, k4⟩ := told_len hS G.ht
    refine ⟨_, (pss_cons (ps_set (i := 4) sc__law_waits.nd rfl (Or.inl rfl) (pe_callB (cr_sumH hot) (by rfl) T.b_sum (by decide +kernel) (pa_cons (pe_lcH (E := C8.E0) (own := [("piece", 5)]) (g := gName 5) (tt := tYes) rfl rfl takes0 hot sc__law_waits.nd (pi_listHL (pv 2)) (blkOk_by (N := N__law_waits) (sc := C8.fnScope s__law_waits) (by decide +kernel)) (fun _ _ _ _ _ _ => (pg_name (i := 5) sc__law_waits.nd rfl (Or.inl rfl))) (fun _ _ _ _ _ _ _ => pts_nil) (fun _ _ _ _ _ _ hB => (pe_callB call_len_str (by rfl) T.b_len PySem.boot_len (pa_cons (pe_ix (ix_listK (K := K) rfl) (pv 1) (pv 5) (fun _ _ => rfl)) pa_nil)))) pa_nil)))
      (pss_one (ps_ret (pe_ch h__law_same hr (by first | decide | omega) hot (by rfl) (pa_cons (pe_prpH h_waiting hr (by first | decide | omega) hot (pv 0)) (pa_cons (pe_slice sl_str (pv 3) (po_some (pv 4)) po_none) pa_nil)))))), ?_⟩
    refine ⟨_, rfl, to, rfl, ⟨_, SqL.of hto⟩, fun D hD => lc_it walk_list (fun i H' => Same H H' ∧ H' D = some (.lst (iv ((R.take i).map fun x => ((textsOf al ps).getD x []).length)))) ⟨same_new hD, upd_same⟩ (fun i H' _ ⟨sa, _⟩ => SqL.of (sa _ _ hto)) ?_ ?_⟩
    · rintro i x Ha Hb hi ⟨sa, hDb⟩ ⟨rfl, hx⟩
      obtain ⟨n, hn, rfl⟩ := iv_get hx
      have hn' := k2 n (List.mem_of_getElem? hn)
      have h40 : ((textsOf al ps).getD n []).length ≤ 40 := getD_short hprop.short n
      refine ⟨rfl, _, rfl, _, rfl, tx, _, _, _, rfl, rfl, SqL.of (sa _ _ htx), atI_nat (strV_at (by rw [textsOf_len]; exact hn')), S ((textsOf al ps).getD n []), rfl, by rw [S_len]; omega, _, hDb, ?_, Same.put sa hD, ?_⟩
      · rw [iv_len, List.length_map, List.length_take]; omega
      · rw [upd_same, map_take_succ hn, S_len, iv_snoc]
    · rintro Hb ⟨sa, hDb⟩
      rw [iv_len, List.take_length] at hDb
      refine ⟨D, (R.map fun x => ((textsOf al ps).getD x []).length).map fun (n : Nat) => (n : Int), rfl, SqL.of (by rw [List.map_map]; exact hDb), ?_⟩
      rw [sum_lens]
      obtain ⟨dx, mk, bg, Ms, g1, _⟩ := id G.ob
      refine ⟨_, rfl, st, dx, _, rfl, sa _ _ g1, Hs, st, tl, y, al, ps, t, _, _, rfl, G.same sa, hlen, ?_⟩
      refine ⟨_, rfl, _, rfl, _, rfl, S t, rfl, by rw [S_len]; exact small_le (by omega), ?_⟩
      rw [cutS_from]
      exact ⟨_, _, rfl, ⟨rfl, rfl⟩, fun H2 s2 => q H2 (sa.trans s2)⟩
theorem ok_refusedW {f C CS CUnknownSign CJoinError : Addr} {fd : FuncData} (F : C8.Fun K "_law_refused" "_law_refused" s__law_refused f fd) (T : Txt K mg) (JS : STxt K CS) (y_feed : MetX P w K mg base 8 CS "feed" (sp_feedX C CUnknownSign CS)) (h__law_same : CalH P w K mg base 1 "_law_same" (sp_same 0)) (e__law_alone : CalE P w K mg base 1 "_law_alone" (sp_alone CUnknownSign 0))
    (h_told : PrpH P w K mg base 1 CS "told" (sp_told C CS)) (h__law_waits : CalH P w K mg base 3 "_law_waits" (sp_waits C CS))
    (GJoinError : mg "JoinError" = some (.ref CJoinError)) (eiUnknownSign : ErrI K CUnknownSign) (nUnknownSign_sign : PySem.W.findIn K (.ref CUnknownSign) "sign" = some none) (nUnknownSign_at : PySem.W.findIn K (.ref CUnknownSign) "at" = some none)
    (k1 : PySem.W.exmOne K (.ref CUnknownSign) (.ref CJoinError) = some true) :
    FnOk P w K mg base C8.CX0 10 f fd ["stream", "wrong", "made", "told", "text"] (sp_refusedW C CS) := by
  refine C8.fn0 F sc__law_refused (fun vs H Q E h => ?_) (fun cdv A outer s H vs Q E hr h => ?_)
  · obtain ⟨Hs, st, tl, y, wr, md, to, tx, pp, al, ps, t, u, R, i, c, rfl, _⟩ := h; rfl
  · obtain ⟨Hs, st, tl, y, wr, md, to, tx, pp, al, ps, t, u, R, i, c, rfl, hSA, hwr, hmd, htx, hto, hL, htl, hb, hl, hc, q⟩ := h
    refine ⟨_, (pss_cons (L2N.ps_try_as (i := 5) rfl rfl sc__law_refused.nd rfl rfl (c := .ref CJoinError) ⟨by rfl, by decide, .inl GJoinError⟩ takes0 (fun W pn xe tk po => (pss_one (ps_expr (pe_mx y_feed hr (by first | decide | omega) tk (pv 0) (pa_cons (pe_ix (ix_tupK (K := K) rfl) (pv 1) pe_int (fun _ _ => rfl)) pa_nil))))) (fun a oe cls d pn hz hf => (pss_cons (ps_if (PW.pt (pw_or (pt_not (pt_val (pe_ce e__law_alone (roomS hr) (by first | decide | omega) hz hf (by rfl) (pa_cons (pv 5) (pa_cons pe_int pa_nil))))) (pw_or (pt_not (pt_val (pe_ch h__law_same (roomS hr) (by first | decide | omega) (hotS hz hf) (by rfl) (pa_cons (pe_xf eiUnknownSign.xf nUnknownSign_sign hz.zc hf (pv 5)) (pa_cons (pe_ix (ix_tupK (K := K) rfl) (pv 1) pe_int (fun _ _ => rfl)) pa_nil))))) (pw_or1 (pt_not (pt_val (pe_ch h__law_same (roomS hr) (by first | decide | omega) (hotS hz hf) (by rfl) (pa_cons (pe_xf eiUnknownSign.xf nUnknownSign_at hz.zc hf (pv 5)) (pa_cons (pe_ix (ix_tupK (K := K) rfl) (pv 1) pe_int (fun _ _ => rfl)) pa_nil))))))))) (pss_one (ps_ret pe_bl)) pss_nil)
      (pss_one (ps_ret (pe_and (pe_ch h__law_same (roomS hr) (by first | decide | omega) (hotS hz hf) (by rfl) (pa_cons (pe_prpH h_told (roomS hr) (by first | decide | omega) (hotS hz hf) (pv 0)) (pa_cons (pe_callB (call_len_seqK (K := K) rfl) (by rfl) T.b_len PySem.boot_len (pa_cons (pv 3) pa_nil)) pa_nil))) (pe_one (pe_ch h__law_waits (roomS hr) (by first | decide | omega) (hotS hz hf) (by rfl) (pa_cons (pv 0) (pa_cons (pe_ix (ix_tupK (K := K) rfl) (pv 2) pe_int (fun _ _ => rfl)) (pa_cons (pv 3) (pa_cons (pv 4) pa_nil))))))))))))
      (pss_one (ps_ret pe_bl))), ?_⟩
    obtain ⟨dx, mk, bg, Ms, g1, _⟩ := id hSA.1.ob
    refine ⟨_, rfl, st, dx, _, rfl, g1, stF_no _ _ _ _ _ _ _ (by decide +kernel) (by decide +kernel) (by decide +kernel) (by decide +kernel) (by decide +kernel) (by decide +kernel) (by decide +kernel), _, rfl, wr, _, _, _, rfl, rfl, SqT.of hwr, rfl, Hs, st, tl, y, al, ps, t, u, R, i, c, rfl, hSA, hb, hl, hc, fun d H' s1 hd => ⟨true, k1, fun _ bb hbb => ?_, fun z => by cases z⟩⟩
    refine ⟨_, rfl, d, _, rfl, rfl, rfl, hd, by decide, fun H2 s2 => ⟨true, rfl, iteF ?_⟩⟩
    have hd2 := s2 _ _ hd
    have hw2 := (s1.trans s2) _ _ hwr
    refine ⟨_, rfl, rfl, rfl, d, _, _, rfl, hd2, rfl, _, rfl, wr, _, _, _, rfl, rfl, SqT.of hw2, rfl, _, _, rfl, ⟨rfl, rfl⟩, fun H3 s3 => ⟨true, rfl, iteF ?_⟩⟩
    have hd3 := s3 _ _ hd2
    have hw3 := s3 _ _ hw2
    refine ⟨_, rfl, rfl, rfl, d, _, _, rfl, hd3, rfl, _, rfl, wr, _, _, _, rfl, rfl, SqT.of hw3, rfl, _, _, rfl, ⟨rfl, rfl⟩, fun H4 s4 => ⟨true, rfl, iteF ?_⟩⟩
    have s14 := ((s1.trans s2).trans s3).trans s4
    have hSA4 := hSA.same s14
    have hto4 := s14 _ _ hto
    refine ⟨_, rfl, st, dx, _, rfl, s14 _ _ g1, Hs, st, tl, y, al, ps, t, _, _, rfl, hSA4.1, _, rfl, to, _, rfl, .inl (SqL.of hto4), ?_⟩
    rw [iv_len]
    refine ⟨_, _, rfl, ⟨rfl, rfl⟩, fun H5 s5 => ⟨true, rfl, iteT ?_⟩⟩
    have s15 := s14.trans s5
    exact ⟨_, rfl, _, rfl, md, _, _, _, rfl, rfl, SqT.of (s15 _ _ hmd), rfl, _, rfl, _, rfl, Hs, st, tl, y, to, tx, al, ps, t, R, rfl, hSA.same s15, s15 _ _ hto, s15 _ _ htx, hL, htl, fun H6 s6 => q H6 (s15.trans s6)⟩
end
end RJ
end

section
set_option maxRecDepth 100000
set_option maxHeartbeats 16000000
namespace RJ
open PySem PySem.Spec PyProof.Rows L2
/-- a stream, what it has read and told -/
structure StV where
  st : Addr
  tl : Addr
  to : Addr
  Hs : Hp
  t : List Nat
  R : List Nat
def adrV (U W : StV) : List Addr := [U.st, U.tl, U.to, W.st, W.tl, W.to]
structure Inv24 (C CS y p : Addr) (al : List Nat) (ps : List (Nat × Nat)) (H5 H : Hp) (U W : StV) : Prop where
  pq : PSame p H5 H
  u : StrAt C CS U.Hs H U.st U.tl y al ps U.t U.R
  w : StrAt C CS W.Hs H W.st W.tl y al ps W.t W.R
  ut : H U.to = some (.lst (iv U.R))
  wt : H W.to = some (.lst (iv W.R))
  nd : (adrV U W).Nodup
  fr : ∀ z ∈ adrV U W, H5 z = none
  hu : ∀ z ∈ p :: adrV U W, U.Hs z = none
  hw : ∀ z ∈ p :: adrV U W, W.Hs z = none
section
variable {C CS y p : Addr} {al : List Nat} {ps : List (Nat × Nat)} {H5 H H' : Hp} {U W : StV}
theorem Inv24.free (I : Inv24 C CS y p al ps H5 H U W) : ∀ b ∈ adrV U W, b ≠ p := fun b hz => I.pq.at0.free (I.fr b hz)
theorem StrAt.keepV {Hs : Hp} {st tl : Addr} {t R : List Nat} (h : StrAt C CS Hs H st tl y al ps t R) (s : Same Hs H') (h1 : ∀ o, H st = some o → H' st = some o) (h2 : ∀ o, H tl = some o → H' tl = some o) : StrAt C CS Hs H' st tl y al ps t R := ⟨h.1.keep s h1 h2, h.2⟩
theorem Inv24.psame (I : Inv24 C CS y p al ps H5 H U W) (s : PSame p H H') : Inv24 C CS y p al ps H5 H' U W := by
  have k : ∀ z ∈ adrV U W, ∀ o, H z = some o → H' z = some o := fun z hz o e => s.x z o (I.free z hz) e
  refine ⟨I.pq.trans s, I.u.keepV (fun a o e => s.x _ _ (ne_of_none e (I.hu p List.mem_cons_self)) (I.u.1.sub _ _ e)) (k _ (by simp [adrV])) (k _ (by simp [adrV])), I.w.keepV (fun a o e => s.x _ _ (ne_of_none e (I.hw p List.mem_cons_self)) (I.w.1.sub _ _ e)) (k _ (by simp [adrV])) (k _ (by simp [adrV])), k _ (by simp [adrV]) _ I.ut, k _ (by simp [adrV]) _ I.wt, I.nd, I.fr, I.hu, I.hw⟩
theorem Inv24.same (I : Inv24 C CS y p al ps H5 H U W) (s : Same H H') : Inv24 C CS y p al ps H5 H' U W := I.psame (PSame.of I.pq.at1 s)
theorem Inv24.swap (I : Inv24 C CS y p al ps H5 H U W) : Inv24 C CS y p al ps H5 H W U := by
  have hp : (adrV W U).Perm (adrV U W) := List.perm_append_comm (l₁ := [W.st, W.tl, W.to]) (l₂ := [U.st, U.tl, U.to])
  have hc : ∀ z ∈ p :: adrV W U, z ∈ p :: adrV U W := fun z hz => by
    rcases List.mem_cons.mp hz with e | e
    · rw [e]; exact List.mem_cons_self
    · exact List.mem_cons_of_mem _ (hp.mem_iff.mp e)
  exact ⟨I.pq, I.w, I.u, I.wt, I.ut, hp.nodup_iff.mpr I.nd, fun z hz => I.fr z (hp.mem_iff.mp hz), fun z hz => I.hw z (hc z hz), fun z hz => I.hu z (hc z hz)⟩
theorem Inv24.dist (I : Inv24 C CS y p al ps H5 H U W) : U.to ≠ U.st ∧ U.to ≠ U.tl ∧ W.st ≠ U.st ∧ W.st ≠ U.tl ∧ W.st ≠ U.to ∧ W.tl ≠ U.st ∧ W.tl ≠ U.tl ∧ W.tl ≠ U.to ∧ W.to ≠ U.st ∧ W.to ≠ U.tl ∧ W.to ≠ U.to := by
  have h := I.nd
  unfold adrV at h
  simp only [List.nodup_cons, List.mem_cons, List.not_mem_nil, or_false, not_or, List.nodup_nil, and_true, not_false_iff] at h
  obtain ⟨⟨h1, h2, h3, h4, h5⟩, ⟨h6, h7, h8, h9⟩, ⟨h10, h11, h12⟩, _⟩ := h
  exact ⟨Ne.symm h2, Ne.symm h6, Ne.symm h3, Ne.symm h7, Ne.symm h10, Ne.symm h4, Ne.symm h8, Ne.symm h11, Ne.symm h5, Ne.symm h9, Ne.symm h12⟩
theorem Inv24.fed {t' R' : List Nat} (I : Inv24 C CS y p al ps H5 H U W) (fr : PFr3 U.st U.tl U.to H H') (sa : StrAt C CS U.Hs H' U.st U.tl y al ps t' R') (hto : H' U.to = some (.lst (iv R'))) : Inv24 C CS y p al ps H5 H' ⟨U.st, U.tl, U.to, U.Hs, t', R'⟩ W := by
  obtain ⟨d1, d2, d3, d4, d5, d6, d7, d8, d9, d10, d11⟩ := I.dist
  have m : U.st ∈ adrV U W ∧ U.tl ∈ adrV U W ∧ U.to ∈ adrV U W := ⟨by simp [adrV], by simp [adrV], by simp [adrV]⟩
  refine ⟨⟨fun b ob hb e => fr b ob (ne_of_none e (I.fr _ m.1)) (ne_of_none e (I.fr _ m.2.1)) (ne_of_none e (I.fr _ m.2.2)) (I.pq.x b ob hb e), I.pq.at0, ?_⟩, sa, I.w.keepV (fun a o e => fr a o (ne_of_none e (I.hw _ (List.mem_cons_of_mem _ m.1))) (ne_of_none e (I.hw _ (List.mem_cons_of_mem _ m.2.1))) (ne_of_none e (I.hw _ (List.mem_cons_of_mem _ m.2.2))) (I.w.1.sub _ _ e)) (fun o e => fr _ _ d3 d4 d5 e) (fun o e => fr _ _ d6 d7 d8 e), hto, fr _ _ d9 d10 d11 I.wt, I.nd, I.fr, I.hu, I.hw⟩
  obtain ⟨ns, k1, k2⟩ := I.pq.at1
  exact ⟨ns, fr _ _ (Ne.symm (I.free _ m.1)) (Ne.symm (I.free _ m.2.1)) (Ne.symm (I.free _ m.2.2)) k1, k2⟩
end
def sp_law (K : PySem.W.Frag) : Sp := fun vs H Q _ => ∃ (a : Addr) (zs : List Int), vs = [.ref a] ∧ SqL K H a (zs.map V.int) ∧ zs.length ≤ 63 ∧ ∀ H', Q (.bl true) H'
section
variable {P : Program} {w : World} {K : PySem.W.Frag} {mg : Str → Option Value} {base : Heap}
theorem ok_law {f C CS : Addr} {fd : FuncData} (F : C8.Fun K "law" "law" s_law f fd) (T : Txt K mg) (J : JTxt K C) (JS : STxt K CS) (c__law_pool : C8.Cal P w K mg base 1 "_law_pool" (sp_pool K) []) (c__law_alphabet : C8.Cal P w K mg base 2 "_law_alphabet" sp_alphabetB []) (c__law_pairs : C8.Cal P w K mg base 3 "_law_pairs" sp_pairsB [])
    (c__law_draw : C8.Cal P w K mg base 1 "_law_draw" sp_drawB []) (k_Joins : C8.Mak P w K mg base 4 "Joins" C (sp_init C) []) (c__law_text : C8.Cal P w K mg base 2 "_law_text" sp_textB []) (k_Stream : C8.Mak P w K mg base 9 "Stream" CS (sp_sinit C CS) []) (c__law_cut : C8.Cal P w K mg base 2 "_law_cut" sp_cutB [])
    (c__law_fed : C8.Cal P w K mg base 9 "_law_fed" (sp_fed C CS) []) (c__law_waits : C8.Cal P w K mg base 3 "_law_waits" (sp_waits C CS) []) (c__law_with_strangers : C8.Cal P w K mg base 3 "_law_with_strangers" sp_withB []) (c__law_refused : C8.Cal P w K mg base 10 "_law_refused" (sp_refusedW C CS) []) (m_finish : C8.Met P w K mg base 7 CS "finish" (sp_finish C CS) []) (c__law_same : C8.Cal P w K mg base 2 "_law_same" (sp_same 1) []) : FnOk P w K mg base C8.CX0 11 f fd ["script"] (sp_law K) := by
  refine C8.fn0 F sc_law (fun vs H Q E h => ?_) (fun cdv A outer s H vs Q E hr h => ?_)
  · obtain ⟨a, zs, rfl, _⟩ := h; rfl
  · obtain ⟨a, zs, rfl, hS, hlen, q⟩ := h
    have hsz : sizeLine = 16777216 := sizeLine_eq
    refine ⟨_, (pss_cons (ps_set (i := 1) sc_law.nd rfl (Or.inl rfl) (C8.pe_c c__law_pool hr (by first | decide | omega) (by rfl) (pa_cons (pv 0) (pa_cons pe_int pa_nil))))
      (pss_cons (ps_set (i := 2) sc_law.nd rfl (Or.inl rfl) (C8.pe_c c__law_alphabet hr (by first | decide | omega) (by rfl) (pa_cons (pv 1) pa_nil)))
      (pss_cons (ps_set (i := 3) sc_law.nd rfl (Or.inl rfl) (C8.pe_c c__law_pairs hr (by first | decide | omega) (by rfl) (pa_cons (pv 1) (pa_cons (pv 2) (pa_cons (C8.pe_c c__law_draw hr (by first | decide | omega) (by rfl) (pa_cons (pv 1) (pa_cons pe_int pa_nil))) pa_nil)))))
      (pss_cons (ps_set (i := 4) sc_law.nd rfl (Or.inl rfl) (C8.pe_mk k_Joins hr (by first | decide | omega) (by rfl) (pa_cons (pv 2) (pa_cons (pe_callTy call_list_of (by rfl) T.b_list (by decide +kernel) (pa_cons (pe_ix ix_tup (pv 3) pe_int (fun _ _ => rfl)) pa_nil)) pa_nil))))
      (pss_cons (ps_set (i := 5) sc_law.nd rfl (Or.inl rfl) (C8.pe_c c__law_text hr (by first | decide | omega) (by rfl) (pa_cons (pv 1) (pa_cons (pv 2) (pa_cons (pe_ix ix_tup (pv 3) pe_int (fun _ _ => rfl)) (pa_cons (pe_ix ix_list (pe_lst (pa_cons pe_int (pa_cons pe_int pa_nil))) (pe_callTy call_int1 (by rfl) T.b_int (by decide +kernel) (pa_cons (pe_cmpR op_gt (pe_callB call_len_seq (by rfl) T.b_len PySem.boot_len (pa_cons (pe_ix ix_tup (pv 3) pe_int (fun _ _ => rfl)) pa_nil)) pe_int (nomark _)) pa_nil)) (fun _ _ => rfl)) pa_nil))))))
      (pss_cons (ps_set (i := 6) sc_law.nd rfl (Or.inl rfl) (C8.pe_mk k_Stream hr (by first | decide | omega) (by rfl) (pa_cons (pv 4) pa_nil)))
      (pss_cons (ps_set (i := 7) sc_law.nd rfl (Or.inl rfl) (C8.pe_mk k_Stream hr (by first | decide | omega) (by rfl) (pa_cons (pv 4) pa_nil)))
      (pss_cons (ps_set (i := 8) sc_law.nd rfl (Or.inl rfl) (pe_lst pa_nil))
      (pss_cons (ps_set (i := 9) sc_law.nd rfl (Or.inl rfl) (pe_lst pa_nil))
      (pss_cons (ps_set (i := 10) sc_law.nd rfl (Or.inl rfl) pe_int)
      (pss_cons (ps_for PassesOwn.never rfl (pi_range1 rfl T.b_range (pa_cons pe_int pa_nil)) (pg_name (i := 11) sc_law.nd rfl (Or.inl rfl)) (pss_cons (ps_if (pt_cmpR op_ge (pv 10) (pe_callB call_len_str (by rfl) T.b_len PySem.boot_len (pa_cons (pv 5) pa_nil)) (nomark _)) (pss_one ps_break) pss_nil)
      (pss_cons (ps_set (i := 12) sc_law.nd rfl (Or.inl rfl) (pe_slice sl_str (pv 5) (po_some (pv 10)) (po_some (pe_op op_add (pv 10) (pe_ix ix_list (pe_lst (pa_cons pe_int (pa_cons pe_int (pa_cons pe_int (pa_cons pe_int (pa_cons pe_int (pa_cons pe_int (pa_cons (C8.pe_c c__law_draw hr (by first | decide | omega) (by rfl) (pa_cons (pv 1) (pa_cons pe_int pa_nil))) pa_nil)))))))) (C8.pe_c c__law_draw hr (by first | decide | omega) (by rfl) (pa_cons (pv 1) (pa_cons pe_int pa_nil))) (fun _ _ => rfl))))))
      (pss_cons (ps_set (i := 10) sc_law.nd rfl (Or.inl rfl) (pe_op op_add (pv 10) (pe_callB call_len_str (by rfl) T.b_len PySem.boot_len (pa_cons (pv 12) pa_nil))))
      (pss_cons (ps_set (i := 13) sc_law.nd rfl (Or.inl rfl) (C8.pe_c c__law_cut hr (by first | decide | omega) (by rfl) (pa_cons (pe_ix ix_tup (pv 3) pe_int (fun _ _ => rfl)) (pa_cons (pv 2) (pa_cons (pe_slice sl_str (pv 5) po_none (po_some (pv 10))) pa_nil)))))
      (pss_cons (ps_set (i := 14) sc_law.nd rfl (Or.inl rfl) (C8.pe_c c__law_with_strangers hr (by first | decide | omega) (by rfl) (pa_cons (pv 1) (pa_cons (pv 2) (pa_cons (pv 12) pa_nil)))))
      (pss_cons (ps_if (PW.pt (pw_and (pt_cmpR op_eq (C8.pe_c c__law_draw hr (by first | decide | omega) (by rfl) (pa_cons (pv 1) (pa_cons pe_int pa_nil))) pe_int (nomark _)) (pw_and1 (pt_not (pt_val (C8.pe_c c__law_refused hr (by first | decide | omega) (by rfl) (pa_cons (pv 6) (pa_cons (pv 14) (pa_cons (pv 3) (pa_cons (pv 8) (pa_cons (pe_slice sl_str (pv 5) po_none (po_some (pe_op op_sub (pv 10) (pe_callB call_len_str (by rfl) T.b_len PySem.boot_len (pa_cons (pv 12) pa_nil))))) pa_nil))))))))))) (pss_one (ps_ret pe_bl)) pss_nil)
      (pss_cons (ps_if (PW.pt (pw_or (pt_not (pt_val (C8.pe_c c__law_fed hr (by first | decide | omega) (by rfl) (pa_cons (pv 6) (pa_cons (pv 12) (pa_cons (pv 8) (pa_cons (pv 13) pa_nil))))))) (pw_or1 (pt_not (pt_val (C8.pe_c c__law_waits hr (by first | decide | omega) (by rfl) (pa_cons (pv 6) (pa_cons (pe_ix ix_tup (pv 3) pe_int (fun _ _ => rfl)) (pa_cons (pv 8) (pa_cons (pe_slice sl_str (pv 5) po_none (po_some (pv 10))) pa_nil)))))))))) (pss_one (ps_ret pe_bl)) pss_nil)
      (pss_cons (ps_for PassesOwn.never rfl (pi_range2 rfl T.b_range (pa_cons (pe_op op_sub (pv 10) (pe_callB call_len_str (by rfl) T.b_len PySem.boot_len (pa_cons (pv 12) pa_nil))) (pa_cons (pv 10) pa_nil))) (pg_name (i := 15) sc_law.nd rfl (Or.inl rfl)) (pss_one (ps_if (pt_not (pt_val (C8.pe_c c__law_fed hr (by first | decide | omega) (by rfl) (pa_cons (pv 7) (pa_cons (pe_ix ix_str (pv 5) (pv 15) (fun _ _ => rfl)) (pa_cons (pv 9) (pa_cons (C8.pe_c c__law_cut hr (by first | decide | omega) (by rfl) (pa_cons (pe_ix ix_tup (pv 3) pe_int (fun _ _ => rfl)) (pa_cons (pv 2) (pa_cons (pe_slice sl_str (pv 5) po_none (po_some (pe_op op_add (pv 15) pe_int))) pa_nil)))) pa_nil))))))) (pss_one (ps_ret pe_bl)) pss_nil)))
      (pss_one (ps_if (pt_not (pt_val (C8.pe_c c__law_same hr (by first | decide | omega) (by rfl) (pa_cons (pe_tupleOf (by rfl) T.b_tuple (pv 9)) (pa_cons (pe_tupleOf (by rfl) T.b_tuple (pv 8)) pa_nil))))) (pss_one (ps_ret pe_bl)) pss_nil)))))))))))
      (pss_cons (ps_set (i := 13) sc_law.nd rfl (Or.inl rfl) (pe_tupleOf (by rfl) T.b_tuple (C8.pe_c c__law_cut hr (by first | decide | omega) (by rfl) (pa_cons (pe_ix ix_tup (pv 3) pe_int (fun _ _ => rfl)) (pa_cons (pv 2) (pa_cons (pe_slice sl_str (pv 5) po_none (po_some (pv 10))) pa_nil))))))
      (pss_cons (ps_set (i := 14) sc_law.nd rfl (Or.inl rfl) (C8.pe_c c__law_with_strangers hr (by first | decide | omega) (by rfl) (pa_cons (pv 1) (pa_cons (pv 2) (pa_cons (pe_slice sl_str (pv 5) po_none (po_some pe_int)) pa_nil)))))
      (pss_cons (ps_if (pt_not (pt_val (C8.pe_c c__law_refused hr (by first | decide | omega) (by rfl) (pa_cons (pv 6) (pa_cons (pv 14) (pa_cons (pv 3) (pa_cons (pv 8) (pa_cons (pe_slice sl_str (pv 5) po_none (po_some (pv 10))) pa_nil)))))))) (pss_one (ps_ret pe_bl)) pss_nil)
      (pss_one (ps_ret (pe_and (C8.pe_c c__law_same hr (by first | decide | omega) (by rfl) (pa_cons (C8.pe_mt0 m_finish hr (by first | decide | omega) (pv 6)) (pa_cons (pe_slice sl_tupA (pv 13) (po_some (pe_callB call_len_seq (by rfl) T.b_len PySem.boot_len (pa_cons (pv 8) pa_nil))) po_none) pa_nil))) (pe_one (C8.pe_c c__law_same hr (by first | decide | omega) (by rfl) (pa_cons (C8.pe_mt0 m_finish hr (by first | decide | omega) (pv 7)) (pa_cons (pe_slice sl_tupA (pv 13) (po_some (pe_callB call_len_seq (by rfl) T.b_len PySem.boot_len (pa_cons (pv 8) pa_nil))) po_none) pa_nil))))))))))))))))))))), ?_⟩
    refine ⟨_, rfl, a, zs, 440, rfl, hS, hlen, by decide, fun H1 p s1 hp1 hP1 => ?_⟩
    refine ⟨_, rfl, p, rfl, hP1, fun H2 al s2 hok hnd h1 h30 hSG => ?_⟩
    refine ⟨_, rfl, _, rfl, _, rfl, p, 11, rfl, s2.at1, by decide, fun H3 m s3 hm => ⟨p, al, m, rfl, s3.at1, hnd, h1, h30, by omega, fun H4 r pp tx us ps s4 hppp htxp hr0 hpp hps htx hprop hpl => ?_⟩⟩
    -- the list
    refine ⟨_, rfl, _, rfl, r, _, _, _, rfl, rfl, SqT.of hr0, rfl, pp, us, rfl, .inl (SqL.of hpp), fun pa hpa y dx ny ndx nex => ?_⟩
    have npa : pa ≠ y := ne_of_none upd_same ny
    have npd : pa ≠ dx := ne_of_none upd_same ndx
    have sM : ∀ (b : Addr) (o : HO), H4 b = some o → b ≠ y ∧ (upd (upd (upd H4 pa (.lst us)) dx (.own y)) y (.ins C dx [])) b = some o := fun b o e => by
      have e1 : (upd H4 pa (.lst us)) b = some o := (upd_ne (ne_of_none e hpa)).trans e
      have hby := ne_of_none e1 ny
      exact ⟨hby, (upd_ne hby).trans ((upd_ne (ne_of_none e1 ndx)).trans e1)⟩
    refine ⟨y, pa, dx, true, al, ps, us, rfl, upd_same, (upd_ne npa).trans ((upd_ne npd).trans upd_same), hps.same (fun b xs e => (sM b _ e).2), hok, hnd, h30, hprop, by omega, fun H5 sx hj => ⟨rfl, ?_⟩⟩
    have s5 : Same H4 H5 := fun b o e => sx b o (sM b o e).1 (sM b o e).2
    clear sM sx
    have hP5 := s4.at1.same s5
    have hr5 := s5 _ _ hr0
    have hpp5 := s5 _ _ hpp
    have hps5 := hps.same (Same.t s5)
    have htx5 := s5 _ _ htx
    clear hr0 hpp hps htx
    have hL : Lim al ps := ⟨hprop, hnd, h1, by omega, by omega⟩
    -- the text
    refine ⟨_, rfl, _, rfl, _, rfl, r, _, _, _, rfl, rfl, SqT.of hr5, rfl, by show 2 ≤ sizeLine; omega, fun L0 hL0 => ?_⟩
    have u0 := (PSame.refl hP5).new (o := .lst [V.int 40, V.int 20]) hL0
    have hL0v : (upd H5 L0 (.lst [V.int 40, V.int 20])) L0 = some (.lst [V.int 40, V.int 20]) := upd_same
    generalize upd H5 L0 (.lst [V.int 40, V.int 20]) = Hx at u0 hL0v ⊢
    refine ⟨_, rfl, r, _, _, _, rfl, rfl, SqT.of (u0.tup hr5), rfl, pp, us, rfl, .inl (SqL.of (u0.lst hppp hpp5)), _, _, rfl, rfl, .inr ⟨_, rfl, ?_⟩⟩
    obtain ⟨mo, hat, hmo⟩ : ∃ mo : Nat, atI [V.int 40, V.int 20] (if decide ((12 : Int) < (us.length : Int)) = true then 1 else 0) = some (.int (mo : Int)) ∧ mo ≤ 40 := by
      cases decide ((12 : Int) < (us.length : Int)) with
      | true => exact ⟨20, rfl, by decide⟩
      | false => exact ⟨40, rfl, by decide⟩
    refine ⟨L0, _, _, _, rfl, rfl, SqL.of hL0v, hat, p, tx, al, ps, mo, rfl, u0.at1, u0.lst htxp htx5, htxp, hprop, h1, h30, by omega, by omega, fun H6 t s6' htm htl => ?_⟩
    have s6 := u0.trans s6'
    clear u0 s6' hL0v
    have zt : (S t).length ≤ sizeLine := by rw [S_len]; omega
    -- the streams
    have hP6 := s6.at1
    obtain ⟨nsp, hpe, hpl0⟩ := id hP6
    have k06 : Same (fun x => if x = p then none else H5 x) H6 := fun x o e => by
      replace e : (if x = p then none else H5 x) = some o := e
      split at e
      · cases e
      · rename_i hx
        exact s6.x _ _ hx e
    refine ⟨_, rfl, fun st1 dx1 ny1 nd1 ne1 => ?_⟩
    refine mkStream (H0 := fun x => if x = p then none else H5 x) (hj.minus hP5 h1) k06 hL ny1 nd1 fun H7 tl1 Hs1 s7 htl1 sHs1 hHs1 hSA1 => ⟨rfl, ?_⟩
    refine ⟨_, rfl, fun st2 dx2 ny2 nd2 ne2 => ?_⟩
    refine mkStream (H0 := fun x => if x = p then none else H5 x) (hj.minus hP5 h1) (k06.trans s7) hL ny2 nd2 fun H8 tl2 Hs2 s8 htl2 sHs2 hHs2 hSA2 => ⟨rfl, ?_⟩
    have s68 := s7.trans s8
    obtain ⟨dxu, mku, bgu, Msu, gu, _⟩ := id hSA1.1.ob
    obtain ⟨dxw, mkw, bgw, Msw, gw, _⟩ := id hSA2.1.ob
    have n1 : NdL [tl1, st1] H7 := ⟨List.nodup_cons.mpr ⟨fun h => hSA1.1.ne (List.mem_singleton.mp h).symm, List.nodup_cons.mpr ⟨List.not_mem_nil, List.nodup_nil⟩⟩, fun z hz => by
      simp only [List.mem_cons, List.not_mem_nil, or_false] at hz
      rcases hz with rfl | rfl
      · exact ⟨_, hSA1.1.tls⟩
      · exact ⟨_, gu⟩⟩
    have n2 : NdL [tl2, st2, tl1, st1] H8 := by
      have fresh : ∀ {z : Addr}, H7 z = none → z ∉ [tl1, st1] := fun hz hm => by
        obtain ⟨o, e⟩ := n1.lv _ hm
        rw [hz] at e; cases e
      refine ⟨List.nodup_cons.mpr ⟨fun h => ?_, List.nodup_cons.mpr ⟨fresh ny2, n1.nd⟩⟩, fun z hz => ?_⟩
      · rcases List.mem_cons.mp h with h | h
        · exact hSA2.1.ne h.symm
        · exact fresh htl2 h
      · rcases List.mem_cons.mp hz with rfl | hz
        · exact ⟨_, hSA2.1.tls⟩
        rcases List.mem_cons.mp hz with rfl | hz
        · exact ⟨_, gw⟩
        exact (n1.lv z hz).imp fun o e => s8 _ _ e
    refine ⟨Nat.zero_le _, fun to1 ht1 => ?_⟩
    have y9 := same_new (o := .lst []) ht1
    have ft1 : (upd H8 to1 (.lst [])) to1 = some (.lst []) := upd_same
    have n3 := n2.cons y9 ht1 ⟨_, ft1⟩
    have zt1 : H6 to1 = none := s68.free ht1
    generalize upd H8 to1 (.lst []) = H9 at y9 ft1 n3 ⊢
    have s69 := s68.trans y9
    refine ⟨Nat.zero_le _, fun to2 ht2 => ?_⟩
    have y10 := same_new (o := .lst []) ht2
    have ft2 : (upd H9 to2 (.lst [])) to2 = some (.lst []) := upd_same
    have n4 := n3.cons y10 ht2 ⟨_, ft2⟩
    have zt2 : H6 to2 = none := s69.free ht2
    generalize upd H9 to2 (.lst []) = H10 at y10 ft2 n4 ⊢
    have s8k : Same H8 H10 := y9.trans y10
    have s7k : Same H7 H10 := s8.trans s8k
    have late1 : ∀ {z : Addr}, H7 z = none → Hs1 z = none := fun {z} h => by
      cases e : Hs1 z with
      | none => rfl
      | some o => rw [hSA1.1.sub _ _ e] at h; cases h
    have late2 : ∀ {z : Addr}, H8 z = none → Hs2 z = none := fun {z} h => by
      cases e : Hs2 z with
      | none => rfl
      | some o => rw [hSA2.1.sub _ _ e] at h; cases h
    have zt28 : H8 to2 = none := y9.free ht2
    have I0 : Inv24 C CS y p al ps H5 H10 ⟨st1, tl1, to1, Hs1, t.take 0, []⟩ ⟨st2, tl2, to2, Hs2, t.take 0, []⟩ := by
      have mfree : ∀ {z : Addr}, H6 z = none → (fun x => if x = p then none else H5 x) z = none := fun h => minus_free (s6.none h)
      refine ⟨s6.trans (PSame.of hP6 (s7.trans s7k)), hSA1.same s7k, hSA2.same s8k, y10 _ _ ft1, ft2, ?_, fun z hz => ?_, fun z hz => ?_, fun z hz => ?_⟩
      · exact reidx n4.nd (σ := [5, 4, 1, 3, 2, 0]) (by decide) (by show ∀ i ∈ [5, 4, 1, 3, 2, 0], i < 6; decide)
      · unfold adrV at hz
        simp only [List.mem_cons, List.not_mem_nil, or_false] at hz
        rcases hz with rfl | rfl | rfl | rfl | rfl | rfl
        · exact s6.none ny1
        · exact s6.none htl1
        · exact s6.none zt1
        · exact s6.none (s7.free ny2)
        · exact s6.none (s7.free htl2)
        · exact s6.none zt2
      · unfold adrV at hz
        simp only [List.mem_cons, List.not_mem_nil, or_false] at hz
        rcases hz with rfl | rfl | rfl | rfl | rfl | rfl | rfl
        · exact hs_free hHs1 hSA1.1.sub minus_none hpe (s7 _ _ hpe) (fun xs e => by cases e)
        · exact hSA1.1.n1
        · exact hSA1.1.n2
        · exact late1 (s8.free ht1)
        · exact late1 ny2
        · exact late1 htl2
        · exact late1 (s8.free zt28)
      · unfold adrV at hz
        simp only [List.mem_cons, List.not_mem_nil, or_false] at hz
        rcases hz with rfl | rfl | rfl | rfl | rfl | rfl | rfl
        · exact hs_free hHs2 hSA2.1.sub minus_none (s7 _ _ hpe) (s68 _ _ hpe) (fun xs e => by cases e)
        · exact hs_free hHs2 hSA2.1.sub (mfree ny1) gu (s8 _ _ gu) (fun xs e => by cases e)
        · exact hs_free hHs2 hSA2.1.sub (mfree htl1) hSA1.1.tls (s8 _ _ hSA1.1.tls) (fun xs e => by cases e)
        · exact late2 ht1
        · exact hSA2.1.n1
        · exact hSA2.1.n2
        · exact late2 zt28
    clear hSA1 hSA2 hHs1 hHs2 sHs1 sHs2 n1 n2 n3 n4
    refine ⟨_, rfl, ?_⟩
    generalize hT : tSeq (tAsg _ (gName 13)) (tSeq (tAsg _ (gName 14)) (tSeq (tIfS (tNot _) _ _) (tRet _))) = T1
    have key : ∀ (Hk : Hp) (at_ : Nat) (R : List Nat) (v11 v12 v13 v14 v15 : Option V), Inv24 C CS y p al ps H5 Hk ⟨st1, tl1, to1, Hs1, t.take at_, R⟩ ⟨st2, tl2, to2, Hs2, t.take at_, R⟩ → T1 { nx := fun x H' => Q V.non H', rt := Q } [some (.ref a), some (.ref p), some (.str (S al)), some (.ref r), some (.ref y), some (.str (S t)), some (.ref st1), some (.ref st2), some (.ref to1), some (.ref to2), some (.int (at_ : Int)), v11, v12, v13, v14, v15] Hk := by
      subst hT
      intro Hk at_ R v11 v12 v13 v14 v15 Ik
      have hl1 : (t.take at_).length ≤ 1000 := by rw [List.length_take]; omega
      refine ⟨_, rfl, r, _, _, _, rfl, rfl, SqT.of (Ik.pq.tup hr5), rfl, _, rfl, _, rfl, _, rfl, _, rfl, S t, rfl, zt, ?_⟩
      rw [cutS_upto]
      refine ⟨pp, us, ps, al, t.take at_, rfl, Ik.pq.lst hppp hpp5, hps5.same Ik.pq.tt, hprop.wf, by omega, by omega, take_mem htm, by rw [List.length_take]; omega, fun H11 z s11 _ hz => ?_⟩
      have I11 := Ik.same s11
      refine .inl ⟨z, _, rfl, SqL.of hz, fun z2 hz2 => ?_⟩
      have I12 := I11.same (same_new (o := .tup (iv (cutL al.length ps (lets al (t.take at_))))) hz2)
      have hz2' : (upd H11 z2 (.tup (iv (cutL al.length ps (lets al (t.take at_)))))) z2 = some (.tup (iv (CT al ps (t.take at_)))) := upd_same
      generalize upd H11 z2 (.tup (iv (cutL al.length ps (lets al (t.take at_))))) = H12 at I12 hz2' ⊢
      refine ⟨_, rfl, _, rfl, _, rfl, _, rfl, S t, rfl, zt, ?_⟩
      rw [show (3 : Int) = ((3 : Nat) : Int) from rfl, cutS_upto]
      refine ⟨p, al, t.take 3, rfl, I12.pq.at1, h30, take_mem htm, by rw [List.length_take]; omega, fun H13 wr u i c s13 hwr hbad hul hc => ?_⟩
      have I13 := I12.psame s13
      have hz3 := s13.tup hz2'
      rw [List.length_take] at hul
      refine ⟨_, rfl, _, rfl, _, rfl, _, rfl, _, rfl, _, rfl, _, rfl, S t, rfl, zt, ?_⟩
      rw [cutS_upto]
      refine ⟨Hs1, st1, tl1, y, wr, r, to1, tx, pp, al, ps, t.take at_, u, R, i, c, rfl, I13.u, hwr, I13.pq.tup hr5, I13.pq.lst htxp htx5, I13.ut, hL, hl1, hbad, by omega, by omega, fun H14 s14 => ⟨_, rfl, iteF ?_⟩⟩
      have I14 := I13.same s14
      have hz4 := s14 _ _ hz3
      obtain ⟨dx, mk, bg, Ms, g1, _⟩ := id I14.u.1.ob
      obtain ⟨d1, d2, d3, d4, d5, d6, d7, d8, d9, d10, d11⟩ := I14.dist
      have hlc : (CT al ps (t.take at_)).length ≤ (t.take at_).length := (told_len I14.u.2 I14.u.1.ht).2.2.2
      have hl2 : ((CT al ps (t.take at_)).drop R.length).length ≤ 1000 := by rw [List.length_drop]; omega
      refine ⟨_, rfl, st1, dx, _, rfl, g1, stF_no _ _ _ _ _ _ _ (by decide +kernel) (by decide +kernel) (by decide +kernel) (by decide +kernel) (by decide +kernel) (by decide +kernel) (by decide +kernel), Hs1, st1, tl1, y, al, ps, t.take at_, R, rfl, I14.u, hL, hl1, fun H15 q15 tl' fr15 htl' hSA' hq15 => ?_⟩
      have nz1 : z2 ≠ st1 := ne_of hz4 g1 (fun z => by cases z)
      have hz5 := fr15 _ _ nz1 hz4
      refine ⟨_, rfl, _, rfl, to1, _, rfl, .inl (SqL.of (fr15 _ _ d1 I14.ut)), ?_⟩
      rw [iv_len]
      refine ⟨_, rfl, ?_⟩
      dsimp only [tNoPart]
      refine slT_from hz5 fun H16 q16 s16 hq16 => ?_
      refine ⟨_, _, rfl, SameD.row (l := (CT al ps (t.take at_)).drop R.length) (s16 _ _ hq15) hq16 hl2, fun H17 s17 => ⟨true, rfl, iteT ?_⟩⟩
      have s67 := s16.trans s17
      have W17 : StrAt C CS Hs2 H17 st2 tl2 y al ps (t.take at_) R := (I14.w.keepV (fun x o e => fr15 _ _ (ne_of_none e (I14.hw st1 (List.mem_cons_of_mem _ (by simp [adrV])))) (I14.w.1.sub _ _ e)) (fun o e => fr15 _ _ d3 e) (fun o e => fr15 _ _ d6 e)).same s67
      obtain ⟨dx2, mk2, bg2, Ms2, g2, _⟩ := id W17.1.ob
      have hz7 := s67 _ _ hz5
      refine ⟨_, rfl, st2, dx2, _, rfl, g2, stF_no _ _ _ _ _ _ _ (by decide +kernel) (by decide +kernel) (by decide +kernel) (by decide +kernel) (by decide +kernel) (by decide +kernel) (by decide +kernel), Hs2, st2, tl2, y, al, ps, t.take at_, R, rfl, W17, hL, hl1, fun H18 q18 tl2' fr18 htl2' hSA2' hq18 => ?_⟩
      have nz2 : z2 ≠ st2 := ne_of hz7 g2 (fun z => by cases z)
      have hto7 : H17 to1 = some (.lst (iv R)) := s67 _ _ (fr15 _ _ d1 I14.ut)
      refine ⟨_, rfl, _, rfl, to1, _, rfl, .inl (SqL.of (fr18 _ _ (Ne.symm d5) hto7)), ?_⟩
      rw [iv_len]
      refine ⟨_, rfl, ?_⟩
      dsimp only [tNoPart]
      refine slT_from (fr18 _ _ nz2 hz7) fun H19 q19 s19 hq19 => ?_
      exact ⟨_, _, rfl, SameD.row (l := (CT al ps (t.take at_)).drop R.length) (s19 _ _ hq18) hq19 hl2, fun H20 s20 => q H20⟩
    clear hT
    refine ⟨by decide, by decide, for_it walk_range (fun i σ H' => ∃ (v11 v12 v13 v14 v15 : Option V) (at_ : Nat) (R : List Nat), σ = [some (.ref a), some (.ref p), some (.str (S al)), some (.ref r), some (.ref y), some (.str (S t)), some (.ref st1), some (.ref st2), some (.ref to1), some (.ref to2), some (.int (at_ : Int)), v11, v12, v13, v14, v15] ∧ Inv24 C CS y p al ps H5 H' ⟨st1, tl1, to1, Hs1, t.take at_, R⟩ ⟨st2, tl2, to2, Hs2, t.take at_, R⟩) ⟨none, none, none, none, none, 0, [], rfl, I0⟩ (fun _ _ _ _ _ => trivial) ?_ ?_⟩
    · rintro i x σ Ha Hb hi ⟨v11, v12, v13, v14, v15, at_, R, rfl, Ia⟩ ⟨rfl, hx⟩
      refine ⟨_, rfl, _, rfl, S t, rfl, zt, _, _, rfl, rfl, _, rfl, ?_⟩
      rw [S_len]
      by_cases hat : t.length ≤ at_
      · rw [decide_eq_true (by omega : (t.length : Int) ≤ (at_ : Int))]
        exact iteT (key _ _ _ _ _ _ _ _ Ia)
      rw [decide_eq_false (by omega : ¬ (t.length : Int) ≤ (at_ : Int))]
      refine iteF ⟨_, rfl, _, rfl, _, rfl, _, rfl, _, rfl, p, 41, rfl, Ia.pq.at1, by decide, fun Hc n sc hn => ⟨by show 7 ≤ sizeLine; omega, fun L hL7 => ?_⟩⟩
      have Ic := (Ia.psame sc).same (same_new (o := .lst [.int 0, .int 1, .int 2, .int 3, .int 5, .int 12, .int (n : Int)]) hL7)
      have hLv : (upd Hc L (.lst [.int 0, .int 1, .int 2, .int 3, .int 5, .int 12, .int (n : Int)])) L = some (.lst [.int 0, .int 1, .int 2, .int 3, .int 5, .int 12, .int (n : Int)]) := upd_same
      have nLp : L ≠ p := sc.at1.free hL7
      generalize upd Hc L (.lst [.int 0, .int 1, .int 2, .int 3, .int 5, .int 12, .int (n : Int)]) = Hd at Ic hLv ⊢
      refine ⟨_, rfl, p, 7, rfl, Ic.pq.at1, by decide, fun He e se he => ?_⟩
      have Ie := Ic.psame se
      obtain ⟨nn, hnn⟩ : ∃ nn : Nat, atI [V.int 0, .int 1, .int 2, .int 3, .int 5, .int 12, .int (n : Int)] (e : Int) = some (.int (nn : Int)) := by
        match e, he with
        | 0, _ => exact ⟨0, rfl⟩
        | 1, _ => exact ⟨1, rfl⟩
        | 2, _ => exact ⟨2, rfl⟩
        | 3, _ => exact ⟨3, rfl⟩
        | 4, _ => exact ⟨5, rfl⟩
        | 5, _ => exact ⟨12, rfl⟩
        | 6, _ => exact ⟨n, rfl⟩
      refine ⟨L, _, _, _, rfl, rfl, SqL.of (se.x _ _ nLp hLv), hnn, _, _, rfl, rfl, _, rfl, S t, rfl, zt, ?_⟩
      have e1 : (at_ : Int) + (nn : Int) = ((at_ + nn : Nat) : Int) := by omega
      rw [e1, cutS_mid2, show at_ + nn - at_ = nn by omega]
      obtain ⟨part, hpart⟩ : ∃ part, part = (t.drop at_).take nn := ⟨_, rfl⟩
      rw [← hpart]
      have hpm : ∀ c ∈ part, c ∈ al := fun c hc => by
        rw [hpart] at hc
        exact htm c (List.mem_of_mem_drop (List.mem_of_mem_take hc))
      have hpl2 : part.length ≤ t.length - at_ := by rw [hpart, List.length_take, List.length_drop]; omega
      have htk : t.take (at_ + part.length) = t.take at_ ++ part := by
        rw [List.take_add]
        congr 1
        have h2 : part <+: t.drop at_ := by rw [hpart]; exact List.take_prefix _ _
        exact (List.prefix_iff_eq_take.mp h2).symm
      have zp : (S part).length ≤ sizeLine := by rw [S_len]; omega
      refine ⟨_, rfl, _, rfl, S part, rfl, zp, _, _, rfl, rfl, ?_⟩
      dsimp only
      rw [S_len]
      have e2 : (at_ : Int) + (part.length : Int) = ((at_ + part.length : Nat) : Int) := by omega
      rw [e2]
      obtain ⟨at2, hat2⟩ : ∃ at2, at2 = at_ + part.length := ⟨_, rfl⟩
      rw [← hat2] at htk ⊢
      have hat2l : at2 ≤ t.length := by omega
      have hl1 : (t.take at_).length = at_ := by rw [List.length_take]; omega
      have hl2 : (t.take at2).length = at2 := by rw [List.length_take]; omega
      refine ⟨_, rfl, r, _, _, _, rfl, rfl, SqT.of (Ie.pq.tup hr5), rfl, _, rfl, _, rfl, _, rfl, _, rfl, S t, rfl, zt, ?_⟩
      rw [cutS_upto]
      refine ⟨pp, us, ps, al, t.take at2, rfl, Ie.pq.lst hppp hpp5, hps5.same Ie.pq.tt, hprop.wf, by omega, by omega, take_mem htm, by omega, fun Hf du sf hdu0 hdu => ?_⟩
      have If := Ie.same sf
      have hdu' : Hf du = some (.lst (iv (CT al ps (t.take at2)))) := hdu
      have ndu1 : du ≠ to1 := Ne.symm (ne_of_none Ie.ut hdu0)
      have ndu2 : du ≠ tl1 := Ne.symm (ne_of_none Ie.u.1.tls hdu0)
      have ndp : du ≠ p := Ie.pq.at1.free hdu0
      refine ⟨_, rfl, _, rfl, _, rfl, p, al, part, rfl, If.pq.at1, h30, hpm, by omega, fun Hg wr u i2 c sg hwr hbad hul hc => ?_⟩
      have Ig := If.psame sg
      have hdg := sg.x _ _ ndp hdu'
      refine ⟨_, rfl, p, 5, rfl, Ig.pq.at1, by decide, fun Hh e5 sh he5 => ⟨rfl, _, rfl, ?_⟩⟩
      have Ih := Ig.psame sh
      have hdh := sh.x _ _ ndp hdg
      have hwrh := sh.tup hwr
      generalize hT2 : tSeq (tIfS (tOr _ _) _ _) _ = T2
      have key2 : ∀ D Hx, (∀ σ H', (∃ (v11 v12 v13 v14 v15 : Option V) (at_ : Nat) (R : List Nat), σ = [some (.ref a), some (.ref p), some (.str (S al)), some (.ref r), some (.ref y), some (.str (S t)), some (.ref st1), some (.ref st2), some (.ref to1), some (.ref to2), some (.int (at_ : Int)), v11, v12, v13, v14, v15] ∧ Inv24 C CS y p al ps H5 H' ⟨st1, tl1, to1, Hs1, t.take at_, R⟩ ⟨st2, tl2, to2, Hs2, t.take at_, R⟩) → D.nx σ H') → Inv24 C CS y p al ps H5 Hx ⟨st1, tl1, to1, Hs1, t.take at_, R⟩ ⟨st2, tl2, to2, Hs2, t.take at_, R⟩ → Hx du = some (.lst (iv (CT al ps (t.take at2)))) → T2 D [some (.ref a), some (.ref p), some (.str (S al)), some (.ref r), some (.ref y), some (.str (S t)), some (.ref st1), some (.ref st2), some (.ref to1), some (.ref to2), some (.int (at2 : Int)), some x, some (.str (S part)), some (.ref du), some (.ref wr), v15] Hx := by
        subst hT2
        intro D Hx hD Ix hdx
        obtain ⟨d1, d2, d3, d4, d5, d6, d7, d8, d9, d10, d11⟩ := Ix.dist
        refine ⟨_, rfl, _, rfl, _, rfl, _, rfl, Hs1, st1, tl1, y, to1, du, al, ps, t.take at_, part, R, rfl, Ix.u, Ix.ut, by rw [← htk]; exact hdx, Ix.hu to1 (List.mem_cons_of_mem _ (by simp [adrV])), d1, d2, ndu1, ndu2, hL, hpm, by omega, fun Hy R' fr hSA' hpre hto' => ⟨_, rfl, iteF ?_⟩⟩
        have Iy := Ix.fed fr hSA' hto'
        rw [← htk] at Iy
        refine ⟨_, rfl, _, rfl, r, _, _, _, rfl, rfl, SqT.of (Iy.pq.tup hr5), rfl, _, rfl, _, rfl, _, rfl, _, rfl, S t, rfl, zt, ?_⟩
        rw [cutS_upto]
        refine ⟨Hs1, st1, tl1, y, to1, tx, al, ps, t.take at2, R', rfl, Iy.u, Iy.ut, Iy.pq.lst htxp htx5, hL, by omega, fun Hz sz => ⟨_, rfl, iteF ?_⟩⟩
        have Iz := Iy.same sz
        refine ⟨_, rfl, _, rfl, S part, rfl, zp, _, _, rfl, rfl, _, rfl, (at_ : Int), (at2 : Int), ?_, ?_⟩
        · show [V.int ((at2 : Int) - ((S part).length : Int)), V.int (at2 : Int)] = _
          rw [S_len, show (at2 : Int) - (part.length : Int) = (at_ : Int) by omega]
        refine ⟨by omega, for_it walk_range (fun j σ H' => ∃ (v15 : Option V) (R2 : List Nat), σ = [some (.ref a), some (.ref p), some (.str (S al)), some (.ref r), some (.ref y), some (.str (S t)), some (.ref st1), some (.ref st2), some (.ref to1), some (.ref to2), some (.int (at2 : Int)), some x, some (.str (S part)), some (.ref du), some (.ref wr), v15] ∧ Inv24 C CS y p al ps H5 H' ⟨st1, tl1, to1, Hs1, t.take at2, R'⟩ ⟨st2, tl2, to2, Hs2, t.take (at_ + j), R2⟩) ⟨v15, R, rfl, Iz⟩ (fun _ _ _ _ _ => trivial) ?_ ?_⟩
        · rintro j x2 σ Hi Hj hj ⟨v15, R2, rfl, Ij⟩ ⟨rfl, hx2⟩
          obtain rfl : x2 = V.int ((at_ + j : Nat) : Int) := hx2.trans (congrArg V.int (by omega))
          have hj2 : at_ + j < at2 := by
            have : j < ((at2 : Int) - (at_ : Int)).toNat := hj
            omega
          have hjt : at_ + j < t.length := by omega
          obtain ⟨cj, hcj⟩ : ∃ cj, t[at_ + j]? = some cj := ⟨t[at_ + j], List.getElem?_eq_getElem hjt⟩
          have hl3 : (t.take (at_ + j)).length = at_ + j := by rw [List.length_take]; omega
          have hl4 : (t.take (at_ + j + 1)).length = at_ + j + 1 := by rw [List.length_take]; omega
          have htk3 : t.take (at_ + j + 1) = t.take (at_ + j) ++ [cj] := take_succ_of hcj
          have eat : atI (S t).cps.toList ((at_ + j : Nat) : Int) = some cj := atI_nat hcj
          refine ⟨_, rfl, _, rfl, _, rfl, S t, _, cj, rfl, rfl, zt, eat, _, rfl, ?_⟩
          refine ⟨_, rfl, r, _, _, _, rfl, rfl, SqT.of (Ij.pq.tup hr5), rfl, _, rfl, _, rfl, _, rfl, _, _, rfl, rfl, _, rfl, S t, rfl, zt, ?_⟩
          rw [show ((at_ + j : Nat) : Int) + 1 = ((at_ + j + 1 : Nat) : Int) from rfl, cutS_upto]
          refine ⟨pp, us, ps, al, t.take (at_ + j + 1), rfl, Ij.pq.lst hppp hpp5, hps5.same Ij.pq.tt, hprop.wf, by omega, by omega, take_mem htm, by omega, fun Hk du2 sk hdk0 hdk => ?_⟩
          have Ik := Ij.same sk
          obtain ⟨g1, g2, _⟩ := Ik.swap.dist
          refine ⟨Hs2, st2, tl2, y, to2, du2, al, ps, t.take (at_ + j), [cj], R2, rfl, Ik.w, Ik.wt, by rw [← htk3]; exact hdk, Ik.hw to2 (List.mem_cons_of_mem _ (by simp [adrV])), g1, g2, Ne.symm (ne_of_none Ij.wt hdk0), Ne.symm (ne_of_none Ij.w.1.tls hdk0), hL, (fun c hc => by rw [List.mem_singleton.mp hc]; exact htm _ (List.mem_of_getElem? hcj)), by show (t.take (at_ + j)).length + 1 ≤ 1000; omega, fun Hl R3 fr3 hSA3 hpre3 hto3 => ⟨_, rfl, iteF ⟨_, R3, rfl, ?_⟩⟩⟩
          have Il := (Ik.swap.fed fr3 hSA3 hto3).swap
          rw [← htk3] at Il
          exact Il
        · rintro σ Hi ⟨v15, R2, rfl, Ij⟩
          rw [show at_ + ((at2 : Int) - (at_ : Int)).toNat = at2 by omega] at Ij
          obtain rfl : R2 = R' := Ij.w.2.uniq Ij.u.2
          refine ⟨_, rfl, .inl ⟨to2, _, rfl, SqL.of Ij.wt, fun w1 hw1 => ?_⟩⟩
          have y1 := same_new (o := .tup (iv R2)) hw1
          have hw1' : (upd Hi w1 (.tup (iv R2))) w1 = some (.tup (iv R2)) := upd_same
          have Ik := Ij.same y1
          generalize upd Hi w1 (.tup (iv R2)) = Hj at Ik hw1' ⊢
          refine ⟨_, rfl, .inl ⟨to1, _, rfl, SqL.of Ik.ut, fun w2 hw2 => ?_⟩⟩
          have y2 := same_new (o := .tup (iv R2)) hw2
          have hRl : R2.length ≤ 1000 := by
            have : R2.length ≤ (t.take at2).length := (told_len Ik.u.2 Ik.u.1.ht).1
            omega
          exact ⟨_, _, rfl, SameD.row (l := R2) (y2 _ _ hw1') upd_same hRl, fun Hm sm => ⟨_, rfl, iteF (hD _ _ ⟨_, _, _, _, _, at2, R2, rfl, Ik.same (y2.trans sm)⟩)⟩⟩
      show (if decide (V.int (e5 : Int) = V.int 0) = true then _ else _)
      obtain ⟨eb, heb⟩ : ∃ e : Bool, e = decide (V.int (e5 : Int) = V.int 0) := ⟨_, rfl⟩
      rw [← heb]
      cases eb with
      | false => exact iteF (iteF (key2 _ _ (fun _ _ h => h) Ih hdh))
      | true =>
        refine iteT ⟨_, rfl, _, rfl, _, rfl, _, rfl, _, rfl, _, rfl, _, rfl, S part, rfl, zp, _, _, rfl, rfl, _, rfl, S t, rfl, zt, ?_⟩
        rw [S_len, show (at2 : Int) - (part.length : Int) = (at_ : Int) by omega, cutS_upto]
        refine ⟨Hs1, st1, tl1, y, wr, r, to1, tx, pp, al, ps, t.take at_, u, R, i2, c, rfl, Ih.u, hwrh, Ih.pq.tup hr5, Ih.pq.lst htxp htx5, Ih.ut, hL, by omega, hbad, by omega, by omega, fun Hi si => ⟨_, rfl, iteF (key2 _ _ (fun _ _ h => h) (Ih.same si) (si _ _ hdh))⟩⟩
    · rintro σ Hb ⟨v11, v12, v13, v14, v15, at_, R, rfl, Ia⟩
      exact key _ _ _ _ _ _ _ _ Ia
end
end RJ
end

section
set_option maxRecDepth 100000
set_option maxHeartbeats 4000000
namespace RJ
open PySem PySem.Spec PyProof.Rows L2
theorem all_mk {l : PySem.W.OpenLaw} {w : World} {K : PySem.W.Frag} {h : Heap} {mg : Str → Option Value} {fa C CS f0 f1 f2 f3 f4 f5 f6 f7 f8 f9 f10 f11 f12 f13 f14 f15 f16 f17 f18 f19 f20 f21 f22 f23 f24 f25 f26 f27 f28 f29 f30 f31 f32 f33 f34 f35 f36 f37 f38 f39 f40 f41 f42 f43 f44 f45 f46 f47 f48 f49 f50 f51 f52 f53 f54 : Addr} (X : K.In h) (G : h.Ns mainGlobals mg) (hfa : mg "law" = some (.ref fa))
    {od0 an0 od1 an1 od2 an2 od3 an3 od4 an4 od5 an5 od6 an6 od7 an7 od8 an8 od9 an9 od10 an10 od11 an11 od12 an12 od13 an13 od14 an14 od15 an15 od16 an16 od17 an17 od18 an18 od19 an19 od20 an20 od21 an21 od22 an22 od23 an23 od24 an24 od25 an25 od26 an26 od27 an27 od28 an28 od29 an29 od30 an30 od31 an31 od32 an32 od33 an33 od34 an34 od35 an35 od36 an36 od37 an37 od38 an38 od39 an39 od40 an40 od41 an41 od42 an42 od43 an43 od44 an44 od45 an45 od46 an46 od47 an47 od48 an48 od49 an49 od50 an50 od51 an51 od52 an52 od53 an53 od54 an54 : Option Addr} {sl0 sl1 sl2 sl3 sl4 sl5 sl6 sl7 sl8 sl9 sl10 sl11 sl12 sl13 sl14 sl15 sl16 sl17 sl18 sl19 sl20 sl21 sl22 sl23 sl24 sl25 sl26 sl27 sl28 sl29 sl30 sl31 sl32 sl33 sl34 sl35 sl36 sl37 sl38 sl39 sl40 sl41 sl42 sl43 sl44 sl45 sl46 sl47 sl48 sl49 sl50 sl51 sl52 sl53 sl54 : Array (Option Value)} {oc0 kV0 dc0 pm0 cd0 ct0 oc1 kV1 dc1 pm1 cd1 ct1 oc2 kV2 dc2 pm2 cd2 ct2 oc3 kV3 dc3 pm3 cd3 ct3 oc4 kV4 dc4 pm4 cd4 ct4 oc5 kV5 dc5 pm5 cd5 ct5 oc6 kV6 dc6 pm6 cd6 ct6 oc7 kV7 dc7 pm7 cd7 ct7 oc8 kV8 dc8 pm8 cd8 ct8 oc9 kV9 dc9 pm9 cd9 ct9 oc10 kV10 dc10 pm10 cd10 ct10 oc11 kV11 dc11 pm11 cd11 ct11 oc12 kV12 dc12 pm12 cd12 ct12 oc13 kV13 dc13 pm13 cd13 ct13 oc14 kV14 dc14 pm14 cd14 ct14 oc15 kV15 dc15 pm15 cd15 ct15 oc16 kV16 dc16 pm16 cd16 ct16 oc17 kV17 dc17 pm17 cd17 ct17 oc18 kV18 dc18 pm18 cd18 ct18 oc19 kV19 dc19 pm19 cd19 ct19 oc20 kV20 dc20 pm20 cd20 ct20 oc21 kV21 dc21 pm21 cd21 ct21 oc22 kV22 dc22 pm22 cd22 ct22 oc23 kV23 dc23 pm23 cd23 ct23 oc24 kV24 dc24 pm24 cd24 ct24 oc25 kV25 dc25 pm25 cd25 ct25 oc26 kV26 dc26 pm26 cd26 ct26 oc27 kV27 dc27 pm27 cd27 ct27 oc28 kV28 dc28 pm28 cd28 ct28 oc29 kV29 dc29 pm29 cd29 ct29 oc30 kV30 dc30 pm30 cd30 ct30 oc31 kV31 dc31 pm31 cd31 ct31 oc32 kV32 dc32 pm32 cd32 ct32 oc33 kV33 dc33 pm33 cd33 ct33 oc34 kV34 dc34 pm34 cd34 ct34 oc35 kV35 dc35 pm35 cd35 ct35 oc36 kV36 dc36 pm36 cd36 ct36 oc37 kV37 dc37 pm37 cd37 ct37 oc38 kV38 dc38 pm38 cd38 ct38 oc39 kV39 dc39 pm39 cd39 ct39 oc40 kV40 dc40 pm40 cd40 ct40 oc41 kV41 dc41 pm41 cd41 ct41 oc42 kV42 dc42 pm42 cd42 ct42 oc43 kV43 dc43 pm43 cd43 ct43 oc44 kV44 dc44 pm44 cd44 ct44 oc45 kV45 dc45 pm45 cd45 ct45 oc46 kV46 dc46 pm46 cd46 ct46 oc47 kV47 dc47 pm47 cd47 ct47 oc48 kV48 dc48 pm48 cd48 ct48 oc49 kV49 dc49 pm49 cd49 ct49 oc50 kV50 dc50 pm50 cd50 ct50 oc51 kV51 dc51 pm51 cd51 ct51 oc52 kV52 dc52 pm52 cd52 ct52 oc53 kV53 dc53 pm53 cd53 ct53 oc54 kV54 dc54 pm54 cd54 ct54 : Value} {tk0 tk1 : Tok} {pp11 pp38 pp39 : Addr} {rest11 rest38 rest39 : List Value} {CUnknownSign CInvalidNumber CNoPiece CNotCut CInvalidAlphabet CInvalidModel CInvalidText CNoChance CNotProper CJoinError FUnknownSign cdaUnknownSign ccUnknownSign NUnknownSign : Addr} {odUnknownSign anUnknownSign cddUnknownSign cldUnknownSign ddUnknownSign : Option Addr} {slUnknownSign ccsUnknownSign cslUnknownSign : Array (Option Value)} {vsUnknownSign : Array Value} {ocUnknownSign kVUnknownSign dcUnknownSign pmUnknownSign ctUnknownSign cclUnknownSign clUnknownSign : Value} {fileUnknownSign nmUnknownSign qUnknownSign : Str} {tfUnknownSign : Tok} {bsUnknownSign bmUnknownSign subUnknownSign : List Value} {snUnknownSign : List Str} {abUnknownSign : Bool} {colUnknownSign : Option Bool} {k0UnknownSign k1UnknownSign k2UnknownSign k3UnknownSign k5UnknownSign : Option Value}
    (aC : PySem.W.nsIn K mainGlobals "Joins" = some (some (.ref C))) (aCS : PySem.W.nsIn K mainGlobals "Stream" = some (some (.ref CS))) (a0 : PySem.W.nsIn K mainGlobals "is_integer" = some (some (.ref f0))) (l0 : K.lookup f0 = some ⟨oc0, od0, .func (PySem.W.fnOf "is_integer" "is_integer" (C8.fnArgs s_is_integer) (C8.fnBody s_is_integer) (C8.fnScope s_is_integer) .none kV0 dc0 pm0 an0 cd0 ct0), sl0⟩)
    (c0 : PySem.W.codeIn K cd0 "is_integer" = true) (k0 : PySem.W.keepIn K (.ref f0) = true) (a1 : PySem.W.nsIn K mainGlobals "is_number_below" = some (some (.ref f1))) (l1 : K.lookup f1 = some ⟨oc1, od1, .func (PySem.W.fnOf "is_number_below" "is_number_below" (C8.fnArgs s_is_number_below) (C8.fnBody s_is_number_below) (C8.fnScope s_is_number_below) .none kV1 dc1 pm1 an1 cd1 ct1), sl1⟩)
    (c1 : PySem.W.codeIn K cd1 "is_number_below" = true) (k1 : PySem.W.keepIn K (.ref f1) = true) (a2 : PySem.W.nsIn K mainGlobals "is_sign" = some (some (.ref f2))) (l2 : K.lookup f2 = some ⟨oc2, od2, .func (PySem.W.fnOf "is_sign" "is_sign" (C8.fnArgs s_is_sign) (C8.fnBody s_is_sign) (C8.fnScope s_is_sign) .none kV2 dc2 pm2 an2 cd2 ct2), sl2⟩)
    (c2 : PySem.W.codeIn K cd2 "is_sign" = true) (k2 : PySem.W.keepIn K (.ref f2) = true) (a3 : PySem.W.nsIn K mainGlobals "is_alphabet" = some (some (.ref f3))) (l3 : K.lookup f3 = some ⟨oc3, od3, .func (PySem.W.fnOf "is_alphabet" "is_alphabet" (C8.fnArgs s_is_alphabet) (C8.fnBody s_is_alphabet) (C8.fnScope s_is_alphabet) .none kV3 dc3 pm3 an3 cd3 ct3), sl3⟩)
    (c3 : PySem.W.codeIn K cd3 "is_alphabet" = true) (k3 : PySem.W.keepIn K (.ref f3) = true) (a4 : PySem.W.nsIn K mainGlobals "check_alphabet" = some (some (.ref f4))) (l4 : K.lookup f4 = some ⟨oc4, od4, .func (PySem.W.fnOf "check_alphabet" "check_alphabet" (C8.fnArgs s_check_alphabet) (C8.fnBody s_check_alphabet) (C8.fnScope s_check_alphabet) .none kV4 dc4 pm4 an4 cd4 ct4), sl4⟩)
    (c4 : PySem.W.codeIn K cd4 "check_alphabet" = true) (k4 : PySem.W.keepIn K (.ref f4) = true) (a5 : PySem.W.nsIn K mainGlobals "letter_row" = some (some (.ref f5))) (l5 : K.lookup f5 = some ⟨oc5, od5, .func (PySem.W.fnOf "letter_row" "letter_row" (C8.fnArgs s_letter_row) (C8.fnBody s_letter_row) (C8.fnScope s_letter_row) .none kV5 dc5 pm5 an5 cd5 ct5), sl5⟩)
    (c5 : PySem.W.codeIn K cd5 "letter_row" = true) (k5 : PySem.W.keepIn K (.ref f5) = true) (a6 : PySem.W.nsIn K mainGlobals "join_neighbors" = some (some (.ref f6))) (l6 : K.lookup f6 = some ⟨oc6, od6, .func (PySem.W.fnOf "join_neighbors" "join_neighbors" (C8.fnArgs s_join_neighbors) (C8.fnBody s_join_neighbors) (C8.fnScope s_join_neighbors) .none kV6 dc6 pm6 an6 cd6 ct6), sl6⟩)
    (c6 : PySem.W.codeIn K cd6 "join_neighbors" = true) (k6 : PySem.W.keepIn K (.ref f6) = true) (a7 : PySem.W.nsIn K mainGlobals "lowest_join" = some (some (.ref f7))) (l7 : K.lookup f7 = some ⟨oc7, od7, .func (PySem.W.fnOf "lowest_join" "lowest_join" (C8.fnArgs s_lowest_join) (C8.fnBody s_lowest_join) (C8.fnScope s_lowest_join) .none kV7 dc7 pm7 an7 cd7 ct7), sl7⟩)
    (c7 : PySem.W.codeIn K cd7 "lowest_join" = true) (k7 : PySem.W.keepIn K (.ref f7) = true) (a8 : PySem.W.nsIn K mainGlobals "join_down" = some (some (.ref f8))) (l8 : K.lookup f8 = some ⟨oc8, od8, .func (PySem.W.fnOf "join_down" "join_down" (C8.fnArgs s_join_down) (C8.fnBody s_join_down) (C8.fnScope s_join_down) .none kV8 dc8 pm8 an8 cd8 ct8), sl8⟩)
    (c8 : PySem.W.codeIn K cd8 "join_down" = true) (k8 : PySem.W.keepIn K (.ref f8) = true) (a9 : PySem.W.nsIn K mainGlobals "may_follow" = some (some (.ref f9))) (l9 : K.lookup f9 = some ⟨oc9, od9, .func (PySem.W.fnOf "may_follow" "may_follow" (C8.fnArgs s_may_follow) (C8.fnBody s_may_follow) (C8.fnScope s_may_follow) .none kV9 dc9 pm9 an9 cd9 ct9), sl9⟩)
    (c9 : PySem.W.codeIn K cd9 "may_follow" = true) (k9 : PySem.W.keepIn K (.ref f9) = true) (a10 : PySem.W.findIn K (.ref C) "__init__" = some (some (.ref f10))) (i10 : PySem.W.isFn K (.ref f10) = true)
    (l10 : K.lookup f10 = some ⟨oc10, od10, .func (PySem.W.fnOf "__init__" "Joins.__init__" (C8.fnArgs s_Joins___init__) (C8.fnBody s_Joins___init__) (C8.fnScope s_Joins___init__) .none kV10 dc10 pm10 an10 cd10 ct10), sl10⟩) (c10 : PySem.W.codeIn K cd10 "Joins.__init__" = true) (k10 : PySem.W.keepIn K (.ref f10) = true) (a11 : PySem.W.findIn K (.ref C) "pieces" = some (some (.ref pp11)))
    (s11 : PySem.W.specialIn K (.ref pp11) "__get__" = some (some (.builtin "property.__get__"))) (t11 : PySem.W.takesIn K (.ref pp11) = some true) (r11 : PySem.W.recIn K pp11 "property" = some (.ref f11 :: rest11)) (l11 : K.lookup f11 = some ⟨oc11, od11, .func (PySem.W.fnOf "pieces" "Joins.pieces" (C8.fnArgs s_Joins_pieces) (C8.fnBody s_Joins_pieces) (C8.fnScope s_Joins_pieces) .none kV11 dc11 pm11 an11 cd11 ct11), sl11⟩)
    (c11 : PySem.W.codeIn K cd11 "Joins.pieces" = true) (k11 : PySem.W.keepIn K (.ref f11) = true) (a12 : PySem.W.findIn K (.ref C) "__iter__" = some (some (.ref f12))) (i12 : PySem.W.isFn K (.ref f12) = true)
    (l12 : K.lookup f12 = some ⟨oc12, od12, .func (PySem.W.fnOf "__iter__" "Joins.__iter__" (C8.fnArgs s_Joins___iter__) (C8.fnBody s_Joins___iter__) (C8.fnScope s_Joins___iter__) .none kV12 dc12 pm12 an12 cd12 ct12), sl12⟩) (c12 : PySem.W.codeIn K cd12 "Joins.__iter__" = true) (k12 : PySem.W.keepIn K (.ref f12) = true) (a13 : PySem.W.findIn K (.ref C) "text_of" = some (some (.ref f13)))
    (i13 : PySem.W.isFn K (.ref f13) = true) (l13 : K.lookup f13 = some ⟨oc13, od13, .func (PySem.W.fnOf "text_of" "Joins.text_of" (C8.fnArgs s_Joins_text_of) (C8.fnBody s_Joins_text_of) (C8.fnScope s_Joins_text_of) .none kV13 dc13 pm13 an13 cd13 ct13), sl13⟩) (c13 : PySem.W.codeIn K cd13 "Joins.text_of" = true) (k13 : PySem.W.keepIn K (.ref f13) = true)
    (a14 : PySem.W.findIn K (.ref C) "parts_of" = some (some (.ref f14))) (i14 : PySem.W.isFn K (.ref f14) = true) (l14 : K.lookup f14 = some ⟨oc14, od14, .func (PySem.W.fnOf "parts_of" "Joins.parts_of" (C8.fnArgs s_Joins_parts_of) (C8.fnBody s_Joins_parts_of) (C8.fnScope s_Joins_parts_of) .none kV14 dc14 pm14 an14 cd14 ct14), sl14⟩) (c14 : PySem.W.codeIn K cd14 "Joins.parts_of" = true)
    (k14 : PySem.W.keepIn K (.ref f14) = true) (a15 : PySem.W.findIn K (.ref C) "rank_of" = some (some (.ref f15))) (i15 : PySem.W.isFn K (.ref f15) = true) (l15 : K.lookup f15 = some ⟨oc15, od15, .func (PySem.W.fnOf "rank_of" "Joins.rank_of" (C8.fnArgs s_Joins_rank_of) (C8.fnBody s_Joins_rank_of) (C8.fnScope s_Joins_rank_of) .none kV15 dc15 pm15 an15 cd15 ct15), sl15⟩)
    (c15 : PySem.W.codeIn K cd15 "Joins.rank_of" = true) (k15 : PySem.W.keepIn K (.ref f15) = true) (a16 : PySem.W.findIn K (.ref C) "piece_of" = some (some (.ref f16))) (i16 : PySem.W.isFn K (.ref f16) = true)
    (l16 : K.lookup f16 = some ⟨oc16, od16, .func (PySem.W.fnOf "piece_of" "Joins.piece_of" (C8.fnArgs s_Joins_piece_of) (C8.fnBody s_Joins_piece_of) (C8.fnScope s_Joins_piece_of) .none kV16 dc16 pm16 an16 cd16 ct16), sl16⟩) (c16 : PySem.W.codeIn K cd16 "Joins.piece_of" = true) (k16 : PySem.W.keepIn K (.ref f16) = true) (a17 : PySem.W.findIn K (.ref C) "has_piece" = some (some (.ref f17)))
    (i17 : PySem.W.isFn K (.ref f17) = true) (l17 : K.lookup f17 = some ⟨oc17, od17, .func (PySem.W.fnOf "has_piece" "Joins.has_piece" (C8.fnArgs s_Joins_has_piece) (C8.fnBody s_Joins_has_piece) (C8.fnScope s_Joins_has_piece) .none kV17 dc17 pm17 an17 cd17 ct17), sl17⟩) (c17 : PySem.W.codeIn K cd17 "Joins.has_piece" = true) (k17 : PySem.W.keepIn K (.ref f17) = true)
    (a18 : PySem.W.findIn K (.ref C) "check_piece" = some (some (.ref f18))) (i18 : PySem.W.isFn K (.ref f18) = true) (l18 : K.lookup f18 = some ⟨oc18, od18, .func (PySem.W.fnOf "check_piece" "Joins.check_piece" (C8.fnArgs s_Joins_check_piece) (C8.fnBody s_Joins_check_piece) (C8.fnScope s_Joins_check_piece) .none kV18 dc18 pm18 an18 cd18 ct18), sl18⟩) (c18 : PySem.W.codeIn K cd18 "Joins.check_piece" = true)
    (k18 : PySem.W.keepIn K (.ref f18) = true) (a19 : PySem.W.nsIn K mainGlobals "spine" = some (some (.ref f19))) (l19 : K.lookup f19 = some ⟨oc19, od19, .func (PySem.W.fnOf "spine" "spine" (C8.fnArgs s_spine) (C8.fnBody s_spine) (C8.fnScope s_spine) .none kV19 dc19 pm19 an19 cd19 ct19), sl19⟩) (c19 : PySem.W.codeIn K cd19 "spine" = true)
    (k19 : PySem.W.keepIn K (.ref f19) = true) (a20 : PySem.W.nsIn K mainGlobals "right_spine" = some (some (.ref f20))) (l20 : K.lookup f20 = some ⟨oc20, od20, .func (PySem.W.fnOf "right_spine" "right_spine" (C8.fnArgs s_right_spine) (C8.fnBody s_right_spine) (C8.fnScope s_right_spine) .none kV20 dc20 pm20 an20 cd20 ct20), sl20⟩) (c20 : PySem.W.codeIn K cd20 "right_spine" = true)
    (k20 : PySem.W.keepIn K (.ref f20) = true) (a21 : PySem.W.nsIn K mainGlobals "left_spine" = some (some (.ref f21))) (l21 : K.lookup f21 = some ⟨oc21, od21, .func (PySem.W.fnOf "left_spine" "left_spine" (C8.fnArgs s_left_spine) (C8.fnBody s_left_spine) (C8.fnScope s_left_spine) .none kV21 dc21 pm21 an21 cd21 ct21), sl21⟩) (c21 : PySem.W.codeIn K cd21 "left_spine" = true)
    (k21 : PySem.W.keepIn K (.ref f21) = true) (a22 : PySem.W.nsIn K mainGlobals "is_ahead_in_left" = some (some (.ref f22))) (l22 : K.lookup f22 = some ⟨oc22, od22, .func (PySem.W.fnOf "is_ahead_in_left" "is_ahead_in_left" (C8.fnArgs s_is_ahead_in_left) (C8.fnBody s_is_ahead_in_left) (C8.fnScope s_is_ahead_in_left) .none kV22 dc22 pm22 an22 cd22 ct22), sl22⟩) (c22 : PySem.W.codeIn K cd22 "is_ahead_in_left" = true)
    (k22 : PySem.W.keepIn K (.ref f22) = true) (a23 : PySem.W.nsIn K mainGlobals "is_ahead_in_right" = some (some (.ref f23))) (l23 : K.lookup f23 = some ⟨oc23, od23, .func (PySem.W.fnOf "is_ahead_in_right" "is_ahead_in_right" (C8.fnArgs s_is_ahead_in_right) (C8.fnBody s_is_ahead_in_right) (C8.fnScope s_is_ahead_in_right) .none kV23 dc23 pm23 an23 cd23 ct23), sl23⟩) (c23 : PySem.W.codeIn K cd23 "is_ahead_in_right" = true)
    (k23 : PySem.W.keepIn K (.ref f23) = true) (a24 : PySem.W.nsIn K mainGlobals "following_masks" = some (some (.ref f24))) (l24 : K.lookup f24 = some ⟨oc24, od24, .func (PySem.W.fnOf "following_masks" "following_masks" (C8.fnArgs s_following_masks) (C8.fnBody s_following_masks) (C8.fnScope s_following_masks) .none kV24 dc24 pm24 an24 cd24 ct24), sl24⟩) (c24 : PySem.W.codeIn K cd24 "following_masks" = true)
    (k24 : PySem.W.keepIn K (.ref f24) = true) (a25 : PySem.W.nsIn K mainGlobals "letters_of" = some (some (.ref f25))) (l25 : K.lookup f25 = some ⟨oc25, od25, .func (PySem.W.fnOf "letters_of" "letters_of" (C8.fnArgs s_letters_of) (C8.fnBody s_letters_of) (C8.fnScope s_letters_of) .none kV25 dc25 pm25 an25 cd25 ct25), sl25⟩) (c25 : PySem.W.codeIn K cd25 "letters_of" = true)
    (k25 : PySem.W.keepIn K (.ref f25) = true) (a26 : PySem.W.nsIn K mainGlobals "text_of_row" = some (some (.ref f26))) (l26 : K.lookup f26 = some ⟨oc26, od26, .func (PySem.W.fnOf "text_of_row" "text_of_row" (C8.fnArgs s_text_of_row) (C8.fnBody s_text_of_row) (C8.fnScope s_text_of_row) .none kV26 dc26 pm26 an26 cd26 ct26), sl26⟩) (c26 : PySem.W.codeIn K cd26 "text_of_row" = true)
    (k26 : PySem.W.keepIn K (.ref f26) = true) (a27 : PySem.W.nsIn K mainGlobals "is_tail" = some (some (.ref f27))) (l27 : K.lookup f27 = some ⟨oc27, od27, .func (PySem.W.fnOf "is_tail" "is_tail" (C8.fnArgs s_is_tail) (C8.fnBody s_is_tail) (C8.fnScope s_is_tail) .none kV27 dc27 pm27 an27 cd27 ct27), sl27⟩) (c27 : PySem.W.codeIn K cd27 "is_tail" = true)
    (k27 : PySem.W.keepIn K (.ref f27) = true) (a28 : PySem.W.nsIn K mainGlobals "next_tail" = some (some (.ref f28))) (l28 : K.lookup f28 = some ⟨oc28, od28, .func (PySem.W.fnOf "next_tail" "next_tail" (C8.fnArgs s_next_tail) (C8.fnBody s_next_tail) (C8.fnScope s_next_tail) .none kV28 dc28 pm28 an28 cd28 ct28), sl28⟩) (c28 : PySem.W.codeIn K cd28 "next_tail" = true)
    (k28 : PySem.W.keepIn K (.ref f28) = true) (a29 : PySem.W.nsIn K mainGlobals "chain" = some (some (.ref f29))) (l29 : K.lookup f29 = some ⟨oc29, od29, .func (PySem.W.fnOf "chain" "chain" (C8.fnArgs s_chain) (C8.fnBody s_chain) (C8.fnScope s_chain) .none kV29 dc29 pm29 an29 cd29 ct29), sl29⟩) (c29 : PySem.W.codeIn K cd29 "chain" = true)
    (k29 : PySem.W.keepIn K (.ref f29) = true) (a30 : PySem.W.nsIn K mainGlobals "pieces_by_beginning" = some (some (.ref f30))) (l30 : K.lookup f30 = some ⟨oc30, od30, .func (PySem.W.fnOf "pieces_by_beginning" "pieces_by_beginning" (C8.fnArgs s_pieces_by_beginning) (C8.fnBody s_pieces_by_beginning) (C8.fnScope s_pieces_by_beginning) .none kV30 dc30 pm30 an30 cd30 ct30), sl30⟩) (c30 : PySem.W.codeIn K cd30 "pieces_by_beginning" = true)
    (k30 : PySem.W.keepIn K (.ref f30) = true) (a31 : PySem.W.nsIn K mainGlobals "covers_of" = some (some (.ref f31))) (l31 : K.lookup f31 = some ⟨oc31, od31, .func (PySem.W.fnOf "covers_of" "covers_of" (C8.fnArgs s_covers_of) (C8.fnBody s_covers_of) (C8.fnScope s_covers_of) .none kV31 dc31 pm31 an31 cd31 ct31), sl31⟩) (c31 : PySem.W.codeIn K cd31 "covers_of" = true)
    (k31 : PySem.W.keepIn K (.ref f31) = true) (a32 : PySem.W.nsIn K mainGlobals "common_begin" = some (some (.ref f32))) (l32 : K.lookup f32 = some ⟨oc32, od32, .func (PySem.W.fnOf "common_begin" "common_begin" (C8.fnArgs s_common_begin) (C8.fnBody s_common_begin) (C8.fnScope s_common_begin) .none kV32 dc32 pm32 an32 cd32 ct32), sl32⟩) (c32 : PySem.W.codeIn K cd32 "common_begin" = true)
    (k32 : PySem.W.keepIn K (.ref f32) = true) (a33 : PySem.W.findIn K (.ref CS) "__init__" = some (some (.ref f33))) (i33 : PySem.W.isFn K (.ref f33) = true) (l33 : K.lookup f33 = some ⟨oc33, od33, .func (PySem.W.fnOf "__init__" "Stream.__init__" (C8.fnArgs s_Stream___init__) (C8.fnBody s_Stream___init__) (C8.fnScope s_Stream___init__) .none kV33 dc33 pm33 an33 cd33 ct33), sl33⟩)
    (c33 : PySem.W.codeIn K cd33 "Stream.__init__" = true) (k33 : PySem.W.keepIn K (.ref f33) = true) (a34 : PySem.W.findIn K (.ref CS) "begin_anew" = some (some (.ref f34))) (i34 : PySem.W.isFn K (.ref f34) = true)
    (l34 : K.lookup f34 = some ⟨oc34, od34, .func (PySem.W.fnOf "begin_anew" "Stream.begin_anew" (C8.fnArgs s_Stream_begin_anew) (C8.fnBody s_Stream_begin_anew) (C8.fnScope s_Stream_begin_anew) .none kV34 dc34 pm34 an34 cd34 ct34), sl34⟩) (c34 : PySem.W.codeIn K cd34 "Stream.begin_anew" = true) (k34 : PySem.W.keepIn K (.ref f34) = true) (a35 : PySem.W.findIn K (.ref CS) "feed" = some (some (.ref f35)))
    (i35 : PySem.W.isFn K (.ref f35) = true) (l35 : K.lookup f35 = some ⟨oc35, od35, .func (PySem.W.fnOf "feed" "Stream.feed" (C8.fnArgs s_Stream_feed) (C8.fnBody s_Stream_feed) (C8.fnScope s_Stream_feed) .none kV35 dc35 pm35 an35 cd35 ct35), sl35⟩) (c35 : PySem.W.codeIn K cd35 "Stream.feed" = true) (k35 : PySem.W.keepIn K (.ref f35) = true)
    (a36 : PySem.W.findIn K (.ref CS) "sure_row" = some (some (.ref f36))) (i36 : PySem.W.isFn K (.ref f36) = true) (l36 : K.lookup f36 = some ⟨oc36, od36, .func (PySem.W.fnOf "sure_row" "Stream.sure_row" (C8.fnArgs s_Stream_sure_row) (C8.fnBody s_Stream_sure_row) (C8.fnScope s_Stream_sure_row) .none kV36 dc36 pm36 an36 cd36 ct36), sl36⟩) (c36 : PySem.W.codeIn K cd36 "Stream.sure_row" = true)
    (k36 : PySem.W.keepIn K (.ref f36) = true) (a37 : PySem.W.findIn K (.ref CS) "finish" = some (some (.ref f37))) (i37 : PySem.W.isFn K (.ref f37) = true) (l37 : K.lookup f37 = some ⟨oc37, od37, .func (PySem.W.fnOf "finish" "Stream.finish" (C8.fnArgs s_Stream_finish) (C8.fnBody s_Stream_finish) (C8.fnScope s_Stream_finish) .none kV37 dc37 pm37 an37 cd37 ct37), sl37⟩)
    (c37 : PySem.W.codeIn K cd37 "Stream.finish" = true) (k37 : PySem.W.keepIn K (.ref f37) = true) (a38 : PySem.W.findIn K (.ref CS) "told" = some (some (.ref pp38))) (s38 : PySem.W.specialIn K (.ref pp38) "__get__" = some (some (.builtin "property.__get__")))
    (t38 : PySem.W.takesIn K (.ref pp38) = some true) (r38 : PySem.W.recIn K pp38 "property" = some (.ref f38 :: rest38)) (l38 : K.lookup f38 = some ⟨oc38, od38, .func (PySem.W.fnOf "told" "Stream.told" (C8.fnArgs s_Stream_told) (C8.fnBody s_Stream_told) (C8.fnScope s_Stream_told) .none kV38 dc38 pm38 an38 cd38 ct38), sl38⟩) (c38 : PySem.W.codeIn K cd38 "Stream.told" = true)
    (k38 : PySem.W.keepIn K (.ref f38) = true) (a39 : PySem.W.findIn K (.ref CS) "waiting" = some (some (.ref pp39))) (s39 : PySem.W.specialIn K (.ref pp39) "__get__" = some (some (.builtin "property.__get__"))) (t39 : PySem.W.takesIn K (.ref pp39) = some true)
    (r39 : PySem.W.recIn K pp39 "property" = some (.ref f39 :: rest39)) (l39 : K.lookup f39 = some ⟨oc39, od39, .func (PySem.W.fnOf "waiting" "Stream.waiting" (C8.fnArgs s_Stream_waiting) (C8.fnBody s_Stream_waiting) (C8.fnScope s_Stream_waiting) .none kV39 dc39 pm39 an39 cd39 ct39), sl39⟩) (c39 : PySem.W.codeIn K cd39 "Stream.waiting" = true) (k39 : PySem.W.keepIn K (.ref f39) = true)
    (a40 : PySem.W.nsIn K mainGlobals "_law_pool" = some (some (.ref f40))) (l40 : K.lookup f40 = some ⟨oc40, od40, .func (PySem.W.fnOf "_law_pool" "_law_pool" (C8.fnArgs s__law_pool) (C8.fnBody s__law_pool) (C8.fnScope s__law_pool) .none kV40 dc40 pm40 an40 cd40 ct40), sl40⟩) (c40 : PySem.W.codeIn K cd40 "_law_pool" = true) (k40 : PySem.W.keepIn K (.ref f40) = true)
    (a41 : PySem.W.nsIn K mainGlobals "_law_draw" = some (some (.ref f41))) (l41 : K.lookup f41 = some ⟨oc41, od41, .func (PySem.W.fnOf "_law_draw" "_law_draw" (C8.fnArgs s__law_draw) (C8.fnBody s__law_draw) (C8.fnScope s__law_draw) .none kV41 dc41 pm41 an41 cd41 ct41), sl41⟩) (c41 : PySem.W.codeIn K cd41 "_law_draw" = true) (k41 : PySem.W.keepIn K (.ref f41) = true)
    (a42 : PySem.W.nsIn K mainGlobals "_law_alphabet" = some (some (.ref f42))) (l42 : K.lookup f42 = some ⟨oc42, od42, .func (PySem.W.fnOf "_law_alphabet" "_law_alphabet" (C8.fnArgs s__law_alphabet) (C8.fnBody s__law_alphabet) (C8.fnScope s__law_alphabet) .none kV42 dc42 pm42 an42 cd42 ct42), sl42⟩) (c42 : PySem.W.codeIn K cd42 "_law_alphabet" = true) (k42 : PySem.W.keepIn K (.ref f42) = true)
    (a43 : PySem.W.nsIn K mainGlobals "_law_staged" = some (some (.ref f43))) (l43 : K.lookup f43 = some ⟨oc43, od43, .func (PySem.W.fnOf "_law_staged" "_law_staged" (C8.fnArgs s__law_staged) (C8.fnBody s__law_staged) (C8.fnScope s__law_staged) .none kV43 dc43 pm43 an43 cd43 ct43), sl43⟩) (c43 : PySem.W.codeIn K cd43 "_law_staged" = true) (k43 : PySem.W.keepIn K (.ref f43) = true)
    (a44 : PySem.W.nsIn K mainGlobals "_law_cut" = some (some (.ref f44))) (l44 : K.lookup f44 = some ⟨oc44, od44, .func (PySem.W.fnOf "_law_cut" "_law_cut" (C8.fnArgs s__law_cut) (C8.fnBody s__law_cut) (C8.fnScope s__law_cut) .none kV44 dc44 pm44 an44 cd44 ct44), sl44⟩) (c44 : PySem.W.codeIn K cd44 "_law_cut" = true) (k44 : PySem.W.keepIn K (.ref f44) = true)
    (a45 : PySem.W.nsIn K mainGlobals "_law_pairs" = some (some (.ref f45))) (l45 : K.lookup f45 = some ⟨oc45, od45, .func (PySem.W.fnOf "_law_pairs" "_law_pairs" (C8.fnArgs s__law_pairs) (C8.fnBody s__law_pairs) (C8.fnScope s__law_pairs) .none kV45 dc45 pm45 an45 cd45 ct45), sl45⟩) (c45 : PySem.W.codeIn K cd45 "_law_pairs" = true) (k45 : PySem.W.keepIn K (.ref f45) = true)
    (a46 : PySem.W.nsIn K mainGlobals "_law_text" = some (some (.ref f46))) (l46 : K.lookup f46 = some ⟨oc46, od46, .func (PySem.W.fnOf "_law_text" "_law_text" (C8.fnArgs s__law_text) (C8.fnBody s__law_text) (C8.fnScope s__law_text) .none kV46 dc46 pm46 an46 cd46 ct46), sl46⟩) (c46 : PySem.W.codeIn K cd46 "_law_text" = true) (k46 : PySem.W.keepIn K (.ref f46) = true)
    (a47 : PySem.W.nsIn K mainGlobals "_law_stranger" = some (some (.ref f47))) (l47 : K.lookup f47 = some ⟨oc47, od47, .func (PySem.W.fnOf "_law_stranger" "_law_stranger" (C8.fnArgs s__law_stranger) (C8.fnBody s__law_stranger) (C8.fnScope s__law_stranger) .none kV47 dc47 pm47 an47 cd47 ct47), sl47⟩) (c47 : PySem.W.codeIn K cd47 "_law_stranger" = true) (k47 : PySem.W.keepIn K (.ref f47) = true)
    (a48 : PySem.W.nsIn K mainGlobals "_law_with_strangers" = some (some (.ref f48))) (l48 : K.lookup f48 = some ⟨oc48, od48, .func (PySem.W.fnOf "_law_with_strangers" "_law_with_strangers" (C8.fnArgs s__law_with_strangers) (C8.fnBody s__law_with_strangers) (C8.fnScope s__law_with_strangers) .none kV48 dc48 pm48 an48 cd48 ct48), sl48⟩) (c48 : PySem.W.codeIn K cd48 "_law_with_strangers" = true) (k48 : PySem.W.keepIn K (.ref f48) = true)
    (a49 : PySem.W.nsIn K mainGlobals "_law_same" = some (some (.ref f49))) (l49 : K.lookup f49 = some ⟨oc49, od49, .func (PySem.W.fnOf "_law_same" "_law_same" (C8.fnArgs s__law_same) (C8.fnBody s__law_same) (C8.fnScope s__law_same) .none kV49 dc49 pm49 an49 cd49 ct49), sl49⟩) (c49 : PySem.W.codeIn K cd49 "_law_same" = true) (k49 : PySem.W.keepIn K (.ref f49) = true)
    (a50 : PySem.W.nsIn K mainGlobals "_law_alone" = some (some (.ref f50))) (l50 : K.lookup f50 = some ⟨oc50, od50, .func (PySem.W.fnOf "_law_alone" "_law_alone" (C8.fnArgs s__law_alone) (C8.fnBody s__law_alone) (C8.fnScope s__law_alone) .none kV50 dc50 pm50 an50 cd50 ct50), sl50⟩) (c50 : PySem.W.codeIn K cd50 "_law_alone" = true) (k50 : PySem.W.keepIn K (.ref f50) = true)
    (a51 : PySem.W.nsIn K mainGlobals "_law_fed" = some (some (.ref f51))) (l51 : K.lookup f51 = some ⟨oc51, od51, .func (PySem.W.fnOf "_law_fed" "_law_fed" (C8.fnArgs s__law_fed) (C8.fnBody s__law_fed) (C8.fnScope s__law_fed) .none kV51 dc51 pm51 an51 cd51 ct51), sl51⟩) (c51 : PySem.W.codeIn K cd51 "_law_fed" = true) (k51 : PySem.W.keepIn K (.ref f51) = true)
    (a52 : PySem.W.nsIn K mainGlobals "_law_waits" = some (some (.ref f52))) (l52 : K.lookup f52 = some ⟨oc52, od52, .func (PySem.W.fnOf "_law_waits" "_law_waits" (C8.fnArgs s__law_waits) (C8.fnBody s__law_waits) (C8.fnScope s__law_waits) .none kV52 dc52 pm52 an52 cd52 ct52), sl52⟩) (c52 : PySem.W.codeIn K cd52 "_law_waits" = true) (k52 : PySem.W.keepIn K (.ref f52) = true)
    (a53 : PySem.W.nsIn K mainGlobals "_law_refused" = some (some (.ref f53))) (l53 : K.lookup f53 = some ⟨oc53, od53, .func (PySem.W.fnOf "_law_refused" "_law_refused" (C8.fnArgs s__law_refused) (C8.fnBody s__law_refused) (C8.fnScope s__law_refused) .none kV53 dc53 pm53 an53 cd53 ct53), sl53⟩) (c53 : PySem.W.codeIn K cd53 "_law_refused" = true) (k53 : PySem.W.keepIn K (.ref f53) = true)
    (a54 : PySem.W.nsIn K mainGlobals "law" = some (some (.ref f54))) (l54 : K.lookup f54 = some ⟨oc54, od54, .func (PySem.W.fnOf "law" "law" (C8.fnArgs s_law) (C8.fnBody s_law) (C8.fnScope s_law) .none kV54 dc54 pm54 an54 cd54 ct54), sl54⟩) (c54 : PySem.W.codeIn K cd54 "law" = true) (k54 : PySem.W.keepIn K (.ref f54) = true)
    (pgC : PySem.W.plainGet K C Str.empty = true) (hdC : PySem.W.hasDictIn K C = true) (poC : PySem.W.plainOver K C = true) (saC : PySem.W.findIn K (.ref C) "__setattr__" = some (some (.builtin "object.__setattr__")))
    (mkC : PySem.W.makesIn K C = true) (kcC : PySem.W.keepIn K (.ref C) = true) (nC0 : PySem.W.findIn K (.ref C) "alphabet" = some none) (nC1 : PySem.W.findIn K (.ref C) "pairs" = some none)
    (nC2 : PySem.W.findIn K (.ref C) "_texts" = some none) (nC3 : PySem.W.findIn K (.ref C) "_ranks" = some none) (nC4 : PySem.W.findIn K (.ref C) "_pieces_by_text" = some none) (pgCS : PySem.W.plainGet K CS Str.empty = true)
    (hdCS : PySem.W.hasDictIn K CS = true) (poCS : PySem.W.plainOver K CS = true) (saCS : PySem.W.findIn K (.ref CS) "__setattr__" = some (some (.builtin "object.__setattr__"))) (mkCS : PySem.W.makesIn K CS = true)
    (kcCS : PySem.W.keepIn K (.ref CS) = true) (nCS0 : PySem.W.findIn K (.ref CS) "_joins" = some none) (nCS1 : PySem.W.findIn K (.ref CS) "_masks" = some none) (nCS2 : PySem.W.findIn K (.ref CS) "_beginnings" = some none)
    (nCS3 : PySem.W.findIn K (.ref CS) "_read" = some none) (nCS4 : PySem.W.findIn K (.ref CS) "_tails" = some none) (nCS5 : PySem.W.findIn K (.ref CS) "_told" = some none) (nCS6 : PySem.W.findIn K (.ref CS) "_told_letters" = some none)
    (AUnknownSign : PySem.W.nsIn K mainGlobals "UnknownSign" = some (some (.ref CUnknownSign))) (AInvalidNumber : PySem.W.nsIn K mainGlobals "InvalidNumber" = some (some (.ref CInvalidNumber))) (ANoPiece : PySem.W.nsIn K mainGlobals "NoPiece" = some (some (.ref CNoPiece))) (ANotCut : PySem.W.nsIn K mainGlobals "NotCut" = some (some (.ref CNotCut)))
    (AInvalidAlphabet : PySem.W.nsIn K mainGlobals "InvalidAlphabet" = some (some (.ref CInvalidAlphabet))) (AInvalidModel : PySem.W.nsIn K mainGlobals "InvalidModel" = some (some (.ref CInvalidModel))) (AInvalidText : PySem.W.nsIn K mainGlobals "InvalidText" = some (some (.ref CInvalidText))) (ANoChance : PySem.W.nsIn K mainGlobals "NoChance" = some (some (.ref CNoChance)))
    (ANotProper : PySem.W.nsIn K mainGlobals "NotProper" = some (some (.ref CNotProper))) (AJoinError : PySem.W.nsIn K mainGlobals "JoinError" = some (some (.ref CJoinError))) (zsuper : PySem.W.nsIn K mainGlobals "super" = some none) (zopq : PySem.W.nsIn K PySem.cStatics "thirdparty.any" = some none)
    (hn0 : PySem.W.specialIn K (.builtin "object.__class__") "__get__" = some (some (.builtin "getset_descriptor.__get__"))) (ht0 : PySem.W.takesIn K (.builtin "object.__class__") = some true) (IUnknownSign : PySem.W.findIn K (.ref CUnknownSign) "__init__" = some (some (.ref FUnknownSign))) (TUnknownSign : PySem.W.typeIn K (.ref FUnknownSign) = some (.type "function"))
    (LUnknownSign : K.lookup FUnknownSign = some ⟨ocUnknownSign, odUnknownSign, .func (PySem.W.ksFn "__init__" "UnknownSign.__init__" (C8.fnArgs s_UnknownSign___init__) (C8.fnBody s_UnknownSign___init__) (C8.fnScope s_UnknownSign___init__) .none kVUnknownSign dcUnknownSign pmUnknownSign anUnknownSign (.ref cdaUnknownSign) ctUnknownSign ccUnknownSign), slUnknownSign⟩) (DUnknownSign : PySem.W.codeIn K (.ref cdaUnknownSign) "UnknownSign.__init__" = true) (KUnknownSign : K.lookup cdaUnknownSign = some ⟨cclUnknownSign, cddUnknownSign, .fields vsUnknownSign, ccsUnknownSign⟩) (VUnknownSign : vsUnknownSign[2]? = some (.str fileUnknownSign tfUnknownSign))
    (QUnknownSign : ((l.prog.main.file : Str) == fileUnknownSign) = true) (JUnknownSign : K.lookup ccUnknownSign = some ⟨clUnknownSign, cldUnknownSign, .cell (some (.ref CUnknownSign)), cslUnknownSign⟩) (XUnknownSign : K.lookup CUnknownSign = some (excClassObj nmUnknownSign qUnknownSign CUnknownSign NUnknownSign bsUnknownSign bmUnknownSign true snUnknownSign subUnknownSign abUnknownSign colUnknownSign ddUnknownSign k0UnknownSign k1UnknownSign k2UnknownSign k3UnknownSign k5UnknownSign "ValueError.__new__")) (RUnknownSign : PySem.HandSPX.refsVE bmUnknownSign = true)
    (aUnknownSign : PySem.W.findIn K (.ref CUnknownSign) "__setattr__" = some (some (.builtin "object.__setattr__"))) (bUnknownSign : PySem.W.subIn K (.ref CUnknownSign) (.type "BaseException") = some true) (cUnknownSign : PySem.W.typeIn K (.ref CUnknownSign) = some (.type "type")) (dUnknownSign : PySem.W.keepIn K (.ref CUnknownSign) = true)
    (eUnknownSign : PySem.W.ks_superIn K CUnknownSign CUnknownSign "__init__" = some (some (.builtin "ValueError.__init__"))) (fUnknownSign : PySem.W.subIn K (.ref CUnknownSign) (.type "ValueError") = some true) (gUnknownSign : PySem.W.mroIn K CUnknownSign (.ref CUnknownSign) = some true) (hUnknownSign : PySem.W.findIn K (.ref CUnknownSign) "__getattribute__" = some (some (.builtin "BaseException.__getattribute__")))
    (iUnknownSign : PySem.W.findIn K (.ref CUnknownSign) "__getattr__" = some none) (jUnknownSign : PySem.W.findIn K (.ref CUnknownSign) "__class__" = some (some (.builtin "object.__class__"))) (kUnknownSign : PySem.W.mroIn K CUnknownSign (.type "object") = some true) (lUnknownSign : PySem.W.hasDictIn K CUnknownSign = true)
    (nUnknownSign_sign : PySem.W.findIn K (.ref CUnknownSign) "sign" = some none) (nUnknownSign_at : PySem.W.findIn K (.ref CUnknownSign) "at" = some none) (mUnknownSignJoinError : PySem.W.subIn K (.ref CUnknownSign) (.ref CJoinError) = some true) (oUnknownSignUnknownSign : PySem.W.kitOne K (.ref CUnknownSign) (.ref CUnknownSign) = some true)
    (oUnknownSignValueError : PySem.W.kitOne K (.ref CUnknownSign) (.type "ValueError") = some true) (oUnknownSignInvalidNumber : PySem.W.kitOne K (.ref CUnknownSign) (.ref CInvalidNumber) = some false) (oUnknownSignNoPiece : PySem.W.kitOne K (.ref CUnknownSign) (.ref CNoPiece) = some false) (oUnknownSignNotCut : PySem.W.kitOne K (.ref CUnknownSign) (.ref CNotCut) = some false)
    (oAnyUnknownSign : PySem.W.kitAny K (.ref CUnknownSign) [.ref CInvalidAlphabet, .ref CInvalidModel, .ref CInvalidText, .ref CNoChance, .ref CNotProper] = some false) (pJoinError : PySem.W.subIn K (.ref CJoinError) (.type "BaseException") = some true) (qJoinError : PySem.W.hasDictIn K CJoinError = true) (rJoinError : PySem.W.typeIn K (.ref CJoinError) = some (.type "type"))
    (htop : (l.prog.main.scope.names.lookup ("super" : Str)).isSome = false) (z0 : PySem.W.nsIn K mainGlobals "isinstance" = some none) (z1 : PySem.W.nsIn K mainGlobals "len" = some none) (z2 : PySem.W.nsIn K mainGlobals "min" = some none)
    (z3 : PySem.W.nsIn K mainGlobals "all" = some none) (z4 : PySem.W.nsIn K mainGlobals "abs" = some none) (z5 : PySem.W.nsIn K mainGlobals "int" = some none) (z6 : PySem.W.nsIn K mainGlobals "bool" = some none)
    (z7 : PySem.W.nsIn K mainGlobals "str" = some none) (z8 : PySem.W.nsIn K mainGlobals "tuple" = some none) (z9 : PySem.W.nsIn K mainGlobals "list" = some none) (z10 : PySem.W.nsIn K mainGlobals "zip" = some none)
    (z11 : PySem.W.nsIn K mainGlobals "enumerate" = some none) (z12 : PySem.W.nsIn K mainGlobals "range" = some none) (z13 : PySem.W.nsIn K mainGlobals "sorted" = some none) (z14 : PySem.W.nsIn K mainGlobals "max" = some none)
    (z15 : PySem.W.nsIn K mainGlobals "sum" = some none) (z16 : PySem.W.nsIn K mainGlobals "dict" = some none) (z17 : PySem.W.nsIn K mainGlobals "ValueError" = some none) (z18 : PySem.W.nsIn K mainGlobals "iter" = some none)
    (v0 : PySem.W.nsIn K mainGlobals "MOST_LETTERS" = some (some (.int 30 tk0))) (v1 : PySem.W.nsIn K mainGlobals "MOST_SIGNS_OF_PIECE" = some (some (.int 40 tk1))) :
    ∃ fd : FuncData, (∀ (s : Shared) (v : Value), BindsTo s fd ⟨[v], []⟩ [("script", v)]) ∧ ∀ base : Heap, K.In base → base.Ns mainGlobals mg → FnOk l.prog w K mg base C8.CX0 11 fa fd ["script"] (sp_law K) := by
  have e := hfa.symm.trans (PySem.W.mg_of X G a54)
  cases e
  have T : Txt K mg := ⟨PySem.W.mg_none_of X G z0, PySem.W.mg_none_of X G z1, PySem.W.mg_none_of X G z2, PySem.W.mg_none_of X G z3, PySem.W.mg_none_of X G z4, PySem.W.mg_none_of X G z5, PySem.W.mg_none_of X G z6, PySem.W.mg_none_of X G z7, PySem.W.mg_none_of X G z8, PySem.W.mg_none_of X G z9, PySem.W.mg_none_of X G z10, PySem.W.mg_none_of X G z11, PySem.W.mg_none_of X G z12, PySem.W.mg_none_of X G z13, PySem.W.mg_none_of X G z14, PySem.W.mg_none_of X G z15, PySem.W.mg_none_of X G z16, PySem.W.mg_none_of X G z17, PySem.W.mg_none_of X G z18, ⟨_, PySem.W.mg_of X G v0, ⟨_, rfl⟩⟩, ⟨_, PySem.W.mg_of X G v1, ⟨_, rfl⟩⟩⟩
  have J : JTxt K C := ⟨⟨pgC, hdC, poC, saC⟩, nC0, nC1, nC2, nC3, nC4⟩
  have JS : STxt K CS := ⟨⟨pgCS, hdCS, poCS, saCS⟩, nCS0, nCS1, nCS2, nCS3, nCS4, nCS5, nCS6⟩
  have F0 : C8.Fun K "is_integer" "is_integer" s_is_integer f0 _ := ⟨⟨_, _, _, _, _, _, _, _, _, _, rfl, l0, c0⟩⟩
  have b0 := F0.binds rfl (ps := ["value"]) fun _ _ _ _ _ _ us hl => match us, hl with | [_], _ => rfl
  have F1 : C8.Fun K "is_number_below" "is_number_below" s_is_number_below f1 _ := ⟨⟨_, _, _, _, _, _, _, _, _, _, rfl, l1, c1⟩⟩
  have b1 := F1.binds rfl (ps := ["value", "end"]) fun _ _ _ _ _ _ us hl => match us, hl with | [_, _], _ => rfl
  have F2 : C8.Fun K "is_sign" "is_sign" s_is_sign f2 _ := ⟨⟨_, _, _, _, _, _, _, _, _, _, rfl, l2, c2⟩⟩
  have b2 := F2.binds rfl (ps := ["sign"]) fun _ _ _ _ _ _ us hl => match us, hl with | [_], _ => rfl
  have F3 : C8.Fun K "is_alphabet" "is_alphabet" s_is_alphabet f3 _ := ⟨⟨_, _, _, _, _, _, _, _, _, _, rfl, l3, c3⟩⟩
  have b3 := F3.binds rfl (ps := ["text"]) fun _ _ _ _ _ _ us hl => match us, hl with | [_], _ => rfl
  have F4 : C8.Fun K "check_alphabet" "check_alphabet" s_check_alphabet f4 _ := ⟨⟨_, _, _, _, _, _, _, _, _, _, rfl, l4, c4⟩⟩
  have b4 := F4.binds rfl (ps := ["text"]) fun _ _ _ _ _ _ us hl => match us, hl with | [_], _ => rfl
  have F5 : C8.Fun K "letter_row" "letter_row" s_letter_row f5 _ := ⟨⟨_, _, _, _, _, _, _, _, _, _, rfl, l5, c5⟩⟩
  have b5 := F5.binds rfl (ps := ["alphabet", "text"]) fun _ _ _ _ _ _ us hl => match us, hl with | [_, _], _ => rfl
  have F6 : C8.Fun K "join_neighbors" "join_neighbors" s_join_neighbors f6 _ := ⟨⟨_, _, _, _, _, _, _, _, _, _, rfl, l6, c6⟩⟩
  have b6 := F6.binds rfl (ps := ["row", "pair", "piece"]) fun _ _ _ _ _ _ us hl => match us, hl with | [_, _, _], _ => rfl
  have F7 : C8.Fun K "lowest_join" "lowest_join" s_lowest_join f7 _ := ⟨⟨_, _, _, _, _, _, _, _, _, _, rfl, l7, c7⟩⟩
  have b7 := F7.binds rfl (ps := ["ranks", "row"]) fun _ _ _ _ _ _ us hl => match us, hl with | [_, _], _ => rfl
  have F8 : C8.Fun K "join_down" "join_down" s_join_down f8 _ := ⟨⟨_, _, _, _, _, _, _, _, _, _, rfl, l8, c8⟩⟩
  have b8 := F8.binds rfl (ps := ["ranks", "letters", "row"]) fun _ _ _ _ _ _ us hl => match us, hl with | [_, _, _], _ => rfl
  have F9 : C8.Fun K "may_follow" "may_follow" s_may_follow f9 _ := ⟨⟨_, _, _, _, _, _, _, _, _, _, rfl, l9, c9⟩⟩
  have b9 := F9.binds rfl (ps := ["alphabet", "texts", "ranks", "pair"]) fun _ _ _ _ _ _ us hl => match us, hl with | [_, _, _, _], _ => rfl
  have F10 : C8.Fun K "__init__" "Joins.__init__" s_Joins___init__ f10 _ := ⟨⟨_, _, _, _, _, _, _, _, _, _, rfl, l10, c10⟩⟩
  have b10 := F10.binds rfl (ps := ["self", "alphabet", "pairs"]) fun _ _ _ _ _ _ us hl => match us, hl with | [_, _, _], _ => rfl
  have F11 : C8.Fun K "pieces" "Joins.pieces" s_Joins_pieces f11 _ := ⟨⟨_, _, _, _, _, _, _, _, _, _, rfl, l11, c11⟩⟩
  have b11 := F11.binds rfl (ps := ["self"]) fun _ _ _ _ _ _ us hl => match us, hl with | [_], _ => rfl
  have F12 : C8.Fun K "__iter__" "Joins.__iter__" s_Joins___iter__ f12 _ := ⟨⟨_, _, _, _, _, _, _, _, _, _, rfl, l12, c12⟩⟩
  have b12 := F12.binds rfl (ps := ["self"]) fun _ _ _ _ _ _ us hl => match us, hl with | [_], _ => rfl
  have F13 : C8.Fun K "text_of" "Joins.text_of" s_Joins_text_of f13 _ := ⟨⟨_, _, _, _, _, _, _, _, _, _, rfl, l13, c13⟩⟩
  have b13 := F13.binds rfl (ps := ["self", "piece"]) fun _ _ _ _ _ _ us hl => match us, hl with | [_, _], _ => rfl
  have F14 : C8.Fun K "parts_of" "Joins.parts_of" s_Joins_parts_of f14 _ := ⟨⟨_, _, _, _, _, _, _, _, _, _, rfl, l14, c14⟩⟩
  have b14 := F14.binds rfl (ps := ["self", "piece"]) fun _ _ _ _ _ _ us hl => match us, hl with | [_, _], _ => rfl
  have F15 : C8.Fun K "rank_of" "Joins.rank_of" s_Joins_rank_of f15 _ := ⟨⟨_, _, _, _, _, _, _, _, _, _, rfl, l15, c15⟩⟩
  have b15 := F15.binds rfl (ps := ["self", "left", "right"]) fun _ _ _ _ _ _ us hl => match us, hl with | [_, _, _], _ => rfl
  have F16 : C8.Fun K "piece_of" "Joins.piece_of" s_Joins_piece_of f16 _ := ⟨⟨_, _, _, _, _, _, _, _, _, _, rfl, l16, c16⟩⟩
  have b16 := F16.binds rfl (ps := ["self", "text"]) fun _ _ _ _ _ _ us hl => match us, hl with | [_, _], _ => rfl
  have F17 : C8.Fun K "has_piece" "Joins.has_piece" s_Joins_has_piece f17 _ := ⟨⟨_, _, _, _, _, _, _, _, _, _, rfl, l17, c17⟩⟩
  have b17 := F17.binds rfl (ps := ["self", "piece"]) fun _ _ _ _ _ _ us hl => match us, hl with | [_, _], _ => rfl
  have F18 : C8.Fun K "check_piece" "Joins.check_piece" s_Joins_check_piece f18 _ := ⟨⟨_, _, _, _, _, _, _, _, _, _, rfl, l18, c18⟩⟩
  have b18 := F18.binds rfl (ps := ["self", "piece"]) fun _ _ _ _ _ _ us hl => match us, hl with | [_, _], _ => rfl
  have F19 : C8.Fun K "spine" "spine" s_spine f19 _ := ⟨⟨_, _, _, _, _, _, _, _, _, _, rfl, l19, c19⟩⟩
  have b19 := F19.binds rfl (ps := ["joins", "piece", "side"]) fun _ _ _ _ _ _ us hl => match us, hl with | [_, _, _], _ => rfl
  have F20 : C8.Fun K "right_spine" "right_spine" s_right_spine f20 _ := ⟨⟨_, _, _, _, _, _, _, _, _, _, rfl, l20, c20⟩⟩
  have b20 := F20.binds rfl (ps := ["joins", "piece"]) fun _ _ _ _ _ _ us hl => match us, hl with | [_, _], _ => rfl
  have F21 : C8.Fun K "left_spine" "left_spine" s_left_spine f21 _ := ⟨⟨_, _, _, _, _, _, _, _, _, _, rfl, l21, c21⟩⟩
  have b21 := F21.binds rfl (ps := ["joins", "piece"]) fun _ _ _ _ _ _ us hl => match us, hl with | [_, _], _ => rfl
  have F22 : C8.Fun K "is_ahead_in_left" "is_ahead_in_left" s_is_ahead_in_left f22 _ := ⟨⟨_, _, _, _, _, _, _, _, _, _, rfl, l22, c22⟩⟩
  have b22 := F22.binds rfl (ps := ["rank", "bound"]) fun _ _ _ _ _ _ us hl => match us, hl with | [_, _], _ => rfl
  have F23 : C8.Fun K "is_ahead_in_right" "is_ahead_in_right" s_is_ahead_in_right f23 _ := ⟨⟨_, _, _, _, _, _, _, _, _, _, rfl, l23, c23⟩⟩
  have b23 := F23.binds rfl (ps := ["rank", "bound"]) fun _ _ _ _ _ _ us hl => match us, hl with | [_, _], _ => rfl
  have F24 : C8.Fun K "following_masks" "following_masks" s_following_masks f24 _ := ⟨⟨_, _, _, _, _, _, _, _, _, _, rfl, l24, c24⟩⟩
  have b24 := F24.binds rfl (ps := ["joins"]) fun _ _ _ _ _ _ us hl => match us, hl with | [_], _ => rfl
  have F25 : C8.Fun K "letters_of" "letters_of" s_letters_of f25 _ := ⟨⟨_, _, _, _, _, _, _, _, _, _, rfl, l25, c25⟩⟩
  have b25 := F25.binds rfl (ps := ["joins", "text"]) fun _ _ _ _ _ _ us hl => match us, hl with | [_, _], _ => rfl
  have F26 : C8.Fun K "text_of_row" "text_of_row" s_text_of_row f26 _ := ⟨⟨_, _, _, _, _, _, _, _, _, _, rfl, l26, c26⟩⟩
  have b26 := F26.binds rfl (ps := ["joins", "row"]) fun _ _ _ _ _ _ us hl => match us, hl with | [_, _], _ => rfl
  have F27 : C8.Fun K "is_tail" "is_tail" s_is_tail f27 _ := ⟨⟨_, _, _, _, _, _, _, _, _, _, rfl, l27, c27⟩⟩
  have b27 := F27.binds rfl (ps := ["masks", "row_of_tails", "piece", "begin"]) fun _ _ _ _ _ _ us hl => match us, hl with | [_, _, _, _], _ => rfl
  have F28 : C8.Fun K "next_tail" "next_tail" s_next_tail f28 _ := ⟨⟨_, _, _, _, _, _, _, _, _, _, rfl, l28, c28⟩⟩
  have b28 := F28.binds rfl (ps := ["joins", "masks", "text", "row_of_tails"]) fun _ _ _ _ _ _ us hl => match us, hl with | [_, _, _, _], _ => rfl
  have F29 : C8.Fun K "chain" "chain" s_chain f29 _ := ⟨⟨_, _, _, _, _, _, _, _, _, _, rfl, l29, c29⟩⟩
  have b29 := F29.binds rfl (ps := ["joins", "row_of_tails"]) fun _ _ _ _ _ _ us hl => match us, hl with | [_, _], _ => rfl
  have F30 : C8.Fun K "pieces_by_beginning" "pieces_by_beginning" s_pieces_by_beginning f30 _ := ⟨⟨_, _, _, _, _, _, _, _, _, _, rfl, l30, c30⟩⟩
  have b30 := F30.binds rfl (ps := ["joins"]) fun _ _ _ _ _ _ us hl => match us, hl with | [_], _ => rfl
  have F31 : C8.Fun K "covers_of" "covers_of" s_covers_of f31 _ := ⟨⟨_, _, _, _, _, _, _, _, _, _, rfl, l31, c31⟩⟩
  have b31 := F31.binds rfl (ps := ["masks", "beginnings", "text", "row_of_tails"]) fun _ _ _ _ _ _ us hl => match us, hl with | [_, _, _, _], _ => rfl
  have F32 : C8.Fun K "common_begin" "common_begin" s_common_begin f32 _ := ⟨⟨_, _, _, _, _, _, _, _, _, _, rfl, l32, c32⟩⟩
  have b32 := F32.binds rfl (ps := ["joins", "row_of_tails", "begins"]) fun _ _ _ _ _ _ us hl => match us, hl with | [_, _, _], _ => rfl
  have F33 : C8.Fun K "__init__" "Stream.__init__" s_Stream___init__ f33 _ := ⟨⟨_, _, _, _, _, _, _, _, _, _, rfl, l33, c33⟩⟩
  have b33 := F33.binds rfl (ps := ["self", "joins"]) fun _ _ _ _ _ _ us hl => match us, hl with | [_, _], _ => rfl
  have F34 : C8.Fun K "begin_anew" "Stream.begin_anew" s_Stream_begin_anew f34 _ := ⟨⟨_, _, _, _, _, _, _, _, _, _, rfl, l34, c34⟩⟩
  have b34 := F34.binds rfl (ps := ["self"]) fun _ _ _ _ _ _ us hl => match us, hl with | [_], _ => rfl
  have F35 : C8.Fun K "feed" "Stream.feed" s_Stream_feed f35 _ := ⟨⟨_, _, _, _, _, _, _, _, _, _, rfl, l35, c35⟩⟩
  have b35 := F35.binds rfl (ps := ["self", "text"]) fun _ _ _ _ _ _ us hl => match us, hl with | [_, _], _ => rfl
  have F36 : C8.Fun K "sure_row" "Stream.sure_row" s_Stream_sure_row f36 _ := ⟨⟨_, _, _, _, _, _, _, _, _, _, rfl, l36, c36⟩⟩
  have b36 := F36.binds rfl (ps := ["self"]) fun _ _ _ _ _ _ us hl => match us, hl with | [_], _ => rfl
  have F37 : C8.Fun K "finish" "Stream.finish" s_Stream_finish f37 _ := ⟨⟨_, _, _, _, _, _, _, _, _, _, rfl, l37, c37⟩⟩
  have b37 := F37.binds rfl (ps := ["self"]) fun _ _ _ _ _ _ us hl => match us, hl with | [_], _ => rfl
  have F38 : C8.Fun K "told" "Stream.told" s_Stream_told f38 _ := ⟨⟨_, _, _, _, _, _, _, _, _, _, rfl, l38, c38⟩⟩
  have b38 := F38.binds rfl (ps := ["self"]) fun _ _ _ _ _ _ us hl => match us, hl with | [_], _ => rfl
  have F39 : C8.Fun K "waiting" "Stream.waiting" s_Stream_waiting f39 _ := ⟨⟨_, _, _, _, _, _, _, _, _, _, rfl, l39, c39⟩⟩
  have b39 := F39.binds rfl (ps := ["self"]) fun _ _ _ _ _ _ us hl => match us, hl with | [_], _ => rfl
  have F40 : C8.Fun K "_law_pool" "_law_pool" s__law_pool f40 _ := ⟨⟨_, _, _, _, _, _, _, _, _, _, rfl, l40, c40⟩⟩
  have b40 := F40.binds rfl (ps := ["script", "many"]) fun _ _ _ _ _ _ us hl => match us, hl with | [_, _], _ => rfl
  have F41 : C8.Fun K "_law_draw" "_law_draw" s__law_draw f41 _ := ⟨⟨_, _, _, _, _, _, _, _, _, _, rfl, l41, c41⟩⟩
  have b41 := F41.binds rfl (ps := ["pool", "many"]) fun _ _ _ _ _ _ us hl => match us, hl with | [_, _], _ => rfl
  have F42 : C8.Fun K "_law_alphabet" "_law_alphabet" s__law_alphabet f42 _ := ⟨⟨_, _, _, _, _, _, _, _, _, _, rfl, l42, c42⟩⟩
  have b42 := F42.binds rfl (ps := ["pool"]) fun _ _ _ _ _ _ us hl => match us, hl with | [_], _ => rfl
  have F43 : C8.Fun K "_law_staged" "_law_staged" s__law_staged f43 _ := ⟨⟨_, _, _, _, _, _, _, _, _, _, rfl, l43, c43⟩⟩
  have b43 := F43.binds rfl (ps := ["pairs", "letters", "row", "many"]) fun _ _ _ _ _ _ us hl => match us, hl with | [_, _, _, _], _ => rfl
  have F44 : C8.Fun K "_law_cut" "_law_cut" s__law_cut f44 _ := ⟨⟨_, _, _, _, _, _, _, _, _, _, rfl, l44, c44⟩⟩
  have b44 := F44.binds rfl (ps := ["pairs", "alphabet", "text"]) fun _ _ _ _ _ _ us hl => match us, hl with | [_, _, _], _ => rfl
  have F45 : C8.Fun K "_law_pairs" "_law_pairs" s__law_pairs f45 _ := ⟨⟨_, _, _, _, _, _, _, _, _, _, rfl, l45, c45⟩⟩
  have b45 := F45.binds rfl (ps := ["pool", "alphabet", "most"]) fun _ _ _ _ _ _ us hl => match us, hl with | [_, _, _], _ => rfl
  have F46 : C8.Fun K "_law_text" "_law_text" s__law_text f46 _ := ⟨⟨_, _, _, _, _, _, _, _, _, _, rfl, l46, c46⟩⟩
  have b46 := F46.binds rfl (ps := ["pool", "alphabet", "texts", "most"]) fun _ _ _ _ _ _ us hl => match us, hl with | [_, _, _, _], _ => rfl
  have F47 : C8.Fun K "_law_stranger" "_law_stranger" s__law_stranger f47 _ := ⟨⟨_, _, _, _, _, _, _, _, _, _, rfl, l47, c47⟩⟩
  have b47 := F47.binds rfl (ps := ["pool", "alphabet"]) fun _ _ _ _ _ _ us hl => match us, hl with | [_, _], _ => rfl
  have F48 : C8.Fun K "_law_with_strangers" "_law_with_strangers" s__law_with_strangers f48 _ := ⟨⟨_, _, _, _, _, _, _, _, _, _, rfl, l48, c48⟩⟩
  have b48 := F48.binds rfl (ps := ["pool", "alphabet", "text"]) fun _ _ _ _ _ _ us hl => match us, hl with | [_, _, _], _ => rfl
  have F49 : C8.Fun K "_law_same" "_law_same" s__law_same f49 _ := ⟨⟨_, _, _, _, _, _, _, _, _, _, rfl, l49, c49⟩⟩
  have b49 := F49.binds rfl (ps := ["told", "due"]) fun _ _ _ _ _ _ us hl => match us, hl with | [_, _], _ => rfl
  have F50 : C8.Fun K "_law_alone" "_law_alone" s__law_alone f50 _ := ⟨⟨_, _, _, _, _, _, _, _, _, _, rfl, l50, c50⟩⟩
  have b50 := F50.binds rfl (ps := ["e", "kind"]) fun _ _ _ _ _ _ us hl => match us, hl with | [_, _], _ => rfl
  have F51 : C8.Fun K "_law_fed" "_law_fed" s__law_fed f51 _ := ⟨⟨_, _, _, _, _, _, _, _, _, _, rfl, l51, c51⟩⟩
  have b51 := F51.binds rfl (ps := ["stream", "text", "told", "due"]) fun _ _ _ _ _ _ us hl => match us, hl with | [_, _, _, _], _ => rfl
  have F52 : C8.Fun K "_law_waits" "_law_waits" s__law_waits f52 _ := ⟨⟨_, _, _, _, _, _, _, _, _, _, rfl, l52, c52⟩⟩
  have b52 := F52.binds rfl (ps := ["stream", "texts", "told", "text"]) fun _ _ _ _ _ _ us hl => match us, hl with | [_, _, _, _], _ => rfl
  have F53 : C8.Fun K "_law_refused" "_law_refused" s__law_refused f53 _ := ⟨⟨_, _, _, _, _, _, _, _, _, _, rfl, l53, c53⟩⟩
  have b53 := F53.binds rfl (ps := ["stream", "wrong", "made", "told", "text"]) fun _ _ _ _ _ _ us hl => match us, hl with | [_, _, _, _, _], _ => rfl
  have F54 : C8.Fun K "law" "law" s_law fa _ := ⟨⟨_, _, _, _, _, _, _, _, _, _, rfl, l54, c54⟩⟩
  refine ⟨PySem.W.fnOf "law" "law" (C8.fnArgs s_law) (C8.fnBody s_law) (C8.fnScope s_law) .none kV54 dc54 pm54 an54 cd54 ct54, fun s v => .of_eq rfl, fun base _ _ => ?_⟩
  have GUnknownSign : mg "UnknownSign" = some (.ref CUnknownSign) := PySem.W.mg_of X G AUnknownSign
  have GInvalidNumber : mg "InvalidNumber" = some (.ref CInvalidNumber) := PySem.W.mg_of X G AInvalidNumber
  have GNoPiece : mg "NoPiece" = some (.ref CNoPiece) := PySem.W.mg_of X G ANoPiece
  have GNotCut : mg "NotCut" = some (.ref CNotCut) := PySem.W.mg_of X G ANotCut
  have GInvalidAlphabet : mg "InvalidAlphabet" = some (.ref CInvalidAlphabet) := PySem.W.mg_of X G AInvalidAlphabet
  have GInvalidModel : mg "InvalidModel" = some (.ref CInvalidModel) := PySem.W.mg_of X G AInvalidModel
  have GInvalidText : mg "InvalidText" = some (.ref CInvalidText) := PySem.W.mg_of X G AInvalidText
  have GNoChance : mg "NoChance" = some (.ref CNoChance) := PySem.W.mg_of X G ANoChance
  have GNotProper : mg "NotProper" = some (.ref CNotProper) := PySem.W.mg_of X G ANotProper
  have GJoinError : mg "JoinError" = some (.ref CJoinError) := PySem.W.mg_of X G AJoinError
  have hsuper : mg "super" = none := PySem.W.mg_none_of X G zsuper
  have eiUnknownSign : ErrI K CUnknownSign := ⟨by unfold PySem.W.clsIn; rw [XUnknownSign]; rfl, hUnknownSign, iUnknownSign, bUnknownSign, jUnknownSign, hn0, ht0, kUnknownSign, lUnknownSign⟩
  have SUnknownSign : SupF l.prog K CUnknownSign "UnknownSign.__init__" s_UnknownSign___init__ FUnknownSign _ := ⟨⟨_, _, _, _, _, _, _, _, _, _, _, rfl, LUnknownSign, DUnknownSign, ⟨_, _, _, _, _, _, KUnknownSign, VUnknownSign, QUnknownSign⟩, _, _, _, JUnknownSign⟩, htop, eUnknownSign, fUnknownSign, gUnknownSign, zopq, ⟨⟨_, _, _, _, _, _, _, _, _, _, _, _, _, _, _, XUnknownSign, RUnknownSign⟩, aUnknownSign, bUnknownSign, cUnknownSign, dUnknownSign⟩⟩
  have e0UnknownSign : ErrC l.prog w K mg base "UnknownSign" CUnknownSign (sp_err2 CUnknownSign "sign" "at" gSign) := ⟨SUnknownSign.oex, GUnknownSign, ⟨FUnknownSign, _, _, IUnknownSign, TUnknownSign, ok_UnknownSign SUnknownSign T hsuper nUnknownSign_sign nUnknownSign_at, .all fun us hl => match us, hl with | [_, _, _], _ => rfl⟩⟩
  have MUnknownSignJoinError := PySem.W.exm_ref pJoinError qJoinError rJoinError mUnknownSignJoinError
  have c_is_integer : C8.Cal l.prog w K mg base 1 "is_integer" sp_is_integer [] := ⟨⟨f0, _, _, _, ok_is_integer F0 T, PySem.W.mg_of X G a0, k0, b0, .nil⟩⟩
  have c_is_number_below : C8.Cal l.prog w K mg base 2 "is_number_below" sp_is_number_below [] := ⟨⟨f1, _, _, _, ok_is_number_below F1 T c_is_integer, PySem.W.mg_of X G a1, k1, b1, .nil⟩⟩
  have c_is_sign : C8.Cal l.prog w K mg base 1 "is_sign" sp_is_sign [] := ⟨⟨f2, _, _, _, ok_is_sign F2 T, PySem.W.mg_of X G a2, k2, b2, .nil⟩⟩
  have c_is_alphabet : C8.Cal l.prog w K mg base 2 "is_alphabet" sp_is_alphabet [] := ⟨⟨f3, _, _, _, ok_is_alphabet F3 T c_is_sign, PySem.W.mg_of X G a3, k3, b3, .nil⟩⟩
  have c_check_alphabet : C8.Cal l.prog w K mg base 3 "check_alphabet" sp_check_alphabet [] := ⟨⟨f4, _, _, _, ok_check_alphabet F4 T c_is_alphabet, PySem.W.mg_of X G a4, k4, b4, .nil⟩⟩
  have c_letter_row : C8.Cal l.prog w K mg base 1 "letter_row" sp_letter_row [] := ⟨⟨f5, _, _, _, ok_letter_row F5 T, PySem.W.mg_of X G a5, k5, b5, .nil⟩⟩
  have c_join_neighbors : C8.Cal l.prog w K mg base 1 "join_neighbors" sp_join_neighbors [] := ⟨⟨f6, _, _, _, ok_join_neighbors F6 T, PySem.W.mg_of X G a6, k6, b6, .nil⟩⟩
  have c_lowest_join : C8.Cal l.prog w K mg base 1 "lowest_join" sp_lowest_join [] := ⟨⟨f7, _, _, _, ok_lowest_join F7 T, PySem.W.mg_of X G a7, k7, b7, .nil⟩⟩
  have c_join_down : C8.Cal l.prog w K mg base 2 "join_down" sp_join_down [] := ⟨⟨f8, _, _, _, ok_join_down F8 T c_lowest_join c_join_neighbors, PySem.W.mg_of X G a8, k8, b8, .nil⟩⟩
  have c_may_follow : C8.Cal l.prog w K mg base 3 "may_follow" sp_may_follow [] := ⟨⟨f9, _, _, _, ok_may_follow F9 T c_is_number_below c_join_down c_letter_row, PySem.W.mg_of X G a9, k9, b9, .nil⟩⟩
  have k_Joins : C8.Mak l.prog w K mg base 4 "Joins" C (sp_init C) [] := ⟨⟨f10, _, _, _, ⟨mkC, a10, i10, kcC⟩, ok_init F10 T J c_check_alphabet c_may_follow, PySem.W.mg_of X G aC, b10, .nil⟩⟩
  have m_has_piece : C8.Met l.prog w K mg base 3 C "has_piece" (sp_has_piece C) [] := ⟨⟨f17, _, _, _, J.cl, ⟨a17, i17, k17⟩, ok_has_piece F17 T J c_is_number_below, b17, .nil⟩⟩
  have m_check_piece : C8.Met l.prog w K mg base 4 C "check_piece" (sp_check_piece C) [] := ⟨⟨f18, _, _, _, J.cl, ⟨a18, i18, k18⟩, ok_check_piece F18 T J m_has_piece, b18, .nil⟩⟩
  have m_text_of : C8.Met l.prog w K mg base 5 C "text_of" (sp_text_of C) [] := ⟨⟨f13, _, _, _, J.cl, ⟨a13, i13, k13⟩, ok_text_of F13 T J m_check_piece, b13, .nil⟩⟩
  have c_text_of_row : C8.Cal l.prog w K mg base 6 "text_of_row" (sp_text_of_row C) [] := ⟨⟨f26, _, _, _, ok_text_of_row F26 T J m_text_of, PySem.W.mg_of X G a26, k26, b26, .nil⟩⟩
  have c_letters_of : C8.Cal l.prog w K mg base 2 "letters_of" (sp_letters_of C) [] := ⟨⟨f25, _, _, _, ok_letters_of F25 T J c_letter_row, PySem.W.mg_of X G a25, k25, b25, .nil⟩⟩
  have m_parts_ofG : C8.Met l.prog w K mg base 5 C "parts_of" (sp_partsG C) [] := ⟨⟨f14, _, _, _, J.cl, ⟨a14, i14, k14⟩, ok_partsG F14 T J m_check_piece, b14, .nil⟩⟩
  have m_rank_of : C8.Met l.prog w K mg base 5 C "rank_of" (sp_rank C) [] := ⟨⟨f15, _, _, _, J.cl, ⟨a15, i15, k15⟩, ok_rank F15 T J m_check_piece, b15, .nil⟩⟩
  have c_spine : C8.Cal l.prog w K mg base 6 "spine" (sp_spine C) [] := ⟨⟨f19, _, _, _, ok_spine F19 T J m_parts_ofG m_rank_of, PySem.W.mg_of X G a19, k19, b19, .nil⟩⟩
  have c_right_spine : C8.Cal l.prog w K mg base 7 "right_spine" (sp_rspine 1 C) [] := ⟨⟨f20, _, _, _, ok_rspine F20 T J c_spine, PySem.W.mg_of X G a20, k20, b20, .nil⟩⟩
  have c_left_spine : C8.Cal l.prog w K mg base 7 "left_spine" (sp_rspine 0 C) [] := ⟨⟨f21, _, _, _, ok_lspine F21 T J c_spine, PySem.W.mg_of X G a21, k21, b21, .nil⟩⟩
  have c_is_ahead_in_left : C8.Cal l.prog w K mg base 1 "is_ahead_in_left" sp_aheadL [] := ⟨⟨f22, _, _, _, ok_aheadL F22 T, PySem.W.mg_of X G a22, k22, b22, .nil⟩⟩
  have c_is_ahead_in_right : C8.Cal l.prog w K mg base 1 "is_ahead_in_right" sp_aheadR [] := ⟨⟨f23, _, _, _, ok_aheadR F23 T, PySem.W.mg_of X G a23, k23, b23, .nil⟩⟩
  have c__law_pool : C8.Cal l.prog w K mg base 1 "_law_pool" (sp_pool K) [] := ⟨⟨f40, _, _, _, ok_pool F40 T, PySem.W.mg_of X G a40, k40, b40, .nil⟩⟩
  have c__law_draw : C8.Cal l.prog w K mg base 1 "_law_draw" sp_drawB [] := ⟨⟨f41, _, _, _, ok_drawB F41 T, PySem.W.mg_of X G a41, k41, b41, .nil⟩⟩
  have c__law_alphabet : C8.Cal l.prog w K mg base 2 "_law_alphabet" sp_alphabetB [] := ⟨⟨f42, _, _, _, ok_alphabetB F42 T c__law_draw, PySem.W.mg_of X G a42, k42, b42, .nil⟩⟩
  have c__law_staged : C8.Cal l.prog w K mg base 1 "_law_staged" sp_stagedB [] := ⟨⟨f43, _, _, _, ok_stagedB F43 T, PySem.W.mg_of X G a43, k43, b43, .nil⟩⟩
  have c__law_cut : C8.Cal l.prog w K mg base 2 "_law_cut" sp_cutB [] := ⟨⟨f44, _, _, _, ok_cutB F44 T c__law_staged, PySem.W.mg_of X G a44, k44, b44, .nil⟩⟩
  have c__law_pairs : C8.Cal l.prog w K mg base 3 "_law_pairs" sp_pairsB [] := ⟨⟨f45, _, _, _, ok_pairsB F45 T c__law_draw c__law_cut, PySem.W.mg_of X G a45, k45, b45, .nil⟩⟩
  have c__law_text : C8.Cal l.prog w K mg base 2 "_law_text" sp_textB [] := ⟨⟨f46, _, _, _, ok_textB F46 T c__law_draw, PySem.W.mg_of X G a46, k46, b46, .nil⟩⟩
  have c_same0 : C8.Cal l.prog w K mg base 1 "_law_same" (sp_same 0) [] := ⟨⟨f49, _, _, _, ok_sameB0 F49 T, PySem.W.mg_of X G a49, k49, b49, .nil⟩⟩
  have c_same1 : C8.Cal l.prog w K mg base 2 "_law_same" (sp_same 1) [] := ⟨⟨f49, _, _, _, ok_sameBS F49 T c_same0, PySem.W.mg_of X G a49, k49, b49, .nil⟩⟩
  have c_same2 : C8.Cal l.prog w K mg base 3 "_law_same" (sp_same 2) [] := ⟨⟨f49, _, _, _, ok_sameBS F49 T c_same1, PySem.W.mg_of X G a49, k49, b49, .nil⟩⟩
  have x_letter_row : CalX l.prog w K mg base 3 "letter_row" (sp_letter_rowX CUnknownSign) := ⟨⟨f5, _, _, ok_letter_rowX F5 T e0UnknownSign, PySem.W.mg_of X G a5, k5, b5⟩⟩
  have x_letters_of : CalX l.prog w K mg base 4 "letters_of" (sp_letters_ofX C CUnknownSign) := ⟨⟨f25, _, _, ok_letters_ofX F25 T J x_letter_row, PySem.W.mg_of X G a25, k25, b25⟩⟩
  have m_piece_of : C8.Met l.prog w K mg base 1 C "piece_of" (sp_piece_of C) [] := ⟨⟨f16, _, _, _, J.cl, ⟨a16, i16, k16⟩, ok_piece_of F16 T J, b16, .nil⟩⟩
  have m___iter__ : C8.Met l.prog w K mg base 1 C "__iter__" (sp_iter C) [] := ⟨⟨f12, _, _, _, J.cl, ⟨a12, i12, k12⟩, ok_iter F12 T J, b12, .nil⟩⟩
  have p_pieces : PrpC l.prog w K mg base 1 C "pieces" (sp_pieces C) := ⟨⟨pp11, f11, _, _, J.cl, ⟨a11, s11, t11, ⟨_, r11⟩⟩, ok_pieces F11 T J, b11⟩⟩
  have c_spineF : C8.Cal l.prog w K mg base 6 "spine" (sp_spineF C) [] := ⟨⟨f19, _, _, _, ok_spineF F19 T J m_parts_ofG m_rank_of, PySem.W.mg_of X G a19, k19, b19, .nil⟩⟩
  have c_right_spineF : C8.Cal l.prog w K mg base 7 "right_spine" (sp_rspineF 1 C) [] := ⟨⟨f20, _, _, _, ok_rspineF F20 T J c_spineF, PySem.W.mg_of X G a20, k20, b20, .nil⟩⟩
  have c_left_spineF : C8.Cal l.prog w K mg base 7 "left_spine" (sp_rspineF 0 C) [] := ⟨⟨f21, _, _, _, ok_lspineF F21 T J c_spineF, PySem.W.mg_of X G a21, k21, b21, .nil⟩⟩
  have c_following_masks : C8.Cal l.prog w K mg base 8 "following_masks" (sp_masks C) [] := ⟨⟨f24, _, _, _, ok_masks F24 T J p_pieces m___iter__ c_right_spineF c_left_spineF c_is_ahead_in_left c_is_ahead_in_right, PySem.W.mg_of X G a24, k24, b24, .nil⟩⟩
  have c_is_tail : C8.Cal l.prog w K mg base 1 "is_tail" sp_is_tail [] := ⟨⟨f27, _, _, _, ok_is_tail F27 T, PySem.W.mg_of X G a27, k27, b27, .nil⟩⟩
  have c_next_tail : C8.Cal l.prog w K mg base 2 "next_tail" (sp_next_tail C) [] := ⟨⟨f28, _, _, _, ok_next_tail F28 T J m_piece_of c_is_tail, PySem.W.mg_of X G a28, k28, b28, .nil⟩⟩
  have c_chain : C8.Cal l.prog w K mg base 6 "chain" (sp_chainT C) [] := ⟨⟨f29, _, _, _, ok_chainT F29 T J m_text_of, PySem.W.mg_of X G a29, k29, b29, .nil⟩⟩
  have h_sameB0 : CalH l.prog w K mg base 1 "_law_same" (sp_same 0) := ⟨⟨f49, _, _, ok_sameHB0 F49 T, PySem.W.mg_of X G a49, k49, b49⟩⟩
  have e_aloneU : CalE l.prog w K mg base 1 "_law_alone" (sp_alone CUnknownSign 0) := ⟨⟨f50, _, _, PySem.W.mg_of X G a50, k50, b50, fun p cls d hz hf => ok_alone (kk := 0) F50 T GUnknownSign GInvalidNumber GNoPiece GNotCut GInvalidAlphabet GInvalidModel GInvalidText GNoChance GNotProper eiUnknownSign oUnknownSignUnknownSign oUnknownSignInvalidNumber oUnknownSignNoPiece oUnknownSignNotCut oUnknownSignValueError oAnyUnknownSign p cls d hz hf⟩⟩
  have c__law_stranger : C8.Cal l.prog w K mg base 2 "_law_stranger" sp_strangerB [] := ⟨⟨f47, _, _, _, ok_strangerB F47 T c__law_draw, PySem.W.mg_of X G a47, k47, b47, .nil⟩⟩
  have c__law_with_strangers : C8.Cal l.prog w K mg base 3 "_law_with_strangers" sp_withB [] := ⟨⟨f48, _, _, _, ok_withB F48 T c__law_stranger c__law_draw, PySem.W.mg_of X G a48, k48, b48, .nil⟩⟩
  have c_chainU : C8.Cal l.prog w K mg base 6 "chain" (sp_chainU C) [] := ⟨⟨f29, _, _, _, ok_chainU F29 T J m_text_of, PySem.W.mg_of X G a29, k29, b29, .nil⟩⟩
  have c_pieces_by_beginning : C8.Cal l.prog w K mg base 6 "pieces_by_beginning" (sp_begs C) [] := ⟨⟨f30, _, _, _, ok_begs F30 T J p_pieces m_text_of, PySem.W.mg_of X G a30, k30, b30, .nil⟩⟩
  have c_covers_of : C8.Cal l.prog w K mg base 2 "covers_of" sp_covers [] := ⟨⟨f31, _, _, _, ok_covers F31 T c_is_tail, PySem.W.mg_of X G a31, k31, b31, .nil⟩⟩
  have c_common_begin : C8.Cal l.prog w K mg base 6 "common_begin" (sp_common C) [] := ⟨⟨f32, _, _, _, ok_common F32 T J m_text_of, PySem.W.mg_of X G a32, k32, b32, .nil⟩⟩
  have m_begin_anew : C8.Met l.prog w K mg base 1 CS "begin_anew" (sp_anew CS) [] := ⟨⟨f34, _, _, _, JS.cl, ⟨a34, i34, k34⟩, ok_anew F34 T JS, b34, .nil⟩⟩
  have m_sure_row : C8.Met l.prog w K mg base 7 CS "sure_row" (sp_sure C CS) [] := ⟨⟨f36, _, _, _, JS.cl, ⟨a36, i36, k36⟩, ok_sure F36 T JS c_covers_of c_common_begin c_chainU, b36, .nil⟩⟩
  have p_told : PrpC l.prog w K mg base 1 CS "told" (sp_told C CS) := ⟨⟨pp38, f38, _, _, JS.cl, ⟨a38, s38, t38, ⟨_, r38⟩⟩, ok_stold F38 T JS, b38⟩⟩
  have p_waiting : PrpC l.prog w K mg base 1 CS "waiting" (sp_waiting C CS) := ⟨⟨pp39, f39, _, _, JS.cl, ⟨a39, s39, t39, ⟨_, r39⟩⟩, ok_waiting F39 T JS, b39⟩⟩
  have k_Stream : C8.Mak l.prog w K mg base 9 "Stream" CS (sp_sinit C CS) [] := ⟨⟨f33, _, _, _, ⟨mkCS, a33, i33, kcCS⟩, ok_sinit F33 T JS c_following_masks c_pieces_by_beginning m_begin_anew, PySem.W.mg_of X G aCS, b33, .nil⟩⟩
  have m_finish : C8.Met l.prog w K mg base 7 CS "finish" (sp_finish C CS) [] := ⟨⟨f37, _, _, _, JS.cl, ⟨a37, i37, k37⟩, ok_finish F37 T JS c_chainU m_begin_anew, b37, .nil⟩⟩
  have m_feed : C8.Met l.prog w K mg base 8 CS "feed" (sp_feed C CS) [] := ⟨⟨f35, _, _, _, JS.cl, ⟨a35, i35, k35⟩, ok_feed F35 T JS c_letters_of c_next_tail m_sure_row c_text_of_row, b35, .nil⟩⟩
  have c__law_fed : C8.Cal l.prog w K mg base 9 "_law_fed" (sp_fed C CS) [] := ⟨⟨f51, _, _, _, ok_fed F51 T JS m_feed p_told c_same1, PySem.W.mg_of X G a51, k51, b51, .nil⟩⟩
  have c__law_waits : C8.Cal l.prog w K mg base 3 "_law_waits" (sp_waits C CS) [] := ⟨⟨f52, _, _, _, ok_waits F52 T JS p_waiting c_same1, PySem.W.mg_of X G a52, k52, b52, .nil⟩⟩
  have y_feed : MetX l.prog w K mg base 8 CS "feed" (sp_feedX C CUnknownSign CS) := ⟨⟨f35, _, _, JS.cl, ⟨a35, i35, k35⟩, ok_feedX F35 T JS x_letters_of c_next_tail m_sure_row c_text_of_row, b35⟩⟩
  have h_told : PrpH l.prog w K mg base 1 CS "told" (sp_told C CS) := ⟨⟨pp38, f38, _, _, JS.cl, ⟨a38, s38, t38, ⟨_, r38⟩⟩, ok_stoldH F38 T JS, b38⟩⟩
  have h_waiting : PrpH l.prog w K mg base 1 CS "waiting" (sp_waiting C CS) := ⟨⟨pp39, f39, _, _, JS.cl, ⟨a39, s39, t39, ⟨_, r39⟩⟩, ok_waitingH F39 T JS, b39⟩⟩
  have h__law_waits : CalH l.prog w K mg base 3 "_law_waits" (sp_waits C CS) := ⟨⟨f52, _, _, ok_waitsH F52 T JS h_waiting h_sameB0, PySem.W.mg_of X G a52, k52, b52⟩⟩
  have c__law_refused : C8.Cal l.prog w K mg base 10 "_law_refused" (sp_refusedW C CS) [] := ⟨⟨f53, _, _, _, ok_refusedW F53 T JS y_feed h_sameB0 e_aloneU h_told h__law_waits GJoinError eiUnknownSign nUnknownSign_sign nUnknownSign_at MUnknownSignJoinError, PySem.W.mg_of X G a53, k53, b53, .nil⟩⟩
  exact ok_law F54 T J JS c__law_pool c__law_alphabet c__law_pairs c__law_draw k_Joins c__law_text k_Stream c__law_cut c__law_fed c__law_waits c__law_with_strangers c__law_refused m_finish c_same1
theorem walk {l : PySem.W.OpenLaw} {q : Program} {loose : List Str} {XP : (Str → Option Value) → Heap → Prop} {YP : World → Heap → Prop} {d : DefRec} {K : Params → PySem.W.Frag} (hn : l.most = some 63) (hdf : d.params.defaults = [])
    (hY : ∀ (w : World) (h : Heap), YP w h → (K w.params).In h)
    (F : ∀ (w : World) (mg : Str → Option Value) (fa : Addr) (h : Heap), (K w.params).In h → h.Ns mainGlobals mg → mg d.name = some (.ref fa) →
      ∃ fd : FuncData, (∀ (s : Shared) (u : Value), BindsTo s fd ⟨[u], []⟩ [("script", u)]) ∧ ∀ base : Heap, (K w.params).In base → base.Ns mainGlobals mg → FnOk l.prog w (K w.params) mg base C8.CX0 11 fa fd ["script"] (sp_law (K w.params))) :
    PySem.W.WalkO q loose XP YP l.row.toRowW d [] (fun f vs => PySem.call f vs) :=
  L2.walk_of (n := 63) (k := 11) (x := "script") (CX := fun _ => C8.CX0) (sp := fun w => sp_law (K w.params)) hn (by decide) hdf ⟨rfl, by decide, by decide⟩ hY F (fun _ _ a ns hl _ hS => ⟨a, ns, rfl, hS, hl, fun _ => rfl⟩) fun _ _ _ _ _ z => z
end RJ
end

section
open PySem PySem.W PyProof.Rows
set_option maxRecDepth 100000 in
set_option maxHeartbeats 0 in
theorem PySem.Challenge.cw_rankedjoins_k24_any_breaks_holds : PySem.Challenge.rw_rankedjoins_k24_any_breaks.Holds := by
  w_on; o_law; k_head; (case hw => w_witness2)
  k_fill
  refine RJ.walk (l := PySem.Challenge.rw_rankedjoins_k24_any_breaks) rfl rfl (fun w h Y => PySem.W.kIn_of Y) ?F
  case F =>
    intro w mg fa h KX G hmg
    refine' RJ.all_mk KX G hmg ?aC ?aCS ?a0 ?l0 ?c0 ?k0 ?a1 ?l1 ?c1 ?k1 ?a2 ?l2 ?c2 ?k2 ?a3 ?l3 ?c3 ?k3 ?a4 ?l4 ?c4 ?k4 ?a5 ?l5 ?c5 ?k5 ?a6 ?l6 ?c6 ?k6 ?a7 ?l7 ?c7 ?k7 ?a8 ?l8 ?c8 ?k8 ?a9 ?l9 ?c9 ?k9 ?a10 ?i10 ?l10 ?c10 ?k10 ?a11 ?s11 ?t11 ?r11 ?l11 ?c11 ?k11 ?a12 ?i12 ?l12 ?c12 ?k12 ?a13 ?i13 ?l13 ?c13 ?k13 ?a14 ?i14 ?l14 ?c14 ?k14 ?a15 ?i15 ?l15 ?c15 ?k15 ?a16 ?i16 ?l16 ?c16 ?k16 ?a17 ?i17 ?l17 ?c17 ?k17 ?a18 ?i18 ?l18 ?c18 ?k18 ?a19 ?l19 ?c19 ?k19 ?a20 ?l20 ?c20 ?k20 ?a21 ?l21 ?c21 ?k21 ?a22 ?l22 ?c22 ?k22 ?a23 ?l23 ?c23 ?k23 ?a24 ?l24 ?c24 ?k24 ?a25 ?l25 ?c25 ?k25 ?a26 ?l26 ?c26 ?k26 ?a27 ?l27 ?c27 ?k27 ?a28 ?l28 ?c28 ?k28 ?a29 ?l29 ?c29 ?k29 ?a30 ?l30 ?c30 ?k30 ?a31 ?l31 ?c31 ?k31 ?a32 ?l32 ?c32 ?k32 ?a33 ?i33 ?l33 ?c33 ?k33 ?a34 ?i34 ?l34 ?c34 ?k34 ?a35 ?i35 ?l35 ?c35 ?k35 ?a36 ?i36 ?l36 ?c36 ?k36 ?a37 ?i37 ?l37 ?c37 ?k37 ?a38 ?s38 ?t38 ?r38 ?l38 ?c38 ?k38 ?a39 ?s39 ?t39 ?r39 ?l39 ?c39 ?k39 ?a40 ?l40 ?c40 ?k40 ?a41 ?l41 ?c41 ?k41 ?a42 ?l42 ?c42 ?k42 ?a43 ?l43 ?c43 ?k43 ?a44 ?l44 ?c44 ?k44 ?a45 ?l45 ?c45 ?k45 ?a46 ?l46 ?c46 ?k46 ?a47 ?l47 ?c47 ?k47 ?a48 ?l48 ?c48 ?k48 ?a49 ?l49 ?c49 ?k49 ?a50 ?l50 ?c50 ?k50 ?a51 ?l51 ?c51 ?k51 ?a52 ?l52 ?c52 ?k52 ?a53 ?l53 ?c53 ?k53 ?a54 ?l54 ?c54 ?k54 ?pgC ?hdC ?poC ?saC ?mkC ?kcC ?nC0 ?nC1 ?nC2 ?nC3 ?nC4 ?pgCS ?hdCS ?poCS ?saCS ?mkCS ?kcCS ?nCS0 ?nCS1 ?nCS2 ?nCS3 ?nCS4 ?nCS5 ?nCS6 ?AUnknownSign ?AInvalidNumber ?ANoPiece ?ANotCut ?AInvalidAlphabet ?AInvalidModel ?AInvalidText ?ANoChance ?ANotProper ?AJoinError ?zsuper ?zopq ?hn0 ?ht0 ?IUnknownSign ?TUnknownSign ?LUnknownSign ?DUnknownSign ?KUnknownSign ?VUnknownSign ?QUnknownSign ?JUnknownSign ?XUnknownSign ?RUnknownSign ?aUnknownSign ?bUnknownSign ?cUnknownSign ?dUnknownSign ?eUnknownSign ?fUnknownSign ?gUnknownSign ?hUnknownSign ?iUnknownSign ?jUnknownSign ?kUnknownSign ?lUnknownSign ?nUnknownSign_sign ?nUnknownSign_at ?mUnknownSignJoinError ?oUnknownSignUnknownSign ?oUnknownSignValueError ?oUnknownSignInvalidNumber ?oUnknownSignNoPiece ?oUnknownSignNotCut ?oAnyUnknownSign ?pJoinError ?qJoinError ?rJoinError ?htop ?z0 ?z1 ?z2 ?z3 ?z4 ?z5 ?z6 ?z7 ?z8 ?z9 ?z10 ?z11 ?z12 ?z13 ?z14 ?z15 ?z16 ?z17 ?z18 ?v0 ?v1
    (case aC => k_is); (case aCS => k_is); (case a0 => k_is); (case l0 => k_is); (case c0 => k_is); (case k0 => k_is)
    (case a1 => k_is); (case l1 => k_is); (case c1 => k_is); (case k1 => k_is); (case a2 => k_is); (case l2 => k_is)
    (case c2 => k_is); (case k2 => k_is); (case a3 => k_is); (case l3 => k_is); (case c3 => k_is); (case k3 => k_is)
    (case a4 => k_is); (case l4 => k_is); (case c4 => k_is); (case k4 => k_is); (case a5 => k_is); (case l5 => k_is)
    (case c5 => k_is); (case k5 => k_is); (case a6 => k_is); (case l6 => k_is); (case c6 => k_is); (case k6 => k_is)
    (case a7 => k_is); (case l7 => k_is); (case c7 => k_is); (case k7 => k_is); (case a8 => k_is); (case l8 => k_is)
    (case c8 => k_is); (case k8 => k_is); (case a9 => k_is); (case l9 => k_is); (case c9 => k_is); (case k9 => k_is)
    (case a10 => k_is); (case i10 => k_is); (case l10 => k_is); (case c10 => k_is); (case k10 => k_is); (case a11 => k_is)
    (case s11 => k_is); (case t11 => k_is); (case r11 => k_is); (case l11 => k_is); (case c11 => k_is); (case k11 => k_is)
    (case a12 => k_is); (case i12 => k_is); (case l12 => k_is); (case c12 => k_is); (case k12 => k_is); (case a13 => k_is)
    (case i13 => k_is); (case l13 => k_is); (case c13 => k_is); (case k13 => k_is); (case a14 => k_is); (case i14 => k_is)
    (case l14 => k_is); (case c14 => k_is); (case k14 => k_is); (case a15 => k_is); (case i15 => k_is); (case l15 => k_is)
    (case c15 => k_is); (case k15 => k_is); (case a16 => k_is); (case i16 => k_is); (case l16 => k_is); (case c16 => k_is)
    (case k16 => k_is); (case a17 => k_is); (case i17 => k_is); (case l17 => k_is); (case c17 => k_is); (case k17 => k_is)
    (case a18 => k_is); (case i18 => k_is); (case l18 => k_is); (case c18 => k_is); (case k18 => k_is); (case a19 => k_is)
    (case l19 => k_is); (case c19 => k_is); (case k19 => k_is); (case a20 => k_is); (case l20 => k_is); (case c20 => k_is)
    (case k20 => k_is); (case a21 => k_is); (case l21 => k_is); (case c21 => k_is); (case k21 => k_is); (case a22 => k_is)
    (case l22 => k_is); (case c22 => k_is); (case k22 => k_is); (case a23 => k_is); (case l23 => k_is); (case c23 => k_is)
    (case k23 => k_is); (case a24 => k_is); (case l24 => k_is); (case c24 => k_is); (case k24 => k_is); (case a25 => k_is)
    (case l25 => k_is); (case c25 => k_is); (case k25 => k_is); (case a26 => k_is); (case l26 => k_is); (case c26 => k_is)
    (case k26 => k_is); (case a27 => k_is); (case l27 => k_is); (case c27 => k_is); (case k27 => k_is); (case a28 => k_is)
    (case l28 => k_is); (case c28 => k_is); (case k28 => k_is); (case a29 => k_is); (case l29 => k_is); (case c29 => k_is)
    (case k29 => k_is); (case a30 => k_is); (case l30 => k_is); (case c30 => k_is); (case k30 => k_is); (case a31 => k_is)
    (case l31 => k_is); (case c31 => k_is); (case k31 => k_is); (case a32 => k_is); (case l32 => k_is); (case c32 => k_is)
    (case k32 => k_is); (case a33 => k_is); (case i33 => k_is); (case l33 => k_is); (case c33 => k_is); (case k33 => k_is)
    (case a34 => k_is); (case i34 => k_is); (case l34 => k_is); (case c34 => k_is); (case k34 => k_is); (case a35 => k_is)
    (case i35 => k_is); (case l35 => k_is); (case c35 => k_is); (case k35 => k_is); (case a36 => k_is); (case i36 => k_is)
    (case l36 => k_is); (case c36 => k_is); (case k36 => k_is); (case a37 => k_is); (case i37 => k_is); (case l37 => k_is)
    (case c37 => k_is); (case k37 => k_is); (case a38 => k_is); (case s38 => k_is); (case t38 => k_is); (case r38 => k_is)
    (case l38 => k_is); (case c38 => k_is); (case k38 => k_is); (case a39 => k_is); (case s39 => k_is); (case t39 => k_is)
    (case r39 => k_is); (case l39 => k_is); (case c39 => k_is); (case k39 => k_is); (case a40 => k_is); (case l40 => k_is)
    (case c40 => k_is); (case k40 => k_is); (case a41 => k_is); (case l41 => k_is); (case c41 => k_is); (case k41 => k_is)
    (case a42 => k_is); (case l42 => k_is); (case c42 => k_is); (case k42 => k_is); (case a43 => k_is); (case l43 => k_is)
    (case c43 => k_is); (case k43 => k_is); (case a44 => k_is); (case l44 => k_is); (case c44 => k_is); (case k44 => k_is)
    (case a45 => k_is); (case l45 => k_is); (case c45 => k_is); (case k45 => k_is); (case a46 => k_is); (case l46 => k_is)
    (case c46 => k_is); (case k46 => k_is); (case a47 => k_is); (case l47 => k_is); (case c47 => k_is); (case k47 => k_is)
    (case a48 => k_is); (case l48 => k_is); (case c48 => k_is); (case k48 => k_is); (case a49 => k_is); (case l49 => k_is)
    (case c49 => k_is); (case k49 => k_is); (case a50 => k_is); (case l50 => k_is); (case c50 => k_is); (case k50 => k_is)
    (case a51 => k_is); (case l51 => k_is); (case c51 => k_is); (case k51 => k_is); (case a52 => k_is); (case l52 => k_is)
    (case c52 => k_is); (case k52 => k_is); (case a53 => k_is); (case l53 => k_is); (case c53 => k_is); (case k53 => k_is)
    (case a54 => k_is); (case l54 => k_is); (case c54 => k_is); (case k54 => k_is); (case pgC => k_is); (case hdC => k_is)
    (case poC => k_is); (case saC => k_is); (case mkC => k_is); (case kcC => k_is); (case nC0 => k_is); (case nC1 => k_is)
    (case nC2 => k_is); (case nC3 => k_is); (case nC4 => k_is); (case pgCS => k_is); (case hdCS => k_is); (case poCS => k_is)
    (case saCS => k_is); (case mkCS => k_is); (case kcCS => k_is); (case nCS0 => k_is); (case nCS1 => k_is); (case nCS2 => k_is)
    (case nCS3 => k_is); (case nCS4 => k_is); (case nCS5 => k_is); (case nCS6 => k_is); (case AUnknownSign => k_is); (case AInvalidNumber => k_is)
    (case ANoPiece => k_is); (case ANotCut => k_is); (case AInvalidAlphabet => k_is); (case AInvalidModel => k_is); (case AInvalidText => k_is); (case ANoChance => k_is)
    (case ANotProper => k_is); (case AJoinError => k_is); (case zsuper => k_is); (case zopq => k_is); (case hn0 => k_is); (case ht0 => k_is)
    (case IUnknownSign => k_is); (case TUnknownSign => k_is); (case LUnknownSign => k_is); (case DUnknownSign => k_is); (case KUnknownSign => k_is); (case VUnknownSign => exact rfl)
    (case QUnknownSign => first | rfl | decide +kernel); (case JUnknownSign => k_is); (case XUnknownSign => k_is); (case RUnknownSign => exact rfl); (case aUnknownSign => k_is); (case bUnknownSign => k_is)
    (case cUnknownSign => k_is); (case dUnknownSign => k_is); (case eUnknownSign => ks_is); (case fUnknownSign => k_is); (case gUnknownSign => k_is); (case hUnknownSign => k_is)
    (case iUnknownSign => k_is); (case jUnknownSign => k_is); (case kUnknownSign => k_is); (case lUnknownSign => k_is); (case nUnknownSign_sign => k_is); (case nUnknownSign_at => k_is)
    (case mUnknownSignJoinError => k_is); (case oUnknownSignUnknownSign => kit_is); (case oUnknownSignValueError => kit_is); (case oUnknownSignInvalidNumber => kit_is); (case oUnknownSignNoPiece => kit_is); (case oUnknownSignNotCut => kit_is)
    (case oAnyUnknownSign => kit_is); (case pJoinError => k_is); (case qJoinError => k_is); (case rJoinError => k_is); (case htop => decide +kernel); (case z0 => k_is)
    (case z1 => k_is); (case z2 => k_is); (case z3 => k_is); (case z4 => k_is); (case z5 => k_is); (case z6 => k_is)
    (case z7 => k_is); (case z8 => k_is); (case z9 => k_is); (case z10 => k_is); (case z11 => k_is); (case z12 => k_is)
    (case z13 => k_is); (case z14 => k_is); (case z15 => k_is); (case z16 => k_is); (case z17 => k_is); (case z18 => k_is)
    (case v0 => k_is); (case v1 => k_is)
end
