import PyProof.Rows.All
import Wide.All
import OpenK.AllK
import Wide.FinOn
import HandS.ForMost
import HandS.Codes
import HandS.Zip
import HandS.SortKw
import KE.GoesEnum
import KE.GoesZip
import KE.KDictZip
import KE.DataMinMax
import KE.SortData
import PyProof.ListStr
import PyProof.StrBlock2
import HandS.TupAny
import HandS.ExcInit
import HandS.ExcField
import HandS.ExcIs
import HandS.FStr
import HandS.HotCalls
import KE.KExcSuper
import KE.KExcIs
import HandS.IsInst
import HandS.Comp
import KE.KOwnIter
import HandS.MapObj
import HandS.Iter
import KE.KDictPairs
import HandS.Conv
import HandS.Dict
import HandS.Property
import HandS.Style
import PyProof.Rows.StrStep
import PyProof.AutoSeq1
import HandS.DictComp
import HandS.FStrTup
import HandS.More
import HandS.Walk
import HandS.Replace
import HandS.Deep
import HandS.WideBits
import PySem.Challenge.RW_rankedjoins_k34_fewest_and_most
set_option Elab.async false
set_option linter.all false
section
namespace RJ
/-- neighbors of a row -/
def adjs (row : List Nat) : List (Nat × Nat) := row.zip row.tail
theorem adjs_cons2 (a b : Nat) (t : List Nat) : adjs (a :: b :: t) = (a, b) :: adjs (b :: t) := rfl
theorem adjs_one (a : Nat) : adjs [a] = [] := rfl
theorem adjs_nil : adjs [] = [] := rfl
/-- one pass from left to right -/
def pass (l r m : Nat) : List Nat → List Nat
  | [] => []
  | [a] => [a]
  | a :: b :: t => if a = l ∧ b = r then m :: pass l r m t else a :: pass l r m (b :: t)
theorem pass_id {l r m : Nat} : ∀ {row : List Nat}, (l, r) ∉ adjs row → pass l r m row = row
  | [], _ => rfl
  | [a], _ => rfl
  | a :: b :: t, h => by
    rw [adjs_cons2] at h
    have h1 : ¬ (a = l ∧ b = r) := fun q => h (by rw [q.1, q.2]; exact List.mem_cons_self ..)
    rw [pass, if_neg h1, pass_id (row := b :: t) fun q => h (List.mem_cons_of_mem _ q)]
theorem pass_head {l r m : Nat} : ∀ {a : Nat} {t : List Nat}, ∃ x rest, pass l r m (a :: t) = x :: rest ∧ (x = a ∨ x = m)
  | a, [] => ⟨a, [], rfl, .inl rfl⟩
  | a, b :: t => by
    rw [pass]
    split
    · exact ⟨m, _, rfl, .inr rfl⟩
    · exact ⟨a, _, rfl, .inl rfl⟩
theorem mem_adjs_cons {p : Nat × Nat} {a : Nat} {t : List Nat} (h : p ∈ adjs t) : p ∈ adjs (a :: t) := by
  cases t with
  | nil => rw [adjs_nil] at h; cases h
  | cons b t => rw [adjs_cons2]; exact List.mem_cons_of_mem _ h
theorem pass_adj {l r m : Nat} {p : Nat × Nat} : ∀ {row : List Nat}, p ∈ adjs (pass l r m row) → (p ∈ adjs row ∧ p ≠ (l, r)) ∨ p.1 = m ∨ p.2 = m
  | [], h => by cases h
  | [a], h => by cases h
  | a :: b :: t, h => by
    rw [pass] at h
    split at h
    · rename_i hab
      cases e : pass l r m t with
      | nil => rw [e] at h; cases h
      | cons x rest =>
        rw [e, adjs_cons2] at h
        rcases List.mem_cons.mp h with q | q
        · exact .inr (.inl (by rw [q]))
        · rw [← e] at q
          rcases pass_adj q with ⟨q1, q2⟩ | q
          · exact .inl ⟨mem_adjs_cons (mem_adjs_cons q1), q2⟩
          · exact .inr q
    · rename_i hab
      obtain ⟨x, rest, e, hx⟩ := pass_head (l := l) (r := r) (m := m) (a := b) (t := t)
      rw [e, adjs_cons2] at h
      rcases List.mem_cons.mp h with q | q
      · rcases hx with hx | hx
        · refine .inl ⟨?_, ?_⟩
          · rw [q, hx, adjs_cons2]; exact List.mem_cons_self ..
          · rw [q, hx]; intro z; exact hab ⟨(Prod.mk.inj z).1, (Prod.mk.inj z).2⟩
        · exact .inr (.inr (by rw [q]; exact hx))
      · rw [← e] at q
        rcases pass_adj q with ⟨q1, q2⟩ | q
        · exact .inl ⟨mem_adjs_cons q1, q2⟩
        · exact .inr q
theorem pass_len {l r m : Nat} : ∀ {row : List Nat}, (pass l r m row).length ≤ row.length
  | [] => Nat.le_refl _
  | [a] => Nat.le_refl _
  | a :: b :: t => by
    rw [pass]
    split
    · have := pass_len (l := l) (r := r) (m := m) (row := t)
      simp only [List.length_cons]; omega
    · have := pass_len (l := l) (r := r) (m := m) (row := b :: t)
      simp only [List.length_cons] at this ⊢; omega
theorem pass_lt {l r m : Nat} : ∀ {row : List Nat}, (l, r) ∈ adjs row → (pass l r m row).length < row.length
  | [], h => by cases h
  | [a], h => by cases h
  | a :: b :: t, h => by
    rw [pass]
    split
    · have := pass_len (l := l) (r := r) (m := m) (row := t)
      simp only [List.length_cons]; omega
    · rename_i hab
      rw [adjs_cons2] at h
      rcases List.mem_cons.mp h with q | q
      · exact absurd ⟨(Prod.mk.inj q).1.symm, (Prod.mk.inj q).2.symm⟩ hab
      · have := pass_lt (l := l) (r := r) (m := m) (row := b :: t) q
        simp only [List.length_cons] at this ⊢; omega
theorem pass_mem {l r m x : Nat} : ∀ {row : List Nat}, x ∈ pass l r m row → x ∈ row ∨ x = m
  | [], h => by cases h
  | [a], h => .inl h
  | a :: b :: t, h => by
    rw [pass] at h
    split at h
    · rcases List.mem_cons.mp h with q | q
      · exact .inr q
      · rcases pass_mem q with q | q
        · exact .inl (List.mem_cons_of_mem _ (List.mem_cons_of_mem _ q))
        · exact .inr q
    · rcases List.mem_cons.mp h with q | q
      · exact .inl (by rw [q]; exact List.mem_cons_self ..)
      · rcases pass_mem q with q | q
        · exact .inl (List.mem_cons_of_mem _ q)
        · exact .inr q
/-- the passes of these pairs, the first of which makes b + k -/
def run (b : Nat) : List (Nat × Nat) → Nat → List Nat → List Nat
  | [], _, row => row
  | p :: ps, k, row => run b ps (k + 1) (pass p.1 p.2 (b + k) row)
def cutL (b : Nat) (ps : List (Nat × Nat)) (row : List Nat) : List Nat := run b ps 0 row
theorem run_append (b : Nat) : ∀ (ps qs : List (Nat × Nat)) (k : Nat) (row : List Nat), run b (ps ++ qs) k row = run b qs (k + ps.length) (run b ps k row)
  | [], qs, k, row => rfl
  | p :: ps, qs, k, row => by
    show run b (ps ++ qs) (k + 1) _ = run b qs (k + (ps.length + 1)) (run b ps (k + 1) _)
    rw [run_append b ps qs, show k + 1 + ps.length = k + (ps.length + 1) by omega]
theorem run_none {b : Nat} : ∀ {ps : List (Nat × Nat)} {k : Nat} {row : List Nat}, (∀ p ∈ ps, p ∉ adjs row) → run b ps k row = row
  | [], _, _, _ => rfl
  | p :: ps, k, row, h => by
    show run b ps (k + 1) (pass p.1 p.2 (b + k) row) = row
    rw [pass_id (h p (List.mem_cons_self ..))]
    exact run_none fun q hq => h q (List.mem_cons_of_mem _ hq)
/-- the parts of a join are pieces ahead of it -/
def WF (b : Nat) (ps : List (Nat × Nat)) : Prop := ∀ i p, ps[i]? = some p → p.1 < b + i ∧ p.2 < b + i
theorem WF.take {b : Nat} {ps : List (Nat × Nat)} (h : WF b ps) (n : Nat) : WF b (ps.take n) := fun i p e => by
  rw [List.getElem?_take] at e
  split at e
  · exact h i p e
  · cases e
theorem take_succ_of {α : Type} {l : List α} {n : Nat} {x : α} (h : l[n]? = some x) : l.take (n + 1) = l.take n ++ [x] := by
  rw [List.take_add_one, h]; rfl
theorem take_len_of {α : Type} {l : List α} {n : Nat} {x : α} (h : l[n]? = some x) : (l.take n).length = n := by
  obtain ⟨h1, _⟩ := List.getElem?_eq_some_iff.mp h
  rw [List.length_take]; omega
theorem cutL_snoc (b : Nat) (ps : List (Nat × Nat)) (q : Nat × Nat) (row : List Nat) : cutL b (ps ++ [q]) row = pass q.1 q.2 (b + ps.length) (cutL b ps row) := by
  unfold cutL
  rw [run_append, Nat.zero_add]; rfl
theorem mem_take_get {α : Type} {l : List α} {n : Nat} {x : α} (h : x ∈ l.take n) : ∃ i, i < n ∧ l[i]? = some x := by
  obtain ⟨i, hi⟩ := List.mem_iff_getElem?.mp h
  rw [List.getElem?_take] at hi
  split at hi
  · exact ⟨i, by assumption, hi⟩
  · cases hi
theorem cut_clean_take {b : Nat} {ps : List (Nat × Nat)} (hw : WF b ps) (row : List Nat) : ∀ n, ∀ p ∈ ps.take n, p ∉ adjs (cutL b (ps.take n) row)
  | 0, p, hp => by rw [List.take_zero] at hp; cases hp
  | n + 1, p, hp => by
    cases e : ps[n]? with
    | none =>
      have hle : ps.length ≤ n := List.getElem?_eq_none_iff.mp e
      rw [List.take_of_length_le (by omega)] at hp ⊢
      have := cut_clean_take hw row n p (by rw [List.take_of_length_le hle]; exact hp)
      rw [List.take_of_length_le hle] at this
      exact this
    | some q =>
      rw [take_succ_of e] at hp ⊢
      rw [cutL_snoc, take_len_of e]
      have hq := hw n q e
      intro hm
      rcases pass_adj hm with ⟨h1, h2⟩ | h1
      · rcases List.mem_append.mp hp with z | z
        · exact cut_clean_take hw row n p z h1
        · exact h2 (List.mem_singleton.mp z)
      · have hlt : p.1 < b + n ∧ p.2 < b + n := by
          rcases List.mem_append.mp hp with z | z
          · obtain ⟨i, hi, ei⟩ := mem_take_get z
            have := hw i p ei
            omega
          · rw [List.mem_singleton.mp z]; exact hq
        omega
theorem cut_clean {b : Nat} {ps : List (Nat × Nat)} (hw : WF b ps) (row : List Nat) : ∀ p ∈ ps, p ∉ adjs (cutL b ps row) := by
  have h := cut_clean_take hw row ps.length
  rw [List.take_length] at h
  exact h
theorem split_at {α : Type} {l : List α} {n : Nat} {x : α} (h : l[n]? = some x) : l = l.take n ++ x :: l.drop (n + 1) := by
  obtain ⟨h1, h2⟩ := List.getElem?_eq_some_iff.mp h
  rw [← h2, ← List.drop_eq_getElem_cons h1, List.take_append_drop]
theorem cutL_at {b : Nat} {ps : List (Nat × Nat)} {r : Nat} {p : Nat × Nat} (h : ps[r]? = some p) (row : List Nat) (hno : ∀ j q, j < r → ps[j]? = some q → q ∉ adjs row) :
    cutL b ps row = run b (ps.drop (r + 1)) (r + 1) (pass p.1 p.2 (b + r) row) := by
  have e := split_at h
  have hl := take_len_of h
  unfold cutL
  rw [e, run_append, hl, Nat.zero_add]
  rw [← e]
  rw [run_none (ps := ps.take r) (row := row) fun q hq => by
    obtain ⟨j, hj, ej⟩ := mem_take_get hq
    exact hno j q hj ej]
  rfl
/-- the lowest rank that is there may be joined first -/
theorem cut_step {b : Nat} {ps : List (Nat × Nat)} (hw : WF b ps) {r : Nat} {p : Nat × Nat} (h : ps[r]? = some p) (row : List Nat) (hno : ∀ j q, j < r → ps[j]? = some q → q ∉ adjs row) :
    cutL b ps (pass p.1 p.2 (b + r) row) = cutL b ps row := by
  have hp := hw r p h
  have no2 : ∀ j q, j < r → ps[j]? = some q → q ∉ adjs (pass p.1 p.2 (b + r) row) := fun j q hj ej hm => by
    rcases pass_adj hm with ⟨z, _⟩ | z
    · exact hno j q hj ej z
    · have := hw j q ej; omega
  have no3 : (p.1, p.2) ∉ adjs (pass p.1 p.2 (b + r) row) := fun hm => by
    rcases pass_adj hm with ⟨_, z⟩ | z
    · exact z rfl
    · have z' : p.1 = b + r ∨ p.2 = b + r := z
      omega
  rw [cutL_at h row hno, cutL_at h _ no2, pass_id no3]
theorem cut_done {b : Nat} {ps : List (Nat × Nat)} {row : List Nat} (h : ∀ p ∈ ps, p ∉ adjs row) : cutL b ps row = row := run_none h
theorem adjs_append {u v : List Nat} {x : Nat} : adjs (u ++ x :: v) = adjs (u ++ [x]) ++ adjs (x :: v) := by
  induction u with
  | nil => rfl
  | cons a u ih =>
    cases u with
    | nil => rfl
    | cons c u =>
      show (a, c) :: adjs (c :: u ++ x :: v) = ((a, c) :: adjs (c :: u ++ [x])) ++ adjs (x :: v)
      exact congrArg (fun z => (a, c) :: z) ih
theorem pass_left {l r m : Nat} : ∀ {u v : List Nat}, (l, r) ∉ adjs (u ++ [l]) → pass l r m (u ++ l :: r :: v) = u ++ m :: pass l r m v
  | [], v, _ => by
    show pass l r m (l :: r :: v) = m :: pass l r m v
    rw [pass, if_pos ⟨rfl, rfl⟩]
  | [a], v, h => by
    have h1 : ¬ (a = l ∧ l = r) := fun q => h (by show (l, r) ∈ adjs [a, l]; rw [adjs_cons2, q.1, ← q.2]; exact List.mem_cons_self ..)
    show pass l r m (a :: l :: r :: v) = a :: m :: pass l r m v
    rw [pass, if_neg h1, pass, if_pos ⟨rfl, rfl⟩]
  | a :: c :: u, v, h => by
    have h1 : ¬ (a = l ∧ c = r) := fun q => h (by show (l, r) ∈ adjs (a :: c :: (u ++ [l])); rw [adjs_cons2, q.1, q.2]; exact List.mem_cons_self ..)
    have h2 : (l, r) ∉ adjs ((c :: u) ++ [l]) := fun q => h (by show (l, r) ∈ adjs (a :: c :: (u ++ [l])); exact mem_adjs_cons q)
    show pass l r m (a :: c :: (u ++ l :: r :: v)) = a :: (c :: u ++ m :: pass l r m v)
    rw [pass, if_neg h1]
    exact congrArg (a :: ·) (pass_left (u := c :: u) h2)
theorem pass_over {l r m : Nat} (h1 : m ≠ l) (h2 : m ≠ r) : ∀ {u v : List Nat}, (l, r) ∉ adjs u → pass l r m (u ++ m :: v) = u ++ m :: pass l r m v
  | [], v, _ => by
    cases v with
    | nil => rfl
    | cons c v =>
      show pass l r m (m :: c :: v) = m :: pass l r m (c :: v)
      rw [pass, if_neg fun q => h1 q.1]
  | [a], v, h => by
    show pass l r m (a :: m :: v) = a :: m :: pass l r m v
    rw [pass, if_neg fun q => h2 q.2]
    exact congrArg (a :: ·) (pass_over h1 h2 (u := []) (by rw [adjs_nil]; exact List.not_mem_nil))
  | a :: c :: u, v, h => by
    have hn : ¬ (a = l ∧ c = r) := fun q => h (by rw [adjs_cons2, q.1, q.2]; exact List.mem_cons_self ..)
    show pass l r m (a :: c :: (u ++ m :: v)) = a :: (c :: u ++ m :: pass l r m v)
    rw [pass, if_neg hn]
    exact congrArg (a :: ·) (pass_over h1 h2 (u := c :: u) fun q => h (mem_adjs_cons q))
theorem adjs_sub_left {u v : List Nat} {p : Nat × Nat} (h : p ∈ adjs u) : p ∈ adjs (u ++ v) := by
  induction u with
  | nil => cases h
  | cons a u ih =>
    cases u with
    | nil => cases h
    | cons c u =>
      rw [adjs_cons2] at h
      show p ∈ (a, c) :: adjs (c :: u ++ v)
      rcases List.mem_cons.mp h with q | q
      · rw [q]; exact List.mem_cons_self ..
      · exact List.mem_cons_of_mem _ (ih q)
theorem adjs_sub_right {u v : List Nat} {p : Nat × Nat} (h : p ∈ adjs v) : p ∈ adjs (u ++ v) := by
  induction u with
  | nil => exact h
  | cons a u ih => exact mem_adjs_cons ih
/-- the leftmost place of the lowest rank may be joined first -/
theorem cut_first {b : Nat} {ps : List (Nat × Nat)} (hw : WF b ps) {r : Nat} {p : Nat × Nat} (h : ps[r]? = some p) {u v : List Nat} (hu : p ∉ adjs (u ++ [p.1]))
    (hno : ∀ j q, j < r → ps[j]? = some q → q ∉ adjs (u ++ p.1 :: p.2 :: v)) : cutL b ps (u ++ (b + r) :: v) = cutL b ps (u ++ p.1 :: p.2 :: v) := by
  have hp := hw r p h
  have no2 : ∀ j q, j < r → ps[j]? = some q → q ∉ adjs (u ++ (b + r) :: v) := fun j q hj ej hm => by
    have hq := hw j q ej
    have key : q ∈ adjs u ∨ q ∈ adjs v ∨ q.1 = b + r ∨ q.2 = b + r := by
      rw [adjs_append] at hm
      rcases List.mem_append.mp hm with z | z
      · -- adjs (u ++ [b + r])
        clear hm
        revert z
        clear hu hno
        induction u with
        | nil => intro z; cases z
        | cons a u ih =>
          intro z
          cases u with
          | nil =>
            have z' : q ∈ [(a, b + r)] := z
            rw [List.mem_singleton.mp z']
            exact .inr (.inr (.inr rfl))
          | cons c u =>
            have z' : q ∈ (a, c) :: adjs (c :: u ++ [b + r]) := z
            rcases List.mem_cons.mp z' with w | w
            · refine .inl ?_
              rw [w, adjs_cons2]; exact List.mem_cons_self ..
            · rcases ih w with y | y
              · exact .inl (mem_adjs_cons y)
              · exact .inr y
      · cases v with
        | nil => cases z
        | cons c v =>
          rw [adjs_cons2] at z
          rcases List.mem_cons.mp z with w | w
          · rw [w]; exact .inr (.inr (.inl rfl))
          · exact .inr (.inl w)
    rcases key with z | z | z
    · exact hno j q hj ej (adjs_sub_left z)
    · exact hno j q hj ej (adjs_sub_right (mem_adjs_cons (mem_adjs_cons z)))
    · omega
  rw [cutL_at h _ hno, cutL_at h _ no2, pass_left hu, pass_over (by omega) (by omega) fun q => hu (adjs_sub_left q)]
end RJ
end

section
set_option maxRecDepth 100000
namespace RJ
/-- the row of the letters -/
def lets (al t : List Nat) : List Nat := t.map fun c => al.idxOf c
theorem snoc_ind {α : Type} {M : List α → Prop} (h0 : M []) (h1 : ∀ l a, M l → M (l ++ [a])) (l : List α) : M l := by
  have key : ∀ r : List α, M r.reverse := by
    intro r
    induction r with
    | nil => exact h0
    | cons a r ih => rw [List.reverse_cons]; exact h1 _ _ ih
  rw [← l.reverse_reverse]; exact key _
/-- the texts of the pieces -/
def textsOf (al : List Nat) (ps : List (Nat × Nat)) : List (List Nat) := ps.foldl (fun ts p => ts ++ [ts.getD p.1 [] ++ ts.getD p.2 []]) (al.map fun c => [c])
theorem textsOf_snoc (al : List Nat) (ps : List (Nat × Nat)) (p : Nat × Nat) : textsOf al (ps ++ [p]) = textsOf al ps ++ [(textsOf al ps).getD p.1 [] ++ (textsOf al ps).getD p.2 []] := by
  unfold textsOf
  rw [List.foldl_append]; rfl
theorem textsOf_len (al : List Nat) (ps : List (Nat × Nat)) : (textsOf al ps).length = al.length + ps.length := by
  induction ps using snoc_ind with
  | h0 => unfold textsOf; rw [List.foldl_nil, List.length_map]; rfl
  | h1 ps p ih => rw [textsOf_snoc, List.length_append, ih, List.length_append]; rfl
theorem getD_mem_or {ts : List (List Nat)} {i : Nat} : ts.getD i [] ∈ ts ∨ ts.getD i [] = [] := by
  rw [List.getD_eq_getElem?_getD]
  cases h : ts[i]? with
  | none => exact .inr rfl
  | some t => exact .inl (List.mem_of_getElem? h)
theorem textsOf_al {al : List Nat} {ps : List (Nat × Nat)} : ∀ t ∈ textsOf al ps, ∀ c ∈ t, c ∈ al := by
  induction ps using snoc_ind with
  | h0 =>
    intro t ht c hc
    unfold textsOf at ht
    rw [List.foldl_nil] at ht
    obtain ⟨d, hd, rfl⟩ := List.mem_map.mp ht
    rw [List.mem_singleton.mp hc]; exact hd
  | h1 ps p ih =>
    intro t ht c hc
    rw [textsOf_snoc] at ht
    rcases List.mem_append.mp ht with h | h
    · exact ih t h c hc
    · rw [List.mem_singleton.mp h] at hc
      have key : ∀ i, c ∈ (textsOf al ps).getD i [] → c ∈ al := fun i hi => by
        rcases getD_mem_or (ts := textsOf al ps) (i := i) with m | m
        · exact ih _ m c hi
        · rw [m] at hi; cases hi
      rcases List.mem_append.mp hc with z | z
      · exact key _ z
      · exact key _ z
/-- may the pair be the next join -/
def okP (al : List Nat) (ts : List (List Nat)) (ps : List (Nat × Nat)) (p : Nat × Nat) : Prop :=
  p.1 < ts.length ∧ p.2 < ts.length ∧ (ts.getD p.1 [] ++ ts.getD p.2 []).length ≤ 40 ∧ cutL al.length ps (lets al (ts.getD p.1 [] ++ ts.getD p.2 [])) = [p.1, p.2]
instance (al ts ps p) : Decidable (okP al ts ps p) := by unfold okP; infer_instance
def Proper (al : List Nat) (ps : List (Nat × Nat)) : Prop := ∀ i p, ps[i]? = some p → okP al (textsOf al (ps.take i)) (ps.take i) p
theorem Proper.wf {al : List Nat} {ps : List (Nat × Nat)} (h : Proper al ps) : WF al.length ps := fun i p e => by
  obtain ⟨h1, h2, _⟩ := h i p e
  rw [textsOf_len, take_len_of e] at h1 h2
  exact ⟨h1, h2⟩
theorem Proper.take {al : List Nat} {ps : List (Nat × Nat)} (h : Proper al ps) (n : Nat) : Proper al (ps.take n) := fun i p e => by
  rw [List.getElem?_take] at e
  split at e
  · have := h i p e
    rw [List.take_take, Nat.min_eq_left (by omega)]
    exact this
  · cases e
theorem Proper.nil (al : List Nat) : Proper al [] := fun i p e => by simp at e
theorem Proper.snoc {al : List Nat} {ps : List (Nat × Nat)} {p : Nat × Nat} (h : Proper al ps) (hp : okP al (textsOf al ps) ps p) : Proper al (ps ++ [p]) := fun i q e => by
  by_cases hi : i < ps.length
  · rw [List.getElem?_append_left hi] at e
    rw [List.take_append_of_le_length (by omega)]
    exact h i q e
  · rw [List.getElem?_append_right (by omega)] at e
    have hi0 : i - ps.length = 0 := by
      rcases Nat.eq_zero_or_pos (i - ps.length) with z | z
      · exact z
      · rw [List.getElem?_eq_none (by rw [List.length_singleton]; exact z)] at e; cases e
    rw [hi0] at e
    have e' : p = q := by simpa using e
    subst e'
    have hi' : i = ps.length := by omega
    rw [hi', List.take_left]
    exact hp
theorem Proper.front {al : List Nat} {ps : List (Nat × Nat)} {p : Nat × Nat} (h : Proper al (ps ++ [p])) : Proper al ps ∧ okP al (textsOf al ps) ps p := by
  refine ⟨?_, ?_⟩
  · have := h.take ps.length
    rw [List.take_left] at this; exact this
  · have := h ps.length p (by rw [List.getElem?_append_right (Nat.le_refl _), Nat.sub_self]; rfl)
    rw [List.take_left] at this; exact this
theorem Proper.short {al : List Nat} {ps : List (Nat × Nat)} (h : Proper al ps) : ∀ t ∈ textsOf al ps, t.length ≤ 40 := by
  induction ps using snoc_ind with
  | h0 =>
    intro t ht
    unfold textsOf at ht
    rw [List.foldl_nil] at ht
    obtain ⟨d, hd, rfl⟩ := List.mem_map.mp ht
    simp
  | h1 ps p ih =>
    intro t ht
    obtain ⟨h1, h2⟩ := h.front
    rw [textsOf_snoc] at ht
    rcases List.mem_append.mp ht with q | q
    · exact ih h1 t q
    · rw [List.mem_singleton.mp q]; exact h2.2.2.1
/-- the cut of a piece's text is this piece -/
theorem cut_piece {al : List Nat} (hal : al.Nodup) {ps : List (Nat × Nat)} (h : Proper al ps) : ∀ i t, (textsOf al ps)[i]? = some t → cutL al.length ps (lets al t) = [i] := by
  induction ps using snoc_ind with
  | h0 =>
    intro i t ht
    unfold textsOf at ht
    rw [List.foldl_nil, List.getElem?_map] at ht
    cases e : al[i]? with
    | none => rw [e] at ht; cases ht
    | some c =>
      rw [e] at ht
      have : t = [c] := (Option.some.inj ht).symm
      subst this
      obtain ⟨hi, hc⟩ := List.getElem?_eq_some_iff.mp e
      show [al.idxOf c] = [i]
      have h1 : al.idxOf c < al.length := List.idxOf_lt_length_iff.mpr (List.mem_of_getElem? e)
      have h2 : al[al.idxOf c] = al[i] := by rw [List.getElem_idxOf h1, hc]
      rw [(List.getElem_inj hal).mp h2]
  | h1 ps p ih =>
    intro i t ht
    obtain ⟨h1, h2⟩ := h.front
    rw [cutL_snoc]
    rw [textsOf_snoc] at ht
    by_cases hi : i < (textsOf al ps).length
    · rw [List.getElem?_append_left hi] at ht
      rw [ih h1 i t ht]; rfl
    · rw [List.getElem?_append_right (by omega)] at ht
      have hi0 : i - (textsOf al ps).length = 0 := by
        rcases Nat.eq_zero_or_pos (i - (textsOf al ps).length) with z | z
        · exact z
        · rw [List.getElem?_eq_none (by rw [List.length_singleton]; exact z)] at ht; cases ht
      rw [hi0] at ht
      have e' : (textsOf al ps).getD p.1 [] ++ (textsOf al ps).getD p.2 [] = t := by simpa using ht
      rw [← e', h2.2.2.2]
      have hi' : i = al.length + ps.length := by rw [textsOf_len] at hi0 hi; omega
      show pass p.1 p.2 (al.length + ps.length) [p.1, p.2] = [i]
      rw [pass, if_pos ⟨rfl, rfl⟩, hi']; rfl
theorem texts_inj {al : List Nat} (hal : al.Nodup) {ps : List (Nat × Nat)} (h : Proper al ps) {i j : Nat} {t : List Nat} (hi : (textsOf al ps)[i]? = some t) (hj : (textsOf al ps)[j]? = some t) : i = j := by
  have h1 := cut_piece hal h i t hi
  rw [cut_piece hal h j t hj] at h1
  injection h1 with h1; exact h1.symm
theorem texts_nodup {al : List Nat} (hal : al.Nodup) {ps : List (Nat × Nat)} (h : Proper al ps) : (textsOf al ps).Nodup := by
  refine List.pairwise_iff_getElem.mpr fun i j hi hj hij e => ?_
  have := texts_inj hal h (List.getElem?_eq_getElem hi) (by rw [List.getElem?_eq_getElem hj, ← e])
  omega
/-- the text of a row -/
def textR (ts : List (List Nat)) (row : List Nat) : List Nat := (row.map fun i => ts.getD i []).flatten
theorem getD_short {ts : List (List Nat)} (h : ∀ t ∈ ts, t.length ≤ 40) (i : Nat) : (ts.getD i []).length ≤ 40 := by
  rcases getD_mem_or (ts := ts) (i := i) with m | m
  · exact h _ m
  · rw [m]; exact Nat.zero_le _
theorem run_len (b : Nat) : ∀ (ps : List (Nat × Nat)) (k : Nat) (row : List Nat), (run b ps k row).length ≤ row.length
  | [], _, _ => Nat.le_refl _
  | p :: ps, k, row => Nat.le_trans (run_len b ps (k + 1) _) pass_len
theorem cutL_len (b : Nat) (ps : List (Nat × Nat)) (row : List Nat) : (cutL b ps row).length ≤ row.length := run_len b ps 0 row
theorem textR_cons (ts : List (List Nat)) (a : Nat) (row : List Nat) : textR ts (a :: row) = ts.getD a [] ++ textR ts row := rfl
theorem pass_text {ts : List (List Nat)} {l r m : Nat} (h : ts.getD m [] = ts.getD l [] ++ ts.getD r []) : ∀ row : List Nat, textR ts (pass l r m row) = textR ts row
  | [] => rfl
  | [a] => rfl
  | a :: b :: t => by
    rw [pass]
    split
    · rename_i c
      obtain ⟨rfl, rfl⟩ := c
      rw [textR_cons, textR_cons, textR_cons, pass_text h t, h, List.append_assoc]
    · rw [textR_cons, textR_cons ts a, pass_text h (b :: t)]
theorem run_text {ts : List (List Nat)} {b : Nat} : ∀ (qs : List (Nat × Nat)) (k : Nat) (row : List Nat), (∀ (i : Nat) (q : Nat × Nat), qs[i]? = some q → ts.getD (b + k + i) [] = ts.getD q.1 [] ++ ts.getD q.2 []) → textR ts (run b qs k row) = textR ts row
  | [], _, _, _ => rfl
  | q :: qs, k, row, h => by
    have h0 := h 0 q rfl
    show textR ts (run b qs (k + 1) (pass q.1 q.2 (b + k) row)) = _
    rw [run_text qs (k + 1) _ fun i p e => by
      have := h (i + 1) p e
      rw [show b + (k + 1) + i = b + k + (i + 1) by omega]; exact this]
    exact pass_text h0 row
theorem texts_at {al : List Nat} {ps : List (Nat × Nat)} (h : WF al.length ps) : ∀ (i : Nat) (p : Nat × Nat), ps[i]? = some p → (textsOf al ps).getD (al.length + i) [] = (textsOf al ps).getD p.1 [] ++ (textsOf al ps).getD p.2 [] := by
  induction ps using snoc_ind with
  | h0 => intro i p e; cases e
  | h1 ps q ih =>
    intro i p e
    have hw : WF al.length ps := by have := h.take ps.length; rw [List.take_left] at this; exact this
    have key : ∀ j, j < al.length + ps.length → (textsOf al (ps ++ [q])).getD j [] = (textsOf al ps).getD j [] := fun j hj => by
      rw [textsOf_snoc, List.getD_eq_getElem?_getD, List.getElem?_append_left (by rw [textsOf_len]; exact hj), ← List.getD_eq_getElem?_getD]
    have hp := h i p e
    by_cases c : i < ps.length
    · rw [List.getElem?_append_left c] at e
      rw [key _ (by omega), key _ (by omega), key _ (by omega)]
      exact ih hw i p e
    · have hi : i = ps.length := by
        have := (List.getElem?_eq_some_iff.mp e).1
        rw [List.length_append, List.length_singleton] at this
        omega
      subst hi
      rw [List.getElem?_append_right (Nat.le_refl _), Nat.sub_self] at e
      have e' : q = p := Option.some.inj e
      subst e'
      rw [key q.1 hp.1, key q.2 hp.2, textsOf_snoc, List.getD_eq_getElem?_getD, List.getElem?_append_right (by rw [textsOf_len]; exact Nat.le_refl _), textsOf_len, Nat.sub_self]; rfl
theorem texts_letter {al : List Nat} {ps : List (Nat × Nat)} {i c : Nat} (h : al[i]? = some c) : (textsOf al ps).getD i [] = [c] := by
  have hi := (List.getElem?_eq_some_iff.mp h).1
  induction ps using snoc_ind with
  | h0 =>
    unfold textsOf
    rw [List.foldl_nil, List.getD_eq_getElem?_getD, List.getElem?_map, h]; rfl
  | h1 ps q ih =>
    rw [textsOf_snoc, List.getD_eq_getElem?_getD, List.getElem?_append_left (by rw [textsOf_len]; omega), ← List.getD_eq_getElem?_getD]
    exact ih
theorem text_lets {al : List Nat} {ps : List (Nat × Nat)} {t : List Nat} (h : ∀ c ∈ t, c ∈ al) : textR (textsOf al ps) (lets al t) = t := by
  induction t with
  | nil => rfl
  | cons c t ih =>
    show (textsOf al ps).getD (al.idxOf c) [] ++ textR (textsOf al ps) (lets al t) = c :: t
    rw [ih fun d hd => h d (List.mem_cons_of_mem _ hd), texts_letter (by
      have hc := h c (List.mem_cons_self ..)
      rw [List.getElem?_eq_getElem (List.idxOf_lt_length_of_mem hc), List.getElem_idxOf])]
    rfl
theorem text_cut {al : List Nat} {ps : List (Nat × Nat)} (hw : WF al.length ps) {t : List Nat} (h : ∀ c ∈ t, c ∈ al) : textR (textsOf al ps) (cutL al.length ps (lets al t)) = t := by
  unfold cutL
  rw [run_text ps 0 _ fun i q e => by rw [Nat.add_zero]; exact texts_at hw i q e]
  exact text_lets h
theorem run_mem {b x : Nat} : ∀ (qs : List (Nat × Nat)) (k : Nat) (row : List Nat), x ∈ run b qs k row → x ∈ row ∨ (b + k ≤ x ∧ x < b + k + qs.length)
  | [], _, _, h => .inl h
  | q :: qs, k, row, h => by
    rcases run_mem qs (k + 1) _ h with z | z
    · rcases pass_mem z with y | y
      · exact .inl y
      · exact .inr ⟨by omega, by rw [List.length_cons]; omega⟩
    · exact .inr ⟨by omega, by rw [List.length_cons]; omega⟩
theorem lets_lt {al t : List Nat} (h : ∀ c ∈ t, c ∈ al) : ∀ i ∈ lets al t, i < al.length := fun i hi => by
  obtain ⟨c, hc, rfl⟩ := List.mem_map.mp hi
  exact List.idxOf_lt_length_of_mem (h c hc)
theorem cut_lt {al : List Nat} {ps : List (Nat × Nat)} {t : List Nat} (h : ∀ c ∈ t, c ∈ al) : ∀ i ∈ cutL al.length ps (lets al t), i < al.length + ps.length := fun i hi => by
  rcases run_mem ps 0 _ hi with z | z
  · have := lets_lt h i z; omega
  · omega
theorem cut_nil (b : Nat) (ps : List (Nat × Nat)) : cutL b ps [] = [] := List.eq_nil_of_length_eq_zero (Nat.le_zero.mp (cutL_len b ps []))
def apart (m l r : Nat) (row : List Nat) : List Nat := row.flatMap fun x => if x = m then [l, r] else [x]
theorem apart_nil (m l r : Nat) : apart m l r [] = [] := rfl
theorem apart_cons (m l r x : Nat) (t : List Nat) : apart m l r (x :: t) = (if x = m then [l, r] else [x]) ++ apart m l r t := rfl
theorem apart_app (m l r : Nat) (u v : List Nat) : apart m l r (u ++ v) = apart m l r u ++ apart m l r v := List.flatMap_append
theorem apart_pass {m l r : Nat} : ∀ {row : List Nat}, m ∉ row → apart m l r (pass l r m row) = row
  | [], _ => rfl
  | [a], h => by
    have : a ≠ m := fun e => h (by rw [e]; exact List.mem_cons_self ..)
    show (if a = m then [l, r] else [a]) ++ [] = [a]
    rw [if_neg this]; rfl
  | a :: b :: t, h => by
    have ha : a ≠ m := fun e => h (by rw [e]; exact List.mem_cons_self ..)
    have ht : m ∉ b :: t := fun z => h (List.mem_cons_of_mem _ z)
    rw [pass]
    split
    · rename_i c
      obtain ⟨rfl, rfl⟩ := c
      rw [apart_cons, if_pos rfl, apart_pass (fun z => ht (List.mem_cons_of_mem _ z))]; rfl
    · rw [apart_cons, if_neg ha, apart_pass ht]; rfl
def splitD (b : Nat) (ps : List (Nat × Nat)) (n : Nat) : Nat → List Nat → List Nat
  | 0, row => row
  | k + 1, row => if n ≤ k then splitD b ps n k (apart (b + k) (ps.getD k (0, 0)).1 (ps.getD k (0, 0)).2 row) else row
variable {b n : Nat} {ps : List (Nat × Nat)}
theorem splitD_le {k : Nat} (h : k ≤ n) (row : List Nat) : splitD b ps n k row = row := by
  cases k with
  | zero => rfl
  | succ k => rw [splitD, if_neg (by omega)]
theorem splitD_app : ∀ (k : Nat) (u v : List Nat), splitD b ps n k (u ++ v) = splitD b ps n k u ++ splitD b ps n k v
  | 0, _, _ => rfl
  | k + 1, u, v => by
    rw [splitD, splitD, splitD]
    split
    · rw [apart_app, splitD_app k]
    · rfl
theorem splitD_nil (k : Nat) : splitD b ps n k [] = [] := by
  induction k with
  | zero => rfl
  | succ k ih =>
    rw [splitD, apart_nil, ih]
    split <;> rfl
theorem apart_one {m l r x : Nat} (h : x ≠ m) : apart m l r [x] = [x] := by
  show (if x = m then [l, r] else [x]) ++ [] = [x]
  rw [if_neg h]; rfl
theorem splitD_low {j y : Nat} (hy : y < b + j) : ∀ {k : Nat}, j ≤ k → splitD b ps n k [y] = splitD b ps n j [y]
  | 0, h => by rw [Nat.le_zero.mp h]
  | k + 1, h => by
    by_cases c : j = k + 1
    · rw [c]
    · rw [splitD]
      split
      · rw [apart_one (by omega)]; exact splitD_low hy (by omega)
      · rw [splitD_le (by omega)]
theorem splitD_small {x : Nat} (hx : x < b + n) (k : Nat) : splitD b ps n k [x] = [x] := by
  by_cases h : n ≤ k
  · rw [splitD_low hx h, splitD_le (Nat.le_refl _)]
  · exact splitD_le (by omega) _
theorem splitD_big {j : Nat} {p : Nat × Nat} (hp : ps[j]? = some p) (hn : n ≤ j) (hw : p.1 < b + j ∧ p.2 < b + j) : ∀ {k : Nat}, j < k → splitD b ps n k [b + j] = splitD b ps n k [p.1, p.2]
  | 0, h => absurd h (Nat.not_lt_zero _)
  | k + 1, h => by
    have e1 : splitD b ps n (k + 1) [p.1, p.2] = splitD b ps n j [p.1] ++ splitD b ps n j [p.2] := by
      rw [show [p.1, p.2] = [p.1] ++ [p.2] from rfl, splitD_app, splitD_low hw.1 (by omega), splitD_low hw.2 (by omega)]
    by_cases c : j = k
    · subst c
      rw [e1, splitD, if_pos hn]
      have e : ps.getD j (0, 0) = p := by rw [List.getD_eq_getElem?_getD, hp]; rfl
      rw [e]
      show splitD b ps n j ((if b + j = b + j then [p.1, p.2] else [b + j]) ++ []) = _
      rw [if_pos rfl, ← splitD_app]; rfl
    · rw [e1, splitD, if_pos (by omega), apart_one (by omega), splitD_big hp hn hw (show j < k by omega)]
      rw [show [p.1, p.2] = [p.1] ++ [p.2] from rfl, splitD_app, splitD_low hw.1 (by omega), splitD_low hw.2 (by omega)]
theorem splitD_cut {row : List Nat} (hrow : ∀ x ∈ row, x < b) (hn : n ≤ ps.length) : ∀ k, k ≤ ps.length → n ≤ k → splitD b ps n k (cutL b (ps.take k) row) = cutL b (ps.take n) row
  | 0, _, h => by rw [Nat.le_zero.mp h]; rfl
  | k + 1, hk, h => by
    by_cases c : n = k + 1
    · rw [c, splitD_le (Nat.le_refl _)]
    · obtain ⟨p, hp⟩ : ∃ p, ps[k]? = some p := ⟨_, List.getElem?_eq_getElem (by omega)⟩
      have e : ps.getD k (0, 0) = p := by rw [List.getD_eq_getElem?_getD, hp]; rfl
      rw [splitD, if_pos (by omega), e, take_succ_of hp, cutL_snoc, take_len_of hp, apart_pass fun hm => ?_]
      · exact splitD_cut hrow hn k (by omega) (by omega)
      · rcases run_mem _ 0 _ hm with z | z
        · have := hrow _ z; omega
        · rw [take_len_of hp] at z; omega
theorem apart_text {ts : List (List Nat)} {m l r : Nat} (h : ts.getD m [] = ts.getD l [] ++ ts.getD r []) : ∀ row : List Nat, textR ts (apart m l r row) = textR ts row
  | [] => rfl
  | x :: t => by
    have app : ∀ u v : List Nat, textR ts (u ++ v) = textR ts u ++ textR ts v := fun u v => by unfold textR; rw [List.map_append, List.flatten_append]
    rw [apart_cons, app, apart_text h t, textR_cons ts x]
    split
    · rename_i e
      subst e
      rw [h]
      show (ts.getD l [] ++ (ts.getD r [] ++ [])) ++ _ = _
      rw [List.append_nil]
    · show (ts.getD x [] ++ []) ++ _ = _
      rw [List.append_nil]
theorem splitD_text {al : List Nat} (hw : WF al.length ps) : ∀ (k : Nat) (row : List Nat), k ≤ ps.length → textR (textsOf al ps) (splitD al.length ps n k row) = textR (textsOf al ps) row
  | 0, _, _ => rfl
  | k + 1, row, hk => by
    rw [splitD]
    split
    · obtain ⟨p, hp⟩ : ∃ p, ps[k]? = some p := ⟨_, List.getElem?_eq_getElem (by omega)⟩
      have e : ps.getD k (0, 0) = p := by rw [List.getD_eq_getElem?_getD, hp]; rfl
      rw [splitD_text hw k _ (by omega), e]
      exact apart_text (texts_at hw k p hp) row
    · rfl
theorem splitD_mem (hw : WF b ps) : ∀ (k : Nat) (row : List Nat), k ≤ ps.length → (∀ x ∈ row, x < b + ps.length) → ∀ x ∈ splitD b ps n k row, x < b + ps.length
  | 0, _, _, h => h
  | k + 1, row, hk, h => by
    rw [splitD]
    split
    · obtain ⟨p, hp⟩ : ∃ p, ps[k]? = some p := ⟨_, List.getElem?_eq_getElem (by omega)⟩
      have e : ps.getD k (0, 0) = p := by rw [List.getD_eq_getElem?_getD, hp]; rfl
      refine splitD_mem hw k _ (by omega) fun x hx => ?_
      rw [e] at hx
      obtain ⟨y, hy, hxy⟩ := List.mem_flatMap.mp hx
      have hwk := hw k p hp
      split at hxy
      · rcases List.mem_cons.mp hxy with z | z
        · omega
        · rw [List.mem_singleton.mp z]; omega
      · rw [List.mem_singleton.mp hxy]; exact h y hy
    · exact h
end RJ
end

section
set_option maxRecDepth 100000
namespace RJ
/-! ### spines, crossings and cuts -/
section
variable {b n : Nat} {ps : List (Nat × Nat)}
/-- a row taken back to stage n -/
def Dn (b : Nat) (ps : List (Nat × Nat)) (n : Nat) (row : List Nat) : List Nat := splitD b ps n ps.length row
theorem Dn_app (u v : List Nat) : Dn b ps n (u ++ v) = Dn b ps n u ++ Dn b ps n v := splitD_app _ _ _
theorem Dn_cons (x : Nat) (v : List Nat) : Dn b ps n (x :: v) = Dn b ps n [x] ++ Dn b ps n v := splitD_app _ [x] v
theorem Dn_nil : Dn b ps n [] = [] := splitD_nil _
theorem Dn_small {x : Nat} (hx : x < b + n) : Dn b ps n [x] = [x] := splitD_small hx _
theorem Dn_full (row : List Nat) : Dn b ps ps.length row = row := splitD_le (Nat.le_refl _) row
theorem Dn_big (hw : WF b ps) {j : Nat} {p : Nat × Nat} (hp : ps[j]? = some p) (hn : n ≤ j) : Dn b ps n [b + j] = Dn b ps n [p.1] ++ Dn b ps n [p.2] := by
  have hj := (List.getElem?_eq_some_iff.mp hp).1
  show splitD b ps n ps.length [b + j] = _
  rw [splitD_big hp hn (hw j p hp) hj, show [p.1, p.2] = [p.1] ++ [p.2] from rfl, splitD_app]; rfl
theorem Dn_cut {row : List Nat} (hrow : ∀ x ∈ row, x < b) (hn : n ≤ ps.length) : Dn b ps n (cutL b ps row) = cutL b (ps.take n) row := by
  have := splitD_cut (n := n) hrow hn ps.length (Nat.le_refl _) hn
  rw [List.take_length] at this
  exact this
theorem part_of {x : Nat} (h : x < b + ps.length) : x < b ∨ ∃ j p, x = b + j ∧ ps[j]? = some p := by
  by_cases c : x < b
  · exact .inl c
  · exact .inr ⟨x - b, _, by omega, List.getElem?_eq_getElem (by omega)⟩
theorem Dn_ne (hw : WF b ps) : ∀ (x : Nat), x < b + ps.length → ∃ y t, Dn b ps n [x] = y :: t := by
  intro x
  induction x using Nat.strongRecOn with
  | ind x ih =>
    intro hx
    by_cases c : x < b + n
    · exact ⟨x, [], Dn_small c⟩
    · rcases part_of hx with h | ⟨j, p, rfl, hp⟩
      · omega
      · have hj := hw j p hp
        obtain ⟨y, t, e⟩ := ih p.1 hj.1 (by omega)
        exact ⟨y, t ++ Dn b ps n [p.2], by rw [Dn_big hw hp (by omega), e]; rfl⟩
/-- lists in which each piece is the cut of its letters -/
structure Good (b : Nat) (ps : List (Nat × Nat)) : Prop where
  wf : WF b ps
  one : ∀ x, x < b + ps.length → cutL b ps (Dn b ps 0 [x]) = [x]
  low : ∀ x, x < b + ps.length → ∀ y ∈ Dn b ps 0 [x], y < b
theorem Good.st (G : Good b ps) {x : Nat} (hx : x < b + ps.length) (hn : n ≤ ps.length) : cutL b (ps.take n) (Dn b ps 0 [x]) = Dn b ps n [x] := by
  have := Dn_cut (G.low x hx) hn
  rw [G.one x hx] at this
  exact this.symm
theorem Good.lows (G : Good b ps) : ∀ {row : List Nat}, (∀ x ∈ row, x < b + ps.length) → ∀ y ∈ Dn b ps 0 row, y < b
  | [], _, y, h => by rw [Dn_nil] at h; cases h
  | x :: t, hx, y, h => by
    rw [Dn_cons] at h
    rcases List.mem_append.mp h with z | z
    · exact G.low x (hx x (List.mem_cons_self ..)) y z
    · exact G.lows (fun u hu => hx u (List.mem_cons_of_mem _ hu)) y z
theorem Good.next (G : Good b ps) {x : Nat} (hx : x < b + ps.length) {p : Nat × Nat} (hp : ps[n]? = some p) : pass p.1 p.2 (b + n) (Dn b ps n [x]) = Dn b ps (n + 1) [x] := by
  have hn := (List.getElem?_eq_some_iff.mp hp).1
  rw [← G.st hx (by omega), ← G.st hx (show n + 1 ≤ ps.length by omega), take_succ_of hp, cutL_snoc, take_len_of hp]
/-! passes over two rows -/
theorem last_cons {a : Nat} {l : List Nat} {x : Nat} (h : l.getLast? = some x) : (a :: l).getLast? = some x := by
  rw [List.getLast?_cons, h]; rfl
theorem pass_app {l r m : Nat} (v : List Nat) : ∀ (u : List Nat), ¬ ((pass l r m u).getLast? = some l ∧ v.head? = some r) → pass l r m (u ++ v) = pass l r m u ++ pass l r m v
  | [], _ => rfl
  | [a], h => by
    cases v with
    | nil => rfl
    | cons c t =>
      show pass l r m (a :: c :: t) = a :: pass l r m (c :: t)
      rw [pass, if_neg]
      rintro ⟨rfl, rfl⟩
      exact h ⟨rfl, rfl⟩
  | a :: c :: t, h => by
    show pass l r m (a :: c :: (t ++ v)) = pass l r m (a :: c :: t) ++ pass l r m v
    rw [pass] at h
    rw [pass, pass]
    by_cases q : a = l ∧ c = r
    · rw [if_pos q] at h
      rw [if_pos q, if_pos q, pass_app v t fun z => h ⟨last_cons z.1, z.2⟩]; rfl
    · rw [if_neg q] at h
      rw [if_neg q, if_neg q, show c :: (t ++ v) = (c :: t) ++ v from rfl, pass_app v (c :: t) fun z => h ⟨last_cons z.1, z.2⟩]; rfl
theorem last_cons_ne {m l : Nat} {x : List Nat} (hm : m ≠ l) (h : (m :: x).getLast? = some l) : x.getLast? = some l ∧ x ≠ [] := by
  cases x with
  | nil => exact absurd (Option.some.inj h) hm
  | cons y x =>
    rw [List.getLast?_cons_cons] at h
    exact ⟨h, List.cons_ne_nil _ _⟩
theorem pass_cross {l r m : Nat} (hm : m ≠ l) (t : List Nat) : ∀ (u : List Nat), (pass l r m u).getLast? = some l → pass l r m (u ++ r :: t) = (pass l r m u).dropLast ++ m :: pass l r m t
  | [], h => by cases h
  | [a], h => by
    have e : a = l := Option.some.inj h
    subst e
    show pass a r m (a :: r :: t) = m :: pass a r m t
    rw [pass, if_pos ⟨rfl, rfl⟩]
  | a :: c :: u, h => by
    show pass l r m (a :: c :: (u ++ r :: t)) = _
    rw [pass] at h
    rw [pass, pass]
    by_cases q : a = l ∧ c = r
    · rw [if_pos q] at h
      rw [if_pos q, if_pos q]
      obtain ⟨h1, h2⟩ := last_cons_ne hm h
      rw [pass_cross hm t u h1, List.dropLast_cons_of_ne_nil h2]; rfl
    · rw [if_neg q] at h
      rw [if_neg q, if_neg q]
      obtain ⟨y, s, e, _⟩ := pass_head (l := l) (r := r) (m := m) (a := c) (t := u)
      have h2 : pass l r m (c :: u) ≠ [] := by rw [e]; exact List.cons_ne_nil _ _
      have h1 : (pass l r m (c :: u)).getLast? = some l := by
        rw [e] at h ⊢
        rwa [List.getLast?_cons_cons] at h
      rw [show c :: (u ++ r :: t) = (c :: u) ++ r :: t from rfl, pass_cross hm t (c :: u) h1, List.dropLast_cons_of_ne_nil h2]; rfl
/-! spines -/
inductive Spn (b : Nat) (ps : List (Nat × Nat)) (sd : Nat × Nat → Nat) (x : Nat) : Nat → Option Nat → Prop
  | self : Spn b ps sd x x none
  | step {j : Nat} {p : Nat × Nat} {bd : Option Nat} : Spn b ps sd x (b + j) bd → ps[j]? = some p → Spn b ps sd x (sd p) (some j)
/-- n is not beyond the bound -/
def upTo (n : Nat) (bd : Option Nat) : Prop := ∀ k, bd = some k → n ≤ k
def Side (sd : Nat × Nat → Nat) : Prop := ∀ p, sd p = p.1 ∨ sd p = p.2
theorem side1 : Side Prod.fst := fun _ => .inl rfl
theorem side2 : Side Prod.snd := fun _ => .inr rfl
theorem Spn.lt {sd : Nat × Nat → Nat} (hs : Side sd) (hw : WF b ps) {x y k : Nat} (h : Spn b ps sd x y (some k)) : y < b + k ∧ k < ps.length := by
  cases h with
  | step h hp =>
    have := hw _ _ hp
    refine ⟨?_, (List.getElem?_eq_some_iff.mp hp).1⟩
    rcases hs ‹_› with e | e <;> rw [e] <;> omega
theorem Spn.mem {sd : Nat × Nat → Nat} (hs : Side sd) (hw : WF b ps) {x y : Nat} {bd : Option Nat} (hx : x < b + ps.length) (h : Spn b ps sd x y bd) : y < b + ps.length := by
  cases bd with
  | none => cases h; exact hx
  | some k => have := h.lt hs hw; omega
theorem Spn.ahead {sd : Nat × Nat → Nat} {j y : Nat} {p : Nat × Nat} {bd : Option Nat} (hp : ps[j]? = some p) (h : Spn b ps sd (sd p) y bd) : Spn b ps sd (b + j) y (some (bd.getD j)) := by
  induction h with
  | self => exact .step .self hp
  | step h hq ih => exact .step ih hq
theorem Spn.last (hw : WF b ps) {x y : Nat} {bd : Option Nat} (h : Spn b ps Prod.snd x y bd) : upTo n bd → ∃ pre, Dn b ps n [x] = pre ++ Dn b ps n [y] := by
  induction h with
  | self => exact fun _ => ⟨[], rfl⟩
  | step h hp ih =>
    rename_i j p bd
    intro hu
    have hj := hu j rfl
    obtain ⟨pre, e⟩ := ih fun k ek => by
      subst ek
      have := (h.lt side2 hw).1
      omega
    exact ⟨pre ++ Dn b ps n [p.1], by rw [e, Dn_big hw hp hj, List.append_assoc]⟩
theorem Spn.first (hw : WF b ps) {x y : Nat} {bd : Option Nat} (h : Spn b ps Prod.fst x y bd) : upTo n bd → ∃ post, Dn b ps n [x] = Dn b ps n [y] ++ post := by
  induction h with
  | self => exact fun _ => ⟨[], (List.append_nil _).symm⟩
  | step h hp ih =>
    rename_i j p bd
    intro hu
    have hj := hu j rfl
    obtain ⟨post, e⟩ := ih fun k ek => by
      subst ek
      have := (h.lt side1 hw).1
      omega
    exact ⟨Dn b ps n [p.2] ++ post, by rw [e, Dn_big hw hp hj, List.append_assoc]⟩
theorem getLast_app {u v : List Nat} {x : Nat} (h : v.getLast? = some x) : (u ++ v).getLast? = some x := by
  rw [List.getLast?_append, h]; rfl
theorem head_app {u v : List Nat} {x : Nat} (h : u.head? = some x) : (u ++ v).head? = some x := by
  cases u with
  | nil => cases h
  | cons a u => exact h
theorem last_ex (hw : WF b ps) : ∀ (x : Nat), x < b + ps.length → ∃ y bd, Spn b ps Prod.snd x y bd ∧ upTo n bd ∧ (Dn b ps n [x]).getLast? = some y := by
  intro x
  induction x using Nat.strongRecOn with
  | ind x ih =>
    intro hx
    by_cases c : x < b + n
    · exact ⟨x, none, .self, (fun k e => by cases e), by rw [Dn_small c]; rfl⟩
    · rcases part_of hx with h | ⟨j, p, rfl, hp⟩
      · omega
      · have hj := hw j p hp
        obtain ⟨y, bd, h1, h2, h3⟩ := ih p.2 hj.2 (by omega)
        refine ⟨y, _, h1.ahead hp, fun k e => ?_, ?_⟩
        · have e' : bd.getD j = k := Option.some.inj e
          cases bd with
          | none => have : j = k := e'; omega
          | some i => have : i = k := e'; have := h2 i rfl; omega
        · rw [Dn_big hw hp (by omega)]
          exact getLast_app h3
theorem first_ex (hw : WF b ps) : ∀ (x : Nat), x < b + ps.length → ∃ y bd, Spn b ps Prod.fst x y bd ∧ upTo n bd ∧ (Dn b ps n [x]).head? = some y := by
  intro x
  induction x using Nat.strongRecOn with
  | ind x ih =>
    intro hx
    by_cases c : x < b + n
    · exact ⟨x, none, .self, (fun k e => by cases e), by rw [Dn_small c]; rfl⟩
    · rcases part_of hx with h | ⟨j, p, rfl, hp⟩
      · omega
      · have hj := hw j p hp
        obtain ⟨y, bd, h1, h2, h3⟩ := ih p.1 hj.1 (by omega)
        refine ⟨y, _, h1.ahead hp, fun k e => ?_, ?_⟩
        · have e' : bd.getD j = k := Option.some.inj e
          cases bd with
          | none => have : j = k := e'; omega
          | some i => have : i = k := e'; have := h2 i rfl; omega
        · rw [Dn_big hw hp (by omega)]
          exact head_app h3
/-- the join of rank r puts letters of x and y together, where x stands ahead of y -/
def Cross (b : Nat) (ps : List (Nat × Nat)) (x y r : Nat) : Prop := ∃ (p : Nat × Nat) (bx by' : Option Nat), ps[r]? = some p ∧ Spn b ps Prod.snd x p.1 bx ∧ Spn b ps Prod.fst y p.2 by' ∧ upTo (r + 1) bx ∧ upTo r by'
theorem Cross.lt {x y r : Nat} (h : Cross b ps x y r) : r < ps.length := by
  obtain ⟨p, _, _, hp, _⟩ := h
  exact (List.getElem?_eq_some_iff.mp hp).1
theorem cross_iff (hw : WF b ps) {x y r : Nat} (hx : x < b + ps.length) (hy : y < b + ps.length) : Cross b ps x y r ↔ ∃ p, ps[r]? = some p ∧ (Dn b ps (r + 1) [x]).getLast? = some p.1 ∧ (Dn b ps r [y]).head? = some p.2 := by
  constructor
  · rintro ⟨p, bx, by', hp, h1, h2, u1, u2⟩
    have hpw := hw r p hp
    obtain ⟨pre, e1⟩ := h1.last hw u1
    obtain ⟨post, e2⟩ := h2.first hw u2
    refine ⟨p, hp, ?_, ?_⟩
    · rw [e1, Dn_small (by omega)]; exact getLast_app rfl
    · rw [e2, Dn_small (by omega)]; rfl
  · rintro ⟨p, hp, h1, h2⟩
    obtain ⟨u, bx, a1, a2, a3⟩ := last_ex (n := r + 1) hw x hx
    obtain ⟨v, by', b1, b2, b3⟩ := first_ex (n := r) hw y hy
    rw [h1] at a3
    rw [h2] at b3
    cases a3
    cases b3
    exact ⟨p, bx, by', hp, a1, b1, a2, b2⟩
/-- all adjacent pieces stay apart at rank n -/
def Still (b : Nat) (ps : List (Nat × Nat)) (n : Nat) (row : List Nat) : Prop := ∀ q ∈ adjs row, ¬ Cross b ps q.1 q.2 n
theorem Still.tail {x : Nat} {t : List Nat} (h : Still b ps n (x :: t)) : Still b ps n t := fun q hq => h q (mem_adjs_cons hq)
theorem Still.left {u v : List Nat} (h : Still b ps n (u ++ v)) : Still b ps n u := fun q hq => h q (adjs_sub_left hq)
theorem pass_row (G : Good b ps) {p : Nat × Nat} (hp : ps[n]? = some p) : ∀ {row : List Nat}, (∀ x ∈ row, x < b + ps.length) → Still b ps n row → pass p.1 p.2 (b + n) (Dn b ps n row) = Dn b ps (n + 1) row
  | [], _, _ => by rw [Dn_nil, Dn_nil]; rfl
  | [x], hx, _ => G.next (hx x (List.mem_cons_self ..)) hp
  | x :: y :: t, hx, hs => by
    have hx0 := hx x (List.mem_cons_self ..)
    have hy0 := hx y (List.mem_cons_of_mem _ (List.mem_cons_self ..))
    rw [Dn_cons, Dn_cons x (y :: t), pass_app, G.next hx0 hp, pass_row G hp (fun u hu => hx u (List.mem_cons_of_mem _ hu)) hs.tail]
    rw [G.next hx0 hp]
    rintro ⟨h1, h2⟩
    refine hs (x, y) (by rw [adjs_cons2]; exact List.mem_cons_self ..) ((cross_iff G.wf hx0 hy0).mpr ⟨p, hp, h1, ?_⟩)
    obtain ⟨z, s, e⟩ := Dn_ne (n := n) G.wf y hy0
    rw [Dn_cons, e] at h2
    rw [e]; exact h2
/-- as long as nothing crosses, each piece is staged by itself -/
theorem stage_row (G : Good b ps) {row : List Nat} (hx : ∀ x ∈ row, x < b + ps.length) : ∀ n, n ≤ ps.length → (∀ r, r < n → Still b ps r row) → cutL b (ps.take n) (Dn b ps 0 row) = Dn b ps n row
  | 0, _, _ => rfl
  | n + 1, hn, hs => by
    obtain ⟨p, hp⟩ : ∃ p, ps[n]? = some p := ⟨_, List.getElem?_eq_getElem (by omega)⟩
    rw [take_succ_of hp, cutL_snoc, take_len_of hp, stage_row G hx n (by omega) fun r hr => hs r (by omega), pass_row G hp hx (hs n (by omega))]
/-- the first pair of adjacent ones that is not still -/
theorem first_cross {row : List Nat} (h : ¬ Still b ps n row) : ∃ u x y v, row = u ++ x :: y :: v ∧ Cross b ps x y n ∧ Still b ps n (u ++ [x]) := by
  induction row with
  | nil => exact absurd (fun q hq => by cases hq) h
  | cons a t ih =>
    cases t with
    | nil => exact absurd (fun q hq => by cases hq) h
    | cons c t =>
      by_cases k : Cross b ps a c n
      · exact ⟨[], a, c, t, rfl, k, fun q hq => by cases hq⟩
      · have h2 : ¬ Still b ps n (c :: t) := fun hs => h fun q hq => by
          rw [adjs_cons2] at hq
          rcases List.mem_cons.mp hq with z | z
          · rw [z]; exact k
          · exact hs q z
        obtain ⟨u, x, y, v, e, h3, h4⟩ := ih h2
        refine ⟨a :: u, x, y, v, by rw [e]; rfl, h3, ?_⟩
        cases u with
        | nil =>
          injection e with e1 e2
          subst e1
          intro q hq
          have hq' : q ∈ [(a, c)] := hq
          rw [List.mem_singleton.mp hq']; exact k
        | cons d u =>
          injection e with e1 e2
          subst e1
          intro q hq
          have hq' : q ∈ (a, c) :: adjs (c :: u ++ [x]) := hq
          rcases List.mem_cons.mp hq' with z | z
          · rw [z]; exact k
          · exact h4 q z
/-- what the pass at a crossing makes -/
theorem pass_at_cross (G : Good b ps) {p : Nat × Nat} (hp : ps[n]? = some p) {u v : List Nat} {x y : Nat} (hx : ∀ z ∈ u ++ x :: y :: v, z < b + ps.length) (hc : Cross b ps x y n) (hs : Still b ps n (u ++ [x])) :
    ∃ t, (Dn b ps n (y :: v)) = p.2 :: t ∧ (Dn b ps (n + 1) (u ++ [x])).getLast? = some p.1 ∧ pass p.1 p.2 (b + n) (Dn b ps n (u ++ x :: y :: v)) = (Dn b ps (n + 1) (u ++ [x])).dropLast ++ (b + n) :: pass p.1 p.2 (b + n) t := by
  have hx0 : x < b + ps.length := hx x (by simp)
  have hy0 : y < b + ps.length := hx y (by simp)
  obtain ⟨p', hp', h1, h2⟩ := (cross_iff G.wf hx0 hy0).mp hc
  rw [hp] at hp'
  cases hp'
  obtain ⟨z, s, e⟩ := Dn_ne (n := n) G.wf y hy0
  rw [e] at h2
  have ez : z = p.2 := Option.some.inj h2
  subst ez
  have hl : (Dn b ps (n + 1) (u ++ [x])).getLast? = some p.1 := by rw [Dn_app]; exact getLast_app h1
  have hd : Dn b ps n (y :: v) = p.2 :: (s ++ Dn b ps n v) := by rw [Dn_cons, e]; rfl
  refine ⟨_, hd, hl, ?_⟩
  have hpass := pass_row G hp (row := u ++ [x]) (fun z hz => hx z (by
    rcases List.mem_append.mp hz with w | w
    · exact List.mem_append_left _ w
    · rw [List.mem_singleton.mp w]; simp)) hs
  have hm : b + n ≠ p.1 := by have := (G.wf n p hp).1; omega
  rw [show u ++ x :: y :: v = (u ++ [x]) ++ y :: v by simp, Dn_app, hd, pass_cross hm _ _ (by rw [hpass]; exact hl), hpass]
/-- a row of pieces is the cut of its letters if and only if no two neighbors cross -/
theorem cut_row_iff (G : Good b ps) {row : List Nat} (hx : ∀ x ∈ row, x < b + ps.length) : cutL b ps (Dn b ps 0 row) = row ↔ ∀ q ∈ adjs row, ∀ r, ¬ Cross b ps q.1 q.2 r := by
  constructor
  · intro h q hq r hc
    have hr := hc.lt
    obtain ⟨p, hp⟩ : ∃ p, ps[r]? = some p := ⟨_, List.getElem?_eq_getElem hr⟩
    have hns : ¬ Still b ps r row := fun hs => hs q hq hc
    obtain ⟨u, x, y, v, rfl, hc', hs'⟩ := first_cross hns
    obtain ⟨t, h1, h2, h3⟩ := pass_at_cross G hp hx hc' hs'
    have lows := G.lows hx
    have e1 := Dn_cut (n := r) (ps := ps) lows (by omega)
    have e2 := Dn_cut (n := r + 1) (ps := ps) lows (by omega)
    rw [h] at e1 e2
    rw [take_succ_of hp, cutL_snoc, take_len_of hp, ← e1, h3, show u ++ x :: y :: v = (u ++ [x]) ++ y :: v by simp, Dn_app] at e2
    obtain ⟨ys, ey⟩ := List.getLast?_eq_some_iff.mp h2
    rw [ey, List.dropLast_concat, List.append_assoc] at e2
    have e3 := List.append_cancel_left e2
    injection e3 with e4 e5
    have := (G.wf r p hp).1
    omega
  · intro h
    have := stage_row G hx ps.length (Nat.le_refl _) fun r _ q hq => h q hq r
    rwa [List.take_length, Dn_full] at this
/-- and at the first crossing there is no seam left -/
theorem cross_first (G : Good b ps) {x y c : Nat} (hx : x < b + ps.length) (hy : y < b + ps.length) (hc : Cross b ps x y c) (hno : ∀ r, r < c → ¬ Cross b ps x y r) :
    ∃ A B p, ps[c]? = some p ∧ Dn b ps (c + 1) [x] = A ++ [p.1] ∧ cutL b (ps.take (c + 1)) (Dn b ps 0 [x, y]) = A ++ (b + c) :: B := by
  have hcl := hc.lt
  obtain ⟨p, hp⟩ : ∃ p, ps[c]? = some p := ⟨_, List.getElem?_eq_getElem hcl⟩
  have hxy : ∀ z ∈ [x, y], z < b + ps.length := fun z hz => by
    rcases List.mem_cons.mp hz with w | w
    · rw [w]; exact hx
    · rw [List.mem_singleton.mp w]; exact hy
  obtain ⟨t, h1, h2, h3⟩ := pass_at_cross (u := []) (v := []) G hp hxy hc (fun q hq => by cases hq)
  obtain ⟨ys, ey⟩ := List.getLast?_eq_some_iff.mp h2
  refine ⟨ys, pass p.1 p.2 (b + c) t, p, hp, ey, ?_⟩
  rw [take_succ_of hp, cutL_snoc, take_len_of hp, stage_row G hxy c (by omega) fun r hr q hq => by
    have hq' : q ∈ [(x, y)] := hq
    rw [List.mem_singleton.mp hq']; exact hno r hr]
  rw [show [x, y] = [] ++ x :: y :: [] from rfl, h3, ey, List.dropLast_concat]
end
/-- proper lists are good ones -/
theorem Dn_text {al : List Nat} (hal : al.Nodup) {ps : List (Nat × Nat)} (h : Proper al ps) {x : Nat} (hx : x < al.length + ps.length) : Dn al.length ps 0 [x] = lets al ((textsOf al ps).getD x []) := by
  have ht : (textsOf al ps)[x]? = some ((textsOf al ps).getD x []) := by
    rw [List.getD_eq_getElem?_getD, List.getElem?_eq_getElem (by rw [textsOf_len]; exact hx)]; rfl
  have hm : ∀ c ∈ (textsOf al ps).getD x [], c ∈ al := textsOf_al _ (List.mem_of_getElem? ht)
  have := Dn_cut (n := 0) (ps := ps) (lets_lt hm) (Nat.zero_le _)
  rw [cut_piece hal h x _ ht] at this
  exact this
theorem lets_app (al u v : List Nat) : lets al (u ++ v) = lets al u ++ lets al v := List.map_append
theorem Dn_texts {al : List Nat} (hal : al.Nodup) {ps : List (Nat × Nat)} (h : Proper al ps) : ∀ {row : List Nat}, (∀ x ∈ row, x < al.length + ps.length) → Dn al.length ps 0 row = lets al (textR (textsOf al ps) row)
  | [], _ => Dn_nil
  | x :: t, hx => by
    rw [Dn_cons, Dn_text hal h (hx x (List.mem_cons_self ..)), Dn_texts hal h fun u hu => hx u (List.mem_cons_of_mem _ hu), textR_cons, lets_app]
theorem Proper.good {al : List Nat} (hal : al.Nodup) {ps : List (Nat × Nat)} (h : Proper al ps) : Good al.length ps where
  wf := h.wf
  one := fun x hx => by
    rw [Dn_text hal h hx]
    exact cut_piece hal h x _ (by rw [List.getD_eq_getElem?_getD, List.getElem?_eq_getElem (by rw [textsOf_len]; exact hx)]; rfl)
  low := fun x hx => by
    rw [Dn_text hal h hx]
    exact lets_lt (textsOf_al _ (List.mem_of_getElem? (i := x) (by rw [List.getD_eq_getElem?_getD, List.getElem?_eq_getElem (by rw [textsOf_len]; exact hx)]; rfl)))
section
variable {b : Nat} {ps : List (Nat × Nat)} {sd : Nat × Nat → Nat}
theorem Spn.zero {x y : Nat} {bd : Option Nat} (h : Spn b ps sd x y bd) (e : bd = none) : y = x := by
  cases h with
  | self => rfl
  | step h hp => cases e
theorem Spn.up {x y k : Nat} (h : Spn b ps sd x y (some k)) : b ≤ x := by
  have key : ∀ y bd, Spn b ps sd x y bd → bd = none ∨ b ≤ x := by
    intro y bd h
    induction h with
    | self => exact .inl rfl
    | step h hp ih =>
      rcases ih with e | e
      · have := h.zero e
        exact .inr (by omega)
      · exact .inr e
  rcases key _ _ h with e | e
  · cases e
  · exact e
theorem Spn.down {j y : Nat} {p : Nat × Nat} {bd : Option Nat} (hp : ps[j]? = some p) (h : Spn b ps sd (b + j) y bd) : bd = none ∨ (y = sd p ∧ bd = some j) ∨ ∃ k, bd = some k ∧ Spn b ps sd (sd p) y (some k) := by
  generalize e : b + j = x at h
  induction h with
  | self => exact .inl rfl
  | step h hq ih =>
    rename_i j' q bd0
    refine .inr ?_
    rcases ih with e1 | ⟨e1, e2⟩ | ⟨k, e1, e2⟩
    · have e0 := h.zero e1
      have ej : j = j' := by omega
      subst ej
      rw [hp] at hq
      cases hq
      exact .inl ⟨rfl, rfl⟩
    · refine .inr ⟨j', rfl, ?_⟩
      exact .step (by rw [e1]; exact .self) hq
    · exact .inr ⟨j', rfl, .step e2 hq⟩
/-- all of a spine -/
structure IsSpine (b : Nat) (ps : List (Nat × Nat)) (sd : Nat × Nat → Nat) (x : Nat) (es : List (Nat × Option Nat)) : Prop where
  ok : ∀ e ∈ es, Spn b ps sd x e.1 e.2
  all : ∀ y bd, Spn b ps sd x y bd → (y, bd) ∈ es
/-- the spine up to a last one -/
structure IsSpineTo (b : Nat) (ps : List (Nat × Nat)) (sd : Nat × Nat → Nat) (x : Nat) (es : List (Nat × Option Nat)) (last : Nat) : Prop where
  ok : ∀ e ∈ es, Spn b ps sd x e.1 e.2
  all : ∀ y bd, Spn b ps sd x y bd → (y, bd) ∈ es ∨ ∃ k, bd = some k ∧ Spn b ps sd last y (some k)
  at_ : ∃ bd, (last, bd) ∈ es
theorem IsSpineTo.start (x : Nat) : IsSpineTo b ps sd x [(x, none)] x where
  ok := fun e he => by rw [List.mem_singleton.mp he]; exact .self
  all := fun y bd h => by
    cases bd with
    | none => cases h; exact .inl (List.mem_cons_self ..)
    | some k => exact .inr ⟨k, rfl, h⟩
  at_ := ⟨none, List.mem_cons_self ..⟩
theorem IsSpineTo.next {x j : Nat} {p : Nat × Nat} {es : List (Nat × Option Nat)} (h : IsSpineTo b ps sd x es (b + j)) (hp : ps[j]? = some p) : IsSpineTo b ps sd x (es ++ [(sd p, some j)]) (sd p) where
  ok := fun e he => by
    rcases List.mem_append.mp he with z | z
    · exact h.ok e z
    · rw [List.mem_singleton.mp z]
      obtain ⟨bd, hb⟩ := h.at_
      exact .step (h.ok _ hb) hp
  all := fun y bd hy => by
    rcases h.all y bd hy with z | ⟨k, e, z⟩
    · exact .inl (List.mem_append_left _ z)
    · subst e
      rcases z.down hp with e1 | ⟨e1, e2⟩ | ⟨k', e1, e2⟩
      · cases e1
      · cases e2
        subst e1
        exact .inl (List.mem_append_right _ (List.mem_singleton.mpr rfl))
      · cases e1
        exact .inr ⟨k, rfl, e2⟩
  at_ := ⟨some j, List.mem_append_right _ (List.mem_singleton.mpr rfl)⟩
theorem IsSpineTo.done {x last : Nat} {es : List (Nat × Option Nat)} (h : IsSpineTo b ps sd x es last) (hl : last < b) : IsSpine b ps sd x es where
  ok := h.ok
  all := fun y bd hy => by
    rcases h.all y bd hy with z | ⟨k, e, z⟩
    · exact z
    · have := z.up; omega
/-- the first crossing, if any -/
def CrossIs (b : Nat) (ps : List (Nat × Nat)) (x y : Nat) : Option Nat → Prop
  | none => ∀ r, ¬ Cross b ps x y r
  | some c => Cross b ps x y c ∧ ∀ r, r < c → ¬ Cross b ps x y r
theorem CrossIs.uniq {x y : Nat} : ∀ {c d : Option Nat}, CrossIs b ps x y c → CrossIs b ps x y d → c = d
  | none, none, _, _ => rfl
  | none, some d, h, k => absurd k.1 (h d)
  | some c, none, h, k => absurd h.1 (k c)
  | some c, some d, h, k => by
    rcases Nat.lt_trichotomy c d with z | z | z
    · exact absurd h.1 (k.2 c z)
    · rw [z]
    · exact absurd k.1 (h.2 d z)
theorem least_ex {P : Nat → Prop} (h : ∃ n, P n) : ∃ n, P n ∧ ∀ m, m < n → ¬ P m := by
  obtain ⟨n, hn⟩ := h
  induction n using Nat.strongRecOn with
  | ind n ih =>
    by_cases c : ∃ m, m < n ∧ P m
    · obtain ⟨m, hm, hp⟩ := c
      exact ih m hm hp
    · exact ⟨n, hn, fun m hm hp => c ⟨m, hm, hp⟩⟩
theorem CrossIs.ex (b : Nat) (ps : List (Nat × Nat)) (x y : Nat) : ∃ c, CrossIs b ps x y c := by
  by_cases h : ∃ r, Cross b ps x y r
  · obtain ⟨c, h1, h2⟩ := least_ex h
    exact ⟨some c, h1, h2⟩
  · exact ⟨none, fun r hr => h ⟨r, hr⟩⟩
end
theorem Proper.fresh {al : List Nat} {ps : List (Nat × Nat)} (h : Proper al ps) {i : Nat} {p : Nat × Nat} (hp : ps[i]? = some p) : p ∉ ps.take i := fun hm => by
  obtain ⟨h1, h2, h3, h4⟩ := h i p hp
  have := cut_clean (h.take i).wf (lets al ((textsOf al (ps.take i)).getD p.1 [] ++ (textsOf al (ps.take i)).getD p.2 [])) _ hm
  rw [h4] at this
  exact this (by show (p.1, p.2) ∈ [(p.1, p.2)]; exact List.mem_cons_self ..)
theorem Proper.idx {al : List Nat} {ps : List (Nat × Nat)} (h : Proper al ps) {i : Nat} {p : Nat × Nat} (hp : ps[i]? = some p) : ps.idxOf p = i := by
  have hm : p ∈ ps := List.mem_of_getElem? hp
  have h1 : ps.idxOf p < ps.length := List.idxOf_lt_length_iff.mpr hm
  have h2 : ps[ps.idxOf p]? = some p := by rw [List.getElem?_eq_getElem h1, List.getElem_idxOf h1]
  rcases Nat.lt_trichotomy (ps.idxOf p) i with z | z | z
  · refine absurd ?_ (h.fresh hp)
    refine List.mem_of_getElem? (i := ps.idxOf p) ?_
    rw [List.getElem?_take, if_pos z]; exact h2
  · exact z
  · refine absurd ?_ (h.fresh h2)
    refine List.mem_of_getElem? (i := i) ?_
    rw [List.getElem?_take, if_pos z]; exact hp
/-! ### places behind pieces -/
def marks (ts : List (List Nat)) : Nat → List Nat → List Nat
  | _, [] => []
  | a, x :: t => (a + (ts.getD x []).length) :: marks ts (a + (ts.getD x []).length) t
def szR (ts : List (List Nat)) (row : List Nat) : Nat := (textR ts row).length
theorem szR_cons (ts : List (List Nat)) (x : Nat) (t : List Nat) : szR ts (x :: t) = (ts.getD x []).length + szR ts t := by
  unfold szR
  rw [textR_cons, List.length_append]
theorem textR_app (ts : List (List Nat)) (u v : List Nat) : textR ts (u ++ v) = textR ts u ++ textR ts v := by
  unfold textR; rw [List.map_append, List.flatten_append]
theorem szR_app (ts : List (List Nat)) (u v : List Nat) : szR ts (u ++ v) = szR ts u + szR ts v := by
  unfold szR; rw [textR_app, List.length_append]
theorem marks_app (ts : List (List Nat)) : ∀ (u v : List Nat) (a : Nat), marks ts a (u ++ v) = marks ts a u ++ marks ts (a + szR ts u) v
  | [], v, a => by show marks ts a v = marks ts (a + 0) v; rw [Nat.add_zero]
  | x :: u, v, a => by
    show (a + (ts.getD x []).length) :: marks ts (a + (ts.getD x []).length) (u ++ v) = (a + (ts.getD x []).length) :: (marks ts _ u ++ _)
    rw [marks_app ts u v, szR_cons, Nat.add_assoc]
theorem marks_le {ts : List (List Nat)} : ∀ {row : List Nat} {a n : Nat}, n ∈ marks ts a row → a ≤ n ∧ n ≤ a + szR ts row
  | [], _, _, h => by cases h
  | x :: t, a, n, h => by
    rw [szR_cons]
    rcases List.mem_cons.mp h with z | z
    · omega
    · have := marks_le z; omega
theorem marks_end {ts : List (List Nat)} : ∀ {row : List Nat} {a : Nat}, row ≠ [] → a + szR ts row ∈ marks ts a row
  | [], _, h => absurd rfl h
  | [x], a, _ => by
    rw [szR_cons]
    exact List.mem_cons_self ..
  | x :: y :: t, a, _ => by
    rw [szR_cons, ← Nat.add_assoc]
    exact List.mem_cons_of_mem _ (marks_end (row := y :: t) (List.cons_ne_nil _ _))
theorem marks_len (ts : List (List Nat)) : ∀ (row : List Nat) (a : Nat), (marks ts a row).length = row.length
  | [], _ => rfl
  | x :: t, a => congrArg (· + 1) (marks_len ts t _)
theorem texts_pos {al : List Nat} {ps : List (Nat × Nat)} (hw : WF al.length ps) : ∀ (x : Nat), x < al.length + ps.length → 0 < ((textsOf al ps).getD x []).length := by
  intro x
  induction x using Nat.strongRecOn with
  | ind x ih =>
    intro hx
    rcases part_of hx with h | ⟨j, p, rfl, hp⟩
    · rw [texts_letter (List.getElem?_eq_getElem h)]; exact Nat.one_pos
    · have hj := hw j p hp
      rw [texts_at hw j p hp, List.length_append]
      have := ih p.1 hj.1 (by omega)
      omega
theorem Dn_size {al : List Nat} {ps : List (Nat × Nat)} (hw : WF al.length ps) (n x : Nat) : szR (textsOf al ps) (Dn al.length ps n [x]) = ((textsOf al ps).getD x []).length := by
  unfold szR Dn
  rw [splitD_text hw _ _ (Nat.le_refl _)]
  show (((textsOf al ps).getD x []) ++ []).length = _
  rw [List.append_nil]
/-- as long as nothing crosses there is a seam -/
theorem seam_of_still {al : List Nat} {ps : List (Nat × Nat)} (hal : al.Nodup) (h : Proper al ps) {x y n : Nat} (hx : x < al.length + ps.length) (hy : y < al.length + ps.length) (hn : n ≤ ps.length) (hno : ∀ r, r < n → ¬ Cross al.length ps x y r) :
    ((textsOf al ps).getD x []).length ∈ marks (textsOf al ps) 0 (cutL al.length (ps.take n) (Dn al.length ps 0 [x, y])) := by
  rw [stage_row (h.good hal) (row := [x, y]) (fun z hz => by
    rcases List.mem_cons.mp hz with w | w
    · rw [w]; exact hx
    · rw [List.mem_singleton.mp w]; exact hy) n hn fun r hr q hq => by
    have hq' : q ∈ [(x, y)] := hq
    rw [List.mem_singleton.mp hq']; exact hno r hr]
  rw [Dn_cons, marks_app, ← Dn_size h.wf n x, ← Nat.zero_add (szR _ _)]
  refine List.mem_append_left _ (marks_end ?_)
  obtain ⟨z, s, e⟩ := Dn_ne (n := n) h.wf x hx
  rw [e]; exact List.cons_ne_nil _ _
/-- and at the first crossing there is none -/
theorem no_seam {al : List Nat} {ps : List (Nat × Nat)} (hal : al.Nodup) (h : Proper al ps) {x y c : Nat} (hx : x < al.length + ps.length) (hy : y < al.length + ps.length) (hc : Cross al.length ps x y c) (hno : ∀ r, r < c → ¬ Cross al.length ps x y r) :
    ((textsOf al ps).getD x []).length ∉ marks (textsOf al ps) 0 (cutL al.length (ps.take (c + 1)) (Dn al.length ps 0 [x, y])) := by
  obtain ⟨A, B, p, hp, e1, e2⟩ := cross_first (h.good hal) hx hy hc hno
  have hw := h.wf
  have hpw := hw c p hp
  have hcl := (List.getElem?_eq_some_iff.mp hp).1
  have hsz : ((textsOf al ps).getD x []).length = szR (textsOf al ps) A + ((textsOf al ps).getD p.1 []).length := by
    rw [← Dn_size hw (c + 1) x, e1, szR_app, szR_cons]; rfl
  have p1 := texts_pos hw p.1 (by omega)
  have p2 := texts_pos hw p.2 (by omega)
  intro hm
  rw [e2, marks_app] at hm
  rcases List.mem_append.mp hm with z | z
  · have := marks_le z; omega
  · have hlen : ((textsOf al ps).getD (al.length + c) []).length = ((textsOf al ps).getD p.1 []).length + ((textsOf al ps).getD p.2 []).length := by rw [texts_at hw c p hp, List.length_append]
    rcases List.mem_cons.mp z with w | w
    · omega
    · have := marks_le w; omega
/-- the cut of two pieces' text -/
theorem cut_pair_iff {al : List Nat} {ps : List (Nat × Nat)} (hal : al.Nodup) (h : Proper al ps) {x y : Nat} (hx : x < al.length + ps.length) (hy : y < al.length + ps.length) {c : Option Nat} (hc : CrossIs al.length ps x y c) :
    cutL al.length ps (lets al ((textsOf al ps).getD x [] ++ (textsOf al ps).getD y [])) = [x, y] ↔ c = none := by
  have hxy : ∀ z ∈ [x, y], z < al.length + ps.length := fun z hz => by
    rcases List.mem_cons.mp hz with w | w
    · rw [w]; exact hx
    · rw [List.mem_singleton.mp w]; exact hy
  have e : Dn al.length ps 0 [x, y] = lets al ((textsOf al ps).getD x [] ++ (textsOf al ps).getD y []) := by
    rw [Dn_texts hal h hxy, textR_cons, textR_cons]
    show lets al (_ ++ (_ ++ [])) = _
    rw [List.append_nil]
  rw [← e, cut_row_iff (h.good hal) hxy]
  constructor
  · intro hn
    cases c with
    | none => rfl
    | some c => exact absurd hc.1 (hn (x, y) (by show (x, y) ∈ [(x, y)]; exact List.mem_cons_self ..) c)
  · intro e q hq r
    subst e
    have hq' : q ∈ [(x, y)] := hq
    rw [List.mem_singleton.mp hq']; exact hc r
end RJ
end

section
set_option maxRecDepth 100000
namespace RJ
open PySem PySem.Spec PyProof.Rows L2
/-- what an iterator at it draws: n items, the i-th one PV i; G: what must stay tracked -/
structure DrawK (P : Program) (w : World) (K : PySem.W.Frag) (it : Addr) (n : Nat) (tnI : Nat → Heap → Prop) (G : Hp → Prop) (PV : Nat → V → Prop) : Prop where
  obj : ∀ i h, tnI i h → ∃ o, h.get? it = some o ∧ ∀ v, o.data ≠ .cell v
  keep : ∀ i h h', tnI i h → (∀ o, h.get? it = some o → h'.get? it = some o) → tnI i h'
  draws : ∀ (X : Cx), X.prog = P → X.w = w → X.K = K → X.calm = true → ∀ (i : Nat) (pins : List (Addr × Obj)) (s : Shared) (σ : L2.St) (H : Hp), Inv X pins σ H s → G H → H it = none → tnI i s.heap →
    ∃ (fp : List Addr) (PD : Nat → Value → Prop) (StD : Nat → Heap → Prop), Draws P w X.A.in1 it fp n PD StD ∧ StD i s.heap ∧ it ∈ fp ∧ (∀ b ∈ fp, b = it ∨ (∃ o, H b = some o)) ∧
      (∀ j h, StD j h → tnI j h) ∧ ∀ j v, PD j v → ∃ x, PV j x ∧ RelV x v
theorem drawK_str {P : Program} {w : World} {K : PySem.W.Frag} (it : Addr) (x : Str) (t : Tok) :
    DrawK P w K it x.cps.size (fun i h => h.IsStrIter it (strIterType x) x t i) (fun _ => True) (fun i v => ∃ c, x.cps[i]? = some c ∧ v = .str ⟨#[c]⟩) where
  obj := fun i h st => by
    obtain ⟨o, e, c, d⟩ := st
    exact ⟨o, e, fun v z => by rw [d] at z; cases z⟩
  keep := fun i h h' st k => let ⟨o, ho, r⟩ := st; ⟨o, k o ho, r⟩
  draws := fun X hP hw hK hc i pins s σ H I _ _ st => by
    subst hP hw hK
    exact ⟨[it], _, _, Draws.text (A := X.A.in1) (I.ok.hd hc) it x t, st, by simp, fun b hb => .inl (by simpa using hb), fun j h q => q, fun j v ⟨c, u, hx, e⟩ => ⟨_, ⟨c, hx, rfl⟩, by rw [e]; exact ⟨u, rfl⟩⟩⟩
theorem drawK_tup {P : Program} {w : World} {K : PySem.W.Frag} (it a : Addr) (xs : List V) :
    DrawK P w K it xs.length (fun i h => h.IsTupleIter it a i) (fun H => H a = some (.tup xs)) (fun i v => xs[i]? = some v) where
  obj := fun i h st => by
    obtain ⟨o, e, c, d⟩ := st
    exact ⟨o, e, fun v z => by rw [d] at z; cases z⟩
  keep := fun i h h' st k => st.at k
  draws := fun X hP hw hK hc i pins s σ H I hG hn st => by
    subst hP hw hK
    have hne : a ≠ it := ne_of_none hG hn
    obtain ⟨its, rv, p, _⟩ := I.tuple (SqT.of hG)
    have hl := rv.length
    have e : its.toArray.size = xs.length := by simp [hl]
    have D := Draws.tuple (prog := X.prog) (w := X.w) (A := X.A.in1) (I.ok.hd hc) it a hne its.toArray
    rw [e] at D
    refine ⟨[it, a], _, _, D, ⟨st, p⟩, by simp, fun b hb => ?_, fun j h q => q.1, fun j v q => ?_⟩
    · rcases List.mem_cons.mp hb with z | z
      · exact .inl z
      · exact .inr ⟨_, by rw [List.mem_singleton.mp z]; exact hG⟩
    · have q' : its[j]? = some v := by simpa using q
      have hj : j < xs.length := by
        have := (List.getElem?_eq_some_iff.mp q').1
        omega
      obtain ⟨u, hu, ru⟩ := rv.get (List.getElem?_eq_getElem hj)
      rw [q'] at hu
      cases hu
      exact ⟨_, List.getElem?_eq_getElem hj, ru⟩
theorem drawK_list {P : Program} {w : World} {K : PySem.W.Frag} (it a : Addr) (xs : List V) :
    DrawK P w K it xs.length (fun i h => h.IsListIter it a i) (fun H => H a = some (.lst xs)) (fun i v => xs[i]? = some v) where
  obj := fun i h st => by
    obtain ⟨o, e, c, d⟩ := st
    exact ⟨o, e, fun v z => by rw [d] at z; cases z⟩
  keep := fun i h h' st k => st.at k
  draws := fun X hP hw hK hc i pins s σ H I hG hn st => by
    subst hP hw hK
    have hne : a ≠ it := ne_of_none hG hn
    obtain ⟨its, rv, p, _⟩ := I.list (SqL.of hG)
    have hl := rv.length
    have e : its.toArray.size = xs.length := by simp [hl]
    have D := Draws.list (prog := X.prog) (w := X.w) (A := X.A.in1) (I.ok.hd hc) it a hne its.toArray
    rw [e] at D
    refine ⟨[it, a], _, _, D, ⟨st, p.isList⟩, by simp, fun b hb => ?_, fun j h q => q.1, fun j v q => ?_⟩
    · rcases List.mem_cons.mp hb with z | z
      · exact .inl z
      · exact .inr ⟨_, by rw [List.mem_singleton.mp z]; exact hG⟩
    · have q' : its[j]? = some v := by simpa using q
      have hj : j < xs.length := by
        have := (List.getElem?_eq_some_iff.mp q').1
        omega
      obtain ⟨u, hu, ru⟩ := rv.get (List.getElem?_eq_getElem hj)
      rw [q'] at hu
      cases hu
      exact ⟨_, List.getElem?_eq_getElem hj, ru⟩
/-- n turns, each with a new tuple of xs, PX i xs, while G stands -/
def ItG (n : Nat) (G : Hp → Prop) (PX : Nat → List V → Prop) : It :=
  ⟨fun i H => G H ∧ i < n, fun i H v H' => ∃ T xs, v = .ref T ∧ H T = none ∧ H' = upd H T (.tup xs) ∧ PX i xs, fun i H => G H ∧ n ≤ i⟩
theorem two {a b : Addr} {p : Addr → Prop} (h1 : p a) (h2 : p b) : ∀ c ∈ [a, b], p c := fun c hc => by
  simp only [List.mem_cons, List.not_mem_nil, or_false] at hc
  rcases hc with e | e <;> rw [e] <;> assumption
theorem out2 {a b c : Addr} (h : c ∉ [a, b]) : c ≠ a ∧ c ≠ b := by
  simp only [List.mem_cons, List.not_mem_nil, or_false, not_or] at h; exact h
/-- an enumerate between two turns -/
def EnumT (e it : Addr) (n : Nat) (tnI : Nat → Heap → Prop) (i : Nat) (h : Heap) : Prop := i ≤ n ∧ (∃ old, IsEnum h e it ((i : Nat) : Int) old) ∧ tnI i h ∧ e ≠ it
theorem turn_enumG {P : Program} {w : World} {K : PySem.W.Frag} {elts : List Expr} {kk : Nat} {tpos : Pos} {e it : Addr} {n : Nat} {tnI : Nat → Heap → Prop} {G : Hp → Prop} {PV : Nat → V → Prop} (D : DrawK P w K it n tnI G PV) :
    Turn P w K (.Tuple elts kk tpos) (ItG n G fun i xs => ∃ v, PV i v ∧ xs = [.int (i : Nat), v]) [e, it] e (EnumT e it n tnI) where
  mem := List.mem_cons_self ..
  obj := fun i h ⟨_, ⟨_, a⟩, b, _⟩ => two (p := fun c => ∃ o, h.get? c = some o ∧ _) ⟨_, a, fun _ q => nomatch q⟩ (D.obj i h b)
  keep := fun i h h' ⟨l, ⟨old, a⟩, b, n⟩ k => ⟨l, ⟨old, k e (by simp) _ a⟩, D.keep i h h' b fun o => k it (by simp) o, n⟩
  item := by
    rintro X hP hw hK hc i pins s σ H E I hf ⟨hle, ⟨old, he⟩, hit, hne⟩ ⟨hG, hlt⟩
    obtain ⟨fp, PD, StD, DD, c1, m1, q1, back, val⟩ := D.draws X hP hw hK hc i pins s σ H I hG (hf it (by simp)).1 hit
    subst hP hw hK
    have apart : e ∉ fp := fun z => by
      rcases q1 e z with q | ⟨o, q⟩
      · exact hne q
      · rw [(hf e (by simp)).1] at q; cases q
    have lt2 : ∀ c ∈ [e, it], c < s.heap.objs.size := by
      obtain ⟨_, q⟩ := DD.live _ _ c1
      exact two (Heap.lt_size he) (Heap.lt_size q)
    refine wpAny_pyNext_enum_itemC DD he c1 hlt hne apart fun u h' tk hu ho j1 hT _ hk => ⟨_, rfl, ?_⟩
    obtain ⟨x, hx, ru⟩ := val i u hu
    refine wpAny_letOwnedTupleGo_enum (s := { s with heap := h', toks := tk + 1 }) ho fun g zg sg => ?_
    have on : ∀ {c : Addr} {o : Obj}, c ≠ e → h'.get? c = some o → g.get? c = some o := fun n a => (sg.2 _ n).trans a
    have made : ObjOk X.prog X.w (upd H s.heap.objs.size (.tup [.int (i : Nat), x])) g s.heap.objs.size (.tup [.int (i : Nat), x]) := ⟨by show 2 ≤ sizeLine; decide, [.int i tk, u], .cons ⟨_, rfl⟩ (.cons ru .nil), ⟨_, on (Nat.ne_of_gt (lt2 e (by simp))) hT, rfl, _, rfl⟩⟩
    have J : Inv X pins σ (upd H s.heap.objs.size (.tup [.int (i : Nat), x])) { s with heap := g, toks := tk + 1 } := I.turnedNew (ch := [e, it]) (fun c o hb q => on (out2 hb).1 (hk c o (out2 hb).1 (out2 hb).2 q)) hf (Nat.le_refl _) made
    have next : IsEnum g e it ((i + 1 : Nat) : Int) u := by rw [show ((i + 1 : Nat) : Int) = (i : Int) + 1 by omega]; exact zg
    exact ⟨.ref s.heap.objs.size, _, J, rfl, ⟨_, _, rfl, I.hok.fresh (Nat.le_refl _), rfl, x, hx, rfl⟩, ⟨hlt, ⟨u, next⟩, D.keep _ _ _ (back _ _ j1) fun _ => on (Ne.symm hne), hne⟩, fun c hcm => (upd_ne (Nat.ne_of_lt (lt2 c hcm))).trans (hf c hcm).1⟩
  done := by
    rintro X hP hw hK hc i pins s σ H E I hf ⟨hle, ⟨old, he⟩, hit, hne⟩ ⟨hG, hge⟩
    obtain ⟨fp, PD, StD, DD, c1, m1, q1, back, val⟩ := D.draws X hP hw hK hc i pins s σ H I hG (hf it (by simp)).1 hit
    subst hP hw hK
    obtain rfl : i = n := Nat.le_antisymm hle hge
    exact wpAny_pyNext_enum_endD DD he c1 fun h' eb => ⟨rfl, I.turnedL (t' := s.toks) (ch := [e, it]) (fun c o hb q => eb c o (out2 hb).2 q) hf⟩
  self := fun A i s Q E st h => by
    obtain ⟨_, ⟨_, he⟩, _⟩ := st
    exact wpAny_pyIter_enum he h
end RJ
end

section
set_option maxRecDepth 100000
namespace PySem
abbrev enumNew (it : Addr) : Obj := { cls := .type "enumerate", data := .fields #[.none, .bool false, .ref it, rawInt 0, .none, .none] }
set_option maxHeartbeats 1000000 in
/-- enumerate(v): an iterator of v, and the enumerate behind it -/
theorem rj_enum_made {v : Value} {o : Obj} {H : Heap → Prop} (B : Begins v o H) : Meets (Builtin.«enumerate.__new__» ⟨[.type "enumerate", v], []⟩) (fun _ R s => H s.heap ∧ R (.ok (.ret (.ref (s.heap.push o).objs.size))) { s with heap := (s.heap.push o).push (enumNew s.heap.objs.size) }) :=
  .of_wp fun prog w A R s ⟨src, fin⟩ => by
    have sub := sub_enumerate
    have it : ∀ {A' : Around} {E Q : Value → Shared → Prop}, Q (.ref s.heap.objs.size) { s with heap := s.heap.push o } → wpAny (model prog w) A' (pyIter v) Q E s := fun q => B.iter prog w _ _ s _ src q
    wp_walk using it
    refine wpAny_stack_any fun _ => wpAny_pure ?_; split
    · rename_i c _ _ _ _ _
      cases (c == Value.type "enumerate") <;> (wp_walk using it; exact ⟨_, rfl, fin⟩)
    · wp_walk using it; exact ⟨_, rfl, fin⟩
theorem rj_enum_begins {prog : Program} {w : World} {A : Around} {E Q : Value → Shared → Prop} {s : Shared} {v : Value} {o : Obj} {H : Heap → Prop} (B : Begins v o H) (src : H s.heap)
    (fin : ∀ h', IsEnum h' (s.heap.objs.size + 1) s.heap.objs.size 0 .none → h'.get? s.heap.objs.size = some o → h'.objs.size = s.heap.objs.size + 2 → (∀ b u, s.heap.get? b = some u → h'.get? b = some u) → Q (.ref (s.heap.objs.size + 1)) { s with heap := h' }) :
    wpAny (model prog w) A (call (.type "enumerate") [v]) Q E s := by
  have one : (s.heap.push o).objs.size = s.heap.objs.size + 1 := Heap.size_push ..
  have at1 : IsEnum ((s.heap.push o).push (enumNew s.heap.objs.size)) (s.heap.push o).objs.size s.heap.objs.size 0 .none := Heap.get?_push_size _ rfl
  have at0 : ((s.heap.push o).push (enumNew s.heap.objs.size)).get? s.heap.objs.size = some o := Heap.get?_push_of_some _ (Heap.get?_push_size _ B.free)
  have all := callType_new (prog := prog) (w := w) (A := A) (E := E) (Q := Q) F.called_enumerate (by decide) (F.typeCall_enumerate_1 v) (F.newCall_enumerate_1 v) (fun obj => F.args_object_init_2 obj _) F.entry_enumerate_new (rj_enum_made B) (s := s)
  refine all ⟨src, ?_⟩; show _ ∧ _
  rw [one] at at1 ⊢
  exact ⟨⟨_, at1, rfl⟩, fin _ at1 at0 (by rw [Heap.size_push, one]) fun b u e => Heap.get?_push_of_some _ (Heap.get?_push_of_some _ e)⟩
end PySem
namespace RJ
open PySem PySem.Spec PyProof.Rows L2
/-- iter of v begins something that draws -/
structure BegK (X : Cx) (n : Nat) (G : Hp → Prop) (PV : Nat → V → Prop) (H : Hp) (s : Shared) (v : Value) : Prop where
  ex : ∃ (o : Obj) (HH : Heap → Prop), Begins v o HH ∧ HH s.heap ∧ G H ∧ ∀ it, ∃ tnI : Nat → Heap → Prop, DrawK X.prog X.w X.K it n tnI G PV ∧ ∀ h : Heap, h.get? it = some o → tnI 0 h
theorem begK_str {X : Cx} {H : Hp} {s : Shared} (x : Str) (t : Tok) : BegK X x.cps.size (fun _ => True) (fun i v => ∃ c, x.cps[i]? = some c ∧ v = .str ⟨#[c]⟩) H s (.str x t) :=
  ⟨_, _, begins_text x t, trivial, trivial, fun it => ⟨_, drawK_str it x t, fun h e => ⟨_, e, rfl, rfl⟩⟩⟩
theorem begK_tup {X : Cx} {pins : List (Addr × Obj)} {σ : L2.St} {H : Hp} {s : Shared} {a : Addr} {xs : List V} (I : Inv X pins σ H s) (ha : H a = some (.tup xs)) : BegK X xs.length (fun H => H a = some (.tup xs)) (fun i v => xs[i]? = some v) H s (.ref a) := by
  obtain ⟨its, rv, p, _⟩ := I.tuple (SqT.of ha)
  exact ⟨_, _, begins_tuple a its.toArray, p, ha, fun it => ⟨_, drawK_tup it a xs, fun h e => ⟨_, e, rfl, rfl⟩⟩⟩
theorem begK_list {X : Cx} {pins : List (Addr × Obj)} {σ : L2.St} {H : Hp} {s : Shared} {a : Addr} {xs : List V} (I : Inv X pins σ H s) (ha : H a = some (.lst xs)) : BegK X xs.length (fun H => H a = some (.lst xs)) (fun i v => xs[i]? = some v) H s (.ref a) := by
  obtain ⟨its, rv, p, _⟩ := I.list (SqL.of ha)
  exact ⟨_, _, begins_list a its.toArray, p.isList, ha, fun it => ⟨_, drawK_list it a xs, fun h e => ⟨_, e, rfl, rfl⟩⟩⟩
/-- what an iterable value draws -/
def SrcV (H : Hp) (v : V) (n : Nat) (G : Hp → Prop) (PV : Nat → V → Prop) : Prop :=
  (∃ x : Str, v = .str x ∧ n = x.cps.size ∧ G = (fun _ => True) ∧ PV = fun i v => ∃ c, x.cps[i]? = some c ∧ v = .str ⟨#[c]⟩) ∨
  (∃ (a : Addr) (xs : List V), v = .ref a ∧ H a = some (.tup xs) ∧ n = xs.length ∧ G = (fun H => H a = some (.tup xs)) ∧ PV = fun i v => xs[i]? = some v) ∨
  (∃ (a : Addr) (xs : List V), v = .ref a ∧ H a = some (.lst xs) ∧ n = xs.length ∧ G = (fun H => H a = some (.lst xs)) ∧ PV = fun i v => xs[i]? = some v)
theorem SrcV.beg {X : Cx} {pins : List (Addr × Obj)} {σ : L2.St} {H : Hp} {s : Shared} {v : V} {u : Value} {n : Nat} {G : Hp → Prop} {PV : Nat → V → Prop} (I : Inv X pins σ H s) (r : RelV v u) (h : SrcV H v n G PV) : BegK X n G PV H s u := by
  rcases h with ⟨x, rfl, rfl, rfl, rfl⟩ | ⟨a, xs, rfl, ha, rfl, rfl, rfl⟩ | ⟨a, xs, rfl, ha, rfl, rfl, rfl⟩
  · obtain ⟨t, rfl⟩ := r
    exact begK_str x t
  · cases r
    exact begK_tup I ha
  · cases r
    exact begK_list I ha
/-- enumerate(v), v a text, a tuple or a list -/
def iEnumG (ta : TA) : TI := fun σ H R => ta σ H fun vs H1 => ∃ v n G PV, vs = [v] ∧ SrcV H1 v n G PV ∧ R (ItG n G fun i xs => ∃ v, PV i v ∧ xs = [.int (i : Nat), v]) H1
theorem pi_enumG {X : Cx} {e : Expr} {ta : TA} {p pos tpos : Pos} {elts : List Expr} {kk : Nat} (hg : Gl X "enumerate") (hm : X.mg "enumerate" = none) (ha : PA X [e] ta) (hs : starEach [e] X.env = [(false, eval e X.env)] := by rfl) :
    PI X (.Tuple elts kk tpos) (.Call (.Name "enumerate" p) [e] [] pos) (iEnumG ta) := by
  refine ⟨fun pins s σ H R I h => ?_⟩
  refine Call_ (ld_blt I hg hm boot_enumerate (PyProof.Rows.callWith_type1 (thn (ha.run pos pins s σ H _ I h) fun us s1 ⟨vs, H1, I1, r1, q1⟩ => ?_) hs rfl))
  obtain ⟨v, n, G, PV, ex, hsrc, q⟩ := q1
  subst ex
  cases r1 with
  | cons r rr =>
    cases rr
    obtain ⟨o, HH, B, h1, hG, hd⟩ := (hsrc.beg I1 r).ex
    refine rj_enum_begins B h1 fun h' he hit hsz hk => wpAny_pyIter_enum he ?_
    have I2 : Inv X pins σ H1 { s1 with heap := h' } := I1.kept (t' := s1.toks) hk
    obtain ⟨tnI, D, hst⟩ := hd s1.heap.objs.size
    have ge2 : ∀ c ∈ [s1.heap.objs.size + 1, s1.heap.objs.size], s1.heap.objs.size ≤ c := two (p := fun c => s1.heap.objs.size ≤ c) (Nat.le_succ _) (Nat.le_refl _)
    exact ⟨s1.heap.objs.size + 1, [s1.heap.objs.size + 1, s1.heap.objs.size], _, _, H1, rfl, I2, turn_enumG D, ⟨Nat.zero_le _, ⟨.none, he⟩, hst _ hit, Nat.succ_ne_self _⟩, fun c hc => I1.fpOk (ge2 c hc) (I1.hok.fresh (ge2 c hc)), q⟩
/-- the walks of ItG as the loops of HandS take them -/
theorem walk_ItG {n : Nat} {G : Hp → Prop} {PX : Nat → List V → Prop} {g : TG} {tb : TS} {D : Ends} {σ : L2.St} {H : Hp} (Pv : Nat → L2.St → Hp → Prop) (h0 : Pv 0 σ H) (hG : ∀ i σ H, i ≤ n → Pv i σ H → G H)
    (hs : ∀ i xs T σ H, i < n → Pv i σ H → PX i xs → H T = none → g (.ref T) σ (upd H T (.tup xs)) fun σ2 H2 => tb { D with nx := Pv (i + 1), ct := Pv (i + 1), bk := D.nx } σ2 H2) (hd : ∀ σ H, Pv n σ H → D.nx σ H) :
    ∃ W : Nat → Nat → L2.St → Hp → Prop, (∃ m, W 0 m σ H) ∧ ∀ i m σ H, W i m σ H → ((ItG n G PX).stop i H ∧ D.nx σ H) ∨ ((ItG n G PX).go i H ∧ ∃ N : L2.St → Hp → Prop, (∀ σ' H', N σ' H' → ∃ m', m' < m ∧ W (i + 1) m' σ' H') ∧
      ∀ x H', (ItG n G PX).yld i H x H' → g x σ H' fun σ2 H2 => tb { D with nx := N, ct := N, bk := D.nx } σ2 H2) := by
  refine ⟨fun i m σ H => m = n - i ∧ i ≤ n ∧ Pv i σ H, ⟨n, rfl, Nat.zero_le _, h0⟩, ?_⟩
  rintro i m σ H ⟨rfl, hi, p⟩
  by_cases hlt : i < n
  · refine .inr ⟨⟨hG i σ H hi p, hlt⟩, Pv (i + 1), fun σ' H' p' => ⟨n - (i + 1), by omega, rfl, hlt, p'⟩, fun v H' y => ?_⟩
    obtain ⟨T, xs, rfl, hT, rfl, hx⟩ := y
    exact hs i xs T σ H hlt p hx hT
  · have e : i = n := by omega
    subst e
    exact .inl ⟨⟨hG _ σ H hi p, Nat.le_refl _⟩, hd σ H p⟩
end RJ
end

section
set_option maxRecDepth 100000
namespace RJ
open PySem PySem.Spec PyProof.Rows L2
theorem five {z TI TO i1 i2 : Addr} {p : Addr → Prop} (h1 : p z) (h2 : p TI) (h3 : p TO) (h4 : p i1) (h5 : p i2) : ∀ c ∈ [z, TI, TO, i1, i2], p c := fun c hc => by
  simp only [List.mem_cons, List.not_mem_nil, or_false] at hc
  rcases hc with e | e | e | e | e <;> rw [e] <;> assumption
theorem zip_cells {N : Nat} : ∀ c ∈ [N + 4, N + 2, N + 3, N, N + 1], N ≤ c := five (p := fun c => N ≤ c) (Nat.le_add_right N 4) (Nat.le_add_right N 2) (Nat.le_add_right N 3) (Nat.le_refl N) (Nat.le_add_right N 1)
/-- five cells apart -/
structure Ap5 (z TI TO i1 i2 : Addr) : Prop where
  TIz : TI ≠ z
  TOz : TO ≠ z
  TITO : TI ≠ TO
  TIi1 : TI ≠ i1
  TIi2 : TI ≠ i2
  TOi1 : TO ≠ i1
  TOi2 : TO ≠ i2
  zi1 : z ≠ i1
  zi2 : z ≠ i2
  i12 : i1 ≠ i2
theorem ap5 (N : Nat) : Ap5 (N + 4) (N + 2) (N + 3) N (N + 1) :=
  ⟨show (N + 2 : Nat) ≠ N + 4 by omega, show (N + 3 : Nat) ≠ N + 4 by omega, show (N + 2 : Nat) ≠ N + 3 by omega, show (N + 2 : Nat) ≠ N by omega, show (N + 2 : Nat) ≠ N + 1 by omega,
    show (N + 3 : Nat) ≠ N by omega, show (N + 3 : Nat) ≠ N + 1 by omega, show (N + 4 : Nat) ≠ N by omega, show (N + 4 : Nat) ≠ N + 1 by omega, show (N : Nat) ≠ N + 1 by omega⟩
theorem Ap5.sep {z TI TO i1 i2 : Addr} (D : Ap5 z TI TO i1 i2) {H : Hp} {fp1 fp2 : List Addr} (m1 : i1 ∈ fp1) (m2 : i2 ∈ fp2) (f1 : ∀ b ∈ fp1, b = i1 ∨ ∃ o, H b = some o) (f2 : ∀ b ∈ fp2, b = i2 ∨ ∃ o, H b = some o)
    (hz : H z = none) (hTO : H TO = none) (h1 : H i1 = none) (h2 : H i2 = none) : ZipSep2 z TI TO i1 i2 fp1 fp2 where
  TIz := D.TIz
  TOz := D.TOz
  TITO := D.TITO
  TIi1 := D.TIi1
  mem1 := m1
  zf1 := fun q => by
    rcases f1 _ q with e | ⟨o, e⟩
    · exact D.zi1 e
    · rw [hz] at e; cases e
  Tf1 := fun q => by
    rcases f1 _ q with e | ⟨o, e⟩
    · exact D.TOi1 e
    · rw [hTO] at e; cases e
  TIi2 := D.TIi2
  mem2 := m2
  zf2 := fun q => by
    rcases f2 _ q with e | ⟨o, e⟩
    · exact D.zi2 e
    · rw [hz] at e; cases e
  Tf2 := fun q => by
    rcases f2 _ q with e | ⟨o, e⟩
    · exact D.TOi2 e
    · rw [hTO] at e; cases e
  sep1_2 := fun q => by
    rcases f2 _ q with e | ⟨o, e⟩
    · exact D.i12 e
    · rw [h1] at e; cases e
  sep2_1 := fun q => by
    rcases f1 _ q with e | ⟨o, e⟩
    · exact D.i12 e.symm
    · rw [h2] at e; cases e
theorem out5 {z TI TO i1 i2 c : Addr} (h : c ∉ [z, TI, TO, i1, i2]) : c ≠ z ∧ c ≠ TI ∧ c ≠ TO ∧ c ≠ i1 ∧ c ≠ i2 := by
  simp only [List.mem_cons, List.not_mem_nil, or_false, not_or] at h; exact h
/-- a zip whose tuples are taken apart at once -/
def ZipTt (z TI TO i1 i2 : Addr) (n : Nat) (tn1 tn2 : Nat → Heap → Prop) (i : Nat) (h : Heap) : Prop := i ≤ n ∧ IsZip h z TI TO .none ∧ IsTupOf2 h TI (.ref i1) (.ref i2) ∧ (∃ x y, IsTupOf2 h TO x y) ∧ tn1 i h ∧ tn2 i h
section
variable {P : Program} {w : World} {K : PySem.W.Frag} {elts : List Expr} {kk : Nat} {tpos : Pos} {z TI TO i1 i2 : Addr} {n1 n2 : Nat} {tn1 tn2 : Nat → Heap → Prop} {G1 G2 : Hp → Prop} {PV1 PV2 : Nat → V → Prop}
theorem turn_zipG (A5 : Ap5 z TI TO i1 i2) (D1 : DrawK P w K i1 n1 tn1 G1 PV1) (D2 : DrawK P w K i2 n2 tn2 G2 PV2) :
    Turn P w K (.Tuple elts kk tpos) (ItG (min n1 n2) (fun H => G1 H ∧ G2 H) fun i xs => ∃ v1 v2, PV1 i v1 ∧ PV2 i v2 ∧ xs = [v1, v2]) [z, TI, TO, i1, i2] z (ZipTt z TI TO i1 i2 (min n1 n2) tn1 tn2) where
  mem := List.mem_cons_self ..
  obj := fun i h ⟨_, a, b, ⟨_, _, c⟩, d, e⟩ => five (p := fun c => ∃ o, h.get? c = some o ∧ _) ⟨_, a, fun _ q => nomatch q⟩ ⟨_, b, fun _ q => nomatch q⟩ ⟨_, c, fun _ q => nomatch q⟩ (D1.obj i h d) (D2.obj i h e)
  keep := fun i h h' ⟨l, a, b, ⟨_, _, c⟩, d, e⟩ k => ⟨l, k _ (by simp) _ a, k _ (by simp) _ b, ⟨_, _, k _ (by simp) _ c⟩, D1.keep _ _ _ d fun o => k i1 (by simp) o, D2.keep _ _ _ e fun o => k i2 (by simp) o⟩
  item := by
    rintro X hP hw hK hc i pins s σ H E I hf ⟨hl, hz, hTI, ⟨x0, y0, hTO⟩, h1, h2⟩ ⟨⟨hG1, hG2⟩, hlt⟩
    have none4 : H z = none ∧ H TO = none ∧ H i1 = none ∧ H i2 = none := ⟨(hf _ (by simp)).1, (hf _ (by simp)).1, (hf _ (by simp)).1, (hf _ (by simp)).1⟩
    obtain ⟨fp1, PD1, St1, DD1, c1, m1, q1, back1, val1⟩ := D1.draws X hP hw hK hc i pins s σ H I hG1 none4.2.2.1 h1
    obtain ⟨fp2, PD2, St2, DD2, c2, m2, q2, back2, val2⟩ := D2.draws X hP hw hK hc i pins s σ H I hG2 none4.2.2.2 h2
    subst hP hw hK
    have lt5 : ∀ c ∈ [z, TI, TO, i1, i2], c < s.heap.objs.size := by
      obtain ⟨_, e1⟩ := DD1.live _ _ c1
      obtain ⟨_, e2⟩ := DD2.live _ _ c2
      exact five (Heap.lt_size hz) (Heap.lt_size hTI) (Heap.lt_size hTO) (Heap.lt_size e1) (Heap.lt_size e2)
    refine wpAny_pyNext_zipD2_item (A5.sep m1 m2 q1 q2 none4.1 none4.2.1 none4.2.2.1 none4.2.2.2) DD1 DD2 hz hTI hTO c1 c2 (by omega) (by omega) fun u u2 h' tk p1 p2 z' TO' j1 j2 hT _ hk => ⟨_, rfl, ?_⟩
    obtain ⟨v, hv, rv⟩ := val1 i u p1
    obtain ⟨v2, hv2, rv2⟩ := val2 i u2 p2
    refine wpAny_letOwnedTupleGo_zip (s := { s with heap := h', toks := tk }) z' fun g zg sg => ?_
    have on : ∀ {c : Addr} {o : Obj}, c ≠ z → h'.get? c = some o → g.get? c = some o := fun n e => (sg.2 _ n).trans e
    have made : ObjOk X.prog X.w (upd H s.heap.objs.size (.tup [v, v2])) g s.heap.objs.size (.tup [v, v2]) := ⟨by show 2 ≤ sizeLine; decide, [u, u2], .cons rv (.cons rv2 .nil), ⟨_, on (Nat.ne_of_gt (lt5 z (by simp))) hT, rfl, _, rfl⟩⟩
    have J : Inv X pins σ (upd H s.heap.objs.size (.tup [v, v2])) { s with heap := g, toks := tk } := I.turnedNew (ch := [z, TI, TO, i1, i2]) (fun c o hb q => by
      obtain ⟨a, _, b, d, e⟩ := out5 hb
      exact on a (hk c o a b d e q)) hf (Nat.le_refl _) made
    exact ⟨.ref s.heap.objs.size, _, J, rfl, ⟨_, _, rfl, I.hok.fresh (Nat.le_refl _), rfl, v, v2, hv, hv2, rfl⟩, ⟨hlt, zg, on A5.TIz (hk _ _ A5.TIz A5.TITO A5.TIi1 A5.TIi2 hTI), ⟨u, u2, on A5.TOz TO'⟩, D1.keep _ _ _ (back1 _ _ j1) fun _ => on A5.zi1.symm, D2.keep _ _ _ (back2 _ _ j2) fun _ => on A5.zi2.symm⟩,
      fun c hcm => (upd_ne (Nat.ne_of_lt (lt5 c hcm))).trans (hf c hcm).1⟩
  done := by
    rintro X hP hw hK hc i pins s σ H E I hf ⟨hl, hz, hTI, ⟨x0, y0, hTO⟩, h1, h2⟩ ⟨⟨hG1, hG2⟩, hge⟩
    have none4 : H z = none ∧ H TO = none ∧ H i1 = none ∧ H i2 = none := ⟨(hf _ (by simp)).1, (hf _ (by simp)).1, (hf _ (by simp)).1, (hf _ (by simp)).1⟩
    obtain ⟨fp1, PD1, St1, DD1, c1, m1, q1, back1, val1⟩ := D1.draws X hP hw hK hc i pins s σ H I hG1 none4.2.2.1 h1
    obtain ⟨fp2, PD2, St2, DD2, c2, m2, q2, back2, val2⟩ := D2.draws X hP hw hK hc i pins s σ H I hG2 none4.2.2.2 h2
    subst hP hw hK
    exact wpAny_pyNext_zipD2_end (A5.sep m1 m2 q1 q2 none4.1 none4.2.1 none4.2.2.1 none4.2.2.2) DD1 DD2 hz hTI hTO c1 c2 (by omega) (by omega) (by omega) fun h' tk hk => ⟨rfl, I.turnedL (t' := tk) (ch := [z, TI, TO, i1, i2]) (fun c o hb q => by
      obtain ⟨a, _, b, d, e⟩ := out5 hb
      exact hk c o a b d e q) hf⟩
  self := fun A i s Q E st h => wpAny_pyIter_zip st.2.1 h
end
def iZipG (ta : TA) : TI := fun σ H R => ta σ H fun vs H1 => ∃ v1 v2 n1 n2 G1 G2 PV1 PV2, vs = [v1, v2] ∧ SrcV H1 v1 n1 G1 PV1 ∧ SrcV H1 v2 n2 G2 PV2 ∧ R (ItG (min n1 n2) (fun H => G1 H ∧ G2 H) fun i xs => ∃ v1 v2, PV1 i v1 ∧ PV2 i v2 ∧ xs = [v1, v2]) H1
theorem pi_zipGen {X : Cx} {tg e e2 : Expr} {ta : TA} {p pos : Pos} (hg : Gl X "zip") (hm : X.mg "zip" = none) (ha : PA X [e, e2] ta)
    (ht : ∀ {z TI TO i1 i2 : Addr} {n1 n2 : Nat} {tn1 tn2 : Nat → Heap → Prop} {G1 G2 : Hp → Prop} {PV1 PV2 : Nat → V → Prop} (A5 : Ap5 z TI TO i1 i2) (D1 : DrawK X.prog X.w X.K i1 n1 tn1 G1 PV1) (D2 : DrawK X.prog X.w X.K i2 n2 tn2 G2 PV2),
      ∃ tn : Nat → Heap → Prop, Turn X.prog X.w X.K tg (ItG (min n1 n2) (fun H => G1 H ∧ G2 H) fun i xs => ∃ v1 v2, PV1 i v1 ∧ PV2 i v2 ∧ xs = [v1, v2]) [z, TI, TO, i1, i2] z tn ∧
        ∀ h, IsZip h z TI TO .none → IsTupOf2 h TI (.ref i1) (.ref i2) → IsTupOf2 h TO .none .none → tn1 0 h → tn2 0 h → tn 0 h)
    (hs : starEach [e, e2] X.env = (false, eval e X.env) :: starEach [e2] X.env := by rfl) (hpl : (backTo pos (starEach [e2] X.env)).any (·.1) = false := by rfl) :
    PI X tg (.Call (.Name "zip" p) [e, e2] [] pos) (iZipG ta) := by
  refine ⟨fun pins s σ H R I h => ?_⟩
  refine Call_ (ld_blt I hg hm PyProof.Rows.boot_zip (PyProof.Rows.callWith_type1 (thn (ha.run pos pins s σ H _ I h) fun us s1 ⟨vs, H1, I1, r1, q1⟩ => ?_) hs hpl))
  obtain ⟨v1, v2, n1, n2, G1, G2, PV1, PV2, ex, hs1, hs2, q⟩ := q1
  subst ex
  cases r1 with
  | cons r rr =>
    cases rr with
    | cons r' rr =>
      cases rr
      obtain ⟨o1, HH1, B1, b1, hG1, hd1⟩ := (hs1.beg I1 r).ex
      obtain ⟨o2, HH2, B2, b2, hG2, hd2⟩ := (hs2.beg I1 r').ex
      refine zip_begins2 B1 B2 b1 b2 fun h' hz hTI hTO g1 g2 hsz hk => wpAny_pyIter_zip hz ?_
      have I2 : Inv X pins σ H1 { s1 with heap := h' } := I1.kept (t' := s1.toks) hk
      obtain ⟨tn1, D1, st1⟩ := hd1 s1.heap.objs.size
      obtain ⟨tn2, D2, st2⟩ := hd2 (s1.heap.objs.size + 1)
      obtain ⟨tn, T, h0⟩ := ht (ap5 s1.heap.objs.size) D1 D2
      exact ⟨s1.heap.objs.size + 4, [s1.heap.objs.size + 4, s1.heap.objs.size + 2, s1.heap.objs.size + 3, s1.heap.objs.size, s1.heap.objs.size + 1], tn, _, H1, rfl, I2, T, h0 _ hz hTI hTO (st1 _ g1) (st2 _ g2),
        fun c hcm => I1.fpOk (zip_cells c hcm) (I1.hok.fresh (zip_cells c hcm)), q⟩
/-- for a, b in zip(v1, v2): texts, tuples, lists -/
theorem pi_zipT2 {X : Cx} {e e2 : Expr} {ta : TA} {p pos tpos : Pos} {elts : List Expr} {kk : Nat} (hg : Gl X "zip") (hm : X.mg "zip" = none) (ha : PA X [e, e2] ta)
    (hs : starEach [e, e2] X.env = (false, eval e X.env) :: starEach [e2] X.env := by rfl) (hpl : (backTo pos (starEach [e2] X.env)).any (·.1) = false := by rfl) :
    PI X (.Tuple elts kk tpos) (.Call (.Name "zip" p) [e, e2] [] pos) (iZipG ta) :=
  pi_zipGen hg hm ha (fun A5 D1 D2 => ⟨_, turn_zipG A5 D1 D2, fun h hz hTI hTO h1 h2 => ⟨Nat.zero_le _, hz, hTI, ⟨_, _, hTO⟩, h1, h2⟩⟩) hs hpl
end RJ
end

section
set_option maxRecDepth 100000
namespace PySem
/-- nothing but these four cells has changed -/
def Beside (z TO i1 i2 : Addr) (h h' : Heap) : Prop := ∀ c o, c ≠ z → c ≠ TO → c ≠ i1 → c ≠ i2 → h.get? c = some o → h'.get? c = some o
/-- a zip, whatever tuple it holds to be out -/
abbrev RjZ (h : Heap) (z TI TO : Addr) (f0 : Value) (f1 : Bool) : Prop := h.get? z = some { cls := .type "zip", dict := none, data := .fields #[f0, .bool f1, .bool false, .ref TI, .ref TO], slots := #[] }
/-- .. between two turns -/
def ZipIdle (h : Heap) (z TI TO : Addr) : Prop := ∃ f0 f1, RjZ h z TI TO f0 f1 ∧ (f0 = .none ∨ ∃ T : Addr, f0 = rawInt T)
/-- the tuple it keeps -/
def KeepsPair (h : Heap) (TO : Addr) : Prop := ∃ x y, IsTupOf2 h TO x y
section
variable {prog : Program} {w : World} {A : Around} {E : Value → Shared → Prop} {s : Shared} {z TI TO i1 i2 : Addr} {fp1 fp2 : List Addr} {n1 n2 i : Nat} {P1 P2 : Nat → Value → Prop} {St1 St2 : Nat → Heap → Prop}
theorem rj_alive {a : Addr} {Q : Option Obj → Shared → Prop} (h : Q (s.heap.get? a) s) : wpAny (model prog w) A (loadIfAlive a) Q E s := fun _ _ _ => h
/-- is the tuple that went out free? both answers -/
theorem rj_isFree {f0 : Value} {f1 : Bool} {Q : Bool → Shared → Prop} (hz : RjZ s.heap z TI TO f0 f1) (hf : f0 = .none ∨ ∃ T : Addr, f0 = rawInt T) (yes : Q true s)
    (no : ∀ h', RjZ h' z TI TO f0 true → Heap.SameBut z s.heap h' → Q false { s with heap := h' }) : wpAny (model prog w) A (Builtin.SmallTypes.ownedTupleIsFree (.ref z)) Q E s := by
  have last : wpAny (model prog w) A (field (.ref z) 1) (fun v s' => v = .bool f1 ∧ s' = s) E s := wpAny_field hz rfl (x := .bool f1) rfl ⟨rfl, rfl⟩
  unfold Builtin.SmallTypes.ownedTupleIsFree; refine wpAny_bind (wpAny_field hz rfl (x := f0) rfl ?_)
  rcases hf with e | ⟨T, e⟩ <;> subst e
  · exact wpAny_pure yes
  show wpAny _ _ (loadIfAlive ((T : Int).toNat) >>= _) _ _ _
  refine wpAny_bind (rj_alive ?_)
  cases s.heap.get? ((T : Int).toNat)
  · simp only [Option.isNone_none, if_true]; exact wpAny_pure yes
  simp only [Option.isNone_some, Bool.false_eq_true, if_false]
  refine wpAny_bind (wpAny_mono last ?_ fun _ _ e => e); rintro _ _ ⟨rfl, rfl⟩
  cases f1
  · rw [if_pos (by rfl)]; exact wpAny_bind (wpAny_setField_rec hz (by simp) fun k hk sk => wpAny_pure (no k hk sk))
  · rw [if_neg (by decide)]; exact wpAny_pure (no _ hz (Heap.SameBut.refl _ _))
/-- one call of next: an item of each, or the end of one -/
theorem rj_next {Q : Value → Shared → Prop} (S : ZipSep2 z TI TO i1 i2 fp1 fp2) (D1 : Draws prog w A i1 fp1 n1 P1 St1) (D2 : Draws prog w A i2 fp2 n2 P2 St2) (hz : ZipIdle s.heap z TI TO)
    (hTI : IsTupOf2 s.heap TI (.ref i1) (.ref i2)) (hTO : KeepsPair s.heap TO) (st1 : St1 i s.heap) (st2 : St2 i s.heap) (le1 : i ≤ n1) (le2 : i ≤ n2)
    (got : ∀ x y h' tk, i < n1 → i < n2 → P1 i x → P2 i y → ZipIdle h' z TI TO → KeepsPair h' TO → St1 (i + 1) h' → St2 (i + 1) h' → IsTupOf2 h' s.heap.objs.size x y → Beside z TO i1 i2 s.heap h' → Q (.ref s.heap.objs.size) { s with heap := h', toks := tk })
    (out : ∀ h' tk e, i = n1 ∨ i = n2 → Beside z TO i1 i2 s.heap h' → (∃ o, h'.get? e = some o ∧ o.cls = .type "StopIteration") → E (.ref e) { s with heap := h', toks := tk }) :
    wpAny (model prog w) A (Builtin.«zip.__next__» ⟨[.ref z], []⟩) (fun fin s' => ∃ v, fin = .done (.ret v) ∧ Q v s') E s := by
  obtain ⟨f0, f1, zz, hf⟩ := hz
  obtain ⟨p, q, hTO⟩ := hTO
  obtain ⟨hp, g, d, k0, os⟩ := s
  have zl : z < hp.objs.size := Heap.lt_size zz
  show wpAny _ _ (field (.ref z) 2 >>= _) _ _ _; refine wpAny_bind (wpAny_field zz rfl (x := .bool false) rfl ?_)
  show wpAny _ _ (field (.ref z) 3 >>= _) _ _ _; refine wpAny_bind (wpAny_field zz rfl (x := .ref TI) rfl (wpAny_bind (wpAny_seqItems hTI rfl ?_)))
  show wpAny _ _ (Builtin.SmallTypes.ownedTupleIsFree (.ref z) >>= _) _ _ _; refine wpAny_bind (rj_isFree zz hf ?_ fun a za sa => ?_)
  · -- the kept tuple is filled anew
    simp only [if_true]; refine wpAny_bind (wpAny_rule (wpAny_bind (wpAny_field zz rfl (x := .ref TO) rfl (wpAny_bind (wpAny_setField_rec zz (by simp) fun a za sa => ?_)))))
    replace za : RjZ a z TI TO .ellipsis f1 := za
    replace sa : Heap.SameBut z hp a := sa
    have stop : ∀ (tk : Nat) (h h' : Heap) (e : Addr) (o : Obj), (i = n1 ∨ i = n2) → RjZ h z TI TO .ellipsis f1 → Beside z TO i1 i2 hp h → h.get? e = some o → o.cls = .type "StopIteration" → Heap.SameBut z h h' → E (.ref e) ⟨h', g, d, tk, os⟩ := fun tk h h' e o c zh b he ho sh =>
      out h' tk e c (fun c o cz cT c1 c2 x => sh.extBut _ _ cz (b c o cz cT c1 c2 x)) ⟨o, sh.extBut _ _ (fun x => by subst x; rw [zh] at he; cases he; simp at ho) he, ho⟩
    refine wpAny_bind ?_; simp only [List.zipIdx_cons, List.zipIdx_nil, List.forIn_cons, List.forIn_nil]; refine wpAny_bind (wpAny_bind (wpAny_onRaise ?_))
    show wpAny _ _ (Builtin.SmallTypes.nextOf (.ref i1) >>= _) _ _ ⟨a, g, d, k0, os⟩
    have ta := D1.over st1 sa S.zf1
    by_cases l1 : i < n1
    · refine wpAny_bind (D1.item i _ _ _ l1 ta fun x b k1 hx tb sb => wpAny_pure ?_)
      replace sb : Heap.SameBut i1 a b := sb
      have ub : IsTupOf2 b TO p q := sb.extBut _ _ S.Ti1 (sa.extBut _ _ S.TOz hTO)
      refine wpAny_bind (wpAny_seqItems (s := ⟨b, g, d, k1, os⟩) ub rfl (wpAny_bind (updateSeq_IsTupOf2 (s := ⟨b, g, d, k1, os⟩) ub fun c uc sc => wpAny_bind (wpAny_letGo (wpAny_pure ?_)))))
      replace uc : IsTupOf2 c TO x q := uc
      replace sc : Heap.SameBut TO b c := sc
      have zc : RjZ c z TI TO .ellipsis f1 := sc.extBut _ _ S.TOz.symm (sb.extBut _ _ S.zi1 za)
      have bc : Beside z TO i1 i2 hp c := fun c o cz cT c1 c2 e => sc.extBut _ _ cT (sb.extBut _ _ c1 (sa.extBut _ _ cz e))
      have tc := D2.over (D2.over (D2.over st2 sa S.zf2) sb S.sep1_2) sc S.Tf2
      refine wpAny_bind (wpAny_bind (wpAny_onRaise ?_)); show wpAny _ _ (Builtin.SmallTypes.nextOf (.ref i2) >>= _) _ _ ⟨c, g, d, k1, os⟩
      by_cases l2 : i < n2
      · refine wpAny_bind (D2.item i _ _ _ l2 tc fun y e k2 hy te se => wpAny_pure ?_)
        replace se : Heap.SameBut i2 c e := se
        have ue : IsTupOf2 e TO x q := se.extBut _ _ S.Ti2 uc
        refine wpAny_bind (wpAny_seqItems (s := ⟨e, g, d, k2, os⟩) ue rfl (wpAny_bind (updateSeq_IsTupOf2 (s := ⟨e, g, d, k2, os⟩) ue fun r ur sr => wpAny_bind (wpAny_letGo (wpAny_pure (wpAny_pure ?_))))))
        replace ur : IsTupOf2 r TO x y := ur
        replace sr : Heap.SameBut TO e r := sr
        have zr : RjZ r z TI TO .ellipsis f1 := sr.extBut _ _ S.TOz.symm (se.extBut _ _ S.zi2 zc)
        have size : r.objs.size = hp.objs.size := by rw [sr.1, se.1, sc.1, sb.1, sa.1]
        have j1 : St1 (i + 1) r := D1.over (D1.over (D1.over tb sc S.Tf1) se S.sep2_1) sr S.Tf1
        have j2 : St2 (i + 1) r := D2.over te sr S.Tf2
        refine wpAny_bind (wpAny_seqItems (s := ⟨r, g, d, k2, os⟩) ur rfl (wpAny_bind (wpAny_newTuple ?_)))
        show wpAny _ _ (Builtin.SmallTypes.ownedTupleHandOut (.ref z) (.ref r.objs.size) >>= _) _ _ ⟨r.push { cls := .type "tuple", data := .seq #[x, y] }, g, d, k2, os⟩
        generalize hv : r.push { cls := .type "tuple", data := .seq #[x, y] } = v
        have up : ∀ c o, r.get? c = some o → v.get? c = some o := fun c o e => hv ▸ Heap.get?_push_of_some _ e
        have tv : IsTupOf2 v r.objs.size x y := hv ▸ Heap.get?_push_size _ rfl
        unfold Builtin.SmallTypes.ownedTupleHandOut; refine wpAny_bind ?_
        refine wpAny_bind (wpAny_setField_rec (s := ⟨v, g, d, k2, os⟩) (up _ _ zr) (by simp) fun m zm sm => wpAny_setField_rec (s := ⟨m, g, d, k2, os⟩) zm (by simp) fun t zt stt => ?_)
        replace zt : RjZ t z TI TO (rawInt r.objs.size) false := zt
        replace sm : Heap.SameBut z v m := sm
        replace stt : Heap.SameBut z m t := stt
        have on : ∀ c o, c ≠ z → r.get? c = some o → t.get? c = some o := fun c o n e => stt.extBut _ _ n (sm.extBut _ _ n (up _ _ e))
        refine wpAny_pure ⟨_, rfl, ?_⟩
        show Q (.ref r.objs.size) ⟨t, g, d, k2, os⟩; rw [size]
        refine got x y t k2 l1 l2 hx hy ⟨_, _, zt, .inr ⟨_, rfl⟩⟩ ⟨_, _, on _ _ S.TOz ur⟩ (D1.frame _ _ _ j1 fun b hb o e => on b o (fun q => S.zf1 (q ▸ hb)) e) (D2.frame _ _ _ j2 fun b hb o e => on b o (fun q => S.zf2 (q ▸ hb)) e) ?_
          fun c o cz cT c1 c2 e => on c o cz (sr.extBut _ _ cT (se.extBut _ _ c2 (bc c o cz cT c1 c2 e)))
        have away : r.objs.size ≠ z := by rw [size]; exact Nat.ne_of_gt zl
        have := stt.extBut _ _ away (sm.extBut _ _ away tv); rwa [size] at this
      · have c2 : i = n2 := by omega
        refine wpAny_bind (D2.done ⟨c, g, d, k1, os⟩ _ _ (c2 ▸ tc) fun e x he hx => ?_); obtain ⟨o, ho, oc⟩ := hx
        have ze : RjZ e z TI TO .ellipsis f1 := he _ _ S.zi2 zc
        exact wpAny_setField_rec (s := ⟨e, g, d, k1, os⟩) ze (by simp) fun e' _ se => stop k1 e e' x o (.inr c2) ze (fun c o cz cT c1 c2 y => he _ _ c2 (bc c o cz cT c1 c2 y)) ho oc se
    · have c1 : i = n1 := by omega
      refine wpAny_bind (D1.done ⟨a, g, d, k0, os⟩ _ _ (c1 ▸ ta) fun e x he hx => ?_); obtain ⟨o, ho, oc⟩ := hx
      have ze : RjZ e z TI TO .ellipsis f1 := he _ _ S.zi1 za
      exact wpAny_setField_rec (s := ⟨e, g, d, k0, os⟩) ze (by simp) fun e' _ se => stop k0 e e' x o (.inl c1) ze (fun c o cz cT c1 c2 y => he _ _ c1 (sa.extBut _ _ cz y)) ho oc se
  · -- a tuple of its own
    replace za : RjZ a z TI TO f0 true := za
    replace sa : Heap.SameBut z hp a := sa
    have ta := D1.over st1 sa S.zf1
    simp only [Bool.false_eq_true, if_false]; refine wpAny_bind ?_; rw [← Array.forIn_toList]; simp only [List.forIn_cons, List.forIn_nil]; refine wpAny_bind (wpAny_bind (wpAny_holding ?_))
    show wpAny _ _ (Builtin.SmallTypes.nextOf (.ref i1) >>= _) _ _ ⟨a, g, d, k0, os⟩
    by_cases l1 : i < n1
    · refine wpAny_bind (D1.item i _ _ _ l1 ta fun x b k1 hx tb sb => wpAny_pure (wpAny_pure (wpAny_bind (wpAny_bind (wpAny_holding ?_)))))
      replace sb : Heap.SameBut i1 a b := sb
      have bb : Beside z TO i1 i2 hp b := fun c o cz _ c1 _ e => sb.extBut _ _ c1 (sa.extBut _ _ cz e)
      have tc := D2.over (D2.over st2 sa S.zf2) sb S.sep1_2
      show wpAny _ _ (Builtin.SmallTypes.nextOf (.ref i2) >>= _) _ _ ⟨b, g, d, k1, os⟩
      by_cases l2 : i < n2
      · refine wpAny_bind (D2.item i _ _ _ l2 tc fun y e k2 hy te se => wpAny_pure (wpAny_pure (wpAny_pure ?_)))
        replace se : Heap.SameBut i2 b e := se
        have size : e.objs.size = hp.objs.size := by rw [se.1, sb.1, sa.1]
        have ze : RjZ e z TI TO f0 true := se.extBut _ _ S.zi2 (sb.extBut _ _ S.zi1 za)
        have ue : IsTupOf2 e TO p q := se.extBut _ _ S.Ti2 (sb.extBut _ _ S.Ti1 (sa.extBut _ _ S.TOz hTO))
        have j1 : St1 (i + 1) e := D1.over tb se S.sep2_1
        show wpAny _ _ (newTuple [x, y] >>= _) _ _ ⟨e, g, d, k2, os⟩; refine wpAny_bind (wpAny_newTuple (wpAny_pure ⟨_, rfl, ?_⟩))
        show Q (.ref e.objs.size) ⟨e.push { cls := .type "tuple", data := .seq #[x, y] }, g, d, k2, os⟩
        have tv : IsTupOf2 (e.push { cls := .type "tuple", data := .seq #[x, y] }) e.objs.size x y := Heap.get?_push_size _ rfl
        rw [size] at tv ⊢
        exact got x y _ k2 l1 l2 hx hy ⟨_, _, Heap.get?_push_of_some _ ze, hf⟩ ⟨_, _, Heap.get?_push_of_some _ ue⟩ (D1.frame _ _ _ j1 fun _ _ _ e => Heap.get?_push_of_some _ e) (D2.frame _ _ _ te fun _ _ _ e => Heap.get?_push_of_some _ e) tv
          fun c o cz cT c1 c2 e => Heap.get?_push_of_some _ (se.extBut _ _ c2 (bb c o cz cT c1 c2 e))
      · have c2 : i = n2 := by omega
        exact wpAny_bind (D2.done ⟨b, g, d, k1, os⟩ _ _ (c2 ▸ tc) fun e x he hx => out e k1 x (.inr c2) (fun c o cz cT c1 c2 y => he _ _ c2 (bb c o cz cT c1 c2 y)) hx)
    · have c1 : i = n1 := by omega
      exact wpAny_bind (D1.done ⟨a, g, d, k0, os⟩ _ _ (c1 ▸ ta) fun e x he hx => out e k0 x (.inl c1) (fun c o cz _ c1 _ y => he _ _ c1 (sa.extBut _ _ cz y)) hx)
theorem rj_pyNext {Q : Option Value → Shared → Prop} (S : ZipSep2 z TI TO i1 i2 fp1 fp2) (D1 : Draws prog w A.in1 i1 fp1 n1 P1 St1) (D2 : Draws prog w A.in1 i2 fp2 n2 P2 St2) (hz : ZipIdle s.heap z TI TO)
    (hTI : IsTupOf2 s.heap TI (.ref i1) (.ref i2)) (hTO : KeepsPair s.heap TO) (st1 : St1 i s.heap) (st2 : St2 i s.heap) (le1 : i ≤ n1) (le2 : i ≤ n2)
    (got : ∀ x y h' tk, i < n1 → i < n2 → P1 i x → P2 i y → ZipIdle h' z TI TO → KeepsPair h' TO → St1 (i + 1) h' → St2 (i + 1) h' → IsTupOf2 h' s.heap.objs.size x y → Beside z TO i1 i2 s.heap h' → Q (some (.ref s.heap.objs.size)) { s with heap := h', toks := tk })
    (out : ∀ h' tk, i = n1 ∨ i = n2 → Beside z TO i1 i2 s.heap h' → Q none { s with heap := h', toks := tk }) : wpAny (model prog w) A (pyNext (.ref z)) Q E s := by
  have ty : s.TypeIs (.ref z) "zip" := by obtain ⟨_, _, e, _⟩ := hz; exact ⟨_, e, rfl⟩
  unfold pyNext; refine wpAny_bind (wpAny_attempt (wpAny_callSpecial?_slot (name := Str.ofString "__next__") ty F.slot_zip_next (wpAny_call_entry F.slot_zip_next ty F.entry_zip_next ?_ (F.args_zip_next_1 _))))
  refine rj_next S D1 D2 hz hTI hTO st1 st2 le1 le2 (fun x y h' tk a b c e f g j k l m => wpAny_pure (got x y h' tk a b c e f g j k l m)) fun h' tk e c b he => ?_
  obtain ⟨o, ho, hc⟩ := he
  exact wpAny_bind (wpAny_isInstance (T := "StopIteration") (b := true) ⟨o, ho, hc⟩ isSubtype_stop (wpAny_pure (out _ _ c b)))
end
end PySem
namespace RJ
open PySem PySem.Spec PyProof.Rows L2
theorem Beside.out {z TI TO i1 i2 : Addr} {h h' : Heap} (b : Beside z TO i1 i2 h h') {c : Addr} {o : Obj} (hc : c ∉ [z, TI, TO, i1, i2]) : h.get? c = some o → h'.get? c = some o := by
  simp only [List.mem_cons, List.not_mem_nil, or_false, not_or] at hc
  exact b c o hc.1 hc.2.2.1 hc.2.2.2.1 hc.2.2.2.2
section
variable {P : Program} {w : World} {K : PySem.W.Frag} {x : Str} {tpos : Pos} {z TI TO i1 i2 : Addr} {n1 n2 : Nat} {tn1 tn2 : Nat → Heap → Prop} {G1 G2 : Hp → Prop} {PV1 PV2 : Nat → V → Prop}
/-- a zip whose tuples go out under a name -/
def ZipTn (z TI TO i1 i2 : Addr) (n : Nat) (tn1 tn2 : Nat → Heap → Prop) (i : Nat) (h : Heap) : Prop := i ≤ n ∧ ZipIdle h z TI TO ∧ IsTupOf2 h TI (.ref i1) (.ref i2) ∧ KeepsPair h TO ∧ tn1 i h ∧ tn2 i h
theorem turn_zipN (A5 : Ap5 z TI TO i1 i2) (D1 : DrawK P w K i1 n1 tn1 G1 PV1) (D2 : DrawK P w K i2 n2 tn2 G2 PV2) :
    Turn P w K (.Name x tpos) (ItG (min n1 n2) (fun H => G1 H ∧ G2 H) fun i xs => ∃ v1 v2, PV1 i v1 ∧ PV2 i v2 ∧ xs = [v1, v2]) [z, TI, TO, i1, i2] z (ZipTn z TI TO i1 i2 (min n1 n2) tn1 tn2) where
  mem := List.mem_cons_self ..
  obj := fun i h ⟨_, ⟨_, _, a, _⟩, b, ⟨_, _, c⟩, d, e⟩ => five (p := fun c => ∃ o, h.get? c = some o ∧ _) ⟨_, a, fun _ q => nomatch q⟩ ⟨_, b, fun _ q => nomatch q⟩ ⟨_, c, fun _ q => nomatch q⟩ (D1.obj i h d) (D2.obj i h e)
  keep := fun i h h' ⟨l, ⟨_, _, a, f⟩, b, ⟨_, _, c⟩, d, e⟩ k => ⟨l, ⟨_, _, k _ (by simp) _ a, f⟩, k _ (by simp) _ b, ⟨_, _, k _ (by simp) _ c⟩, D1.keep _ _ _ d fun o => k i1 (by simp) o, D2.keep _ _ _ e fun o => k i2 (by simp) o⟩
  item := by
    rintro X hP hw hK hc i pins s σ H E I hf ⟨hl, hz, hTI, hTO, h1, h2⟩ ⟨⟨hG1, hG2⟩, hlt⟩
    have none5 : H z = none ∧ H TI = none ∧ H TO = none ∧ H i1 = none ∧ H i2 = none := ⟨(hf _ (by simp)).1, (hf _ (by simp)).1, (hf _ (by simp)).1, (hf _ (by simp)).1, (hf _ (by simp)).1⟩
    obtain ⟨fp1, PD1, St1, DD1, c1, m1, q1, back1, val1⟩ := D1.draws X hP hw hK hc i pins s σ H I hG1 none5.2.2.2.1 h1
    obtain ⟨fp2, PD2, St2, DD2, c2, m2, q2, back2, val2⟩ := D2.draws X hP hw hK hc i pins s σ H I hG2 none5.2.2.2.2 h2
    subst hP hw hK
    refine rj_pyNext (A5.sep m1 m2 q1 q2 none5.1 none5.2.2.1 none5.2.2.2.1 none5.2.2.2.2) DD1 DD2 hz hTI hTO c1 c2 (by omega) (by omega) (fun u u2 h' tk _ _ p1 p2 z' TO' j1 j2 hT hk => ?_) fun h' tk e => absurd e (by omega)
    obtain ⟨v, hv, rv⟩ := val1 i u p1
    obtain ⟨v2, hv2, rv2⟩ := val2 i u2 p2
    have made : ObjOk X.prog X.w (upd H s.heap.objs.size (.tup [v, v2])) h' s.heap.objs.size (.tup [v, v2]) := ⟨by show 2 ≤ sizeLine; decide, [u, u2], .cons rv (.cons rv2 .nil), ⟨_, hT, rfl, _, rfl⟩⟩
    have J : Inv X pins σ (upd H s.heap.objs.size (.tup [v, v2])) { s with heap := h', toks := tk } := I.turnedNew (ch := [z, TI, TO, i1, i2]) (fun c o hb q => Beside.out hk hb q) hf (Nat.le_refl _) made
    have lt5 : ∀ c ∈ [z, TI, TO, i1, i2], c < s.heap.objs.size := by
      obtain ⟨_, _, a, _⟩ := hz
      obtain ⟨_, _, b⟩ := hTO
      obtain ⟨_, e1⟩ := DD1.live _ _ c1
      obtain ⟨_, e2⟩ := DD2.live _ _ c2
      exact five (Heap.lt_size a) (Heap.lt_size hTI) (Heap.lt_size b) (Heap.lt_size e1) (Heap.lt_size e2)
    exact ⟨_, rfl, wpAny_pure ⟨.ref s.heap.objs.size, _, J, rfl, ⟨_, _, rfl, I.hok.fresh (Nat.le_refl _), rfl, v, v2, hv, hv2, rfl⟩, ⟨hlt, z', hk _ _ A5.TIz A5.TITO A5.TIi1 A5.TIi2 hTI, TO', back1 _ _ j1, back2 _ _ j2⟩,
      fun c hcm => (upd_ne (Nat.ne_of_lt (lt5 c hcm))).trans (hf c hcm).1⟩⟩
  done := by
    rintro X hP hw hK hc i pins s σ H E I hf ⟨hl, hz, hTI, hTO, h1, h2⟩ ⟨⟨hG1, hG2⟩, hge⟩
    have none5 : H z = none ∧ H TO = none ∧ H i1 = none ∧ H i2 = none := ⟨(hf _ (by simp)).1, (hf _ (by simp)).1, (hf _ (by simp)).1, (hf _ (by simp)).1⟩
    obtain ⟨fp1, PD1, St1, DD1, c1, m1, q1, back1, val1⟩ := D1.draws X hP hw hK hc i pins s σ H I hG1 none5.2.2.1 h1
    obtain ⟨fp2, PD2, St2, DD2, c2, m2, q2, back2, val2⟩ := D2.draws X hP hw hK hc i pins s σ H I hG2 none5.2.2.2 h2
    subst hP hw hK
    exact rj_pyNext (A5.sep m1 m2 q1 q2 none5.1 none5.2.1 none5.2.2.1 none5.2.2.2) DD1 DD2 hz hTI hTO c1 c2 (by omega) (by omega) (fun _ _ _ _ a b => absurd a (by omega)) fun h' tk _ hk => ⟨rfl, I.turnedL (t' := tk) (ch := [z, TI, TO, i1, i2]) (fun c o hb q => Beside.out hk hb q) hf⟩
  self := fun A i s Q E st h => by
    obtain ⟨_, ⟨_, _, a, _⟩, _⟩ := st
    exact wpAny_pyIter_slot ⟨_, a, rfl⟩ F.slot_zip_iter (wpAny_call_entry F.slot_zip_iter ⟨_, a, rfl⟩ F.entry_zip_iter (show wpAny _ _ (ret (.ref z)) _ _ s from wpAny_pure ⟨_, rfl, "zip", _, ⟨_, a, rfl⟩, F.slot_zip_next.lookup, h⟩) (F.args_zip_iter_1 _))
end
/-- for p in zip(v1, v2) -/
theorem pi_zipN {X : Cx} {x : Str} {e e2 : Expr} {ta : TA} {p pos tpos : Pos} (hg : Gl X "zip") (hm : X.mg "zip" = none) (ha : PA X [e, e2] ta)
    (hs : starEach [e, e2] X.env = (false, eval e X.env) :: starEach [e2] X.env := by rfl) (hpl : (backTo pos (starEach [e2] X.env)).any (·.1) = false := by rfl) :
    PI X (.Name x tpos) (.Call (.Name "zip" p) [e, e2] [] pos) (iZipG ta) :=
  pi_zipGen hg hm ha (fun A5 D1 D2 => ⟨_, turn_zipN A5 D1 D2, fun h hz hTI hTO h1 h2 => ⟨Nat.zero_le _, ⟨_, _, hz, .inl rfl⟩, hTI, ⟨_, _, hTO⟩, h1, h2⟩⟩) hs hpl
end RJ
end

section
set_option maxRecDepth 100000
namespace RJ
open PySem PySem.Spec PyProof.Rows L2
open PySem.W (minD AlikeAll alike alikeAll dataLt)
theorem minD_mem : ∀ (ys : List PyData) (y : PyData), minD y ys ∈ y :: ys
  | [], y => List.mem_cons_self ..
  | z :: zs, y => by
    show zs.foldl _ (if dataLt z y = true then z else y) ∈ y :: z :: zs
    have h := minD_mem zs (if dataLt z y = true then z else y)
    have h' : minD (if dataLt z y = true then z else y) zs ∈ (if dataLt z y = true then z else y) :: zs := h
    rcases List.mem_cons.mp h' with e | e
    · show minD (if dataLt z y = true then z else y) zs ∈ _
      rw [e]
      by_cases c : dataLt z y = true
      · rw [if_pos c]; exact List.mem_cons_of_mem _ (List.mem_cons_self ..)
      · rw [if_neg c]; exact List.mem_cons_self ..
    · exact List.mem_cons_of_mem _ (List.mem_cons_of_mem _ e)
/-- a measure that < respects falls to its least value -/
theorem minD_le {rk : PyData → Int} {Ok : PyData → Prop} (h1 : ∀ x y, Ok x → Ok y → dataLt x y = true → rk x ≤ rk y) (h2 : ∀ x y, Ok x → Ok y → dataLt x y = false → rk y ≤ rk x) :
    ∀ (ys : List PyData) (y : PyData), (∀ z ∈ y :: ys, Ok z) → ∀ z ∈ y :: ys, rk (minD y ys) ≤ rk z
  | [], y, _, z, hz => by
    rw [List.mem_singleton.mp hz]; exact Int.le_refl _
  | w :: ws, y, hok, z, hz => by
    have oky := hok y (List.mem_cons_self ..)
    have okw := hok w (List.mem_cons_of_mem _ (List.mem_cons_self ..))
    have step : rk (if dataLt w y = true then w else y) ≤ rk y ∧ rk (if dataLt w y = true then w else y) ≤ rk w := by
      cases c : dataLt w y with
      | true => exact ⟨h1 w y okw oky c, Int.le_refl _⟩
      | false => exact ⟨Int.le_refl _, h2 w y okw oky c⟩
    have ih := minD_le h1 h2 ws (if dataLt w y = true then w else y) (fun v hv => by
      rcases List.mem_cons.mp hv with e | e
      · rw [e]; split
        · exact okw
        · exact oky
      · exact hok v (List.mem_cons_of_mem _ (List.mem_cons_of_mem _ e)))
    show rk (minD (if dataLt w y = true then w else y) ws) ≤ rk z
    rcases List.mem_cons.mp hz with e | e
    · rw [e]; exact Int.le_trans (ih _ (List.mem_cons_self ..)) step.1
    · rcases List.mem_cons.mp e with e | e
      · rw [e]; exact Int.le_trans (ih _ (List.mem_cons_self ..)) step.2
      · exact ih z (List.mem_cons_of_mem _ e)
/-- min(l, default=None) of alike data -/
def rMinD (K : PySem.W.Frag) : List V → List V → Hp → VK → Prop := fun vs zs H Q => ∃ (a : Addr) (xs : List V) (ds : List PyData), vs = [V.ref a] ∧ zs = [V.non] ∧ H a = some (.lst xs) ∧ DpAll K H xs ds ∧ AlikeAll ds ∧ PyData.depthAll ds ≤ 60 ∧
  (ds = [] → Q .non H) ∧ ∀ (d : PyData) (ds' : List PyData) (i : Nat) (x : V), ds = d :: ds' → xs[i]? = some x → ds[i]? = some (minD d ds') → Q x H
theorem readsAll_ix {h : Heap} : ∀ {us : List Value} {ds : List PyData} {as : List Addr} {i : Nat} {u : Value}, ReadsAll h us ds as → us[i]? = some u → ∃ d bs, ds[i]? = some d ∧ Reads h u d bs
  | _, _, _, 0, u, .cons (d := d) (as := as) r _, e => by
    cases e
    exact ⟨d, as, rfl, r⟩
  | _, _, _, i + 1, u, .cons _ t, e => by
    obtain ⟨d, bs, h1, h2⟩ := readsAll_ix (i := i) t e
    exact ⟨d, bs, h1, h2⟩
theorem cr_minD {X : Cx} (hc : X.calm = true) (hu : X.A.units + 64 < cLine) : CallRK X (.builtin "min") [Str.ofString "default"] (rMinD X.K) := by
  intro pins s σ H xs0 zs us ws Q I r rz h
  obtain ⟨a, xs, ds, rfl, rfl, ha, hd, hal, hdep, q0, q1⟩ := h
  obtain ⟨its, rv, hl, _⟩ := I.list (SqL.of ha)
  rw [Vals.ref1 r]
  obtain ⟨u, rfl, ru⟩ := vals1 rz
  cases ru
  obtain ⟨as, hr⟩ := Dp.readsAll I ds xs its hd rv
  show wpAny _ _ (call (.builtin "min") [.ref a] [(Str.ofString "default", Value.none)]) _ _ s
  refine PySem.W.min_list_default (I.ok.hd hc) hl.isList hr hal (by omega) (fun e h' tk hk => ⟨.non, H, I.kept hk, rfl, q0 e⟩) fun y ys i v h' tk bs e hv hrd hk => ?_
  have hv' : its[i]? = some v := by simpa using hv
  have hl2 := rv.length
  have hi : i < xs.length := by
    have := (List.getElem?_eq_some_iff.mp hv').1
    omega
  obtain ⟨u2, hu2, ru2⟩ := rv.get (List.getElem?_eq_getElem hi)
  rw [hv'] at hu2
  cases hu2
  obtain ⟨d2, bs2, hd2, hr2⟩ := readsAll_ix hr hv'
  have heq : d2 = minD y ys := ((PyProof.Rows.reads_det (h := s.heap) (h' := h') (fun b o e _ => hk b o e) hr2 hrd).1).symm
  exact ⟨xs[i], H, I.kept hk, ru2, q1 y ys i _ e (List.getElem?_eq_getElem hi) (by rw [hd2, heq])⟩
end RJ
end

section
set_option maxRecDepth 100000
namespace RJ
open PySem PySem.Spec PyProof.Rows L2
/-- the signs of a text, each a text -/
def signsV (x : Str) : List V := x.cps.toList.map fun c => V.str ⟨#[c]⟩
theorem call_list_text {X : Cx} (hc : X.calm = true) : CallR X (.type "list") (fun xs H Q => ∃ x : Str, xs = [.str x] ∧ x.cps.size ≤ sizeLine ∧ ∀ l, H l = none → Q (.ref l) (upd H l (.lst (signsV x)))) := by
  intro pins s σ H xs us Q I r h
  obtain ⟨x, rfl, hz, q⟩ := h
  obtain ⟨u, rfl, rx⟩ := vals1 r
  obtain ⟨t, rfl⟩ := rx
  refine PySem.call_list_str (I.ok.hd hc) x t (hn := hz) fun h' tk acc c' hk hS hacc => ?_
  have hv : Vals (signsV x) acc.toList := by
    have hl : (signsV x).length = acc.toList.length := by
      rw [signsV, List.length_map, Array.length_toList, Array.length_toList]; exact hacc.1.symm
    have key : ∀ j u, acc.toList[j]? = some u → ∃ v, (signsV x)[j]? = some v ∧ RelV v u := fun j u hu => by
      obtain ⟨c, t', hcx, rfl⟩ := hacc.2 j u (by rw [← Array.getElem?_toList]; exact hu)
      exact ⟨.str ⟨#[c]⟩, by rw [signsV, List.getElem?_map]; simp [hcx], ⟨t', rfl⟩⟩
    clear hacc hS hk
    revert hl key
    generalize signsV x = vs
    generalize acc.toList = ws
    intro hl key
    induction vs generalizing ws with
    | nil =>
      cases ws with
      | nil => exact .nil
      | cons _ _ => cases hl
    | cons v vs ih =>
      cases ws with
      | nil => cases hl
      | cons w ws =>
        obtain ⟨v', e, r⟩ := key 0 w rfl
        cases e
        exact .cons r (ih ws (Nat.succ.inj hl) fun j u hu => key (j + 1) u hu)
  refine ⟨.ref s.heap.objs.size, _, I.laid (t' := tk) hk (Nat.le_refl _) (show ObjOk X.prog X.w _ h' _ (.lst (signsV x)) from ⟨?_, acc.toList, c', hv, by simpa using hS⟩), rfl, q _ (I.hok.fresh (Nat.le_refl _))⟩
  rw [signsV, List.length_map, Array.length_toList]; exact hz
theorem op_mul_text {X : Cx} : OpR X (binaryOp .Mult) (fun x y H Q => ∃ (a : Str) (n : Int), x = .str a ∧ y = .int n ∧ MulOk a n ∧ Q (.str (Txt.mul a n)) H) := by
  intro pins s σ H x y v u Q I rx ry h
  obtain ⟨a, n, rfl, rfl, hok, q⟩ := h
  obtain ⟨t, rfl⟩ := rx
  obtain ⟨t2, rfl⟩ := ry
  exact PySem.SB.mul hok fun t' k => ⟨.str _, H, I.kept (t' := k) fun _ _ z => z, ⟨_, rfl⟩, q⟩
end RJ
end

section
set_option maxRecDepth 100000
namespace RJ
open PySem PySem.Spec PyProof.Rows L2
/-! ### rules that name the written part: within a comprehension it can't be found -/
section
variable {X : Cx} {K : PySem.W.Frag}
theorem ix_listK (h : X.K = K) : IxR X (rIxL K) := h ▸ ix_list
theorem ix_tupK (h : X.K = K) : IxR X (rIxT K) := h ▸ ix_tup
theorem sl_listK (h : X.K = K) : SlR X (rSlL K) := h ▸ sl_list
theorem sl_tupAK (h : X.K = K) : SlR X (rSlA K) := h ▸ sl_tupA
theorem call_len_seqK (h : X.K = K) : CallR X (.builtin "len") (fun xs H Q => ∃ p ys, xs = [V.ref p] ∧ (SqL K H p ys ∨ SqT K H p ys) ∧ Q (.int (ys.length : Int)) H) := by subst h; exact call_len_seq
theorem call_list_ofK (h : X.K = K) : CallR X (.type "list") (fun xs H Q => ∃ p ys, xs = [V.ref p] ∧ (SqL K H p ys ∨ SqT K H p ys) ∧ ∀ l, H l = none → Q (.ref l) (upd H l (.lst ys))) := by subst h; exact call_list_of
theorem op_in_seqK (h : X.K = K) : OpR X (compareOp .In) (rIn K false) := h ▸ op_in_seq
theorem op_notIn_seqK (h : X.K = K) : OpR X (compareOp .NotIn) (rIn K true) := h ▸ op_notIn_seq
theorem pe_fldK {e : Expr} {f : Str} {pos : Pos} {ta : TE} (h : X.K = K) (he : PE X e ta) (hb : attributeBase e f X.env (eval e X.env) = eval e X.env) : PE X (.Attribute e f pos) (tFld K ta f) := by subst h; exact pe_fld he hb
theorem pe_bmK {T id : String} {name : Str} {r : V → List V → Hp → VK → Prop} {o e : Expr} {es : List Expr} {apos cpos : Pos} {to : TE} {t : TA} (h : X.K = K) (pa : PlainAttrs T) (slot : Slot T name id) (hty : typeOf (.builtin id) = pure (.type "method_descriptor")) (hm : MtR X id r) (ho : PE X o to) (ha : PA X (e :: es) t)
    (hbase : attributeBase o name X.env (eval o X.env) = eval o X.env := by rfl)
    (hfew : ((backTo cpos (starEach (e :: es) X.env)).all (fun x => !x.1) && (backToKw cpos (keywordEach [] X.env)).all (fun x => x.1.isSome)
      && decide ((e :: es).length + ([] : List Keyword).length + (if ([] : List Keyword).isEmpty then 0 else 1) < 30)) = true := by rfl)
    (hline : (apos.endLine == cpos.line) = true := by rfl) (hs : starEach (e :: es) X.env = (false, eval e X.env) :: starEach es X.env := by rfl) (hplain : (backTo cpos (starEach es X.env)).any (·.1) = false := by rfl) :
    PE X (.Call (.Attribute o name apos) (e :: es) [] cpos) (tBM K T r to t) := by subst h; exact pe_bm pa slot hty hm ho ha hbase hfew hline hs hplain
end
end RJ
end

section
set_option maxRecDepth 100000
set_option maxHeartbeats 2000000
namespace RJ
open PySem PySem.Spec PyProof.Rows L2

/-- an error's own __init__, that calls the one above it by super() -/
structure SupF (P : Program) (K : PySem.W.Frag) (C : Addr) (qual : Str) (st : Stmt) (f : Addr) (fd : FuncData) : Prop where
  ex : ∃ (oc : Value) (od : Option Addr) (dV kV doc pm : Value) (an : Option Addr) (cda : Addr) (ct : Value) (osl : Array (Option Value)) (cc : Addr),
    fd = PySem.W.ksFn "__init__" qual (C8.fnArgs st) (C8.fnBody st) (C8.fnScope st) dV kV doc pm an (.ref cda) ct cc ∧ K.lookup f = some ⟨oc, od, .func fd, osl⟩ ∧ PySem.W.codeIn K (.ref cda) qual = true ∧
    (∃ (ccl : Value) (cdd : Option Addr) (vs : Array Value) (ccs : Array (Option Value)) (file : Str) (tf : Tok), K.lookup cda = some ⟨ccl, cdd, .fields vs, ccs⟩ ∧ vs[2]? = some (.str file tf) ∧ ((P.main.file : Str) == file) = true) ∧
    ∃ (cl : Value) (cld : Option Addr) (csl : Array (Option Value)), K.lookup cc = some ⟨cl, cld, .cell (some (.ref C)), csl⟩
  top : (P.main.scope.names.lookup ("super" : Str)).isSome = false
  sup : PySem.W.ks_superIn K C C "__init__" = some (some (.builtin "ValueError.__init__"))
  sub : PySem.W.subIn K (.ref C) (.type "ValueError") = some true
  mro : PySem.W.mroIn K C (.ref C) = some true
  opq : PySem.W.nsIn K PySem.cStatics "thirdparty.any" = some none
  oex : OexC K C

/-- a look at the names of such a def -/
def supB (N ps : List Str) (sc : Scope) : Bool :=
  decide (sc.kind = .function) && (!sc.isCoroutine && (!sc.isGenerator && (decide N.Nodup && (decide (N.take ps.length = ps) && (ps.all (fun x => decide (sc.names.lookup x = some .local)) && (sc.names.all (fun y => !decide (y.2 = .cell)) &&
    (sc.names.all (fun y => !decide (y.2 = .free) || decide (y.1 = "__class__")) && (decide (sc.names.lookup ("__class__" : Str) = some .free) && decide (sc.names.lookup ("super" : Str) = some .globalImplicit)))))))))
structure SupS (N ps : List Str) (sc : Scope) : Prop where
  kind : sc.kind = .function
  co : sc.isCoroutine = false
  gen : sc.isGenerator = false
  nd : N.Nodup
  pre : N.take ps.length = ps
  par : ∀ x ∈ ps, sc.names.lookup x = some .local
  nocell : ∀ y ∈ sc.names, y.2 ≠ .cell
  only : ∀ y ∈ sc.names, y.2 = .free → y.1 = "__class__"
  cls : sc.names.lookup ("__class__" : Str) = some .free
  sup : sc.names.lookup ("super" : Str) = some .globalImplicit
theorem supS_of {N ps : List Str} {sc : Scope} (h : supB N ps sc = true) : SupS N ps sc := by
  unfold supB at h
  simp only [Bool.and_eq_true, Bool.not_eq_true', decide_eq_true_eq, List.all_eq_true, Bool.or_eq_true, decide_eq_false_iff_not] at h
  obtain ⟨h1, h2, h3, h4, h5, h6, h7, h8, h9, h10⟩ := h
  exact ⟨h1, h2, h3, h4, h5, h6, h7, fun y hy e => (h8 y hy).elim (fun z => absurd e z) id, h9, h10⟩

theorem lookup_one {y : Str} {u : Value} : ∀ {l : List (Str × Value)}, (y, u) ∈ l → (∀ u', (y, u') ∈ l → u' = u) → l.lookup y = some u
  | [], h, _ => absurd h (by simp)
  | (a, b) :: l, h, hu => by
    by_cases e : y = a
    · subst e
      have := hu b (by simp)
      subst this
      simp [List.lookup]
    · have hb : (y == a) = false := by simpa using e
      have h' : (y, u) ∈ l := by
        rcases List.mem_cons.mp h with z | z
        · exact absurd (congrArg Prod.fst z) e
        · exact z
      show (match y == a with | true => some b | false => l.lookup y) = some u
      rw [hb]
      exact lookup_one h' fun u' z => hu u' (List.mem_cons_of_mem _ z)
theorem zip_lookup {ps : List Str} {us : List Value} {i : Nat} {y : Str} {u : Value} (nd : ps.Nodup) (h1 : ps[i]? = some y) (h2 : us[i]? = some u) : (ps.zip us).reverse.lookup y = some u := by
  refine lookup_one ?_ fun u' z => ?_
  · rw [List.mem_reverse]
    have : (ps.zip us)[i]? = some (y, u) := by rw [List.getElem?_zip_eq_some]; exact ⟨h1, h2⟩
    exact List.mem_of_getElem? this
  · rw [List.mem_reverse] at z
    obtain ⟨j, hj⟩ := List.mem_iff_getElem?.mp z
    rw [List.getElem?_zip_eq_some] at hj
    have e := nodup_ix nd h1 hj.1
    subst e
    exact Option.some.inj (hj.2.symm.trans h2)

/-- the body's context -/
def cxS (P : Program) (w : World) (K : PySem.W.Frag) (mg : Str → Option Value) (base : Heap) (N : List Str) (qual : Str) (sc : Scope) (f cda cc : Addr) (A : Around) (outer : List Env) (s : Shared) (H : Hp) : Cx where
  prog := P
  w := w
  K := K
  mg := mg
  base := base
  A := A.deeper (PySem.W.ksEnv qual sc s.heap.objs.size f (.ref cda) cc)
  N := N
  s_0 := s
  H_0 := H
  env := PySem.W.ksEnv qual sc s.heap.objs.size f (.ref cda) cc
  outer := outer
  stack := PySem.W.ksEnv qual sc s.heap.objs.size f (.ref cda) cc :: outer
  ex := []
  calm := true
  fn := fun _ => false
  pn := []
  xe := fun _ _ => False

section
variable {P : Program} {w : World} {K : PySem.W.Frag} {mg : Str → Option Value} {base : Heap} {N ps : List Str} {qual : Str} {sc : Scope} {f cda cc : Addr} {A : Around} {outer : List Env} {s : Shared} {H : Hp} {us : List Value} {vs : List V}
theorem inv_startS {cv : Value} (S : SupS N ps sc) (hd : A.handled = none) (e0 : Env0 P w K mg base A outer s H) (hl : vs.length = ps.length) (r : Vals vs us) {h1 : Heap} {tk : Nat}
    (hns : h1.Ns s.heap.objs.size fun x => (ps.zip us).reverse.lookup x) (hk : ∀ b o, s.heap.get? b = some o → h1.get? b = some o) (hcc : base.IsCell cc (some cv)) :
    Inv (cxS P w K mg base N qual sc f cda cc A outer s H) [] (L2.start N vs) H { s with heap := h1, toks := tk } := by
  have hpl : ps.length ≤ N.length := by have := congrArg List.length S.pre; rw [List.length_take] at this; omega
  have noA : ∀ b : Addr, b ∉ (cxS P w K mg base N qual sc f cda cc A outer s H).ex := fun b z => absurd (show b ∈ ([] : List Addr) from z) (by simp)
  obtain ⟨oc, hoc, hdc⟩ := hcc
  have cl : ∀ (y : Str) (c : Addr), (cxS P w K mg base N qual sc f cda cc A outer s H).env.cells.lookup y = some c → c = cc ∧ y = "__class__" := fun y c h => by
    have h' : ([("__class__", cc)] : List (Str × Addr)).lookup y = some c := h
    by_cases e : y = "__class__"
    · subst e; exact ⟨(Option.some.inj h').symm, rfl⟩
    · have hb : (y == ("__class__" : Str)) = false := by simpa using e
      have : (match y == ("__class__" : Str) with | true => some cc | false => none) = some c := h'
      rw [hb] at this; cases this
  refine ⟨⟨e0.mod, S.kind, rfl, rfl, Nat.le_refl _, fun y z c p q => (cl y c p).2.trans (cl z c q).2.symm, fun y hy => ?_, fun y c z _ => Bool.noConfusion (show false = true from z), fun _ => hd, Around.frames_deeper e0.frames, .inr ⟨rfl, rfl⟩,
    fun b z => absurd z (noA b), e0.bs, e0.bsz, fun b _ _ => noA b, fun b z => absurd z (noA b), e0.funs, e0.frf⟩, rfl, e0.bare, Un.kept hk, ⟨_, hns, fun i y v p q z => ?_⟩, fun y c p => ?_, e0.hok.fresh (Nat.le_refl _), fun y c p => ?_,
    fun p hp => absurd (show p ∈ ([] : List (Addr × Obj)) from hp) (by simp), e0.hok.kept hk, ?_⟩
  · have hy : sc.names.lookup y = some .cell ∨ sc.names.lookup y = some .free := hy
    rcases hy with hy | hy
    · exact absurd rfl (S.nocell _ (PySem.mem_of_lookup hy))
    · have := S.only _ (PySem.mem_of_lookup hy) rfl
      subst this
      exact ⟨cc, rfl⟩
  · have hi : i < vs.length := by
      unfold L2.start at q
      by_cases hi : i < vs.length
      · exact hi
      · rw [List.getElem?_append_right (by simpa using hi), List.getElem?_replicate] at q
        split at q <;> cases q
    have ha : vs[i]? = some v := by
      unfold L2.start at q
      rw [List.getElem?_append_left (by simpa using hi), List.getElem?_map] at q
      cases e : vs[i]? with
      | none => rw [e] at q; cases q
      | some a => rw [e] at q; cases q; rfl
    obtain ⟨u, hu, rv⟩ := r.get ha
    have hp : ps[i]? = some y := by rw [← S.pre, List.getElem?_take_of_lt (by omega)]; exact p
    exact ⟨u, rv, .inl ⟨S.par y (List.mem_of_getElem? hp), zip_lookup (by rw [← S.pre]; exact S.nd.sublist (List.take_sublist _ _)) hp hu⟩⟩
  · obtain ⟨rfl, _⟩ := cl y c p
    exact ⟨some cv, oc, hk _ _ (e0.bs _ _ hoc).1, hdc⟩
  · obtain ⟨rfl, _⟩ := cl y c p
    exact (e0.bs _ _ hoc).2
  · unfold L2.start
    show _ = N.length
    rw [List.length_append, List.length_map, List.length_replicate]
    omega
end

section
variable {X : Cx} {pins : List (Addr × Obj)} {σ : L2.St} {H : Hp} {s : Shared} {a C u : Addr} {us : List Value} {Q : Value → Shared → Prop} {E : Value → Shared → Prop} {A : Around}
/-- the bound __init__ of ValueError called: what it lays down is not told -/
theorem call_mw (T : OexC X.K C) (I : Inv X pins σ H s) (e : H a = some (exo a C none)) (hu : s.heap.get? u = some (PySem.W.kxs_mw "ValueError.__init__" a)) (hl : us.length ≤ sizeLine) (h : ∀ s', Inv X pins σ H s' → Q .none s') :
    wpAny (model X.prog X.w) A (call (.ref u) us) Q E s := by
  obtain ⟨nm, q, N, bs, bm, sn, sub, ab, col, dd, k0, k1, k2, k3, k5, hC, hbm⟩ := T.cls
  obtain ⟨t1, ho⟩ := exo_at I.hok e
  have hCs := I.kIn _ _ hC
  obtain ⟨hp, g, d, t, os⟩ := s
  refine wpAny_call (codeAny_of_tree ?_)
  show wpAny _ A.in1 (callAny (.ref u) _) _ _ _
  unfold callAny
  refine wpAny_bind (wpAny_load hu ?_)
  simp only [PySem.W.kxs_mw, (by decide : (Value.type "method-wrapper" == Value.type "method" || Value.type "method-wrapper" == Value.type "builtin_function_or_method" || Value.type "method-wrapper" == Value.type "method-wrapper") = true), if_true]
  refine PySem.W.KFB.if_so (by decide) (wpAny_bind (PySem.W.check_bound_init F.excBase_ValueError.toExcCallFacts hCs ho rfl (wpAny_bind (wpAny_pure (wpAny_pure ⟨plainId_quiet F.excBase_ValueError.init.plain _, codeAny_builtin F.excBase_ValueError.initEntry ?_⟩)))))
  refine PySem.W.exc_init_tree (cls := .ref C) (t0 := t1) (dv := none) (c2 := .none) (c3 := .none) (b4 := .bool false) ho hl fun h' k hx _ => ?_
  have J := I.write (t' := t) (x := a) (e := a) (o := exo a C none) (by rw [e]; exact True.intro) (.inl rfl) k ⟨_, hx⟩ (exo_ok hx)
  have eu : upd H a (exo a C none) = H := funext fun b => by
    by_cases hb : b = a
    · subst hb; rw [upd_same, e]
    · rw [upd_ne hb]
  rw [eu] at J
  exact h _ J
end

section
variable {X : Cx} {σ : L2.St} {H : Hp} {s : Shared} {a C f cda cc : Addr} {qual : Str} {st : Stmt} {fd : FuncData} {e : Expr} {ta : TA} {p0 p1 p2 p3 p4 : Pos} {ar : Arg} {body : List Stmt} {pl : Sem Bool}
/-- super().__init__(e), where C is the class around the def and the object's own -/
theorem super_expr (F : SupF X.prog X.K C qual st f fd) (hm : X.mg "super" = none) (hc1 : X.env.kindOf "super" = some .globalImplicit) (hc2 : X.env.kindOf "__class__" = some .free) (hc3 : X.env.kindOf ar.arg = some .local) (hfu : X.env.func = some f)
    (hcl : ∀ cc', (∃ cl cld csl, X.K.lookup cc' = some ⟨cl, cld, .cell (some (.ref C)), csl⟩) → cc' = cc → X.env.cells.lookup ("__class__" : Str) = some cc') (hcc : ∃ (cl : Value) (cld : Option Addr) (csl : Array (Option Value)), X.K.lookup cc = some ⟨cl, cld, .cell (some (.ref C)), csl⟩) (hco : X.env.code = .ref cda)
    (hcd : ∃ (ccl : Value) (cdd : Option Addr) (vs : Array Value) (ccs : Array (Option Value)) (file : Str) (tf : Tok), X.K.lookup cda = some ⟨ccl, cdd, .fields vs, ccs⟩ ∧ vs[2]? = some (.str file tf) ∧ ((X.prog.main.file : Str) == file) = true)
    (hp : (fd.params.posonlyargs ++ fd.params.args).head? = some ar) (hi : interactive X.env = false) (hs : swapsWith (.Call (.Attribute (.Call (.Name "super" p0) [] [] p1) "__init__" p2) [e] [] p3) none p4.line X.env = pure false)
    (hev : eval (.Call (.Attribute (.Call (.Name "super" p0) [] [] p1) "__init__" p2) [e] [] p3) X.env = (do
      let ov ← attributeBase (.Call (.Name "super" p0) [] [] p1) "__init__" X.env (eval (.Call (.Name "super" p0) [] [] p1) X.env)
      standAt p2.atName
      let (g, first) ← holding [ov] (getMethod ov "__init__" pl)
      callWith p3 g first (backTo p3 (starEach [e] X.env)) []))
    (hst : starEach [e] X.env = (false, eval e X.env) :: starEach [] X.env) (hN : X.N[0]? = some ar.arg) (hσ : σ[0]? = some (some (.ref a))) (I : Inv X [] σ H s) (ea : H a = some (exo a C none)) (hta : PA X [e] ta) (q : ta σ H fun xs H1 => H1 = H ∧ xs.length ≤ 1000) :
    _root_.PySem.wpAt (model X.prog X.w) X.A (.func body X.env) (exec (.Expr (.Call (.Attribute (.Call (.Name "super" p0) [] [] p1) "__init__" p2) [e] [] p3) p4) X.env) (fun fl s' => fl = .next ∧ Inv X [] σ H s') X.xe s := by
  obtain ⟨oc, od, dV, kV, doc, pm, an, cda', ct, osl, cc', hfd, lk, -⟩ := F.ex
  obtain ⟨ccl, cdd, vc, ccs, file, tf, hcode, hvc, hfile⟩ := hcd
  obtain ⟨cl, cld, csl, hcell⟩ := hcc
  obtain ⟨mb, hb1, hb2⟩ := I.mod.blt
  obtain ⟨m, hns, hlk⟩ := id I.loc
  obtain ⟨u, ru, hu⟩ := hlk 0 ar.arg (.ref a) hN hσ (.inl hc3)
  obtain rfl : u = Value.ref a := ru
  have hma : m ar.arg = some (.ref a) := by
    rcases hu with ⟨_, z⟩ | ⟨z, _⟩
    · exact z
    · rcases z with z | z <;> (rw [hc3] at z; cases z)
  obtain ⟨nm, qn, N0, bs, bm, sn, sub, ab, col, dd, k0, k1, k2, k3, k5, hC, hbm⟩ := F.oex.cls
  obtain ⟨t1, ho⟩ := exo_at I.hok ea
  have KX := I.kIn
  have hCs := KX _ _ hC
  have hsc : ∃ cd, PySem.W.clsIn X.K C = some cd := by unfold PySem.W.clsIn; rw [hC]; exact ⟨_, rfl⟩
  obtain ⟨cdC, hcdC⟩ := hsc
  have hal : PySem.W.alongIn X.K "__init__" ((cdC.mro.dropWhile (· != .ref C)).drop 1) = some (some (.builtin "ValueError.__init__")) := by
    have z := F.sup
    unfold PySem.W.ks_superIn at z
    rw [hcdC] at z
    exact z
  have hxC : a ≠ C := fun z => by
    rw [z, hCs] at ho
    cases ho
  refine ks_wpAt_Expr_any (ks_wpAt_MethodCall (pl := pl) (ks_wpAt_super_base (of := ⟨oc, od, .func fd, osl⟩) hc1 hc2 (by decide) hfu (KX _ _ lk) rfl hp hco (KX _ _ hcode) rfl hvc hfile F.top ?_) hev) hi hs
  · refine PySem.W.ks_loadName_global I.ok.kind hc1 (Calls.loadGlobal_builtin (by rw [I.ok.glob]; exact I.mod.glob.keeps I.bk) hm (by rw [I.ok.blt]; exact hb1.keeps I.bk) ((hb2 "super" (by decide)).trans (by decide +kernel : bootBuiltins "super" = some (.type "super"))) ⟨rfl, ?_⟩)
    refine wpAny_loadName_free I.ok.kind hc2 (hcl cc ⟨_, _, _, hcell⟩ rfl) ⟨_, KX _ _ hcell, rfl⟩ (wpAny_loadName_local I.ok.kind hc3 hns hma (ks_wpAny_isType_cls hCs rfl ⟨rfl, ?_⟩))
    obtain ⟨hp, g, d, t, os⟩ := s
    refine ks_wpAny_call_super hCs rfl ho rfl (fun c z => by cases z) (PySem.W.looks_mroIn KX F.mro) fun h' e1 k => ?_
    have I1 : Inv X [] σ H ⟨h', g, d, t, os⟩ := I.kept (t' := t) k
    have I2 : W.InstAt h' a { cls := .ref C, dict := none, data := .fields #[.ref t1, .none, .none, .none, .bool false, .none] } C none := ⟨k _ _ ho, rfl, rfl, trivial⟩
    have hmr : W.Looks (model X.prog X.w) h' (mroOf (.ref C)) cdC.mro := (W.looks_clsIn I1.kIn hcdC).andThen .now
    refine PySem.W.kxs_getMethod PySem.W.kxs_ValueError e1 (PySem.W.looks_opaque I1.kIn F.opq) hmr rfl I1.kIn hal (I2.type.andThen (PySem.W.looks_subIn I1.kIn F.sub)) hxC (by decide) ?_
    have I3 : Inv X [] σ H ⟨h'.push (PySem.W.kxs_mw "ValueError.__init__" a), g, d, t + 1, os⟩ := I1.kept (t' := t + 1) fun b o z => Heap.get?_push_of_some _ z
    have hu3 : (h'.push (PySem.W.kxs_mw "ValueError.__init__" a)).get? h'.objs.size = some (PySem.W.kxs_mw "ValueError.__init__" a) := Heap.get?_push_at rfl rfl
    have I4 : Inv X [(h'.objs.size, PySem.W.kxs_mw "ValueError.__init__" a)] σ H ⟨h'.push (PySem.W.kxs_mw "ValueError.__init__" a), g, d, t + 1, os⟩ := I3.pins_of fun p hp => by
      obtain rfl : p = (h'.objs.size, PySem.W.kxs_mw "ValueError.__init__" a) := by simpa using hp
      exact ⟨hu3, I1.hok.fresh (Nat.le_refl _), Nat.ne_of_gt I1.lt, I1.nofs (Nat.le_refl _), fun v z => by cases z⟩
    show wpAny _ _ (callWith p3 (.ref h'.objs.size) [] (backTo p3 (starEach [e] X.env)) []) _ _ _
    have hrun := hta.run p3 [(h'.objs.size, PySem.W.kxs_mw "ValueError.__init__" a)] _ σ H _ I4 q
    rw [hst] at hrun ⊢
    refine PySem.W.kxs_callWith (i := "ValueError.__init__") (x := a) rfl (Calls.evalArgs_plain (thn hrun fun us s1 hh => ?_))
    obtain ⟨vs, H1, I5, r5, e5, hl5⟩ := hh
    subst e5
    have hlu : us.length ≤ sizeLine := by
      rw [← Paired.length r5, sizeLine_eq]
      omega
    refine ⟨(I5.pin (h'.objs.size, PySem.W.kxs_mw "ValueError.__init__" a) (List.mem_append_right _ List.mem_cons_self)).1, ?_⟩
    exact call_mw F.oex I5 ea (I5.pin (h'.objs.size, PySem.W.kxs_mw "ValueError.__init__" a) (List.mem_append_right _ List.mem_cons_self)).1 hlu fun s' J => ⟨rfl, J.pins_of fun p hp => absurd hp (by simp)⟩
end

section
variable {P : Program} {w : World} {K : PySem.W.Frag} {mg : Str → Option Value} {base : Heap}
/-- the def by its body: super().__init__(e), then the fields -/
theorem fn_super {C : Addr} {qual : Str} {st : Stmt} {f : Addr} {fd : FuncData} {N ps : List Str} {k : Nat} {sp : Sp} {e : Expr} {rest : List Stmt} {p0 p1 p2 p3 p4 : Pos} {ar : Arg} {p' : List Str} (F : SupF P K C qual st f fd) (hm : mg "super" = none)
    (S : SupS N ps (C8.fnScope st)) (hb : C8.fnBody st = .Expr (.Call (.Attribute (.Call (.Name "super" p0) [] [] p1) "__init__" p2) [e] [] p3) p4 :: rest) (hp : ((C8.fnArgs st).posonlyargs ++ (C8.fnArgs st).args).head? = some ar) (hps : ps = ar.arg :: p')
    (len : ∀ vs H Q E, sp vs H Q E → vs.length = ps.length) (self0 : ∀ vs H Q E, sp vs H Q E → ∃ a vs', vs = .ref a :: vs' ∧ H a = some (exo a C none))
    {pl : Env → Sem Bool} (hev : ∀ env : Env, eval (.Call (.Attribute (.Call (.Name "super" p0) [] [] p1) "__init__" p2) [e] [] p3) env = (do
      let ov ← attributeBase (.Call (.Name "super" p0) [] [] p1) "__init__" env (eval (.Call (.Name "super" p0) [] [] p1) env)
      standAt p2.atName
      let (g, first) ← holding [ov] (getMethod ov "__init__" (pl env))
      callWith p3 g first (backTo p3 (starEach [e] env)) []))
    (he : ∀ env : Env, starEach [e] env = (false, eval e env) :: starEach [] env) (hs : ∀ (env : Env) o, swapsWith (.Call (.Attribute (.Call (.Name "super" p0) [] [] p1) "__init__" p2) [e] [] p3) none o env = pure false)
    (hbody : ∀ (cda cc : Addr) (A : Around) (outer : List Env) (s : Shared) (H : Hp) (vs : List V) (Q : VK) (E : XK), Room k (A.deeper (PySem.W.ksEnv qual (C8.fnScope st) s.heap.objs.size f (.ref cda) cc)) → sp vs H Q E →
      ∃ ta t, PA (cxS P w K mg base N qual (C8.fnScope st) f cda cc A outer s H) [e] ta ∧ PSs (cxS P w K mg base N qual (C8.fnScope st) f cda cc A outer s H) rest t ∧
        (ta (L2.start N vs) H fun xs H1 => H1 = H ∧ xs.length ≤ 1000) ∧ t { nx := fun _ H' => Q .non H', rt := Q } (L2.start N vs) H) : FnOk P w K mg base C8.CX0 (k + 1) f fd ps sp := by
  refine ⟨len, fun A outer s H args us vs Q E hr e0 hbd r hsp => ?_⟩
  have hl := len _ _ _ _ hsp
  obtain ⟨a, vs', rfl, ea⟩ := self0 _ _ _ _ hsp
  obtain ⟨oc, od, dV, kV, doc, pm, an, cda, ct, osl, cc, rfl, lk, hcd, ⟨ccl, cdd, vc, ccs, file, tf, hcode, hvc, hfile⟩, cl, cld, csl, hcell⟩ := F.ex
  have KX : K.In s.heap := e0.mod.kin.keeps fun b o e => (e0.bs b o e).1
  have lim : s.heap.NoLimit := e0.mod.nolimit.keeps fun b o e => (e0.bs b o e).1
  refine PySem.ks_codeAny_call_defAt (body := C8.fnBody st) hr.depth (KX _ _ lk) rfl lim (PySem.W.codeRec_of KX hcd) rfl hbd S.nocell (fun y hy => S.par _ (List.of_mem_zip (a := y.1) (b := y.2) hy).1) (fun h1 hns hk => ?_) S.co S.gen S.kind
  have I : Inv (cxS P w K mg base N qual (C8.fnScope st) f cda cc A outer s H) [] (L2.start N (.ref a :: vs')) H { s with heap := h1, toks := s.toks + (ps.zip us).length } := inv_startS (cv := .ref C) S hr.hd e0 hl r hns hk ⟨_, e0.mod.kin _ _ hcell, rfl⟩
  obtain ⟨ta, t, hta, ht, hq, hq2⟩ := hbody cda cc A outer s H _ Q E (hr.deeper _) hsp
  rw [hb]
  have hN0 : N[0]? = some ar.arg := by
    have : (N.take ps.length)[0]? = some ar.arg := by rw [S.pre, hps]; rfl
    rwa [List.getElem?_take_of_lt (by rw [hps]; simp)] at this
  refine ks_wpAt_execs_cons (ks_wpAt_mono (super_expr (X := cxS P w K mg base N qual (C8.fnScope st) f cda cc A outer s H) (cc := cc) (cda := cda) (ar := ar) F hm S.sup S.cls (S.par _ (by rw [hps]; simp)) rfl (fun cc' _ z => by rw [z]; rfl) ⟨cl, cld, csl, hcell⟩ rfl ⟨ccl, cdd, vc, ccs, file, tf, hcode, hvc, hfile⟩ hp (by show (decide _ && _) = false; first | rfl | simp [cxS, S.kind]) (hs _ _) (hev _) (he _) hN0 rfl I ea hta hq) (fun fl s' hh => ?_) fun _ _ z => z.elim)
  obtain ⟨rfl, J⟩ := hh
  refine wpAt_of_wpAny (wpAny_mono (ht.run [] s' (L2.start N (.ref a :: vs')) H _ J hq2) (fun fl s2 h2 => ?_) fun _ _ z => z.elim)
  have fin : ∀ {σ' : L2.St} {H' : Hp} {v : V} {u : Value}, L2.Inv (cxS P w K mg base N qual (C8.fnScope st) f cda cc A outer s H) [] σ' H' s2 → L2.RelV v u → Q v H' → CE outer P w H s Q u s2 := fun {σ' H' v u} J rv q => ⟨v, H', J.os, J.bare, J.base, J.hok, rv, q⟩
  cases fl with
  | next =>
    obtain ⟨_, _, J2, q2⟩ := h2
    exact fin (v := V.non) J2 rfl q2
  | ret u =>
    obtain ⟨_, _, _, J2, rv, q2⟩ := h2
    exact fin J2 rv q2
  | brk => exact h2.elim fun _ z => z.elim fun _ y => y.2.elim
  | cont => exact h2.elim fun _ z => z.elim fun _ y => y.2.elim
end
end RJ
end

section
set_option maxRecDepth 100000
set_option maxHeartbeats 2000000
namespace RJ
open PySem PySem.Spec PyProof.Rows L2

/-! ### defs that may raise -/
/-- what lets errors out -/
abbrev CXN (P : Program) (w : World) : CXT := L2N.CX P w
structure CalX (P : Program) (w : World) (K : PySem.W.Frag) (mg : Str → Option Value) (base : Heap) (k : Nat) (x : Str) (sp : Sp) : Prop where
  ex : ∃ (f : Addr) (fd : FuncData) (ps : List Str), FnOk P w K mg base (CXN P w) k f fd ps sp ∧ mg x = some (.ref f) ∧ PySem.W.keepIn K (.ref f) = true ∧ Binds K fd ps []
structure MetX (P : Program) (w : World) (K : PySem.W.Frag) (mg : Str → Option Value) (base : Heap) (k : Nat) (C : Addr) (m : Str) (sp : Sp) : Prop where
  ex : ∃ (f : Addr) (fd : FuncData) (ps : List Str), Cls K C ∧ Meth K C m f ∧ FnOk P w K mg base (CXN P w) k f fd ps sp ∧ Binds K fd ps []
section
variable {P : Program} {w : World} {K : PySem.W.Frag} {mg : Str → Option Value} {base : Heap}
theorem fnX {x qual : Str} {st : Stmt} {f : Addr} {fd : FuncData} {N ps : List Str} {k : Nat} {sp : Sp} (F : C8.Fun K x qual st f fd) (S : FnScope N ps (C8.fnScope st)) (len : ∀ vs H Q E, sp vs H Q E → vs.length = ps.length)
    (hb : ∀ (cdv : Value) (A : Around) (outer : List Env) (s : Shared) (H : Hp) (vs : List V) (Q : VK) (E : XK), Room k (A.deeper (envOfC qual (C8.fnScope st) s.heap.objs.size f cdv)) → sp vs H Q E →
      L2N.Takes (cxOf (CXN P w) P w K mg base N qual (C8.fnScope st) f cdv A outer s H E) (fun cls d _ H' => E cls d H') →
      ∃ t, PSs (cxOf (CXN P w) P w K mg base N qual (C8.fnScope st) f cdv A outer s H E) (C8.fnBody st) t ∧ t { nx := fun _ H' => Q .non H', rt := Q } (start N vs) H) : FnOk P w K mg base (CXN P w) (k + 1) f fd ps sp := by
  obtain ⟨oc, od, dV, kV, doc, pm, an, cdv, ct, osl, rfl, lk, hcd⟩ := F.ex
  exact fn_of lk hcd S len fun A outer s H vs Q E hr hsp => hb cdv A outer s H vs Q E hr hsp (L2N.takes_of rfl rfl rfl rfl)
end
section
variable {X : Cx} {k j : Nat} {C : Addr} {x m : Str} {sp : Sp} {p pos apos : Pos} {e o : Expr} {es : List Expr} {ta : TE} {t : TA} {W : WX}
theorem pe_cx (c : CalX X.prog X.w X.K X.mg X.base k x sp) (hr : Room j X.A) (hk : k ≤ j) (tk : L2N.Takes X W) (hg : Gl X x) (ha : PA X (e :: es) t)
    (hdb : (x == ("__debug__" : Str)) = false := by decide) (he : starEach (e :: es) X.env = (false, eval e X.env) :: starEach es X.env := by rfl) (hpl : (backTo pos (starEach es X.env)).any (·.1) = false := by rfl) :
    PE X (.Call (.Name x p) (e :: es) [] pos) (tCallS sp (WE W) t) := by
  obtain ⟨f, fd, ps, F, hm, kp, b⟩ := c.ex
  exact pe_callS F (hr.mono hk) hg hm kp b (L2N.passAt tk) ha hdb he hpl
/-- an error's class, whose __init__ keeps sp -/
structure ErrC (P : Program) (w : World) (K : PySem.W.Frag) (mg : Str → Option Value) (base : Heap) (x : Str) (C : Addr) (sp : Sp) : Prop where
  oex : OexC K C
  mgc : mg x = some (.ref C)
  ini : ∃ (f : Addr) (fd : FuncData) (ps : List Str), PySem.W.findIn K (.ref C) "__init__" = some (some (.ref f)) ∧ PySem.W.typeIn K (.ref f) = some (.type "function") ∧ FnOk P w K mg base C8.CX0 1 f fd ps sp ∧ Binds K fd ps []
/-- C(e, ..), an error over ValueError -/
theorem pmk_err {e : Expr} {es : List Expr} {ta : TA} (T : ErrC X.prog X.w X.K X.mg X.base x C sp) (hr : Room j X.A) (hj : 2 ≤ j) (hg : Gl X x) (ha : PA X (e :: es) ta)
    (hdb : (x == ("__debug__" : Str)) = false := by decide) (he : starEach (e :: es) X.env = (false, eval e X.env) :: starEach es X.env := by rfl) (hpl : (backTo pos (starEach es X.env)).any (·.1) = false := by rfl) :
    L2N.PMk X (.Call (.Name x p) (e :: es) [] pos) (tMkO C sp [] ta) := by
  intro pins s σ H Q I h
  obtain ⟨fI, fd, ps, iC, tI, F1, hb⟩ := T.ini
  obtain ⟨nm, q, N, bs, bm, sn, sub, ab, col, dd, k0, k1, k2, k3, k5, hC, hbm⟩ := T.oex.cls
  refine wpAny_Call_Name_kw (ld_glob I hg T.mgc (PySem.W.callWith_K (h₀ := X.base) I.ok.mod.kin T.oex.kC (thn (ha.run pos pins s σ H _ I h) fun us s1 hh => ?_) he hpl) hdb)
  obtain ⟨vs, H1, I1, r1, hz, q1⟩ := hh
  refine ⟨I1.kIn, (show wpAny _ _ (call (.ref C) us) _ _ _ from ?_)⟩
  obtain ⟨hp, g, dr, tk, os⟩ := s1
  have hsz : hp.objs.size ≤ hp.objs.size + 1 := by omega
  have hq := q1 _ (I1.hok.fresh hsz)
  have kk : ∀ b o, hp.get? b = some o → ((hp.push (PySem.W.kdv_tup us)).push (PySem.HandSPX.excO C hp.objs.size)).get? b = some o := fun b o z => Heap.get?_push_of_some _ (Heap.get?_push_of_some _ z)
  have hnew : ((hp.push (PySem.W.kdv_tup us)).push (PySem.HandSPX.excO C hp.objs.size)).get? (hp.objs.size + 1) = some (PySem.HandSPX.excO C hp.objs.size) := by heap_get
  have I2 : Inv X pins σ (upd H1 (hp.objs.size + 1) (exo (hp.objs.size + 1) C none)) ⟨_, g, dr, tk, os⟩ := I1.laid (t' := tk) (a := hp.objs.size + 1) (o := exo (hp.objs.size + 1) C none) (h' := (hp.push (PySem.W.kdv_tup us)).push (PySem.HandSPX.excO C hp.objs.size)) kk hsz (exo_ok hnew)
  have r2 : Vals (V.ref (hp.objs.size + 1) :: (vs ++ [])) (Value.ref (hp.objs.size + 1) :: us) := by rw [List.append_nil]; exact .cons rfl r1
  have hl : (Value.ref (hp.objs.size + 1) :: us).length = ps.length := by rw [← r2.length]; exact F1.len _ _ _ _ hq
  have hbb := hb _ (Value.ref (hp.objs.size + 1) :: us) I2.kIn (by rw [List.append_nil]; exact hl)
  rw [List.append_nil] at hbb
  have hus : us.length ≤ sizeLine := by rw [← Paired.length r1, sizeLine_eq]; omega
  have hr2 : Room (1 + 1) X.A := hr.mono hj
  refine wpAny_call (PySem.HandSPX.call_own F.excBase_ValueError (fun Y => PySem.HandSPX.refsVE_contains Y bm hbm) (I1.kIn _ _ hC) (PySem.W.looks_findIn I1.kIn iC) (fun self => PySem.W.bind_fn I1.kIn self tI) hus
    (codeAny_mono (F1.run _ X.stack _ _ ⟨Value.ref (hp.objs.size + 1) :: us, []⟩ (Value.ref (hp.objs.size + 1) :: us) _ _ (fun _ _ _ => False) (hr2.make C us []) (I2.env0.make C us []) hbb r2 hq) fun r s' hq' => ?_))
  cases r with
  | error er => exact hq'.elim
  | ok fl =>
    cases fl with
    | next => exact hq'.elim
    | brk => exact hq'.elim
    | cont => exact hq'.elim
    | ret u =>
      obtain ⟨v, H2, os2, bare2, un2, hok2, rv, ev, d, fs, ea, ed, hd1, q2⟩ := hq'
      subst ev
      obtain ⟨h2, g2, d2, t2, os'⟩ := s'
      obtain ⟨t0, G, J, kG, ge, hoe, na⟩ := mk_end0 (d2 := d2) (t2 := t2) I1 hsz kk un2 hok2 os2 bare2 ea ed hd1
      exact ⟨rv, _, _, _, ⟨G, g2, d2, t2, os'⟩, _, .ref C, some d, rfl, J, kG, ge, hoe, ⟨rfl, rfl, fun vs' z => by cases z; rfl⟩, rfl, rfl, na, rfl, bare2, raises_own T.oex.exC T.oex.tyC, q2⟩
theorem takes0 : L2N.Takes X (fun _ _ _ _ => False) := fun u s' ⟨_, _, _, _, _, _, _, _, _, _, _, _, _, _, _, _, z⟩ => z.elim
end

/-! ### isinstance of the caught error, its fields -/
/-- what an error's class must say -/
structure ErrI (K : PySem.W.Frag) (D : Addr) : Prop where
  cl : (PySem.W.clsIn K D).isSome = true
  hg : PySem.W.findIn K (.ref D) "__getattribute__" = some (some (.builtin "BaseException.__getattribute__"))
  hk : PySem.W.findIn K (.ref D) "__getattr__" = some none
  hs : PySem.W.subIn K (.ref D) (.type "BaseException") = some true
  ha : PySem.W.findIn K (.ref D) "__class__" = some (some (.builtin "object.__class__"))
  hn : PySem.W.specialIn K (.builtin "object.__class__") "__get__" = some (some (.builtin "getset_descriptor.__get__"))
  ht : PySem.W.takesIn K (.builtin "object.__class__") = some true
  hm : PySem.W.mroIn K D (.type "object") = some true
  hd : PySem.W.hasDictIn K D = true
theorem ErrI.xf {K : PySem.W.Frag} {D : Addr} (h : ErrI K D) : XfC K D := ⟨h.hg, h.hk, h.hs, h.hd⟩
def rIsD (K : PySem.W.Frag) (a : Addr) (cls : Value) (d : Option Addr) : List V → Hp → VK → Prop := fun xs H Q => ∃ (D dd : Addr) (fs : List (Str × V)) (c : V) (cv : Value) (b : Bool), cls = .ref D ∧ d = some dd ∧ ErrI K D ∧ H dd = some (.xd fs) ∧ xs = [.ref a, c] ∧ (∀ u, RelV c u → u = cv) ∧ PySem.W.kitOne K (.ref D) cv = some b ∧ Q (.bl b) H
theorem call_isD {X : Cx} {a : Addr} {oe : Obj} {cls : Value} {d : Option Addr} {pn : List (Addr × Obj)} (hz : Zc cls d oe) (hf : ∃ vs, oe.data = .fields vs) : CallR (X.suite a ((a, oe) :: pn)) (.builtin "isinstance") (rIsD X.K a cls d) := by
  intro pins s σ H xs us Q I r h
  obtain ⟨D, dd, fs, c, cv, b, rfl, rfl, T, ed, rfl, hcv, e, q⟩ := h
  cases r with
  | cons rx rr =>
    cases rr with
    | cons rt rr =>
      cases rr
      cases rx
      have ec := hcv _ rt
      subst ec
      obtain ⟨hget, _⟩ := I.pin (a, oe) (List.mem_append.mpr (.inl List.mem_cons_self))
      obtain ⟨vs, hv⟩ := hf
      have hx : ObjOk X.prog X.w H s.heap dd (.xd fs) := I.hok dd _ ed
      obtain ⟨mA, hns, _⟩ := hx
      obtain ⟨od, ho, _⟩ := lookIn_ns hns
      have J : PySem.W.InstAt s.heap a oe D (some od) := ⟨hget, hz.1, by unfold PySem.W.notCls; rw [hv] <;> rfl, by rw [hz.2]; exact ho⟩
      exact PySem.W.kia_one (PySem.W.kitx_exc T.cl T.hg T.hk T.hs T.ha T.hn T.ht T.hm) I.kIn J e (fun z => nomatch z) fun tk => ⟨.bl b, H, I.kept (t' := tk) fun _ _ z => z, rfl, q⟩
/-- .. both for a class of the program and a built-in one -/
theorem rel_ref {a : Addr} : ∀ u, RelV (.ref a) u → u = .ref a := fun _ h => h
theorem rel_ty {n : String} : ∀ u, RelV (.ty n) u → u = .type n := fun _ h => h

/-! ### defs called where an error is handled -/
structure CalH (P : Program) (w : World) (K : PySem.W.Frag) (mg : Str → Option Value) (base : Heap) (k : Nat) (x : Str) (sp : Sp) : Prop where
  ex : ∃ (f : Addr) (fd : FuncData) (ps : List Str), L2H.FnH P w K mg base C8.CX0 k f fd ps sp ∧ mg x = some (.ref f) ∧ PySem.W.keepIn K (.ref f) = true ∧ Binds K fd ps []
section
variable {P : Program} {w : World} {K : PySem.W.Frag} {mg : Str → Option Value} {base : Heap}
theorem fnH0 {x qual : Str} {st : Stmt} {f : Addr} {fd : FuncData} {N ps : List Str} {k : Nat} {sp : Sp} (F : C8.Fun K x qual st f fd) (S : FnScope N ps (C8.fnScope st)) (len : ∀ vs H Q E, sp vs H Q E → vs.length = ps.length)
    (hb : ∀ (cdv : Value) (A : Around) (outer : List Env) (s : Shared) (H : Hp) (vs : List V) (Q : VK) (E : XK) (p : Addr × Obj), L2H.RoomH k (A.deeper (envOfC qual (C8.fnScope st) s.heap.objs.size f cdv)) → sp vs H Q E →
      L2H.HotC (L2H.cxH C8.CX0 P w K mg base N qual (C8.fnScope st) f cdv A outer s H E p).nox →
      ∃ t, PSs (L2H.cxH C8.CX0 P w K mg base N qual (C8.fnScope st) f cdv A outer s H E p).nox (C8.fnBody st) t ∧ t { nx := fun _ H' => Q .non H', rt := Q } (start N vs) H) : L2H.FnH P w K mg base C8.CX0 (k + 1) f fd ps sp := by
  obtain ⟨oc, od, dV, kV, doc, pm, an, cdv, ct, osl, rfl, lk, hcd⟩ := F.ex
  refine L2H.fn_ofH lk hcd S len fun A outer s H vs Q E p hot hr hsp => ?_
  obtain ⟨t, h, q⟩ := hb cdv A outer s H vs Q E p hr hsp ⟨p, hot, List.mem_singleton.mpr rfl⟩
  exact ⟨t, h.nox, q⟩
end
section
variable {X : Cx} {k j : Nat} {x : Str} {sp : Sp} {p pos : Pos} {e : Expr} {es : List Expr} {t : TA}
theorem pe_ch (c : CalH X.prog X.w X.K X.mg X.base k x sp) (hr : L2H.RoomH j X.A) (hk : k ≤ j) (hc : L2H.HotC X) (hg : Gl X x) (ha : PA X (e :: es) t)
    (hdb : (x == ("__debug__" : Str)) = false := by decide) (he : starEach (e :: es) X.env = (false, eval e X.env) :: starEach es X.env := by rfl) (hpl : (backTo pos (starEach es X.env)).any (·.1) = false := by rfl) :
    PE X (.Call (.Name x p) (e :: es) [] pos) (tCallS sp (fun _ => C8.E0) t) := by
  obtain ⟨f, fd, ps, F, hm, kp, b⟩ := c.ex
  exact L2H.pe_callH F (hr.mono hk) hc hg hm kp b (fun σ pins H s e s' I z => z.elim) ha hdb he hpl
theorem hotS {a : Addr} {oe : Obj} {cls : Value} {d : Option Addr} {pn : List (Addr × Obj)} (hz : L2N.Zn cls d oe) (hf : ∃ vs, oe.data = .fields vs) : L2H.HotC (X.suite a ((a, oe) :: pn)) := by
  obtain ⟨vs, hv⟩ := hf
  exact ⟨(a, oe), ⟨rfl, vs, hv, hz.2.2 vs hv⟩, List.mem_cons_self⟩
theorem roomS {a : Addr} {pn : List (Addr × Obj)} (hr : Room j X.A) : L2H.RoomH j (X.suite a pn).A := ⟨hr.dp, hr.un⟩
end
end RJ
end

section
set_option maxRecDepth 100000
set_option maxHeartbeats 2000000
namespace RJ
open PySem PySem.Spec PyProof.Rows L2
section
variable {P : Program} {w : World} {K : PySem.W.Frag} {mg : Str → Option Value} {base : Heap} {CX : CXT} {k : Nat} {f : Addr} {fd : FuncData} {ps : List Str} {sp sp' : Sp}
/-- a def that raises nothing, where errors are let out -/
theorem FnOk.lift (F : FnOk P w K mg base C8.CX0 k f fd ps sp) : FnOk P w K mg base CX k f fd ps sp :=
  ⟨F.len, fun A outer s H args us vs Q E hr e0 hb r h => codeAny_mono (F.run A outer s H args us vs Q E hr e0 hb r h) fun r s' hq => by
    cases r with
    | error e => exact hq.elim
    | ok fl => cases fl <;> exact hq⟩
/-- two promises of one def -/
theorem FnOk.or (F : FnOk P w K mg base CX k f fd ps sp) (G : FnOk P w K mg base CX k f fd ps sp') : FnOk P w K mg base CX k f fd ps (fun vs H Q E => sp vs H Q E ∨ sp' vs H Q E) :=
  ⟨fun vs H Q E h => h.elim (F.len vs H Q E) (G.len vs H Q E), fun A outer s H args us vs Q E hr e0 hb r h => h.elim (F.run A outer s H args us vs Q E hr e0 hb r) (G.run A outer s H args us vs Q E hr e0 hb r)⟩
end
/-- a class that is made by its name, whose __init__ may raise -/
structure MakX (P : Program) (w : World) (K : PySem.W.Frag) (mg : Str → Option Value) (base : Heap) (k : Nat) (x : Str) (C : Addr) (sp : Sp) : Prop where
  ex : ∃ (f : Addr) (fd : FuncData) (ps : List Str), Mk K C f ∧ FnOk P w K mg base (CXN P w) k f fd ps sp ∧ mg x = some (.ref C) ∧ Binds K fd ps []
section
variable {X : Cx} {k j : Nat} {C f : Addr} {fd : FuncData} {ps : List Str} {x : Str} {sp : Sp} {p pos : Pos} {e : Expr} {es : List Expr} {t : TA} {W : WX}
def tMakeS (C : Addr) (sp : Sp) (E : L2.St → XK) (t : TA) : TE := fun σ H Q => t σ H fun vs H1 => ∀ x dx, H1 x = none → H1 dx = none → dx ≠ x → sp (.ref x :: vs) (upd (upd H1 dx (.own x)) x (.ins C dx [])) (fun v H2 => v = .non ∧ Q (.ref x) H2) (E σ)
theorem run_makeS {pins : List (Addr × Obj)} {σ : L2.St} {H : Hp} {s : Shared} {Q : VK} {us : List Value} {vs : List V} {E : L2.St → XK} (M : Mk X.K C f) (F : FnOk X.prog X.w X.K X.mg X.base (CXN X.prog X.w) k f fd ps sp) (hr : Room (k + 1) X.A) (hb : Binds X.K fd ps [])
    (hx : PassesAt (CXN X.prog X.w) X σ (E σ)) (I : Inv X pins σ H s) (r : Vals vs us)
    (h : ∀ x dx, H x = none → H dx = none → dx ≠ x → sp (.ref x :: vs) (upd (upd H dx (.own x)) x (.ins C dx [])) (fun v H2 => v = .non ∧ Q (.ref x) H2) (E σ)) :
    wpAny (model X.prog X.w) X.A (call (.ref C) us) (EP X pins σ Q) X.xe s := by
  have hq := h (s.heap.objs.size + 1) s.heap.objs.size (I.hok.fresh (Nat.le_succ _)) (I.hok.fresh (Nat.le_refl _)) (Nat.ne_of_lt (Nat.lt_succ_self _))
  have I2 := Inv.made (C := C) I
  have r2 : Vals (V.ref (s.heap.objs.size + 1) :: vs) (Value.ref (s.heap.objs.size + 1) :: us) := .cons rfl r
  have hl : (Value.ref (s.heap.objs.size + 1) :: us).length = ps.length := by rw [← r2.length]; exact F.len _ _ _ _ hq
  have hbb := hb _ (Value.ref (s.heap.objs.size + 1) :: us) I2.kIn (by rw [List.append_nil]; exact hl)
  rw [List.append_nil] at hbb
  refine wpAny_call (make_map (f := f) I.kIn M.makes M.init (beq_iff_eq.mp M.fn) (codeAny_mono (F.run _ X.stack _ _ ⟨Value.ref (s.heap.objs.size + 1) :: us, []⟩ (Value.ref (s.heap.objs.size + 1) :: us) _ _ (E σ) (hr.make C us []) (I2.env0.make C us []) hbb r2 hq) fun r s' hq' => ?_))
  cases r with
  | error e => exact hx pins _ _ e s' I2 hq'
  | ok fl =>
    cases fl with
    | next => exact hq'.elim
    | brk => exact hq'.elim
    | cont => exact hq'.elim
    | ret u =>
      obtain ⟨v, H', I3, rv, ev, q3⟩ := I2.after hq'
      subst ev
      exact ⟨rv, ⟨V.ref (s.heap.objs.size + 1), H', I3, rfl, q3⟩⟩
theorem pe_makeS (c : MakX X.prog X.w X.K X.mg X.base k x C sp) (hr : Room j X.A) (hk : k + 1 ≤ j) (tk : L2N.Takes X W) (hg : Gl X x) (ha : PA X (e :: es) t)
    (hdb : (x == ("__debug__" : Str)) = false := by decide) (he : starEach (e :: es) X.env = (false, eval e X.env) :: starEach es X.env := by rfl) (hpl : (backTo pos (starEach es X.env)).any (·.1) = false := by rfl) :
    PE X (.Call (.Name x p) (e :: es) [] pos) (tMakeS C sp (WE W) t) := by
  obtain ⟨f, fd, ps, M, F, hm, b⟩ := c.ex
  refine ⟨fun pins s σ H Q I h => wpAny_Call_Name_kw (ld_glob I hg hm (PySem.W.callWith_K (h₀ := X.base) I.ok.mod.kin M.kp (thn (ha.run pos pins s σ H _ I h) fun us s1 hh => ?_) he hpl) hdb)⟩
  obtain ⟨vs, H1, I1, r, q⟩ := hh
  exact ⟨I1.kIn, run_makeS M F (hr.mono hk) b (L2N.passAt tk σ) I1 r q⟩
end
/-- isinstance of the caught error against a tuple of classes -/
def rIsDT (K : PySem.W.Frag) (a : Addr) (cls : Value) (d : Option Addr) : List V → Hp → VK → Prop := fun xs H Q => ∃ (D dd tp : Addr) (fs : List (Str × V)) (cs : List V) (ws : List Value) (b : Bool), cls = .ref D ∧ d = some dd ∧ ErrI K D ∧ H dd = some (.xd fs) ∧ xs = [.ref a, .ref tp] ∧ H tp = some (.tup cs) ∧ (∀ us, Vals cs us → us = ws) ∧ PySem.W.kitAny K (.ref D) ws = some b ∧ Q (.bl b) H
theorem call_isDT {X : Cx} {a : Addr} {oe : Obj} {cls : Value} {d : Option Addr} {pn : List (Addr × Obj)} (hz : Zc cls d oe) (hf : ∃ vs, oe.data = .fields vs) : CallR (X.suite a ((a, oe) :: pn)) (.builtin "isinstance") (rIsDT X.K a cls d) := by
  intro pins s σ H xs us Q I r h
  obtain ⟨D, dd, tp, fs, cs, ws, b, rfl, rfl, T, ed, rfl, htp, hws, e, q⟩ := h
  obtain ⟨u1, u2, rfl, r1, r2⟩ := vals2 r
  cases (show u1 = Value.ref a from r1)
  cases (show u2 = Value.ref tp from r2)
  obtain ⟨hget, _⟩ := I.pin (a, oe) (List.mem_append.mpr (.inl List.mem_cons_self))
  obtain ⟨vs, hv⟩ := hf
  have hx : ObjOk X.prog X.w H s.heap dd (.xd fs) := I.hok dd _ ed
  obtain ⟨mA, hns, _⟩ := hx
  obtain ⟨od, ho, _⟩ := lookIn_ns hns
  have J : PySem.W.InstAt s.heap a oe D (some od) := ⟨hget, hz.1, by unfold PySem.W.notCls; rw [hv] <;> rfl, by rw [hz.2]; exact ho⟩
  have hT : ObjOk X.prog X.w H s.heap tp (.tup cs) := I.hok tp _ htp
  obtain ⟨_, its, rv, o, g1, g2, n, g3⟩ := hT
  have e3 := hws its rv
  subst e3
  obtain ⟨oc, od2, dt, sl⟩ := o
  simp only at g2 g3
  subst g2 g3
  exact PySem.W.kia_tup (PySem.W.kitx_exc T.cl T.hg T.hk T.hs T.ha T.hn T.ht T.hm) I.kIn J g1 e (fun z => nomatch z) fun tk => ⟨.bl b, H, I.kept (t' := tk) fun _ _ z => z, rfl, q⟩
theorem vals_refs : ∀ {as : List Addr} {us : List Value}, Vals (as.map V.ref) us → us = as.map Value.ref
  | [], _, .nil => rfl
  | a :: as, _, .cons r t => by rw [vals_refs t, show _ = Value.ref a from r]; rfl
end RJ
end

section
set_option maxRecDepth 100000
set_option maxHeartbeats 2000000
namespace RJ
open PySem PySem.Spec PyProof.Rows L2
/-! ### methods that may raise -/
def tMethX (C : Addr) (m : Str) (sp : Sp) (E : L2.St → XK) (ta : TE) (t : TA) : TE := fun σ H Q => ta σ H fun x H1 => ∃ a dx fs, x = .ref a ∧ H1 a = some (.ins C dx fs) ∧ fs.lookup m = none ∧ t σ H1 fun vs H2 => sp (x :: vs) H2 Q (E σ)
section
variable {X : Cx} {k j : Nat} {C : Addr} {m : Str} {sp : Sp} {p pos apos : Pos} {e o : Expr} {es : List Expr} {ta : TE} {t : TA} {W : WX}
theorem pe_mx {pl : Sem Bool} (c : MetX X.prog X.w X.K X.mg X.base k C m sp) (hr : Room j X.A) (hk : k ≤ j) (tk : L2N.Takes X W) (he : PE X o ta) (ha : PA X (e :: es) t)
    (hst : starEach (e :: es) X.env = (false, eval e X.env) :: starEach es X.env := by rfl) (hpl : (backTo pos (starEach es X.env)).any (·.1) = false := by rfl)
    (ht : eval (.Call (.Attribute o m apos) (e :: es) [] pos) X.env = (do
      let ov ← eval o X.env
      standAt apos.atName
      let (f, first) ← holding [ov] (getMethod ov m pl)
      callWith pos f first (backTo pos (starEach (e :: es) X.env)) (backToKw pos (keywordEach [] X.env))) := by rfl) :
    PE X (.Call (.Attribute o m apos) (e :: es) [] pos) (tMethX C m sp (WE W) ta t) := by
  obtain ⟨f, fd, ps, hc, hm, F, b⟩ := c.ex
  refine ⟨fun pins s σ H Q I h => ?_⟩
  refine PySem.W.methodCall_KW (pl := pl) (thn (he.run pins s σ H _ I h) fun u s1 ⟨x, H1, I1, rx, a, dx, fs, ex, ea, l, q⟩ => ?_) ht
  subst ex
  obtain rfl : u = Value.ref a := rx
  refine getmeth_ok I1 ea hc hm l ?_
  refine PySem.W.callWith_K (first := [.ref a]) (h₀ := X.base) I.ok.mod.kin hm.kp (thn (ha.run pos pins s1 σ H1 _ I1 q) fun us s2 ⟨vs, H2, I2, r, q2⟩ => ⟨I2.kIn, ?_⟩) hst hpl
  exact run_fnS (us := .ref a :: us) (vs := .ref a :: vs) F (hr.mono hk) b (L2N.passAt tk σ) I2 (.cons rfl r) q2
end
end RJ
end

section
set_option maxRecDepth 100000
set_option maxHeartbeats 2000000
namespace RJ
open PySem PySem.Spec PyProof.Rows L2
/-! ### comprehensions whose elements may raise -/
/-- what is due when the block of a comprehension with the frame ce has run -/
def postX (M : Model) (A : Around) (E : Value → Shared → Prop) (use : Option (Value → Sem Unit)) (Q : Value → Shared → Prop) (acc : Value) (ce : Env) (r : Result) (s' : Shared) : Prop :=
  match r with
  | .ok f => compPost M A E use Q acc ce.locals (.ok f) s'
  | .error x => ∃ m, s'.heap.Ns ce.locals m ∧ ∀ h', Heap.SameBut ce.locals s'.heap h' → wpAny M A (passOn "comprehension.variables-let-go" x ce : Sem Value) (fun _ _ => False) E { s' with heap := h' }
theorem noteFrame_eq {x : Value} {e1 e2 : Env} (h : e1.frame = e2.frame) : noteFrame x e1 = noteFrame x e2 := by
  unfold noteFrame PySem.frameOf
  rw [h]
theorem passOn_eq {α : Type} {w : String} {x : Value} {e1 e2 : Env} (h : e1.frame = e2.frame) : (passOn w x e1 : Sem α) = passOn w x e2 := by
  unfold PySem.passOn
  rw [h]
section
variable {M : Model} {A : Around} {E : Value → Shared → Prop} {s : Shared} {env : Env}
theorem comp_run {e : Expr} {scope : Scope} {pos : Pos} {newAcc first : Sem Value} {g : Comprehension} {gs : List Comprehension} {cl : List (Str × Addr)} {use : Option (Value → Sem Unit)} {Q : Value → Shared → Prop}
    (hcl : clausesOf e = g :: gs) (hs : ∀ x, foldedSetIterable g.iter env x = pure x) (hclos : closureFor scope env = pure cl) (hkind : scope.kind = .function)
    (hnames : ∀ x ∈ scope.names, x.2 = .local → scope.names.lookup x.1 = some .local)
    (h : wpAny M A first (fun x s₁ => wpAny M A (pyIter x) (fun it s₂ => wpAny M A newAcc (fun acc s₃ =>
      wpAny M A (newFunctionEnv scope env.globals cl [] env.qual none .none (some env)) (fun cenv s₄ =>
        codeAny M A (.compStart e 0 it acc { cenv with scope := relabel scope env }) (postX M A E use Q acc { cenv with scope := relabel scope env }) s₄) E s₃) E s₂) E s₁) E s) :
    wpAny M A (comprehension e scope env pos newAcc false first use) Q E s := by
  have err : ∀ {α : Type} {t : Sem α} {P P' : α → Shared → Prop} {s : Shared}, wpAny M A t P E s → (∀ a s, P a s → P' a s) → wpAny M A t P' E s := fun x y => wpAny_mono x y fun _ _ z => z
  unfold comprehension
  rw [hclos, hcl]
  refine wpAny_bind (err h fun x s₁ h₁ => wpAny_bind (wpAny_standAt (wpAny_bind (wpAny_of_eq (hs x) (wpAny_bind (wpAny_holding (err h₁ fun it s₂ h₂ => ?_)))))))
  refine wpAny_standIf (wpAny_bind (err h₂ fun acc s₃ h₃ => wpAny_bind (wpAny_pure (wpAny_bind (err h₃ fun cenv s₄ h₄ => ?_)))))
  dsimp only
  have loc : ∀ x ∈ (scope.names.filter fun x => (x.2 == .local || x.2 == .cell) && x.1 != (".0" : Str)).reverse, x.2 = .local →
      Env.kindOf { cenv with scope := relabel scope env } x.1 = some .local := fun x hx hl => lookup_relabel_local (hnames x (List.mem_filter.mp (List.mem_reverse.mp hx)).1 hl)
  have loc' : ∀ x ∈ (scope.names.filter fun x => (x.2 == .local || x.2 == .cell) && x.1 != (".0" : Str)).reverse.drop 1 ++ (scope.names.filter fun x => (x.2 == .local || x.2 == .cell) && x.1 != (".0" : Str)).reverse.take 1,
      x.2 = .local → Env.kindOf { cenv with scope := relabel scope env } x.1 = some .local := fun x hx => (List.mem_append.mp hx).elim (fun z => loc x (List.mem_of_mem_drop z)) fun z => loc x (List.mem_of_mem_take z)
  refine wpAny_holding (wpAny_bind (wpAny_attempt (wpAny_holding (wpAny_run (codeAny_mono h₄ fun r s' hr => ?_)))))
  cases r with
  | error x =>
    obtain ⟨m, hn, k⟩ := hr
    exact wpAny_bind (wpAny_holding (wpAny_comp_letGo (cenv := { cenv with scope := relabel scope env }) hkind _ s' m loc hn fun h' _ _ sb => err (k h' sb) fun _ _ z => z.elim))
  | ok f =>
    cases use with
    | none =>
      obtain ⟨m, hn, k⟩ := hr
      exact wpAny_bind (wpAny_holding (wpAny_comp_letGo (cenv := { cenv with scope := relabel scope env }) hkind _ s' m loc hn fun h' _ _ sb => wpAny_pure (k h' sb)))
    | some u =>
      refine wpAny_bind (wpAny_rule (wpAny_bind (wpAny_holding (err hr fun _ s'' hr' => ?_))))
      obtain ⟨m, hn, k⟩ := hr'
      exact wpAny_bind (wpAny_comp_letGo (cenv := { cenv with scope := relabel scope env }) hkind _ s'' m loc' hn fun h' _ _ sb => wpAny_pure (k h' sb))
end

/-! ### an object of the block is let go -/
theorem hide_ne {h : Heap} {C b : Addr} {o : Obj} (e : (PySem.W.hideAll h [C]).get? b = some o) : b ≠ C ∧ h.get? b = some o := by
  refine ⟨fun z => ?_, PySem.W.of_hideAll _ e⟩
  rw [PySem.W.hideAll_none [C] (by simp [z])] at e
  cases e
theorem hide_get {h : Heap} {C b : Addr} {o : Obj} (e : h.get? b = some o) (n : b ≠ C) : (PySem.W.hideAll h [C]).get? b = some o := PySem.W.hideAll_get _ e (by simpa using n)
theorem hide_non {h : Heap} {C b : Addr} (e : h.get? b = none) : (PySem.W.hideAll h [C]).get? b = none := by
  cases q : (PySem.W.hideAll h [C]).get? b with
  | none => rfl
  | some o => rw [(hide_ne q).2] at e; cases e
theorem frames_hide {B h h' : Heap} {C : Addr} (k : ∀ b o, b ≠ C → h.get? b = some o → h'.get? b = some o) : ∀ {l : List Env}, h.FunFrames B l → C ∉ frs l → h'.FunFrames (PySem.W.hideAll B [C]) l
  | [], _, _ => trivial
  | env :: l, x, n => by
    obtain ⟨hk, ⟨L, o, hf, hn, ho, hd⟩, hr⟩ := x
    have m : ∀ b, b ∈ frs l → b ∈ frs (env :: l) := fun b hb => by
      obtain ⟨e, he, q⟩ := List.mem_filterMap.mp hb
      exact List.mem_filterMap.mpr ⟨e, List.mem_cons_of_mem _ he, q⟩
    exact ⟨hk, ⟨L, o, hf, hide_non hn, k L o (fun z => n (z ▸ List.mem_filterMap.mpr ⟨env, List.mem_cons_self, hf⟩)) ho, hd⟩, frames_hide k hr fun z => n (m C z)⟩
theorem held_hide {B h h' : Heap} {l : List Env} {a C L : Addr} {Z : Obj → Prop} {oC : Obj} (x : PySem.HandSPX.HeldZ B l a Z L h) (hC : B.get? C = some oC) (nC : C ∉ frs l) (k : ∀ b o, b ≠ C → h.get? b = some o → h'.get? b = some o) :
    PySem.HandSPX.HeldZ (PySem.W.hideAll B [C]) l a Z L h' := by
  obtain ⟨st, na, ff, oe, vs, T, oT, ts, he, hz, hd, h1, hnT, hTe, hT, hdT, h3⟩ := x
  have ne : ∀ {b : Addr}, B.get? b = none → b ≠ C := fun {b} e z => by rw [z, hC] at e; cases e
  exact ⟨fun b o e => k b o (hide_ne e).1 (st b o (hide_ne e).2), hide_non na, frames_hide k ff nC, oe, vs, T, oT, ts, k a oe (ne na) he, hz, hd, h1, hide_non hnT, hTe, k T oT (ne hnT) hT, hdT, h3⟩
theorem held_pass {M : Model} {A : Around} {E : Value → Shared → Prop} {s : Shared} {B : Heap} {l : List Env} {a L : Addr} {Z : Obj → Prop} {env : Env} {w : String} {Q : Value → Shared → Prop} (x : PySem.HandSPX.HeldZ B l a Z L s.heap) (hf : env.frame = some L)
    (hE : ∀ h', PySem.HandSPX.HeldZ B l a Z L h' → s.heap.UpToSlots h' → E (.ref a) { s with heap := h' }) : wpAny M A (passOn w (.ref a) env : Sem Value) Q E s := by
  obtain ⟨oe, vs, T, oT, ts, he, hz, hd, h1, hnT, hTe, hT, hdT, h3⟩ := x.2.2.2
  unfold PySem.passOn
  refine wpAny_bind (wpAny_field he hd h1 ?_)
  rw [if_neg (show ¬ ((Value.ref T == Value.none) = true) from by simp)]
  rw [hf]
  exact wpAny_bind (PySem.HandSPX.setFlight_onZ x fun h' hh up => wpAny_throw (hE h' hh up))
section
variable {X : Cx} {pins : List (Addr × Obj)} {σ : L2.St} {H : Hp} {s s' : Shared} {W : WX}
/-- an exception over a ground that keeps what is tracked is in our air -/
theorem xe_over (I : Inv X pins σ H s) {a : Addr} {B : Heap} {H' : Hp} {cls : Value} {d : Option Addr} (st : B.StaysIn s'.heap) (sk : L2.Sky B X.stack a (L2N.Zn cls d) X.env.locals s'.heap) (hok : HOk X.prog X.w H' B)
    (ub : UB (frs X.stack) H H' s.heap B s'.heap) (na : H' a = none) (os : s'.os = s.os) (ag : AllBare s'.gens) (w : W cls d σ H') : L2N.XE X W (.ref a) s' := by
  obtain ⟨G, g1, g2⟩ := restrict s'.heap fun b => (B.get? b).isSome || decide (b ∈ frs X.stack)
  have inB : ∀ b o, B.get? b = some o → G.get? b = some o := fun b o e => (g1 b (by simp [e])).trans (st b o e)
  have inF : ∀ b, b ∈ frs X.stack → G.get? b = s'.heap.get? b := fun b hb => g1 b (by simp [hb])
  have out : ∀ b o, G.get? b = some o → s'.heap.get? b = some o ∧ (b ∉ frs X.stack → B.get? b = some o) := fun b o e => by
    by_cases q : ((B.get? b).isSome || decide (b ∈ frs X.stack)) = true
    · rw [g1 b q] at e
      refine ⟨e, fun hb => ?_⟩
      have z : (B.get? b).isSome = true := by simpa [hb] using q
      obtain ⟨o', q'⟩ := Option.isSome_iff_exists.mp z
      rw [st b o' q'] at e
      cases e
      exact q'
    · rw [g2 b (by simpa using q)] at e
      cases e
  have slot : ∀ b o, s.heap.get? b = some o → b ∈ frs X.stack → ∃ sl, G.get? b = some { o with slots := sl } := fun b o e hb => by
    obtain ⟨sl, q⟩ := ub.slot b o e hb
    exact ⟨sl, (inF b hb).trans q⟩
  have J : Inv X pins σ H' { s with heap := G, gens := s'.gens, drawn := s'.drawn, toks := s'.toks } := I.call (ch := []) ⟨fun b o e n hb _ => inB b o (ub.keep b o e n hb), fun b o e _ hb _ => slot b o e hb, fun b o e n _ => ub.free b o e n, fun b o e _ => by
    by_cases hb : b ∈ frs X.stack
    · obtain ⟨sl, q⟩ := slot b o e hb
      exact ⟨_, q⟩
    · obtain ⟨o', q⟩ := ub.there b o e hb
      exact ⟨o', inB b o' q⟩, ub.tups, ub.frzs, ub.tbls⟩ (hok.kept inB) ag (fun _ z => nomatch z)
  exact ⟨a, B, _, pins, σ, H', cls, d, rfl, J, fun b o e hb => (out b o e).2 hb, Heap.UpToSlots.of_keeps fun b o e => (out b o e).1, sk, na, os, ag, w⟩
end
section
variable {X : Cx} {pins : List (Addr × Obj)} {σ : L2.St} {H3 : Hp} {s3 : Shared} {E : XK}
/-- what a call within a comprehension's block lets out goes out of the comprehension -/
theorem blk_out {scope : Scope} {ce : Env} {fp : List Addr} {xe : Value → Shared → Prop} {use : Option (Value → Sem Unit)} {Qf : Value → Shared → Prop} {acc : Value} (hs : X.stack = X.env :: X.outer) (hf : X.env.frame = some X.env.locals)
    (cf : ce.frame = X.env.frame) (cL : ce.locals = s3.heap.objs.size) (I3 : Inv X pins σ H3 s3) (ffp : ∀ b ∈ fp, FpOk X pins H3 b) (tk : L2N.Takes X (fun cls d _ H => E cls d H))
    (hxe : xe = notedBy (model X.prog X.w) X.A ce (fun e s' => postX (model X.prog X.w) X.A X.xe use Qf acc ce (.error e) s')) : ∀ σB : L2.St, PassesAt (CXN X.prog X.w) ((X.blk s3 H3 scope ce fp).tr [] xe) σB E := by
  intro σB pinsB H s u s' IB c
  obtain ⟨a, B, H', cls, d, rfl, fl, hok, ub, na, os, ag, hE⟩ := c
  obtain ⟨m, ⟨oC, es, ep, hoC, rC⟩, _⟩ := IB.loc
  have hoC : s.heap.get? ce.locals = some oC := hoC
  have nC : H ce.locals = none := IB.free
  have hfr : X.A.frames = some (X.env :: X.outer) := by rw [I3.ok.frames, hs]
  have nF : ce.locals ∉ frs X.stack := fun hm => by
    have z := I3.stkSub _ hm
    rw [cL] at z
    rcases List.mem_cons.mp z with z | z
    · exact absurd I3.lt (by rw [← z]; exact Nat.lt_irrefl _)
    · exact I3.nofs (Nat.le_refl _) z
  have kB : B.get? ce.locals = some oC := ub.keep _ oC hoC nC nF
  have nC' : H' ce.locals = none := ub.free _ oC hoC nC
  have J : Inv X pins σ H s := I3.call' (ch := fp) IB.os IB.base IB.hok IB.bare fun b hb => ⟨(ffp b hb).2.2.2.1, (ffp b hb).2.1, (ffp b hb).2.2.2.2.1, (ffp b hb).2.2.2.2.2⟩
  have fC : FpOk X pins H ce.locals := I3.fpOk (by rw [cL]; exact Nat.le_refl _) nC
  have JX : Inv X pins σ H { s with heap := PySem.W.hideAll s.heap [ce.locals] } := J.turned (t' := s.toks) (fun b o hb e => hide_get e hb) fC.1 fC.2.1 fC.2.2.2.1 fC.2.2.2.2.1 fC.2.2.2.2.2
  have flX : PySem.HandSPX.FlyingZ B (X.env :: X.outer) a (L2N.Zn cls d) s'.heap := by
    have z : PySem.HandSPX.FlyingZ B X.stack a (L2N.Zn cls d) s'.heap := fl
    rw [hs] at z
    exact z
  show xe (.ref a) s'
  rw [hxe]
  show wpAny (model X.prog X.w) X.A (noteFrame (.ref a) ce) _ _ s'
  rw [noteFrame_eq cf]
  refine PXN.looks_onZ L2N.Zn.steady hfr hf flX fun h1 hh1 up1 => ?_
  refine ⟨m, ⟨oC, es, ep, hh1.1 _ oC kB, rC⟩, fun h2 sb => ?_⟩
  have k12 : ∀ b o, b ≠ ce.locals → h1.get? b = some o → h2.get? b = some o := fun b o hb e => (sb.2 b hb).trans e
  have nF1 : ce.locals ∉ frs (X.env :: X.outer) := by rw [← hs]; exact nF
  refine held_pass (held_hide hh1 kB nF1 k12) (cf.trans hf) fun h3 hh3 up3 => ?_
  refine tk _ _ (xe_over JX (B := PySem.W.hideAll B [ce.locals]) hh3.1 (.inr (.inr (by rw [hs]; exact hh3))) (fun b u e => (hok b u e).stay (fun c v hc q => hide_get q fun z => ?_) (fun _ q => q) fun _ _ q => q)
    ⟨fun b o e n hb => hide_get (ub.keep b o (hide_ne e).2 n hb) (hide_ne e).1, fun b o e hb => ?_, fun b o e n => ub.free b o (hide_ne e).2 n, fun b o e hb => ?_, ub.tups, ub.frzs, ub.tbls⟩ na os ag hE)
  · rcases hc with hc | hc
    · rw [← hc, z, nC'] at e; cases e
    · rw [z, nC'] at hc; cases hc
  · obtain ⟨_, o₀, e₀, hnf⟩ := J.stack.mem hb
    rw [(hide_ne e).2] at e₀
    cases e₀
    obtain ⟨sl1, q1⟩ := ub.slot b o (hide_ne e).2 hb
    obtain ⟨sl2, q2⟩ := up1 b _ q1 hnf
    obtain ⟨sl3, q3⟩ := up3 b _ (k12 b _ (hide_ne e).1 q2) hnf
    exact ⟨sl3, q3⟩
  · obtain ⟨o', q⟩ := ub.there b o (hide_ne e).2 hb
    exact ⟨o', hide_get q (hide_ne e).1⟩
end
section
variable {X : Cx} {E : XK} {elt tg iter : Expr} {ifs : List Expr} {scope : Scope} {own : List (Str × Nat)} {pos pos' : Pos} {wi : TI} {g : TG} {tt : TT} {te : TE}
/-- a block whose iterator's objects have moved and whose locals are as before -/
structure Turns (X : Cx) (s3 : Shared) (H3 : Hp) (scope : Scope) (ce : Env) (fp : List Addr) (xe : Value → Shared → Prop) (τ : L2.St) (tn : Nat → Heap → Prop) (W : Nat → Nat → Hp → Prop) (n i : Nat) (H : Hp) (s : Shared) : Prop where
  inv : Inv ((X.blk s3 H3 scope ce fp).tr [] xe) [] τ H s
  at_ : tn i s.heap
  non : ∀ b ∈ fp, H b = none
  has : W i n H
theorem lc_coreX {pins : List (Addr × Obj)} {s : Shared} {σ : L2.St} {H : Hp} {Q : VK} {use : Option (Value → Sem Unit)} {Qf : Value → Shared → Prop} (hst : X.stack = X.env :: X.outer) (hf : X.env.frame = some X.env.locals) (tk : L2N.Takes X (fun cls d _ H => E cls d H))
    (hc : X.calm = true) (hN : X.N.Nodup) (I : Inv X pins σ H s) (hi : PI X tg iter wi) (ok : BlkOk X.N X.env.scope scope own)
    (hg : ∀ (s : Shared) (H : Hp) (C : Addr) (cl : List (Str × Addr)) (fp : List Addr) (xe : Value → Shared → Prop), PG ((X.blk s H scope (compEnvC scope cl C X.env) fp).tr [] xe) tg g)
    (ht : ∀ (s : Shared) (H : Hp) (C : Addr) (cl : List (Str × Addr)) (fp : List Addr) (xe : Value → Shared → Prop), (∀ σ : L2.St, PassesAt (CXN X.prog X.w) ((X.blk s H scope (compEnvC scope cl C X.env) fp).tr [] xe) σ E) →
      PTs ((X.blk s H scope (compEnvC scope cl C X.env) fp).tr [] xe) ifs tt)
    (he : ∀ (s : Shared) (H : Hp) (C : Addr) (cl : List (Str × Addr)) (fp : List Addr) (xe : Value → Shared → Prop), (∀ σ : L2.St, PassesAt (CXN X.prog X.w) ((X.blk s H scope (compEnvC scope cl C X.env) fp).tr [] xe) σ E) →
      PE ((X.blk s H scope (compEnvC scope cl C X.env) fp).tr [] xe) elt te)
    (hs : ∀ x, foldedSetIterable iter X.env x = pure x) (h : tLc wi g tt te (own.map (·.2)) σ H Q)
    (hRR : ∀ D C s' m H', Inv X pins σ H' s' → Q (.ref D) H' → s'.heap.Ns C m → FpOk X pins H' C → compPost (model X.prog X.w) X.A X.xe use Qf (.ref D) C (.ok .next) s') :
    wpAny (model X.prog X.w) X.A (comprehension (.ListComp elt [⟨tg, iter, ifs, 0⟩] scope pos) scope X.env pos' (newList []) false (eval iter X.env) use) Qf X.xe s := by
  have hfree : ∀ y ∈ scope.names, y.2 = .free → ∃ c, X.env.cells.lookup y.1 = some c := fun y hy e => I.ok.has _ (ok.free y hy e)
  refine comp_run (use := use) rfl hs (closure_ok hfree) ok.kind (fun y hy e => by rw [ok.uniq y hy, e]) (thn (hi.run pins s σ H _ I h) fun xv s1 hx => thn hx fun itv s2 h2 => ?_)
  obtain ⟨it, fp, tn, J, H2, e, I2, T, st2, f2, q⟩ := h2
  subst e
  refine wpAny_newObj_type (newEnv_comp ?_) (by show 0 ≤ sizeLine; decide)
  generalize hD : s2.heap.objs.size = D
  obtain ⟨W, ⟨m0, w0⟩, turn⟩ := q D (I2.hok.fresh (Nat.le_of_eq hD))
  generalize hs3 : ({ s2 with heap := s2.heap.push { cls := .type "list", data := .seq ([] : List Value).toArray } } : Shared) = s3
  have h3 : s3.heap = s2.heap.push { cls := .type "list", data := .seq ([] : List Value).toArray } := by rw [← hs3]
  have k23 : ∀ b o, s2.heap.get? b = some o → s3.heap.get? b = some o := fun b o e => by rw [h3]; exact Heap.get?_push_of_some _ e
  have I3 : Inv X pins σ (upd H2 D (.lst [])) s3 := by
    rw [← hs3]
    refine I2.laid (t' := s2.toks) (fun b o e => Heap.get?_push_of_some _ e) (Nat.le_of_eq hD) ⟨Nat.zero_le _, [], 0, .nil, ?_⟩
    rw [← hD]
    exact Heap.get?_push_size _ rfl
  have f3 : ∀ b ∈ fp, FpOk X pins (upd H2 D (.lst [])) b ∧ b < s3.heap.objs.size := fun b hb => by
    obtain ⟨o, e, _⟩ := T.obj _ _ st2 b hb
    have lt := Heap.lt_size e
    refine ⟨⟨?_, (f2 b hb).2⟩, Heap.lt_size (k23 b o e)⟩
    rw [upd_ne (by rw [← hD]; exact Nat.ne_of_lt lt)]
    exact (f2 b hb).1
  generalize hce : compEnvC scope (cellsFrom (s3.heap.objs.size + 1) scope.names (cloFrom X.env.cells scope.names [])) s3.heap.objs.size X.env = ce
  have cL : ce.locals = s3.heap.objs.size := by subst hce; rfl
  have cf : ce.frame = X.env.frame := by subst hce; rfl
  have I4 := block_start I3 ok hN f3
  rw [hce] at I4
  show codeAny _ _ (.compStart (.ListComp elt [⟨tg, iter, ifs, 0⟩] scope pos) 0 (.ref it) (.ref D) (compEnvC scope (cellsFrom (s3.heap.objs.size + 1) scope.names (cloFrom X.env.cells scope.names [])) s3.heap.objs.size X.env))
    (postX (model X.prog X.w) X.A X.xe use Qf (.ref D) (compEnvC scope (cellsFrom (s3.heap.objs.size + 1) scope.names (cloFrom X.env.cells scope.names [])) s3.heap.objs.size X.env)) { s3 with heap := pushCells (s3.heap.push { cls := .type "dict", data := .dict #[] }) scope.names }
  rw [hce]
  generalize hxe : notedBy (model X.prog X.w) X.A ce (fun e s' => postX (model X.prog X.w) X.A X.xe use Qf (.ref D) ce (.error e) s') = xe
  generalize hH3 : upd H2 D (.lst []) = H3 at I3 I4 w0 f3
  have pass := blk_out (scope := scope) (ce := ce) (fp := fp) (use := use) (Qf := Qf) (acc := .ref D) hst hf cf cL I3 (fun b hb => (f3 b hb).1) tk hxe.symm
  have pg := hg s3 H3 s3.heap.objs.size (cellsFrom (s3.heap.objs.size + 1) scope.names (cloFrom X.env.cells scope.names [])) fp xe
  have pt := ht s3 H3 s3.heap.objs.size (cellsFrom (s3.heap.objs.size + 1) scope.names (cloFrom X.env.cells scope.names [])) fp xe
  have pe := he s3 H3 s3.heap.objs.size (cellsFrom (s3.heap.objs.size + 1) scope.names (cloFrom X.env.cells scope.names [])) fp xe
  rw [hce] at pg pt pe
  have pe := pe pass
  have pt := pt pass
  have I5 : Inv ((X.blk s3 H3 scope ce fp).tr [] xe) [] (wipe σ (own.map (·.2))) H3 { s3 with heap := pushCells (s3.heap.push { cls := .type "dict", data := .dict #[] }) scope.names } := I4.toTry xe
  have st5 : tn 0 (pushCells (s3.heap.push { cls := .type "dict", data := .dict #[] }) scope.names) := T.keep _ _ _ st2 fun b _ o e => pushCells_keeps _ _ _ _ (Heap.get?_push_of_some _ (k23 b o e))
  have fps : ∀ {σ' : L2.St} {H' : Hp} {s' : Shared}, Inv ((X.blk s3 H3 scope ce fp).tr [] xe) [] σ' H' s' → (∀ b ∈ fp, H' b = none) → ∀ b ∈ fp, FpOk ((X.blk s3 H3 scope ce fp).tr [] xe) [] H' b := fun {σ' H' s'} I' hn b hb =>
    ⟨hn b hb, (I'.ok.exf b hb).1, I'.ok.exfs b hb, .inl hb, (I'.ok.exf b hb).2, fun p hp => absurd (show p ∈ ([] : List (Addr × Obj)) ++ [] from hp) (by simp)⟩
  have loop : codeAny (model X.prog X.w) X.A (.compLoop (.ListComp elt [⟨tg, iter, ifs, 0⟩] scope pos) 0 (.ref it) (.ref D) ce) (postX (model X.prog X.w) X.A X.xe use Qf (.ref D) ce)
      { s3 with heap := pushCells (s3.heap.push { cls := .type "dict", data := .dict #[] }) scope.names } := by
    refine compLoop_any (fun n s' => ∃ i H', Turns X s3 H3 scope ce fp xe (wipe σ (own.map (·.2))) tn W n i H' s') ?_ m0 ⟨0, H3, I5, st5, fun b hb => (f3 b hb).1.1, w0⟩
    rw [hxe]
    rintro n s6 ⟨i, H6, t6⟩
    rcases turn i n H6 t6.has with ⟨stop, qq⟩ | ⟨go, Nx, hNx, step⟩
    · refine thn (T.done ((X.blk s3 H3 scope ce fp).tr [] xe) rfl rfl rfl hc i [] s6 _ H6 xe t6.inv (fps t6.inv t6.non) t6.at_ stop) fun r s7 ⟨hr, I7⟩ => ?_
      subst hr
      have back : Inv X pins σ H6 s7 := I3.call' (ch := fp) I7.os I7.base I7.hok I7.bare fun b hb => ⟨(f3 b hb).1.2.2.2.1, (f3 b hb).1.2.1, (f3 b hb).1.2.2.2.2.1, (f3 b hb).1.2.2.2.2.2⟩
      obtain ⟨m, hn, _⟩ := I7.loc
      exact hRR D ce.locals s7 m H6 back qq hn (I3.fpOk (by rw [cL]; exact Nat.le_refl _) I7.free)
    · refine thn (T.item ((X.blk s3 H3 scope ce fp).tr [] xe) rfl rfl rfl hc i [] s6 _ H6 xe t6.inv (fps t6.inv t6.non) t6.at_ go) fun r s7 ⟨u, hr, h7⟩ => ?_
      subst hr
      refine thn h7 fun _ s8 ⟨x, H8, I8, r8, y8, st8, n8⟩ => ?_
      have I8' := I8.pinned (fps I8 n8) (T.obj _ _ st8)
      refine thn (pg.run _ s8 _ H8 x u _ I8' r8 (step x H8 y8)) fun _ s9 ⟨σ9, H9, I9, hw, q9⟩ => ?_
      refine thn (pt.run _ s9 σ9 H9 _ I9 q9) fun b s10 ⟨H10, I10, q10⟩ => ?_
      have next : ∀ {s' : Shared} {H' : Hp}, Inv ((X.blk s3 H3 scope ce fp).tr [] xe) ([] ++ pinsAt fp s8.heap) σ9 H' s' → Nx H' → ∃ m, m < n ∧ ∃ i H', Turns X s3 H3 scope ce fp xe (wipe σ (own.map (·.2))) tn W m i H' s' := fun {s' H'} I' nx => by
        obtain ⟨m', hm, w'⟩ := hNx H' nx
        have kept : ∀ b ∈ fp, ∀ o, s8.heap.get? b = some o → s'.heap.get? b = some o ∧ H' b = none := fun b hb o e =>
          have z := I'.pin (b, o) (List.mem_append_right _ (List.mem_append_right _ (mem_pinsAt hb e)))
          ⟨z.1, z.2.1⟩
        refine ⟨m', hm, i + 1, H', (I'.unpinned (pins := [])).weak (by rw [← hw, wipe_length]) (fun j v e => (wipe_some (by rw [hw]; exact e)).1), T.keep _ _ _ st8 fun b hb o e => (kept b hb o e).1, fun b hb => ?_, w'⟩
        obtain ⟨o, e, _⟩ := T.obj _ _ st8 b hb
        exact (kept b hb o e).2
      cases b with
      | false =>
        simp only [Bool.false_eq_true, if_false] at q10 ⊢
        exact next I10 q10
      | true =>
        simp only [if_true] at q10 ⊢
        refine thn (pe.run _ s10 σ9 H10 _ I10 q10) fun z s11 ⟨yv, H11, I11, r11, acc, hD11, hz, nx⟩ => ?_
        exact app_ok (X := (X.blk s3 H3 scope ce fp).tr [] xe) I11 hD11 hz r11 fun s12 I12 => next I12 nx
  exact codeAny_compStart_list loop (T.self X.A 0 _ _ _ st5 loop)
theorem pe_lcX (hst : X.stack = X.env :: X.outer) (hf : X.env.frame = some X.env.locals) (tk : L2N.Takes X (fun cls d _ H => E cls d H)) (hc : X.calm = true) (hN : X.N.Nodup) (hi : PI X tg iter wi) (ok : BlkOk X.N X.env.scope scope own)
    (hg : ∀ (s : Shared) (H : Hp) (C : Addr) (cl : List (Str × Addr)) (fp : List Addr) (xe : Value → Shared → Prop), PG ((X.blk s H scope (compEnvC scope cl C X.env) fp).tr [] xe) tg g)
    (ht : ∀ (s : Shared) (H : Hp) (C : Addr) (cl : List (Str × Addr)) (fp : List Addr) (xe : Value → Shared → Prop), (∀ σ : L2.St, PassesAt (CXN X.prog X.w) ((X.blk s H scope (compEnvC scope cl C X.env) fp).tr [] xe) σ E) →
      PTs ((X.blk s H scope (compEnvC scope cl C X.env) fp).tr [] xe) ifs tt)
    (he : ∀ (s : Shared) (H : Hp) (C : Addr) (cl : List (Str × Addr)) (fp : List Addr) (xe : Value → Shared → Prop), (∀ σ : L2.St, PassesAt (CXN X.prog X.w) ((X.blk s H scope (compEnvC scope cl C X.env) fp).tr [] xe) σ E) →
      PE ((X.blk s H scope (compEnvC scope cl C X.env) fp).tr [] xe) elt te)
    (hs : ∀ x, foldedSetIterable iter X.env x = pure x := by intro _; rfl) : PE X (.ListComp elt [⟨tg, iter, ifs, 0⟩] scope pos) (tLc wi g tt te (own.map (·.2))) := by
  refine ⟨fun pins s σ H Q I h => ?_⟩
  rw [eval_ListComp]
  refine lc_coreX hst hf tk hc hN I hi ok hg ht he hs h fun D C s' m H' J q hn f => ⟨m, hn, fun h' sb => ?_⟩
  exact ⟨.ref D, H', J.turned (t' := s'.toks) (fun b o hb e => (sb.2 b hb).trans e) f.1 f.2.1 f.2.2.2.1 f.2.2.2.2.1 f.2.2.2.2.2, rfl, q⟩
/-- name = [..] on one line, the name a local -/
theorem ps_setLcX {i : Nat} {y : Str} {py spos : Pos} (hst : X.stack = X.env :: X.outer) (hf : X.env.frame = some X.env.locals) (tk : L2N.Takes X (fun cls d _ H => E cls d H)) (hc : X.calm = true) (hN : X.N.Nodup) (hy : X.N[i]? = some y) (hyl : X.env.scope.names.lookup y = some .local)
    (hsw : swapsWith (.ListComp elt [⟨tg, iter, ifs, 0⟩] scope pos) (some (.Name y py)) spos.line X.env = pure true) (hi : PI X tg iter wi) (ok : BlkOk X.N X.env.scope scope own)
    (hg : ∀ (s : Shared) (H : Hp) (C : Addr) (cl : List (Str × Addr)) (fp : List Addr) (xe : Value → Shared → Prop), PG ((X.blk s H scope (compEnvC scope cl C X.env) fp).tr [] xe) tg g)
    (ht : ∀ (s : Shared) (H : Hp) (C : Addr) (cl : List (Str × Addr)) (fp : List Addr) (xe : Value → Shared → Prop), (∀ σ : L2.St, PassesAt (CXN X.prog X.w) ((X.blk s H scope (compEnvC scope cl C X.env) fp).tr [] xe) σ E) →
      PTs ((X.blk s H scope (compEnvC scope cl C X.env) fp).tr [] xe) ifs tt)
    (he : ∀ (s : Shared) (H : Hp) (C : Addr) (cl : List (Str × Addr)) (fp : List Addr) (xe : Value → Shared → Prop), (∀ σ : L2.St, PassesAt (CXN X.prog X.w) ((X.blk s H scope (compEnvC scope cl C X.env) fp).tr [] xe) σ E) →
      PE ((X.blk s H scope (compEnvC scope cl C X.env) fp).tr [] xe) elt te)
    (hs : ∀ x, foldedSetIterable iter X.env x = pure x := by intro _; rfl) : PS X (.Assign [.Name y py] (.ListComp elt [⟨tg, iter, ifs, 0⟩] scope pos) spos) (tAsg (tLc wi g tt te (own.map (·.2))) (gName i)) := by
  refine ⟨fun pins s σ H D I h => ?_⟩
  rw [exec_Assign_Name_used _ _ _ _ hsw]
  refine wpAny_bind (wpAny_standAt (wpAny_bind ?_))
  show wpAny _ X.A (do let _ ← comprehension (.ListComp elt [⟨tg, iter, ifs, 0⟩] scope pos) scope X.env (firstIterPos [⟨tg, iter, ifs, 0⟩] pos) (newList []) false (eval iter X.env) (some (assign (.Name y py) X.env))) _ _ s
  have h : tLc wi g tt te (own.map (·.2)) σ H (fun x H1 => gName i x σ H1 D.nx) := h
  refine wpAny_bind (thn (lc_coreX (Qf := fun _ s' => SP X pins D .next s') hst hf tk hc hN I hi ok hg ht he hs h fun L C s' m H' J q hn f => ?_) fun _ _ hq => wpAny_pure (wpAny_pure hq))
  show wpAny _ _ (assign (.Name y py) X.env (.ref L)) _ _ _
  refine wpAny_assign_Name (store_ok2 (v := V.ref L) J hN hy (.inl hyl) rfl (fun s2 J2 ⟨a, sb, ha⟩ => ?_) (.inr hyl))
  have away : C ≠ a := ha.elim (fun z => z ▸ f.2.1) fun z e => f.2.2.2.2.1 y a z e.symm
  exact ⟨m, hn.sameBut sb away, fun h' sb' => ⟨_, H', J2.turned (t' := s2.toks) (fun b o hb e => (sb'.2 b hb).trans e) f.1 f.2.1 f.2.2.2.1 f.2.2.2.2.1 f.2.2.2.2.2, q⟩⟩
end
/-! ### calls within such a block -/
section
variable {X : Cx} {E : XK} {k j : Nat} {C : Addr} {x m : Str} {sp : Sp} {p pos apos : Pos} {e o : Expr} {es : List Expr} {ta : TE} {t : TA}
theorem pe_cxB (c : CalX X.prog X.w X.K X.mg X.base k x sp) (hr : Room j X.A) (hk : k ≤ j) (hx : ∀ σ : L2.St, PassesAt (CXN X.prog X.w) X σ E) (hg : Gl X x) (ha : PA X (e :: es) t)
    (hdb : (x == ("__debug__" : Str)) = false := by decide) (he : starEach (e :: es) X.env = (false, eval e X.env) :: starEach es X.env := by rfl) (hpl : (backTo pos (starEach es X.env)).any (·.1) = false := by rfl) :
    PE X (.Call (.Name x p) (e :: es) [] pos) (tCallS sp (fun _ => E) t) := by
  obtain ⟨f, fd, ps, F, hm, kp, b⟩ := c.ex
  exact pe_callS F (hr.mono hk) hg hm kp b hx ha hdb he hpl
end
end RJ
end

section
set_option maxRecDepth 100000
set_option maxHeartbeats 2000000
namespace RJ
open PySem PySem.Spec PyProof.Rows L2
section
variable {X : Cx} {E : XK} {k j : Nat} {C : Addr} {m : Str} {sp : Sp} {p pos apos : Pos} {e o : Expr} {es : List Expr} {ta : TE} {t : TA}
/-- a method that may raise, within a comprehension's block -/
theorem pe_mxB {pl : Sem Bool} (c : MetX X.prog X.w X.K X.mg X.base k C m sp) (hr : Room j X.A) (hk : k ≤ j) (hx : ∀ σ : L2.St, PassesAt (CXN X.prog X.w) X σ E) (he : PE X o ta) (ha : PA X (e :: es) t)
    (hst : starEach (e :: es) X.env = (false, eval e X.env) :: starEach es X.env := by rfl) (hpl : (backTo pos (starEach es X.env)).any (·.1) = false := by rfl)
    (ht : eval (.Call (.Attribute o m apos) (e :: es) [] pos) X.env = (do
      let ov ← eval o X.env
      standAt apos.atName
      let (f, first) ← holding [ov] (getMethod ov m pl)
      callWith pos f first (backTo pos (starEach (e :: es) X.env)) (backToKw pos (keywordEach [] X.env))) := by rfl) :
    PE X (.Call (.Attribute o m apos) (e :: es) [] pos) (tMethX C m sp (fun _ => E) ta t) := by
  obtain ⟨f, fd, ps, hc, hm, F, b⟩ := c.ex
  refine ⟨fun pins s σ H Q I h => ?_⟩
  refine PySem.W.methodCall_KW (pl := pl) (thn (he.run pins s σ H _ I h) fun u s1 ⟨x, H1, I1, rx, a, dx, fs, ex, ea, l, q⟩ => ?_) ht
  subst ex
  obtain rfl : u = Value.ref a := rx
  refine getmeth_ok I1 ea hc hm l ?_
  refine PySem.W.callWith_K (first := [.ref a]) (h₀ := X.base) I.ok.mod.kin hm.kp (thn (ha.run pos pins s1 σ H1 _ I1 q) fun us s2 ⟨vs, H2, I2, r, q2⟩ => ⟨I2.kIn, ?_⟩) hst hpl
  exact run_fnS (E := fun _ => E) (us := .ref a :: us) (vs := .ref a :: vs) F (hr.mono hk) b (hx σ) I2 (.cons rfl r) q2
end
end RJ
end

section
set_option maxRecDepth 100000
set_option maxHeartbeats 4000000
namespace PySem
/-- enumerate(v), whatever the iterator of v is -/
theorem rj_new_en {prog : Program} {w : World} (v : Value) : MeetsIn prog w (Builtin.«enumerate.__new__» ⟨[.type "enumerate", v], []⟩)
    (fun A R s => wpAny (model prog w) A.in1 (pyIter v) (fun itv s1 => R (.ok (.ret (.ref s1.heap.objs.size))) { s1 with heap := s1.heap.push { cls := .type "enumerate", data := .fields #[.none, .bool false, itv, rawInt 0, .none, .none] } }) (fun e s1 => R (.error e) s1) s) :=
  .of_wp fun A R s h => by
    have sub := sub_enumerate
    have it : ∀ {Q : Value → Shared → Prop}, (∀ itv s1, R (.ok (.ret (.ref s1.heap.objs.size))) { s1 with heap := s1.heap.push { cls := .type "enumerate", data := .fields #[.none, .bool false, itv, rawInt 0, .none, .none] } } → Q itv s1) → wpAny (model prog w) A.in1 (pyIter v) Q (fun e s1 => R (.error e) s1) s := fun q => wpAny_mono h q fun _ _ z => z
    wp_walk using it
    refine wpAny_stack_any fun _ => wpAny_pure ?_
    split
    · rename_i c _ _ _ _ _
      cases (c == Value.type "enumerate") <;> (wp_walk using it; intro itv s1 hR; wp_walk; exact ⟨_, rfl, hR⟩)
    · wp_walk using it
      intro itv s1 hR
      wp_walk
      exact ⟨_, rfl, hR⟩
end PySem
namespace PySem
section
variable {prog : Program} {w : World} {A : Around} {E : Value → Shared → Prop} {s : Shared}
theorem rj_call_en {v : Value} {Q : Value → Shared → Prop}
    (hx : wpAny (model prog w) A.in1.in1 (pyIter v) (fun itv s1 => ∀ h', h'.get? s1.heap.objs.size = some { cls := .type "enumerate", data := .fields #[.none, .bool false, itv, rawInt 0, .none, .none] } → h'.objs.size = s1.heap.objs.size + 1 →
      (∀ c o, s1.heap.get? c = some o → h'.get? c = some o) → Q (.ref s1.heap.objs.size) { s1 with heap := h' }) E s) : wpAny (model prog w) A (call (.type "enumerate") [v]) Q E s := by
  refine callType_newIn F.called_enumerate (by decide) (F.typeCall_enumerate_1 v) (F.newCall_enumerate_1 v) (fun obj => F.args_object_init_2 obj _) F.entry_enumerate_new (rj_new_en v) ?_
  show wpAny (model prog w) A.in1.in1 (pyIter v) _ _ _
  refine wpAny_mono hx (fun itv s1 h => ?_) fun _ _ z => z
  have gm : (s1.heap.push { cls := .type "enumerate", data := .fields #[.none, .bool false, itv, rawInt 0, .none, .none] }).get? s1.heap.objs.size = some { cls := .type "enumerate", data := .fields #[.none, .bool false, itv, rawInt 0, .none, .none] } := Heap.get?_push_size _ rfl
  show _ ∧ _
  exact ⟨⟨_, gm, rfl⟩, h _ gm (Heap.size_push ..) fun c o e => Heap.get?_push_of_some _ e⟩
/-- a tuple's iterator that has ended -/
def EndedT (h : Heap) (a : Addr) (i : Nat) : Prop := ∃ o, h.get? a = some o ∧ o.cls = .type "tuple_iterator" ∧ o.data = .fields #[.none, .int i 0]
theorem rj_tuple_end {it t : Addr} {i : Nat} {items : Array Value} {Q : Value → Shared → Prop} (hh : A.handled = none) (hit : s.heap.IsTupleIter it t i) (ht : s.heap.IsTuple t items) (hx : items[i]? = none)
    (hE : ∀ h' e, Heap.ExtBut it s.heap h' → EndedT h' it i → (∃ o, h'.get? e = some o ∧ o.cls = .type "StopIteration") → E (.ref e) { s with heap := h' }) : wpAny (model prog w) A (Builtin.SmallTypes.nextOf (.ref it)) Q E s := by
  obtain ⟨o, ho, hc, hd⟩ := id hit
  obtain ⟨ol, hol, _, nl, hdl⟩ := ht
  unfold Builtin.SmallTypes.nextOf
  refine wpAny_bind (wpAny_callSpecial?_slot (name := Str.ofString "__next__") hit.typeIs F.slot_tuple_iterator_next
    (wpAny_call_entry F.slot_tuple_iterator_next hit.typeIs F.entry_tuple_iterator_next ?_ (F.args_tuple_iterator_next_1 _)))
  show wpAny _ _ (field (.ref it) 0 >>= _) _ _ s
  refine wpAny_bind (wpAny_field ho hd (x := .ref t) rfl ?_)
  show wpAny _ _ (if (Value.ref t == Value.none) = true then _ else _) _ _ s
  rw [if_neg (show ¬ ((Value.ref t == Value.none) = true) from Bool.false_ne_true)]
  show wpAny _ _ (field (.ref it) 1 >>= _) _ _ s
  refine wpAny_bind (wpAny_field ho hd (x := .int i 0) rfl ?_)
  show wpAny _ _ (seqItems? (.ref t) >>= _) _ _ s
  refine wpAny_bind (wpAny_seqItems hol hdl ?_)
  simp only [Int.toNat_natCast, hx]
  refine wpAny_bind (wpAny_rule (wpAny_bind (wpAny_setField ho hd (by simp) ?_)))
  show wpAny _ _ (newExc (.type "StopIteration") [] >>= _) _ _ _
  refine wpAny_bind ?_
  simp only [newExc, newTuple]
  refine wpAny_bind (wpAny_newObj_type ?_ (by size_fits))
  refine wpAny_bind (m := firstArgMember _ _) (wpAny_of_eq (a := Value.none) (by first | rfl | (simp only [firstArgMember]; rfl)) ?_)
  refine wpAny_newObj_type ?_ (by size_fits)
  simp only [raiseNew]
  refine wpAny_bind (wpAny_handled ?_)
  first | rw [show A.in1.handled = none from hh] | rw [hh]
  refine wpAny_bind (wpAny_pure (wpAny_throw ?_))
  exact hE _ _ (((Heap.SameBut.update ..).extBut.push _).push _) ⟨_, Heap.get?_push_of_some _ (Heap.get?_push_of_some _ (Heap.get?_update_self _ ho (Obj.isFreed_of_fields (Obj.data_mapFields hd _)))), (Obj.cls_mapFields ..).trans hc, by
    rw [Obj.data_mapFields hd]; simp⟩ ⟨_, Heap.get?_push_size _ rfl, rfl⟩
theorem rj_tuple_ended {it : Addr} {i : Nat} {Q : Value → Shared → Prop} (hh : A.handled = none) (hit : EndedT s.heap it i)
    (hE : ∀ h' e, (∀ b o, s.heap.get? b = some o → h'.get? b = some o) → (∃ o, h'.get? e = some o ∧ o.cls = .type "StopIteration") → E (.ref e) { s with heap := h' }) : wpAny (model prog w) A (Builtin.SmallTypes.nextOf (.ref it)) Q E s := by
  obtain ⟨o, ho, hc, hd⟩ := id hit
  have hT : s.TypeIs (.ref it) "tuple_iterator" := ⟨o, ho, hc⟩
  unfold Builtin.SmallTypes.nextOf
  refine wpAny_bind (wpAny_callSpecial?_slot (name := Str.ofString "__next__") hT F.slot_tuple_iterator_next
    (wpAny_call_entry F.slot_tuple_iterator_next hT F.entry_tuple_iterator_next ?_ (F.args_tuple_iterator_next_1 _)))
  show wpAny _ _ (field (.ref it) 0 >>= _) _ _ s
  refine wpAny_bind (wpAny_field ho hd (x := .none) rfl ?_)
  show wpAny _ _ (if (Value.none == Value.none) = true then _ else _) _ _ s
  rw [if_pos (show ((Value.none == Value.none) = true) from rfl)]
  refine wpAny_bind (wpAny_rule (wpAny_bind ?_))
  show wpAny _ _ (newExc (.type "StopIteration") [] >>= _) _ _ _
  refine wpAny_bind ?_
  simp only [newExc, newTuple]
  refine wpAny_bind (wpAny_newObj_type ?_ (by size_fits))
  refine wpAny_bind (m := firstArgMember _ _) (wpAny_of_eq (a := Value.none) (by first | rfl | (simp only [firstArgMember]; rfl)) ?_)
  refine wpAny_newObj_type ?_ (by size_fits)
  simp only [raiseNew]
  refine wpAny_bind (wpAny_handled ?_)
  first | rw [show A.in1.handled = none from hh] | rw [hh]
  refine wpAny_bind (wpAny_pure (wpAny_throw ?_))
  exact hE _ _ (fun b o e => Heap.get?_push_of_some _ (Heap.get?_push_of_some _ e)) ⟨_, Heap.get?_push_size _ rfl, rfl⟩
theorem rj_enum_end {e it : Addr} {i : Int} {old : Value} {G : Heap → Prop} {Q : Option Value → Shared → Prop} (he : IsEnum s.heap e it i old)
    (hn : ∀ (Q E : Value → Shared → Prop), (∀ h' x, G h' → (∃ o, h'.get? x = some o ∧ o.cls = .type "StopIteration") → E (.ref x) { s with heap := h' }) → wpAny (model prog w) A.in1 (Builtin.SmallTypes.nextOf (.ref it)) Q E s)
    (hQ : ∀ h', G h' → Q none { s with heap := h' }) : wpAny (model prog w) A (pyNext (.ref e)) Q E s := by
  have hT : s.TypeIs (.ref e) "enumerate" := ⟨_, he, rfl⟩
  unfold pyNext
  refine wpAny_bind (wpAny_attempt (wpAny_callSpecial?_slot (name := Str.ofString "__next__") hT F.slot_enumerate_next
    (wpAny_call_entry F.slot_enumerate_next hT F.entry_enumerate_next ?_ (F.args_enumerate_next_1 _))))
  show wpAny _ _ (field (.ref e) 2 >>= _) _ _ _
  refine wpAny_bind (wpAny_field he rfl (x := .ref it) rfl ?_)
  refine wpAny_bind (hn _ _ fun h' x he' hx' => ?_)
  obtain ⟨o, ho, hc⟩ := hx'
  refine wpAny_bind (wpAny_isInstance (T := "StopIteration") (b := true) ⟨o, ho, hc⟩ isSubtype_stop ?_)
  exact wpAny_pure (hQ _ he')
end
end PySem
namespace PySem
section
variable {prog : Program} {w : World} {A : Around} {E : Value → Shared → Prop} {s : Shared}
theorem rj_call_iterT {l : Addr} {items : Array Value} {Q : Value → Shared → Prop} (hl : s.heap.IsTuple l items) (h : Q (.ref s.heap.objs.size) { s with heap := s.heap.push { cls := .type "tuple_iterator", data := .fields #[.ref l, .int 0 0] } }) : wpAny (model prog w) A (call (.builtin "iter") [.ref l]) Q E s := by
  refine Calls.call_function_entry (by decide +kernel) (by decide +kernel) PySem.W.kdk_entry_iter (PySem.W.kdk_args_iter _) ?_
  unfold Builtin.«iter»
  refine wpAny_bind (m := someArgs "iter" 1 2 _) (wpAny_of_eq (a := [Value.ref l]) (by first | rfl | kernel_rfl!) ?_)
  show wpAny _ _ (pyIter (.ref l) >>= _) _ _ _
  refine wpAny_bind (wpAny_pyIter_tuple hl ?_)
  exact wpAny_pure ⟨_, rfl, h⟩
end
end PySem
namespace RJ
open PySem PySem.Spec PyProof.Rows L2
/-! ### the walk over an own object that gives a tuple's iterator, by enumerate -/
/-- an iterator of the tuple at t, of n items, that has given i -/
def TupI (it t : Addr) (n i : Nat) : HO := .ext fun h => h.IsTupleIter it t i ∨ (n ≤ i ∧ EndedT h it i)
theorem tupI_ok {P : Program} {w : World} {H : Hp} {h : Heap} {it t : Addr} {n i : Nat} (e : h.IsTupleIter it t i ∨ (n ≤ i ∧ EndedT h it i)) : ObjOk P w H h it (TupI it t n i) := by
  refine ⟨e, ?_, fun h1 h2 q k => ?_⟩
  · rcases e with ⟨o, ho, _⟩ | ⟨_, o, ho, _⟩
    · exact ⟨o, ho⟩
    · exact ⟨o, ho⟩
  · rcases q with ⟨o, ho, r⟩ | ⟨l, o, ho, r⟩
    · exact .inl ⟨o, k _ ho, r⟩
    · exact .inr ⟨l, o, k _ ho, r⟩
/-- iter(t), t a tuple -/
def rIterT : List V → Hp → VK → Prop := fun xs H Q => ∃ (l : Addr) (zs : List V), xs = [.ref l] ∧ H l = some (.tup zs) ∧ ∀ it, H it = none → Q (.ref it) (upd H it (TupI it l zs.length 0))
theorem call_iterT {X : Cx} : CallR X (.builtin "iter") rIterT := by
  intro pins s σ H xs us Q I r h
  obtain ⟨l, zs, rfl, hq, q⟩ := h
  obtain rfl := Vals.ref1 r
  obtain ⟨its, rv, pl, hz⟩ := I.tuple (SqT.of hq)
  refine rj_call_iterT pl ?_
  exact ⟨.ref s.heap.objs.size, _, I.laid (t' := s.toks) (fun b u e => Heap.get?_push_of_some _ e) (Nat.le_refl _) (tupI_ok (.inl ⟨_, Heap.get?_push_size _ rfl, rfl, rfl⟩)), rfl, q _ (I.hok.fresh (Nat.le_refl _))⟩
/-- each turn gives a new tuple (its number, the item) -/
def ItEO (it0 pa : Addr) (xs : List V) : It :=
  ⟨fun i H => H pa = some (.tup xs) ∧ H it0 = some (TupI it0 pa xs.length i) ∧ i < xs.length,
   fun i H v H' => ∃ T x, v = .ref T ∧ H T = none ∧ xs[i]? = some x ∧ H' = upd (upd H it0 (TupI it0 pa xs.length (i + 1))) T (.tup [.int (i : Nat), x]),
   fun i H => H pa = some (.tup xs) ∧ H it0 = some (TupI it0 pa xs.length i) ∧ i = xs.length⟩
def EnumO (e it0 : Addr) (i : Nat) (h : Heap) : Prop := (∃ old, IsEnum h e it0 ((i : Nat) : Int) old) ∧ e ≠ it0
theorem turn_enumO {P : Program} {w : World} {K : PySem.W.Frag} {elts : List Expr} {kk : Nat} {tpos : Pos} {e it0 pa : Addr} {xs : List V} : Turn P w K (.Tuple elts kk tpos) (ItEO it0 pa xs) [e] e (EnumO e it0) where
  mem := List.mem_cons_self ..
  obj := fun i h ⟨⟨_, a⟩, _⟩ b hb => by rw [List.mem_singleton.mp hb]; exact ⟨_, a, fun _ q => nomatch q⟩
  keep := fun i h h' ⟨⟨old, a⟩, n⟩ k => ⟨⟨old, k e (by simp) _ a⟩, n⟩
  item := by
    rintro X hP hw hK hc i pins s σ H E I hf ⟨⟨old, he⟩, hne⟩ ⟨hpa, hit, hlt⟩
    subst hP hw hK
    have hfe := hf e (by simp)
    have hne2 : pa ≠ it0 := fun z => by rw [z, hit] at hpa; cases hpa
    obtain ⟨its, rv, p, _⟩ := I.tuple (SqT.of hpa)
    have hl := rv.length
    have esz : its.toArray.size = xs.length := by simp [hl]
    have DD := Draws.tuple (prog := X.prog) (w := X.w) (A := X.A.in1) (I.ok.hd hc) it0 pa hne2 its.toArray
    rw [esz] at DD
    have hex : s.heap.IsTupleIter it0 pa i := by
      rcases (I.hok it0 _ hit).1 with q | ⟨q, _⟩
      · exact q
      · omega
    have apart : e ∉ [it0, pa] := fun z => by
      rcases List.mem_cons.mp z with z | z
      · exact hne z
      · rw [← List.mem_singleton.mp z, hfe.1] at hpa; cases hpa
    refine wpAny_pyNext_enum_itemC DD he ⟨hex, p⟩ hlt hne apart fun u h' tk hu ho j1 hT _ hk => ⟨_, rfl, ?_⟩
    obtain ⟨x, hx, ru⟩ : ∃ x, xs[i]? = some x ∧ RelV x u := by
      have q' : its[i]? = some u := by simpa using hu
      obtain ⟨u', hu', ru⟩ := rv.get (List.getElem?_eq_getElem hlt)
      rw [q'] at hu'
      cases hu'
      exact ⟨_, List.getElem?_eq_getElem hlt, ru⟩
    refine wpAny_letOwnedTupleGo_enum (s := { s with heap := h', toks := tk + 1 }) ho fun g zg sg => ?_
    have on : ∀ {c : Addr} {o : Obj}, c ≠ e → h'.get? c = some o → g.get? c = some o := fun n a => (sg.2 _ n).trans a
    have elt : e < s.heap.objs.size := Heap.lt_size he
    have ilt : it0 < s.heap.objs.size := by obtain ⟨o, ho, _⟩ := hex; exact Heap.lt_size ho
    have hgT := on (Nat.ne_of_gt elt) hT
    have hgi : g.IsTupleIter it0 pa (i + 1) := by
      obtain ⟨o, ho, r⟩ := j1.1
      exact ⟨o, on (Ne.symm hne) ho, r⟩
    have next : IsEnum g e it0 ((i + 1 : Nat) : Int) u := by rw [show ((i + 1 : Nat) : Int) = (i : Int) + 1 by omega]; exact zg
    have fT : H s.heap.objs.size = none := I.hok.fresh (Nat.le_refl _)
    have kk : ∀ b o, b ≠ e → b ≠ it0 → s.heap.get? b = some o → g.get? b = some o := fun b o h1 h2 q => on h1 (hk b o h1 h2 q)
    generalize hT0 : s.heap.objs.size = T at hgT fT
    have nT : ∀ b o, s.heap.get? b = some o → b ≠ T := fun b o q => by rw [← hT0]; exact Nat.ne_of_lt (Heap.lt_size q)
    obtain ⟨H2, hH2⟩ : ∃ H2, H2 = upd (upd H it0 (TupI it0 pa xs.length (i + 1))) T (.tup [.int (i : Nat), x]) := ⟨_, rfl⟩
    have h2T : H2 T = some (.tup [.int (i : Nat), x]) := by rw [hH2]; exact upd_same
    have h2i : H2 it0 = some (TupI it0 pa xs.length (i + 1)) := by rw [hH2, upd_ne (fun z => by rw [z, fT] at hit; cases hit)]; exact upd_same
    have h2o : ∀ b, b ≠ it0 → b ≠ T → H2 b = H b := fun b h1 h2 => by rw [hH2, upd_ne h2, upd_ne h1]
    have nob : ∀ b u, H b = some u → b ≠ T := fun b u q z => by rw [z, fT] at q; cases q
    have J : Inv X pins σ H2 { s with heap := g, gens := s.gens, drawn := s.drawn, toks := tk + 1 } := by
      refine I.call (ch := [e]) ⟨fun b o q n hb hc => ?_, fun b o q n hb hc => ?_, fun b o q n hc => ?_, fun b o q hc => ?_, fun b ys q => ?_, fun b o u q => ?_, fun b ps q => ?_⟩ (fun b u q => ?_) I.bare (fun b hb => ?_)
      · exact kk b o (fun z => hc (by simp [z])) (fun z => by rw [z, hit] at n; cases n) q
      · exact ⟨o.slots, kk b o (fun z => hc (by simp [z])) (fun z => by rw [z, hit] at n; cases n) q⟩
      · rw [h2o b (fun z => by rw [z, hit] at n; cases n) (nT b o q)]; exact n
      · by_cases z : b = it0
        · obtain ⟨o', q', _⟩ := hgi
          exact ⟨o', by rw [z]; exact q'⟩
        · exact ⟨o, kk b o (fun z => hc (by simp [z])) z q⟩
      · rw [h2o b (fun z => by rw [z, hit] at q; cases q) (nob b _ q)]; exact q
      · rw [h2o b (fun z => by rw [z, hit] at q; cases q) (nob b _ q)]; exact q
      · exact ⟨#[], by rw [h2o b (fun z => by rw [z, hit] at q; cases q) (nob b _ q), q]; simp⟩
      · by_cases z1 : b = T
        · subst z1
          rw [h2T] at q
          cases q
          exact ⟨by show 2 ≤ sizeLine; decide, [.int i tk, u], .cons ⟨_, rfl⟩ (.cons ru .nil), ⟨_, hgT, rfl, _, rfl⟩⟩
        · by_cases z2 : b = it0
          · subst z2
            rw [h2i] at q
            cases q
            exact tupI_ok (.inl hgi)
          · rw [h2o b z2 z1] at q
            refine (I.hok b u q).stay (fun c v hc q' => ?_) (fun c q' => ?_) fun c ys q' => ?_
            · rcases hc with hc | hc
              · subst hc
                exact kk c v (fun z => by rw [z, hfe.1] at q; cases q) z2 q'
              · exact kk c v (fun z => by rw [z, hfe.1] at hc; cases hc) (fun z => by rw [z, hit] at hc; cases hc) q'
            · rw [h2o c (fun z => by rw [z, hit] at q'; cases q') (nob c _ q')]; exact q'
            · rw [h2o c (fun z => by rw [z, hit] at q'; cases q') (nob c _ q')]; exact q'
      · rw [List.mem_singleton.mp hb]
        exact ⟨hfe.2.2.2.1, hfe.2.1, hfe.2.2.2.2.1, hfe.2.2.2.2.2⟩
    have hH3 : H2 e = none := by rw [h2o e hne (nT e _ he)]; exact hfe.1
    rw [hH2] at J hH3
    exact ⟨.ref T, _, J, rfl, ⟨T, x, rfl, fT, hx, rfl⟩, ⟨⟨u, next⟩, hne⟩, fun c hcm => by rw [List.mem_singleton.mp hcm]; exact hH3⟩
  done := by
    rintro X hP hw hK hc i pins s σ H E I hf ⟨⟨old, he⟩, hne⟩ ⟨hpa, hit, hge⟩
    subst hP hw hK
    have hfe := hf e (by simp)
    have hne2 : pa ≠ it0 := fun z => by rw [z, hit] at hpa; cases hpa
    obtain ⟨its, rv, p, _⟩ := I.tuple (SqT.of hpa)
    have hl := rv.length
    have back : ∀ h' : Heap, (∀ b o, b ≠ it0 → s.heap.get? b = some o → h'.get? b = some o) → EndedT h' it0 i → Inv X pins σ H { s with heap := h', gens := s.gens, drawn := s.drawn, toks := s.toks } := by
      intro h' kk en
      refine I.call (ch := []) ⟨fun b o q n hb _ => kk b o (fun z => by rw [z, hit] at n; cases n) q, fun b o q n hb _ => ⟨o.slots, kk b o (fun z => by rw [z, hit] at n; cases n) q⟩, fun b o q n _ => n, fun b o q _ => ?_, fun b ys q => q, fun b o u q => q, fun b ps q => ⟨#[], by rw [q]; simp⟩⟩ (fun b u q => ?_) I.bare (fun b hb => nomatch hb)
      · by_cases z : b = it0
        · obtain ⟨o', q', _⟩ := en
          exact ⟨o', by rw [z]; exact q'⟩
        · exact ⟨o, kk b o z q⟩
      · by_cases z2 : b = it0
        · subst z2
          rw [hit] at q
          cases q
          exact tupI_ok (.inr ⟨Nat.le_of_eq hge.symm, en⟩)
        · refine (I.hok b u q).stay (fun c v hc q' => ?_) (fun c q' => q') fun c ys q' => q'
          rcases hc with hc | hc
          · subst hc; exact kk c v z2 q'
          · exact kk c v (fun z => by rw [z, hit] at hc; cases hc) q'
    refine rj_enum_end (G := fun h' => (∀ b o, b ≠ it0 → s.heap.get? b = some o → h'.get? b = some o) ∧ EndedT h' it0 i) he (fun Q E hE => ?_) fun h' ⟨g1, g2⟩ => ⟨rfl, back h' g1 g2⟩
    rcases (I.hok it0 _ hit).1 with q | ⟨_, q⟩
    · exact rj_tuple_end (A := X.A.in1) (I.ok.hd hc) q p (by rw [List.getElem?_toArray]; exact List.getElem?_eq_none (by omega)) fun h' x eb en st => hE h' x ⟨fun b o nb qq => eb b o nb qq, en⟩ st
    · refine rj_tuple_ended (A := X.A.in1) (I.ok.hd hc) q fun h' x kk st => hE h' x ⟨fun b o _ qq => kk b o qq, ?_⟩ st
      obtain ⟨o, ho, r⟩ := q
      exact ⟨o, kk _ _ ho, r⟩
  self := fun A i s Q E st h => by
    obtain ⟨⟨_, he⟩, _⟩ := st
    exact wpAny_pyIter_enum he h
/-- enumerate(o), o an instance whose __iter__ gives a tuple's iterator -/
def iEnumO (C : Addr) (sp : Sp) (ta : TA) : TI := fun σ H R => ta σ H fun vs H1 => ∃ a dx fs, vs = [.ref a] ∧ H1 a = some (.ins C dx fs) ∧ sp [.ref a] H1 (fun v H2 => ∃ it0 pa xs, v = .ref it0 ∧ H2 it0 = some (TupI it0 pa xs.length 0) ∧ R (ItEO it0 pa xs) H2) C8.E0
theorem pi_enumO {X : Cx} {e : Expr} {ta : TA} {p pos tpos : Pos} {elts : List Expr} {kk k j : Nat} {C : Addr} {sp : Sp} (hg : Gl X "enumerate") (hm : X.mg "enumerate" = none) (c : C8.Met X.prog X.w X.K X.mg X.base k C "__iter__" sp []) (hr : Room j X.A) (hk : k + 2 ≤ j) (ha : PA X [e] ta) (hs : starEach [e] X.env = [(false, eval e X.env)] := by rfl) :
    PI X (.Tuple elts kk tpos) (.Call (.Name "enumerate" p) [e] [] pos) (iEnumO C sp ta) := by
  obtain ⟨f, fd, ps, ds, hc, hmt, F, b, d⟩ := c.ex
  cases d
  refine ⟨fun pins s σ H R I h => ?_⟩
  refine Call_ (ld_blt I hg hm boot_enumerate (PyProof.Rows.callWith_type1 (thn (ha.run pos pins s σ H _ I h) fun us s1 ⟨vs, H1, I1, r1, q1⟩ => ?_) hs rfl))
  obtain ⟨a, dx, fs, ex, ea, q⟩ := q1
  subst ex
  obtain rfl := Vals.ref1 r1
  refine rj_call_en ?_
  obtain ⟨mA, J, _⟩ := ins_get I1.hok ea
  obtain ⟨od, J, _⟩ := J.look
  obtain ⟨m, hF⟩ := I1.fr
  refine PySem.W.owit_iter hF I1.ok.mod.kin J hmt.at_ hmt.fn ?_
  have rm : Room k X.A.in1.in1 := (hr.mono hk).in1.in1
  have e0 : Env0 X.prog X.w X.K X.mg X.base X.A.in1.in1 X.stack s1 H1 := by
    have e := I1.env0
    exact ⟨e.frames, e.mod, e.bs, e.bsz, e.funs, e.frf, e.hok, e.bare⟩
  have hl := F.len _ _ _ _ q
  have r2 : Vals [V.ref a] [Value.ref a] := .cons rfl .nil
  refine wpAny_call (codeAny_mono (F.run X.A.in1.in1 X.stack s1 H1 ⟨[.ref a], []⟩ [.ref a] [.ref a] _ C8.E0 rm e0 (by
    have := b s1 [.ref a] I1.kIn (by simpa using hl)
    simpa using this) r2 q) fun r s' hq' => ?_)
  cases r with
  | error e => exact hq'.elim
  | ok fl =>
    cases fl with
    | next => exact False.elim hq'
    | brk => exact False.elim hq'
    | cont => exact False.elim hq'
    | ret u =>
      obtain ⟨v, H2, I2, rv, it0, pa, xs, ev, ei, hR⟩ := I1.after hq'
      subst ev
      cases rv
      have hT : s'.TypeIs (.ref it0) "tuple_iterator" := by
        rcases (I2.hok it0 _ ei).1 with ⟨o, ho, hc, _⟩ | ⟨_, o, ho, hc, _⟩
        · exact ⟨o, ho, hc⟩
        · exact ⟨o, ho, hc⟩
      unfold PySem.W.OwitIt
      refine wpAny_specialOf (name := Str.ofString "__next__") hT PySem.F.slot_tuple_iterator_next.lookup ?_
      intro h' he hsz hk'
      have he' : IsEnum h' s'.heap.objs.size it0 0 .none := he
      refine wpAny_pyIter_enum (s := { s' with heap := h' }) he' ?_
      have I3 : Inv X pins σ H2 { s' with heap := h' } := I2.kept (t' := s'.toks) hk'
      have ilt : it0 < s'.heap.objs.size := by obtain ⟨o, ho, _⟩ := hT; exact Heap.lt_size ho
      refine ⟨s'.heap.objs.size, [s'.heap.objs.size], _, _, H2, rfl, I3, turn_enumO, ⟨⟨.none, he'⟩, Nat.ne_of_gt ilt⟩, fun c hc => ?_, hR⟩
      rw [List.mem_singleton.mp hc]
      exact I2.fpOk (Nat.le_refl _) (I2.hok.fresh (Nat.le_refl _))
end RJ
end

section
set_option maxRecDepth 100000
set_option maxHeartbeats 4000000
namespace RJ
open PySem PySem.Spec PyProof.Rows L2
/-! ### a tuple whose object is known, and the dict of its pairs -/
def kTupF (K : PySem.W.Frag) (x : V) (H : Hp) (Q : VK) : Prop := ∃ p xs, x = .ref p ∧ SqL K H p xs ∧ ∀ (q : Addr) (o : Obj), H q = none → o.dict = none → Q (.ref q) (upd H q (.frz o (.tup xs)))
section
variable {X : Cx}
theorem rl_tupleF (pins : List (Addr × Obj)) (s : Shared) (σ : L2.St) (H : Hp) (x : V) (v : Value) (Q : VK) (I : Inv X pins σ H s) (r : RelV x v) (h : kTupF X.K x H Q) :
    wpAny (model X.prog X.w) X.A (call (.type "tuple") [v]) (EP X pins σ Q) X.xe s := by
  obtain ⟨p, xs, rfl, hs, q⟩ := h
  obtain rfl : v = .ref p := r
  obtain ⟨its, rv, pl, hz⟩ := I.list hs
  refine call_tuple_list pl.isList (fun h' hk => ?_) (by rw [List.size_toArray, ← rv.length]; exact hz)
  have I1 : Inv X pins σ H { s with heap := h' } := I.kept (t' := s.toks) hk
  have e0 : (h'.push { cls := .type "tuple", data := .seq its.toArray }).get? h'.objs.size = some { cls := .type "tuple", data := .seq its.toArray } := Heap.get?_push_size _ rfl
  have I2 : Inv X pins σ (upd H h'.objs.size (.frz { cls := .type "tuple", data := .seq its.toArray } (.tup xs))) { s with heap := h'.push { cls := .type "tuple", data := .seq its.toArray } } :=
    I1.laid (t' := s.toks) (fun b o e => Heap.get?_push_of_some _ e) (Nat.le_refl _) (show ObjOk X.prog X.w _ _ _ (.frz _ (.tup xs)) from ⟨e0, hz, its, rv, IsTup.new _ _⟩)
  exact ⟨.ref h'.objs.size, _, I2, rfl, q _ _ (I1.hok.fresh (Nat.le_refl _)) rfl⟩
theorem pe_tupleOfF {a : Expr} {ta : TE} {p pos : Pos} (hg : Gl X "tuple") (hm : X.mg "tuple" = none) (ha : PE X a ta) (na : starEach [a] X.env = (false, eval a X.env) :: starEach [] X.env := by rfl) :
    PE X (.Call (.Name "tuple" p) [a] [] pos) (tThen ta (kTupF X.K)) := by
  refine ⟨fun pins s σ H Q I h => ?_⟩
  exact Call_ (ld_blt I hg hm boot_tuple (PyProof.Rows.callWith_type1 (one_arg ha I h (fun v s2 x H2 I2 r q => rl_tupleF pins s2 σ H2 x v Q I2 r q) na) na))
theorem pairs_vals {pins : List (Addr × Obj)} {σ : L2.St} {H : Hp} {s : Shared} (I : Inv X pins σ H s) : ∀ {ps : List Addr} {kvs : List (Key × V)}, Paired (fun p kv => SqT X.K H p [kV kv.1, kv.2]) ps kvs →
    ∃ (prs : List (Key × Value)) (vps : List (Value × Value)), KV kvs prs ∧ prs.length = ps.length ∧ vps.length = ps.length ∧ ∀ (j : Nat) (q : Key × Value), prs[j]? = some q → ∃ (b : Addr) (u : Value), ps[j]? = some b ∧ vps[j]? = some (u, q.2) ∧ IsTup s.heap b #[u, q.2] ∧ (mixKind X.prog X.w).is q.1 u = true
  | _, _, .nil => ⟨[], [], .nil, rfl, rfl, fun j q e => by simp at e⟩
  | _, _, .cons (a := p) (b := kv) h t => by
    obtain ⟨prs, vps, r, hl, hl2, hp⟩ := pairs_vals I t
    obtain ⟨its, rv, ht, _⟩ := I.tuple h
    obtain ⟨u, y, ei, ru, ry⟩ := vals2 rv
    subst ei
    refine ⟨(kv.1, y) :: prs, (u, y) :: vps, .cons ⟨rfl, ry⟩ r, by rw [List.length_cons, List.length_cons, hl], by rw [List.length_cons, List.length_cons, hl2], fun j q e => ?_⟩
    cases j with
    | zero =>
      have e' : (kv.1, y) = q := Option.some.inj e
      subst e'
      exact ⟨p, u, rfl, rfl, ht, kV_is (P := X.prog) (w := X.w) ru⟩
    | succ j =>
      obtain ⟨b, u', e1, e2, e3, e4⟩ := hp j q (by simpa using e)
      exact ⟨b, u', by simpa using e1, by simpa using e2, e3, e4⟩
/-- dict(t), t a known tuple of pairs -/
def rDictT (K : PySem.W.Frag) : List V → Hp → VK → Prop := fun xs H Q => ∃ (a : Addr) (o : Obj) (ps : List Addr) (kvs : List (Key × V)), xs = [.ref a] ∧ H a = some (.frz o (.tup (ps.map V.ref))) ∧ o.dict = none ∧ Paired (fun p kv => SqT K H p [kV kv.1, kv.2]) ps kvs ∧
  ∀ p, H p = none → Q (.ref p) (upd H p (.dK (mergeK [] kvs)))
theorem call_dictT (hcalm : X.calm = true) : CallR X (.type "dict") (rDictT X.K) := by
  intro pins s σ H xs us Q I r q
  obtain ⟨a, o, ps, kvs, ex, ha, hd, hp, q⟩ := q
  subst ex
  obtain ⟨u, eu, rx⟩ := vals1 r
  subst eu
  cases rx
  obtain ⟨he, hz, its, rv, o', ho', hc, n, hdat⟩ : s.heap.get? a = some o ∧ ObjOk X.prog X.w H s.heap a (.tup (ps.map V.ref)) := I.hok a _ ha
  rw [he] at ho'
  cases ho'
  have ei := refs_at rv
  subst ei
  rw [List.length_map] at hz
  obtain ⟨prs, vps, rel, hl, hl2, hpr⟩ := pairs_vals I hp
  have hitem : ∀ j k v, vps[j]? = some (k, v) → ∃ q : Key × Value, prs[j]? = some q ∧ q.2 = v ∧ (mixKind X.prog X.w).is q.1 k = true ∧ ∃ b, ps[j]? = some b ∧ IsTup s.heap b #[k, v] := fun j k v e => by
    have hj : j < prs.length := by rw [hl, ← hl2]; exact (List.getElem?_eq_some_iff.mp e).1
    obtain ⟨b, u, e1, e2, e3, e4⟩ := hpr j prs[j] (List.getElem?_eq_getElem hj)
    rw [e] at e2
    obtain ⟨rfl, rfl⟩ := Prod.mk.inj (Option.some.inj e2)
    exact ⟨_, List.getElem?_eq_getElem hj, rfl, e4, b, e1, e3⟩
  refine PySem.call_dict_pairs (knd := mixKind X.prog X.w) (kvs := prs) (PairArg.tuple a (ps.map Value.ref).toArray (fun j => (ps[j]?).getD 0) vps) (I.ok.hd hcalm) ⟨⟨o, n, he, hc, hd, hdat⟩, by simp [hl2], fun j k v e => ?_⟩ ⟨by rw [hl, hl2], fun i key v e => ?_⟩ (by rw [hl2]; exact hz) fun h' tk hd' k => ?_
  · obtain ⟨_, _, _, _, b, eb, et⟩ := hitem j k v e
    exact ⟨by simp [eb], .inl (by have et' : s.heap.IsTuple b #[k, v] := et; simpa [eb] using et')⟩
  · obtain ⟨q', e1, e2, e3, _⟩ := hitem i key v e
    exact ⟨q'.1, by rw [e1, ← e2], e3⟩
  · have hm : (s.heap.objs.size == sysModules) = false := beq_eq_false_iff_ne.mpr (Nat.ne_of_gt I.big)
    have hlen : (mergeK [] kvs).length ≤ sizeLine := by
      refine Nat.le_trans (length_mergeK kvs []) ?_
      rw [List.length_nil, Nat.zero_add, rel.length, hl]
      exact hz
    exact ⟨.ref s.heap.objs.size, upd H s.heap.objs.size (.dK (mergeK [] kvs)), I.laid (t' := tk) (fun b o e => k b o (by simp) e) (Nat.le_refl _) (show ObjOk X.prog X.w _ _ _ (.dK (mergeK [] kvs)) from ⟨hlen, hm, merged [] prs, KV.merge rel .nil, hd'⟩), rfl, q _ (I.hok.fresh (Nat.le_refl _))⟩
end
end RJ
namespace RJ
open PySem PySem.Spec PyProof.Rows L2
/-! ### a property -/
structure PrpC (P : Program) (w : World) (K : PySem.W.Frag) (mg : Str → Option Value) (base : Heap) (k : Nat) (C : Addr) (m : Str) (sp : Sp) : Prop where
  ex : ∃ (p g : Addr) (fd : FuncData) (ps : List Str), Cls K C ∧ PropOf K C m p g ∧ FnOk P w K mg base C8.CX0 k g fd ps sp ∧ Binds K fd ps []
theorem pe_prp {X : Cx} {k j : Nat} {C : Addr} {m : Str} {sp : Sp} {e : Expr} {ta : TE} {pos : Pos} (c : PrpC X.prog X.w X.K X.mg X.base k C m sp) (hr : Room j X.A) (hk : k + 1 ≤ j) (he : PE X e ta)
    (hab : attributeBase e m X.env (eval e X.env) = eval e X.env := by rfl) : PE X (.Attribute e m pos) (tProp C sp [] C8.E0 ta) := by
  obtain ⟨p, g, fd, ps, hc, hp, F, b⟩ := c.ex
  exact pe_prop he hc hp F (hr.mono hk) b .nil C8.pass0 hab
end RJ
namespace RJ
open PySem PySem.Spec PyProof.Rows L2
theorem call_dictTK {X : Cx} {K : PySem.W.Frag} (h : X.K = K) (hc : X.calm = true) : CallR X (.type "dict") (rDictT K) := h ▸ call_dictT hc
/-- an item of a list, ahead of a store -/
def rGetL : V → V → Hp → VK → Prop := fun x y H Q => ∃ (p : Addr) (xs : List V) (k : Nat) (v : V), x = .ref p ∧ y = .int (k : Int) ∧ H p = some (.lst xs) ∧ xs[k]? = some v ∧ Q v H
theorem get_listN {X : Cx} : PGet X rGetL := by
  intro pins s σ H o i ov iv Q I ro ri h
  obtain ⟨p, xs, k, z, rfl, rfl, hp, he, q⟩ := h
  cases ro
  obtain ⟨t, rfl⟩ := ri
  obtain ⟨its, r, pl, hz⟩ := I.list (SqL.of hp)
  obtain ⟨w, ew, rw'⟩ := r.get he
  have hl := r.length
  have hn := line63
  have hk : k < xs.length := (List.getElem?_eq_some_iff.mp he).1
  exact wpAny_getItem_list pl.isList (Int.natCast_nonneg _) (by omega) (by rw [Int.toNat_natCast]; simpa using ew) ⟨z, H, I, rw', q⟩
end RJ
end

section
set_option maxRecDepth 100000
set_option maxHeartbeats 2000000
namespace RJ
open PySem PySem.Spec PyProof.Rows L2
/-! ### bits -/
theorem bit_sub_and : ∀ (q x c : Nat), (x - (x &&& c)).testBit q = (x.testBit q && !c.testBit q)
  | 0, x, c => by
    have h1 : (x &&& c) % 2 = 1 ↔ x % 2 = 1 ∧ c % 2 = 1 := Nat.and_mod_two_eq_one
    have h2 : (x &&& c) / 2 = x / 2 &&& c / 2 := Nat.and_div_two
    have h3 : x / 2 &&& c / 2 ≤ x / 2 := Nat.and_le_left
    rw [Nat.testBit_zero, Nat.testBit_zero, Nat.testBit_zero, Bool.eq_iff_iff, Bool.and_eq_true, Bool.not_eq_true', decide_eq_true_eq, decide_eq_true_eq, decide_eq_false_iff_not]
    omega
  | q + 1, x, c => by
    have h1 : (x &&& c) % 2 = 1 ↔ x % 2 = 1 ∧ c % 2 = 1 := Nat.and_mod_two_eq_one
    have h2 : (x &&& c) / 2 = x / 2 &&& c / 2 := Nat.and_div_two
    have h3 : x / 2 &&& c / 2 ≤ x / 2 := Nat.and_le_left
    rw [Nat.testBit_succ, Nat.testBit_succ, Nat.testBit_succ, ← bit_sub_and q (x / 2) (c / 2)]
    congr 1
    omega
/-- x & ~c -/
theorem bitAnd_not (x c : Nat) : Builtin.bitAnd (x : Int) (Builtin.bitNot (c : Int)) = ((x - (x &&& c) : Nat) : Int) := by
  have e1 : decide (0 ≤ (x : Int)) = true := decide_eq_true (Int.natCast_nonneg _)
  have e2 : decide (0 ≤ Builtin.bitNot (c : Int)) = false := decide_eq_false (by unfold Builtin.bitNot; omega)
  have e3 : (Builtin.bitNot (Builtin.bitNot (c : Int))).toNat = c := by unfold Builtin.bitNot; omega
  unfold Builtin.bitAnd
  rw [e1, e2]
  show (x : Int) - (((x : Int).toNat &&& (Builtin.bitNot (Builtin.bitNot (c : Int))).toNat : Nat) : Int) = _
  rw [e3, Int.toNat_natCast]
  have : x &&& c ≤ x := Nat.and_le_left
  omega
/-- (x >> q) & 1 == 1 -/
theorem bit_one (x q : Nat) : Builtin.bitAnd ((x : Int) / 2 ^ q) 1 = ((x / 2 ^ q % 2 : Nat) : Int) := by
  rw [bitAnd_m1, show ((2 : Int) ^ q) = (((2 ^ q : Nat)) : Int) by rw [Int.natCast_pow]; rfl, ← Int.natCast_ediv]
  omega
/-- a bit is put on top -/
theorem bit_add {c j q : Nat} (hc : c < 2 ^ j) (hq : q ≤ j) : (c + 2 ^ j).testBit q = (if q = j then true else c.testBit q) := by
  rw [Nat.add_comm]
  by_cases e : q = j
  · subst e
    rw [if_pos rfl, Nat.testBit_two_pow_add_eq, Nat.testBit_lt_two_pow hc]; rfl
  · rw [if_neg e, Nat.testBit_two_pow_add_gt (by omega)]
/-! ### spines as dicts -/
section
variable {b : Nat} {ps : List (Nat × Nat)} {sd : Nat × Nat → Nat}
theorem Spn.le (hs : Side sd) (hw : WF b ps) {x y : Nat} {bd : Option Nat} (h : Spn b ps sd x y bd) : y ≤ x ∧ (bd ≠ none → y < x) := by
  induction h with
  | self => exact ⟨Nat.le_refl _, fun h => absurd rfl h⟩
  | step h1 hp ih =>
    rename_i j p bd
    have := hw j p hp
    have h2 := hs p
    have : sd p < b + j := by rcases h2 with e | e <;> rw [e] <;> omega
    exact ⟨by omega, fun _ => by omega⟩
theorem Spn.top {x y k : Nat} (h : Spn b ps sd x y (some k)) : ∃ j p, x = b + j ∧ ps[j]? = some p := by
  have : ∀ {y : Nat} {bd : Option Nat}, Spn b ps sd x y bd → bd ≠ none → ∃ j p, x = b + j ∧ ps[j]? = some p := by
    intro y bd h
    induction h with
    | self => exact fun h => absurd rfl h
    | step h1 hp ih =>
      rename_i j p bd
      intro _
      cases bd with
      | none =>
        have := Spn.zero h1 rfl
        exact ⟨j, p, this.symm, hp⟩
      | some k => exact ih (by simp)
  exact this h (by simp)
theorem Spn.uniq (hs : Side sd) (hw : WF b ps) : ∀ (x : Nat) {y : Nat} {bd bd' : Option Nat}, Spn b ps sd x y bd → Spn b ps sd x y bd' → bd = bd' := by
  intro x
  induction x using Nat.strongRecOn with
  | _ x ih =>
    intro y bd bd' h1 h2
    cases bd with
    | none =>
      cases bd' with
      | none => rfl
      | some k' =>
        have e := Spn.zero h1 rfl
        have := (Spn.le hs hw h2).2 (by simp)
        omega
    | some k =>
      cases bd' with
      | none =>
        have e := Spn.zero h2 rfl
        have := (Spn.le hs hw h1).2 (by simp)
        omega
      | some k' =>
        obtain ⟨j, p, rfl, hp⟩ := h1.top
        have hlt : sd p < b + j := by
          have := hw j p hp
          rcases hs p with e | e <;> rw [e] <;> omega
        rcases Spn.down hp h1 with e | ⟨e1, e2⟩ | ⟨m, e1, e2⟩
        · cases e
        · rcases Spn.down hp h2 with e | ⟨f1, f2⟩ | ⟨m', f1, f2⟩
          · cases e
          · rw [e2, f2]
          · have := (Spn.le hs hw f2).2 (by simp)
            omega
        · rcases Spn.down hp h2 with e | ⟨f1, f2⟩ | ⟨m', f1, f2⟩
          · cases e
          · have := (Spn.le hs hw e2).2 (by simp)
            omega
          · have := ih _ hlt e2 f2
            rw [e1, f1, this]
end
theorem mergeK_miss : ∀ (kvs acc : List (Key × V)) (k : Key), (∀ p ∈ kvs, p.1 ≠ k) → valV (mergeK acc kvs) k = valV acc k
  | [], acc, k, _ => rfl
  | p :: r, acc, k, h => by
    show valV (mergeK (putK acc p.1 p.2) r) k = _
    rw [mergeK_miss r _ k (fun q hq => h q (List.mem_cons_of_mem _ hq)), valV_put, if_neg (fun e => h p (List.mem_cons_self ..) e.symm)]
theorem mergeK_hit : ∀ (kvs acc : List (Key × V)) (k : Key) (v : V), (k, v) ∈ kvs → (∀ p ∈ kvs, p.1 = k → p.2 = v) → valV (mergeK acc kvs) k = some v
  | p :: r, acc, k, v, h, hf => by
    show valV (mergeK (putK acc p.1 p.2) r) k = _
    by_cases c : ∃ v', (k, v') ∈ r
    · obtain ⟨v', hv⟩ := c
      have e := hf (k, v') (List.mem_cons_of_mem _ hv) rfl
      have e : v' = v := e
      subst e
      exact mergeK_hit r _ k v' hv fun q hq => hf q (List.mem_cons_of_mem _ hq)
    · rw [mergeK_miss r _ k (fun q hq e => c ⟨q.2, by rw [← e]; exact hq⟩)]
      rcases List.mem_cons.mp h with e | e
      · rw [← e, valV_put, if_pos rfl]
      · exact absurd ⟨v, e⟩ c
end RJ
end

section
set_option maxRecDepth 100000
set_option maxHeartbeats 4000000
namespace PySem
open HotX
section
variable {prog : Program} {w : World} {A : Around} {E : Value → Shared → Prop} {s : Shared}
/-- a list's iterator ends where an exception is handled -/
theorem rj_list_end_hot {it l x1 : Addr} {i : Nat} {items : Array Value} {Q : Option Value → Shared → Prop} (hot : HotAt A x1 s.heap) (nx : x1 ≠ it)
    (hit : s.heap.IsListIter it l i) (hl : s.heap.IsList l items) (hx : items[i]? = none)
    (hQ : ∀ h', Heap.ExtBut it s.heap h' → Q none { s with heap := h' }) : wpAny (model prog w) A (pyNext (.ref it)) Q E s := by
  obtain ⟨o, ho, hc, hd⟩ := id hit
  obtain ⟨ol, hol, _, nl, hdl⟩ := hl
  obtain ⟨hh, o1, vs1, h1, d1, c1⟩ := hot
  unfold pyNext
  refine wpAny_bind (wpAny_attempt (wpAny_callSpecial?_slot (name := Str.ofString "__next__") hit.typeIs slot_listiter_next
    (wpAny_call_entry slot_listiter_next hit.typeIs entry_listiter_next ?_ (args_listiter_next _))))
  show wpAny _ _ (field (.ref it) 0 >>= _) _ _ s
  refine wpAny_bind (wpAny_field ho hd (x := .ref l) rfl ?_)
  show wpAny _ _ (if (Value.ref l == Value.none) = true then _ else _) _ _ s
  rw [if_neg (show ¬ ((Value.ref l == Value.none) = true) from Bool.false_ne_true)]
  show wpAny _ _ (field (.ref it) 1 >>= _) _ _ s
  refine wpAny_bind (wpAny_field ho hd (x := .int i 0) rfl ?_)
  show wpAny _ _ (seqItems? (.ref l) >>= _) _ _ s
  refine wpAny_bind (wpAny_seqItems hol hdl ?_)
  simp only [Int.toNat_natCast, hx]
  refine wpAny_bind (wpAny_rule (wpAny_bind (wpAny_setField ho hd (by simp) ?_)))
  have h1' : (s.heap.update it (Obj.mapFields fun x => x.setIfInBounds 0 Value.none)).get? x1 = some o1 := (Heap.get?_update_other _ _ (Ne.symm nx)).trans h1
  have ext : Heap.ExtBut it s.heap (s.heap.update it (Obj.mapFields fun x => x.setIfInBounds 0 Value.none)) := (Heap.SameBut.update ..).extBut
  generalize s.heap.update it (Obj.mapFields fun x => x.setIfInBounds 0 Value.none) = h2 at h1' ext
  show wpAny _ _ (newExc (.type "StopIteration") [] >>= _) _ _ _
  refine wpAny_bind ?_
  simp only [newExc, newTuple]
  refine wpAny_bind (wpAny_newObj_type ?_ (by size_fits))
  refine wpAny_bind (m := firstArgMember _ _) (wpAny_of_eq (a := Value.none) (by first | rfl | (simp only [firstArgMember]; rfl)) ?_)
  refine wpAny_newObj_type ?_ (by size_fits)
  refine raiseNew_hot ⟨hh, o1, vs1, Heap.get?_push_of_some _ (Heap.get?_push_of_some _ h1'), d1, c1⟩ (Nat.ne_of_lt (Heap.lt_size (Heap.get?_push_of_some _ h1'))) (Heap.get?_push_size _ rfl) rfl (by first | (simp; done) | (simp; omega) | (simp only [Array.size_append]; simp; omega)) ?_
  refine wpAny_bind (wpAny_isInstance (T := "StopIteration") (b := true) ⟨_, Heap.get?_update_self _ (Heap.get?_push_size _ rfl) rfl, rfl⟩ isSubtype_stop ?_)
  refine wpAny_pure (hQ _ fun b o' nb e => ?_)
  have e' := ext b o' nb e
  rw [Heap.get?_update_other _ _ (Nat.ne_of_gt (Heap.lt_size (Heap.get?_push_of_some _ e')))]
  exact Heap.get?_push_of_some _ (Heap.get?_push_of_some _ e')
end
end PySem
namespace RJ
open PySem PySem.Spec PyProof.Rows L2 HotX
/-! ### a comprehension where an exception is handled -/
structure TurnHL (P : Program) (w : World) (K : PySem.W.Frag) (tg : Expr) (J : It) (fp : List Addr) (it : Addr) (tn : Nat → Heap → Prop) : Prop where
  mem : it ∈ fp
  obj : ∀ i h, tn i h → ∀ b ∈ fp, ∃ o, h.get? b = some o ∧ ∀ v, o.data ≠ .cell v
  keep : ∀ i h h', tn i h → (∀ b ∈ fp, ∀ o, h.get? b = some o → h'.get? b = some o) → tn i h'
  item : ∀ (X : Cx), X.prog = P → X.w = w → X.K = K → ∀ (i : Nat) (pins : List (Addr × Obj)) (s : Shared) (σ : L2.St) (H : Hp) (E : Value → Shared → Prop), Inv X pins σ H s → (∀ b ∈ fp, FpOk X pins H b) → tn i s.heap → J.go i H →
    wpAny (model P w) X.A (pyNext (.ref it)) (fun r s1 => ∃ u, r = some u ∧
      wpAny (model P w) X.A (letOwnedTupleGo tg (.ref it) u) (fun _ s2 => ∃ x H', Inv X pins σ H' s2 ∧ RelV x u ∧ J.yld i H x H' ∧ tn (i + 1) s2.heap ∧ ∀ b ∈ fp, H' b = none) E s1) E s
  done : ∀ (X : Cx), X.prog = P → X.w = w → X.K = K → ∀ (i : Nat) (pins : List (Addr × Obj)) (s : Shared) (σ : L2.St) (H : Hp) (E : Value → Shared → Prop), Inv X pins σ H s → (∃ x1, HotAt X.A x1 s.heap ∧ ∀ b ∈ fp, x1 ≠ b) → (∀ b ∈ fp, FpOk X pins H b) → tn i s.heap → J.stop i H →
    wpAny (model P w) X.A (pyNext (.ref it)) (fun r s1 => r = none ∧ Inv X pins σ H s1) E s
  self : ∀ (A : Around) (i : Nat) (s : Shared) (Q : Value → Shared → Prop) (E : Value → Shared → Prop), tn i s.heap → Q (.ref it) s → wpAny (model P w) A (pyIter (.ref it)) Q E s
def PIEHL (X : Cx) (pins : List (Addr × Obj)) (σ : L2.St) (tg : Expr) (R : It → Hp → Prop) (itv : Value) (s2 : Shared) : Prop :=
  ∃ (it : Addr) (fp : List Addr) (tn : Nat → Heap → Prop) (J : It) (H' : Hp), itv = .ref it ∧ Inv X pins σ H' s2 ∧ TurnHL X.prog X.w X.K tg J fp it tn ∧ tn 0 s2.heap ∧ (∀ b ∈ fp, FpOk X pins H' b) ∧ R J H'
structure PIHL (X : Cx) (tg iter : Expr) (wi : TI) : Prop where
  run : ∀ (pins : List (Addr × Obj)) (s : Shared) (σ : L2.St) (H : Hp) (R : It → Hp → Prop), Inv X pins σ H s → wi σ H R →
    wpAny (model X.prog X.w) X.A (eval iter X.env) (fun v s1 => wpAny (model X.prog X.w) X.A (pyIter v) (PIEHL X pins σ tg R) X.xe s1) X.xe s
theorem turn_listHL {P : Program} {w : World} {K : PySem.W.Frag} {tg : Expr} (a it : Addr) : TurnHL P w K tg (Itl K a) [it] it (fun i h => h.IsListIter it a i) where
  mem := (turn_list (P := P) (w := w) (K := K) (tg := tg) a it).mem
  obj := (turn_list (P := P) (w := w) (K := K) (tg := tg) a it).obj
  keep := (turn_list (P := P) (w := w) (K := K) (tg := tg) a it).keep
  item := by
    intro X hP hw hK i pins s σ H E I hf st hg
    subst hP hw hK
    obtain ⟨xs, x, hq, hx⟩ := hg
    obtain ⟨its, rv, p, hz⟩ := I.list hq
    obtain ⟨u, hu, ru⟩ := rv.get hx
    obtain ⟨f0, f1, f2, f3, f4, f5⟩ := hf it (by simp)
    refine wpAny_pyNext_list_item st p.isList (x := u) (by simpa using hu) fun h' st' sb => ?_
    have I1 : Inv X pins σ H { s with heap := h' } := I.turned (t' := s.toks) (fun b o hb e => (sb.2 b hb).trans e) f0 f1 f3 f4 f5
    obtain ⟨o, e, c, d⟩ := id st'
    exact ⟨u, rfl, go_of (s := { s with heap := h' }) e c d (by decide) ⟨x, H, I1, ru, ⟨rfl, fun ys hy => by rw [I.list_inj hy hq]; exact hx⟩, st', fun b hb => (hf b hb).1⟩⟩
  done := by
    intro X hP hw hK i pins s σ H E I ⟨x1, hot, hne⟩ hf st hg
    subst hP hw hK
    obtain ⟨xs, hq, hx⟩ := hg
    obtain ⟨its, rv, p, hz⟩ := I.list hq
    have hl := rv.length
    obtain ⟨f0, f1, f2, f3, f4, f5⟩ := hf it (by simp)
    exact rj_list_end_hot hot (hne it (by simp)) st p.isList (by simp; omega) fun h' eb => ⟨rfl, I.turned (t' := s.toks) (fun b o hb e => eb b o hb e) f0 f1 f3 f4 f5⟩
  self := (turn_list (P := P) (w := w) (K := K) (tg := tg) a it).self
theorem pi_listHL {X : Cx} {tg l : Expr} {tl : TE} (hl : PE X l tl) : PIHL X tg l (iList X.K tl) := by
  refine ⟨fun pins s σ H R I h => ?_⟩
  refine thn (hl.run pins s σ H _ I h) fun v s1 ⟨x, H1, I1, r1, q1⟩ => ?_
  obtain ⟨a, e, ⟨xs, hq⟩, q⟩ := q1
  subst e
  cases r1
  obtain ⟨its, rv, p, hz⟩ := I1.list hq
  refine wpAny_pyIter_list p.isList ?_
  refine ⟨s1.heap.objs.size, [s1.heap.objs.size], _, _, H1, rfl, I1.kept (t' := s1.toks) fun b o e => Heap.get?_push_of_some _ e, turn_listHL a _, ⟨_, Heap.get?_push_size _ rfl, rfl, rfl⟩, fun b hb => ?_, q⟩
  have e : b = s1.heap.objs.size := by simpa using hb
  subst e
  exact I1.fpOk (Nat.le_refl _) (I1.hok.fresh (Nat.le_refl _))
section
variable {X : Cx} {E : XK} {elt tg iter : Expr} {ifs : List Expr} {scope : Scope} {own : List (Str × Nat)} {pos pos' : Pos} {wi : TI} {g : TG} {tt : TT} {te : TE}
theorem lc_coreH {pins : List (Addr × Obj)} {s : Shared} {σ : L2.St} {H : Hp} {Q : VK} {use : Option (Value → Sem Unit)} {Qf : Value → Shared → Prop} (hst : X.stack = X.env :: X.outer) (hf : X.env.frame = some X.env.locals) (tk : L2N.Takes X (fun cls d _ H => E cls d H))
    (hot : L2H.HotC X) (hN : X.N.Nodup) (I : Inv X pins σ H s) (hi : PIHL X tg iter wi) (ok : BlkOk X.N X.env.scope scope own)
    (hg : ∀ (s : Shared) (H : Hp) (C : Addr) (cl : List (Str × Addr)) (fp : List Addr) (xe : Value → Shared → Prop), PG ((X.blk s H scope (compEnvC scope cl C X.env) fp).tr [] xe) tg g)
    (ht : ∀ (s : Shared) (H : Hp) (C : Addr) (cl : List (Str × Addr)) (fp : List Addr) (xe : Value → Shared → Prop), (∀ σ : L2.St, PassesAt (CXN X.prog X.w) ((X.blk s H scope (compEnvC scope cl C X.env) fp).tr [] xe) σ E) →
      PTs ((X.blk s H scope (compEnvC scope cl C X.env) fp).tr [] xe) ifs tt)
    (he : ∀ (s : Shared) (H : Hp) (C : Addr) (cl : List (Str × Addr)) (fp : List Addr) (xe : Value → Shared → Prop), (∀ σ : L2.St, PassesAt (CXN X.prog X.w) ((X.blk s H scope (compEnvC scope cl C X.env) fp).tr [] xe) σ E) →
      PE ((X.blk s H scope (compEnvC scope cl C X.env) fp).tr [] xe) elt te)
    (hs : ∀ x, foldedSetIterable iter X.env x = pure x) (h : tLc wi g tt te (own.map (·.2)) σ H Q)
    (hRR : ∀ D C s' m H', Inv X pins σ H' s' → Q (.ref D) H' → s'.heap.Ns C m → FpOk X pins H' C → compPost (model X.prog X.w) X.A X.xe use Qf (.ref D) C (.ok .next) s') :
    wpAny (model X.prog X.w) X.A (comprehension (.ListComp elt [⟨tg, iter, ifs, 0⟩] scope pos) scope X.env pos' (newList []) false (eval iter X.env) use) Qf X.xe s := by
  have hfree : ∀ y ∈ scope.names, y.2 = .free → ∃ c, X.env.cells.lookup y.1 = some c := fun y hy e => I.ok.has _ (ok.free y hy e)
  refine comp_run (use := use) rfl hs (closure_ok hfree) ok.kind (fun y hy e => by rw [ok.uniq y hy, e]) (thn (hi.run pins s σ H _ I h) fun xv s1 hx => thn hx fun itv s2 h2 => ?_)
  obtain ⟨it, fp, tn, J, H2, e, I2, T, st2, f2, q⟩ := h2
  subst e
  refine wpAny_newObj_type (newEnv_comp ?_) (by show 0 ≤ sizeLine; decide)
  generalize hD : s2.heap.objs.size = D
  obtain ⟨W, ⟨m0, w0⟩, turn⟩ := q D (I2.hok.fresh (Nat.le_of_eq hD))
  generalize hs3 : ({ s2 with heap := s2.heap.push { cls := .type "list", data := .seq ([] : List Value).toArray } } : Shared) = s3
  have h3 : s3.heap = s2.heap.push { cls := .type "list", data := .seq ([] : List Value).toArray } := by rw [← hs3]
  have k23 : ∀ b o, s2.heap.get? b = some o → s3.heap.get? b = some o := fun b o e => by rw [h3]; exact Heap.get?_push_of_some _ e
  have I3 : Inv X pins σ (upd H2 D (.lst [])) s3 := by
    rw [← hs3]
    refine I2.laid (t' := s2.toks) (fun b o e => Heap.get?_push_of_some _ e) (Nat.le_of_eq hD) ⟨Nat.zero_le _, [], 0, .nil, ?_⟩
    rw [← hD]
    exact Heap.get?_push_size _ rfl
  have f3 : ∀ b ∈ fp, FpOk X pins (upd H2 D (.lst [])) b ∧ b < s3.heap.objs.size := fun b hb => by
    obtain ⟨o, e, _⟩ := T.obj _ _ st2 b hb
    have lt := Heap.lt_size e
    refine ⟨⟨?_, (f2 b hb).2⟩, Heap.lt_size (k23 b o e)⟩
    rw [upd_ne (by rw [← hD]; exact Nat.ne_of_lt lt)]
    exact (f2 b hb).1
  generalize hce : compEnvC scope (cellsFrom (s3.heap.objs.size + 1) scope.names (cloFrom X.env.cells scope.names [])) s3.heap.objs.size X.env = ce
  have cL : ce.locals = s3.heap.objs.size := by subst hce; rfl
  have cf : ce.frame = X.env.frame := by subst hce; rfl
  have I4 := block_start I3 ok hN f3
  rw [hce] at I4
  show codeAny _ _ (.compStart (.ListComp elt [⟨tg, iter, ifs, 0⟩] scope pos) 0 (.ref it) (.ref D) (compEnvC scope (cellsFrom (s3.heap.objs.size + 1) scope.names (cloFrom X.env.cells scope.names [])) s3.heap.objs.size X.env))
    (postX (model X.prog X.w) X.A X.xe use Qf (.ref D) (compEnvC scope (cellsFrom (s3.heap.objs.size + 1) scope.names (cloFrom X.env.cells scope.names [])) s3.heap.objs.size X.env)) { s3 with heap := pushCells (s3.heap.push { cls := .type "dict", data := .dict #[] }) scope.names }
  rw [hce]
  generalize hxe : notedBy (model X.prog X.w) X.A ce (fun e s' => postX (model X.prog X.w) X.A X.xe use Qf (.ref D) ce (.error e) s') = xe
  generalize hH3 : upd H2 D (.lst []) = H3 at I3 I4 w0 f3
  have pass := blk_out (scope := scope) (ce := ce) (fp := fp) (use := use) (Qf := Qf) (acc := .ref D) hst hf cf cL I3 (fun b hb => (f3 b hb).1) tk hxe.symm
  have pg := hg s3 H3 s3.heap.objs.size (cellsFrom (s3.heap.objs.size + 1) scope.names (cloFrom X.env.cells scope.names [])) fp xe
  have pt := ht s3 H3 s3.heap.objs.size (cellsFrom (s3.heap.objs.size + 1) scope.names (cloFrom X.env.cells scope.names [])) fp xe
  have pe := he s3 H3 s3.heap.objs.size (cellsFrom (s3.heap.objs.size + 1) scope.names (cloFrom X.env.cells scope.names [])) fp xe
  rw [hce] at pg pt pe
  have pe := pe pass
  have pt := pt pass
  have I5 : Inv ((X.blk s3 H3 scope ce fp).tr [] xe) [] (wipe σ (own.map (·.2))) H3 { s3 with heap := pushCells (s3.heap.push { cls := .type "dict", data := .dict #[] }) scope.names } := I4.toTry xe
  have st5 : tn 0 (pushCells (s3.heap.push { cls := .type "dict", data := .dict #[] }) scope.names) := T.keep _ _ _ st2 fun b _ o e => pushCells_keeps _ _ _ _ (Heap.get?_push_of_some _ (k23 b o e))
  have fps : ∀ {σ' : L2.St} {H' : Hp} {s' : Shared}, Inv ((X.blk s3 H3 scope ce fp).tr [] xe) [] σ' H' s' → (∀ b ∈ fp, H' b = none) → ∀ b ∈ fp, FpOk ((X.blk s3 H3 scope ce fp).tr [] xe) [] H' b := fun {σ' H' s'} I' hn b hb =>
    ⟨hn b hb, (I'.ok.exf b hb).1, I'.ok.exfs b hb, .inl hb, (I'.ok.exf b hb).2, fun p hp => absurd (show p ∈ ([] : List (Addr × Obj)) ++ [] from hp) (by simp)⟩
  have hotB : ∀ {σ' : L2.St} {H' : Hp} {s' : Shared}, Inv ((X.blk s3 H3 scope ce fp).tr [] xe) [] σ' H' s' → ∃ x1, HotAt X.A x1 s'.heap ∧ ∀ b ∈ fp, x1 ≠ b := fun {σ' H' s'} I' => by
    obtain ⟨p, ⟨hh, v1, e1, c1⟩, hp⟩ := hot
    obtain ⟨g1, g2, g3, g4, _⟩ := I3.pin p (List.mem_append_left _ hp)
    refine ⟨p.1, ⟨hh, p.2, v1, I'.base.keep p.1 p.2 g1 g2 ?_ ?_, e1, c1⟩, fun b hb => (f3 b hb).1.2.2.2.2.2 p (List.mem_append_left _ hp)⟩
    · intro z
      rcases List.mem_cons.mp (I3.stkSub _ z) with z | z
      · exact g3 z
      · exact g4 z
    · intro z
      exact (f3 _ z).1.2.2.2.2.2 p (List.mem_append_left _ hp) rfl
  have loop : codeAny (model X.prog X.w) X.A (.compLoop (.ListComp elt [⟨tg, iter, ifs, 0⟩] scope pos) 0 (.ref it) (.ref D) ce) (postX (model X.prog X.w) X.A X.xe use Qf (.ref D) ce)
      { s3 with heap := pushCells (s3.heap.push { cls := .type "dict", data := .dict #[] }) scope.names } := by
    refine compLoop_any (fun n s' => ∃ i H', Turns X s3 H3 scope ce fp xe (wipe σ (own.map (·.2))) tn W n i H' s') ?_ m0 ⟨0, H3, I5, st5, fun b hb => (f3 b hb).1.1, w0⟩
    rw [hxe]
    rintro n s6 ⟨i, H6, t6⟩
    rcases turn i n H6 t6.has with ⟨stop, qq⟩ | ⟨go, Nx, hNx, step⟩
    · refine thn (T.done ((X.blk s3 H3 scope ce fp).tr [] xe) rfl rfl rfl i [] s6 _ H6 xe t6.inv (hotB t6.inv) (fps t6.inv t6.non) t6.at_ stop) fun r s7 ⟨hr, I7⟩ => ?_
      subst hr
      have back : Inv X pins σ H6 s7 := I3.call' (ch := fp) I7.os I7.base I7.hok I7.bare fun b hb => ⟨(f3 b hb).1.2.2.2.1, (f3 b hb).1.2.1, (f3 b hb).1.2.2.2.2.1, (f3 b hb).1.2.2.2.2.2⟩
      obtain ⟨m, hn, _⟩ := I7.loc
      exact hRR D ce.locals s7 m H6 back qq hn (I3.fpOk (by rw [cL]; exact Nat.le_refl _) I7.free)
    · refine thn (T.item ((X.blk s3 H3 scope ce fp).tr [] xe) rfl rfl rfl i [] s6 _ H6 xe t6.inv (fps t6.inv t6.non) t6.at_ go) fun r s7 ⟨u, hr, h7⟩ => ?_
      subst hr
      refine thn h7 fun _ s8 ⟨x, H8, I8, r8, y8, st8, n8⟩ => ?_
      have I8' := I8.pinned (fps I8 n8) (T.obj _ _ st8)
      refine thn (pg.run _ s8 _ H8 x u _ I8' r8 (step x H8 y8)) fun _ s9 ⟨σ9, H9, I9, hw, q9⟩ => ?_
      refine thn (pt.run _ s9 σ9 H9 _ I9 q9) fun b s10 ⟨H10, I10, q10⟩ => ?_
      have next : ∀ {s' : Shared} {H' : Hp}, Inv ((X.blk s3 H3 scope ce fp).tr [] xe) ([] ++ pinsAt fp s8.heap) σ9 H' s' → Nx H' → ∃ m, m < n ∧ ∃ i H', Turns X s3 H3 scope ce fp xe (wipe σ (own.map (·.2))) tn W m i H' s' := fun {s' H'} I' nx => by
        obtain ⟨m', hm, w'⟩ := hNx H' nx
        have kept : ∀ b ∈ fp, ∀ o, s8.heap.get? b = some o → s'.heap.get? b = some o ∧ H' b = none := fun b hb o e =>
          have z := I'.pin (b, o) (List.mem_append_right _ (List.mem_append_right _ (mem_pinsAt hb e)))
          ⟨z.1, z.2.1⟩
        refine ⟨m', hm, i + 1, H', (I'.unpinned (pins := [])).weak (by rw [← hw, wipe_length]) (fun j v e => (wipe_some (by rw [hw]; exact e)).1), T.keep _ _ _ st8 fun b hb o e => (kept b hb o e).1, fun b hb => ?_, w'⟩
        obtain ⟨o, e, _⟩ := T.obj _ _ st8 b hb
        exact (kept b hb o e).2
      cases b with
      | false =>
        simp only [Bool.false_eq_true, if_false] at q10 ⊢
        exact next I10 q10
      | true =>
        simp only [if_true] at q10 ⊢
        refine thn (pe.run _ s10 σ9 H10 _ I10 q10) fun z s11 ⟨yv, H11, I11, r11, acc, hD11, hz, nx⟩ => ?_
        exact app_ok (X := (X.blk s3 H3 scope ce fp).tr [] xe) I11 hD11 hz r11 fun s12 I12 => next I12 nx
  exact codeAny_compStart_list loop (T.self X.A 0 _ _ _ st5 loop)
theorem pe_lcH (hst : X.stack = X.env :: X.outer) (hf : X.env.frame = some X.env.locals) (tk : L2N.Takes X (fun cls d _ H => E cls d H)) (hot : L2H.HotC X) (hN : X.N.Nodup) (hi : PIHL X tg iter wi) (ok : BlkOk X.N X.env.scope scope own)
    (hg : ∀ (s : Shared) (H : Hp) (C : Addr) (cl : List (Str × Addr)) (fp : List Addr) (xe : Value → Shared → Prop), PG ((X.blk s H scope (compEnvC scope cl C X.env) fp).tr [] xe) tg g)
    (ht : ∀ (s : Shared) (H : Hp) (C : Addr) (cl : List (Str × Addr)) (fp : List Addr) (xe : Value → Shared → Prop), (∀ σ : L2.St, PassesAt (CXN X.prog X.w) ((X.blk s H scope (compEnvC scope cl C X.env) fp).tr [] xe) σ E) →
      PTs ((X.blk s H scope (compEnvC scope cl C X.env) fp).tr [] xe) ifs tt)
    (he : ∀ (s : Shared) (H : Hp) (C : Addr) (cl : List (Str × Addr)) (fp : List Addr) (xe : Value → Shared → Prop), (∀ σ : L2.St, PassesAt (CXN X.prog X.w) ((X.blk s H scope (compEnvC scope cl C X.env) fp).tr [] xe) σ E) →
      PE ((X.blk s H scope (compEnvC scope cl C X.env) fp).tr [] xe) elt te)
    (hs : ∀ x, foldedSetIterable iter X.env x = pure x := by intro _; rfl) : PE X (.ListComp elt [⟨tg, iter, ifs, 0⟩] scope pos) (tLc wi g tt te (own.map (·.2))) := by
  refine ⟨fun pins s σ H Q I h => ?_⟩
  rw [eval_ListComp]
  refine lc_coreH hst hf tk hot hN I hi ok hg ht he hs h fun D C s' m H' J q hn f => ⟨m, hn, fun h' sb => ?_⟩
  exact ⟨.ref D, H', J.turned (t' := s'.toks) (fun b o hb e => (sb.2 b hb).trans e) f.1 f.2.1 f.2.2.2.1 f.2.2.2.2.1 f.2.2.2.2.2, rfl, q⟩
end
end RJ
namespace RJ
open PySem PySem.Spec PyProof.Rows L2 HotX
/-! ### defs that are given the error that is handled -/
structure FnE (P : Program) (w : World) (K : PySem.W.Frag) (mg : Str → Option Value) (base : Heap) (k : Nat) (f : Addr) (fd : FuncData) (ps : List Str) (p : Addr × Obj) (sp : Sp) : Prop where
  len : ∀ vs H Q E, sp vs H Q E → vs.length = ps.length
  run : ∀ (A : Around) (outer : List Env) (s : Shared) (H : Hp) (args : Args) (us : List Value) (vs : List V) (Q : VK) (E : XK), L2H.RoomH k A → L2H.Hot1 A p → L2H.PinOk outer H s p → Env0 P w K mg base A outer s H → BindsTo s fd args (ps.zip us) → Vals vs us → sp vs H Q E →
    codeAny (model P w) A (.call (.ref f) args) (CR C8.CX0 outer P w H s Q E) s
structure CalE (P : Program) (w : World) (K : PySem.W.Frag) (mg : Str → Option Value) (base : Heap) (k : Nat) (x : Str) (sp : Addr → Value → Option Addr → Sp) : Prop where
  ex : ∃ (f : Addr) (fd : FuncData) (ps : List Str), mg x = some (.ref f) ∧ PySem.W.keepIn K (.ref f) = true ∧ Binds K fd ps [] ∧ ∀ (p : Addr × Obj) (cls : Value) (d : Option Addr), Zc cls d p.2 → (∃ vs, p.2.data = .fields vs) → FnE P w K mg base k f fd ps p (sp p.1 cls d)
/-- isinstance of an error that is pinned -/
theorem call_isP {X : Cx} {p : Addr × Obj} {cls : Value} {d : Option Addr} (hp : p ∈ X.pn) (hz : Zc cls d p.2) (hf : ∃ vs, p.2.data = .fields vs) : CallR X (.builtin "isinstance") (rIsD X.K p.1 cls d) := by
  intro pins s σ H xs us Q I r h
  obtain ⟨D, dd, fs, c, cv, b, rfl, rfl, T, ed, rfl, hcv, e, q⟩ := h
  obtain ⟨u1, u2, rfl, r1, r2⟩ := vals2 r
  cases (show u1 = Value.ref p.1 from r1)
  have ec := hcv _ r2
  subst ec
  obtain ⟨hget, _⟩ := I.pin p (List.mem_append.mpr (.inl hp))
  obtain ⟨vs, hv⟩ := hf
  have hx : ObjOk X.prog X.w H s.heap dd (.xd fs) := I.hok dd _ ed
  obtain ⟨mA, hns, _⟩ := hx
  obtain ⟨od, ho, _⟩ := lookIn_ns hns
  have J : PySem.W.InstAt s.heap p.1 p.2 D (some od) := ⟨hget, hz.1, by unfold PySem.W.notCls; rw [hv] <;> rfl, by rw [hz.2]; exact ho⟩
  exact PySem.W.kia_one (PySem.W.kitx_exc T.cl T.hg T.hk T.hs T.ha T.hn T.ht T.hm) I.kIn J e (fun z => nomatch z) fun tk => ⟨.bl b, H, I.kept (t' := tk) fun _ _ z => z, rfl, q⟩
theorem call_isPT {X : Cx} {p : Addr × Obj} {cls : Value} {d : Option Addr} (hp : p ∈ X.pn) (hz : Zc cls d p.2) (hf : ∃ vs, p.2.data = .fields vs) : CallR X (.builtin "isinstance") (rIsDT X.K p.1 cls d) := by
  intro pins s σ H xs us Q I r h
  obtain ⟨D, dd, tp, fs, cs, ws, b, rfl, rfl, T, ed, rfl, htp, hws, e, q⟩ := h
  obtain ⟨u1, u2, rfl, r1, r2⟩ := vals2 r
  cases (show u1 = Value.ref p.1 from r1)
  cases (show u2 = Value.ref tp from r2)
  obtain ⟨hget, _⟩ := I.pin p (List.mem_append.mpr (.inl hp))
  obtain ⟨vs, hv⟩ := hf
  have hx : ObjOk X.prog X.w H s.heap dd (.xd fs) := I.hok dd _ ed
  obtain ⟨mA, hns, _⟩ := hx
  obtain ⟨od, ho, _⟩ := lookIn_ns hns
  have J : PySem.W.InstAt s.heap p.1 p.2 D (some od) := ⟨hget, hz.1, by unfold PySem.W.notCls; rw [hv] <;> rfl, by rw [hz.2]; exact ho⟩
  have hT : ObjOk X.prog X.w H s.heap tp (.tup cs) := I.hok tp _ htp
  obtain ⟨_, its, rv, o, g1, g2, n, g3⟩ := hT
  have e3 := hws its rv
  subst e3
  obtain ⟨oc, od2, dt, sl⟩ := o
  simp only at g2 g3
  subst g2 g3
  exact PySem.W.kia_tup (PySem.W.kitx_exc T.cl T.hg T.hk T.hs T.ha T.hn T.ht T.hm) I.kIn J g1 e (fun z => nomatch z) fun tk => ⟨.bl b, H, I.kept (t' := tk) fun _ _ z => z, rfl, q⟩
section
variable {P : Program} {w : World} {K : PySem.W.Frag} {mg : Str → Option Value} {base : Heap}
theorem fn_ofE {k : Nat} {f : Addr} {name qual : Str} {params : Arguments} {body : List Stmt} {scope : Scope} {dV kV doc pm cdv ct oc : Value} {an od : Option Addr} {p : Addr × Obj}
    {osl : Array (Option Value)} {N ps : List Str} {sp : Sp} (lk : K.lookup f = some ⟨oc, od, .func (PySem.W.fnOf name qual params body scope dV kV doc pm an cdv ct), osl⟩) (hcd : PySem.W.codeIn K cdv qual = true) (S : FnScope N ps scope)
    (len : ∀ vs H Q E, sp vs H Q E → vs.length = ps.length)
    (hbody : ∀ (A : Around) (outer : List Env) (s : Shared) (H : Hp) (vs : List V) (Q : VK) (E : XK), L2H.Hot1 A p → L2H.RoomH k (A.deeper (envOfC qual scope s.heap.objs.size f cdv)) → sp vs H Q E →
      ∃ t, PSs (L2H.cxH C8.CX0 P w K mg base N qual scope f cdv A outer s H E p) body t ∧ t { nx := fun _ H' => Q .non H', rt := Q } (L2.start N vs) H) :
    FnE P w K mg base (k + 1) f (PySem.W.fnOf name qual params body scope dV kV doc pm an cdv ct) ps p sp := by
  refine ⟨len, fun A outer s H args us vs Q E hr hot hpin e0 hb r hsp => ?_⟩
  have hl := len _ _ _ _ hsp
  have KX : K.In s.heap := e0.mod.kin.keeps fun b o e => (e0.bs b o e).1
  have lim : s.heap.NoLimit := e0.mod.nolimit.keeps fun b o e => (e0.bs b o e).1
  have hkind : ∀ y ∈ ps.zip us, scope.names.lookup y.1 = some .local ∨ (scope.names.lookup y.1 = some .cell ∧ ((cellsFrom (s.heap.objs.size + 1) scope.names []).lookup y.1).isSome = true) := fun ⟨n, v⟩ hy => by
    rcases S.par n (List.of_mem_zip hy).1 with q | q
    · exact .inl q
    · exact .inr ⟨q, PySem.W.cellsFrom_some _ _ _ (.inl q)⟩
  refine codeAny_call_function hr.depth (KX _ _ lk) rfl S.co S.gen rfl (PySem.W.codeRec_of KX hcd) (hb _ _ _ _ ?_)
  refine wpAny_newFunctionEnv_cells S.kind hkind fun env he s1 x => ?_
  subst he
  refine ⟨lim.keeps x.toInCall.keep, codeAny_func ?_⟩
  obtain ⟨t, ht, hq⟩ := hbody A outer s H vs Q E hot (hr.deeper _) hsp
  have I : Inv (L2H.cxH C8.CX0 P w K mg base N qual scope f cdv A outer s H E p) [] (L2.start N vs) H s1 := L2H.inv_startH S hpin e0 hl r x
  refine wpAny_mono (ht.run [] s1 (L2.start N vs) H _ I hq) (fun fl s' hs => ?_) fun e s' hs => hs
  have fin : ∀ {σ' : L2.St} {H' : Hp} {v : V} {u : Value}, Inv (L2H.cxH C8.CX0 P w K mg base N qual scope f cdv A outer s H E p) [] σ' H' s' → RelV v u → Q v H' → CE outer P w H s Q u s' :=
    fun {σ' H' v u} J rv q => ⟨v, H', J.os, J.bare, J.base, J.hok, rv, q⟩
  cases fl with
  | ret u =>
    obtain ⟨v, σ', H', J, rv, q⟩ := hs
    exact fin J rv q
  | next =>
    obtain ⟨σ', H', J, q⟩ := hs
    exact fin (v := V.non) (u := Value.none) J rfl q
  | brk =>
    obtain ⟨_, _, _, q⟩ := hs
    exact False.elim q
  | cont =>
    obtain ⟨_, _, _, q⟩ := hs
    exact False.elim q

theorem fnE0 {x qual : Str} {st : Stmt} {f : Addr} {fd : FuncData} {N ps : List Str} {k : Nat} {p : Addr × Obj} {sp : Sp} (F : C8.Fun K x qual st f fd) (S : FnScope N ps (C8.fnScope st)) (len : ∀ vs H Q E, sp vs H Q E → vs.length = ps.length)
    (hb : ∀ (cdv : Value) (A : Around) (outer : List Env) (s : Shared) (H : Hp) (vs : List V) (Q : VK) (E : XK), L2H.RoomH k (A.deeper (envOfC qual (C8.fnScope st) s.heap.objs.size f cdv)) → sp vs H Q E →
      L2H.HotC (L2H.cxH C8.CX0 P w K mg base N qual (C8.fnScope st) f cdv A outer s H E p).nox → p ∈ (L2H.cxH C8.CX0 P w K mg base N qual (C8.fnScope st) f cdv A outer s H E p).nox.pn →
      ∃ t, PSs (L2H.cxH C8.CX0 P w K mg base N qual (C8.fnScope st) f cdv A outer s H E p).nox (C8.fnBody st) t ∧ t { nx := fun _ H' => Q .non H', rt := Q } (start N vs) H) : FnE P w K mg base (k + 1) f fd ps p sp := by
  obtain ⟨oc, od, dV, kV, doc, pm, an, cdv, ct, osl, rfl, lk, hcd⟩ := F.ex
  refine fn_ofE lk hcd S len fun A outer s H vs Q E hot hr hsp => ?_
  obtain ⟨t, h, q⟩ := hb cdv A outer s H vs Q E hr hsp ⟨p, hot, List.mem_singleton.mpr rfl⟩ (List.mem_singleton.mpr rfl)
  exact ⟨t, h.nox, q⟩
end
section
variable {X : Cx} {k j : Nat} {x : Str} {sp : Addr → Value → Option Addr → Sp} {q pos : Pos} {e : Expr} {es : List Expr} {t : TA} {a : Addr} {oe : Obj} {cls : Value} {d : Option Addr} {pn : List (Addr × Obj)}
/-- such a def called in the except suite -/
theorem pe_ce (c : CalE X.prog X.w X.K X.mg X.base k x sp) (hr : L2H.RoomH j (X.suite a ((a, oe) :: pn)).A) (hk : k ≤ j) (hz : L2N.Zn cls d oe) (hf : ∃ vs, oe.data = .fields vs) (hg : Gl (X.suite a ((a, oe) :: pn)) x) (ha : PA (X.suite a ((a, oe) :: pn)) (e :: es) t)
    (hdb : (x == ("__debug__" : Str)) = false := by decide) (he : starEach (e :: es) X.env = (false, eval e X.env) :: starEach es X.env := by rfl) (hpl : (backTo pos (starEach es X.env)).any (·.1) = false := by rfl) :
    PE (X.suite a ((a, oe) :: pn)) (.Call (.Name x q) (e :: es) [] pos) (tCallS (sp a cls d) (fun _ => C8.E0) t) := by
  obtain ⟨f, fd, ps, hm, kp, hb, F⟩ := c.ex
  have F := F (a, oe) cls d hz.zc hf
  obtain ⟨vs0, hv⟩ := hf
  refine ⟨fun pins s σ H Q I h => ?_⟩
  refine wpAny_Call_Name_kw (ld_glob I hg hm ?_ hdb)
  refine PySem.W.callWith_K (h₀ := X.base) I.ok.mod.kin kp (thn (ha.run pos pins s σ H _ I h) fun us s1 ⟨vs, H1, I1, r, h⟩ => ⟨I1.kIn, ?_⟩) he hpl
  have hl : us.length = ps.length := by rw [← r.length]; exact F.len _ _ _ _ h
  have b := hb s1 us I1.kIn (by rw [List.append_nil]; exact hl)
  rw [List.append_nil] at b
  have P1 := I1.pin (a, oe) (List.mem_append_left _ List.mem_cons_self)
  have hpin : L2H.PinOk X.stack H1 s1 (a, oe) := ⟨P1.1, P1.2.1, fun hm => (List.mem_cons.mp (I1.stkSub a hm)).elim P1.2.2.1 P1.2.2.2.1, P1.2.2.2.2⟩
  refine wpAny_call (codeAny_mono (F.run (X.suite a ((a, oe) :: pn)).A X.stack s1 H1 ⟨us, []⟩ us vs Q C8.E0 (hr.mono hk) ⟨rfl, vs0, hv, hz.2.2 vs0 hv⟩ hpin I1.env0 b r h) fun r s' hq => ?_)
  cases r with
  | error e => exact hq.elim
  | ok fl =>
    cases fl with
    | ret u => exact I1.after hq
    | next => exact False.elim hq
    | brk => exact False.elim hq
    | cont => exact False.elim hq
end
end RJ
end

section
set_option maxRecDepth 100000
set_option maxHeartbeats 4000000
namespace RJ
open PySem PySem.Spec PyProof.Rows L2
/-! ### a text turned about -/
def tRevS (te : TE) : TE := fun σ H Q => te σ H fun x H1 => ∃ z, x = .str z ∧ z.length ≤ sizeLine ∧ Q (.str ⟨z.cps.toList.reverse.toArray⟩) H1
section
variable {X : Cx}
theorem pe_revS {e : Expr} {te : TE} {k : Nat} {p1 p2 p3 pos : Pos} (he : PE X e te) : PE X (.Subscript e (.Slice none none (some (.UnaryOp .USub (.Constant (.int 1) k p1) p2)) p3) pos) (tRevS te) := by
  refine ⟨fun pins s σ H Q I h => ?_⟩
  refine Subscript_ (thn (he.run pins s σ H _ I h) fun v s1 ⟨x, H1, I1, r1, q1⟩ => ?_)
  obtain ⟨z, ex, hz, q⟩ := q1
  subst ex
  obtain ⟨t, rfl⟩ := r1
  have hst : PO X (some (.UnaryOp .USub (.Constant (.int 1) k p1) p2)) (tPart (tUn (rU fun i => .int (-i)) (tC (.int 1)))) := po_some (pe_un un_neg pe_int)
  refine wpAny_Slice (thn (po_none.run pins s1 σ H1 (fun o H2 => o = none ∧ H2 = H1) I1 ⟨rfl, rfl⟩) fun vl s2 ⟨l, H2, I2, pl, el, e2⟩ => ?_)
  subst el e2
  refine thn (po_none.run pins s2 σ H2 (fun o H3 => o = none ∧ H3 = H2) I2 ⟨rfl, rfl⟩) fun vu s3 ⟨u, H3, I3, pu, eu, e3⟩ => ?_
  subst eu e3
  refine thn (hst.run pins s3 σ H3 (fun o H4 => o = some (-1) ∧ H4 = H3) I3 ⟨1, rfl, -1, rfl, rfl, rfl⟩) fun vs s4 ⟨o, H4, I4, ps, eo, e4⟩ => ?_
  subst eo e4
  have I5 : Inv X pins σ H4 { s4 with heap := s4.heap.push { cls := .type "slice", data := .fields #[vl, vu, vs] } } := I4.kept (t' := s4.toks) fun b ob q => Heap.get?_push_of_some _ q
  cases pl
  cases pu
  obtain ⟨st, rfl, hst1⟩ := IsPart.raw ps
  cases st with
  | none => cases hst1
  | some st =>
  obtain ⟨si, stk⟩ := st
  cases hst1
  show wpAny (model X.prog X.w) X.A (subscriptTail e (.Slice none none (some (.UnaryOp .USub (.Constant (.int 1) k p1) p2)) p3) (.str z t) (.ref s4.heap.objs.size)) (EP X pins σ Q) X.xe { s4 with heap := s4.heap.push { cls := .type "slice", data := .fields #[.none, .none, .int (-1) stk] } }
  refine tail_any (ops := [.ref s4.heap.objs.size, .str z t]) (typeIs_str _ _ _) F.slot_str_getitem.lookup ?_ (by with_unfolding_all rfl)
  refine wpAny_getItem_str_slice (l := none) (u := none) (st := some (-1, stk)) ⟨_, Heap.get?_push_size _ rfl, rfl, rfl⟩ rfl ?_
  have e : (Builtin.Str.strSliceIndices none none (-1) z.length).filterMap (z.cps[·]?) = z.cps.toList.reverse := by
    show (sliceRange ((z.length : Int) - 1) (-1) (-1)).filterMap (z.cps[·]?) = _
    rw [PySem.W.krv_sliceRange, PySem.W.krv_range, List.filterMap_reverse]
    exact congrArg List.reverse (PySem.W.krv_all z.cps)
  show Made.post (if (((-1 : Int) == 1) && (Builtin.Str.strSliceIndices none none (-1) z.length).length == z.length) = true then Made.val (.str z t)
    else Made.str ⟨((Builtin.Str.strSliceIndices none none (-1) z.length).filterMap (z.cps[·]?)).toArray⟩) (EP X pins σ Q) _
  rw [if_neg (by simp), e]
  refine ⟨?_, .str _, H4, I5.tok _, ⟨_, rfl⟩, q⟩
  show (z.cps.toList.reverse.toArray).size ≤ sizeLine
  rw [List.size_toArray, List.length_reverse]
  exact hz
end
end RJ
end

section
namespace RJ
/-- the cut of a text -/
abbrev CT (al : List Nat) (ps : List (Nat × Nat)) (t : List Nat) : List Nat := cutL al.length ps (lets al t)
abbrev TX (al : List Nat) (ps : List (Nat × Nat)) (p : Nat) : List Nat := (textsOf al ps).getD p []
theorem adjs_snoc {C : List Nat} {p : Nat} {q : Nat × Nat} : q ∈ adjs (C ++ [p]) ↔ q ∈ adjs C ∨ (C.getLast? = some q.1 ∧ q.2 = p) := by
  rcases List.eq_nil_or_concat C with rfl | ⟨D, y, rfl⟩
  · simp [adjs]
  · rw [List.concat_eq_append, List.append_assoc]
    show q ∈ adjs (D ++ y :: [p]) ↔ _
    rw [adjs_append, List.mem_append]
    have e : adjs (y :: [p]) = [(y, p)] := rfl
    rw [e, List.mem_singleton, List.getLast?_append]
    have e2 : ([y] : List Nat).getLast?.or D.getLast? = some y := rfl
    rw [e2]
    constructor
    · rintro (h | h)
      · exact .inl h
      · subst h; exact .inr ⟨rfl, rfl⟩
    · rintro (h | ⟨h1, h2⟩)
      · exact .inl h
      · refine .inr ?_
        obtain ⟨q1, q2⟩ := q
        simp only [Option.some.injEq] at h1
        dsimp only at h2
        rw [h1, h2]
section
variable {al : List Nat} {ps : List (Nat × Nat)}
theorem CT_row (hnd : al.Nodup) (h : Proper al ps) {R : List Nat} (hR : ∀ x ∈ R, x < al.length + ps.length) : CT al ps (textR (textsOf al ps) R) = R ↔ ∀ q ∈ adjs R, ∀ r, ¬ Cross al.length ps q.1 q.2 r := by
  rw [← cut_row_iff (h.good hnd) hR, Dn_texts hnd h hR]
theorem textR_one (p : Nat) : textR (textsOf al ps) [p] = TX al ps p := by simp [textR]
/-- a text with a piece behind it -/
theorem CT_app (hnd : al.Nodup) (h : Proper al ps) {u : List Nat} {p : Nat} (hu : ∀ c ∈ u, c ∈ al) (hp : p < al.length + ps.length) :
    CT al ps (u ++ TX al ps p) = CT al ps u ++ [p] ↔ ∀ y, (CT al ps u).getLast? = some y → ∀ r, ¬ Cross al.length ps y p r := by
  have hC : ∀ x ∈ CT al ps u, x < al.length + ps.length := cut_lt hu
  have hR : ∀ x ∈ CT al ps u ++ [p], x < al.length + ps.length := fun x hx => (List.mem_append.mp hx).elim (hC x) fun z => by rw [List.mem_singleton.mp z]; exact hp
  have e1 : textR (textsOf al ps) (CT al ps u ++ [p]) = u ++ TX al ps p := by rw [textR_app, text_cut h.wf hu, textR_one]
  have e2 : CT al ps (textR (textsOf al ps) (CT al ps u)) = CT al ps u := by rw [text_cut h.wf hu]
  have e3 := CT_row hnd h hR
  rw [e1] at e3
  rw [e3]
  constructor
  · intro k y hy r
    exact k (y, p) (adjs_snoc.mpr (.inr ⟨hy, rfl⟩)) r
  · intro k q hq r
    rcases adjs_snoc.mp hq with z | ⟨z1, z2⟩
    · exact (CT_row hnd h hC).mp e2 q z r
    · rw [z2]; exact k _ z1 r
/-- the last piece of the cut of a text -/
theorem CT_last (hnd : al.Nodup) (h : Proper al ps) {t : List Nat} (ht : ∀ c ∈ t, c ∈ al) (hne : t ≠ []) : ∃ x u, (CT al ps t).getLast? = some x ∧ x < al.length + ps.length ∧ t = u ++ TX al ps x ∧ CT al ps t = CT al ps u ++ [x] ∧ 0 < (TX al ps x).length := by
  have htx := text_cut (ps := ps) h.wf ht
  rcases List.eq_nil_or_concat (CT al ps t) with z | ⟨D, x, z⟩
  · rw [show cutL al.length ps (lets al t) = [] from z] at htx
    exact absurd htx.symm hne
  · rw [List.concat_eq_append] at z
    have hlt : ∀ y ∈ D ++ [x], y < al.length + ps.length := by rw [← z]; exact cut_lt ht
    have hx : x < al.length + ps.length := hlt x (by simp)
    have hD : ∀ y ∈ D, y < al.length + ps.length := fun y hy => hlt y (by simp [hy])
    rw [show cutL al.length ps (lets al t) = D ++ [x] from z, textR_app, textR_one] at htx
    have hrow := (CT_row hnd h hlt).mp (by rw [← z]; show CT al ps (textR (textsOf al ps) (CT al ps t)) = CT al ps t; rw [text_cut h.wf ht])
    have hDc : CT al ps (textR (textsOf al ps) D) = D := (CT_row hnd h hD).mpr fun q hq => hrow q (adjs_snoc.mpr (.inl hq))
    exact ⟨x, textR (textsOf al ps) D, by rw [z]; simp, hx, htx.symm, by rw [z, hDc], texts_pos h.wf x hx⟩
/-- the last piece -/
def tailOf (al : List Nat) (ps : List (Nat × Nat)) (t : List Nat) : Nat := ((CT al ps t).getLast?).getD 0
/-- where a piece that ends a text may stand, it is the last one -/
theorem tail_uniq (hnd : al.Nodup) (h : Proper al ps) {t u : List Nat} {p : Nat} (ht : ∀ c ∈ t, c ∈ al) (hp : p < al.length + ps.length) (e : t = u ++ TX al ps p) (hb : u = [] ∨ ∀ r, ¬ Cross al.length ps (tailOf al ps u) p r) :
    p = tailOf al ps t ∧ CT al ps t = CT al ps u ++ [p] := by
  have hu : ∀ c ∈ u, c ∈ al := fun c hc => ht c (by rw [e]; exact List.mem_append_left _ hc)
  have key : CT al ps t = CT al ps u ++ [p] := by
    rw [e]
    refine (CT_app hnd h hu hp).mpr fun y hy r => ?_
    rcases hb with rfl | hb
    · rw [show CT al ps [] = [] from cut_nil _ _] at hy; cases hy
    · have : tailOf al ps u = y := by unfold tailOf; rw [hy]; rfl
      rw [← this]; exact hb r
  refine ⟨?_, key⟩
  unfold tailOf
  rw [key]; simp
/-- the last piece stands so -/
theorem tail_ex (hnd : al.Nodup) (h : Proper al ps) {t : List Nat} (ht : ∀ c ∈ t, c ∈ al) (hne : t ≠ []) : ∃ u, tailOf al ps t < al.length + ps.length ∧ t = u ++ TX al ps (tailOf al ps t) ∧ CT al ps t = CT al ps u ++ [tailOf al ps t] ∧ 0 < (TX al ps (tailOf al ps t)).length ∧
    (u = [] ∨ ∀ r, ¬ Cross al.length ps (tailOf al ps u) (tailOf al ps t) r) := by
  obtain ⟨x, u, h1, h2, h3, h4, h5⟩ := CT_last hnd h ht hne
  have e : tailOf al ps t = x := by unfold tailOf; rw [h1]; rfl
  rw [e]
  refine ⟨u, h2, h3, h4, h5, ?_⟩
  by_cases hu : u = []
  · exact .inl hu
  · have hul : ∀ c ∈ u, c ∈ al := fun c hc => ht c (by rw [h3]; exact List.mem_append_left _ hc)
    obtain ⟨y, _, g1, _⟩ := CT_last hnd h hul hu
    have ey : tailOf al ps u = y := by unfold tailOf; rw [g1]; rfl
    rw [ey]
    exact .inr ((CT_app hnd h hul h2).mp (by rw [← h3]; exact h4) y g1)
/-- the tails of the beginnings of a text -/
def tailsL (al : List Nat) (ps : List (Nat × Nat)) (t : List Nat) (n : Nat) : List Nat := (List.range n).map fun k => tailOf al ps (t.take (k + 1))
theorem tailsL_len (t : List Nat) (n : Nat) : (tailsL al ps t n).length = n := by unfold tailsL; rw [List.length_map, List.length_range]
theorem tailsL_succ (t : List Nat) (n : Nat) : tailsL al ps t (n + 1) = tailsL al ps t n ++ [tailOf al ps (t.take (n + 1))] := by
  unfold tailsL; rw [List.range_succ, List.map_append]; rfl
theorem tailsL_get (t : List Nat) {n k : Nat} (hk : k < n) : (tailsL al ps t n)[k]? = some (tailOf al ps (t.take (k + 1))) := by
  unfold tailsL; rw [List.getElem?_map, List.getElem?_range hk]; rfl
theorem tailsL_lt (hnd : al.Nodup) (h : Proper al ps) {t : List Nat} (ht : ∀ c ∈ t, c ∈ al) {n : Nat} (hn : n ≤ t.length) : ∀ x ∈ tailsL al ps t n, x < al.length + ps.length := fun x hx => by
  unfold tailsL at hx
  obtain ⟨k, hk, rfl⟩ := List.mem_map.mp hx
  have hk' := List.mem_range.mp hk
  have hne : t.take (k + 1) ≠ [] := fun z => by
    have := congrArg List.length z
    rw [List.length_take, List.length_nil] at this; omega
  obtain ⟨u, h1, _⟩ := tail_ex hnd h (t := t.take (k + 1)) (fun c hc => ht c (List.mem_of_mem_take hc)) hne
  exact h1
end
end RJ
namespace RJ
theorem tailsL_take {al : List Nat} {ps : List (Nat × Nat)} (t : List Nat) {n m : Nat} (h : n ≤ m) : tailsL al ps (t.take m) n = tailsL al ps t n := by
  unfold tailsL
  refine List.map_congr_left fun k hk => ?_
  have hk' := List.mem_range.mp hk
  rw [List.take_take, Nat.min_eq_left (by omega)]
end RJ
namespace RJ
section
variable {al : List Nat} {ps : List (Nat × Nat)}
/-- exactly the last piece fits -/
theorem fit_iff (hnd : al.Nodup) (h : Proper al ps) {t : List Nat} {p : Nat} (ht : ∀ c ∈ t, c ∈ al) (hne : t ≠ []) (hp : p < al.length + ps.length) :
    p = tailOf al ps t ↔ ∃ u, t = u ++ TX al ps p ∧ (u = [] ∨ ∀ r, ¬ Cross al.length ps (tailOf al ps u) p r) := by
  constructor
  · rintro rfl
    obtain ⟨u, _, h2, _, _, h5⟩ := tail_ex hnd h ht hne
    exact ⟨u, h2, h5⟩
  · rintro ⟨u, h1, h2⟩
    exact (tail_uniq hnd h ht hp h1 h2).1
theorem pair_iff (hnd : al.Nodup) (h : Proper al ps) {x y : Nat} (hx : x < al.length + ps.length) (hy : y < al.length + ps.length) : CT al ps (TX al ps x ++ TX al ps y) = [x, y] ↔ ∀ r, ¬ Cross al.length ps x y r := by
  have hx' : x < (textsOf al ps).length := by rw [textsOf_len]; exact hx
  have e : (textsOf al ps)[x]? = some (TX al ps x) := by
    rw [List.getElem?_eq_getElem hx']
    show _ = some ((textsOf al ps).getD x [])
    rw [List.getD_eq_getElem?_getD, List.getElem?_eq_getElem hx']; rfl
  have hc : CT al ps (TX al ps x) = [x] := cut_piece hnd h x _ e
  have hin : ∀ c ∈ TX al ps x, c ∈ al := textsOf_al _ (List.mem_of_getElem? e)
  have := CT_app hnd h hin hy
  rw [hc] at this
  rw [show ([x, y] : List Nat) = [x] ++ [y] from rfl, this]
  constructor
  · intro k; exact k x rfl
  · intro k z hz; cases hz; exact k
end
end RJ
end

section
namespace RJ
section
variable {al : List Nat} {ps : List (Nat × Nat)}
/-- the place at which the last piece of the cut of the first k letters begins -/
def parP (al : List Nat) (ps : List (Nat × Nat)) (t : List Nat) (k : Nat) : Nat := k - (TX al ps (tailOf al ps (t.take k))).length
theorem take_mem {t : List Nat} {k : Nat} (ht : ∀ c ∈ t, c ∈ al) : ∀ c ∈ t.take k, c ∈ al := fun c hc => ht c (List.mem_of_mem_take hc)
theorem par_spec (hnd : al.Nodup) (h : Proper al ps) {t : List Nat} (ht : ∀ c ∈ t, c ∈ al) {k : Nat} (h0 : 0 < k) (hk : k ≤ t.length) :
    parP al ps t k < k ∧ tailOf al ps (t.take k) < al.length + ps.length ∧ (TX al ps (tailOf al ps (t.take k))).length ≤ k ∧ t.take k = t.take (parP al ps t k) ++ TX al ps (tailOf al ps (t.take k)) ∧ CT al ps (t.take k) = CT al ps (t.take (parP al ps t k)) ++ [tailOf al ps (t.take k)] ∧
    (parP al ps t k = 0 ∨ ∀ r, ¬ Cross al.length ps (tailOf al ps (t.take (parP al ps t k))) (tailOf al ps (t.take k)) r) := by
  have hl : (t.take k).length = k := by rw [List.length_take]; omega
  have hne : t.take k ≠ [] := fun z => by rw [z] at hl; rw [List.length_nil] at hl; omega
  obtain ⟨u, h1, h2, h3, h4, h5⟩ := tail_ex hnd h (take_mem ht) hne
  have hlen : k = u.length + (TX al ps (tailOf al ps (t.take k))).length := by
    have := congrArg List.length h2
    rwa [hl, List.length_append] at this
  have hp : parP al ps t k = u.length := by unfold parP; omega
  have hu : t.take (parP al ps t k) = u := by
    have e := congrArg (List.take u.length) h2
    rw [List.take_left, List.take_take, Nat.min_eq_left (by omega)] at e
    rw [hp]; exact e
  refine ⟨by rw [hp]; omega, h1, by omega, by rw [hu]; exact h2, by rw [hu]; exact h3, ?_⟩
  rw [hu]
  rcases h5 with z | z
  · left; rw [hp, z]; rfl
  · exact .inr z
/-- the cut of the first c letters begins the one of the first k -/
def Anc (al : List Nat) (ps : List (Nat × Nat)) (t : List Nat) (c k : Nat) : Prop := c ≤ k ∧ CT al ps (t.take c) <+: CT al ps (t.take k)
theorem Anc.refl (t : List Nat) (k : Nat) : Anc al ps t k k := ⟨Nat.le_refl _, List.prefix_refl _⟩
theorem Anc.trans {t : List Nat} {a b c : Nat} (h1 : Anc al ps t a b) (h2 : Anc al ps t b c) : Anc al ps t a c := ⟨Nat.le_trans h1.1 h2.1, h1.2.trans h2.2⟩
theorem Anc.par (hnd : al.Nodup) (h : Proper al ps) {t : List Nat} (ht : ∀ c ∈ t, c ∈ al) {k : Nat} (h0 : 0 < k) (hk : k ≤ t.length) : Anc al ps t (parP al ps t k) k := by
  obtain ⟨h1, _, _, _, h5, _⟩ := par_spec hnd h ht h0 hk
  exact ⟨by omega, by rw [h5]; exact List.prefix_append _ _⟩
theorem pre_len {R R' : List Nat} {t t' : List Nat} (hw : WF al.length ps) (ht : ∀ c ∈ t, c ∈ al) (ht' : ∀ c ∈ t', c ∈ al) (h : CT al ps t <+: CT al ps t') : t <+: t' := by
  obtain ⟨S, hS⟩ := h
  have e := congrArg (textR (textsOf al ps)) hS
  rw [textR_app, text_cut hw ht, text_cut hw ht'] at e
  exact ⟨_, e⟩
theorem pre_split {a b : List Nat} {x : Nat} (h : a <+: b ++ [x]) : a <+: b ∨ a = b ++ [x] := by
  rcases List.prefix_concat_iff.mp h with z | z
  · exact .inr z
  · exact .inl z
theorem Anc.step (hnd : al.Nodup) (h : Proper al ps) {t : List Nat} (ht : ∀ c ∈ t, c ∈ al) {c k : Nat} (hc : Anc al ps t c k) (hlt : c < k) (hk : k ≤ t.length) : Anc al ps t c (parP al ps t k) := by
  obtain ⟨h1, _, _, _, h5, _⟩ := par_spec hnd h ht (by omega : 0 < k) hk
  have h2 := hc.2
  rw [h5] at h2
  rcases pre_split h2 with z | z
  · refine ⟨?_, z⟩
    have := (pre_len (R := []) (R' := []) h.wf (take_mem ht) (take_mem ht) z).length_le
    rw [List.length_take, List.length_take] at this; omega
  · exfalso
    have e := congrArg (fun r => (textR (textsOf al ps) r).length) (z.trans h5.symm)
    rw [text_cut h.wf (take_mem ht), text_cut h.wf (take_mem ht), List.length_take, List.length_take] at e
    omega
/-- a piece with which the cut of a text that begins so comes to its end, or first goes beyond it -/
def Cov (al : List Nat) (ps : List (Nat × Nat)) (t : List Nat) (b p : Nat) : Prop := b < t.length ∧ p < al.length + ps.length ∧ t.drop b <+: TX al ps p ∧ (b = 0 ∨ ∀ r, ¬ Cross al.length ps (tailOf al ps (t.take b)) p r)
theorem Cov.text (hnd : al.Nodup) (h : Proper al ps) {t : List Nat} (ht : ∀ c ∈ t, c ∈ al) {b p : Nat} (hc : Cov al ps t b p) :
    t <+: t.take b ++ TX al ps p ∧ (∀ c ∈ t.take b ++ TX al ps p, c ∈ al) ∧ CT al ps (t.take b ++ TX al ps p) = CT al ps (t.take b) ++ [p] ∧ t.length ≤ b + (TX al ps p).length := by
  obtain ⟨h1, h2, h3, h4⟩ := hc
  have hm : ∀ c ∈ TX al ps p, c ∈ al := by
    intro c hc
    have hp' : p < (textsOf al ps).length := by rw [textsOf_len]; exact h2
    refine textsOf_al _ (List.getElem_mem hp') c ?_
    have : TX al ps p = (textsOf al ps)[p] := by show (textsOf al ps).getD p [] = _; rw [List.getD_eq_getElem?_getD, List.getElem?_eq_getElem hp']; rfl
    rw [← this]; exact hc
  refine ⟨?_, fun c hc => (List.mem_append.mp hc).elim (take_mem ht c) (hm c), ?_, ?_⟩
  · obtain ⟨R, hR⟩ := h3
    refine ⟨R, ?_⟩
    rw [← hR, ← List.append_assoc, List.take_append_drop]
  · refine (CT_app hnd h (take_mem ht) h2).mpr fun y hy r => ?_
    rcases h4 with rfl | h4
    · rw [List.take_zero, show CT al ps [] = [] from cut_nil _ _] at hy; cases hy
    · have : tailOf al ps (t.take b) = y := by unfold tailOf; rw [hy]; rfl
      rw [← this]; exact h4 r
  · have := h3.length_le
    rw [List.length_drop] at this; omega
theorem take_pre {t y : List Nat} (h : t <+: y) {k : Nat} (hk : k ≤ t.length) : y.take k = t.take k := by
  obtain ⟨R, rfl⟩ := h
  rw [List.take_append_of_le_length hk]
theorem drop_pre {t y : List Nat} (h : t <+: y) (k : Nat) : t.drop k <+: y.drop k := by
  obtain ⟨R, rfl⟩ := h
  by_cases c : k ≤ t.length
  · rw [List.drop_append_of_le_length c]; exact List.prefix_append _ _
  · rw [List.drop_eq_nil_of_le (by omega)]; exact List.nil_prefix
/-- the cut of every text that begins so goes through one of them -/
theorem cov_ex (hnd : al.Nodup) (h : Proper al ps) {t y : List Nat} (hy : ∀ c ∈ y, c ∈ al) (hp : t <+: y) (hne : t ≠ []) : ∃ b p, Cov al ps t b p ∧ CT al ps (t.take b) ++ [p] <+: CT al ps y := by
  have h0 : 0 < t.length := List.length_pos_iff.mpr hne
  have hle := hp.length_le
  have key : ∀ n k, k ≤ n → t.length ≤ k → k ≤ y.length → ∃ b p, Cov al ps t b p ∧ CT al ps (t.take b) ++ [p] <+: CT al ps (y.take k) := by
    intro n
    induction n with
    | zero => intro k hk h1 _; omega
    | succ n ih =>
      intro k hk h1 h2
      obtain ⟨g1, g2, g3, g4, g5, g6⟩ := par_spec hnd h hy (by omega : 0 < k) h2
      by_cases c : t.length ≤ parP al ps y k
      · obtain ⟨b, p, h3, h4⟩ := ih (parP al ps y k) (by omega) c (by omega)
        exact ⟨b, p, h3, h4.trans (by rw [g5]; exact List.prefix_append _ _)⟩
      · have e : y.take (parP al ps y k) = t.take (parP al ps y k) := take_pre hp (by omega)
        refine ⟨parP al ps y k, tailOf al ps (y.take k), ⟨by omega, g2, ?_, ?_⟩, ?_⟩
        · have hd : (y.take k).drop (parP al ps y k) = TX al ps (tailOf al ps (y.take k)) := by
            conv => lhs; rw [g4]
            have hl : (y.take (parP al ps y k)).length = parP al ps y k := by rw [List.length_take]; omega
            conv => lhs; arg 1; rw [← hl]
            rw [List.drop_left]
          rw [← hd]
          have ht2 : t <+: y.take k := by
            obtain ⟨R, rfl⟩ := hp
            exact ⟨R.take (k - t.length), by rw [List.take_append, List.take_of_length_le h1]⟩
          exact drop_pre ht2 _
        · rw [e] at g6; exact g6
        · rw [g5, e]; exact List.prefix_refl _
  have := key y.length y.length (Nat.le_refl _) hle (Nat.le_refl _)
  rwa [List.take_length] at this
/-- the longest common beginning of the cuts of all texts that begin so -/
def SureIs (al : List Nat) (ps : List (Nat × Nat)) (t S : List Nat) : Prop := (∀ y, (∀ c ∈ y, c ∈ al) → t <+: y → S <+: CT al ps y) ∧ ∀ S', (∀ y, (∀ c ∈ y, c ∈ al) → t <+: y → S' <+: CT al ps y) → S' <+: S
theorem SureIs.uniq {t S S' : List Nat} (h : SureIs al ps t S) (h' : SureIs al ps t S') : S = S' := by
  have h1 := h.2 S' h'.1
  have h2 := h'.2 S h.1
  exact h2.eq_of_length (Nat.le_antisymm h2.length_le h1.length_le)
theorem SureIs.mono {t u S S' : List Nat} (h : SureIs al ps t S) (h' : SureIs al ps u S') (hp : t <+: u) : S <+: S' :=
  h'.2 S fun y hy hu => h.1 y hy (hp.trans hu)
theorem SureIs.cut {t S : List Nat} (h : SureIs al ps t S) (ht : ∀ c ∈ t, c ∈ al) : S <+: CT al ps t := h.1 t ht (List.prefix_refl _)
theorem sure_nil : SureIs al ps [] [] := ⟨fun y _ _ => List.nil_prefix, fun S' h => by
  have := h [] (fun c hc => absurd hc (by simp)) (List.prefix_refl _)
  rw [show CT al ps [] = [] from cut_nil _ _] at this; exact this⟩
/-- only one -/
theorem sure_one (hnd : al.Nodup) (h : Proper al ps) {t : List Nat} (ht : ∀ c ∈ t, c ∈ al) {b p : Nat} (hc : Cov al ps t b p) (hu : ∀ b' p', Cov al ps t b' p' → b' = b ∧ p' = p) : SureIs al ps t (CT al ps (t.take b) ++ [p]) := by
  have hne : t ≠ [] := fun z => by have := hc.1; rw [z, List.length_nil] at this; omega
  obtain ⟨c1, c2, c3, c4⟩ := hc.text hnd h ht
  refine ⟨fun y hy hp => ?_, fun S' h' => ?_⟩
  · obtain ⟨b', p', h1, h2⟩ := cov_ex hnd h hy hp hne
    obtain ⟨rfl, rfl⟩ := hu b' p' h1
    exact h2
  · rw [← c3]; exact h' _ c2 c1
/-- more than one: all of them, taken back to one place -/
theorem sure_more (hnd : al.Nodup) (h : Proper al ps) {t : List Nat} (ht : ∀ c ∈ t, c ∈ al) {b1 p1 b2 p2 c : Nat} (h1 : Cov al ps t b1 p1) (h2 : Cov al ps t b2 p2) (hne : ¬ (b1 = b2 ∧ p1 = p2)) (hct : c ≤ t.length)
    (hall : ∀ b p, Cov al ps t b p → Anc al ps t c b) (hmax : ∀ c', (∀ b p, Cov al ps t b p → Anc al ps t c' b) → Anc al ps t c' c) : SureIs al ps t (CT al ps (t.take c)) := by
  have htne : t ≠ [] := fun z => by have := h1.1; rw [z, List.length_nil] at this; omega
  refine ⟨fun y hy hp => ?_, fun S' h' => ?_⟩
  · obtain ⟨b', p', g1, g2⟩ := cov_ex hnd h hy hp htne
    exact ((hall b' p' g1).2.trans (List.prefix_append _ _)).trans g2
  · obtain ⟨k1, k2, k3, k4⟩ := h1.text hnd h ht
    have e1 := h' _ k2 k1
    rw [k3] at e1
    have e2 : CT al ps (t.take c) <+: CT al ps (t.take b1) ++ [p1] := (hall _ _ h1).2.trans (List.prefix_append _ _)
    rcases List.prefix_or_prefix_of_prefix e1 e2 with z | z
    · exact z
    · obtain ⟨R, hR⟩ := z
      cases R with
      | nil => rw [List.append_nil] at hR; rw [hR]; exact List.prefix_refl _
      | cons q R =>
        exfalso
        have hq : ∀ b p, Cov al ps t b p → CT al ps (t.take c) ++ [q] <+: CT al ps (t.take b) ∨ (c = b ∧ q = p) := by
          intro b p hc
          obtain ⟨j1, j2, j3, j4⟩ := hc.text hnd h ht
          have e3 := h' _ j2 j1
          rw [j3, ← hR] at e3
          have e4 : CT al ps (t.take c) ++ [q] <+: CT al ps (t.take b) ++ [p] := by
            refine List.IsPrefix.trans ⟨R, ?_⟩ e3
            rw [List.append_assoc]; rfl
          rcases pre_split e4 with z | z
          · exact .inl z
          · right
            obtain ⟨z1, z2⟩ := List.append_inj' z rfl
            refine ⟨?_, List.singleton_inj.mp z2⟩
            have e := congrArg (fun r => (textR (textsOf al ps) r).length) z1
            rw [text_cut h.wf (take_mem ht), text_cut h.wf (take_mem ht), List.length_take, List.length_take] at e
            have := hc.1
            omega
        have hqlt : ∀ b p, Cov al ps t b p → CT al ps (t.take c) ++ [q] <+: CT al ps (t.take b) → q < al.length + ps.length := fun b p _ z => by
          refine cut_lt (ps := ps) (t := t.take b) (take_mem ht) q ?_
          exact z.subset (by simp)
        have far : ∀ b p, Cov al ps t b p → CT al ps (t.take c) ++ [q] <+: CT al ps (t.take b) → Anc al ps t (c + (TX al ps q).length) b ∧ c + (TX al ps q).length ≤ b := fun b p hc z => by
          obtain ⟨R2, hR2⟩ := z
          have hrow : ∀ x ∈ CT al ps (t.take c) ++ [q], x < al.length + ps.length := fun x hx => cut_lt (ps := ps) (t := t.take b) (take_mem ht) x (by
            show x ∈ CT al ps (t.take b)
            rw [← hR2]; exact List.mem_append_left _ hx)
          have hrowb : ∀ x ∈ CT al ps (t.take b), x < al.length + ps.length := cut_lt (take_mem ht)
          have hcr := (CT_row hnd h hrowb).mp (by rw [text_cut h.wf (take_mem ht)])
          have hself : CT al ps (textR (textsOf al ps) (CT al ps (t.take c) ++ [q])) = CT al ps (t.take c) ++ [q] := (CT_row hnd h hrow).mpr fun x hx => hcr x (by rw [← hR2]; exact adjs_sub_left hx)
          have etx : textR (textsOf al ps) (CT al ps (t.take c) ++ [q]) = t.take c ++ TX al ps q := by rw [textR_app, text_cut h.wf (take_mem ht), textR_one]
          have eb : t.take c ++ TX al ps q <+: t.take b := by
            have e := congrArg (textR (textsOf al ps)) hR2
            rw [textR_app, etx, text_cut h.wf (take_mem ht)] at e
            exact ⟨_, e⟩
          have hlen := eb.length_le
          rw [List.length_append, List.length_take, List.length_take, Nat.min_eq_left hct] at hlen
          have e5 : t.take (c + (TX al ps q).length) = t.take c ++ TX al ps q := by
            have h6 : t.take c ++ TX al ps q <+: t := eb.trans (List.take_prefix _ _)
            have h7 := List.prefix_iff_eq_take.mp h6
            rw [List.length_append, List.length_take, Nat.min_eq_left hct] at h7
            exact h7.symm
          refine ⟨⟨by omega, ?_⟩, by omega⟩
          rw [e5, ← etx, hself]
          exact ⟨R2, hR2⟩
        by_cases ex : ∃ b p, Cov al ps t b p ∧ c = b ∧ q = p
        · obtain ⟨b, p, g1, rfl, rfl⟩ := ex
          have big := (g1.text hnd h ht).2.2.2
          have no : ∀ b' p', Cov al ps t b' p' → c = b' ∧ q = p' := fun b' p' g' => by
            rcases hq b' p' g' with z | z
            · have := (far b' p' g' z).2
              have := g'.1
              omega
            · exact z
          obtain ⟨a1, a2⟩ := no _ _ h1
          obtain ⟨a3, a4⟩ := no _ _ h2
          exact hne ⟨a1.symm.trans a3, a2.symm.trans a4⟩
        · have hq2 : ∀ b p, Cov al ps t b p → CT al ps (t.take c) ++ [q] <+: CT al ps (t.take b) := fun b p g => by
            rcases hq b p g with z | z
            · exact z
            · exact absurd ⟨b, p, g, z⟩ ex
          have := hmax (c + (TX al ps q).length) fun b p g => (far b p g (hq2 b p g)).1
          have pos := texts_pos h.wf q (hqlt _ _ h1 (hq2 _ _ h1))
          have := this.1
          have : (TX al ps q).length = ((textsOf al ps).getD q []).length := rfl
          omega
/-- what the covers' places are taken back to -/
structure Places (al : List Nat) (ps : List (Nat × Nat)) (t : List Nat) (B P : List Nat) : Prop where
  le : ∀ x ∈ P, x ≤ t.length
  up : ∀ b ∈ B, ∃ x ∈ P, Anc al ps t x b
  mx : ∀ c, (∀ b ∈ B, Anc al ps t c b) → ∀ x ∈ P, Anc al ps t c x
theorem Places.start {t B : List Nat} {P : List Nat} (hB : ∀ b ∈ B, b ≤ t.length) (h : ∀ x, x ∈ P ↔ x ∈ B) : Places al ps t B P :=
  ⟨fun x hx => hB x ((h x).mp hx), fun b hb => ⟨b, (h b).mpr hb, Anc.refl t b⟩, fun c hc x hx => hc x ((h x).mp hx)⟩
theorem Places.step (hnd : al.Nodup) (h : Proper al ps) {t : List Nat} (ht : ∀ c ∈ t, c ∈ al) {B P P' : List Nat} {m o : Nat} (I : Places al ps t B P) (hm : m ∈ P) (ho : o ∈ P) (hom : o < m) (h' : ∀ x, x ∈ P' ↔ (x ∈ P ∧ x ≠ m) ∨ x = parP al ps t m) : Places al ps t B P' := by
  have hml := I.le m hm
  obtain ⟨g1, _⟩ := par_spec hnd h ht (by omega : 0 < m) hml
  refine ⟨fun x hx => ?_, fun b hb => ?_, fun c hc x hx => ?_⟩
  · rcases (h' x).mp hx with z | z
    · exact I.le x z.1
    · omega
  · obtain ⟨x, hx, ha⟩ := I.up b hb
    by_cases e : x = m
    · subst e
      exact ⟨_, (h' _).mpr (.inr rfl), (Anc.par hnd h ht (by omega) hml).trans ha⟩
    · exact ⟨x, (h' x).mpr (.inl ⟨hx, e⟩), ha⟩
  · rcases (h' x).mp hx with z | z
    · exact I.mx c hc x z.1
    · subst z
      have a1 := I.mx c hc m hm
      have a2 := (I.mx c hc o ho).1
      exact a1.step hnd h ht (by omega) hml
/-- all covers, in their order -/
def covFrom (al : List Nat) (ps : List (Nat × Nat)) (t : List Nat) (fits : Nat → Nat → Bool) (lo n : Nat) : List (Nat × Nat) := (List.range' lo n).flatMap fun b => ((List.range (al.length + ps.length)).filter (fits b)).map fun p => (b, p)
theorem covFrom_mem {t : List Nat} {fits : Nat → Nat → Bool} {lo n b p : Nat} : (b, p) ∈ covFrom al ps t fits lo n ↔ (lo ≤ b ∧ b < lo + n) ∧ p < al.length + ps.length ∧ fits b p = true := by
  unfold covFrom
  rw [List.mem_flatMap]
  constructor
  · rintro ⟨a, ha, hb⟩
    obtain ⟨q, hq, e⟩ := List.mem_map.mp hb
    cases e
    rw [List.mem_filter, List.mem_range] at hq
    rw [List.mem_range'_1] at ha
    exact ⟨ha, hq.1, hq.2⟩
  · rintro ⟨h1, h2, h3⟩
    exact ⟨b, List.mem_range'_1.mpr h1, List.mem_map.mpr ⟨p, by rw [List.mem_filter, List.mem_range]; exact ⟨h2, h3⟩, rfl⟩⟩
theorem covFrom_nodup {t : List Nat} {fits : Nat → Nat → Bool} : ∀ {n lo : Nat}, (covFrom al ps t fits lo n).Nodup
  | 0, _ => List.nodup_nil
  | n + 1, lo => by
    have e : covFrom al ps t fits lo (n + 1) = (((List.range (al.length + ps.length)).filter (fits lo)).map fun p => (lo, p)) ++ covFrom al ps t fits (lo + 1) n := by
      unfold covFrom
      rw [List.range'_succ, List.flatMap_cons]
    rw [e]
    refine List.nodup_append.mpr ⟨?_, covFrom_nodup, fun x hx y hy => ?_⟩
    · have : ∀ l : List Nat, l.Nodup → (l.map fun p => (lo, p)).Nodup := by
        intro l hl
        induction l with
        | nil => exact List.nodup_nil
        | cons a l ih =>
          rw [List.nodup_cons] at hl
          rw [List.map_cons, List.nodup_cons]
          refine ⟨fun hm => ?_, ih hl.2⟩
          obtain ⟨q, hq, e⟩ := List.mem_map.mp hm
          cases e
          exact hl.1 hq
      exact this _ ((List.nodup_range).filter _)
    · obtain ⟨q, _, rfl⟩ := List.mem_map.mp hx
      rintro rfl
      have := (covFrom_mem.mp hy).1.1
      omega
end
end RJ
namespace RJ
section
variable {al : List Nat} {ps : List (Nat × Nat)}
/-- the pieces below n whose texts begin so -/
def begL (al : List Nat) (ps : List (Nat × Nat)) (n : Nat) (u : List Nat) : List Nat := (List.range n).filter fun q => u.isPrefixOf (TX al ps q)
/-- the same, with piece n where the beginning has at most i letters -/
def begC (al : List Nat) (ps : List (Nat × Nat)) (n i : Nat) (u : List Nat) : List Nat := begL al ps n u ++ (if u <+: TX al ps n ∧ u.length ≤ i then [n] else [])
theorem begL_zero (u : List Nat) : begL al ps 0 u = [] := rfl
theorem begL_mem {n : Nat} {u : List Nat} {q : Nat} : q ∈ begL al ps n u ↔ q < n ∧ u <+: TX al ps q := by
  unfold begL; rw [List.mem_filter, List.mem_range, List.isPrefixOf_iff_prefix]
theorem begL_succ (n : Nat) (u : List Nat) : begL al ps (n + 1) u = begC al ps n (TX al ps n).length u := by
  unfold begC begL
  rw [List.range_succ, List.filter_append]
  congr 1
  by_cases h : u <+: TX al ps n
  · rw [if_pos ⟨h, h.length_le⟩, List.filter_cons, if_pos (List.isPrefixOf_iff_prefix.mpr h)]; rfl
  · rw [if_neg (fun z => h z.1)]
    have : u.isPrefixOf (TX al ps n) = false := by
      cases e : u.isPrefixOf (TX al ps n) with
      | false => rfl
      | true => exact absurd (List.isPrefixOf_iff_prefix.mp e) h
    rw [List.filter_cons, if_neg (by rw [this]; exact Bool.false_ne_true)]; rfl
theorem begC_zero {n : Nat} {u : List Nat} (h : u ≠ []) : begC al ps n 0 u = begL al ps n u := by
  unfold begC
  rw [if_neg (fun z => h (List.eq_nil_of_length_eq_zero (Nat.le_zero.mp z.2))), List.append_nil]
theorem begC_here {n i : Nat} (hi : i + 1 ≤ (TX al ps n).length) : begC al ps n i ((TX al ps n).take (i + 1)) = begL al ps n ((TX al ps n).take (i + 1)) ∧ begC al ps n (i + 1) ((TX al ps n).take (i + 1)) = begL al ps n ((TX al ps n).take (i + 1)) ++ [n] := by
  have hl : ((TX al ps n).take (i + 1)).length = i + 1 := by rw [List.length_take]; omega
  constructor
  · unfold begC
    rw [if_neg (fun z => by have := z.2; omega), List.append_nil]
  · unfold begC
    rw [if_pos ⟨List.take_prefix _ _, by omega⟩]
theorem begC_other {n i : Nat} {u : List Nat} (h : u ≠ (TX al ps n).take (i + 1)) : begC al ps n (i + 1) u = begC al ps n i u := by
  unfold begC
  congr 1
  by_cases c : u <+: TX al ps n ∧ u.length ≤ i
  · rw [if_pos c, if_pos ⟨c.1, by omega⟩]
  · rw [if_neg c, if_neg]
    rintro ⟨c1, c2⟩
    refine c ⟨c1, ?_⟩
    rcases Nat.lt_or_ge u.length (i + 1) with z | z
    · omega
    · exfalso
      apply h
      have e := List.prefix_iff_eq_take.mp c1
      rw [show u.length = i + 1 by omega] at e
      exact e
end
end RJ
namespace RJ
section
variable {al : List Nat} {ps : List (Nat × Nat)}
noncomputable def covB (al : List Nat) (ps : List (Nat × Nat)) (t : List Nat) (b p : Nat) : Bool := @decide (Cov al ps t b p) (Classical.propDecidable _)
theorem covB_iff {t : List Nat} {b p : Nat} : covB al ps t b p = true ↔ Cov al ps t b p := by
  unfold covB; exact @decide_eq_true_iff _ (Classical.propDecidable _)
theorem covB_filter {t : List Nat} {b : Nat} : (begL al ps (al.length + ps.length) (t.drop b)).filter (covB al ps t b) = (List.range (al.length + ps.length)).filter (covB al ps t b) := by
  unfold begL
  rw [List.filter_filter]
  refine List.filter_congr fun q _ => ?_
  cases h : covB al ps t b q with
  | false => rfl
  | true =>
    have := (covB_iff.mp h).2.2.1
    rw [List.isPrefixOf_iff_prefix.mpr this]; rfl
theorem covFrom_succ {t : List Nat} {fits : Nat → Nat → Bool} {lo n : Nat} : covFrom al ps t fits lo (n + 1) = covFrom al ps t fits lo n ++ ((List.range (al.length + ps.length)).filter (fits (lo + n))).map fun p => (lo + n, p) := by
  unfold covFrom
  rw [show List.range' lo (n + 1) = List.range' lo n ++ [lo + n] by rw [List.range'_concat]; simp, List.flatMap_append, List.flatMap_singleton]
theorem sum_filter_ne {m : Nat} : ∀ {P : List Nat}, P.Nodup → m ∈ P → (P.filter fun x => decide (x ≠ m)).sum + m = P.sum
  | [], _, h => absurd h List.not_mem_nil
  | a :: P, hn, h => by
    rw [List.nodup_cons] at hn
    by_cases c : a = m
    · subst c
      rw [List.filter_cons, if_neg (by simp), List.sum_cons]
      have e : P.filter (fun x => decide (x ≠ a)) = P := List.filter_eq_self.mpr fun x hx => decide_eq_true (fun z => hn.1 (z ▸ hx))
      rw [e]; omega
    · rw [List.filter_cons, if_pos (by simpa using c), List.sum_cons, List.sum_cons]
      have hm : m ∈ P := (List.mem_cons.mp h).resolve_left (fun z => c z.symm)
      have := sum_filter_ne hn.2 hm
      omega
/-- one more, if it isn't there -/
def addP (P : List Nat) (x : Nat) : List Nat := if x ∈ P then P else P ++ [x]
theorem addP_mem {P : List Nat} {x y : Nat} : y ∈ addP P x ↔ y ∈ P ∨ y = x := by
  unfold addP
  split
  · rename_i h
    constructor
    · exact .inl
    · rintro (z | rfl)
      · exact z
      · exact h
  · rw [List.mem_append, List.mem_singleton]
theorem addP_nodup {P : List Nat} {x : Nat} (h : P.Nodup) : (addP P x).Nodup := by
  unfold addP
  split
  · exact h
  · rename_i hx
    rw [List.nodup_append]
    exact ⟨h, by simp, fun a ha b hb e => hx (by rw [List.mem_singleton.mp hb] at e; exact e ▸ ha)⟩
theorem addP_sum {P : List Nat} {x : Nat} : (addP P x).sum ≤ P.sum + x := by
  unfold addP
  split
  · omega
  · rw [List.sum_append]; simp
theorem addP_len {P : List Nat} {x : Nat} : (addP P x).length ≤ P.length + 1 := by
  unfold addP
  split
  · omega
  · rw [List.length_append]; simp
end
end RJ
namespace RJ
section
variable {al : List Nat} {ps : List (Nat × Nat)}
theorem covFrom_len {t : List Nat} {fits : Nat → Nat → Bool} {lo : Nat} : ∀ {n : Nat}, (covFrom al ps t fits lo n).length ≤ n * (al.length + ps.length)
  | 0 => Nat.zero_le _
  | n + 1 => by
    rw [covFrom_succ, List.length_append, List.length_map, Nat.succ_mul]
    have h1 := covFrom_len (t := t) (fits := fits) (lo := lo) (n := n)
    have h2 : ((List.range (al.length + ps.length)).filter (fits (lo + n))).length ≤ al.length + ps.length := Nat.le_trans (List.length_filter_le _ _) (by rw [List.length_range]; exact Nat.le_refl _)
    omega
theorem addsP : ∀ (l acc : List Nat), acc.Nodup → (l.foldl addP acc).Nodup ∧ (∀ x, x ∈ l.foldl addP acc ↔ x ∈ acc ∨ x ∈ l) ∧ (l.foldl addP acc).length ≤ acc.length + l.length
  | [], acc, h => ⟨h, fun x => by simp, Nat.le_refl _⟩
  | a :: l, acc, h => by
    obtain ⟨h1, h2, h3⟩ := addsP l (addP acc a) (addP_nodup h)
    refine ⟨h1, fun x => ?_, ?_⟩
    · show x ∈ l.foldl addP (addP acc a) ↔ _
      rw [h2 x, addP_mem, List.mem_cons]
      constructor
      · rintro ((z | z) | z)
        · exact .inl z
        · exact .inr (.inl z)
        · exact .inr (.inr z)
      · rintro (z | z | z)
        · exact .inl (.inl z)
        · exact .inl (.inr z)
        · exact .inr z
    · show (l.foldl addP (addP acc a)).length ≤ _
      have := addP_len (P := acc) (x := a)
      rw [List.length_cons]; omega
theorem other_of {P : List Nat} {x : Nat} (h : P.Nodup) (h2 : 1 < P.length) : ∃ o ∈ P, o ≠ x := by
  match P, h, h2 with
  | a :: b :: r, h, _ =>
    by_cases c : a = x
    · refine ⟨b, by simp, fun e => ?_⟩
      rw [List.nodup_cons] at h
      exact h.1 (by rw [c, ← e]; simp)
    · exact ⟨a, by simp, c⟩
end
end RJ
namespace RJ
/-- how far two rows agree -/
def lcpL : List Nat → List Nat → Nat
  | a :: u, b :: v => if a = b then lcpL u v + 1 else 0
  | _, _ => 0
theorem lcpL_le : ∀ (u v : List Nat), lcpL u v ≤ u.length ∧ lcpL u v ≤ v.length
  | [], v => ⟨Nat.le_refl _, Nat.zero_le _⟩
  | a :: u, [] => ⟨Nat.zero_le _, Nat.le_refl _⟩
  | a :: u, b :: v => by
    have := lcpL_le u v
    unfold lcpL
    split
    · rw [List.length_cons, List.length_cons]; omega
    · exact ⟨Nat.zero_le _, Nat.zero_le _⟩
theorem lcpL_take : ∀ (u v : List Nat) (n : Nat), n ≤ lcpL u v → u.take n = v.take n
  | [], v, n, h => by
    have : n = 0 := Nat.le_zero.mp h
    subst this; rw [List.take_zero, List.take_zero]
  | a :: u, [], n, h => by
    have : n = 0 := Nat.le_zero.mp h
    subst this; rw [List.take_zero, List.take_zero]
  | a :: u, b :: v, 0, _ => rfl
  | a :: u, b :: v, n + 1, h => by
    unfold lcpL at h
    split at h
    · rename_i e
      rw [List.take_succ_cons, List.take_succ_cons, e, lcpL_take u v n (by omega)]
    · omega
theorem lcpL_pre : ∀ {w u v : List Nat}, w <+: u → w <+: v → w.length ≤ lcpL u v
  | [], _, _, _, _ => Nat.zero_le _
  | a :: w, u, v, h1, h2 => by
    obtain ⟨r, rfl⟩ := h1
    obtain ⟨r2, rfl⟩ := h2
    show w.length + 1 ≤ (if a = a then lcpL (w ++ r) (w ++ r2) + 1 else 0)
    rw [if_pos rfl]
    have := lcpL_pre (w := w) (u := w ++ r) (v := w ++ r2) (List.prefix_append _ _) (List.prefix_append _ _)
    omega
theorem lcpL_next : ∀ (u v : List Nat) {x y : Nat}, u[lcpL u v]? = some x → v[lcpL u v]? = some y → x ≠ y
  | [], v, x, y, h, _ => by simp at h
  | a :: u, [], x, y, _, h => by simp at h
  | a :: u, b :: v, x, y, h1, h2 => by
    unfold lcpL at h1 h2
    split at h1
    · rename_i e
      rw [if_pos e] at h2
      rw [List.getElem?_cons_succ] at h1 h2
      exact lcpL_next u v h1 h2
    · rename_i e
      rw [if_neg e] at h2
      rw [List.getElem?_cons_zero] at h1 h2
      cases h1; cases h2
      exact e
/-- what lcpL is -/
theorem lcpL_is {u v : List Nat} {n : Nat} (h1 : u.take n = v.take n) (hu : n ≤ u.length) (hv : n ≤ v.length) (h2 : n = u.length ∨ n = v.length ∨ ∃ x y, u[n]? = some x ∧ v[n]? = some y ∧ x ≠ y) : lcpL u v = n := by
  have ge : n ≤ lcpL u v := by
    have := lcpL_pre (w := u.take n) (u := u) (v := v) (List.take_prefix _ _) (by rw [h1]; exact List.take_prefix _ _)
    rw [List.length_take] at this; omega
  have le := lcpL_le u v
  rcases h2 with h | h | ⟨x, y, hx, hy, hne⟩
  · omega
  · omega
  · rcases Nat.lt_or_ge n (lcpL u v) with c | c
    · exfalso
      have := lcpL_take u v (n + 1) c
      have e := congrArg (fun l => l[n]?) this
      rw [List.getElem?_take_of_lt (by omega), List.getElem?_take_of_lt (by omega), hx, hy] at e
      exact hne (Option.some.inj e)
    · omega
section
variable {al : List Nat} {ps : List (Nat × Nat)}
/-- one that goes beyond the text -/
def Long (al : List Nat) (ps : List (Nat × Nat)) (t : List Nat) (b : Nat) : Prop := ∃ p, Cov al ps t b p ∧ t.length < b + (TX al ps p).length
theorem sure_len (hnd : al.Nodup) (h : Proper al ps) {t R : List Nat} (hS : SureIs al ps t R) (ht : ∀ c ∈ t, c ∈ al) {m : Nat} (hm : m ≤ (CT al ps t).length) (h1 : ∀ b, Long al ps t b → m ≤ lcpL (CT al ps t) (CT al ps (t.take b))) (h2 : m = (CT al ps t).length ∨ ∃ b, Long al ps t b ∧ m = lcpL (CT al ps t) (CT al ps (t.take b))) : m = R.length := by
  have hRt := hS.cut ht
  have le1 : R.length ≤ m := by
    rcases h2 with rfl | ⟨b, ⟨p, hc, hl⟩, rfl⟩
    · exact hRt.length_le
    · refine lcpL_pre hRt ?_
      obtain ⟨c1, c2, c3, c4⟩ := hc.text hnd h ht
      have e1 := hS.1 _ c2 c1
      rw [c3] at e1
      rcases pre_split e1 with z | z
      · exact z
      · exfalso
        rw [z, ← c3] at hRt
        have := (pre_len (R := []) (R' := []) h.wf c2 ht hRt).length_le
        rw [List.length_append, List.length_take] at this
        have := hc.1
        omega
  have ge1 : m ≤ R.length := by
    have key : (CT al ps t).take m <+: R := by
      refine hS.2 _ fun y hy hp => ?_
      by_cases hne : t = []
      · subst hne
        rw [show CT al ps [] = [] from cut_nil _ _, List.take_nil]; exact List.nil_prefix
      obtain ⟨b, p, hc, hpre⟩ := cov_ex hnd h hy hp hne
      obtain ⟨c1, c2, c3, c4⟩ := hc.text hnd h ht
      by_cases hl : t.length < b + (TX al ps p).length
      · have := h1 b ⟨p, hc, hl⟩
        rw [lcpL_take _ _ _ this]
        exact ((List.take_prefix _ _).trans (List.prefix_append _ [p])).trans hpre
      · have e : t = t.take b ++ TX al ps p := by
          refine c1.eq_of_length ?_
          rw [List.length_append, List.length_take]
          have := hc.1; omega
        rw [← c3, ← e] at hpre
        exact (List.take_prefix _ _).trans hpre
    have := key.length_le
    rw [List.length_take] at this; omega
  omega
end
end RJ
namespace RJ
theorem max_ex {M : Nat → Prop} (h0 : M 0) : ∀ N : Nat, ∃ n, n ≤ N ∧ M n ∧ ∀ k, k ≤ N → M k → k ≤ n
  | 0 => ⟨0, Nat.le_refl _, h0, fun k hk _ => hk⟩
  | N + 1 => by
    by_cases c : M (N + 1)
    · exact ⟨N + 1, Nat.le_refl _, c, fun k hk _ => hk⟩
    · obtain ⟨n, h1, h2, h3⟩ := max_ex h0 N
      refine ⟨n, by omega, h2, fun k hk hM => ?_⟩
      rcases Nat.lt_or_ge N k with z | z
      · exact absurd hM (by rw [show k = N + 1 by omega]; exact c)
      · exact h3 k z hM
section
variable {al : List Nat} {ps : List (Nat × Nat)}
theorem sure_ex {t : List Nat} (ht : ∀ c ∈ t, c ∈ al) : ∃ R, SureIs al ps t R := by
  obtain ⟨n, h1, h2, h3⟩ := max_ex (M := fun n => ∀ y, (∀ c ∈ y, c ∈ al) → t <+: y → (CT al ps t).take n <+: CT al ps y) (fun y _ _ => by rw [List.take_zero]; exact List.nil_prefix) (CT al ps t).length
  refine ⟨(CT al ps t).take n, h2, fun S' h' => ?_⟩
  have hS := h' t ht (List.prefix_refl t)
  have e := List.prefix_iff_eq_take.mp hS
  have := h3 S'.length hS.length_le (fun y hy hp => by rw [← e]; exact h' y hy hp)
  rw [e]
  exact List.take_prefix_take_left this
end
end RJ
end

section
set_option maxRecDepth 100000
namespace RJ
open PySem PySem.Spec PyProof.Rows L2
set_option maxRecDepth 8000 in
theorem extend_tuple (l : Addr) (items : Array Value) (n : Nat) (b : Addr) (o : Obj) (items2 : Array Value) (n2 : Nat) (ho1 : o.cls = .type "tuple") (ho2 : o.data = .seq items2 n2) (hs0 : ¬(!items.isEmpty && Builtin.List.listTooLong (items.size + items2.size)) = true) (hs1 : items.size ≤ sizeLine) (hs2 : items.size + items2.size ≤ sizeLine + 1) :
    Meets (Builtin.«list.extend» ⟨[.ref l, .ref b], []⟩) (fun _ R s => s.heap.get? l = some { cls := .type "list", dict := none, data := .seq items n, slots := #[] } ∧ s.heap.get? b = some o ∧ R (.ok (.ret Value.none)) { s with heap := s.heap.update l (Obj.mapSeq fun x => x ++ items2), toks := s.toks }) :=
  .of_wp fun prog w A R s h => by
    obtain ⟨hp, g, d, tk, os⟩ := s; obtain ⟨hl, hb, h⟩ := h; obtain ⟨c, dd, da, sl⟩ := o; dsimp only at ho1 ho2; subst ho1 ho2; have f1 := PySem.AutoSeq1.idx_int; have f2 := PySem.AutoSeq1.sub_tuple_tuple; have f3 := PySem.AutoSeq1.sub_list_list; have f4 := PySem.AutoSeq1.sub_tuple_list; have f5 := PySem.AutoSeq1.sub_list_tuple;
    have hz' : (items ++ items2).size ≤ sizeLine + 1 := by rw [Array.size_append]; exact hs2
    wp_walk using (wpAny_updateSeq hl rfl (hz := hs1) (_hz' := hz')), wpAny_loadPart' hl, wpAny_loadPart' hb; exact ⟨_, rfl, h⟩
def rExtendA (K : PySem.W.Frag) : V → List V → Hp → VK → Prop := fun x vs H Q => ∃ l b xs zs, x = .ref l ∧ vs = [.ref b] ∧ H l = some (.lst xs) ∧ SqT K H b zs ∧ xs.length + zs.length ≤ sizeLine ∧ Q .non (upd H l (.lst (xs ++ zs)))
section
variable {X : Cx}
/-- l.extend(a tuple) -/
theorem mt_extendT : MtM X "list.extend" (rExtendA X.K) := by
  intro pins s σ H x vs v us Q I rx rv h
  obtain ⟨l, b, xs, zs, rfl, rfl, hH, hB, hz, q⟩ := h
  cases rx
  obtain ⟨u, rfl, ru⟩ := rv.one
  cases ru
  obtain ⟨z, its, n, r, hl, e⟩ := I.lstM hH
  obtain ⟨its2, r2, ⟨o, e2, ho, n2, hd⟩, z2⟩ := I.tuple hB
  have hl2 := r2.length
  have hsz : its.toArray.size + its2.toArray.size ≤ sizeLine := by rw [List.size_toArray, List.size_toArray]; omega
  have hlong : ¬ (!its.toArray.isEmpty && Builtin.List.listTooLong (its.toArray.size + its2.toArray.size)) = true := by
    rw [notLongL hsz, Bool.and_false]
    exact Bool.false_ne_true
  refine call_meets F.slot_list_extend ⟨_, e, rfl⟩ F.entry_list_extend (F.args_list_extend_2 _ _)
    (extend_tuple l its.toArray n b o its2.toArray n2 ho hd hlong (by rw [List.size_toArray]; omega) (by omega)) ⟨e, e2, ?_⟩
  refine ⟨.non, _, I.lset (its' := its ++ its2) hH e (by simp) (r.append r2) ?_, rfl, q⟩
  rw [List.length_append]
  omega
end
open PySem.W (minD AlikeAll alike alikeAll dataLt)
/-- min(l, default=x) of alike data -/
def rMinDV (K : PySem.W.Frag) : List V → List V → Hp → VK → Prop := fun vs zs H Q => ∃ (a : Addr) (xs : List V) (ds : List PyData) (z : V), vs = [V.ref a] ∧ zs = [z] ∧ H a = some (.lst xs) ∧ DpAll K H xs ds ∧ AlikeAll ds ∧ PyData.depthAll ds ≤ 60 ∧
  (ds = [] → Q z H) ∧ ∀ (d : PyData) (ds' : List PyData) (i : Nat) (x : V), ds = d :: ds' → xs[i]? = some x → ds[i]? = some (minD d ds') → Q x H
theorem cr_minDV {X : Cx} (hc : X.calm = true) (hu : X.A.units + 64 < cLine) : CallRK X (.builtin "min") [Str.ofString "default"] (rMinDV X.K) := by
  intro pins s σ H xs0 zs us ws Q I r rz h
  obtain ⟨a, xs, ds, zv, rfl, rfl, ha, hd, hal, hdep, q0, q1⟩ := h
  obtain ⟨its, rv, hl, _⟩ := I.list (SqL.of ha)
  rw [Vals.ref1 r]
  obtain ⟨u, rfl, ru⟩ := vals1 rz
  obtain ⟨as, hr⟩ := Dp.readsAll I ds xs its hd rv
  show wpAny _ _ (call (.builtin "min") [.ref a] [(Str.ofString "default", u)]) _ _ s
  refine PySem.W.min_list_default (I.ok.hd hc) hl.isList hr hal (by omega) (fun e h' tk hk => ⟨zv, H, I.kept hk, ru, q0 e⟩) fun y ys i v h' tk bs e hv hrd hk => ?_
  have hv' : its[i]? = some v := by simpa using hv
  have hl2 := rv.length
  have hi : i < xs.length := by
    have := (List.getElem?_eq_some_iff.mp hv').1
    omega
  obtain ⟨u2, hu2, ru2⟩ := rv.get (List.getElem?_eq_getElem hi)
  rw [hv'] at hu2
  cases hu2
  obtain ⟨d2, bs2, hd2, hr2⟩ := readsAll_ix hr hv'
  have heq : d2 = minD y ys := ((PyProof.Rows.reads_det (h := s.heap) (h' := h') (fun b o e _ => hk b o e) hr2 hrd).1).symm
  exact ⟨xs[i], H, I.kept hk, ru2, q1 y ys i _ e (List.getElem?_eq_getElem hi) (by rw [hd2, heq])⟩
end RJ
namespace RJ
open PySem PySem.Spec PyProof.Rows L2
section
variable {X : Cx}
/-- name = {..} on one line, the name a local -/
theorem ps_setDc {i : Nat} {y : Str} {py : Pos} {kx vx tg iter : Expr} {ifs : List Expr} {scope : Scope} {own : List (Str × Nat)} {pos spos : Pos} {wi : TI} {g : TG} {tt : TT} {tk tv : TE} (hc : X.calm = true) (hN : X.N.Nodup) (hy : X.N[i]? = some y) (hyl : X.env.scope.names.lookup y = some .local)
    (hsw : swapsWith (.DictComp kx vx [⟨tg, iter, ifs, 0⟩] scope pos) (some (.Name y py)) spos.line X.env = pure true) (hi : PI X tg iter wi) (ok : BlkOk X.N X.env.scope scope own)
    (hg : ∀ (s : Shared) (H : Hp) (C : Addr) (cl : List (Str × Addr)) (fp : List Addr), PG (X.blk s H scope (compEnvC scope cl C X.env) fp) tg g) (ht : ∀ (s : Shared) (H : Hp) (C : Addr) (cl : List (Str × Addr)) (fp : List Addr), PTs (X.blk s H scope (compEnvC scope cl C X.env) fp) ifs tt)
    (hk : ∀ (s : Shared) (H : Hp) (C : Addr) (cl : List (Str × Addr)) (fp : List Addr), PE (X.blk s H scope (compEnvC scope cl C X.env) fp) kx tk)
    (he : ∀ (s : Shared) (H : Hp) (C : Addr) (cl : List (Str × Addr)) (fp : List Addr), PE (X.blk s H scope (compEnvC scope cl C X.env) fp) vx tv) (hs : ∀ x, foldedSetIterable iter X.env x = pure x := by intro _; rfl) :
    PS X (.Assign [.Name y py] (.DictComp kx vx [⟨tg, iter, ifs, 0⟩] scope pos) spos) (tAsg (tDc wi g tt tk tv (own.map (·.2))) (gName i)) := by
  refine ⟨fun pins s σ H D I h => ?_⟩
  rw [exec_Assign_Name_used _ _ _ _ hsw]
  refine wpAny_bind (wpAny_standAt (wpAny_bind ?_))
  show wpAny _ X.A (do let _ ← comprehension (.DictComp kx vx [⟨tg, iter, ifs, 0⟩] scope pos) scope X.env (firstIterPos [⟨tg, iter, ifs, 0⟩] pos) newDict false (eval iter X.env) (some (assign (.Name y py) X.env))) _ _ s
  have h : tDc wi g tt tk tv (own.map (·.2)) σ H (fun x H1 => gName i x σ H1 D.nx) := h
  refine wpAny_bind (thn (dc_core (Qf := fun _ s' => SP X pins D .next s') hc hN I hi ok hg ht hk he hs h fun L C s' m H' I' q hn f => ?_) fun _ s' hq => wpAny_pure (wpAny_pure hq))
  show wpAny _ _ (assign (.Name y py) X.env (.ref L)) _ _ _
  refine wpAny_assign_Name (store_ok2 (v := V.ref L) I' hN hy (.inl hyl) rfl (fun s2 I2 ⟨a, sb, ha⟩ => ?_) (.inr hyl))
  obtain ⟨f0, f1, f2, f3, f4, f5⟩ := f
  have haC : C ≠ a := by
    rcases ha with z | z
    · rw [z]; exact f1
    · exact fun e => f4 y a z e.symm
  refine ⟨m, hn.sameBut sb haC, fun h3 sb3 => ?_⟩
  exact ⟨_, H', I2.turned (t' := s2.toks) (fun b o hb e => (sb3.2 b hb).trans e) f0 f1 f3 f4 f5, q⟩
theorem sw_trueD {kx vx : Expr} {gs : List Comprehension} {scope : Scope} {pos py : Pos} {y : Str} {l : Nat} {env : Env} (hk : env.scope.kind = .function) (hy : env.scope.names.lookup y = some .local) (hl : (py.line == pos.line) = true)
    (ha : (scope.names.any fun (n, k) => n == y && (k == .local || k == .cell)) = false) : swapsWith (.DictComp kx vx gs scope pos) (some (.Name y py)) l env = pure true := by
  have ky : env.kindOf y = some .local := hy
  have hb : env.blockKind = .function := by unfold Env.blockKind; rw [hk]; rfl
  unfold swapsWith
  simp only [hb, ky, ha, Expr.pos, hl]
  rfl
end
end RJ
end

section
set_option maxRecDepth 100000
set_option maxHeartbeats 2000000
namespace RJ
open PySem PySem.Spec PyProof.Rows L2
/-! ### a property that is read where an error is handled -/
structure PrpH (P : Program) (w : World) (K : PySem.W.Frag) (mg : Str → Option Value) (base : Heap) (k : Nat) (C : Addr) (m : Str) (sp : Sp) : Prop where
  ex : ∃ (p g : Addr) (fd : FuncData) (ps : List Str), Cls K C ∧ PropOf K C m p g ∧ L2H.FnH P w K mg base C8.CX0 k g fd ps sp ∧ Binds K fd ps []
theorem roomH_in1 {k : Nat} {A : Around} (r : L2H.RoomH (k + 1) A) : L2H.RoomH k A.in1 := by
  have h1 := r.dp
  have h2 := r.un
  exact ⟨by show A.depth + 3 * k + 5 < _; omega, by show A.units + 1 + 16 * k + 200 < _; omega⟩
section
variable {X : Cx} {k j : Nat} {C p g a dx : Addr} {fs : List (Str × V)} {f m : Str} {fd : FuncData} {ps : List Str} {sp : Sp} {e : Expr} {pos : Pos} {ta : TE}
theorem getprop_okH {pins : List (Addr × Obj)} {σ : L2.St} {H : Hp} {s : Shared} {Q : VK} {b : Bool} {E' : Value → Shared → Prop} (I : Inv X pins σ H s) (ea : H a = some (.ins C dx fs)) (c : Cls X.K C) (hp : PropOf X.K C f p g)
    (F : L2H.FnH X.prog X.w X.K X.mg X.base C8.CX0 k g fd ps sp) (hr : L2H.RoomH (k + 1) X.A) (hot : L2H.HotC X) (hb : Binds X.K fd ps []) (h : sp [.ref a] H Q C8.E0) :
    wpAny (model X.prog X.w) X.A (getAttr (.ref a) f b) (EP X pins σ Q) E' s := by
  obtain ⟨mA, O, _, _, _, _⟩ := ins_get I.hok ea
  obtain ⟨od, J, _⟩ := O.look
  obtain ⟨rest, hrec⟩ := hp.rec_
  have I1 := I.tok (s.toks + 1)
  obtain ⟨pp, hot1, hpn⟩ := hot
  have hl : ([Value.ref a] ++ []).length = ps.length := by
    rw [← F.len _ _ _ _ h]; rfl
  have hc : (PySem.W.clsIn X.K C).isSome = true := by
    obtain ⟨cd, hc, _⟩ := PySem.W.any_some c.hd
    rw [hc]
    rfl
  have P1 := I1.pin pp (List.mem_append_left _ hpn)
  have hpin : L2H.PinOk X.stack H { s with toks := s.toks + 1 } pp := ⟨P1.1, P1.2.1, fun hm => (List.mem_cons.mp (I1.stkSub pp.1 hm)).elim P1.2.2.1 P1.2.2.2.1, P1.2.2.2.2⟩
  refine PySem.W.get_bind I.kIn J (PySem.W.plainGet_of (c.get f)).1 (PySem.W.findObj_data hc hp.at_ hp.get hp.tak) (PySem.W.plainGet_of (c.get f)).2 (wpAny_call (PySem.W.prop_get (s := { s with toks := s.toks + 1 }) I.kIn hrec ?_))
  refine codeAny_mono (F.run X.A.in1 X.stack { s with toks := s.toks + 1 } H ⟨[.ref a], []⟩ [.ref a] [.ref a] Q C8.E0 pp (roomH_in1 hr) hot1 hpin I1.env0.in1 (hb _ [.ref a] I1.kIn hl) (.cons rfl .nil) h) fun r s' hq => ?_
  cases r with
  | error er => exact False.elim hq
  | ok fl =>
    cases fl with
    | ret u =>
      obtain ⟨v, H', I3, rv, q3⟩ := I1.after hq
      show wpAny _ _ (handedOut u) _ _ _
      rw [PySem.W.handedOut_of (handed_of rv)]
      exact wpAny_pure ⟨v, H', I3, rv, q3⟩
    | next => exact False.elim hq
    | brk => exact False.elim hq
    | cont => exact False.elim hq
theorem walks_listHot {prog : Program} {w : World} {A : Around} (I ax x1 : Addr) (hne : ax ≠ I) (hx : x1 ≠ I) (items : Array Value) :
    Walks prog w A I [I, ax, x1] [I] items.size (fun i v => items[i]? = some v) (fun i h => h.IsListIter I ax i ∧ h.IsList ax items ∧ HotX.HotAt A x1 h) where
  sub := fun b hb => by simp at hb; simp [hb]
  frame := fun _ _ _ st hk => by
    obtain ⟨s1, s2, hh, o, vs, e1, e2, e3⟩ := st
    exact ⟨s1.at fun o e => hk I (by simp) o e, s2.at fun o e => hk ax (by simp) o e, hh, o, vs, hk x1 (by simp) o e1, e2, e3⟩
  item := fun i s Q E hi st hQ => by
    obtain ⟨s1, s2, hh, o, vs, e1, e2, e3⟩ := st
    refine wpAny_pyNext_list_item s1 s2 (x := items[i]) (by simp [hi]) fun h' hit' hs' => ?_
    exact hQ _ h' s.toks (by simp [hi]) ⟨hit', s2.extBut hs'.extBut hne, hh, o, vs, hs'.extBut x1 o hx e1, e2, e3⟩ fun b o hb e => hs'.extBut b o (fun h => hb (by simp [h])) e
  done := fun s Q E st hQ => by
    obtain ⟨s1, s2, hot⟩ := st
    exact rj_list_end_hot hot hx s1 s2 (by simp) fun h' he' => hQ h' s.toks fun b o hb e => he' b o (fun h => hb (by simp [h])) e
  self := fun _ _ _ _ st hQ => wpAny_pyIter_listiter st.1 hQ
theorem sum_hot {prog : Program} {w : World} {A : Around} {E : Value → Shared → Prop} {s : Shared} {l x1 : Addr} {its : List Value} {ns : List Int} {Q : Value → Shared → Prop} (hot : HotX.HotAt A x1 s.heap) (hl : s.heap.IsList l its.toArray) (hi : IntsAre its ns)
    (h : ∀ h' tk t', (∀ b o, s.heap.get? b = some o → h'.get? b = some o) → Q (.int ns.sum t') { s with heap := h', toks := tk }) : wpAny (model prog w) A (call (.builtin "sum") [.ref l]) Q E s := by
  obtain ⟨xs, e⟩ := hi.allInts.items
  have hn : numsOf (intItems xs).toList = ns := by rw [← e]; exact hi.numsOf
  rw [nums_intItems] at hn
  rw [e] at hl
  obtain ⟨hh, o, vs, e1, e2, e3⟩ := hot
  have hlt := Heap.lt_size e1
  refine call_sum_walkG (iter_intList hl fun s₂ es st hfp hlI => ?_)
  subst es
  refine ⟨_, _, _, _, _, _, numAt xs, rfl, walks_listHot (A := A.in1) _ l x1 hlI (Nat.ne_of_lt hlt) (intItems xs), ⟨st.1, st.2, hh, o, vs, Heap.get?_push_of_some _ e1, e2, e3⟩, fun b hb => ?_, (fun _ _ => intItems_at), fun h' tk t' hk => ?_⟩
  · rcases List.mem_cons.mp hb with r | hb
    · exact hfp b (by simp [r])
    rcases List.mem_cons.mp hb with r | hb
    · exact hfp b (by simp [r])
    · rw [List.mem_singleton.mp hb]
      show x1 < (s.heap.push _).objs.size
      rw [Heap.size_push]; exact Nat.lt_succ_of_lt hlt
  · have := h h' tk t' (old_kept hk)
    rw [← hn] at this
    rw [show (intItems xs).size = xs.size by simp [intItems], preSum_eq, List.take_of_length_le (by simp)]; exact this
theorem cr_sumH (hot : L2H.HotC X) : CallR X (.builtin "sum") (rSum X.K) := by
  intro pins s σ H vs us Q I r h
  obtain ⟨a, ns, rfl, hs, q⟩ := h
  obtain ⟨its, rv, hl, _⟩ := I.list hs
  obtain ⟨x1, ht⟩ := hot.at I
  rw [Vals.ref1 r]
  exact sum_hot ht hl.isList rv.ints fun h' tk t' hk => ⟨.int _, H, I.kept hk, ⟨_, rfl⟩, q⟩
theorem pe_prpH (c : PrpH X.prog X.w X.K X.mg X.base k C m sp) (hr : L2H.RoomH j X.A) (hk : k + 1 ≤ j) (hot : L2H.HotC X) (he : PE X e ta)
    (hab : attributeBase e m X.env (eval e X.env) = eval e X.env := by rfl) : PE X (.Attribute e m pos) (tProp C sp [] C8.E0 ta) := by
  obtain ⟨p, g, fd, ps, hc, hp, F, b⟩ := c.ex
  refine ⟨fun pins s σ H Q I h => ?_⟩
  refine attr_of hab (thn (he.run pins s σ H _ I h) fun u s1 ⟨x, H1, I1, rx, a, dx, fs, ex, ea, q⟩ => ?_)
  subst ex
  obtain rfl : u = Value.ref a := rx
  exact getprop_okH I1 ea hc hp F (hr.mono hk) hot b q
end
end RJ
end

section
set_option maxRecDepth 100000
set_option maxHeartbeats 2000000
namespace PySem
open PySem.Spec PyProof.Rows
section
variable {prog : Program} {w : World} {A : Around} {E : Value → Shared → Prop} {s : Shared}
/-- repr of a tuple, whatever is under way -/
theorem rj_repr_tuple {a : Addr} {o : Obj} {items : Array Value} {n : Nat} {ts : List Str} {Q : Value → Shared → Prop} (hu : A.units + 2 < cLine) (ha : s.heap.get? a = some o) (hc : o.cls = .type "tuple") (hd : o.data = .seq items n) (hT : ReprAll prog w items.toList ts) (hsz : (tupleText ts).length ≤ sizeLine)
    (h : ∀ (m : Str) (u tk : Tok), m.length ≤ (tupleText ts).length + 5 → Q (.str m u) { s with toks := tk }) : wpAny (model prog w) A (pyReprObj (.ref a)) Q E s := by
  have hTy : s.TypeIs (.ref a) "tuple" := ⟨o, ha, hc⟩
  unfold pyReprObj
  refine wpAny_bind (wpAny_cRoomFor (by omega) ?_)
  refine wpAny_bind (wpAny_specialOf (name := Str.ofString "__repr__") hTy F.slot_tuple_repr.lookup ?_)
  refine wpAny_bind (m := callSpecialIfBound? (.ref a) (Str.ofString "__repr__")) (wpAny_callSpecialIfBound?_slotG (name := Str.ofString "__repr__") hTy F.slot_tuple_repr
    (fmt_tuple_repr ha hc hd hT hsz fun m u tk hm => ?_))
  exact wpAny_bind (wpAny_isInstance (T := "str") (b := true) rfl isSubtype_str_str (wpAny_pure (h m u tk hm)))
end
end PySem
namespace RJ
open PySem PySem.Spec PyProof.Rows L2
theorem reprI_all {prog : Program} {w : World} : ∀ {l : List Int} {its : List Value}, Vals (l.map V.int) its → (∀ i ∈ l, i.natAbs.log2 < 1920) → ReprAll prog w its (l.map fun i => Str.ofString (toString i))
  | [], _, r, _ => by
    cases r
    exact .nil
  | i :: l, _, r, h => by
    cases r with
    | cons r1 r2 =>
      obtain ⟨t, rfl⟩ := r1
      exact .cons (ReprIs.int t (h i List.mem_cons_self)) (reprI_all r2 fun z hz => h z (List.mem_cons_of_mem _ hz))
theorem piledI : ∀ l : List Int, (∀ i ∈ l, (Str.ofString (toString i)).length ≤ 100) → piled (l.map fun i => Str.ofString (toString i)) ≤ 102 * l.length
  | [], _ => Nat.le_refl _
  | i :: l, h => by
    rw [List.map_cons, piled_cons, List.length_cons]
    have h1 := h i List.mem_cons_self
    have h2 := piledI l fun z hz => h z (List.mem_cons_of_mem _ hz)
    omega
/-- {t!r}, t a tuple of ints: some text -/
def tFmtRT (K : PySem.W.Frag) (te : TE) : TE := fun σ H Q => te σ H fun x H1 => ∃ (a : Addr) (l : List Int), x = .ref a ∧ SqT K H1 a (l.map V.int) ∧ (∀ i ∈ l, i.natAbs.log2 < 1920 ∧ (Str.ofString (toString i)).length ≤ 100) ∧ l.length ≤ 10000 ∧ ∀ m : Str, m.length ≤ 102 * l.length + 7 → Q (.str m) H1
theorem pe_fmtRT {X : Cx} {e : Expr} {te : TE} {pos : Pos} {k : Nat} (hr : Room k X.A) (he : PE X e te) : PE X (.FormattedValue e 114 none pos) (tFmtRT X.K te) := by
  refine ⟨fun pins s σ H Q I h => ?_⟩
  refine wpAny_FormattedValue_repr (thn (he.run pins s σ H _ I h) fun v s1 hv => ?_)
  obtain ⟨x, H1, I1, r1, a, l, rfl, ht, hc, hz, q⟩ := hv
  cases r1
  obtain ⟨its, rv, ⟨o, ho, hcl, n, hd⟩, _⟩ := I1.tuple ht
  have hp := piledI l fun i hi => (hc i hi).2
  have htx := fmt_text (l.map fun i => Str.ofString (toString i))
  have hu := hr.units
  have hsl : sizeLine = 16777216 := sizeLine_eq
  refine rj_repr_tuple (ts := l.map fun i => Str.ofString (toString i)) (by omega) ho hcl hd (reprI_all rv fun i hi => (hc i hi).1) (by omega) fun m u tk hm => ?_
  have hm' : m.length ≤ 102 * l.length + 7 := by omega
  exact wpAny_formatField_str ⟨.str m, H1, I1.tok _, ⟨_, rfl⟩, q m hm'⟩ ⟨.str m, H1, I1.tok _, ⟨_, rfl⟩, q m hm'⟩ (by omega)
theorem pe_tupleOfK {X : Cx} {K : PySem.W.Frag} {a : Expr} {ta : TE} {p pos : Pos} (h : X.K = K) (hg : Gl X "tuple") (hm : X.mg "tuple" = none) (ha : PE X a ta) (na : starEach [a] X.env = (false, eval a X.env) :: starEach [] X.env := by rfl) :
    PE X (.Call (.Name "tuple" p) [a] [] pos) (tThen ta (kTup K)) := by subst h; exact pe_tupleOf hg hm ha na
end RJ
end

section
set_option maxRecDepth 100000
namespace RJ
open PySem PySem.Spec PyProof.Rows L2
/-! ### a comprehension within a comprehension -/
/-- the scope of a comprehension that runs within another scope -/
def relS (sc1 sc0 : Scope) : Scope := { sc1 with names := sc1.names.map fun (n, k) => if (k == .free && sc0.kind == .function && sc0.names.lookup n == some .cell) then (n, .cell) else (n, k) }
theorem blkOk_nest {N : List Str} {sc0 sc1 scope : Scope} {own : List (Str × Nat)} {cl : List (Str × Addr)} {C : Addr} {env : Env} (h0 : env.scope = sc0) (h : blkC N (relS sc1 sc0) scope own = true) : BlkOk N (compEnvC sc1 cl C env).scope scope own := by
  subst h0
  exact blkOk_by h
def tTru (K : PySem.W.Frag) (ta : TE) : TT := fun σ H Q => ta σ H fun x H' => ∃ k, TruV K x H' k ∧ Q k H'
theorem pt_truthK {X : Cx} {K : PySem.W.Frag} {a : Expr} {ta : TE} (hk : X.K = K) (ha : PE X a ta) (he : ∀ whole, isTrue a X.env whole = (do let v ← whole; standAt a.pos; holding [v] (truthy v))) :
    PT X a (tTru K ta) := by subst hk; exact pt_truth ha he
theorem cr_sumK {X : Cx} {K : PySem.W.Frag} (hk : X.K = K) (hc : X.calm = true) : CallR X (.builtin "sum") (rSum K) := by subst hk; exact cr_sum hc
theorem op_catK {X : Cx} {K : PySem.W.Frag} (hk : X.K = K) : OpR X (binaryOp .Add) (rCatA K) := by subst hk; exact op_catA
theorem pi_tupK {X : Cx} {K : PySem.W.Frag} {tg l : Expr} {tl : TE} (hk : X.K = K) (hl : PE X l tl) : PI X tg l (iTup K tl) := by subst hk; exact pi_tup hl
theorem pi_listK {X : Cx} {K : PySem.W.Frag} {tg l : Expr} {tl : TE} (hk : X.K = K) (hl : PE X l tl) : PI X tg l (iList K tl) := by subst hk; exact pi_list hl
/-- a place of a list or of a tuple -/
def rIxS (K : PySem.W.Frag) : R2 := fun x y H Q => rIxL K x y H Q ∨ rIxT K x y H Q
theorem ix_seq {X : Cx} : IxR X (rIxS X.K) := fun value slice pins s σ H x y v u Q I rx ry h e => h.elim (fun h => ix_list value slice pins s σ H x y v u Q I rx ry h e) (fun h => ix_tup value slice pins s σ H x y v u Q I rx ry h e)
end RJ
end

section
namespace RJ
/-! ### rows of pieces, side by side, counted -/
section
variable {N : Nat} {S : Nat → Nat → Bool}
/-- the pieces that may stand behind x -/
def chs (N : Nat) (S : Nat → Nat → Bool) (x : Nat) : List Nat := (List.range N).filter (S x)
/-- how many rows of k pieces may stand behind x -/
def wk (N : Nat) (S : Nat → Nat → Bool) : Nat → Nat → Nat
  | 0, _ => 1
  | k + 1, x => ((chs N S x).map (wk N S k)).sum
/-- how many rows of k pieces there are -/
def w0 (N : Nat) (S : Nat → Nat → Bool) : Nat → Nat
  | 0 => 1
  | k + 1 => ((List.range N).map (wk N S k)).sum
def rowW (N : Nat) (S : Nat → Nat → Bool) (k : Nat) : List Nat := (List.range N).map (wk N S k)
def tabW (N : Nat) (S : Nat → Nat → Bool) (k : Nat) : List Nat := rowW N S k ++ [w0 N S k]
def chRows (N : Nat) (S : Nat → Nat → Bool) : List (List Nat) := (List.range N).map (chs N S) ++ [List.range N]
theorem rowW_len (k : Nat) : (rowW N S k).length = N := by rw [rowW, List.length_map, List.length_range]
theorem tabW_len (k : Nat) : (tabW N S k).length = N + 1 := by rw [tabW, List.length_append, rowW_len]; rfl
theorem rowW_at {k x : Nat} (h : x < N) : (rowW N S k)[x]? = some (wk N S k x) := by
  rw [rowW, List.getElem?_map, List.getElem?_range h]; rfl
theorem tabW_at {k x : Nat} (h : x < N) : (tabW N S k)[x]? = some (wk N S k x) := by
  rw [tabW, List.getElem?_append_left (by rw [rowW_len]; exact h)]; exact rowW_at h
theorem tabW_last (k : Nat) : (tabW N S k).getLast? = some (w0 N S k) := by rw [tabW, List.getLast?_concat]
theorem chs_lt {x y : Nat} (h : y ∈ chs N S x) : y < N := List.mem_range.mp (List.mem_filter.mp h).1
theorem chs_S {x y : Nat} : y ∈ chs N S x ↔ y < N ∧ S x y = true := by rw [chs, List.mem_filter, List.mem_range]
theorem chs_nodup (x : Nat) : (chs N S x).Nodup := List.nodup_range.filter _
theorem chs_len (x : Nat) : (chs N S x).length ≤ N := by
  have := List.length_filter_le (S x) (List.range N)
  rwa [List.length_range] at this
theorem chRows_len : (chRows N S).length = N + 1 := by rw [chRows, List.length_append, List.length_map, List.length_range]; rfl
theorem chRows_at {x : Nat} (h : x < N) : (chRows N S)[x]? = some (chs N S x) := by
  rw [chRows, List.getElem?_append_left (by rw [List.length_map, List.length_range]; exact h), List.getElem?_map, List.getElem?_range h]; rfl
theorem chRows_last : (chRows N S).getLast? = some (List.range N) := by rw [chRows, List.getLast?_concat]
theorem chRows_lt {r : List Nat} (h : r ∈ chRows N S) : ∀ y ∈ r, y < N := by
  intro y hy
  rw [chRows, List.mem_append, List.mem_map, List.mem_singleton] at h
  rcases h with ⟨x, _, rfl⟩ | rfl
  · exact chs_lt hy
  · exact List.mem_range.mp hy
theorem chRows_len_le {r : List Nat} (h : r ∈ chRows N S) : r.length ≤ N := by
  rw [chRows, List.mem_append, List.mem_map, List.mem_singleton] at h
  rcases h with ⟨x, _, rfl⟩ | rfl
  · exact chs_len x
  · rw [List.length_range]; exact Nat.le_refl _
/-- one step of the table -/
theorem tabW_next (k : Nat) : (chRows N S).map (fun r => (r.map (wk N S k)).sum) = tabW N S (k + 1) := by
  rw [chRows, List.map_append, List.map_map]; rfl
theorem tabW_zero : (chRows N S).map (fun _ => 1) = tabW N S 0 := by
  rw [chRows, List.map_append, List.map_map]; rfl
theorem rowW_next (k : Nat) : (List.range N).map (fun x => ((chs N S x).map (wk N S k)).sum) = rowW N S (k + 1) := rfl
theorem rowW_zero : (List.range N).map (fun _ => 1) = rowW N S 0 := rfl
/-- side by side: the cut of the text of the two -/
def sideB (al : List Nat) (ps : List (Nat × Nat)) (x y : Nat) : Bool := decide (CT al ps (TX al ps x ++ TX al ps y) = [x, y])
theorem sideB_iff {al : List Nat} {ps : List (Nat × Nat)} (hnd : al.Nodup) (h : Proper al ps) {x y : Nat} (hx : x < al.length + ps.length) (hy : y < al.length + ps.length) : sideB al ps x y = true ↔ ∀ r, ¬ Cross al.length ps x y r := by
  unfold sideB
  rw [decide_eq_true_eq]
  exact pair_iff hnd h hx hy
/-! ### rows below a row -/
/-- the next choices -/
def below (N : Nat) (S : Nat → Nat → Bool) : List Nat → List Nat → Nat
  | _, [] => 0
  | ch, p :: r => ((ch.filter fun c => decide (c < p)).map (wk N S r.length)).sum + below N S (chs N S p) r
/-- a row in which each piece is a choice behind the one ahead of it -/
def okRow (N : Nat) (S : Nat → Nat → Bool) : List Nat → List Nat → Prop
  | _, [] => True
  | ch, p :: r => p ∈ ch ∧ okRow N S (chs N S p) r
theorem sum_le_of_mem {f : Nat → Nat} : ∀ {l : List Nat} {x : Nat}, x ∈ l → f x ≤ (l.map f).sum
  | a :: l, x, h => by
    rw [List.map_cons, List.sum_cons]
    rcases List.mem_cons.mp h with rfl | h
    · omega
    · have := sum_le_of_mem (f := f) h; omega
/-- the pieces that may stand at place j of a row -/
def chJ (N : Nat) (S : Nat → Nat → Bool) (row : List Nat) : Nat → List Nat
  | 0 => List.range N
  | j + 1 => chs N S (row.getD j 0)
def okJ (S : Nat → Nat → Bool) (row : List Nat) : Nat → Nat → Bool
  | 0, _ => true
  | j + 1, y => S (row.getD j 0) y
/-- the rows of m pieces that are below at place j -/
def belM (N : Nat) (S : Nat → Nat → Bool) (m : Nat) (row : List Nat) (j : Nat) : Nat := (((List.range (row.getD j 0)).filter (okJ S row j)).map (wk N S (m - 1 - j))).sum
def belUM (N : Nat) (S : Nat → Nat → Bool) (m : Nat) (row : List Nat) (k : Nat) : Nat := ((List.range k).map (belM N S m row)).sum
abbrev belT (N : Nat) (S : Nat → Nat → Bool) (row : List Nat) (j : Nat) : Nat := belM N S row.length row j
abbrev belU (N : Nat) (S : Nat → Nat → Bool) (row : List Nat) (k : Nat) : Nat := belUM N S row.length row k
theorem belUM_succ (m : Nat) (row : List Nat) (k : Nat) : belUM N S m row (k + 1) = belUM N S m row k + belM N S m row k := by
  unfold belUM
  rw [List.range_succ, List.map_append, List.sum_append, List.map_singleton, List.sum_singleton]
theorem belU_succ (row : List Nat) (k : Nat) : belU N S row (k + 1) = belU N S row k + belT N S row k := belUM_succ _ row k
theorem getD_app {row : List Nat} {x j : Nat} (h : j < row.length) : (row ++ [x]).getD j 0 = row.getD j 0 := by
  rw [List.getD_eq_getElem?_getD, List.getElem?_append_left h, ← List.getD_eq_getElem?_getD]
theorem getD_last {row : List Nat} {x : Nat} : (row ++ [x]).getD row.length 0 = x := by
  rw [List.getD_eq_getElem?_getD, List.getElem?_append_right (Nat.le_refl _), Nat.sub_self]; rfl
theorem chJ_app {row : List Nat} {x : Nat} : ∀ {j : Nat}, j ≤ row.length → chJ N S (row ++ [x]) j = chJ N S row j
  | 0, _ => rfl
  | j + 1, h => by
    show chs N S ((row ++ [x]).getD j 0) = chs N S (row.getD j 0)
    rw [getD_app (by omega)]
theorem okJ_app {row : List Nat} {x y : Nat} : ∀ {j : Nat}, j ≤ row.length → okJ S (row ++ [x]) j y = okJ S row j y
  | 0, _ => rfl
  | j + 1, h => by
    show S ((row ++ [x]).getD j 0) y = S (row.getD j 0) y
    rw [getD_app (by omega)]
theorem belM_app {m : Nat} {row : List Nat} {x j : Nat} (h : j < row.length) : belM N S m (row ++ [x]) j = belM N S m row j := by
  unfold belM
  rw [getD_app h, List.filter_congr fun y _ => okJ_app (S := S) (row := row) (x := x) (y := y) (j := j) (by omega)]
theorem belUM_app {m : Nat} {row : List Nat} {x k : Nat} (h : k ≤ row.length) : belUM N S m (row ++ [x]) k = belUM N S m row k := by
  unfold belUM
  rw [List.map_congr_left fun j hj => belM_app (by have := List.mem_range.mp hj; omega)]
/-- how many rows of m pieces go on from here -/
def wAt (N : Nat) (S : Nat → Nat → Bool) (m : Nat) (row : List Nat) : Nat → Nat
  | 0 => w0 N S m
  | i + 1 => wk N S (m - (i + 1)) (row.getD i 0)
theorem wAt_sum {m i : Nat} (row : List Nat) (h : i < m) : wAt N S m row i = ((chJ N S row i).map (wk N S (m - 1 - i))).sum := by
  cases i with
  | zero =>
    obtain ⟨k, rfl⟩ : ∃ k, m = k + 1 := ⟨m - 1, by omega⟩
    rfl
  | succ i =>
    obtain ⟨k, hk⟩ : ∃ k, m - (i + 1) = k + 1 := ⟨m - (i + 1) - 1, by omega⟩
    show wk N S (m - (i + 1)) _ = _
    rw [hk, show m - 1 - (i + 1) = k by omega]; rfl
def OkCh (N : Nat) (S : Nat → Nat → Bool) (row : List Nat) : Prop := ∀ j, j < row.length → row.getD j 0 ∈ chJ N S row j
theorem chJ_lt {row : List Nat} {j y : Nat} (h : y ∈ chJ N S row j) : y < N := by
  cases j with
  | zero => exact List.mem_range.mp h
  | succ j => exact chs_lt h
theorem chJ_len (row : List Nat) (j : Nat) : (chJ N S row j).length ≤ N := by
  cases j with
  | zero => show (List.range N).length ≤ N; rw [List.length_range]; exact Nat.le_refl _
  | succ j => exact chs_len _
theorem chJ_ok {row : List Nat} {j y : Nat} : y ∈ chJ N S row j ↔ y < N ∧ okJ S row j y = true := by
  cases j with
  | zero => show y ∈ List.range N ↔ _ ∧ true = true; rw [List.mem_range]; simp
  | succ j => exact chs_S
theorem range_below {p : Nat} (h : p ≤ N) (f : Nat → Bool) : ((List.range N).filter f).filter (fun c => decide (c < p)) = (List.range p).filter f := by
  have e : N = p + (N - p) := by omega
  rw [List.filter_filter, e, List.range_add, List.filter_append]
  have h1 : (List.range p).filter (fun a => decide (a < p) && f a) = (List.range p).filter f := List.filter_congr fun x hx => by
    rw [decide_eq_true (List.mem_range.mp hx), Bool.true_and]
  have h2 : ((List.range (N - p)).map (p + ·)).filter (fun a => decide (a < p) && f a) = [] := List.filter_eq_nil_iff.mpr fun x hx => by
    obtain ⟨y, _, rfl⟩ := List.mem_map.mp hx
    rw [decide_eq_false (by omega), Bool.false_and]
    exact Bool.false_ne_true
  rw [h1, h2, List.append_nil]
theorem chJ_below {row : List Nat} {j : Nat} (h : row.getD j 0 ≤ N) : (chJ N S row j).filter (fun c => decide (c < row.getD j 0)) = (List.range (row.getD j 0)).filter (okJ S row j) := by
  cases j with
  | zero =>
    have := range_below (N := N) h (fun _ => true)
    rw [List.filter_eq_self.mpr (fun _ _ => rfl)] at this
    exact this.trans (List.filter_congr fun _ _ => rfl)
  | succ j => exact range_below h (S (row.getD j 0))
theorem chJ_row (row : List Nat) (j : Nat) (hj : j ≤ row.length) (hN : ∀ x ∈ row, x < N) : (j = 0 ∧ (chRows N S).getLast? = some (chJ N S row j)) ∨ ∃ i x, j = i + 1 ∧ row[i]? = some x ∧ x < N ∧ (chRows N S)[x]? = some (chJ N S row j) := by
  cases j with
  | zero => exact .inl ⟨rfl, chRows_last⟩
  | succ i =>
    have hi : row[i]? = some (row.getD i 0) := by
      rw [List.getD_eq_getElem?_getD, List.getElem?_eq_getElem (by omega)]; rfl
    have hx := hN _ (List.mem_of_getElem? hi)
    exact .inr ⟨i, _, rfl, hi, hx, chRows_at hx⟩
theorem chJ_asc (row : List Nat) (j : Nat) : (chJ N S row j).Pairwise (· < ·) := by
  cases j with
  | zero => exact List.pairwise_lt_range
  | succ j => exact List.pairwise_lt_range.sublist List.filter_sublist
theorem asc_below {l pre post : List Nat} {p : Nat} (h : l.Pairwise (· < ·)) (e : l = pre ++ p :: post) : l.filter (fun c => decide (c < p)) = pre := by
  subst e
  rw [List.pairwise_append] at h
  obtain ⟨_, h2, h3⟩ := h
  rw [List.filter_append, List.filter_cons, decide_eq_false (Nat.lt_irrefl p), if_neg Bool.false_ne_true]
  have e1 : pre.filter (fun c => decide (c < p)) = pre := List.filter_eq_self.mpr fun x hx => decide_eq_true (h3 x hx p (List.mem_cons_self ..))
  have e2 : post.filter (fun c => decide (c < p)) = [] := List.filter_eq_nil_iff.mpr fun x hx => by
    have := (List.pairwise_cons.mp h2).1 x hx
    rw [decide_eq_false (by omega)]; exact Bool.false_ne_true
  rw [e1, e2, List.append_nil]
theorem wk_le (k x : Nat) : wk N S k x ≤ N ^ k := by
  induction k generalizing x with
  | zero => exact Nat.le_refl 1
  | succ k ih =>
    have key : ∀ l : List Nat, (l.map (wk N S k)).sum ≤ l.length * N ^ k := fun l => by
      induction l with
      | nil => exact Nat.zero_le _
      | cons a l ih2 =>
        rw [List.map_cons, List.sum_cons, List.length_cons, Nat.succ_mul]
        have := ih a
        omega
    have h1 := key (chs N S x)
    have h2 : (chs N S x).length * N ^ k ≤ N * N ^ k := Nat.mul_le_mul_right _ (chs_len x)
    show ((chs N S x).map (wk N S k)).sum ≤ _
    rw [Nat.pow_succ, Nat.mul_comm]
    omega
theorem w0_le (k : Nat) : w0 N S k ≤ N ^ k := by
  cases k with
  | zero => exact Nat.le_refl 1
  | succ k =>
    have key : ∀ l : List Nat, (l.map (wk N S k)).sum ≤ l.length * N ^ k := fun l => by
      induction l with
      | nil => exact Nat.zero_le _
      | cons a l ih2 =>
        rw [List.map_cons, List.sum_cons, List.length_cons, Nat.succ_mul]
        have := wk_le (N := N) (S := S) k a
        omega
    have h1 := key (List.range N)
    rw [List.length_range] at h1
    show ((List.range N).map (wk N S k)).sum ≤ _
    rw [Nat.pow_succ, Nat.mul_comm]
    exact h1
theorem okCh_of {al : List Nat} {ps : List (Nat × Nat)} (hnd : al.Nodup) (h : Proper al ps) {row : List Nat} (hin : ∀ x ∈ row, x < al.length + ps.length) (hc : CT al ps (textR (textsOf al ps) row) = row) : OkCh (al.length + ps.length) (sideB al ps) row := by
  have hc := (CT_row hnd h hin).mp hc
  intro j hj
  have hg : ∀ i, i < row.length → row[i]? = some (row.getD i 0) := fun i hi => by
    rw [List.getD_eq_getElem?_getD, List.getElem?_eq_getElem hi]; rfl
  have hjN := hin _ (List.mem_of_getElem? (hg j hj))
  cases j with
  | zero => exact List.mem_range.mpr hjN
  | succ i =>
    have hiN := hin _ (List.mem_of_getElem? (hg i (by omega)))
    refine chs_S.mpr ⟨hjN, (sideB_iff hnd h hiN hjN).mpr (hc (row.getD i 0, row.getD (i + 1) 0) ?_)⟩
    have : (adjs row)[i]? = some (row.getD i 0, row.getD (i + 1) 0) := by
      unfold adjs
      rw [List.getElem?_zip_eq_some]
      exact ⟨hg i (by omega), by rw [List.getElem?_tail]; exact hg (i + 1) hj⟩
    exact List.mem_of_getElem? this
theorem sum_cast {α : Type} (f : α → Nat) : ∀ l : List α, ((l.map fun y => (f y : Int)).sum) = (((l.map f).sum : Nat) : Int)
  | [] => rfl
  | a :: l => by
    rw [List.map_cons, List.sum_cons, List.map_cons, List.sum_cons, sum_cast f l, Int.natCast_add]
theorem okRow_pos : ∀ (r ch : List Nat), okRow N S ch r → r ≠ [] → 1 ≤ (ch.map (wk N S (r.length - 1))).sum
  | [], _, _, h => absurd rfl h
  | p :: r, ch, ⟨hp, hr⟩, _ => by
    have h1 := sum_le_of_mem (f := wk N S ((p :: r).length - 1)) hp
    have h2 : 1 ≤ wk N S ((p :: r).length - 1) p := by
      cases r with
      | nil => exact Nat.le_refl 1
      | cons y r => exact okRow_pos (y :: r) _ hr (fun z => nomatch z)
    omega
theorem okRow_of : ∀ (R ch : List Nat), (∀ x, R.head? = some x → x ∈ ch) → (∀ q ∈ adjs R, S q.1 q.2 = true) → (∀ x ∈ R, x < N) → okRow N S ch R
  | [], _, _, _, _ => trivial
  | [p], ch, h, _, _ => ⟨h p rfl, trivial⟩
  | p :: y :: r, ch, h, ha, hN => ⟨h p rfl, okRow_of (y :: r) _ (fun x e => by
      obtain rfl : y = x := Option.some.inj e
      exact chs_S.mpr ⟨hN y (List.mem_cons_of_mem _ (List.mem_cons_self ..)), ha (p, y) (List.mem_cons_self ..)⟩) (fun q hq => ha q (mem_adjs_cons hq)) fun x hx => hN x (List.mem_cons_of_mem _ hx)⟩
theorem flatN {ts : List (List Nat)} {n : Nat} (h : ∀ t ∈ ts, t.length ≤ n) : ts.flatten.length ≤ n * ts.length := by
  induction ts with
  | nil => exact Nat.zero_le _
  | cons t ts ih =>
    rw [List.flatten_cons, List.length_append, List.length_cons, Nat.mul_succ]
    have := h t (List.mem_cons_self ..)
    have := ih fun u hu => h u (List.mem_cons_of_mem _ hu)
    omega
theorem w0_pos {al : List Nat} {ps : List (Nat × Nat)} (hnd : al.Nodup) (h : Proper al ps) (h1 : 1 ≤ al.length) (k : Nat) : 1 ≤ w0 (al.length + ps.length) (sideB al ps) k := by
  cases k with
  | zero => exact Nat.le_refl 1
  | succ k =>
    obtain ⟨c, hc⟩ : ∃ c, c ∈ al := ⟨al[0], List.getElem_mem _⟩
    have hin : ∀ x ∈ List.replicate (40 * (k + 1)) c, x ∈ al := fun x hx => by rw [(List.mem_replicate.mp hx).2]; exact hc
    have ht := text_cut (ps := ps) h.wf hin
    obtain ⟨R, hR⟩ : ∃ R, R = CT al ps (List.replicate (40 * (k + 1)) c) := ⟨_, rfl⟩
    have hlt : ∀ x ∈ R, x < al.length + ps.length := by rw [hR]; exact cut_lt hin
    replace ht : textR (textsOf al ps) R = List.replicate (40 * (k + 1)) c := by rw [hR]; exact ht
    have hcut : CT al ps (textR (textsOf al ps) R) = R := by rw [ht, hR]
    have ha := (CT_row hnd h hlt).mp hcut
    have hlen : k + 1 ≤ R.length := by
      have h2 := flatN (ts := R.map fun i => (textsOf al ps).getD i []) (n := 40) fun t ht => by
        obtain ⟨i, _, rfl⟩ := List.mem_map.mp ht
        exact getD_short h.short i
      rw [List.length_map] at h2
      have h3 : (textR (textsOf al ps) R).length = 40 * (k + 1) := by rw [ht, List.length_replicate]
      unfold textR at h3
      omega
    have hl : (R.take (k + 1)).length = k + 1 := by rw [List.length_take]; omega
    have hlt2 : ∀ x ∈ R.take (k + 1), x < al.length + ps.length := fun x hx => hlt x (List.mem_of_mem_take hx)
    have hok := okRow_of (N := al.length + ps.length) (S := sideB al ps) (R.take (k + 1)) (List.range (al.length + ps.length)) (fun x hx => List.mem_range.mpr (hlt2 x (List.mem_of_mem_head? hx))) (fun q hq => by
      have hm : q ∈ adjs R := by
        have := adjs_sub_left (v := R.drop (k + 1)) hq
        rwa [List.take_append_drop] at this
      have hq1 : q.1 ∈ R ∧ q.2 ∈ R := by
        unfold adjs at hm
        exact ⟨(List.of_mem_zip hm).1, List.mem_of_mem_tail (List.of_mem_zip hm).2⟩
      exact (sideB_iff hnd h (hlt _ hq1.1) (hlt _ hq1.2)).mpr (ha q hm)) hlt2
    have := okRow_pos _ _ hok (fun z => by rw [z] at hl; cases hl)
    rw [hl] at this
    exact this
theorem okCh_cut {al : List Nat} {ps : List (Nat × Nat)} (hnd : al.Nodup) (h : Proper al ps) {row : List Nat} (hok : OkCh (al.length + ps.length) (sideB al ps) row) : (∀ x ∈ row, x < al.length + ps.length) ∧ CT al ps (textR (textsOf al ps) row) = row := by
  have hg : ∀ i, i < row.length → row[i]? = some (row.getD i 0) := fun i hi => by
    rw [List.getD_eq_getElem?_getD, List.getElem?_eq_getElem hi]; rfl
  have hin : ∀ x ∈ row, x < al.length + ps.length := fun x hx => by
    obtain ⟨i, hi⟩ := List.getElem?_of_mem hx
    have hil := (List.getElem?_eq_some_iff.mp hi).1
    have := chJ_lt (hok i hil)
    rw [hg i hil] at hi
    cases hi; exact this
  refine ⟨hin, (CT_row hnd h hin).mpr fun q hq => ?_⟩
  obtain ⟨i, hi⟩ := List.getElem?_of_mem hq
  unfold adjs at hi
  rw [List.getElem?_zip_eq_some, List.getElem?_tail] at hi
  have h1 := (List.getElem?_eq_some_iff.mp hi.1).1
  have h2 := (List.getElem?_eq_some_iff.mp hi.2).1
  have e1 := (hg i h1).symm.trans hi.1
  have e2 := (hg (i + 1) h2).symm.trans hi.2
  have := hok (i + 1) h2
  have hs : sideB al ps (row.getD i 0) (row.getD (i + 1) 0) = true := (chs_S.mp this).2
  rw [Option.some.inj e1, Option.some.inj e2] at hs
  exact (sideB_iff hnd h (hin _ (List.mem_of_getElem? hi.1)) (hin _ (List.mem_of_getElem? hi.2))).mp hs
end
end RJ
end

section
namespace RJ
section
variable {N : Nat} {S : Nat → Nat → Bool} {ln : Nat → Nat}
/-! ### rows of so many pieces with so many letters -/
/-- the rows of k pieces with n letters that begin with one of these choices -/
def rw (N : Nat) (S : Nat → Nat → Bool) (ln : Nat → Nat) : Nat → List Nat → Nat → List (List Nat)
  | 0, _, n => if n = 0 then [[]] else []
  | k + 1, ch, n => (ch.filter fun p => decide (ln p ≤ n)).flatMap fun p => (rw N S ln k (chs N S p) (n - ln p)).map (p :: ·)
def cnt (N : Nat) (S : Nat → Nat → Bool) (ln : Nat → Nat) (k : Nat) (ch : List Nat) (n : Nat) : Nat := (rw N S ln k ch n).length
theorem cnt_zero (ch : List Nat) (n : Nat) : cnt N S ln 0 ch n = if n = 0 then 1 else 0 := by
  unfold cnt rw
  split <;> rfl
theorem len_flat_map {α β : Type} (f : α → List β) : ∀ l : List α, (l.flatMap f).length = (l.map fun a => (f a).length).sum
  | [] => rfl
  | a :: l => by rw [List.flatMap_cons, List.length_append, List.map_cons, List.sum_cons, len_flat_map f l]
theorem cnt_succ (k : Nat) (ch : List Nat) (n : Nat) : cnt N S ln (k + 1) ch n = ((ch.filter fun p => decide (ln p ≤ n)).map fun p => cnt N S ln k (chs N S p) (n - ln p)).sum := by
  unfold cnt
  rw [show rw N S ln (k + 1) ch n = (ch.filter fun p => decide (ln p ≤ n)).flatMap fun p => (rw N S ln k (chs N S p) (n - ln p)).map (p :: ·) from rfl, len_flat_map]
  refine congrArg List.sum (List.map_congr_left fun p _ => ?_)
  rw [List.length_map]
theorem rw_mem (h1 : ∀ p, p < N → 1 ≤ ln p) : ∀ (k : Nat) (ch : List Nat) (n : Nat) (r : List Nat), (∀ x ∈ ch, x < N) → (r ∈ rw N S ln k ch n ↔ r.length = k ∧ okRow N S ch r ∧ (r.map ln).sum = n)
  | 0, ch, n, r, _ => by
    unfold rw
    constructor
    · intro h
      by_cases e : n = 0
      · rw [if_pos e, List.mem_singleton] at h
        subst h; exact ⟨rfl, trivial, e.symm⟩
      · rw [if_neg e] at h; cases h
    · rintro ⟨h, _, e⟩
      have : r = [] := List.eq_nil_of_length_eq_zero h
      subst this
      rw [if_pos (show n = 0 from e.symm)]; exact List.mem_singleton.mpr rfl
  | k + 1, ch, n, r, hN => by
    rw [show rw N S ln (k + 1) ch n = (ch.filter fun p => decide (ln p ≤ n)).flatMap fun p => (rw N S ln k (chs N S p) (n - ln p)).map (p :: ·) from rfl, List.mem_flatMap]
    constructor
    · rintro ⟨p, hp, hr⟩
      obtain ⟨r', hr', rfl⟩ := List.mem_map.mp hr
      rw [List.mem_filter, decide_eq_true_eq] at hp
      obtain ⟨a, b, c⟩ := (rw_mem h1 k _ _ r' (fun x hx => chs_lt hx)).mp hr'
      refine ⟨by rw [List.length_cons, a], ⟨hp.1, b⟩, ?_⟩
      rw [List.map_cons, List.sum_cons, c]; omega
    · rintro ⟨a, b, c⟩
      match r, a, b, c with
      | p :: r', a, ⟨hp, hr'⟩, c =>
        rw [List.map_cons, List.sum_cons] at c
        refine ⟨p, List.mem_filter.mpr ⟨hp, decide_eq_true (by omega)⟩, List.mem_map.mpr ⟨r', (rw_mem h1 k _ _ r' (fun x hx => chs_lt hx)).mpr ⟨by simpa using a, hr', by omega⟩, rfl⟩⟩
theorem nodup_flatMap_of {α β : Type} {f : α → List β} : ∀ {l : List α}, l.Nodup → (∀ a ∈ l, (f a).Nodup) → (∀ a ∈ l, ∀ b ∈ l, a ≠ b → ∀ x, x ∈ f a → x ∉ f b) → (l.flatMap f).Nodup
  | [], _, _, _ => List.nodup_nil
  | a :: l, h, h1, h2 => by
    rw [List.nodup_cons] at h
    rw [List.flatMap_cons, List.nodup_append]
    refine ⟨h1 a (List.mem_cons_self ..), nodup_flatMap_of h.2 (fun b hb => h1 b (List.mem_cons_of_mem _ hb)) (fun b hb c hc => h2 b (List.mem_cons_of_mem _ hb) c (List.mem_cons_of_mem _ hc)), fun x hx y hy e => ?_⟩
    subst e
    obtain ⟨b, hb, hxb⟩ := List.mem_flatMap.mp hy
    exact h2 a (List.mem_cons_self ..) b (List.mem_cons_of_mem _ hb) (fun e => h.1 (e ▸ hb)) x hx hxb
theorem map_nodup {α β : Type} {f : α → β} {l : List α} (h : l.Nodup) (hf : ∀ a ∈ l, ∀ b ∈ l, f a = f b → a = b) : (l.map f).Nodup := by
  induction l with
  | nil => exact List.nodup_nil
  | cons a l ih =>
    rw [List.nodup_cons] at h
    rw [List.map_cons, List.nodup_cons]
    refine ⟨fun hm => ?_, ih h.2 fun x hx y hy => hf x (List.mem_cons_of_mem _ hx) y (List.mem_cons_of_mem _ hy)⟩
    obtain ⟨b, hb, e⟩ := List.mem_map.mp hm
    have := hf b (List.mem_cons_of_mem _ hb) a (List.mem_cons_self ..) e
    exact h.1 (this ▸ hb)
theorem rw_nodup : ∀ (k : Nat) (ch : List Nat) (n : Nat), ch.Nodup → (rw N S ln k ch n).Nodup
  | 0, ch, n, _ => by
    unfold rw
    split
    · exact List.nodup_cons.mpr ⟨List.not_mem_nil, List.nodup_nil⟩
    · exact List.nodup_nil
  | k + 1, ch, n, h => by
    refine nodup_flatMap_of (h.filter _) (fun p _ => map_nodup (rw_nodup k _ _ (chs_nodup p)) fun a _ b _ e => by injection e) fun p _ p' _ hne x hx hx' => ?_
    obtain ⟨r, _, rfl⟩ := List.mem_map.mp hx
    obtain ⟨r', _, e⟩ := List.mem_map.mp hx'
    injection e with e _
    exact hne e.symm
/-- as many letters as pieces at least -/
theorem cnt_many (h1 : ∀ p, p < N → 1 ≤ ln p) {k : Nat} {ch : List Nat} {n : Nat} (hN : ∀ x ∈ ch, x < N) (h : n < k) : cnt N S ln k ch n = 0 := by
  unfold cnt
  rw [List.length_eq_zero_iff]
  refine List.eq_nil_iff_forall_not_mem.mpr fun r hr => ?_
  obtain ⟨a, b, c⟩ := (rw_mem h1 k ch n r hN).mp hr
  have key : ∀ (r ch : List Nat), (∀ x ∈ ch, x < N) → okRow N S ch r → r.length ≤ (r.map ln).sum := by
    intro r
    induction r with
    | nil => intro _ _ _; exact Nat.zero_le _
    | cons p r ih =>
      rintro ch hN ⟨hp, hr⟩
      have := h1 p (hN p hp)
      have := ih _ (fun x hx => chs_lt hx) hr
      rw [List.length_cons, List.map_cons, List.sum_cons]; omega
  have := key r ch hN b
  omega
/-- the numbers for 0 to n pieces -/
def cnts (N : Nat) (S : Nat → Nat → Bool) (ln : Nat → Nat) (ch : List Nat) (n : Nat) : List Nat := (List.range (n + 1)).map fun k => cnt N S ln k ch n
theorem cnts_len (ch : List Nat) (n : Nat) : (cnts N S ln ch n).length = n + 1 := by rw [cnts, List.length_map, List.length_range]
theorem cnts_at {ch : List Nat} {n k : Nat} (h : k ≤ n) : (cnts N S ln ch n)[k]? = some (cnt N S ln k ch n) := by
  rw [cnts, List.getElem?_map, List.getElem?_range (by omega)]; rfl
theorem cnts_getD (h1 : ∀ p, p < N → 1 ≤ ln p) {ch : List Nat} {n k : Nat} (hN : ∀ x ∈ ch, x < N) : (cnts N S ln ch n).getD k 0 = cnt N S ln k ch n := by
  rw [List.getD_eq_getElem?_getD]
  rcases Nat.lt_or_ge n k with h | h
  · rw [List.getElem?_eq_none (by rw [cnts_len]; omega), cnt_many h1 hN h]; rfl
  · rw [cnts_at h]; rfl
theorem cnts_zero (ch : List Nat) : cnts N S ln ch 0 = [1] := by
  show [cnt N S ln 0 ch 0] = [1]
  rw [cnt_zero]; rfl
/-- sums of rows, place by place -/
def sumsAt (rows : List (List Nat)) (n : Nat) : List Nat := (List.range n).map fun k => (rows.map fun r => r.getD k 0).sum
theorem sumsAt_len (rows : List (List Nat)) (n : Nat) : (sumsAt rows n).length = n := by rw [sumsAt, List.length_map, List.length_range]
theorem cnts_next (h1 : ∀ p, p < N → 1 ≤ ln p) {ch : List Nat} {n : Nat} (hn : 0 < n) : cnts N S ln ch n = 0 :: sumsAt ((ch.filter fun p => decide (ln p ≤ n)).map fun p => cnts N S ln (chs N S p) (n - ln p)) n := by
  unfold cnts sumsAt
  rw [List.range_succ_eq_map, List.map_cons, cnt_zero, if_neg (by omega), List.map_map]
  refine congrArg _ (List.map_congr_left fun k _ => ?_)
  show cnt N S ln (k + 1) ch n = _
  rw [cnt_succ, List.map_map]
  refine congrArg List.sum (List.map_congr_left fun p _ => ?_)
  exact (cnts_getD h1 fun x hx => chs_lt hx).symm
end
/-! ### all texts -/
def allT (al : List Nat) : Nat → List (List Nat)
  | 0 => [[]]
  | n + 1 => (allT al n).flatMap fun t => al.map fun c => t ++ [c]
theorem allT_len (al : List Nat) (n : Nat) : (allT al n).length = al.length ^ n := by
  induction n with
  | zero => rfl
  | succ n ih =>
    rw [allT, len_flat_map, Nat.pow_succ, ← ih]
    have : ∀ l : List (List Nat), (l.map fun t => (al.map fun c => t ++ [c]).length).sum = l.length * al.length := fun l => by
      induction l with
      | nil => rw [List.length_nil, Nat.zero_mul]; rfl
      | cons t l ih => rw [List.map_cons, List.sum_cons, ih, List.length_map, List.length_cons, Nat.succ_mul]; omega
    exact this _
theorem allT_mem {al : List Nat} : ∀ {n : Nat} {t : List Nat}, t ∈ allT al n ↔ t.length = n ∧ ∀ c ∈ t, c ∈ al
  | 0, t => by
    rw [allT, List.mem_singleton]
    constructor
    · rintro rfl; exact ⟨rfl, fun c hc => nomatch hc⟩
    · rintro ⟨h, _⟩; exact List.eq_nil_of_length_eq_zero h
  | n + 1, t => by
    rw [allT, List.mem_flatMap]
    constructor
    · rintro ⟨u, hu, ht⟩
      obtain ⟨c, hc, rfl⟩ := List.mem_map.mp ht
      obtain ⟨a, b⟩ := allT_mem.mp hu
      refine ⟨by rw [List.length_append, a]; rfl, fun x hx => ?_⟩
      rcases List.mem_append.mp hx with h | h
      · exact b x h
      · rw [List.mem_singleton.mp h]; exact hc
    · rintro ⟨h, hin⟩
      obtain ⟨u, c, rfl⟩ : ∃ u c, t = u ++ [c] := by
        have hne : t ≠ [] := fun e => by rw [e] at h; cases h
        exact ⟨t.dropLast, t.getLast hne, (List.dropLast_concat_getLast hne).symm⟩
      rw [List.length_append, List.length_singleton] at h
      exact ⟨u, allT_mem.mpr ⟨by omega, fun x hx => hin x (List.mem_append_left _ hx)⟩, List.mem_map.mpr ⟨c, hin c (List.mem_append_right _ (List.mem_singleton.mpr rfl)), rfl⟩⟩
theorem allT_nodup {al : List Nat} (h : al.Nodup) : ∀ n, (allT al n).Nodup
  | 0 => List.nodup_cons.mpr ⟨List.not_mem_nil, List.nodup_nil⟩
  | n + 1 => by
    refine nodup_flatMap_of (allT_nodup h n) (fun t _ => map_nodup h fun a _ b _ e => ?_) fun t _ t' _ hne x hx hx' => ?_
    · exact (List.append_inj' e rfl).2 |> fun e => by injection e
    · obtain ⟨c, _, rfl⟩ := List.mem_map.mp hx
      obtain ⟨c', _, e⟩ := List.mem_map.mp hx'
      exact hne (List.append_inj' e rfl).1.symm
theorem perm_len {α : Type} [DecidableEq α] {l l' : List α} (h : l.Nodup) (h' : l'.Nodup) (hm : ∀ x, x ∈ l ↔ x ∈ l') : l.length = l'.length :=
  ((List.perm_ext_iff_of_nodup h h').mpr hm).length_eq
theorem sum_len (ts : List (List Nat)) (r : List Nat) : (textR ts r).length = (r.map fun p => (ts.getD p []).length).sum := by
  induction r with
  | nil => rfl
  | cons p r ih => rw [textR_cons, List.length_append, List.map_cons, List.sum_cons, ih]
section
variable {al : List Nat} {ps : List (Nat × Nat)}
abbrev lnT (al : List Nat) (ps : List (Nat × Nat)) (p : Nat) : Nat := (TX al ps p).length
theorem ln_pos (hnd : al.Nodup) (h : Proper al ps) : ∀ p, p < al.length + ps.length → 1 ≤ lnT al ps p := fun p hp => by
  have hg : (textsOf al ps)[p]? = some (TX al ps p) := by rw [TX, List.getD_eq_getElem?_getD, List.getElem?_eq_getElem (by rw [textsOf_len]; exact hp)]; rfl
  have := cut_piece hnd h p _ hg
  rcases Nat.eq_zero_or_pos (TX al ps p).length with e | e
  · have e0 : TX al ps p = [] := List.eq_nil_of_length_eq_zero e
    rw [e0] at this
    have hz : cutL al.length ps (lets al []) = [] := cut_nil _ _
    rw [hz] at this; cases this
  · exact e
theorem okRow_iff : ∀ (r ch : List Nat), (∀ x ∈ ch, x < N) → (okRow N S ch r ↔ (∀ x, r.head? = some x → x ∈ ch) ∧ (∀ q ∈ adjs r, S q.1 q.2 = true) ∧ ∀ x ∈ r, x < N)
  | [], ch, _ => ⟨fun _ => ⟨(fun x e => nomatch e), (fun q hq => nomatch hq), (fun x hx => nomatch hx)⟩, fun _ => trivial⟩
  | p :: r, ch, hN => by
    constructor
    · rintro ⟨hp, hr⟩
      obtain ⟨a, b, c⟩ := (okRow_iff r _ (fun x hx => chs_lt hx)).mp hr
      refine ⟨fun x e => by cases e; exact hp, ?_, fun x hx => ?_⟩
      · cases r with
        | nil => intro q hq; cases hq
        | cons y r =>
          intro q hq
          rw [adjs_cons2] at hq
          rcases List.mem_cons.mp hq with rfl | hq
          · exact (chs_S.mp (a y rfl)).2
          · exact b q hq
      · rcases List.mem_cons.mp hx with rfl | hx
        · exact hN _ hp
        · exact c x hx
    · rintro ⟨a, b, c⟩
      exact okRow_of (p :: r) ch a b c
theorem okRow_cut (hnd : al.Nodup) (h : Proper al ps) {r : List Nat} : okRow (al.length + ps.length) (sideB al ps) (List.range (al.length + ps.length)) r ↔ (∀ x ∈ r, x < al.length + ps.length) ∧ CT al ps (textR (textsOf al ps) r) = r := by
  rw [okRow_iff r _ fun x hx => List.mem_range.mp hx]
  constructor
  · rintro ⟨_, b, c⟩
    refine ⟨c, (CT_row hnd h c).mpr fun q hq => ?_⟩
    have hm : q.1 ∈ r ∧ q.2 ∈ r := by
      unfold adjs at hq
      exact ⟨(List.of_mem_zip hq).1, List.mem_of_mem_tail (List.of_mem_zip hq).2⟩
    exact (sideB_iff hnd h (c _ hm.1) (c _ hm.2)).mp (b q hq)
  · rintro ⟨c, hc⟩
    have hc := (CT_row hnd h c).mp hc
    refine ⟨fun x hx => List.mem_range.mpr (c x (List.mem_of_mem_head? hx)), fun q hq => ?_, c⟩
    have hm : q.1 ∈ r ∧ q.2 ∈ r := by
      unfold adjs at hq
      exact ⟨(List.of_mem_zip hq).1, List.mem_of_mem_tail (List.of_mem_zip hq).2⟩
    exact (sideB_iff hnd h (c _ hm.1) (c _ hm.2)).mpr (hc q hq)
/-- as many cuts of k pieces with n letters as texts of n letters with a cut of k pieces -/
theorem cnt_texts (hnd : al.Nodup) (h : Proper al ps) (k n : Nat) : cnt (al.length + ps.length) (sideB al ps) (lnT al ps) k (List.range (al.length + ps.length)) n = ((allT al n).filter fun t => decide ((CT al ps t).length = k)).length := by
  have hN : ∀ x ∈ List.range (al.length + ps.length), x < al.length + ps.length := fun x hx => List.mem_range.mp hx
  have hmem := fun r => rw_mem (S := sideB al ps) (ln_pos hnd h) k (List.range (al.length + ps.length)) n r hN
  have hchar : ∀ r, r ∈ rw (al.length + ps.length) (sideB al ps) (lnT al ps) k (List.range (al.length + ps.length)) n ↔ r.length = k ∧ ((∀ x ∈ r, x < al.length + ps.length) ∧ CT al ps (textR (textsOf al ps) r) = r) ∧ (textR (textsOf al ps) r).length = n := fun r => by
    rw [hmem, okRow_cut hnd h, sum_len]
  unfold cnt
  rw [← List.length_map (f := textR (textsOf al ps))]
  refine perm_len (map_nodup (rw_nodup k _ _ List.nodup_range) fun a ha b hb e => ?_) ((allT_nodup hnd n).filter _) fun t => ?_
  · rw [← ((hchar a).mp ha).2.1.2, ← ((hchar b).mp hb).2.1.2, e]
  · rw [List.mem_map, List.mem_filter, allT_mem, decide_eq_true_eq]
    constructor
    · rintro ⟨r, hr, rfl⟩
      obtain ⟨a, ⟨b, c⟩, d⟩ := (hchar r).mp hr
      refine ⟨⟨d, fun x hx => ?_⟩, by rw [c]; exact a⟩
      obtain ⟨u, hu1, hu2⟩ := List.mem_flatten.mp hx
      obtain ⟨i, _, rfl⟩ := List.mem_map.mp hu1
      rcases getD_mem_or (ts := textsOf al ps) (i := i) with m | m
      · exact textsOf_al _ m x hu2
      · rw [m] at hu2; cases hu2
    · rintro ⟨⟨a, b⟩, c⟩
      have ht := text_cut (ps := ps) h.wf b
      exact ⟨CT al ps t, (hchar _).mpr ⟨c, ⟨cut_lt b, by rw [show textR (textsOf al ps) (CT al ps t) = t from ht]⟩, by rw [show textR (textsOf al ps) (CT al ps t) = t from ht]; exact a⟩, ht⟩
theorem sum_classes {α : Type} (f : α → Nat) (n : Nat) : ∀ l : List α, (∀ x ∈ l, f x ≤ n) → (((List.range (n + 1)).map fun k => (l.filter fun x => decide (f x = k)).length).sum) = l.length
  | [], _ => by
    have : ((List.range (n + 1)).map fun k => (([] : List α).filter fun x => decide (f x = k)).length) = (List.range (n + 1)).map fun _ => 0 := rfl
    rw [this]
    generalize List.range (n + 1) = l
    induction l with
    | nil => rfl
    | cons a l ih => rw [List.map_cons, List.sum_cons, ih]; rfl
  | a :: l, h => by
    have ih := sum_classes f n l fun x hx => h x (List.mem_cons_of_mem _ hx)
    have ha := h a (List.mem_cons_self ..)
    have e : ∀ k, ((a :: l).filter fun x => decide (f x = k)).length = (l.filter fun x => decide (f x = k)).length + if f a = k then 1 else 0 := fun k => by
      rw [List.filter_cons]
      by_cases hk : f a = k
      · rw [decide_eq_true hk, if_pos rfl, if_pos hk, List.length_cons]
      · rw [decide_eq_false hk, if_neg Bool.false_ne_true, if_neg hk]; rfl
    have e2 : ∀ (g : Nat → Nat) (m : Nat), (((List.range m).map fun k => g k + if f a = k then 1 else 0).sum) = ((List.range m).map g).sum + if f a < m then 1 else 0 := fun g m => by
      induction m with
      | zero => rfl
      | succ m ih =>
        rw [List.range_succ, List.map_append, List.map_append, List.sum_append, List.sum_append, ih, List.map_singleton, List.map_singleton, List.sum_singleton, List.sum_singleton]
        by_cases h1 : f a < m
        · rw [if_pos h1, if_pos (show f a < m + 1 by omega), if_neg (show ¬ f a = m by omega)]; omega
        · by_cases h2 : f a = m
          · rw [if_neg h1, if_pos h2, if_pos (show f a < m + 1 by omega)]; omega
          · rw [if_neg h1, if_neg h2, if_neg (show ¬ f a < m + 1 by omega)]; omega
    rw [List.map_congr_left fun k _ => e k, e2, ih, if_pos (by omega), List.length_cons]
theorem cnts_sum (hnd : al.Nodup) (h : Proper al ps) (n : Nat) : (cnts (al.length + ps.length) (sideB al ps) (lnT al ps) (List.range (al.length + ps.length)) n).sum = al.length ^ n := by
  unfold cnts
  rw [List.map_congr_left fun k _ => cnt_texts hnd h k n, sum_classes (fun t => (CT al ps t).length) n (allT al n) fun t ht => ?_, allT_len]
  have h2 := cutL_len al.length ps (lets al t)
  have h3 : (lets al t).length = t.length := by rw [lets, List.length_map]
  have := (allT_mem.mp ht).1
  show (cutL al.length ps (lets al t)).length ≤ n
  omega
end
/-! ### the rows by their last piece -/
section
variable {N : Nat} {S : Nat → Nat → Bool} {ln : Nat → Nat}
def gR (N : Nat) (S : Nat → Nat → Bool) (ln : Nat → Nat) : Nat → Nat → Nat → List (List Nat)
  | 0, n, p => if n = ln p then [[p]] else []
  | k + 1, n, p => if ln p < n then ((List.range N).filter fun q => S q p).flatMap fun q => (gR N S ln k (n - ln p) q).map fun r => r ++ [p] else []
def gc (N : Nat) (S : Nat → Nat → Bool) (ln : Nat → Nat) (k n p : Nat) : Nat := (gR N S ln k n p).length
theorem gc_zero (n p : Nat) : gc N S ln 0 n p = if n = ln p then 1 else 0 := by
  unfold gc gR
  split <;> rfl
theorem gc_succ (k n p : Nat) : gc N S ln (k + 1) n p = if ln p < n then (((List.range N).filter fun q => S q p).map fun q => gc N S ln k (n - ln p) q).sum else 0 := by
  unfold gc
  rw [gR]
  split
  · rw [len_flat_map]
    refine congrArg List.sum (List.map_congr_left fun q _ => ?_)
    rw [List.length_map]
  · rfl
theorem gR_mem (h1 : ∀ p, p < N → 1 ≤ ln p) : ∀ (k n p : Nat) (r : List Nat), p < N → (r ∈ gR N S ln k n p ↔ r.length = k + 1 ∧ okRow N S (List.range N) r ∧ r.getLast? = some p ∧ (r.map ln).sum = n)
  | 0, n, p, r, hp => by
    rw [gR]
    constructor
    · intro h
      by_cases e : n = ln p
      · rw [if_pos e, List.mem_singleton] at h
        subst h
        exact ⟨rfl, ⟨List.mem_range.mpr hp, trivial⟩, rfl, by rw [List.map_singleton, List.sum_singleton, e]⟩
      · rw [if_neg e] at h; cases h
    · rintro ⟨a, b, c, d⟩
      match r, a, c with
      | [x], _, c =>
        obtain rfl : x = p := Option.some.inj c
        rw [List.map_singleton, List.sum_singleton] at d
        rw [if_pos d.symm]; exact List.mem_singleton.mpr rfl
  | k + 1, n, p, r, hp => by
    have hN : ∀ x ∈ List.range N, x < N := fun x hx => List.mem_range.mp hx
    rw [gR]
    constructor
    · intro h
      by_cases e : ln p < n
      · rw [if_pos e, List.mem_flatMap] at h
        obtain ⟨q, hq, hr⟩ := h
        rw [List.mem_filter, List.mem_range] at hq
        obtain ⟨r', hr', rfl⟩ := List.mem_map.mp hr
        obtain ⟨a, b, c, d⟩ := (gR_mem h1 k (n - ln p) q r' hq.1).mp hr'
        obtain ⟨b1, b2, b3⟩ := (okRow_iff r' _ hN).mp b
        refine ⟨by rw [List.length_append, a]; rfl, (okRow_iff _ _ hN).mpr ⟨fun x hx => ?_, fun z hz => ?_, fun x hx => ?_⟩, List.getLast?_concat, ?_⟩
        · refine List.mem_range.mpr ?_
          have := List.mem_of_mem_head? hx
          rcases List.mem_append.mp this with h | h
          · exact b3 x h
          · rw [List.mem_singleton.mp h]; exact hp
        · rcases adjs_snoc.mp hz with h | ⟨h, h2⟩
          · exact b2 z h
          · rw [c] at h
            cases h
            rw [h2]; exact hq.2
        · rcases List.mem_append.mp hx with h | h
          · exact b3 x h
          · rw [List.mem_singleton.mp h]; exact hp
        · rw [List.map_append, List.sum_append, d, List.map_singleton, List.sum_singleton]; omega
      · rw [if_neg e] at h; cases h
    · rintro ⟨a, b, c, d⟩
      obtain ⟨r', rfl⟩ := List.getLast?_eq_some_iff.mp c
      rw [List.length_append, List.length_singleton] at a
      obtain ⟨b1, b2, b3⟩ := (okRow_iff _ _ hN).mp b
      rw [List.map_append, List.sum_append, List.map_singleton, List.sum_singleton] at d
      have hne : r' ≠ [] := fun e => by rw [e] at a; rw [List.length_nil] at a; omega
      obtain ⟨q, hq⟩ : ∃ q, r'.getLast? = some q := ⟨_, List.getLast?_eq_some_getLast hne⟩
      have hqm : q ∈ r' := List.mem_of_getLast? hq
      have hqN := b3 q (List.mem_append_left _ hqm)
      have hs : 1 ≤ (r'.map ln).sum := Nat.le_trans (h1 q hqN) (sum_le_of_mem hqm)
      rw [if_pos (by omega), List.mem_flatMap]
      refine ⟨q, List.mem_filter.mpr ⟨List.mem_range.mpr hqN, b2 (q, p) (adjs_snoc.mpr (.inr ⟨hq, rfl⟩))⟩, List.mem_map.mpr ⟨r', (gR_mem h1 k _ q r' hqN).mpr ⟨by omega, (okRow_iff _ _ hN).mpr ⟨fun x hx => List.mem_range.mpr (b3 x (List.mem_append_left _ (List.mem_of_mem_head? hx))), fun z hz => b2 z (adjs_snoc.mpr (.inl hz)), fun x hx => b3 x (List.mem_append_left _ hx)⟩, hq, by omega⟩, rfl⟩⟩
theorem gR_nodup (h1 : ∀ p, p < N → 1 ≤ ln p) : ∀ (k n p : Nat), p < N → (gR N S ln k n p).Nodup
  | 0, n, p, _ => by
    rw [gR]
    split
    · exact List.nodup_cons.mpr ⟨List.not_mem_nil, List.nodup_nil⟩
    · exact List.nodup_nil
  | k + 1, n, p, hp => by
    rw [gR]
    split
    · refine nodup_flatMap_of (List.nodup_range.filter _) (fun q hq => map_nodup (gR_nodup h1 k _ q (List.mem_range.mp (List.mem_filter.mp hq).1)) fun a _ b _ e => (List.append_inj' e rfl).1) fun q hq q' hq' hne x hx hx' => ?_
      obtain ⟨r, hr, rfl⟩ := List.mem_map.mp hx
      obtain ⟨r', hr', e⟩ := List.mem_map.mp hx'
      have e := (List.append_inj' e rfl).1
      subst e
      have a := ((gR_mem h1 k _ q _ (List.mem_range.mp (List.mem_filter.mp hq).1)).mp hr).2.2.1
      have b := ((gR_mem h1 k _ q' _ (List.mem_range.mp (List.mem_filter.mp hq').1)).mp hr').2.2.1
      rw [a] at b
      cases b
      exact hne rfl
    · exact List.nodup_nil
theorem gc_cnt (h1 : ∀ p, p < N → 1 ≤ ln p) (k n : Nat) : ((List.range N).map fun p => gc N S ln k n p).sum = cnt N S ln (k + 1) (List.range N) n := by
  have e : ((List.range N).map fun p => gc N S ln k n p).sum = ((List.range N).flatMap fun p => gR N S ln k n p).length := (len_flat_map _ _).symm
  rw [e]
  unfold cnt
  refine perm_len (nodup_flatMap_of List.nodup_range (fun p hp => gR_nodup h1 k n p (List.mem_range.mp hp)) fun p hp p' hp' hne x hx hx' => ?_) (rw_nodup _ _ _ List.nodup_range) fun r => ?_
  · have a := ((gR_mem h1 k n p x (List.mem_range.mp hp)).mp hx).2.2.1
    have b := ((gR_mem h1 k n p' x (List.mem_range.mp hp')).mp hx').2.2.1
    rw [a] at b
    cases b
    exact hne rfl
  · rw [List.mem_flatMap, rw_mem h1 (k + 1) _ n r fun x hx => List.mem_range.mp hx]
    constructor
    · rintro ⟨p, hp, hr⟩
      obtain ⟨a, b, _, d⟩ := (gR_mem h1 k n p r (List.mem_range.mp hp)).mp hr
      exact ⟨a, b, d⟩
    · rintro ⟨a, b, d⟩
      have hne : r ≠ [] := fun e => by rw [e] at a; cases a
      have hN := ((okRow_iff r _ fun x hx => List.mem_range.mp hx).mp b).2.2
      have hp := hN _ (List.getLast_mem hne)
      exact ⟨r.getLast hne, List.mem_range.mpr hp, (gR_mem h1 k n _ r hp).mpr ⟨a, b, List.getLast?_eq_some_getLast hne, d⟩⟩
end
/-! ### numbers by (piece, how many), as a dict keeps them -/
abbrev Ent := (Nat × Nat) × Nat
def eg (es : List Ent) (q : Nat × Nat) : Nat := ((es.find? fun e => decide (e.1 = q)).map (·.2)).getD 0
def eput (es : List Ent) (q : Nat × Nat) (n : Nat) : List Ent := if es.any (fun e => decide (e.1 = q)) then es.map (fun e => if e.1 = q then (q, n) else e) else es ++ [(q, n)]
theorem eg_cons (e : Ent) (es : List Ent) (q : Nat × Nat) : eg (e :: es) q = if e.1 = q then e.2 else eg es q := by
  unfold eg
  rw [List.find?_cons]
  by_cases h : e.1 = q
  · rw [decide_eq_true h, if_pos h]; rfl
  · rw [decide_eq_false h, if_neg h]
theorem eg_none {es : List Ent} {q : Nat × Nat} (h : q ∉ es.map (·.1)) : eg es q = 0 := by
  induction es with
  | nil => rfl
  | cons e es ih =>
    rw [List.map_cons, List.mem_cons, not_or] at h
    rw [eg_cons, if_neg (fun z => h.1 z.symm), ih h.2]
theorem any_iff {es : List Ent} {q : Nat × Nat} : es.any (fun e => decide (e.1 = q)) = true ↔ q ∈ es.map (·.1) := by
  rw [List.any_eq_true, List.mem_map]
  constructor
  · rintro ⟨e, he, h⟩; exact ⟨e, he, of_decide_eq_true h⟩
  · rintro ⟨e, he, h⟩; exact ⟨e, he, decide_eq_true h⟩
theorem eput_keys (es : List Ent) (q : Nat × Nat) (n : Nat) : (eput es q n).map (·.1) = if q ∈ es.map (·.1) then es.map (·.1) else es.map (·.1) ++ [q] := by
  unfold eput
  by_cases h : q ∈ es.map (·.1)
  · rw [if_pos (any_iff.mpr h), if_pos h, List.map_map]
    refine List.map_congr_left fun e _ => ?_
    show (if e.1 = q then (q, n) else e).1 = e.1
    split
    · rename_i h; exact h.symm
    · rfl
  · rw [if_neg (fun z => h (any_iff.mp z)), if_neg h, List.map_append]; rfl
theorem eput_nodup {es : List Ent} {q : Nat × Nat} {n : Nat} (h : (es.map (·.1)).Nodup) : ((eput es q n).map (·.1)).Nodup := by
  rw [eput_keys]
  split
  · exact h
  · rename_i hm
    exact List.nodup_append.mpr ⟨h, List.nodup_cons.mpr ⟨List.not_mem_nil, List.nodup_nil⟩, fun a ha b hb e => hm (by rw [List.mem_singleton.mp hb] at e; exact e ▸ ha)⟩
theorem eg_app (es : List Ent) (q : Nat × Nat) (n : Nat) (q' : Nat × Nat) (h : q ∉ es.map (·.1)) : eg (es ++ [(q, n)]) q' = if q' = q then n else eg es q' := by
  induction es with
  | nil =>
    rw [List.nil_append, eg_cons]
    by_cases e : q' = q
    · rw [if_pos e.symm, if_pos e]
    · rw [if_neg (fun z => e z.symm), if_neg e]
  | cons e es ih =>
    rw [List.map_cons, List.mem_cons, not_or] at h
    rw [List.cons_append, eg_cons, ih h.2, eg_cons]
    by_cases h1 : e.1 = q'
    · rw [if_pos h1, if_pos h1, if_neg (fun z => h.1 (by rw [h1, z]))]
    · rw [if_neg h1, if_neg h1]
theorem eg_put (es : List Ent) (q : Nat × Nat) (n : Nat) (q' : Nat × Nat) : eg (eput es q n) q' = if q' = q then n else eg es q' := by
  unfold eput
  by_cases h : q ∈ es.map (·.1)
  · rw [if_pos (any_iff.mpr h)]
    induction es with
    | nil => cases h
    | cons e es ih =>
      rw [List.map_cons, eg_cons, eg_cons]
      by_cases h1 : e.1 = q
      · rw [if_pos h1]
        by_cases h2 : q' = q
        · rw [if_pos h2.symm, if_pos h2]
        · rw [if_neg (fun z => h2 z.symm), if_neg h2, if_neg (fun z => h2 (by rw [← z, h1]))]
          by_cases h3 : q ∈ es.map (·.1)
          · rw [ih h3, if_neg h2]
          · have e : es.map (fun e => if e.1 = q then (q, n) else e) = es := by
              refine (List.map_congr_left fun x hx => ?_).trans (List.map_id es)
              rw [if_neg (fun z => h3 (List.mem_map.mpr ⟨x, hx, z⟩))]; rfl
            rw [e]
      · rw [if_neg h1]
        rw [List.map_cons, List.mem_cons] at h
        have h3 := h.resolve_left (fun z => h1 z.symm)
        rw [ih h3]
        by_cases h2 : e.1 = q'
        · rw [if_pos h2, if_pos h2, if_neg (fun z => h1 (by rw [h2, z]))]
        · rw [if_neg h2, if_neg h2]
  · rw [if_neg (fun z => h (any_iff.mp z))]
    exact eg_app es q n q' h
theorem eput_mem {es : List Ent} {q : Nat × Nat} {n : Nat} {e : Ent} (h : e ∈ eput es q n) : e.1 = q ∨ e ∈ es := by
  unfold eput at h
  split at h
  · obtain ⟨x, hx, rfl⟩ := List.mem_map.mp h
    by_cases hq : x.1 = q
    · rw [if_pos hq]; exact .inl rfl
    · rw [if_neg hq]; exact .inr hx
  · rcases List.mem_append.mp h with h | h
    · exact .inr h
    · rw [List.mem_singleton.mp h]; exact .inl rfl
theorem eput_len (es : List Ent) (q : Nat × Nat) (n : Nat) : (eput es q n).length ≤ es.length + 1 := by
  unfold eput
  split
  · rw [List.length_map]; omega
  · rw [List.length_append]; exact Nat.le_refl _
theorem sum_hit {a c : Nat} (g : Nat → Nat) : ∀ {l : List Nat}, l.Nodup → ((l.map fun q => g q + if q = a then c else 0).sum) = (l.map g).sum + if a ∈ l then c else 0
  | [], _ => rfl
  | x :: l, h => by
    rw [List.nodup_cons] at h
    rw [List.map_cons, List.map_cons, List.sum_cons, List.sum_cons, sum_hit g h.2]
    by_cases e : x = a
    · subst e
      rw [if_pos rfl, if_neg h.1, if_pos (List.mem_cons_self ..)]; omega
    · rw [if_neg e]
      by_cases hm : a ∈ l
      · rw [if_pos hm, if_pos (List.mem_cons_of_mem _ hm)]; omega
      · rw [if_neg hm, if_neg (fun z => by rcases List.mem_cons.mp z with h | h; exact e h.symm; exact hm h)]; omega
/-- the sum over the dict is the sum over the pieces -/
theorem ent_sum {N : Nat} (f : Nat → Bool) (k : Nat) : ∀ {es : List Ent}, (es.map (·.1)).Nodup → (∀ e ∈ es, e.1.1 < N) →
    ((es.filter fun e => decide (e.1.2 = k) && f e.1.1).map (·.2)).sum = (((List.range N).filter f).map fun q => eg es (q, k)).sum
  | [], _, _ => by
    have : (((List.range N).filter f).map fun q => eg ([] : List Ent) (q, k)) = ((List.range N).filter f).map fun _ => 0 := rfl
    rw [this]
    generalize (List.range N).filter f = l
    induction l with
    | nil => rfl
    | cons a l ih => rw [List.map_cons, List.sum_cons, ← ih]; rfl
  | e :: es, h, hN => by
    rw [List.map_cons, List.nodup_cons] at h
    have ih := ent_sum f k h.2 fun x hx => hN x (List.mem_cons_of_mem _ hx)
    have heN := hN e (List.mem_cons_self ..)
    have e1 : (((List.range N).filter f).map fun q => eg (e :: es) (q, k)) = ((List.range N).filter f).map fun q => eg es (q, k) + if q = e.1.1 then (if e.1.2 = k then e.2 else 0) else 0 := List.map_congr_left fun q _ => by
      rw [eg_cons]
      by_cases h1 : e.1 = (q, k)
      · have h0 : eg es (q, k) = 0 := eg_none (by rw [← h1]; exact h.1)
        have h2 : q = e.1.1 := by rw [h1]
        have h3 : e.1.2 = k := by rw [h1]
        rw [if_pos h1, h0, if_pos h2, if_pos h3]; omega
      · rw [if_neg h1]
        by_cases h2 : q = e.1.1
        · have h3 : ¬ e.1.2 = k := fun h3 => h1 (by rw [h2, ← h3])
          rw [if_pos h2, if_neg h3]; rfl
        · rw [if_neg h2]; rfl
    rw [e1, sum_hit _ (List.nodup_range.filter f), ← ih, List.filter_cons]
    by_cases hf : f e.1.1 = true
    · have hm : e.1.1 ∈ (List.range N).filter f := List.mem_filter.mpr ⟨List.mem_range.mpr heN, hf⟩
      rw [if_pos hm, hf, Bool.and_true]
      by_cases hk : e.1.2 = k
      · rw [decide_eq_true hk, if_pos rfl, if_pos hk, List.map_cons, List.sum_cons]; omega
      · rw [decide_eq_false hk, if_neg Bool.false_ne_true, if_neg hk]; rfl
    · have hm : e.1.1 ∉ (List.range N).filter f := fun z => hf (List.mem_filter.mp z).2
      rw [if_neg hm, Bool.eq_false_iff.mpr hf, Bool.and_false, if_neg Bool.false_ne_true]; rfl
/-- rows of k pieces by their last one -/
def gcK (N : Nat) (S : Nat → Nat → Bool) (ln : Nat → Nat) : Nat → Nat → Nat → Nat
  | 0, _, _ => 0
  | k + 1, n, p => gc N S ln k n p
theorem gcK_same {N : Nat} {S : Nat → Nat → Bool} {ln : Nat → Nat} {n p : Nat} (h : n = ln p) (k : Nat) : gcK N S ln k n p = if k = 1 then 1 else 0 := by
  match k with
  | 0 => rfl
  | 1 => show gc N S ln 0 n p = _; rw [gc_zero, if_pos h]; rfl
  | k + 2 => show gc N S ln (k + 1) n p = _; rw [gc_succ, if_neg (by omega), if_neg (by omega)]
theorem gcK_less {N : Nat} {S : Nat → Nat → Bool} {ln : Nat → Nat} {n p : Nat} (h : n < ln p) (k : Nat) : gcK N S ln k n p = 0 := by
  match k with
  | 0 => rfl
  | 1 => show gc N S ln 0 n p = _; rw [gc_zero, if_neg (by omega)]
  | k + 2 => show gc N S ln (k + 1) n p = _; rw [gc_succ, if_neg (by omega)]
theorem gcK_more {N : Nat} {S : Nat → Nat → Bool} {ln : Nat → Nat} {n p : Nat} (h : ln p < n) (k : Nat) : gcK N S ln (k + 1) n p = (((List.range N).filter fun q => S q p).map fun q => gcK N S ln k (n - ln p) q).sum := by
  match k with
  | 0 =>
    show gc N S ln 0 n p = _
    rw [gc_zero, if_neg (by omega)]
    have : (((List.range N).filter fun q => S q p).map fun q => gcK N S ln 0 (n - ln p) q) = ((List.range N).filter fun q => S q p).map fun _ => 0 := rfl
    rw [this]
    generalize (List.range N).filter (fun q => S q p) = l
    induction l with
    | nil => rfl
    | cons a l ih => rw [List.map_cons, List.sum_cons, ← ih]
  | k + 1 => show gc N S ln (k + 1) n p = _; rw [gc_succ, if_pos h]; rfl
theorem nodup_bound : ∀ (M : Nat) (l : List Nat), l.Nodup → (∀ x ∈ l, x < M) → l.length ≤ M
  | 0, l, _, h => by
    cases l with
    | nil => exact Nat.le_refl _
    | cons a l => exact absurd (h a (List.mem_cons_self ..)) (Nat.not_lt_zero _)
  | M + 1, l, hn, h => by
    by_cases hm : M ∈ l
    · have h1 := nodup_bound M (l.erase M) (hn.erase M) fun x hx => by
        have hx := (hn.mem_erase_iff).mp hx
        have := h x hx.2
        have := hx.1
        omega
      rw [List.length_erase_of_mem hm] at h1
      have := List.length_pos_of_mem hm
      omega
    · refine Nat.le_succ_of_le (nodup_bound M l hn fun x hx => ?_)
      have := h x hx
      have : x ≠ M := fun e => hm (e ▸ hx)
      omega
theorem ent_len {es : List Ent} {p n : Nat} (hn : (es.map (·.1)).Nodup) (h : ∀ e ∈ es, e.1.1 < p ∧ e.1.2 ≤ n) : es.length ≤ p * (n + 1) := by
  have h1 := nodup_bound (p * (n + 1)) ((es.map (·.1)).map fun q => q.1 * (n + 1) + q.2) (map_nodup hn fun a ha b hb e => ?_) fun x hx => ?_
  · rwa [List.length_map, List.length_map] at h1
  · obtain ⟨x, hx, rfl⟩ := List.mem_map.mp ha
    obtain ⟨y, hy, rfl⟩ := List.mem_map.mp hb
    have h2 := (h x hx).2
    have h3 := (h y hy).2
    have e1 : x.1.1 = y.1.1 := by
      have a1 : (x.1.1 * (n + 1) + x.1.2) / (n + 1) = x.1.1 := by rw [Nat.add_comm, Nat.add_mul_div_right _ _ (Nat.succ_pos n), Nat.div_eq_of_lt (by omega), Nat.zero_add]
      have a2 : (y.1.1 * (n + 1) + y.1.2) / (n + 1) = y.1.1 := by rw [Nat.add_comm, Nat.add_mul_div_right _ _ (Nat.succ_pos n), Nat.div_eq_of_lt (by omega), Nat.zero_add]
      rw [← a1, ← a2]; exact congrArg (· / (n + 1)) e
    have e : x.1.1 * (n + 1) + x.1.2 = y.1.1 * (n + 1) + y.1.2 := e
    rw [e1] at e
    exact Prod.ext e1 (by omega)
  · obtain ⟨q, hq, rfl⟩ := List.mem_map.mp hx
    obtain ⟨e, he, rfl⟩ := List.mem_map.mp hq
    obtain ⟨h2, h3⟩ := h e he
    have h4 : (e.1.1 + 1) * (n + 1) ≤ p * (n + 1) := Nat.mul_le_mul_right _ h2
    have h5 : (e.1.1 + 1) * (n + 1) = e.1.1 * (n + 1) + (n + 1) := Nat.succ_mul _ _
    show e.1.1 * (n + 1) + e.1.2 < p * (n + 1)
    omega
end RJ
end

section
set_option maxRecDepth 100000
namespace RJ
open PySem PySem.Spec PyProof.Rows L2
open PySem.W (minD AlikeAll alike alikeAll dataLt)
/-! ### the least of (number, text) -/
abbrev WT := Int × List Nat
def ltW (a b : WT) : Prop := a.1 < b.1 ∨ (a.1 = b.1 ∧ a.2 < b.2)
instance (a b : WT) : Decidable (ltW a b) := inferInstanceAs (Decidable (_ ∨ _))
theorem ltW_irrefl (a : WT) : ¬ ltW a a := fun h => by
  rcases h with h | ⟨_, h⟩
  · omega
  · exact List.lt_irrefl _ h
theorem ltW_trans {a b c : WT} (h : ltW a b) (k : ltW b c) : ltW a c := by
  rcases h with h | ⟨h, h'⟩ <;> rcases k with k | ⟨k, k'⟩
  · exact .inl (by omega)
  · exact .inl (by omega)
  · exact .inl (by omega)
  · exact .inr ⟨by omega, List.lt_trans h' k'⟩
theorem ltW_tri {a b : WT} (h : ¬ ltW a b) (k : ¬ ltW b a) : a = b := by
  have e : a.1 = b.1 := by
    have h1 : ¬ a.1 < b.1 := fun z => h (.inl z)
    have h2 : ¬ b.1 < a.1 := fun z => k (.inl z)
    omega
  have e2 : a.2 = b.2 := List.le_antisymm (List.not_lt.mp fun z => k (.inr ⟨e.symm, z⟩)) (List.not_lt.mp fun z => h (.inr ⟨e, z⟩))
  exact Prod.ext e e2
theorem ltW_of {a m b : WT} (h : ltW a m) (k : ¬ ltW b m) : ltW a b := by
  by_cases c : ltW m b
  · exact ltW_trans h c
  · rw [ltW_tri k c]; exact h
def Best (X : WT → Prop) (m : WT) : Prop := X m ∧ ∀ y, X y → ¬ ltW y m
def BestO (X : WT → Prop) : Option WT → Prop
  | none => ∀ x, ¬ X x
  | some m => Best X m
def LeastO (l : List WT) : Option WT → Prop
  | none => l = []
  | some m => m ∈ l ∧ ∀ y ∈ l, ¬ ltW y m
theorem Best.uniq {X : WT → Prop} {a b : WT} (h : Best X a) (k : Best X b) : a = b := ltW_tri (k.2 a h.1) (h.2 b k.1)
theorem BestO.congr {X Y : WT → Prop} (e : ∀ x, X x ↔ Y x) : ∀ {o : Option WT}, BestO X o → BestO Y o
  | none, h => fun x hx => h x ((e x).mpr hx)
  | some m, h => ⟨(e m).mp h.1, fun y hy => h.2 y ((e y).mpr hy)⟩
theorem Best.congr {X Y : WT → Prop} (e : ∀ x, X x ↔ Y x) {m : WT} (h : Best X m) : Best Y m := BestO.congr (o := some m) e h
theorem BestO.img {X : WT → Prop} (f : WT → WT) (hf : ∀ a b, X a → X b → ltW (f a) (f b) → ltW a b) : ∀ {o : Option WT}, BestO X o → BestO (fun x => ∃ y, X y ∧ x = f y) (o.map f)
  | none, h => fun x ⟨y, hy, _⟩ => h y hy
  | some m, h => ⟨⟨m, h.1, rfl⟩, fun x ⟨y, hy, e⟩ z => h.2 y hy (hf y m hy h.1 (e ▸ z))⟩
theorem BestO.union {ι : Type} {l : List ι} {X : ι → WT → Prop} {o : ι → Option WT} (h : ∀ i ∈ l, BestO (X i) (o i)) : ∀ {r : Option WT}, LeastO (l.filterMap o) r → BestO (fun x => ∃ i ∈ l, X i x) r
  | none, hr => fun x ⟨i, hi, hx⟩ => by
    have hi' := h i hi
    cases e : o i with
    | none => rw [e] at hi'; exact hi' x hx
    | some m =>
      have : m ∈ l.filterMap o := List.mem_filterMap.mpr ⟨i, hi, e⟩
      rw [show l.filterMap o = [] from hr] at this
      cases this
  | some m, hr => by
    obtain ⟨i, hi, e⟩ := List.mem_filterMap.mp hr.1
    have hi' := h i hi
    rw [e] at hi'
    refine ⟨⟨i, hi, hi'.1⟩, fun y ⟨j, hj, hy⟩ z => ?_⟩
    have hj' := h j hj
    cases e2 : o j with
    | none => rw [e2] at hj'; exact hj' y hy
    | some m2 =>
      rw [e2] at hj'
      exact hj'.2 y hy (ltW_of z (hr.2 m2 (List.mem_filterMap.mpr ⟨j, hj, e2⟩)))
theorem lt_app_left {t a b : List Nat} (h : t ++ a < t ++ b) : a < b := by
  induction t with
  | nil => exact h
  | cons x t ih =>
    rcases List.cons_lt_cons_iff.mp h with h | ⟨_, h⟩
    · exact absurd h (Nat.lt_irrefl _)
    · exact ih h
theorem lt_app_right {t : List Nat} : ∀ {a b : List Nat}, a.length = b.length → a ++ t < b ++ t → a < b
  | [], [], _, h => absurd h (List.lt_irrefl _)
  | x :: a, y :: b, e, h => by
    rcases List.cons_lt_cons_iff.mp h with h | ⟨h1, h⟩
    · exact List.cons_lt_cons_iff.mpr (.inl h)
    · exact List.cons_lt_cons_iff.mpr (.inr ⟨h1, lt_app_right (by injection e) h⟩)
/-- min(l) of alike data -/
def rMinL (K : PySem.W.Frag) : List V → Hp → VK → Prop := fun vs H Q => ∃ (a : Addr) (xs : List V) (d : PyData) (ds : List PyData), vs = [V.ref a] ∧ H a = some (.lst xs) ∧ DpAll K H xs (d :: ds) ∧ AlikeAll (d :: ds) ∧ PyData.depthAll (d :: ds) ≤ 60 ∧
  ∀ (i : Nat) (x : V), xs[i]? = some x → (d :: ds)[i]? = some (minD d ds) → Q x H
theorem cr_minL {X : Cx} (hc : X.calm = true) (hu : X.A.units + 64 < cLine) : CallR X (.builtin "min") (rMinL X.K) := by
  intro pins s σ H xs0 us Q I r h
  obtain ⟨a, xs, d, ds, rfl, ha, hd, hal, hdep, q1⟩ := h
  obtain ⟨its, rv, hl, _⟩ := I.list (SqL.of ha)
  rw [Vals.ref1 r]
  obtain ⟨as, hr⟩ := Dp.readsAll I (d :: ds) xs its hd rv
  show wpAny _ _ (call (.builtin "min") [.ref a]) _ _ s
  refine PySem.W.min_list_data (I.ok.hd hc) hl.isList hr hal (by omega) fun i v h' tk bs hv hrd hk => ?_
  have hv' : its[i]? = some v := by simpa using hv
  have hl2 := rv.length
  have hi : i < xs.length := by
    have := (List.getElem?_eq_some_iff.mp hv').1
    omega
  obtain ⟨u2, hu2, ru2⟩ := rv.get (List.getElem?_eq_getElem hi)
  rw [hv'] at hu2
  cases hu2
  obtain ⟨d2, bs2, hd2, hr2⟩ := readsAll_ix hr hv'
  have heq : d2 = minD d ds := ((PyProof.Rows.reads_det (h := s.heap) (h' := h') (fun b o e _ => hk b o e) hr2 hrd).1).symm
  exact ⟨xs[i], H, I.kept hk, ru2, q1 i _ (List.getElem?_eq_getElem hi) (by rw [hd2, heq])⟩
end RJ
end

section
set_option maxRecDepth 100000
namespace RJ
open PySem PySem.Spec PyProof.Rows L2
/-! ### the least (pieces, text) of all cuts with n letters -/
section
variable {N : Nat} {S : Nat → Nat → Bool} {tx : Nat → List Nat} {w : Int}
def txR (tx : Nat → List Nat) (r : List Nat) : List Nat := (r.map tx).flatten
/-- a row that may stand behind, with n letters: (pieces times w, text) -/
def InB (N : Nat) (S : Nat → Nat → Bool) (tx : Nat → List Nat) (w : Int) (ch : List Nat) (n : Nat) (x : WT) : Prop :=
  ∃ r, okRow N S ch r ∧ (r.map fun p => (tx p).length).sum = n ∧ x = (w * (r.length : Int), txR tx r)
theorem inB_zero (h1 : ∀ p, p < N → 1 ≤ (tx p).length) {ch : List Nat} (hN : ∀ x ∈ ch, x < N) {x : WT} : InB N S tx w ch 0 x ↔ x = (0, []) := by
  constructor
  · rintro ⟨r, hr, hs, rfl⟩
    cases r with
    | nil => show (w * ((0 : Nat) : Int), ([] : List Nat)) = _; rw [show ((0 : Nat) : Int) = 0 from rfl, Int.mul_zero]
    | cons p r =>
      have := h1 p (hN p hr.1)
      rw [List.map_cons, List.sum_cons] at hs
      omega
  · rintro rfl
    exact ⟨[], trivial, rfl, by show _ = (w * ((0 : Nat) : Int), ([] : List Nat)); rw [show ((0 : Nat) : Int) = 0 from rfl, Int.mul_zero]⟩
theorem inB_next {ch : List Nat} {n : Nat} (hn : 0 < n) {x : WT} : InB N S tx w ch n x ↔ ∃ p ∈ ch.filter (fun p => decide ((tx p).length ≤ n)), ∃ y, InB N S tx w (chs N S p) (n - (tx p).length) y ∧ x = (w + y.1, tx p ++ y.2) := by
  constructor
  · rintro ⟨r, hr, hs, rfl⟩
    cases r with
    | nil => exact absurd hs (by show ¬ 0 = n; omega)
    | cons p r =>
      rw [List.map_cons, List.sum_cons] at hs
      refine ⟨p, List.mem_filter.mpr ⟨hr.1, decide_eq_true (by omega)⟩, _, ⟨r, hr.2, by omega, rfl⟩, ?_⟩
      show (w * (((p :: r).length : Nat) : Int), txR tx (p :: r)) = _
      refine Prod.ext ?_ ?_
      · show w * (((p :: r).length : Nat) : Int) = w + w * (r.length : Int)
        rw [List.length_cons, Int.natCast_add, Int.mul_add, Int.natCast_one, Int.mul_one, Int.add_comm]
      · show txR tx (p :: r) = tx p ++ txR tx r
        unfold txR; rw [List.map_cons, List.flatten_cons]
  · rintro ⟨p, hp, y, ⟨r, hr, hs, rfl⟩, rfl⟩
    rw [List.mem_filter, decide_eq_true_eq] at hp
    refine ⟨p :: r, ⟨hp.1, hr⟩, by rw [List.map_cons, List.sum_cons]; omega, Prod.ext ?_ ?_⟩
    · show w + w * (r.length : Int) = w * (((p :: r).length : Nat) : Int)
      rw [List.length_cons, Int.natCast_add, Int.mul_add, Int.natCast_one, Int.mul_one, Int.add_comm]
    · show tx p ++ txR tx r = txR tx (p :: r)
      unfold txR; rw [List.map_cons, List.flatten_cons]
/-- one step of the table -/
theorem bestB_next {ch : List Nat} {n : Nat} (hn : 0 < n) {o : Nat → Option WT} (h : ∀ p ∈ ch.filter (fun p => decide ((tx p).length ≤ n)), BestO (InB N S tx w (chs N S p) (n - (tx p).length)) (o p)) {r : Option WT}
    (hr : LeastO ((ch.filter fun p => decide ((tx p).length ≤ n)).filterMap fun p => (o p).map fun y => (w + y.1, tx p ++ y.2)) r) : BestO (InB N S tx w ch n) r :=
  BestO.congr (fun _ => (inB_next hn).symm) (BestO.union (X := fun p x => ∃ y, InB N S tx w (chs N S p) (n - (tx p).length) y ∧ x = (w + y.1, tx p ++ y.2)) (o := fun p => (o p).map fun y => (w + y.1, tx p ++ y.2)) (fun p hp => BestO.img (fun y => (w + y.1, tx p ++ y.2)) (fun a b _ _ z => by
    rcases z with z | ⟨z1, z2⟩
    · exact .inl (by have : w + a.1 < w + b.1 := z; omega)
    · exact .inr ⟨by have : w + a.1 = w + b.1 := z1; omega, lt_app_left z2⟩) (h p hp)) hr)
/-- a row that ends in p, with n letters -/
def InF (N : Nat) (S : Nat → Nat → Bool) (tx : Nat → List Nat) (w : Int) (p n : Nat) (x : WT) : Prop :=
  ∃ r, okRow N S (List.range N) r ∧ r.getLast? = some p ∧ (r.map fun p => (tx p).length).sum = n ∧ x = (w * (r.length : Int), txR tx r)
theorem txR_len (r : List Nat) : (txR tx r).length = (r.map fun p => (tx p).length).sum := by
  unfold txR
  rw [List.length_flatten, List.map_map]; rfl
theorem inF_len {p n : Nat} {x : WT} (h : InF N S tx w p n x) : x.2.length = n := by
  obtain ⟨r, _, _, hs, rfl⟩ := h
  exact (txR_len r).trans hs
theorem inF_iff (h1 : ∀ p, p < N → 1 ≤ (tx p).length) {p n : Nat} (hp : p < N) {x : WT} : InF N S tx w p n x ↔ (n = (tx p).length ∧ x = (w, tx p)) ∨ ((tx p).length < n ∧ ∃ q ∈ (List.range N).filter (fun q => S q p), ∃ y, InF N S tx w q (n - (tx p).length) y ∧ x = (y.1 + w, y.2 ++ tx p)) := by
  have hN : ∀ x ∈ List.range N, x < N := fun x hx => List.mem_range.mp hx
  have e1 : ∀ r : List Nat, w * (((r ++ [p]).length : Nat) : Int) = w * (r.length : Int) + w := fun r => by
    rw [List.length_append, List.length_singleton, Int.natCast_add, Int.mul_add, Int.natCast_one, Int.mul_one]
  have e2 : ∀ r : List Nat, txR tx (r ++ [p]) = txR tx r ++ tx p := fun r => by
    unfold txR; rw [List.map_append, List.flatten_append, List.map_singleton]; simp
  constructor
  · rintro ⟨r, b, c, d, rfl⟩
    obtain ⟨r', rfl⟩ := List.getLast?_eq_some_iff.mp c
    obtain ⟨b1, b2, b3⟩ := (okRow_iff _ _ hN).mp b
    rw [List.map_append, List.sum_append, List.map_singleton, List.sum_singleton] at d
    by_cases hne : r' = []
    · subst hne
      refine .inl ⟨by simpa using d.symm, Prod.ext ?_ ?_⟩
      · exact (e1 []).trans (by show w * ((0 : Nat) : Int) + w = w; rw [show ((0 : Nat) : Int) = 0 from rfl, Int.mul_zero, Int.zero_add])
      · exact (e2 []).trans (List.nil_append _)
    · obtain ⟨q, hq⟩ : ∃ q, r'.getLast? = some q := ⟨_, List.getLast?_eq_some_getLast hne⟩
      have hqm : q ∈ r' := List.mem_of_getLast? hq
      have hqN := b3 q (List.mem_append_left _ hqm)
      have hs : (tx q).length ≤ (r'.map fun p => (tx p).length).sum := sum_le_of_mem (f := fun p => (tx p).length) hqm
      have := h1 q hqN
      refine .inr ⟨by omega, q, List.mem_filter.mpr ⟨List.mem_range.mpr hqN, b2 (q, p) (adjs_snoc.mpr (.inr ⟨hq, rfl⟩))⟩, _, ⟨r', (okRow_iff _ _ hN).mpr ⟨fun x hx => List.mem_range.mpr (b3 x (List.mem_append_left _ (List.mem_of_mem_head? hx))), fun z hz => b2 z (adjs_snoc.mpr (.inl hz)), fun x hx => b3 x (List.mem_append_left _ hx)⟩, hq, by omega, rfl⟩, Prod.ext (e1 r') (e2 r')⟩
  · rintro (⟨h, rfl⟩ | ⟨h, q, hq, y, ⟨r', b, c, d, rfl⟩, rfl⟩)
    · refine ⟨[p], ⟨List.mem_range.mpr hp, trivial⟩, rfl, by rw [List.map_singleton, List.sum_singleton, h], Prod.ext ?_ ?_⟩
      · exact ((e1 []).trans (by show w * ((0 : Nat) : Int) + w = w; rw [show ((0 : Nat) : Int) = 0 from rfl, Int.mul_zero, Int.zero_add])).symm
      · exact ((e2 []).trans (List.nil_append _)).symm
    · rw [List.mem_filter, List.mem_range] at hq
      obtain ⟨b1, b2, b3⟩ := (okRow_iff _ _ hN).mp b
      refine ⟨r' ++ [p], (okRow_iff _ _ hN).mpr ⟨fun x hx => ?_, fun z hz => ?_, fun x hx => ?_⟩, List.getLast?_concat, ?_, Prod.ext (e1 r').symm (e2 r').symm⟩
      · refine List.mem_range.mpr ?_
        rcases List.mem_append.mp (List.mem_of_mem_head? hx) with h | h
        · exact b3 x h
        · rw [List.mem_singleton.mp h]; exact hp
      · rcases adjs_snoc.mp hz with h | ⟨h, h2⟩
        · exact b2 z h
        · rw [c] at h
          cases h
          rw [h2]; exact hq.2
      · rcases List.mem_append.mp hx with h | h
        · exact b3 x h
        · rw [List.mem_singleton.mp h]; exact hp
      · rw [List.map_append, List.sum_append, d, List.map_singleton, List.sum_singleton]; omega
theorem bestF_same (h1 : ∀ p, p < N → 1 ≤ (tx p).length) {p : Nat} (hp : p < N) : BestO (InF N S tx w p (tx p).length) (some (w, tx p)) :=
  BestO.congr (X := fun x => x = (w, tx p)) (fun x => ⟨fun h => (inF_iff h1 hp).mpr (.inl ⟨rfl, h⟩), fun h => by
    rcases (inF_iff h1 hp).mp h with ⟨_, h⟩ | ⟨h, _⟩
    · exact h
    · exact absurd h (Nat.lt_irrefl _)⟩) (o := some (w, tx p)) ⟨rfl, fun y hy => by rw [hy]; exact ltW_irrefl _⟩
theorem bestF_less (h1 : ∀ p, p < N → 1 ≤ (tx p).length) {p n : Nat} (hp : p < N) (h : n < (tx p).length) : BestO (InF N S tx w p n) none := fun x hx => by
  rcases (inF_iff h1 hp).mp hx with ⟨h', _⟩ | ⟨h', _⟩ <;> omega
theorem bestF_more (h1 : ∀ p, p < N → 1 ≤ (tx p).length) {p n : Nat} (hp : p < N) (hn : (tx p).length < n) {l : List Nat} {o : Nat → Option WT} (hl : ∀ q, q ∈ l → q < N ∧ S q p = true) (hl2 : ∀ q, q < N → S q p = true → q ∉ l → BestO (InF N S tx w q (n - (tx p).length)) none)
    (h : ∀ q ∈ l, BestO (InF N S tx w q (n - (tx p).length)) (o q)) {r : Option WT} (hr : LeastO (l.filterMap fun q => (o q).map fun y => (y.1 + w, y.2 ++ tx p)) r) : BestO (InF N S tx w p n) r := by
  refine BestO.congr (fun x => ?_) (BestO.union (l := l) (X := fun q x => ∃ y, InF N S tx w q (n - (tx p).length) y ∧ x = (y.1 + w, y.2 ++ tx p)) (o := fun q => (o q).map fun y => (y.1 + w, y.2 ++ tx p)) (fun q hq => BestO.img (fun y => (y.1 + w, y.2 ++ tx p)) (fun a b ha hb z => by
    rcases z with z | ⟨z1, z2⟩
    · exact .inl (by have : a.1 + w < b.1 + w := z; omega)
    · exact .inr ⟨by have : a.1 + w = b.1 + w := z1; omega, lt_app_right (by rw [inF_len ha, inF_len hb]) z2⟩) (h q hq)) hr)
  rw [inF_iff h1 hp]
  constructor
  · rintro ⟨q, hq, hx⟩
    exact .inr ⟨hn, q, List.mem_filter.mpr ⟨List.mem_range.mpr (hl q hq).1, (hl q hq).2⟩, hx⟩
  · rintro (⟨h', _⟩ | ⟨_, q, hq, y, hy, hx⟩)
    · omega
    · rw [List.mem_filter, List.mem_range] at hq
      by_cases hql : q ∈ l
      · exact ⟨q, hql, y, hy, hx⟩
      · exact absurd hy (hl2 q hq.1 hq.2 hql y)
/-- all rows with n letters, by their last piece -/
theorem inB_inF {n : Nat} (hn : 0 < n) {x : WT} : InB N S tx w (List.range N) n x ↔ ∃ p ∈ List.range N, InF N S tx w p n x := by
  have hN : ∀ x ∈ List.range N, x < N := fun x hx => List.mem_range.mp hx
  constructor
  · rintro ⟨r, hr, hs, rfl⟩
    have hne : r ≠ [] := fun e => by rw [e] at hs; exact absurd hs (by show ¬ 0 = n; omega)
    have hb := ((okRow_iff _ _ hN).mp hr).2.2
    exact ⟨r.getLast hne, List.mem_range.mpr (hb _ (List.getLast_mem hne)), r, hr, List.getLast?_eq_some_getLast hne, hs, rfl⟩
  · rintro ⟨p, _, r, hr, _, hs, rfl⟩
    exact ⟨r, hr, hs, rfl⟩
end
section
variable {al : List Nat} {ps : List (Nat × Nat)}
/-- all texts of n letters -/
theorem inB_texts (hnd : al.Nodup) (h : Proper al ps) {w : Int} {n : Nat} {x : WT} : InB (al.length + ps.length) (sideB al ps) (fun p => (textsOf al ps).getD p []) w (List.range (al.length + ps.length)) n x ↔ ∃ t ∈ allT al n, x = (w * ((CT al ps t).length : Int), t) := by
  constructor
  · rintro ⟨r, hr, hs, rfl⟩
    obtain ⟨hlt, hc⟩ := (okRow_cut hnd h).mp hr
    refine ⟨textR (textsOf al ps) r, allT_mem.mpr ⟨(sum_len _ _).trans hs, fun x hx => ?_⟩, by rw [hc]; rfl⟩
    obtain ⟨u, hu1, hu2⟩ := List.mem_flatten.mp hx
    obtain ⟨i, _, rfl⟩ := List.mem_map.mp hu1
    rcases getD_mem_or (ts := textsOf al ps) (i := i) with m | m
    · exact textsOf_al _ m x hu2
    · rw [m] at hu2; cases hu2
  · rintro ⟨t, ht, rfl⟩
    obtain ⟨a, b⟩ := allT_mem.mp ht
    have e := text_cut (ps := ps) h.wf b
    refine ⟨CT al ps t, (okRow_cut hnd h).mpr ⟨cut_lt b, by rw [show textR (textsOf al ps) (CT al ps t) = t from e]⟩, ?_, by rw [show txR (fun p => (textsOf al ps).getD p []) (CT al ps t) = t from e]⟩
    rw [← sum_len, show textR (textsOf al ps) (CT al ps t) = t from e, a]
theorem inB_some (hnd : al.Nodup) (h : Proper al ps) (h1 : 1 ≤ al.length) (w : Int) (n : Nat) : ∃ x, InB (al.length + ps.length) (sideB al ps) (fun p => (textsOf al ps).getD p []) w (List.range (al.length + ps.length)) n x := by
  obtain ⟨c, cs, rfl⟩ : ∃ c cs, al = c :: cs := by
    cases al with
    | nil => exact absurd h1 (by decide)
    | cons c cs => exact ⟨c, cs, rfl⟩
  exact ⟨_, (inB_texts hnd h).mpr ⟨List.replicate n c, allT_mem.mpr ⟨List.length_replicate, fun x hx => by rw [(List.mem_replicate.mp hx).2]; exact List.mem_cons_self ..⟩, rfl⟩⟩
/-- ascending letters: ascending texts -/
theorem allT_asc (ha : al.Pairwise (· < ·)) : ∀ n, (allT al n).Pairwise (· < ·)
  | 0 => List.pairwise_singleton _ _
  | n + 1 => by
    rw [allT, List.pairwise_flatMap]
    refine ⟨fun t _ => List.pairwise_map.mpr (ha.imp fun h => List.append_left_lt (List.cons_lt_cons_iff.mpr (.inl h))), ?_⟩
    refine List.Pairwise.imp_of_mem (fun {t u} ht hu h x hx y hy => ?_) (allT_asc ha n)
    obtain ⟨c, _, rfl⟩ := List.mem_map.mp hx
    obtain ⟨d, _, rfl⟩ := List.mem_map.mp hy
    have hl : t.length = u.length := (allT_mem.mp ht).1.trans (allT_mem.mp hu).1.symm
    clear ht hu hx hy
    induction t generalizing u with
    | nil => cases u with
      | nil => exact absurd h (List.lt_irrefl _)
      | cons _ _ => cases hl
    | cons a t ih => cases u with
      | nil => cases hl
      | cons b u =>
        rcases List.cons_lt_cons_iff.mp h with h | ⟨h1, h⟩
        · exact List.cons_lt_cons_iff.mpr (.inl h)
        · exact List.cons_lt_cons_iff.mpr (.inr ⟨h1, ih h (by injection hl)⟩)
/-- the first of all texts whose number is the least -/
theorem best_first (ha : al.Pairwise (· < ·)) {n : Nat} {f : List Nat → Int} {i : Nat} {t : List Nat} (hi : (allT al n)[i]? = some t) (hle : ∀ u ∈ allT al n, f t ≤ f u) (hfst : ∀ j u, j < i → (allT al n)[j]? = some u → f u ≠ f t) :
    Best (fun x => ∃ t ∈ allT al n, x = (f t, t)) (f t, t) := by
  refine ⟨⟨t, List.mem_of_getElem? hi, rfl⟩, ?_⟩
  rintro y ⟨u, hu, rfl⟩ z
  rcases z with z | ⟨z1, z2⟩
  · have := hle u hu
    have z' : f u < f t := z
    omega
  · obtain ⟨j, hj⟩ := List.getElem?_of_mem hu
    have hp := allT_asc ha n
    obtain ⟨a1, b1⟩ := List.getElem?_eq_some_iff.mp hi
    obtain ⟨a2, b2⟩ := List.getElem?_eq_some_iff.mp hj
    have z2' : u < t := z2
    rcases Nat.lt_trichotomy j i with c | c | c
    · exact hfst j u c hj z1
    · subst c
      rw [hi] at hj
      cases hj
      exact List.lt_irrefl _ z2'
    · have := List.pairwise_iff_getElem.mp hp i j a1 a2 c
      rw [b1, b2] at this
      exact List.lt_irrefl _ (List.lt_trans this z2')
end
end RJ
end

section
set_option maxRecDepth 100000
namespace RJ
open PySem PySem.Spec PyProof.Rows L2
theorem leastO_ex : ∀ l : List WT, ∃ r, LeastO l r
  | [] => ⟨none, rfl⟩
  | y :: l => by
    obtain ⟨r, hr⟩ := leastO_ex l
    cases r with
    | none =>
      have : l = [] := hr
      subst this
      exact ⟨some y, List.mem_cons_self .., fun z hz => by rw [List.mem_singleton.mp hz]; exact ltW_irrefl y⟩
    | some m =>
      by_cases c : ltW y m
      · refine ⟨some y, List.mem_cons_self .., fun z hz zy => ?_⟩
        rcases List.mem_cons.mp hz with h | h
        · rw [h] at zy; exact ltW_irrefl y zy
        · exact hr.2 z h (ltW_trans zy c)
      · refine ⟨some m, List.mem_cons_of_mem _ hr.1, fun z hz zy => ?_⟩
        rcases List.mem_cons.mp hz with h | h
        · rw [h] at zy; exact c zy
        · exact hr.2 z h zy
theorem BestO.uniq {X : WT → Prop} : ∀ {a b : Option WT}, BestO X a → BestO X b → a = b
  | none, none, _, _ => rfl
  | none, some m, h, k => absurd k.1 (h m)
  | some m, none, h, k => absurd h.1 (k m)
  | some m, some m', h, k => congrArg some (Best.uniq h k)
open Classical in
noncomputable def bo (X : WT → Prop) : Option WT := if h : ∃ o, BestO X o then h.choose else none
theorem bo_ok {X : WT → Prop} (h : ∃ o, BestO X o) : BestO X (bo X) := by
  unfold bo
  rw [dif_pos h]
  exact h.choose_spec
theorem bo_eq {X : WT → Prop} {o : Option WT} (h : BestO X o) : bo X = o := BestO.uniq (bo_ok ⟨o, h⟩) h
section
variable {N : Nat} {S : Nat → Nat → Bool} {tx : Nat → List Nat} {w : Int}
theorem bestB_ex (h1 : ∀ p, p < N → 1 ≤ (tx p).length) : ∀ (b n : Nat), n ≤ b → ∀ ch : List Nat, (∀ x ∈ ch, x < N) → ∃ o, BestO (InB N S tx w ch n) o
  | b, 0, _, ch, hN => ⟨some (0, []), (inB_zero h1 hN).mpr rfl, fun y hy => by rw [(inB_zero h1 hN).mp hy]; exact ltW_irrefl _⟩
  | b + 1, n + 1, hb, ch, hN => by
    obtain ⟨r, hr⟩ := leastO_ex ((ch.filter fun p => decide ((tx p).length ≤ n + 1)).filterMap fun p => (bo (InB N S tx w (chs N S p) (n + 1 - (tx p).length))).map fun y => (w + y.1, tx p ++ y.2))
    refine ⟨r, bestB_next (Nat.succ_pos n) (o := fun p => bo (InB N S tx w (chs N S p) (n + 1 - (tx p).length))) (fun p hp => bo_ok ?_) hr⟩
    rw [List.mem_filter, decide_eq_true_eq] at hp
    have := h1 p (hN p hp.1)
    exact bestB_ex h1 b (n + 1 - (tx p).length) (by omega) _ fun x hx => chs_lt hx
noncomputable def bB (N : Nat) (S : Nat → Nat → Bool) (tx : Nat → List Nat) (w : Int) (ch : List Nat) (n : Nat) : Option WT := bo (InB N S tx w ch n)
theorem bB_ok (h1 : ∀ p, p < N → 1 ≤ (tx p).length) {ch : List Nat} (hN : ∀ x ∈ ch, x < N) (n : Nat) : BestO (InB N S tx w ch n) (bB N S tx w ch n) := bo_ok (bestB_ex h1 n n (Nat.le_refl _) ch hN)
theorem bB_zero (h1 : ∀ p, p < N → 1 ≤ (tx p).length) {ch : List Nat} (hN : ∀ x ∈ ch, x < N) : bB N S tx w ch 0 = some (0, []) :=
  bo_eq (o := some (0, [])) ⟨(inB_zero h1 hN).mpr rfl, fun y hy => by rw [(inB_zero h1 hN).mp hy]; exact ltW_irrefl _⟩
/-- the rows' least, from the rests' -/
noncomputable def fndB (N : Nat) (S : Nat → Nat → Bool) (tx : Nat → List Nat) (w : Int) (n : Nat) (l : List Nat) : List WT := l.filterMap fun p => (bB N S tx w (chs N S p) (n - (tx p).length)).map fun y => (w + y.1, tx p ++ y.2)
theorem bB_next (h1 : ∀ p, p < N → 1 ≤ (tx p).length) {ch : List Nat} (hN : ∀ x ∈ ch, x < N) {n : Nat} (hn : 0 < n) {r : Option WT} (hr : LeastO (fndB N S tx w n (ch.filter fun p => decide ((tx p).length ≤ n))) r) : bB N S tx w ch n = r :=
  bo_eq (bestB_next hn (o := fun p => bB N S tx w (chs N S p) (n - (tx p).length)) (fun p _ => bB_ok h1 (fun x hx => chs_lt hx) _) hr)
theorem bB_len {ch : List Nat} {n : Nat} {x : WT} (h1 : ∀ p, p < N → 1 ≤ (tx p).length) (hN : ∀ x ∈ ch, x < N) (h : bB N S tx w ch n = some x) : x.2.length = n := by
  have := bB_ok (S := S) (w := w) h1 hN n
  rw [h] at this
  obtain ⟨⟨r, _, hs, rfl⟩, _⟩ := this
  exact (txR_len r).trans hs
theorem fndB_snoc (n : Nat) (l : List Nat) (p : Nat) : fndB N S tx w n (l ++ [p]) = fndB N S tx w n l ++ (match bB N S tx w (chs N S p) (n - (tx p).length) with | none => [] | some y => [(w + y.1, tx p ++ y.2)]) := by
  unfold fndB
  rw [List.filterMap_append, List.filterMap_cons]
  cases bB N S tx w (chs N S p) (n - (tx p).length) <;> rfl
theorem fndB_len (n : Nat) (l : List Nat) : (fndB N S tx w n l).length ≤ l.length := List.length_filterMap_le _ _
/-- the least of rows that end in p -/
noncomputable def bF (N : Nat) (S : Nat → Nat → Bool) (tx : Nat → List Nat) (w : Int) (p n : Nat) : Option WT := bo (InF N S tx w p n)
theorem bestF_ex (h1 : ∀ p, p < N → 1 ≤ (tx p).length) : ∀ (b n : Nat), n ≤ b → ∀ p, p < N → ∃ o, BestO (InF N S tx w p n) o
  | b, n, hb, p, hp => by
    have hp1 := h1 p hp
    rcases Nat.lt_trichotomy n (tx p).length with c | c | c
    · exact ⟨none, bestF_less h1 hp c⟩
    · subst c; exact ⟨_, bestF_same h1 hp⟩
    · obtain ⟨r, hr⟩ := leastO_ex (((List.range N).filter fun q => S q p).filterMap fun q => (bo (InF N S tx w q (n - (tx p).length))).map fun y => (y.1 + w, y.2 ++ tx p))
      refine ⟨r, bestF_more h1 hp c (l := (List.range N).filter fun q => S q p) (o := fun q => bo (InF N S tx w q (n - (tx p).length))) (fun q hq => ?_) (fun q hq hs hn => ?_) (fun q hq => bo_ok ?_) hr⟩
      · rw [List.mem_filter, List.mem_range] at hq; exact hq
      · exact absurd (List.mem_filter.mpr ⟨List.mem_range.mpr hq, hs⟩) hn
      · rw [List.mem_filter, List.mem_range] at hq
        match b, hb with
        | 0, hb => omega
        | b + 1, hb => exact bestF_ex h1 b (n - (tx p).length) (by omega) q hq.1
theorem bF_ok (h1 : ∀ p, p < N → 1 ≤ (tx p).length) {p : Nat} (hp : p < N) (n : Nat) : BestO (InF N S tx w p n) (bF N S tx w p n) := bo_ok (bestF_ex h1 n n (Nat.le_refl _) p hp)
theorem bF_same (h1 : ∀ p, p < N → 1 ≤ (tx p).length) {p : Nat} (hp : p < N) : bF N S tx w p (tx p).length = some (w, tx p) := bo_eq (bestF_same h1 hp)
theorem bF_less (h1 : ∀ p, p < N → 1 ≤ (tx p).length) {p n : Nat} (hp : p < N) (h : n < (tx p).length) : bF N S tx w p n = none := bo_eq (bestF_less h1 hp h)
noncomputable def fndF (N : Nat) (S : Nat → Nat → Bool) (tx : Nat → List Nat) (w : Int) (n p : Nat) (l : List Nat) : List WT := l.filterMap fun q => if S q p = true then (bF N S tx w q (n - (tx p).length)).map fun y => (y.1 + w, y.2 ++ tx p) else none
theorem bF_more (h1 : ∀ p, p < N → 1 ≤ (tx p).length) {p n : Nat} (hp : p < N) (hn : (tx p).length < n) {l : List Nat} (hl : ∀ q ∈ l, q < N) (hl2 : ∀ q, q < N → q ∉ l → bF N S tx w q (n - (tx p).length) = none) {r : Option WT} (hr : LeastO (fndF N S tx w n p l) r) : bF N S tx w p n = r := by
  refine bo_eq (bestF_more h1 hp hn (l := l.filter fun q => S q p) (o := fun q => bF N S tx w q (n - (tx p).length)) (fun q hq => ?_) (fun q hq hs hnl => ?_) (fun q hq => bF_ok h1 (hl q (List.mem_filter.mp hq).1) _) ?_)
  · rw [List.mem_filter] at hq; exact ⟨hl q hq.1, hq.2⟩
  · have h2 := bF_ok (S := S) (tx := tx) (w := w) h1 hq (n - (tx p).length)
    rw [hl2 q hq fun z => hnl (List.mem_filter.mpr ⟨z, hs⟩)] at h2
    exact h2
  · rw [List.filterMap_filter]; exact hr
theorem fndF_snoc (n p : Nat) (l : List Nat) (q : Nat) : fndF N S tx w n p (l ++ [q]) = fndF N S tx w n p l ++ (if S q p = true then (match bF N S tx w q (n - (tx p).length) with | none => [] | some y => [(y.1 + w, y.2 ++ tx p)]) else []) := by
  unfold fndF
  rw [List.filterMap_append, List.filterMap_cons]
  cases S q p <;> cases bF N S tx w q (n - (tx p).length) <;> rfl
theorem bF_len {p n : Nat} {x : WT} (h1 : ∀ p, p < N → 1 ≤ (tx p).length) (hp : p < N) (h : bF N S tx w p n = some x) : x.2.length = n := by
  have := bF_ok (S := S) (w := w) h1 hp n
  rw [h] at this
  exact inF_len this.1
/-- all rows: the least of the last pieces' -/
theorem best_all (h1 : ∀ p, p < N → 1 ≤ (tx p).length) {n : Nat} (hn : 0 < n) {l : List Nat} (hl : ∀ q ∈ l, q < N) (hl2 : ∀ q, q < N → q ∉ l → bF N S tx w q n = none) {m : WT} (hr : LeastO (l.filterMap fun p => bF N S tx w p n) (some m)) : Best (InB N S tx w (List.range N) n) m := by
  have := BestO.union (l := l) (X := fun p x => InF N S tx w p n x) (o := fun p => bF N S tx w p n) (fun p hp => bF_ok h1 (hl p hp) n) hr
  refine BestO.congr (fun x => ?_) (o := some m) this
  rw [inB_inF hn]
  constructor
  · rintro ⟨p, hp, hx⟩; exact ⟨p, List.mem_range.mpr (hl p hp), hx⟩
  · rintro ⟨p, hp, hx⟩
    have hp' := List.mem_range.mp hp
    by_cases c : p ∈ l
    · exact ⟨p, c, hx⟩
    · have h2 := bF_ok (S := S) (tx := tx) (w := w) h1 hp' n
      rw [hl2 p hp' c] at h2
      exact absurd hx (h2 x)
end
end RJ
end

section
set_option maxRecDepth 100000
namespace RJ
open PySem PySem.Spec PyProof.Rows L2
def top (i : Nat) : Stmt := PySem.Challenge.pw_rankedjoins_k34_fewest_and_most.main.body.getD i (.Pass ⟨0, 0, 0, 0⟩)
/-- what the top leaves of the built-in names and of the module's constants -/
structure Txt (K : PySem.W.Frag) (mg : Str → Option Value) : Prop where
  b_isinstance : mg "isinstance" = none
  b_len : mg "len" = none
  b_min : mg "min" = none
  b_all : mg "all" = none
  b_abs : mg "abs" = none
  b_int : mg "int" = none
  b_bool : mg "bool" = none
  b_str : mg "str" = none
  b_tuple : mg "tuple" = none
  b_list : mg "list" = none
  b_zip : mg "zip" = none
  b_enumerate : mg "enumerate" = none
  b_range : mg "range" = none
  b_sorted : mg "sorted" = none
  b_max : mg "max" = none
  b_dict : mg "dict" = none
  b_iter : mg "iter" = none
  c_MOST_LETTERS : ∃ u, mg "MOST_LETTERS" = some u ∧ RelV (.int 30) u
  c_MOST_SIGNS_OF_PIECE : ∃ u, mg "MOST_SIGNS_OF_PIECE" = some u ∧ RelV (.int 40) u
theorem hu64_of {A : Around} {k : Nat} (hr : Room k A) : A.units + 64 < cLine := hr.units
/-! ### heaps -/
theorem Same.new {H H' : Hp} {p : Addr} {o : HO} (s : Same H H') (h : H' p = none) : Same H (upd H' p o) := fun b u e => by
  have := s b u e
  rw [upd_ne (ne_of_none this h)]; exact this
theorem Same.put {H H' : Hp} {p : Addr} {o : HO} (s : Same H H') (h : H p = none) : Same H (upd H' p o) := fun b u e => by
  rw [upd_ne (ne_of_none e h)]; exact s b u e
theorem same_new {H : Hp} {p : Addr} {o : HO} (h : H p = none) : Same H (upd H p o) := Same.new (Same.refl H) h
/-! ### values -/
/-- a row of pieces -/
def iv (l : List Nat) : List V := l.map fun (n : Nat) => V.int (n : Int)
theorem iv_len (l : List Nat) : (iv l).length = l.length := by rw [iv, List.length_map]
theorem iv_get {l : List Nat} {i : Nat} {v : V} (h : (iv l)[i]? = some v) : ∃ n : Nat, l[i]? = some n ∧ v = V.int (n : Int) := by
  rw [iv, List.getElem?_map] at h
  cases e : l[i]? with
  | none => rw [e] at h; cases h
  | some n => rw [e] at h; exact ⟨n, rfl, (Option.some.inj h).symm⟩
theorem iv_at {l : List Nat} {i n : Nat} (h : l[i]? = some n) : (iv l)[i]? = some (V.int (n : Int)) := by
  rw [iv, List.getElem?_map, h]; rfl
theorem iv_snoc (l : List Nat) (n : Nat) : iv l ++ [V.int (n : Int)] = iv (l ++ [n]) := by rw [iv, iv, List.map_append]; rfl
/-- a list or a tuple at p -/
def SeqAt (b : Bool) (H : Hp) (p : Addr) (xs : List V) : Prop := H p = some (match b with | true => .lst xs | false => .tup xs)
theorem SeqAt.same {b : Bool} {H H' : Hp} {p : Addr} {xs : List V} (h : SeqAt b H p xs) (s : Same H H') : SeqAt b H' p xs := s _ _ h
/-- a row at p: a list or a tuple -/
abbrev RowAt (b : Bool) (H : Hp) (p : Addr) (l : List Nat) : Prop := SeqAt b H p (iv l)
abbrev S (l : List Nat) : Str := SX.S l
theorem S_len (l : List Nat) : (S l).length = l.length := SX.S_len l
end RJ
end

section
set_option maxRecDepth 100000
set_option maxHeartbeats 2000000
namespace RJ
open PySem PySem.Spec PyProof.Rows L2
abbrev s_is_integer : Stmt := top 22
abbrev N_is_integer : List Str := ["value"]
theorem sc_is_integer : FnScope N_is_integer ["value"] (C8.fnScope s_is_integer) := C8.fnScope_by (by decide +kernel)
abbrev s_is_number_below : Stmt := top 23
abbrev N_is_number_below : List Str := ["value", "end"]
theorem sc_is_number_below : FnScope N_is_number_below ["value", "end"] (C8.fnScope s_is_number_below) := C8.fnScope_by (by decide +kernel)
abbrev s_is_sign : Stmt := top 24
abbrev N_is_sign : List Str := ["sign"]
theorem sc_is_sign : FnScope N_is_sign ["sign"] (C8.fnScope s_is_sign) := C8.fnScope_by (by decide +kernel)
abbrev s_is_alphabet : Stmt := top 25
abbrev N_is_alphabet : List Str := ["text", "ascending", "first", "second", "sign"]
theorem sc_is_alphabet : FnScope N_is_alphabet ["text"] (C8.fnScope s_is_alphabet) := C8.fnScope_by (by decide +kernel)
/-- is the value an integer that is no bool -/
def isIntV : V → Bool
  | .int _ => true
  | _ => false
/-- values whose kind isinstance knows -/
inductive Kind (H : Hp) : V → Prop
  | int (i : Int) : Kind H (.int i)
  | bl (b : Bool) : Kind H (.bl b)
  | non : Kind H .non
  | str (x : Str) : Kind H (.str x)
  | lst {a : Addr} {xs : List V} (e : H a = some (.lst xs)) : Kind H (.ref a)
  | tup {a : Addr} {xs : List V} (e : H a = some (.tup xs)) : Kind H (.ref a)
theorem Kind.isi {K : PySem.W.Frag} {H : Hp} {x : V} (k : Kind H x) : ∃ t, TyX K H x t ∧ ∃ b, PySem.W.kitOne K t (.type "bool") = some b ∧ ∃ c, PySem.W.kitOne K t (.type "int") = some c ∧ (c && !b) = isIntV x := by
  cases k with
  | int i => exact ⟨_, .base (.int i), false, kit_ty (by decide +kernel), true, kit_ty (by decide +kernel), rfl⟩
  | bl b => exact ⟨_, .base (.bl b), true, kit_ty (by decide +kernel), true, kit_ty (by decide +kernel), rfl⟩
  | non => exact ⟨_, .base .non, false, kit_ty (by decide +kernel), false, kit_ty (by decide +kernel), rfl⟩
  | str x => exact ⟨_, .base (.str x), false, kit_ty (by decide +kernel), false, kit_ty (by decide +kernel), rfl⟩
  | lst e => exact ⟨_, .base (.lst e), false, kit_ty (by decide +kernel), false, kit_ty (by decide +kernel), rfl⟩
  | tup e => exact ⟨_, .base (.tup e), false, kit_ty (by decide +kernel), false, kit_ty (by decide +kernel), rfl⟩
def numBelow (x : V) (n : Int) : Bool := match x with
  | .int i => decide (0 ≤ i) && decide (i < n)
  | _ => false
def sp_is_integer : Sp := fun vs H Q _ => ∃ x, vs = [x] ∧ Kind H x ∧ Q (.bl (isIntV x)) H
def sp_is_number_below : Sp := fun vs H Q _ => ∃ x n, vs = [x, .int n] ∧ Kind H x ∧ Q (.bl (numBelow x n)) H
def sp_is_sign : Sp := fun vs H Q _ => ∃ c, vs = [.str (S [c])] ∧ Q (.bl (decide (32 ≤ c ∧ c ≤ 126))) H
section
variable {P : Program} {w : World} {K : PySem.W.Frag} {mg : Str → Option Value} {base : Heap}
theorem ok_is_integer {f : Addr} {fd : FuncData} (F : C8.Fun K "is_integer" "is_integer" s_is_integer f fd) (T : Txt K mg) : FnOk P w K mg base C8.CX0 1 f fd ["value"] sp_is_integer := by
  refine C8.fn0 F sc_is_integer (fun vs H Q E h => ?_) (fun cdv A outer s H vs Q E hr h => ?_)
  · obtain ⟨x, rfl, _⟩ := h; rfl
  · obtain ⟨x, rfl, k, q⟩ := h
    refine ⟨_, (pss_one (ps_ret (pe_and (pe_callB call_isi (by rfl) T.b_isinstance (by decide +kernel) (pa_cons (pv 0) (pa_cons (pe_bltn (v := .ty "int") (u := .type "int") rfl T.b_int (by decide +kernel) rfl) pa_nil))) (pe_one (pe_not (pe_callB call_isi (by rfl) T.b_isinstance (by decide +kernel) (pa_cons (pv 0) (pa_cons (pe_bltn (v := .ty "bool") (u := .type "bool") rfl T.b_bool (by decide +kernel) rfl) pa_nil)))))))), ?_⟩
    obtain ⟨t, ty, b, hb, c, hc, e⟩ := k.isi (K := K)
    refine ⟨_, rfl, x, .ty "int", t, .type "int", c, rfl, .ty _, ty, hc, c, rfl, ?_⟩
    cases c with
    | false => 
      have e' : false = isIntV x := e
      refine iteF ?_
      rw [e']; exact q
    | true =>
      refine iteT ⟨_, rfl, x, .ty "bool", t, .type "bool", b, rfl, .ty _, ty, hb, b, rfl, ?_⟩
      have e' : (!b) = isIntV x := by rw [← e]; simp
      show Q (.bl (!b)) H
      rw [e']; exact q
end
end RJ
end

section
set_option maxRecDepth 100000
set_option maxHeartbeats 2000000
namespace RJ
open PySem PySem.Spec PyProof.Rows L2
theorem walkG {n : Nat} {G : Hp → Prop} {PX : Nat → List V → Prop} : Walk (ItG n G PX) n G (fun i H v H' => ∃ T xs, v = .ref T ∧ H T = none ∧ H' = upd H T (.tup xs) ∧ PX i xs) :=
  ⟨fun _ _ hi h => ⟨h, hi⟩, fun _ h => ⟨h, Nat.le_refl _⟩, fun _ _ _ _ _ _ y => y⟩
theorem cutS_from (l : List Nat) (k : Nat) : cutS (S l) (some (k : Int)) none = S (l.drop k) := by
  show (⟨(((S l).cps.toList.drop (HT.sIx (S l).length 0 (some (k : Int)))).take (HT.sIx (S l).length (S l).length none - HT.sIx (S l).length 0 (some (k : Int)))).toArray⟩ : Str) = ⟨(l.drop k).toArray⟩
  rw [HT.sIx_nat, HT.sIx_none, S_len]
  have e : (l.drop (min k l.length)).take (l.length - min k l.length) = l.drop k := by
    by_cases h : k ≤ l.length
    · rw [Nat.min_eq_left h, List.take_of_length_le (by rw [List.length_drop]; omega)]
    · rw [Nat.min_eq_right (by omega), List.drop_eq_nil_of_le (by omega : l.length ≤ k), List.drop_length, List.take_nil]
  exact congrArg (fun z : List Nat => (⟨z.toArray⟩ : Str)) e
theorem S_get (l : List Nat) (i : Nat) : (S l).cps[i]? = l[i]? := by
  show l.toArray[i]? = l[i]?
  rw [List.getElem?_toArray]
theorem S_size (l : List Nat) : (S l).cps.size = l.length := List.size_toArray
theorem str1 (c : Nat) : (⟨#[c]⟩ : Str) = S [c] := rfl
/-- the source that a text is -/
theorem src_text (H : Hp) (l : List Nat) : SrcV H (.str (S l)) l.length (fun _ => True) (fun i v => ∃ c, (S l).cps[i]? = some c ∧ v = .str ⟨#[c]⟩) :=
  .inl ⟨S l, rfl, (S_size l).symm, rfl, rfl⟩
abbrev s_check_alphabet : Stmt := top 26
abbrev N_check_alphabet : List Str := ["text"]
theorem sc_check_alphabet : FnScope N_check_alphabet ["text"] (C8.fnScope s_check_alphabet) := C8.fnScope_by (by decide +kernel)
/-- neighbors ascend -/
def ascL (l : List Nat) : List Bool := (l.zip (l.drop 1)).map fun p => decide (p.1 < p.2)
def alOk (l : List Nat) : Bool := decide (1 ≤ l.length ∧ l.length ≤ 30) && ((ascL l).all id && (l.map fun c => decide (32 ≤ c ∧ c ≤ 126)).all id)
def sp_is_alphabet : Sp := fun vs H Q _ => ∃ l : List Nat, vs = [.str (S l)] ∧ l.length ≤ 1000 ∧ ∀ H', Same H H' → Q (.bl (alOk l)) H'
def sp_check_alphabet : Sp := fun vs H Q _ => ∃ l : List Nat, vs = [.str (S l)] ∧ l.length ≤ 1000 ∧ alOk l = true ∧ ∀ H', Same H H' → Q .non H'
theorem small_le {n : Nat} (h : n ≤ 1000) : n ≤ sizeLine := Nat.le_of_lt (small1000 h)
theorem map_take_succ {α β : Type} {f : α → β} {l : List α} {i : Nat} {x : α} (h : l[i]? = some x) : (l.take (i + 1)).map f = (l.take i).map f ++ [f x] := by
  rw [List.take_add_one, h, List.map_append]; rfl
theorem lt_cps (a b : Nat) : decide ((S [a]).cps.toList < (S [b]).cps.toList) = decide (a < b) := by
  apply decide_eq_decide.mpr
  show ([a] < [b]) ↔ a < b
  rw [List.cons_lt_cons_iff]
  constructor
  · rintro (h | ⟨_, h⟩)
    · exact h
    · exact absurd h (by simp)
  · exact .inl
section
variable {P : Program} {w : World} {K : PySem.W.Frag} {mg : Str → Option Value} {base : Heap}
theorem ok_is_number_below {f : Addr} {fd : FuncData} (F : C8.Fun K "is_number_below" "is_number_below" s_is_number_below f fd) (T : Txt K mg) (c_is_integer : C8.Cal P w K mg base 1 "is_integer" sp_is_integer []) : FnOk P w K mg base C8.CX0 2 f fd ["value", "end"] sp_is_number_below := by
  refine C8.fn0 F sc_is_number_below (fun vs H Q E h => ?_) (fun cdv A outer s H vs Q E hr h => ?_)
  · obtain ⟨x, n, rfl, _⟩ := h; rfl
  · obtain ⟨x, n, rfl, k, q⟩ := h
    refine ⟨_, (pss_one (ps_ret (pe_and (C8.pe_c c_is_integer hr (by first | decide | omega) (by rfl) (pa_cons (pv 0) pa_nil)) (pe_one (pe_chain op_le op_lt pe_int (pv 0) (pv 1)))))), ?_⟩
    refine ⟨_, rfl, x, rfl, k, _, rfl, ?_⟩
    cases k with
    | int i =>
      refine iteT ⟨_, rfl, _, _, rfl, rfl, _, rfl, ?_⟩
      have q' : Q (.bl (decide (0 ≤ i) && decide (i < n))) H := q
      by_cases c : 0 ≤ i
      · rw [decide_eq_true c] at q' ⊢
        exact iteT ⟨_, rfl, _, _, rfl, rfl, q'⟩
      · rw [decide_eq_false c] at q' ⊢
        exact iteF q'
    | bl b => exact iteF q
    | non => exact iteF q
    | str x => exact iteF q
    | lst e => exact iteF q
    | tup e => exact iteF q
theorem ok_is_sign {f : Addr} {fd : FuncData} (F : C8.Fun K "is_sign" "is_sign" s_is_sign f fd) (T : Txt K mg) : FnOk P w K mg base C8.CX0 1 f fd ["sign"] sp_is_sign := by
  refine C8.fn0 F sc_is_sign (fun vs H Q E h => ?_) (fun cdv A outer s H vs Q E hr h => ?_)
  · obtain ⟨c, rfl, _⟩ := h; rfl
  · obtain ⟨c, rfl, q⟩ := h
    refine ⟨_, (pss_one (ps_ret (pe_chain op_le_str op_le_str pe_str (pv 0) pe_str))), ?_⟩
    refine ⟨_, rfl, S [32], S [c], rfl, rfl, _, rfl, ?_⟩
    rw [lt_cps]
    by_cases h1 : c < 32
    · rw [decide_eq_true h1]
      refine iteF ?_
      rw [decide_eq_false (by omega)] at q; exact q
    · rw [decide_eq_false h1]
      refine iteT ⟨S [c], S [126], rfl, rfl, ?_⟩
      rw [lt_cps]
      have e : (!decide (126 < c)) = decide (32 ≤ c ∧ c ≤ 126) := by
        by_cases h2 : 126 < c
        · rw [decide_eq_true h2, decide_eq_false (by omega)]; rfl
        · rw [decide_eq_false h2, decide_eq_true (by omega)]; rfl
      rw [e]; exact q
theorem ok_is_alphabet {f : Addr} {fd : FuncData} (F : C8.Fun K "is_alphabet" "is_alphabet" s_is_alphabet f fd) (T : Txt K mg) (c_is_sign : C8.Cal P w K mg base 1 "is_sign" sp_is_sign []) : FnOk P w K mg base C8.CX0 2 f fd ["text"] sp_is_alphabet := by
  refine C8.fn0 F sc_is_alphabet (fun vs H Q E h => ?_) (fun cdv A outer s H vs Q E hr h => ?_)
  · obtain ⟨l, rfl, _⟩ := h; rfl
  · obtain ⟨l, rfl, hl, q⟩ := h
    refine ⟨_, (pss_cons (ps_set (i := 1) sc_is_alphabet.nd rfl (Or.inl rfl) (pe_callB (cr_all rfl) (by rfl) T.b_all (by decide +kernel) (pa_cons (pe_lc (own := [("first", 2), ("second", 3)]) (g := gTup K 2 (gCons (gName 2) (gCons (gName 3) (gNil)))) (tt := tYes) rfl sc_is_alphabet.nd (pi_zipT2 rfl T.b_zip (pa_cons (pv 0) (pa_cons (pe_slice sl_str (pv 0) (po_some pe_int) po_none) pa_nil))) (blkOk_by (N := N_is_alphabet) (sc := C8.fnScope s_is_alphabet) (by decide +kernel)) (fun _ _ _ _ _ => (pg_tup rfl (pgs_cons (pg_name (i := 2) sc_is_alphabet.nd rfl (Or.inl rfl)) (pgs_cons (pg_name (i := 3) sc_is_alphabet.nd rfl (Or.inl rfl)) pgs_nil)))) (fun _ _ _ _ _ => pts_nil) (fun _ _ _ _ _ => (pe_cmpR op_lt_str (pv 2) (pv 3) (nomark _)))) pa_nil)))
      (pss_one (ps_ret (pe_and (pe_chain op_le op_le pe_int (pe_callB call_len_str (by rfl) T.b_len PySem.boot_len (pa_cons (pv 0) pa_nil)) (C8.pe_gc rfl T.c_MOST_LETTERS)) (pe_and (pv 1) (pe_one (pe_callB (cr_all rfl) (by rfl) T.b_all (by decide +kernel) (pa_cons (pe_lc (own := [("sign", 4)]) (g := gName 4) (tt := tYes) rfl sc_is_alphabet.nd (pi_str (pv 0)) (blkOk_by (N := N_is_alphabet) (sc := C8.fnScope s_is_alphabet) (by decide +kernel)) (fun _ _ _ _ _ => (pg_name (i := 4) sc_is_alphabet.nd rfl (Or.inl rfl))) (fun _ _ _ _ _ => pts_nil) (fun _ _ _ _ _ => (C8.pe_c c_is_sign hr (by first | decide | omega) (by rfl) (pa_cons (pv 4) pa_nil)))) pa_nil)))))))), ?_⟩
    refine ⟨_, rfl, _, rfl, 1, rfl, S l, rfl, by rw [S_len]; exact small_le hl, ?_⟩
    have e1 : cutS (S l) (some 1) none = S (l.drop 1) := cutS_from l 1
    rw [e1]
    refine ⟨_, _, _, _, _, _, _, _, rfl, src_text H l, src_text H (l.drop 1), fun D hD => lc_it walkG (fun i H' => Same H H' ∧ H' D = some (.lst (((ascL l).take i).map V.bl))) ⟨same_new hD, upd_same⟩ (fun _ _ _ _ => ⟨trivial, trivial⟩) ?_ ?_⟩
    · rintro i x H1 H2 hi ⟨s1, hd⟩ ⟨Tt, xs, rfl, hT, rfl, v1, v2, ⟨c1, h1, rfl⟩, ⟨c2, h2, rfl⟩, rfl⟩
      refine ⟨Tt, _, rfl, SqT.of upd_same, rfl, _, _, rfl, _, _, rfl, rfl, rfl, _, rfl, _, rfl, S [c1], S [c2], rfl, rfl, ?_⟩
      rw [S_get] at h1 h2
      have hz : (l.zip (l.drop 1))[i]? = some (c1, c2) := by
        rw [List.getElem?_zip_eq_some]; exact ⟨h1, h2⟩
      have hb : (ascL l)[i]? = some (decide (c1 < c2)) := by rw [ascL, List.getElem?_map, hz]; rfl
      have hne : D ≠ Tt := ne_of_none hd hT
      refine ⟨_, (upd_ne hne).trans hd, ?_, ?_, ?_⟩
      · rw [List.length_map, List.length_take]
        exact small1000 (by have := List.length_drop (i := 1) (l := l); omega)
      · exact Same.put (Same.new s1 hT) hD
      · rw [upd_same, lt_cps, map_take_succ hb]
    · rintro H1 ⟨s1, hd⟩
      have hn : min l.length (l.drop 1).length = (ascL l).length := by rw [ascL, List.length_map, List.length_zip]
      rw [hn, List.take_length] at hd
      refine ⟨D, _, rfl, SqL.of hd, ?_⟩
      have q2 := q
      refine ⟨_, rfl, S l, rfl, by rw [S_len]; exact small_le hl, 1, _, rfl, rfl, _, rfl, ?_⟩
      rw [S_len]
      by_cases c1 : 1 ≤ l.length ∧ l.length ≤ 30
      · rw [decide_eq_true (by omega : (1 : Int) ≤ (l.length : Int))]
        refine iteT ⟨_, _, rfl, rfl, _, rfl, ?_⟩
        rw [decide_eq_true (by omega : (l.length : Int) ≤ 30)]
        refine iteT ⟨_, rfl, _, rfl, ?_⟩
        have q3 : ∀ H', Same H H' → Q (.bl ((ascL l).all id && (l.map fun c => decide (32 ≤ c ∧ c ≤ 126)).all id)) H' := fun H' sm => by
          have := q H' sm
          rw [alOk, decide_eq_true c1] at this
          exact this
        cases hb : (ascL l).all id with
        | false =>
          rw [hb] at q3
          exact iteF (q3 _ s1)
        | true =>
          rw [hb] at q3
          refine iteT ?_
          refine ⟨_, rfl, S l, rfl, fun D2 hD2 => lc_it walk_str (fun i H' => Same H H' ∧ H' D2 = some (.lst (((l.map fun c => decide (32 ≤ c ∧ c ≤ 126)).take i).map V.bl))) ⟨Same.new s1 hD2, upd_same⟩ (fun _ _ _ _ => trivial) ?_ ?_⟩
          · rintro i x H2 H3 hi ⟨s2, hd2⟩ ⟨rfl, c, hc, rfl⟩
            rw [S_get] at hc
            refine ⟨rfl, _, rfl, c, rfl, ?_⟩
            have hb2 : (l.map fun c => decide (32 ≤ c ∧ c ≤ 126))[i]? = some (decide (32 ≤ c ∧ c ≤ 126)) := by rw [List.getElem?_map, hc]; rfl
            refine ⟨_, hd2, ?_, Same.put s2 (s1.free hD2), ?_⟩
            · rw [List.length_map, List.length_take, List.length_map]
              exact small1000 (by omega)
            · rw [upd_same, map_take_succ hb2]
          · rintro H2 ⟨s2, hd2⟩
            have hn2 : (S l).cps.size = (l.map fun c => decide (32 ≤ c ∧ c ≤ 126)).length := by rw [S_size, List.length_map]
            rw [hn2, List.take_length] at hd2
            exact ⟨D2, _, rfl, SqL.of hd2, q3 H2 s2⟩
      · have q3 : ∀ H', Same H H' → Q (.bl false) H' := fun H' sm => by
          have := q H' sm
          rw [alOk, decide_eq_false c1] at this
          exact this
        by_cases c2 : 1 ≤ l.length
        · rw [decide_eq_true (by omega : (1 : Int) ≤ (l.length : Int))]
          refine iteT ⟨_, _, rfl, rfl, _, rfl, ?_⟩
          rw [decide_eq_false (by omega : ¬ (l.length : Int) ≤ 30)]
          exact iteF (q3 _ s1)
        · rw [decide_eq_false (by omega : ¬ (1 : Int) ≤ (l.length : Int))]
          exact iteF ⟨_, rfl, iteF (q3 _ s1)⟩
theorem ok_check_alphabet {f : Addr} {fd : FuncData} (F : C8.Fun K "check_alphabet" "check_alphabet" s_check_alphabet f fd) (T : Txt K mg) (c_is_alphabet : C8.Cal P w K mg base 2 "is_alphabet" sp_is_alphabet []) : FnOk P w K mg base C8.CX0 3 f fd ["text"] sp_check_alphabet := by
  refine C8.fn0 F sc_check_alphabet (fun vs H Q E h => ?_) (fun cdv A outer s H vs Q E hr h => ?_)
  · obtain ⟨l, rfl, _⟩ := h; rfl
  · obtain ⟨l, rfl, hl, hok, q⟩ := h
    refine ⟨_, (pss_one (ps_if (pt_not (pt_val (C8.pe_c c_is_alphabet hr (by first | decide | omega) (by rfl) (pa_cons (pv 0) pa_nil)))) (pss_one ps_never) pss_nil)), ?_⟩
    refine ⟨_, rfl, l, rfl, hl, fun H' s1 => ⟨_, rfl, ?_⟩⟩
    rw [hok]
    exact iteF (q H' s1)
end
end RJ
end

section
set_option maxRecDepth 100000
set_option maxHeartbeats 2000000
namespace RJ
open PySem PySem.Spec PyProof.Rows L2
abbrev s_letter_row : Stmt := top 29
abbrev N_letter_row : List Str := ["alphabet", "text", "row", "at", "sign", "piece"]
theorem sc_letter_row : FnScope N_letter_row ["alphabet", "text"] (C8.fnScope s_letter_row) := C8.fnScope_by (by decide +kernel)
abbrev s_join_neighbors : Stmt := top 30
abbrev N_join_neighbors : List Str := ["row", "pair", "piece", "left", "right", "joined", "following"]
theorem sc_join_neighbors : FnScope N_join_neighbors ["row", "pair", "piece"] (C8.fnScope s_join_neighbors) := C8.fnScope_by (by decide +kernel)
abbrev s_lowest_join : Stmt := top 31
abbrev N_lowest_join : List Str := ["ranks", "row", "pair"]
theorem sc_lowest_join : FnScope N_lowest_join ["ranks", "row"] (C8.fnScope s_lowest_join) := C8.fnScope_by (by decide +kernel)
abbrev s_join_down : Stmt := top 32
abbrev N_join_down : List Str := ["ranks", "letters", "row", "lowest", "rank", "pair"]
theorem sc_join_down : FnScope N_join_down ["ranks", "letters", "row"] (C8.fnScope s_join_down) := C8.fnScope_by (by decide +kernel)
/-- a list or a tuple walked -/
def ItSeq (K : PySem.W.Frag) (b : Bool) (a : Addr) : It := match b with | true => Itl K a | false => Itt K a
def iSeq (K : PySem.W.Frag) (tl : TE) : TI := fun σ H R => tl σ H fun x H1 => ∃ b a xs, x = .ref a ∧ SeqAt b H1 a xs ∧ R (ItSeq K b a) H1
theorem walk_seq {K : PySem.W.Frag} {b : Bool} {a : Addr} {xs : List V} : Walk (ItSeq K b a) xs.length (fun H => SeqAt b H a xs) (YAt xs) := by
  cases b with
  | true => exact walk_list.mono (fun H h => SqL.of h) fun _ _ _ _ _ _ y => y
  | false => exact walk_tup.mono (fun H h => SqT.of h) fun _ _ _ _ _ _ y => y
theorem pi_seq {X : Cx} {tg l : Expr} {tl : TE} (hl : PE X l tl) : PI X tg l (iSeq X.K tl) := by
  refine ⟨fun pins s σ H R I h => ?_⟩
  refine thn (hl.run pins s σ H _ I h) fun v s1 ⟨x, H1, I1, r1, q1⟩ => ?_
  obtain ⟨b, a, xs, e, hq, q⟩ := q1
  subst e
  cases r1
  cases b with
  | true =>
    obtain ⟨its, rv, p, hz⟩ := I1.list (SqL.of hq)
    refine wpAny_pyIter_list p.isList ?_
    refine ⟨s1.heap.objs.size, [s1.heap.objs.size], _, _, H1, rfl, I1.kept (t' := s1.toks) fun b o e => Heap.get?_push_of_some _ e, turn_list a _, ⟨_, Heap.get?_push_size _ rfl, rfl, rfl⟩, fun b hb => ?_, q⟩
    have e : b = s1.heap.objs.size := by simpa using hb
    subst e
    exact I1.fpOk (Nat.le_refl _) (I1.hok.fresh (Nat.le_refl _))
  | false =>
    obtain ⟨its, rv, p, hz⟩ := I1.tuple (SqT.of hq)
    refine wpAny_pyIter_tuple (show s1.heap.IsTuple a its.toArray from p) ?_
    refine ⟨s1.heap.objs.size, [s1.heap.objs.size], _, _, H1, rfl, I1.kept (t' := s1.toks) fun b o e => Heap.get?_push_of_some _ e, turn_tuple a _, ⟨_, Heap.get?_push_size _ rfl, rfl, rfl⟩, fun b hb => ?_, q⟩
    have e : b = s1.heap.objs.size := by simpa using hb
    subst e
    exact I1.fpOk (Nat.le_refl _) (I1.hok.fresh (Nat.le_refl _))
/-- a slice of a list or a tuple -/
def rSlSeq (K : PySem.W.Frag) : V → Option Int → Option Int → Hp → VK → Prop := fun x lo hi H Q => rSlL K x lo hi H Q ∨ rSlA K x lo hi H Q
theorem sl_seq {X : Cx} : SlR X (rSlSeq X.K) := SlR.or sl_list sl_tupA
/-! ### signs and their places -/
theorem at_one (al : List Nat) (c i : Nat) : PySem.StrLaws.At (S al) ⟨#[c]⟩ (S al).length i ↔ al[i]? = some c := by
  have h := PySem.StrLaws.subAt_one (S al) c i
  exact h
theorem find_sign {al : List Nat} {c : Nat} (h : c ∈ al) : ∃ r, Builtin.Str.occurrences (S al) ⟨#[c]⟩ 0 (S al).length 1 = al.idxOf c :: r := by
  rcases PySem.StrLaws.occ_head (S al) ⟨#[c]⟩ 1 (Nat.le_refl _) with ⟨_, hn⟩ | ⟨i, r, e, hi, hn⟩
  · obtain ⟨i, hi⟩ := List.mem_iff_getElem?.mp h
    exact absurd ((at_one al c i).mpr hi) (hn i)
  · refine ⟨r, ?_⟩
    rw [e]
    have hi' := (at_one al c i).mp hi
    obtain ⟨hil, hie⟩ := List.getElem?_eq_some_iff.mp hi'
    have key : al.idxOf c = i := by
      have h1 : al.idxOf c < al.length := List.idxOf_lt_length_iff.mpr h
      have h2 : al[al.idxOf c] = c := List.getElem_idxOf h1
      rcases Nat.lt_trichotomy (al.idxOf c) i with q | q | q
      · exact absurd ((at_one al c _).mpr (by rw [List.getElem?_eq_getElem h1, h2])) (hn _ q)
      · exact q
      · exact absurd hie (by
          have := List.not_of_lt_findIdx (p := (· == c)) (xs := al) (i := i) (by exact q)
          intro z
          simp [z] at this)
    rw [key]
def sp_letter_row : Sp := fun vs H Q _ => ∃ al t : List Nat, vs = [.str (S al), .str (S t)] ∧ (∀ c ∈ t, c ∈ al) ∧ t.length ≤ 1000 ∧ ∀ H' p, Same H H' → H p = none → H' p = some (.lst (iv (lets al t))) → Q (.ref p) H'
def sp_join_neighbors : Sp := fun vs H Q _ => ∃ (b : Bool) (a p : Addr) (row : List Nat) (l r m : Nat), vs = [.ref a, .ref p, .int (m : Int)] ∧ RowAt b H a row ∧ H p = some (.tup [.int (l : Int), .int (r : Int)]) ∧ m ≠ l ∧ row.length ≤ 1000 ∧
  ∀ H' q, Same H H' → H q = none → H' q = some (.lst (iv (pass l r m row))) → Q (.ref q) H'
/-- the pass as the program does it -/
def stepJ (l r m : Nat) (acc : List Nat) (x : Nat) : List Nat := if acc.getLast? = some l ∧ x = r then acc.dropLast ++ [m] else acc ++ [x]
theorem pass_m {l r m : Nat} (hm : m ≠ l) (t : List Nat) : pass l r m (m :: t) = m :: pass l r m t := by
  cases t with
  | nil => rfl
  | cons c t => rw [pass, if_neg fun q => hm q.1]
theorem stepJ_pass {l r m : Nat} (hm : m ≠ l) : ∀ (t : List Nat) (acc : List Nat) (a : Nat), t.foldl (stepJ l r m) (acc ++ [a]) = acc ++ pass l r m (a :: t)
  | [], acc, a => rfl
  | b :: t, acc, a => by
    rw [List.foldl_cons, pass]
    have hl : (acc ++ [a]).getLast? = some a := by rw [List.getLast?_append]; rfl
    by_cases c : a = l ∧ b = r
    · rw [if_pos c, stepJ, if_pos ⟨by rw [hl, c.1], c.2⟩, List.dropLast_concat, stepJ_pass hm t acc m, pass_m hm]
    · rw [if_neg c, stepJ, if_neg fun q => c ⟨Option.some.inj (hl.symm.trans q.1), q.2⟩, stepJ_pass hm t (acc ++ [a]) b, List.append_assoc]; rfl
theorem stepJ_all {l r m : Nat} (hm : m ≠ l) (row : List Nat) : row.foldl (stepJ l r m) [] = pass l r m row := by
  cases row with
  | nil => rfl
  | cons a t => exact stepJ_pass hm t [] a
theorem foldl_take_succ {α β : Type} {f : β → α → β} {l : List α} {i : Nat} {x : α} (h : l[i]? = some x) (b : β) : (l.take (i + 1)).foldl f b = f ((l.take i).foldl f b) x := by
  rw [List.take_add_one, h, List.foldl_append]; rfl
theorem stepJ_len (l r m : Nat) (acc : List Nat) (x : Nat) : (stepJ l r m acc x).length ≤ acc.length + 1 := by
  unfold stepJ
  split
  · rw [List.length_append, List.length_dropLast]; simp only [List.length_cons, List.length_nil]; omega
  · rw [List.length_append]; exact Nat.le_refl _
theorem foldJ_len (l r m : Nat) : ∀ (row acc : List Nat), (row.foldl (stepJ l r m) acc).length ≤ acc.length + row.length
  | [], acc => Nat.le_refl _
  | x :: row, acc => by
    rw [List.foldl_cons]
    have h1 := foldJ_len l r m row (stepJ l r m acc x)
    have h2 := stepJ_len l r m acc x
    rw [List.length_cons]; omega
theorem atI_neg1 {xs : List V} {v : V} (h : xs.getLast? = some v) : atI xs (-1) = some v := by
  obtain ⟨ys, rfl⟩ := List.getLast?_eq_some_iff.mp h
  exact atI_last ys v
theorem iv_last {l : List Nat} {n : Nat} (h : l.getLast? = some n) : (iv l).getLast? = some (V.int (n : Int)) := by
  obtain ⟨ys, rfl⟩ := List.getLast?_eq_some_iff.mp h
  rw [← iv_snoc, List.getLast?_append]; rfl
theorem ixN_neg1 {n : Nat} (h : 0 < n) : ixN n (-1) = some (n - 1) := by
  unfold ixN
  rw [if_neg (by omega), if_pos (by omega)]
  exact congrArg some (by omega)
theorem iv_set_last {l : List Nat} (m : Nat) (h : l ≠ []) : (iv l).set (l.length - 1) (V.int (m : Int)) = iv (l.dropLast ++ [m]) := by
  obtain ⟨ys, y, rfl⟩ : ∃ ys y, l = ys ++ [y] := ⟨l.dropLast, l.getLast h, (List.dropLast_concat_getLast h).symm⟩
  rw [List.dropLast_concat, ← iv_snoc, ← iv_snoc]
  have e : (ys ++ [y]).length - 1 = (iv ys).length := by rw [iv_len, List.length_append]; simp
  rw [e, List.set_append_right _ _ (Nat.le_refl _), Nat.sub_self]; rfl
theorem nat_eq_int (a b : Nat) : decide ((V.int (a : Int)) = V.int (b : Int)) = decide (a = b) := by
  apply decide_eq_decide.mpr
  constructor
  · intro h; injection h with h; omega
  · intro h; rw [h]
section
variable {P : Program} {w : World} {K : PySem.W.Frag} {mg : Str → Option Value} {base : Heap}
theorem ok_letter_row {f : Addr} {fd : FuncData} (F : C8.Fun K "letter_row" "letter_row" s_letter_row f fd) (T : Txt K mg) : FnOk P w K mg base C8.CX0 1 f fd ["alphabet", "text"] sp_letter_row := by
  refine C8.fn0 F sc_letter_row (fun vs H Q E h => ?_) (fun cdv A outer s H vs Q E hr h => ?_)
  · obtain ⟨al, t, rfl, _⟩ := h; rfl
  · obtain ⟨al, t, rfl, hm, hl, q⟩ := h
    refine ⟨_, (pss_cons (ps_set (i := 2) sc_letter_row.nd rfl (Or.inl rfl) (pe_lst pa_nil))
      (pss_cons (ps_for PassesOwn.never rfl (pi_enumG rfl T.b_enumerate (pa_cons (pv 1) pa_nil)) (pg_tup rfl (pgs_cons (pg_name (i := 3) sc_letter_row.nd rfl (Or.inl rfl)) (pgs_cons (pg_name (i := 4) sc_letter_row.nd rfl (Or.inl rfl)) pgs_nil))) (pss_cons (ps_set (i := 5) sc_letter_row.nd rfl (Or.inl rfl) (pe_bm PySem.F.plainAttrs_str PySem.F.slot_str_find PySem.F.type_str_find mt_find (pv 0) (pa_cons (pv 4) pa_nil)))
      (pss_cons (ps_if (pt_cmpR op_lt (pv 5) pe_int (nomark _)) (pss_one ps_never) pss_nil)
      (pss_one (ps_expr (pe_bm PySem.F.plainAttrs_list PySem.F.slot_list_append PySem.F.type_list_append mt_append (pv 2) (pa_cons (pv 5) pa_nil)))))))
      (pss_one (ps_ret (pv 2))))), ?_⟩
    refine ⟨by show (0 : Nat) ≤ sizeLine; exact Nat.zero_le _, fun p hp => ?_⟩
    refine ⟨_, rfl, _, _, _, _, rfl, src_text _ t, for_it walkG (fun i σ H' => ∃ v3 v4 v5 : Option V, σ = [some (.str (S al)), some (.str (S t)), some (.ref p), v3, v4, v5] ∧ Same H H' ∧ H' p = some (.lst (iv (lets al (t.take i))))) ⟨none, none, none, rfl, same_new hp, upd_same⟩ (fun _ _ _ _ _ => trivial) ?_ ?_⟩
    · rintro i x σ H1 H2 hi ⟨v3, v4, v5, rfl, s1, hd⟩ ⟨Tt, xs, rfl, hT, rfl, v, ⟨c, hc, rfl⟩, rfl⟩
      rw [S_get] at hc
      obtain ⟨r, hfind⟩ := find_sign (hm c (List.mem_of_getElem? hc))
      refine ⟨Tt, _, rfl, SqT.of upd_same, rfl, _, _, rfl, _, _, rfl, rfl, ?_⟩
      refine ⟨_, rfl, rfl, _, rfl, S al, ⟨#[c]⟩, rfl, rfl, ?_⟩
      have hf : Txt.find (S al) ⟨#[c]⟩ = (al.idxOf c : Int) := by unfold Txt.find; rw [hfind]
      rw [hf]
      refine ⟨_, rfl, _, _, rfl, rfl, _, rfl, ?_⟩
      rw [decide_eq_false (by omega : ¬ (al.idxOf c : Int) < 0)]
      refine iteF ?_
      have hne : p ≠ Tt := ne_of_none hd hT
      have hd2 : upd H1 Tt (.tup [.int (i : Int), .str ⟨#[c]⟩]) p = some (.lst (iv (lets al (t.take i)))) := (upd_ne hne).trans hd
      refine ⟨_, rfl, .inl ⟨rfl, _, SqL.of hd2⟩, _, rfl, p, _, _, rfl, rfl, hd2, ?_, ?_⟩
      · rw [iv_len, lets, List.length_map, List.length_take]
        exact small1000 (by omega)
      · refine ⟨_, _, _, rfl, Same.put (Same.new s1 hT) hp, ?_⟩
        rw [upd_same, iv_snoc, lets, lets, map_take_succ hc]
    · rintro σ H1 ⟨v3, v4, v5, rfl, s1, hd⟩
      rw [List.take_length] at hd
      exact ⟨_, rfl, q H1 p s1 hp hd⟩
theorem ok_join_neighbors {f : Addr} {fd : FuncData} (F : C8.Fun K "join_neighbors" "join_neighbors" s_join_neighbors f fd) (T : Txt K mg) : FnOk P w K mg base C8.CX0 1 f fd ["row", "pair", "piece"] sp_join_neighbors := by
  refine C8.fn0 F sc_join_neighbors (fun vs H Q E h => ?_) (fun cdv A outer s H vs Q E hr h => ?_)
  · obtain ⟨b, a, p, row, l, r, m, rfl, _⟩ := h; rfl
  · obtain ⟨b, a, p, row, l, r, m, rfl, hrow, hpair, hm, hl, q⟩ := h
    refine ⟨_, (pss_cons (ps_asg (pv 1) (pg_tup rfl (pgs_cons (pg_name (i := 3) sc_join_neighbors.nd rfl (Or.inl rfl)) (pgs_cons (pg_name (i := 4) sc_join_neighbors.nd rfl (Or.inl rfl)) pgs_nil))))
      (pss_cons (ps_set (i := 5) sc_join_neighbors.nd rfl (Or.inl rfl) (pe_lst pa_nil))
      (pss_cons (ps_for PassesOwn.never rfl (pi_seq (pv 0)) (pg_name (i := 6) sc_join_neighbors.nd rfl (Or.inl rfl)) (pss_one (ps_if (PW.pt (pw_and (pt_truth (pv 5) (fun _ => rfl)) (pw_and (pt_cmpR op_eq (pe_ix ix_list (pv 5) (pe_un un_neg pe_int) (fun _ _ => rfl)) (pv 3) (nomark _)) (pw_and1 (pt_cmpR op_eq (pv 6) (pv 4) (nomark _)))))) (pss_one (ps_asg (pv 2) (pg_sub (pv 5) (pe_un un_neg pe_int) set_list))) (pss_one (ps_expr (pe_bm PySem.F.plainAttrs_list PySem.F.slot_list_append PySem.F.type_list_append mt_append (pv 5) (pa_cons (pv 6) pa_nil)))))))
      (pss_one (ps_ret (pv 5)))))), ?_⟩
    refine ⟨_, rfl, p, _, rfl, SqT.of hpair, rfl, _, _, rfl, _, _, rfl, rfl, ?_⟩
    refine ⟨by show (0 : Nat) ≤ sizeLine; exact Nat.zero_le _, fun J hJ => ?_⟩
    refine ⟨_, rfl, b, a, iv row, rfl, hrow.same (same_new hJ), for_it walk_seq (fun i σ H' => ∃ v6 : Option V, σ = [some (.ref a), some (.ref p), some (.int (m : Int)), some (.int (l : Int)), some (.int (r : Int)), some (.ref J), v6] ∧ Same H H' ∧ H' J = some (.lst (iv ((row.take i).foldl (stepJ l r m) []))))
        ⟨none, rfl, same_new hJ, upd_same⟩ (fun _ _ _ _ ⟨_, _, s1, _⟩ => hrow.same s1) ?_ ?_⟩
    · rintro i x σ H1 H2 hi ⟨v6, rfl, s1, hd⟩ ⟨rfl, hx⟩
      obtain ⟨n, hn, rfl⟩ := iv_get hx
      have hfold := foldl_take_succ (f := stepJ l r m) hn []
      have hlen : ((row.take i).foldl (stepJ l r m) []).length < sizeLine := small1000 (by
        have h1 := foldJ_len l r m (row.take i) []
        rw [List.length_take] at h1
        simp only [List.length_nil] at h1; omega)
      generalize hacc : (row.take i).foldl (stepJ l r m) [] = acc at hd hfold hlen
      refine ⟨_, rfl, _, .inl ⟨_, SqL.of hd, rfl⟩, ?_⟩
      have fin : ∀ (acc' : List Nat), acc' = stepJ l r m acc n → ∃ v6 : Option V, [some (V.ref a), some (.ref p), some (.int (m : Int)), some (.int (l : Int)), some (.int (r : Int)), some (.ref J), some (.int (n : Int))] = [some (V.ref a), some (.ref p), some (.int (m : Int)), some (.int (l : Int)), some (.int (r : Int)), some (.ref J), v6] ∧ Same H (upd H2 J (.lst (iv acc'))) ∧ (upd H2 J (.lst (iv acc'))) J = some (.lst (iv ((row.take (i + 1)).foldl (stepJ l r m) []))) := fun acc' e =>
        ⟨_, rfl, Same.put s1 hJ, by rw [upd_same, hfold, e]⟩
      cases hq : acc.getLast? with
      | none =>
        have e : acc = [] := List.getLast?_eq_none_iff.mp hq
        have hc : ¬ (acc.getLast? = some l ∧ n = r) := by rw [hq]; rintro ⟨q, _⟩; cases q
        have e2 : (!(iv acc).isEmpty) = false := by rw [e]; rfl
        rw [e2]
        refine iteF (iteF ?_)
        refine ⟨_, rfl, .inl ⟨rfl, _, SqL.of hd⟩, _, rfl, J, _, _, rfl, rfl, hd, by rw [iv_len]; exact hlen, ?_⟩
        rw [iv_snoc]
        exact fin _ (by rw [stepJ, if_neg hc])
      | some z =>
        have e2 : (!(iv acc).isEmpty) = true := by
          obtain ⟨ys, e⟩ := List.getLast?_eq_some_iff.mp hq
          rw [e, ← iv_snoc]; simp
        rw [e2]
        refine iteT ⟨_, rfl, _, rfl, J, iv acc, _, _, rfl, rfl, SqL.of hd, atI_neg1 (iv_last hq), _, rfl, rfl, _, rfl, ?_⟩
        rw [nat_eq_int]
        by_cases c1 : z = l
        · rw [decide_eq_true c1]
          refine iteT ⟨_, rfl, _, rfl, rfl, _, rfl, ?_⟩
          rw [nat_eq_int]
          by_cases c2 : n = r
          · rw [decide_eq_true c2]
            have hne : acc ≠ [] := by intro e; rw [e] at hq; cases hq
            have hpos : 0 < acc.length := List.length_pos_iff.mpr hne
            refine iteT ⟨_, rfl, _, rfl, _, rfl, J, iv acc, _, acc.length - 1, rfl, rfl, hd, by rw [iv_len]; exact ixN_neg1 hpos, ?_⟩
            rw [iv_set_last m hne]
            exact fin _ (by rw [stepJ, if_pos ⟨by rw [hq, c1], c2⟩])
          · rw [decide_eq_false c2]
            have hc : ¬ (acc.getLast? = some l ∧ n = r) := fun q => c2 q.2
            refine iteF ?_
            refine ⟨_, rfl, .inl ⟨rfl, _, SqL.of hd⟩, _, rfl, J, _, _, rfl, rfl, hd, by rw [iv_len]; exact hlen, ?_⟩
            rw [iv_snoc]
            exact fin _ (by rw [stepJ, if_neg hc])
        · rw [decide_eq_false c1]
          have hc : ¬ (acc.getLast? = some l ∧ n = r) := by rw [hq]; rintro ⟨q, _⟩; exact c1 (Option.some.inj q)
          refine iteF (iteF ?_)
          refine ⟨_, rfl, .inl ⟨rfl, _, SqL.of hd⟩, _, rfl, J, _, _, rfl, rfl, hd, by rw [iv_len]; exact hlen, ?_⟩
          rw [iv_snoc]
          exact fin _ (by rw [stepJ, if_neg hc])
    · rintro σ H1 ⟨v6, rfl, s1, hd⟩
      rw [iv_len, List.take_length, stepJ_all hm] at hd
      exact ⟨_, rfl, q H1 J s1 hJ hd⟩
end
end RJ
end

section
set_option maxRecDepth 100000
set_option maxHeartbeats 2000000
namespace RJ
open PySem PySem.Spec PyProof.Rows L2
open PySem.W (minD AlikeAll alike alikeAll dataLt)
/-! ### the dict of ranks -/
def pkey (p : Nat × Nat) : List Key := [.inl (p.1 : Int), .inl (p.2 : Int)]
theorem pkey_inj {p q : Nat × Nat} (h : pkey p = pkey q) : p = q := by
  obtain ⟨a, b⟩ := p
  obtain ⟨c, d⟩ := q
  have h' : ([.inl (a : Int), .inl (b : Int)] : List Key) = [.inl (c : Int), .inl (d : Int)] := h
  injection h' with h1 h2
  injection h2 with h2 h3
  injection h1 with h1
  injection h2 with h2
  have e1 : a = c := by omega
  have e2 : b = d := by omega
  rw [e1, e2]
def kvsF : Nat → List (Nat × Nat) → List (List Key × V)
  | _, [] => []
  | k, p :: ps => (pkey p, V.int (k : Int)) :: kvsF (k + 1) ps
theorem kvsF_len : ∀ (k : Nat) (ps : List (Nat × Nat)), (kvsF k ps).length = ps.length
  | _, [] => rfl
  | k, p :: ps => congrArg (· + 1) (kvsF_len (k + 1) ps)
theorem kvsF_snoc : ∀ (k : Nat) (ps : List (Nat × Nat)) (p : Nat × Nat), kvsF k (ps ++ [p]) = kvsF k ps ++ [(pkey p, V.int ((k + ps.length : Nat) : Int))]
  | k, [], p => rfl
  | k, q :: ps, p => by
    show (pkey q, V.int (k : Int)) :: kvsF (k + 1) (ps ++ [p]) = (pkey q, V.int (k : Int)) :: (kvsF (k + 1) ps ++ _)
    rw [kvsF_snoc (k + 1) ps p, show k + 1 + ps.length = k + (q :: ps).length by rw [List.length_cons]; omega]
theorem idxOf_ne {p q : Nat × Nat} (ps : List (Nat × Nat)) (h : ¬ q = p) : (q :: ps).idxOf p = ps.idxOf p + 1 := by
  rw [List.idxOf_cons]
  have : (q == p) = false := beq_eq_false_iff_ne.mpr h
  rw [this]; rfl
theorem kvsF_get (p : Nat × Nat) : ∀ (k : Nat) (ps : List (Nat × Nat)), valV (kvsF k ps) (pkey p) = if p ∈ ps then some (V.int ((k + ps.idxOf p : Nat) : Int)) else none
  | k, [] => by rw [if_neg List.not_mem_nil]; exact valV_nil
  | k, q :: ps => by
    show valV ((pkey q, V.int (k : Int)) :: kvsF (k + 1) ps) (pkey p) = _
    by_cases h : q = p
    · subst h
      rw [valV_pos (p := (pkey q, V.int (k : Int))) rfl, if_pos (List.mem_cons_self ..), List.idxOf_cons_self]; rfl
    · rw [valV_neg (p := (pkey q, V.int (k : Int))) fun z => h (pkey_inj z), kvsF_get p (k + 1) ps]
      by_cases hm : p ∈ ps
      · have e : List.idxOf p (q :: ps) = ps.idxOf p + 1 := idxOf_ne _ h
        rw [if_pos hm, if_pos (List.mem_cons_of_mem _ hm), e, show k + 1 + ps.idxOf p = k + (ps.idxOf p + 1) by omega]
      · rw [if_neg hm, if_neg fun z => by
          rcases List.mem_cons.mp z with e | e
          · exact h e.symm
          · exact hm e]
theorem idxOf_get {p : Nat × Nat} {ps : List (Nat × Nat)} (h : p ∈ ps) : ps[ps.idxOf p]? = some p := by
  have h1 : ps.idxOf p < ps.length := List.idxOf_lt_length_iff.mpr h
  rw [List.getElem?_eq_getElem h1, List.getElem_idxOf h1]
theorem idxOf_le {p : Nat × Nat} : ∀ {ps : List (Nat × Nat)} {j : Nat}, ps[j]? = some p → ps.idxOf p ≤ j
  | [], j, h => by cases h
  | q :: ps, j, h => by
    by_cases e : q = p
    · subst e; rw [List.idxOf_cons_self]; exact Nat.zero_le _
    · cases j with
      | zero => exact absurd (Option.some.inj h) e
      | succ j =>
        rw [idxOf_ne _ e]
        exact Nat.succ_le_succ (idxOf_le h)
/-! ### tuples stay -/
def SameT (H H' : Hp) : Prop := ∀ b xs, H b = some (.tup xs) → H' b = some (.tup xs)
theorem Same.t {H H' : Hp} (s : Same H H') : SameT H H' := fun b xs e => s b _ e
theorem SameT.put {H : Hp} {p : Addr} {o : HO} {xs : List V} (h : H p = some (.lst xs)) : SameT H (upd H p o) := fun b ys e => by
  rw [upd_ne (ne_of e h (by intro z; cases z))]; exact e
/-- a rank and its pair, as a tuple -/
def TripAt (H : Hp) (v : V) (x : Nat × (Nat × Nat)) : Prop := ∃ t q, v = .ref t ∧ H t = some (.tup [.int (x.1 : Int), .ref q]) ∧ H q = some (.tup [.int (x.2.1 : Int), .int (x.2.2 : Int)])
theorem TripAt.same {H H' : Hp} {v : V} {x : Nat × (Nat × Nat)} (h : TripAt H v x) (s : SameT H H') : TripAt H' v x := by
  obtain ⟨t, q, e, h1, h2⟩ := h
  exact ⟨t, q, e, s _ _ h1, s _ _ h2⟩
theorem Paired.snoc {α β : Type} {F : α → β → Prop} {x : α} {y : β} (r : F x y) : ∀ {xs : List α} {ys : List β}, Paired F xs ys → Paired F (xs ++ [x]) (ys ++ [y])
  | _, _, .nil => .cons r .nil
  | _, _, .cons a t => .cons a (Paired.snoc r t)
theorem Paired.at {α β : Type} {F : α → β → Prop} : ∀ {xs : List α} {ys : List β} {i : Nat} {x : α}, Paired F xs ys → xs[i]? = some x → ∃ y, ys[i]? = some y ∧ F x y
  | _, _, _, _, .nil, e => by simp at e
  | _, _, 0, _, .cons r _, e => by simp at e; subst e; exact ⟨_, rfl, r⟩
  | _, _, i + 1, x, .cons _ t, e => by
    obtain ⟨y, h1, h2⟩ := Paired.at (i := i) (x := x) t (by simpa using e)
    exact ⟨y, by simpa using h1, h2⟩
theorem Paired.at2 {α β : Type} {F : α → β → Prop} : ∀ {xs : List α} {ys : List β} {i : Nat} {y : β}, Paired F xs ys → ys[i]? = some y → ∃ x, xs[i]? = some x ∧ F x y
  | _, _, _, _, .nil, e => by simp at e
  | _, _, 0, _, .cons r _, e => by simp at e; subst e; exact ⟨_, rfl, r⟩
  | _, _, i + 1, y, .cons _ t, e => by
    obtain ⟨x, h1, h2⟩ := Paired.at2 (i := i) (y := y) t (by simpa using e)
    exact ⟨x, by simpa using h1, h2⟩
def tripD (x : Nat × (Nat × Nat)) : PyData := .tuple [.int (x.1 : Int), .tuple [.int (x.2.1 : Int), .int (x.2.2 : Int)]]
theorem tripD_inj {x y : Nat × (Nat × Nat)} (h : tripD x = tripD y) : x = y := by
  obtain ⟨a, b, c⟩ := x
  obtain ⟨a', b', c'⟩ := y
  injection h with h
  injection h with h1 h
  injection h with h2 h3
  injection h2 with h2
  injection h2 with h4 h5
  injection h5 with h5 h6
  injection h1 with h1
  injection h4 with h4
  injection h5 with h5
  have e1 : a = a' := by exact Int.ofNat.inj h1
  have e2 : b = b' := by exact Int.ofNat.inj h4
  have e3 : c = c' := by exact Int.ofNat.inj h5
  rw [e1, e2, e3]
theorem trips_dp {K : PySem.W.Frag} {H : Hp} : ∀ {xs : List V} {ts : List (Nat × (Nat × Nat))}, Paired (TripAt H) xs ts → DpAll K H xs (ts.map tripD)
  | _, _, .nil => .nil
  | _, _, .cons ⟨t, q, e, h1, h2⟩ r => by
    subst e
    exact .cons (.tup (SqT.of h1) (.cons (.int _) (.cons (.tup (SqT.of h2) (.cons (.int _) (.cons (.int _) .nil))) .nil))) (trips_dp r)
theorem trips_alike (ts : List (Nat × (Nat × Nat))) : AlikeAll (ts.map tripD) := by
  refine ⟨fun x hx y hy => ?_, fun x hx e => ?_⟩
  · obtain ⟨a, _, rfl⟩ := List.mem_map.mp hx
    obtain ⟨b, _, rfl⟩ := List.mem_map.mp hy
    simp [tripD, alike, alikeAll]
  · obtain ⟨a, _, rfl⟩ := List.mem_map.mp hx
    cases e
theorem trips_depth : ∀ ts : List (Nat × (Nat × Nat)), PyData.depthAll (ts.map tripD) ≤ 60
  | [] => by simp [PyData.depthAll]
  | t :: ts => by
    have ih := trips_depth ts
    rw [List.map_cons, PyData.depthAll]
    refine Nat.max_le.mpr ⟨?_, ih⟩
    simp [tripD, PyData.depth, PyData.depthAll]
def rkD : PyData → Int
  | .tuple (.int r :: _) => r
  | _ => 0
theorem trip_lt {x y : Nat × (Nat × Nat)} : (dataLt (tripD x) (tripD y) = true → rkD (tripD x) ≤ rkD (tripD y)) ∧ (dataLt (tripD x) (tripD y) = false → rkD (tripD y) ≤ rkD (tripD x)) := by
  have h := PySem.W.dataLt_pair (x := .int (x.1 : Int)) (y := .tuple [.int (x.2.1 : Int), .int (x.2.2 : Int)]) (x' := .int (y.1 : Int)) (y' := .tuple [.int (y.2.1 : Int), .int (y.2.2 : Int)]) (by simp [alike]) (by simp [alike, alikeAll])
  have h' : dataLt (tripD x) (tripD y) = _ := h
  show (dataLt (tripD x) (tripD y) = true → (x.1 : Int) ≤ (y.1 : Int)) ∧ (dataLt (tripD x) (tripD y) = false → (y.1 : Int) ≤ (x.1 : Int))
  rw [h']
  by_cases e : (x.1 : Int) = (y.1 : Int)
  · exact ⟨fun _ => Int.le_of_eq e, fun _ => Int.le_of_eq e.symm⟩
  · have e2 : PyData.eqv (.int (x.1 : Int)) (.int (y.1 : Int)) = false := by
      rw [PyData.eqv]; exact beq_eq_false_iff_ne.mpr e
    rw [e2, if_neg Bool.false_ne_true, PySem.W.dataLt_int]
    refine ⟨fun z => ?_, fun z => ?_⟩
    · have := of_decide_eq_true z; omega
    · have := of_decide_eq_false z; omega
theorem slSeq_from1 {K : PySem.W.Frag} {b : Bool} {a : Addr} {xs : List V} {H : Hp} {Q : VK} (h : SeqAt b H a xs) (k : ∀ H1 q, Same H H1 → SeqAt b H1 q (xs.drop 1) → Q (.ref q) H1) : rSlSeq K (.ref a) (some 1) none H Q := by
  have ecut : cutV xs (some 1) none = xs.drop 1 := by
    unfold cutV
    rw [show (some (1 : Int)) = some ((1 : Nat) : Int) from rfl, HT.sIx_nat, HT.sIx_none]
    by_cases hl : 1 ≤ xs.length
    · rw [Nat.min_eq_left hl, List.take_of_length_le (by rw [List.length_drop]; exact Nat.le_refl _)]
    · have : xs = [] := List.eq_nil_of_length_eq_zero (by omega)
      subst this; rfl
  cases b with
  | true => exact .inl ⟨a, xs, rfl, SqL.of h, fun p hp => k _ p (same_new hp) (by rw [ecut]; exact upd_same)⟩
  | false =>
    refine .inr ⟨a, xs, rfl, SqT.of h, fun hw => k _ a (Same.refl H) ?_, fun _ p hp => k _ p (same_new hp) (by rw [ecut]; exact upd_same)⟩
    have hz := hw.1
    rw [show (some (1 : Int)) = some ((1 : Nat) : Int) from rfl, HT.sIx_nat] at hz
    have : xs = [] := List.eq_nil_of_length_eq_zero (by omega)
    subst this
    exact h
theorem src_seq {b : Bool} {H : Hp} {a : Addr} {xs : List V} (h : SeqAt b H a xs) : SrcV H (.ref a) xs.length (fun H => SeqAt b H a xs) (fun i v => xs[i]? = some v) := by
  cases b with
  | true => exact .inr (.inr ⟨a, xs, rfl, h, rfl, rfl, rfl⟩)
  | false => exact .inr (.inl ⟨a, xs, rfl, h, rfl, rfl, rfl⟩)
/-- the joins that are there, by places -/
def found (ps : List (Nat × Nat)) (row : List Nat) : List (Nat × (Nat × Nat)) := ((adjs row).filter fun p => decide (p ∈ ps)).map fun p => (ps.idxOf p, p)
def foundTo (ps : List (Nat × Nat)) (l : List (Nat × Nat)) : List (Nat × (Nat × Nat)) := (l.filter fun p => decide (p ∈ ps)).map fun p => (ps.idxOf p, p)
theorem foundTo_snoc (ps l : List (Nat × Nat)) (p : Nat × Nat) : foundTo ps (l ++ [p]) = if p ∈ ps then foundTo ps l ++ [(ps.idxOf p, p)] else foundTo ps l := by
  unfold foundTo
  rw [List.filter_append, List.map_append]
  by_cases h : p ∈ ps
  · rw [if_pos h, List.filter_cons_of_pos (by simpa using h)]; rfl
  · rw [if_neg h, List.filter_cons_of_neg (by simpa using h)]
    exact List.append_nil _
theorem foundTo_len (ps l : List (Nat × Nat)) : (foundTo ps l).length ≤ l.length := by
  unfold foundTo
  rw [List.length_map]; exact List.length_filter_le _ _
/-- what lowest holds -/
def LowAt (H : Hp) (ps : List (Nat × Nat)) (row : List Nat) (v : V) : Prop :=
  (v = .non ∧ ∀ p ∈ ps, p ∉ adjs row) ∨ ∃ (p : Nat × Nat) (r : Nat) (t q : Addr), v = .ref t ∧ H t = some (.tup [.int (r : Int), .ref q]) ∧ H q = some (.tup [.int (p.1 : Int), .int (p.2 : Int)]) ∧ ps[r]? = some p ∧ p ∈ adjs row ∧ ∀ (j : Nat) q, j < r → ps[j]? = some q → q ∉ adjs row
def sp_lowest_join : Sp := fun vs H Q _ => ∃ (d a : Addr) (b : Bool) (ps : List (Nat × Nat)) (row : List Nat), vs = [.ref d, .ref a] ∧ H d = some (.dT (kvsF 0 ps)) ∧ RowAt b H a row ∧ row.length ≤ 1000 ∧
  ∀ H' v, Same H H' → LowAt H' ps row v → Q v H'
section
variable {P : Program} {w : World} {K : PySem.W.Frag} {mg : Str → Option Value} {base : Heap}
theorem ok_lowest_join {f : Addr} {fd : FuncData} (F : C8.Fun K "lowest_join" "lowest_join" s_lowest_join f fd) (T : Txt K mg) : FnOk P w K mg base C8.CX0 1 f fd ["ranks", "row"] sp_lowest_join := by
  refine C8.fn0 F sc_lowest_join (fun vs H Q E h => ?_) (fun cdv A outer s H vs Q E hr h => ?_)
  · obtain ⟨d, a, b, ps, row, rfl, _⟩ := h; rfl
  · obtain ⟨d, a, b, ps, row, rfl, hd, hrow, hl, q⟩ := h
    have q0 : (∀ p ∈ ps, p ∉ adjs row) → ∀ H', Same H H' → Q .non H' := fun hno H' s1 => q H' .non s1 (.inl ⟨rfl, hno⟩)
    have q1 : ∀ (p : Nat × Nat) (r : Nat), ps[r]? = some p → p ∈ adjs row → (∀ (j : Nat) q, j < r → ps[j]? = some q → q ∉ adjs row) → ∀ H' t q, Same H H' → H' t = some (.tup [.int (r : Int), .ref q]) → H' q = some (.tup [.int (p.1 : Int), .int (p.2 : Int)]) → Q (.ref t) H' :=
      fun p r hp ha hlo H' t q' s1 h1 h2 => q H' (.ref t) s1 (.inr ⟨p, r, t, q', rfl, h1, h2, hp, ha, hlo⟩)
    have hu := hu_of hr
    have hu64 := hu64_of hr
    refine ⟨_, (pss_one (ps_ret (pe_callBK (cr_minD rfl hu64) (by rfl) T.b_min (by decide +kernel) (pa_cons (pe_lc (own := [("pair", 2)]) (g := gName 2)  rfl sc_lowest_join.nd (pi_zipN rfl T.b_zip (pa_cons (pv 1) (pa_cons (pe_slice sl_seq (pv 1) (po_some pe_int) po_none) pa_nil))) (blkOk_by (N := N_lowest_join) (sc := C8.fnScope s_lowest_join) (by decide +kernel)) (fun _ _ _ _ _ => (pg_name (i := 2) sc_lowest_join.nd rfl (Or.inl rfl))) (fun _ _ _ _ _ => pts_one (pt_cmp (pc_din hu (pv 2) (pv 0)))) (fun _ _ _ _ _ => (pe_tup (pa_cons (pe_dget hu (pv 0) (pv 2) (fun _ _ => rfl)) (pa_cons (pv 2) pa_nil))))) pa_nil) (pk_cons pe_non pk_nil)))), ?_⟩
    refine ⟨_, rfl, _, rfl, 1, rfl, slSeq_from1 hrow fun H1 qa s1 hq => ?_⟩
    have hrow1 := hrow.same s1
    refine ⟨_, _, _, _, _, _, _, _, rfl, src_seq hrow1, src_seq hq, fun D hD => ?_⟩
    have hD0 : H D = none := s1.free hD
    have hn : min (iv row).length ((iv row).drop 1).length = (adjs row).length := by
      unfold adjs
      rw [List.length_zip, iv_len, List.length_drop, iv_len, List.length_tail]
    rw [hn]
    refine lc_it walkG (fun i H' => Same H1 H' ∧ ∃ xs, H' D = some (.lst xs) ∧ Paired (TripAt H') xs (foundTo ps ((adjs row).take i))) ⟨same_new hD, [], upd_same, .nil⟩ (fun i H' _ ⟨s2, _⟩ => ⟨hrow1.same s2, hq.same s2⟩) ?_ ?_
    · rintro i x H2 H3 hi ⟨s2, xs, hxs, hP⟩ ⟨Tt, ys, rfl, hT, rfl, v1, v2, h1, h2, rfl⟩
      obtain ⟨n1, hn1, rfl⟩ := iv_get h1
      have h2' : (iv row)[i + 1]? = some v2 := by rw [List.getElem?_drop] at h2; rw [Nat.add_comm]; exact h2
      obtain ⟨n2, hn2, rfl⟩ := iv_get h2'
      have hadj : (adjs row)[i]? = some (n1, n2) := by
        unfold adjs
        rw [List.getElem?_zip_eq_some]; exact ⟨hn1, by rw [List.getElem?_tail]; exact hn2⟩
      have hne : D ≠ Tt := ne_of_none hxs hT
      have hd3 : upd H2 Tt (.tup [.int (n1 : Int), .int (n2 : Int)]) d = some (.dT (kvsF 0 ps)) := (Same.new s2 hT) _ _ (s1 _ _ hd)
      have hg : DGet (upd H2 Tt (.tup [.int (n1 : Int), .int (n2 : Int)])) d (.ref Tt) (if (n1, n2) ∈ ps then some (V.int ((0 + ps.idxOf (n1, n2) : Nat) : Int)) else none) := by
        rw [← kvsF_get]
        exact DGet.t (k := pkey (n1, n2)) hd3 upd_same
      have hxs3 : upd H2 Tt (.tup [.int (n1 : Int), .int (n2 : Int)]) D = some (.lst xs) := (upd_ne hne).trans hxs
      have htk : (adjs row).take (i + 1) = (adjs row).take i ++ [(n1, n2)] := take_succ_of hadj
      have hlen : xs.length < sizeLine := small1000 (by
        have e1 := hP.length
        have e2 := foundTo_len ps ((adjs row).take i)
        rw [List.length_take] at e2
        have e3 : (adjs row).length ≤ row.length := by unfold adjs; rw [List.length_zip]; exact Nat.min_le_left _ _
        omega)
      refine ⟨rfl, _, rfl, _, rfl, d, _, rfl, hg, _, rfl, ?_⟩
      by_cases hm : (n1, n2) ∈ ps
      · rw [if_pos hm] at hg ⊢
        refine iteT ⟨_, rfl, _, rfl, d, _, rfl, hg, _, rfl, by show 2 ≤ sizeLine; decide, fun p hp => ?_⟩
        have hpD : D ≠ p := ne_of_none hxs3 hp
        have s4 : Same H2 (upd (upd H2 Tt (.tup [.int (n1 : Int), .int (n2 : Int)])) p (.tup [.int ((0 + ps.idxOf (n1, n2) : Nat) : Int), .ref Tt])) := Same.new (same_new hT) hp
        have hxs4 : (upd (upd H2 Tt (.tup [.int (n1 : Int), .int (n2 : Int)])) p (.tup [.int ((0 + ps.idxOf (n1, n2) : Nat) : Int), .ref Tt])) D = some (.lst xs) := (upd_ne hpD).trans hxs3
        refine ⟨xs, hxs4, hlen, Same.put (s2.trans s4) hD, _, upd_same, ?_⟩
        rw [htk, foundTo_snoc, if_pos hm]
        refine Paired.snoc ⟨p, Tt, rfl, SameT.put hxs4 _ _ (by rw [upd_same, Nat.zero_add]), SameT.put hxs4 _ _ ((upd_ne (ne_of_none upd_same hp)).trans upd_same)⟩ ?_
        exact Paired.mapP hP fun v t ht => ht.same fun b ys e => SameT.put hxs4 _ _ (s4 _ _ e)
      · rw [if_neg hm]
        refine iteF ⟨s2.trans (same_new hT), xs, hxs3, ?_⟩
        rw [htk, foundTo_snoc, if_neg hm]
        exact Paired.mapP hP fun v t ht => ht.same fun b ys e => same_new hT _ _ e
    · rintro H2 ⟨s2, xs, hxs, hP⟩
      rw [List.take_length] at hP
      refine ⟨D, xs, _, rfl, rfl, hxs, trips_dp hP, trips_alike _, trips_depth _, fun e => ?_, fun y ys i x e hx hmin => ?_⟩
      · refine q0 (fun p hp hadj => ?_) H2 (s1.trans s2)
        have e' : foundTo ps (adjs row) = [] := List.map_eq_nil_iff.mp e
        have e'' : (adjs row).filter (fun p => decide (p ∈ ps)) = [] := List.map_eq_nil_iff.mp e'
        have : p ∈ (adjs row).filter (fun p => decide (p ∈ ps)) := List.mem_filter.mpr ⟨hadj, by simpa using hp⟩
        rw [e''] at this; cases this
      · obtain ⟨t, ht, t1, q, rfl, h1, h2⟩ := Paired.at hP hx
        have hmem := List.mem_of_getElem? ht
        obtain ⟨p, hp, rfl⟩ := List.mem_map.mp hmem
        obtain ⟨hpa, hpp⟩ := List.mem_filter.mp hp
        have hpp' : p ∈ ps := by simpa using hpp
        have hget : ((foundTo ps (adjs row)).map tripD)[i]? = some (tripD (ps.idxOf p, p)) := by rw [List.getElem?_map, ht]; rfl
        rw [hget] at hmin
        have hmin' := (Option.some.inj hmin).symm
        refine q1 p (ps.idxOf p) (idxOf_get hpp') hpa (fun j q' hj ej hq' => ?_) H2 t1 q (s1.trans s2) h1 h2
        have hle := minD_le (rk := rkD) (Ok := fun d => ∃ x, d = tripD x) (fun x y ⟨a, ha⟩ ⟨b, hb⟩ => by rw [ha, hb]; exact trip_lt.1) (fun x y ⟨a, ha⟩ ⟨b, hb⟩ => by rw [ha, hb]; exact trip_lt.2) ys y
          (fun z hz => by rw [← e] at hz; obtain ⟨a, _, rfl⟩ := List.mem_map.mp hz; exact ⟨a, rfl⟩)
          (tripD (ps.idxOf q', q')) (by
            rw [← e]
            exact List.mem_map.mpr ⟨_, List.mem_map.mpr ⟨q', List.mem_filter.mpr ⟨hq', by simpa using List.mem_of_getElem? ej⟩, rfl⟩, rfl⟩)
        rw [hmin'] at hle
        have hle' : ((ps.idxOf p : Nat) : Int) ≤ ((ps.idxOf q' : Nat) : Int) := hle
        have := idxOf_le ej
        omega
end
end RJ
end

section
set_option maxRecDepth 100000
set_option maxHeartbeats 2000000
namespace RJ
open PySem PySem.Spec PyProof.Rows L2
def sp_join_down : Sp := fun vs H Q _ => ∃ (d a : Addr) (k : Bool) (b : Nat) (ps : List (Nat × Nat)) (row : List Nat), vs = [.ref d, .int (b : Int), .ref a] ∧ H d = some (.dT (kvsF 0 ps)) ∧ WF b ps ∧ RowAt k H a row ∧ row.length ≤ 1000 ∧
  ∀ H' q k', Same H H' → (k = true → k' = true) → RowAt k' H' q (cutL b ps row) → Q (.ref q) H'
section
variable {P : Program} {w : World} {K : PySem.W.Frag} {mg : Str → Option Value} {base : Heap}
theorem ok_join_down {f : Addr} {fd : FuncData} (F : C8.Fun K "join_down" "join_down" s_join_down f fd) (T : Txt K mg) (c_lowest_join : C8.Cal P w K mg base 1 "lowest_join" sp_lowest_join []) (c_join_neighbors : C8.Cal P w K mg base 1 "join_neighbors" sp_join_neighbors []) :
    FnOk P w K mg base C8.CX0 2 f fd ["ranks", "letters", "row"] sp_join_down := by
  refine C8.fn0 F sc_join_down (fun vs H Q E h => ?_) (fun cdv A outer s H vs Q E hr h => ?_)
  · obtain ⟨d, a, k, b, ps, row, rfl, _⟩ := h; rfl
  · obtain ⟨d, a, k, b, ps, row, rfl, hd, hw, hrow, hl, q⟩ := h
    refine ⟨_, (pss_cons (ps_set (i := 3) sc_join_down.nd rfl (Or.inl rfl) (C8.pe_c c_lowest_join hr (by first | decide | omega) (by rfl) (pa_cons (pv 0) (pa_cons (pv 2) pa_nil))))
      (pss_cons (ps_while PassesOwn.never (pt_cmpR op_notN (pv 3) pe_non (nomark _)) (pss_cons (ps_asg (pv 3) (pg_tup rfl (pgs_cons (pg_name (i := 4) sc_join_down.nd rfl (Or.inl rfl)) (pgs_cons (pg_name (i := 5) sc_join_down.nd rfl (Or.inl rfl)) pgs_nil))))
      (pss_cons (ps_set (i := 2) sc_join_down.nd rfl (Or.inl rfl) (C8.pe_c c_join_neighbors hr (by first | decide | omega) (by rfl) (pa_cons (pv 2) (pa_cons (pv 5) (pa_cons (pe_op op_add (pv 1) (pv 4)) pa_nil)))))
      (pss_one (ps_set (i := 3) sc_join_down.nd rfl (Or.inl rfl) (C8.pe_c c_lowest_join hr (by first | decide | omega) (by rfl) (pa_cons (pv 0) (pa_cons (pv 2) pa_nil))))))))
      (pss_one (ps_ret (pv 2))))), ?_⟩
    refine ⟨_, rfl, _, rfl, d, a, k, ps, row, rfl, hd, hrow, hl, fun H1 v s1 lo => ?_⟩
    refine ⟨fun m σ H' => ∃ (v4 v5 : Option V) (a' : Addr) (k' : Bool) (row' : List Nat) (lv : V), σ = [some (V.ref d), some (.int (b : Int)), some (.ref a'), some lv, v4, v5] ∧ Same H H' ∧ (k = true → k' = true) ∧ RowAt k' H' a' row' ∧ cutL b ps row' = cutL b ps row ∧ m = row'.length ∧ row'.length ≤ 1000 ∧ LowAt H' ps row' lv,
        ⟨row.length, none, none, a, k, row, v, rfl, s1, fun h => h, hrow.same s1, rfl, rfl, hl, lo⟩, ?_⟩
    rintro m σ H2 ⟨v4, v5, a', k', row', lv, rfl, s2, hk, hr2, he, rfl, hl2, lo2⟩
    refine ⟨_, rfl, rfl, _, rfl, ?_⟩
    rcases lo2 with ⟨rfl, hno⟩ | ⟨p, r, t, q1, rfl, ht, hq, hp, hadj, hlow⟩
    · refine iteF ⟨_, rfl, q H2 a' k' s2 hk ?_⟩
      rw [← he, cut_done hno]; exact hr2
    · refine iteT ?_
      have hpw := hw r p hp
      refine ⟨fun σ' H' => ∃ m', m' < row'.length ∧ ∃ (v4 v5 : Option V) (a' : Addr) (k' : Bool) (row' : List Nat) (lv : V), σ' = [some (V.ref d), some (.int (b : Int)), some (.ref a'), some lv, v4, v5] ∧ Same H H' ∧ (k = true → k' = true) ∧ RowAt k' H' a' row' ∧ cutL b ps row' = cutL b ps row ∧ m' = row'.length ∧ row'.length ≤ 1000 ∧ LowAt H' ps row' lv, fun σ' H' z => z, ?_⟩
      refine ⟨_, rfl, t, _, rfl, SqT.of ht, rfl, _, _, rfl, _, _, rfl, rfl, ?_⟩
      refine ⟨_, rfl, _, rfl, _, rfl, _, rfl, _, _, rfl, rfl, k', a', q1, row', p.1, p.2, b + r, rfl, hr2, hq, by omega, hl2, fun H3 J s3 hJ hJ3 => ?_⟩
      have hlt := pass_lt (m := b + r) hadj
      refine ⟨_, rfl, _, rfl, d, J, true, ps, pass p.1 p.2 (b + r) row', rfl, s3 _ _ (s2 _ _ hd), hJ3, by omega, fun H4 v s4 lo4 => ?_⟩
      exact ⟨_, hlt, _, _, J, true, _, v, rfl, (s2.trans s3).trans s4, fun _ => rfl, s4 _ _ hJ3, by rw [← he]; exact cut_step hw hp row' hlow, rfl, by omega, lo4⟩
end
end RJ
end

section
set_option maxRecDepth 100000
set_option maxHeartbeats 2000000
namespace RJ
open PySem PySem.Spec PyProof.Rows L2
/-! ### data on the heap -/
def strV (ts : List (List Nat)) : List V := ts.map fun t => V.str (S t)
theorem strV_len (ts : List (List Nat)) : (strV ts).length = ts.length := by rw [strV, List.length_map]
theorem strV_snoc (ts : List (List Nat)) (t : List Nat) : strV ts ++ [V.str (S t)] = strV (ts ++ [t]) := by rw [strV, strV, List.map_append]; rfl
theorem strV_at {ts : List (List Nat)} {i : Nat} (h : i < ts.length) : (strV ts)[i]? = some (V.str (S (ts.getD i []))) := by
  rw [strV, List.getElem?_map, List.getD_eq_getElem?_getD, List.getElem?_eq_getElem h]; rfl
def PairAt (H : Hp) (v : V) (p : Nat × Nat) : Prop := ∃ q, v = .ref q ∧ H q = some (.tup [.int (p.1 : Int), .int (p.2 : Int)])
theorem PairAt.same {H H' : Hp} {v : V} {p : Nat × Nat} (h : PairAt H v p) (s : SameT H H') : PairAt H' v p := by
  obtain ⟨q, e, h1⟩ := h
  exact ⟨q, e, s _ _ h1⟩
abbrev PairsAt (H : Hp) (vs : List V) (ps : List (Nat × Nat)) : Prop := Paired (PairAt H) vs ps
theorem PairsAt.same {H H' : Hp} {vs : List V} {ps : List (Nat × Nat)} (h : PairsAt H vs ps) (s : SameT H H') : PairsAt H' vs ps := Paired.mapP h fun _ _ q => q.same s
theorem S_inj {a b : List Nat} (h : S a = S b) : a = b := SX.S_inj h
theorem S_cat (a b : List Nat) : S a ++ S b = S (a ++ b) := SX.S_cat a b
abbrev s_may_follow : Stmt := top 35
abbrev N_may_follow : List Str := ["alphabet", "texts", "ranks", "pair", "left", "right", "text"]
theorem sc_may_follow : FnScope N_may_follow ["alphabet", "texts", "ranks", "pair"] (C8.fnScope s_may_follow) := C8.fnScope_by (by decide +kernel)
def sp_may_follow : Sp := fun vs H Q _ => ∃ (al : List Nat) (ts : List (List Nat)) (ps : List (Nat × Nat)) (l r : Int) (tx d pr : Addr), vs = [.str (S al), .ref tx, .ref d, .ref pr] ∧ H tx = some (.lst (strV ts)) ∧ H d = some (.dT (kvsF 0 ps)) ∧ H pr = some (.tup [.int l, .int r]) ∧
  WF al.length ps ∧ (∀ t ∈ ts, ∀ c ∈ t, c ∈ al) ∧ (∀ t ∈ ts, t.length ≤ 40) ∧ al.length ≤ 1000 ∧ ts.length ≤ 1000 ∧
  (∀ p : Nat × Nat, l = (p.1 : Int) → r = (p.2 : Int) → okP al ts ps p → ∀ H', Same H H' → Q (.bl true) H') ∧ ((∀ p : Nat × Nat, l = (p.1 : Int) → r = (p.2 : Int) → ¬ okP al ts ps p) → ∀ H', Same H H' → Q (.bl false) H')
theorem numBelow_yes {i n : Nat} (h : i < n) : numBelow (.int (i : Int)) (n : Int) = true := by
  show (decide (0 ≤ (i : Int)) && decide ((i : Int) < (n : Int))) = true
  rw [decide_eq_true (by omega), decide_eq_true (by omega)]; rfl
theorem numBelow_int {l : Int} {n : Nat} (h : numBelow (.int l) (n : Int) = true) : ∃ a : Nat, l = (a : Int) ∧ a < n := by
  unfold numBelow at h
  rw [Bool.and_eq_true, decide_eq_true_eq, decide_eq_true_eq] at h
  exact ⟨l.toNat, by omega, by omega⟩
theorem iv_dp {K : PySem.W.Frag} {H : Hp} : ∀ l : List Nat, DpAll K H (iv l) (l.map fun (n : Nat) => PyData.int (n : Int))
  | [] => .nil
  | n :: l => .cons (.int _) (iv_dp l)
theorem eqv_iv : ∀ a b : List Nat, PyData.eqvAll (a.map fun (n : Nat) => PyData.int (n : Int)) (b.map fun (n : Nat) => PyData.int (n : Int)) = decide (a = b)
  | [], [] => by simp [PyData.eqvAll]
  | [], _ :: _ => by simp [PyData.eqvAll]
  | _ :: _, [] => by simp [PyData.eqvAll]
  | x :: a, y :: b => by
    rw [List.map_cons, List.map_cons, PyData.eqvAll, eqv_iv a b, PyData.eqv]
    by_cases h : x = y
    · subst h; simp
    · have : ((x : Int) == (y : Int)) = false := beq_eq_false_iff_ne.mpr (by omega)
      rw [this]
      simp [h]
theorem shaped_iv (l : List Nat) : SeqAt.shaped (.list (l.map fun (n : Nat) => PyData.int (n : Int))) = true := by
  have h1 : PyData.canLayAll0 (l.map fun (n : Nat) => PyData.int (n : Int)) = true := by
    induction l with
    | nil => simp [PyData.canLayAll0]
    | cons n l ih => rw [List.map_cons, PyData.canLayAll0, ih]; simp [PyData.canLay0]
  have h2 : PyData.depthAll (l.map fun (n : Nat) => PyData.int (n : Int)) = 0 := by
    clear h1
    induction l with
    | nil => simp [PyData.depthAll]
    | cons n l ih => rw [List.map_cons, PyData.depthAll, ih]; simp [PyData.depth]
  unfold SeqAt.shaped
  rw [PyData.canLay0, h1, PyData.depth, h2]; rfl
section
variable {P : Program} {w : World} {K : PySem.W.Frag} {mg : Str → Option Value} {base : Heap}
theorem ok_may_follow {f : Addr} {fd : FuncData} (F : C8.Fun K "may_follow" "may_follow" s_may_follow f fd) (T : Txt K mg) (c_is_number_below : C8.Cal P w K mg base 2 "is_number_below" sp_is_number_below []) (c_join_down : C8.Cal P w K mg base 2 "join_down" sp_join_down []) (c_letter_row : C8.Cal P w K mg base 1 "letter_row" sp_letter_row []) :
    FnOk P w K mg base C8.CX0 3 f fd ["alphabet", "texts", "ranks", "pair"] sp_may_follow := by
  refine C8.fn0 F sc_may_follow (fun vs H Q E h => ?_) (fun cdv A outer s H vs Q E hr h => ?_)
  · obtain ⟨al, ts, ps, l, r, tx, d, pr, rfl, _⟩ := h; rfl
  · obtain ⟨al, ts, ps, l, r, tx, d, pr, rfl, htx, hd, hpr, hw, hin, hsh, hal, hts, qT, qF⟩ := h
    have hu64 := hu64_of hr
    have qF' : (∀ p : Nat × Nat, l = (p.1 : Int) → r = (p.2 : Int) → ¬ okP al ts ps p) → ∀ H', Same H H' → Q (.bl false) H' := qF
    refine ⟨_, (pss_cons (ps_asg (pv 3) (pg_tup rfl (pgs_cons (pg_name (i := 4) sc_may_follow.nd rfl (Or.inl rfl)) (pgs_cons (pg_name (i := 5) sc_may_follow.nd rfl (Or.inl rfl)) pgs_nil))))
      (pss_cons (ps_if (pt_not (PW.pt (pw_and (pt_val (C8.pe_c c_is_number_below hr (by first | decide | omega) (by rfl) (pa_cons (pv 4) (pa_cons (pe_callB call_len_seq (by rfl) T.b_len PySem.boot_len (pa_cons (pv 1) pa_nil)) pa_nil)))) (pw_and1 (pt_val (C8.pe_c c_is_number_below hr (by first | decide | omega) (by rfl) (pa_cons (pv 5) (pa_cons (pe_callB call_len_seq (by rfl) T.b_len PySem.boot_len (pa_cons (pv 1) pa_nil)) pa_nil)))))))) (pss_one (ps_ret pe_bl)) pss_nil)
      (pss_cons (ps_set (i := 6) sc_may_follow.nd rfl (Or.inl rfl) (pe_op op_add_str (pe_ix ix_list (pv 1) (pv 4) (fun _ _ => rfl)) (pe_ix ix_list (pv 1) (pv 5) (fun _ _ => rfl))))
      (pss_cons (ps_if (pt_cmpR op_gt (pe_callB call_len_str (by rfl) T.b_len PySem.boot_len (pa_cons (pv 6) pa_nil)) (C8.pe_gc rfl T.c_MOST_SIGNS_OF_PIECE) (nomark _)) (pss_one (ps_ret pe_bl)) pss_nil)
      (pss_one (ps_ret (pe_cmpR (op_eqD hu64) (C8.pe_c c_join_down hr (by first | decide | omega) (by rfl) (pa_cons (pv 2) (pa_cons (pe_callB call_len_str (by rfl) T.b_len PySem.boot_len (pa_cons (pv 0) pa_nil)) (pa_cons (C8.pe_c c_letter_row hr (by first | decide | omega) (by rfl) (pa_cons (pv 0) (pa_cons (pv 6) pa_nil))) pa_nil)))) (pe_lst (pa_cons (pv 4) (pa_cons (pv 5) pa_nil))) (nomark _)))))))), ?_⟩
    refine ⟨_, rfl, pr, _, rfl, SqT.of hpr, rfl, _, _, rfl, _, _, rfl, rfl, ?_⟩
    refine ⟨_, rfl, _, rfl, tx, _, rfl, .inl (SqL.of htx), _, _, rfl, .int l, _, rfl, ?_⟩
    rw [strV_len]
    cases h1 : numBelow (.int l) (ts.length : Int) with
    | false =>
      refine iteF (iteT (qF' (fun p e1 e2 ok => ?_) H (Same.refl H)))
      rw [e1, numBelow_yes ok.1] at h1; cases h1
    | true =>
      obtain ⟨a, rfl, ha⟩ := numBelow_int h1
      refine iteT ⟨_, rfl, _, rfl, tx, _, rfl, .inl (SqL.of htx), _, _, rfl, .int r, _, rfl, ?_⟩
      rw [strV_len]
      cases h2 : numBelow (.int r) (ts.length : Int) with
      | false =>
        refine iteT (qF' (fun p e1 e2 ok => ?_) H (Same.refl H))
        rw [e2, numBelow_yes ok.2.1] at h2; cases h2
      | true =>
        obtain ⟨b, rfl, hb⟩ := numBelow_int h2
        refine iteF ?_
        have uniq : ¬ okP al ts ps (a, b) → ∀ p : Nat × Nat, (a : Int) = (p.1 : Int) → (b : Int) = (p.2 : Int) → ¬ okP al ts ps p := fun hn p e1 e2 ok => by
          obtain ⟨p1, p2⟩ := p
          have z1 : a = p1 := by have e1' : (a : Int) = (p1 : Int) := e1; omega
          have z2 : b = p2 := by have e2' : (b : Int) = (p2 : Int) := e2; omega
          subst z1 z2
          exact hn ok
        have hla : (ts.getD a []).length ≤ 40 := by
          rcases getD_mem_or (ts := ts) (i := a) with m | m
          · exact hsh _ m
          · rw [m]; exact Nat.zero_le _
        have hlb : (ts.getD b []).length ≤ 40 := by
          rcases getD_mem_or (ts := ts) (i := b) with m | m
          · exact hsh _ m
          · rw [m]; exact Nat.zero_le _
        refine ⟨_, rfl, _, rfl, tx, _, _, _, rfl, rfl, SqL.of htx, atI_nat (strV_at ha), _, rfl, _, rfl, tx, _, _, _, rfl, rfl, SqL.of htx, atI_nat (strV_at hb), S _, S _, rfl, rfl, by rw [S_len, S_len]; exact small_le (by omega), ?_⟩
        rw [S_cat]
        have hlab : (ts.getD a [] ++ ts.getD b []).length ≤ 1000 := by rw [List.length_append]; omega
        refine ⟨_, rfl, S _, rfl, by rw [S_len]; exact small_le hlab, _, _, rfl, rfl, _, rfl, ?_⟩
        rw [S_len]
        by_cases hl : (ts.getD a [] ++ ts.getD b []).length ≤ 40
        · rw [decide_eq_false (by omega : ¬ (40 : Int) < ((ts.getD a [] ++ ts.getD b []).length : Int))]
          refine iteF ?_
          refine ⟨_, rfl, _, rfl, S al, rfl, by rw [S_len]; exact small_le hal, _, rfl, _, rfl, al, _, rfl, fun c hc => ?_, hlab, fun H1 p s1 hp0 hp => ?_⟩
          · rcases List.mem_append.mp hc with z | z
            · rcases getD_mem_or (ts := ts) (i := a) with m | m
              · exact hin _ m c z
              · rw [m] at z; cases z
            · rcases getD_mem_or (ts := ts) (i := b) with m | m
              · exact hin _ m c z
              · rw [m] at z; cases z
          · refine ⟨d, p, true, al.length, ps, _, by rw [S_len]; rfl, s1 _ _ hd, hw, hp, by rw [lets, List.length_map]; exact hlab, fun H2 q k' s2 hk hq => ?_⟩
            have hk' : k' = true := hk rfl
            subst hk'
            refine ⟨_, rfl, _, rfl, by show 2 ≤ sizeLine; decide, fun z hz => ?_⟩
            have hqz : upd H2 z (.lst [.int (a : Int), .int (b : Int)]) q = some (.lst (iv (cutL al.length ps (lets al (ts.getD a [] ++ ts.getD b []))))) := (upd_ne (ne_of_none (show H2 q = _ from hq) hz)).trans hq
            refine ⟨_, _, .lst (SqL.of hqz) (iv_dp _), .lst (SqL.of upd_same) (iv_dp [a, b]), shaped_iv _, shaped_iv [a, b], ?_⟩
            have sF : Same H (upd H2 z (.lst [.int (a : Int), .int (b : Int)])) := Same.new (s1.trans s2) hz
            show Q (.bl (PyData.eqv (.list _) (.list _))) _
            rw [PyData.eqv, eqv_iv]
            by_cases hc : cutL al.length ps (lets al (ts.getD a [] ++ ts.getD b [])) = [a, b]
            · rw [decide_eq_true hc]
              exact qT (a, b) rfl rfl ⟨ha, hb, hl, hc⟩ _ sF
            · rw [decide_eq_false hc]
              exact qF' (uniq fun ok => hc ok.2.2.2) _ sF
        · rw [decide_eq_true (by omega : (40 : Int) < ((ts.getD a [] ++ ts.getD b []).length : Int))]
          exact iteT (qF' (uniq fun ok => hl ok.2.2.1) H (Same.refl H))
end
end RJ
end

section
set_option maxRecDepth 100000
set_option maxHeartbeats 4000000
namespace RJ
open PySem PySem.Spec PyProof.Rows L2
/-! ### the object -/
def f1 (al : List Nat) : List (Str × V) := putF "alphabet" (.str (S al)) []
def f2 (al : List Nat) (t : Addr) : List (Str × V) := putF "pairs" (.ref t) (f1 al)
def f3 (al : List Nat) (t tx : Addr) : List (Str × V) := putF "_texts" (.ref tx) (f2 al t)
def f4 (al : List Nat) (t tx d : Addr) : List (Str × V) := putF "_ranks" (.ref d) (f3 al t tx)
def f5 (al : List Nat) (t tx d e : Addr) : List (Str × V) := putF "_pieces_by_text" (.ref e) (f4 al t tx d)
theorem putF_len (f : Str) (v : V) : ∀ fs : List (Str × V), (putF f v fs).length ≤ fs.length + 1
  | [] => Nat.le_refl _
  | (g, x) :: r => by
    rw [putF]
    split
    · exact Nat.le_succ _
    · have := putF_len f v r
      simp only [List.length_cons]; omega
theorem f_len (al : List Nat) (t tx d : Addr) : (f1 al).length < 1000 ∧ (f2 al t).length < 1000 ∧ (f3 al t tx).length < 1000 ∧ (f4 al t tx d).length < 1000 := by
  have h1 : (f1 al).length ≤ 1 := putF_len _ _ _
  have h2 : (f2 al t).length ≤ (f1 al).length + 1 := putF_len _ _ _
  have h3 : (f3 al t tx).length ≤ (f2 al t).length + 1 := putF_len _ _ _
  have h4 : (f4 al t tx d).length ≤ (f3 al t tx).length + 1 := putF_len _ _ _
  omega
theorem f1_alphabet (al : List Nat)  : (f1 al).lookup ("alphabet" : Str) = some (.str (S al)) := by
  unfold f1
  rw [lookup_putF, if_pos rfl]
theorem f2_pairs (al : List Nat) (t : Addr) : (f2 al t).lookup ("pairs" : Str) = some (.ref t) := by
  unfold f2 f1
  rw [lookup_putF, if_pos rfl]
theorem f2_alphabet (al : List Nat) (t : Addr) : (f2 al t).lookup ("alphabet" : Str) = some (.str (S al)) := by
  unfold f2 f1
  rw [lookup_putF, if_neg (by decide +kernel), lookup_putF, if_pos rfl]
theorem f3_texts (al : List Nat) (t : Addr) (tx : Addr) : (f3 al t tx).lookup ("_texts" : Str) = some (.ref tx) := by
  unfold f3 f2 f1
  rw [lookup_putF, if_pos rfl]
theorem f3_pairs (al : List Nat) (t : Addr) (tx : Addr) : (f3 al t tx).lookup ("pairs" : Str) = some (.ref t) := by
  unfold f3 f2 f1
  rw [lookup_putF, if_neg (by decide +kernel), lookup_putF, if_pos rfl]
theorem f3_alphabet (al : List Nat) (t : Addr) (tx : Addr) : (f3 al t tx).lookup ("alphabet" : Str) = some (.str (S al)) := by
  unfold f3 f2 f1
  rw [lookup_putF, if_neg (by decide +kernel), lookup_putF, if_neg (by decide +kernel), lookup_putF, if_pos rfl]
theorem f4_ranks (al : List Nat) (t : Addr) (tx : Addr) (d : Addr) : (f4 al t tx d).lookup ("_ranks" : Str) = some (.ref d) := by
  unfold f4 f3 f2 f1
  rw [lookup_putF, if_pos rfl]
theorem f4_texts (al : List Nat) (t : Addr) (tx : Addr) (d : Addr) : (f4 al t tx d).lookup ("_texts" : Str) = some (.ref tx) := by
  unfold f4 f3 f2 f1
  rw [lookup_putF, if_neg (by decide +kernel), lookup_putF, if_pos rfl]
theorem f4_pairs (al : List Nat) (t : Addr) (tx : Addr) (d : Addr) : (f4 al t tx d).lookup ("pairs" : Str) = some (.ref t) := by
  unfold f4 f3 f2 f1
  rw [lookup_putF, if_neg (by decide +kernel), lookup_putF, if_neg (by decide +kernel), lookup_putF, if_pos rfl]
theorem f4_alphabet (al : List Nat) (t : Addr) (tx : Addr) (d : Addr) : (f4 al t tx d).lookup ("alphabet" : Str) = some (.str (S al)) := by
  unfold f4 f3 f2 f1
  rw [lookup_putF, if_neg (by decide +kernel), lookup_putF, if_neg (by decide +kernel), lookup_putF, if_neg (by decide +kernel), lookup_putF, if_pos rfl]
theorem f5_pieces_by_text (al : List Nat) (t : Addr) (tx : Addr) (d : Addr) (e : Addr) : (f5 al t tx d e).lookup ("_pieces_by_text" : Str) = some (.ref e) := by
  unfold f5 f4 f3 f2 f1
  rw [lookup_putF, if_pos rfl]
theorem f5_ranks (al : List Nat) (t : Addr) (tx : Addr) (d : Addr) (e : Addr) : (f5 al t tx d e).lookup ("_ranks" : Str) = some (.ref d) := by
  unfold f5 f4 f3 f2 f1
  rw [lookup_putF, if_neg (by decide +kernel), lookup_putF, if_pos rfl]
theorem f5_texts (al : List Nat) (t : Addr) (tx : Addr) (d : Addr) (e : Addr) : (f5 al t tx d e).lookup ("_texts" : Str) = some (.ref tx) := by
  unfold f5 f4 f3 f2 f1
  rw [lookup_putF, if_neg (by decide +kernel), lookup_putF, if_neg (by decide +kernel), lookup_putF, if_pos rfl]
theorem f5_pairs (al : List Nat) (t : Addr) (tx : Addr) (d : Addr) (e : Addr) : (f5 al t tx d e).lookup ("pairs" : Str) = some (.ref t) := by
  unfold f5 f4 f3 f2 f1
  rw [lookup_putF, if_neg (by decide +kernel), lookup_putF, if_neg (by decide +kernel), lookup_putF, if_neg (by decide +kernel), lookup_putF, if_pos rfl]
theorem f5_alphabet (al : List Nat) (t : Addr) (tx : Addr) (d : Addr) (e : Addr) : (f5 al t tx d e).lookup ("alphabet" : Str) = some (.str (S al)) := by
  unfold f5 f4 f3 f2 f1
  rw [lookup_putF, if_neg (by decide +kernel), lookup_putF, if_neg (by decide +kernel), lookup_putF, if_neg (by decide +kernel), lookup_putF, if_neg (by decide +kernel), lookup_putF, if_pos rfl]
theorem f5_no (al : List Nat) (t : Addr) (tx : Addr) (d : Addr) (e : Addr) {m : Str} (h1 : ¬ m = "_pieces_by_text") (h2 : ¬ m = "_ranks") (h3 : ¬ m = "_texts") (h4 : ¬ m = "pairs") (h5 : ¬ m = "alphabet") : (f5 al t tx d e).lookup m = none := by
  unfold f5 f4 f3 f2 f1
  rw [lookup_putF, if_neg h1, lookup_putF, if_neg h2, lookup_putF, if_neg h3, lookup_putF, if_neg h4, lookup_putF, if_neg h5]; rfl
def kvsT : Nat → List (List Nat) → List (Key × V)
  | _, [] => []
  | k, t :: ts => (.inr (S t), V.int (k : Int)) :: kvsT (k + 1) ts
theorem kvsT_snoc : ∀ (k : Nat) (ts : List (List Nat)) (t : List Nat), kvsT k (ts ++ [t]) = kvsT k ts ++ [(.inr (S t), V.int ((k + ts.length : Nat) : Int))]
  | k, [], t => rfl
  | k, u :: ts, t => by
    show (Sum.inr (S u), V.int (k : Int)) :: kvsT (k + 1) (ts ++ [t]) = (Sum.inr (S u), V.int (k : Int)) :: (kvsT (k + 1) ts ++ _)
    rw [kvsT_snoc (k + 1) ts t, show k + 1 + ts.length = k + (u :: ts).length by rw [List.length_cons]; omega]
theorem kvsT_len : ∀ (k : Nat) (ts : List (List Nat)), (kvsT k ts).length = ts.length
  | _, [] => rfl
  | k, p :: ps => congrArg (· + 1) (kvsT_len (k + 1) ps)
theorem kvsT_get (t : List Nat) : ∀ (k : Nat) (ts : List (List Nat)), valV (kvsT k ts) (.inr (S t)) = if t ∈ ts then some (V.int ((k + ts.idxOf t : Nat) : Int)) else none
  | k, [] => by rw [if_neg List.not_mem_nil]; exact valV_nil
  | k, u :: ts => by
    show valV ((Sum.inr (S u), V.int (k : Int)) :: kvsT (k + 1) ts) (.inr (S t)) = _
    by_cases h : u = t
    · subst h
      rw [valV_pos (p := (Sum.inr (S u), V.int (k : Int))) rfl, if_pos (List.mem_cons_self ..), List.idxOf_cons_self]; rfl
    · rw [valV_neg (p := (Sum.inr (S u), V.int (k : Int))) fun z => h (S_inj (Sum.inr.inj z)), kvsT_get t (k + 1) ts]
      have e : List.idxOf t (u :: ts) = ts.idxOf t + 1 := by
        rw [List.idxOf_cons, show (u == t) = false from beq_eq_false_iff_ne.mpr h]; rfl
      by_cases hm : t ∈ ts
      · rw [if_pos hm, if_pos (List.mem_cons_of_mem _ hm), e, show k + 1 + ts.idxOf t = k + (ts.idxOf t + 1) by omega]
      · rw [if_neg hm, if_neg fun z => by
          rcases List.mem_cons.mp z with e | e
          · exact h e.symm
          · exact hm e]
/-- a list of joins at p -/
def JoinsAt (C : Addr) (H : Hp) (p : Addr) (al : List Nat) (ps : List (Nat × Nat)) : Prop := ∃ (dx t tx d e : Addr) (vs : List V), H p = some (.ins C dx (f5 al t tx d e)) ∧ H t = some (.tup vs) ∧ PairsAt H vs ps ∧
  H tx = some (.lst (strV (textsOf al ps))) ∧ H d = some (.dT (kvsF 0 ps)) ∧ H e = some (.dK (kvsT 0 (textsOf al ps)))
theorem JoinsAt.same {C p : Addr} {H H' : Hp} {al : List Nat} {ps : List (Nat × Nat)} (h : JoinsAt C H p al ps) (s : Same H H') : JoinsAt C H' p al ps := by
  obtain ⟨dx, t, tx, d, e, vs, h1, h2, h3, h4, h5, h6⟩ := h
  exact ⟨dx, t, tx, d, e, vs, s _ _ h1, s _ _ h2, h3.same (Same.t s), s _ _ h4, s _ _ h5, s _ _ h6⟩
/-- the class as the top has made it -/
structure JTxt (K : PySem.W.Frag) (C : Addr) : Prop where
  cl : Cls K C
  n1 : NoAttr K C "alphabet"
  n2 : NoAttr K C "pairs"
  n3 : NoAttr K C "_texts"
  n4 : NoAttr K C "_ranks"
  n5 : NoAttr K C "_pieces_by_text"
/-- all but p as it was -/
def SameX (p : Addr) (H H' : Hp) : Prop := ∀ b o, b ≠ p → H b = some o → H' b = some o
theorem Same.x {p : Addr} {H H' : Hp} (s : Same H H') : SameX p H H' := fun b o _ e => s b o e
theorem SameX.then {p : Addr} {H H1 H2 : Hp} (s : SameX p H H1) (t : Same H1 H2) : SameX p H H2 := fun b o h e => t b o (s b o h e)
theorem SameX.self {p : Addr} {H H1 : Hp} {o : HO} (s : SameX p H H1) : SameX p H (upd H1 p o) := fun b u h e => by rw [upd_ne h]; exact s b u h e
theorem SameX.put {p q : Addr} {H H1 : Hp} {o : HO} (s : SameX p H H1) (hq : H q = none) : SameX p H (upd H1 q o) := fun b u h e => by rw [upd_ne (ne_of_none e hq)]; exact s b u h e
theorem SameX.free {p q : Addr} {H H1 : Hp} (s : SameX p H H1) (hq : H1 q = none) (hp : ∃ o, H1 p = some o) : H q = none := by
  cases e : H q with
  | none => rfl
  | some o =>
    obtain ⟨u, hu⟩ := hp
    have h : q ≠ p := fun z => by rw [z, hu] at hq; cases hq
    rw [s q o h e] at hq; cases hq
theorem SameT.putO {H : Hp} {p : Addr} {o o' : HO} (h : H p = some o') (hne : ∀ xs, HO.tup xs ≠ o') : SameT H (upd H p o) := fun b ys e => by
  rw [upd_ne (ne_of e h (hne ys))]; exact e
/-- what __init__ keeps while it goes through the joins, behind n of them -/
def InitAt (C : Addr) (H : Hp) (p dx t tx d : Addr) (vs : List V) (al : List Nat) (ps : List (Nat × Nat)) (n : Nat) : Prop := H p = some (.ins C dx (f4 al t tx d)) ∧ H t = some (.tup vs) ∧ PairsAt H vs ps ∧
  H tx = some (.lst (strV (textsOf al (ps.take n)))) ∧ H d = some (.dT (kvsF 0 (ps.take n)))
theorem InitAt.same {C p dx t tx d : Addr} {H H' : Hp} {vs : List V} {al : List Nat} {ps : List (Nat × Nat)} {n : Nat} (h : InitAt C H p dx t tx d vs al ps n) (s : Same H H') : InitAt C H' p dx t tx d vs al ps n :=
  ⟨s _ _ h.1, s _ _ h.2.1, h.2.2.1.same (Same.t s), s _ _ h.2.2.2.1, s _ _ h.2.2.2.2⟩
theorem dc_it {J : It} {n : Nat} {G : Hp → Prop} {Y : Nat → Hp → V → Hp → Prop} (w : Walk J n G Y) {g : TG} {tt : TT} {tk tv : TE} {vs : List Nat} {σ : L2.St} {H1 : Hp} {D : Addr} {Qd : Hp → Prop} (Pv : Nat → Hp → Prop) (h0 : Pv 0 (upd H1 D (.dK []))) (hG : ∀ i H, i ≤ n → Pv i H → G H)
    (hs : ∀ i x H H', i < n → Pv i H → Y i H x H' → g x (wipe σ vs) H' fun σ2 H2 => wipe σ2 vs = wipe σ vs ∧ tt σ2 H2 fun b H3 =>
      if b = true then tk σ2 H3 fun y H4 => tv σ2 H4 fun z H5 => ∃ (kvs : List (Key × V)) (k : Key), y = kV k ∧ H5 D = some (.dK kvs) ∧ kvs.length < sizeLine ∧ Pv (i + 1) (upd H5 D (.dK (putK kvs k z))) else Pv (i + 1) H3) (hd : ∀ H, Pv n H → Qd H) :
    ∃ W : Nat → Nat → Hp → Prop, (∃ m, W 0 m (upd H1 D (.dK []))) ∧ ∀ i m H, W i m H →
      (J.stop i H ∧ Qd H) ∨ (J.go i H ∧ ∃ Nx : Hp → Prop, (∀ H', Nx H' → ∃ m', m' < m ∧ W (i + 1) m' H') ∧ ∀ x H', J.yld i H x H' → g x (wipe σ vs) H' fun σ2 H2 => wipe σ2 vs = wipe σ vs ∧ tt σ2 H2 fun b H3 =>
        if b = true then tk σ2 H3 fun y H4 => tv σ2 H4 fun z H5 => ∃ (kvs : List (Key × V)) (k : Key), y = kV k ∧ H5 D = some (.dK kvs) ∧ kvs.length < sizeLine ∧ Nx (upd H5 D (.dK (putK kvs k z))) else Nx H3) := by
  refine ⟨fun i m H => m = n - i ∧ i ≤ n ∧ Pv i H, ⟨n, by simp, Nat.zero_le _, h0⟩, ?_⟩
  rintro i m H ⟨rfl, hi, p⟩
  have q := hG i H hi p
  by_cases hlt : i < n
  · refine .inr ⟨w.goes i H hlt q, Pv (i + 1), fun H' p' => ⟨n - (i + 1), by omega, rfl, hlt, p'⟩, fun x H' y => hs i x H H' hlt p (w.yields i H x H' hlt q y)⟩
  · have e : i = n := by omega
    subst e
    exact .inl ⟨w.stops H q, hd H p⟩
abbrev s_Joins___init__ : Stmt := inClass (top 36) 0
abbrev N_Joins___init__ : List Str := ["self", "alphabet", "pairs", "rank", "pair", "left", "right", "piece", "text"]
theorem sc_Joins___init__ : FnScope N_Joins___init__ ["self", "alphabet", "pairs"] (C8.fnScope s_Joins___init__) := C8.fnScope_by (by decide +kernel)
abbrev s_Joins_text_of : Stmt := inClass (top 36) 5
abbrev N_Joins_text_of : List Str := ["self", "piece"]
theorem sc_Joins_text_of : FnScope N_Joins_text_of ["self", "piece"] (C8.fnScope s_Joins_text_of) := C8.fnScope_by (by decide +kernel)
abbrev s_Joins_check_piece : Stmt := inClass (top 36) 11
abbrev N_Joins_check_piece : List Str := ["self", "piece"]
theorem sc_Joins_check_piece : FnScope N_Joins_check_piece ["self", "piece"] (C8.fnScope s_Joins_check_piece) := C8.fnScope_by (by decide +kernel)
abbrev s_Joins_has_piece : Stmt := inClass (top 36) 10
abbrev N_Joins_has_piece : List Str := ["self", "piece"]
theorem sc_Joins_has_piece : FnScope N_Joins_has_piece ["self", "piece"] (C8.fnScope s_Joins_has_piece) := C8.fnScope_by (by decide +kernel)
def sp_init (C : Addr) : Sp := fun vs H Q _ => ∃ (p pa dx : Addr) (b : Bool) (al : List Nat) (ps : List (Nat × Nat)) (us : List V), vs = [.ref p, .str (S al), .ref pa] ∧ H p = some (.ins C dx []) ∧ SeqAt b H pa us ∧ PairsAt H us ps ∧
  alOk al = true ∧ al.Nodup ∧ al.length ≤ 30 ∧ Proper al ps ∧ ps.length ≤ 100 ∧ ∀ H', SameX p H H' → JoinsAt C H' p al ps → Q .non H'
section
variable {P : Program} {w : World} {K : PySem.W.Frag} {mg : Str → Option Value} {base : Heap}
theorem ok_init {f C : Addr} {fd : FuncData} (F : C8.Fun K "__init__" "Joins.__init__" s_Joins___init__ f fd) (T : Txt K mg) (J : JTxt K C) (c_check_alphabet : C8.Cal P w K mg base 3 "check_alphabet" sp_check_alphabet []) (c_may_follow : C8.Cal P w K mg base 3 "may_follow" sp_may_follow []) :
    FnOk P w K mg base C8.CX0 4 f fd ["self", "alphabet", "pairs"] (sp_init C) := by
  refine C8.fn0 F sc_Joins___init__ (fun vs H Q E h => ?_) (fun cdv A outer s H vs Q E hr h => ?_)
  · obtain ⟨p, pa, dx, b, al, ps, us, rfl, _⟩ := h; rfl
  · obtain ⟨p, pa, dx, b, al, ps, us, rfl, hp, hpa, hps, hal, hnd, hall, hprop, hpl, q⟩ := h
    have hu := hu_of hr
    refine ⟨_, (pss_cons (ps_expr (C8.pe_c c_check_alphabet hr (by first | decide | omega) (by rfl) (pa_cons (pv 1) pa_nil)))
      (pss_cons (ps_fld (pv 0) (pv 1) rfl)
      (pss_cons (ps_fld (pv 0) (pe_tupleOf (by rfl) T.b_tuple (pe_lc (own := [("left", 5), ("right", 6)]) (g := gTup K 2 (gCons (gName 5) (gCons (gName 6) (gNil)))) (tt := tYes) rfl sc_Joins___init__.nd (pi_seq (pv 2)) (blkOk_by (N := N_Joins___init__) (sc := C8.fnScope s_Joins___init__) (by decide +kernel)) (fun _ _ _ _ _ => (pg_tup rfl (pgs_cons (pg_name (i := 5) sc_Joins___init__.nd rfl (Or.inl rfl)) (pgs_cons (pg_name (i := 6) sc_Joins___init__.nd rfl (Or.inl rfl)) pgs_nil)))) (fun _ _ _ _ _ => pts_nil) (fun _ _ _ _ _ => (pe_tup (pa_cons (pv 5) (pa_cons (pv 6) pa_nil)))))) rfl)
      (pss_cons (ps_fld (pv 0) (pe_callTy (call_list_text rfl) (by rfl) T.b_list (by decide +kernel) (pa_cons (pv 1) pa_nil)) rfl)
      (pss_cons (ps_fld (pv 0) pe_dnewT rfl)
      (pss_cons (ps_for PassesOwn.never rfl (pi_enumG rfl T.b_enumerate (pa_cons (pe_fld (pv 0) rfl) pa_nil)) (pg_tup rfl (pgs_cons (pg_name (i := 3) sc_Joins___init__.nd rfl (Or.inl rfl)) (pgs_cons (pg_name (i := 4) sc_Joins___init__.nd rfl (Or.inl rfl)) pgs_nil))) (pss_cons (ps_if (pt_not (pt_val (C8.pe_c c_may_follow hr (by first | decide | omega) (by rfl) (pa_cons (pv 1) (pa_cons (pe_fld (pv 0) rfl) (pa_cons (pe_fld (pv 0) rfl) (pa_cons (pv 4) pa_nil))))))) (pss_one ps_never) pss_nil)
      (pss_cons (ps_expr (pe_bm PySem.F.plainAttrs_list PySem.F.slot_list_append PySem.F.type_list_append mt_append (pe_fld (pv 0) rfl) (pa_cons (pe_op op_add_str (pe_ix ix_list (pe_fld (pv 0) rfl) (pe_ix ix_tup (pv 4) pe_int (fun _ _ => rfl)) (fun _ _ => rfl)) (pe_ix ix_list (pe_fld (pv 0) rfl) (pe_ix ix_tup (pv 4) pe_int (fun _ _ => rfl)) (fun _ _ => rfl))) pa_nil)))
      (pss_one (ps_dput hu (pe_fld (pv 0) rfl) (pv 4) (pv 3) rfl)))))
      (pss_one (ps_fld (pv 0) (pe_dc (own := [("piece", 7), ("text", 8)]) (g := gTup K 2 (gCons (gName 7) (gCons (gName 8) (gNil)))) (tt := tYes) rfl sc_Joins___init__.nd (pi_enumG rfl T.b_enumerate (pa_cons (pe_fld (pv 0) rfl) pa_nil)) (blkOk_by (N := N_Joins___init__) (sc := C8.fnScope s_Joins___init__) (by decide +kernel)) (fun _ _ _ _ _ => (pg_tup rfl (pgs_cons (pg_name (i := 7) sc_Joins___init__.nd rfl (Or.inl rfl)) (pgs_cons (pg_name (i := 8) sc_Joins___init__.nd rfl (Or.inl rfl)) pgs_nil)))) (fun _ _ _ _ _ => pts_nil) (fun _ _ _ _ _ => (pv 8)) (fun _ _ _ _ _ => (pv 7))) rfl)))))))), ?_⟩
    have lens := f_len al
    refine ⟨_, rfl, al, rfl, by omega, hal, fun H1 s1 => ⟨_, rfl, _, rfl, p, C, dx, _, rfl, s1 _ _ hp, J.cl, J.n1, by show 0 < 1000; decide, ?_⟩⟩
    have x2 : SameX p H (upd H1 p (.ins C dx (f1 al))) := (Same.x s1).self
    have hp2 : (upd H1 p (.ins C dx (f1 al))) p = some (.ins C dx (f1 al)) := upd_same
    revert hp2 x2
    show SameX p H (upd H1 p (.ins C dx (f1 al))) → (upd H1 p (.ins C dx (f1 al))) p = some (.ins C dx (f1 al)) → tSeq _ _ _ _ (upd H1 p (.ins C dx (f1 al)))
    generalize upd H1 p (.ins C dx (f1 al)) = H2
    intro x2 hp2
    have hpap : pa ≠ p := by
      cases b with
      | true => exact ne_of hpa hp (by intro z; cases z)
      | false => exact ne_of hpa hp (by intro z; cases z)
    have sT2 : ∀ H3, SameX p H H3 → PairsAt H3 us ps := fun H3 x => hps.same fun b xs e => x b _ (fun z => by rw [z, hp] at e; cases e) e
    have hpa2 : SeqAt b H2 pa us := x2 _ _ hpap hpa
    -- self.pairs
    refine ⟨_, rfl, b, pa, us, rfl, hpa2, fun D hD => lc_it walk_seq (fun i H' => Same H2 H' ∧ ∃ ws, H' D = some (.lst ws) ∧ PairsAt H' ws (ps.take i)) ⟨same_new hD, [], upd_same, .nil⟩ (fun i H' _ ⟨sa, _⟩ => hpa2.same sa) ?_ ?_⟩
    · rintro i x Ha Hb hi ⟨sa, ws, hws, hP⟩ ⟨rfl, hx⟩
      obtain ⟨⟨l, r⟩, hpi, qa, rfl, hqa⟩ := Paired.at (sT2 _ (x2.then sa)) hx
      refine ⟨qa, _, rfl, SqT.of hqa, rfl, _, _, rfl, _, _, rfl, rfl, rfl, _, rfl, _, rfl, by show 2 ≤ sizeLine; decide, fun z hz => ?_⟩
      have hDz : D ≠ z := ne_of_none hws hz
      have hws' : upd Hb z (.tup [.int (l : Int), .int (r : Int)]) D = some (.lst ws) := (upd_ne hDz).trans hws
      refine ⟨ws, hws', small1000 ?_, Same.put (Same.new sa hz) hD, _, upd_same, ?_⟩
      · have e1 := hP.length
        rw [List.length_take] at e1; omega
      · rw [take_succ_of hpi]
        refine Paired.snoc ⟨z, rfl, SameT.put hws' _ _ upd_same⟩ ?_
        exact (hP.same (Same.t (same_new hz))).same (SameT.put hws')
    rintro H3 ⟨s3, ws, hws, hP3⟩
    have hlen0 : us.length = ps.length := hps.length
    rw [hlen0, List.take_length] at hP3
    refine .inl ⟨D, ws, rfl, SqL.of hws, fun t ht => ⟨_, rfl, p, C, dx, _, rfl, (Same.new s3 ht) _ _ hp2, J.cl, J.n2, lens 0 0 0 |>.1, ?_⟩⟩
    have x4 : SameX p H (upd (upd H3 t (.tup ws)) p (.ins C dx (f2 al t))) := (x2.then (Same.new s3 ht)).self
    have hp4 : (upd (upd H3 t (.tup ws)) p (.ins C dx (f2 al t))) p = some (.ins C dx (f2 al t)) := upd_same
    have hptn : t ≠ p := fun z => by rw [z, s3 _ _ hp2] at ht; cases ht
    have ht4 : (upd (upd H3 t (.tup ws)) p (.ins C dx (f2 al t))) t = some (.tup ws) := (upd_ne hptn).trans upd_same
    have hP4 : PairsAt (upd (upd H3 t (.tup ws)) p (.ins C dx (f2 al t))) ws ps :=
      (hP3.same (Same.t (same_new ht))).same (SameT.putO ((Same.new s3 ht) _ _ hp2) (by intro xs z; cases z))
    revert x4 hp4 ht4 hP4
    show SameX p H (upd (upd H3 t (.tup ws)) p (.ins C dx (f2 al t))) → (upd (upd H3 t (.tup ws)) p (.ins C dx (f2 al t))) p = some (.ins C dx (f2 al t)) → (upd (upd H3 t (.tup ws)) p (.ins C dx (f2 al t))) t = some (.tup ws) → PairsAt (upd (upd H3 t (.tup ws)) p (.ins C dx (f2 al t))) ws ps → tSeq _ _ _ _ (upd (upd H3 t (.tup ws)) p (.ins C dx (f2 al t)))
    generalize upd (upd H3 t (.tup ws)) p (.ins C dx (f2 al t)) = H4
    intro x4 hp4 ht4 hP4
    -- self._texts, self._ranks
    refine ⟨_, rfl, S al, rfl, by rw [S_size]; exact small_le (by omega), fun tx htx => ⟨_, rfl, p, C, dx, _, rfl, (same_new htx) _ _ hp4, J.cl, J.n3, lens t 0 0 |>.2.1, ?_⟩⟩
    intro d hd
    refine ⟨_, rfl, p, C, dx, _, rfl, (upd_ne (ne_of_none upd_same hd)).trans upd_same, J.cl, J.n4, lens t tx 0 |>.2.2.1, ?_⟩
    have htx0 : H tx = none := x4.free htx ⟨_, hp4⟩
    have etx : signsV (S al) = strV (textsOf al (ps.take 0)) := by
      rw [List.take_zero]
      show (al.toArray.toList.map fun c => V.str ⟨#[c]⟩) = strV (al.map fun c => [c])
      rw [strV, List.map_map]; rfl
    have txp : tx ≠ p := fun z => by rw [z, hp4] at htx; cases htx
    have hdp : d ≠ p := fun z => by rw [z, upd_same] at hd; cases hd
    have hdtx : tx ≠ d := fun z => by rw [← z, upd_ne txp, upd_same] at hd; cases hd
    have hd0 : H4 d = none := by
      rw [upd_ne hdp, upd_ne (Ne.symm hdtx)] at hd; exact hd
    have hd00 : H d = none := x4.free hd0 ⟨_, hp4⟩
    have start : ∃ (v3 v4 : Option V), [some (V.ref p), some (.str (S al)), some (.ref pa), none, none, none, none, none, none] = [some (V.ref p), some (.str (S al)), some (.ref pa), v3, v4, none, none, none, none] ∧ InitAt C (upd (upd (upd (upd H4 tx (.lst (signsV (S al)))) p (.ins C dx (f3 al t tx))) d (.dT [])) p (.ins C dx (f4 al t tx d))) p dx t tx d ws al ps 0 ∧
        SameX p H (upd (upd (upd (upd H4 tx (.lst (signsV (S al)))) p (.ins C dx (f3 al t tx))) d (.dT [])) p (.ins C dx (f4 al t tx d))) := by
      have xa : SameX p H4 (upd (upd (upd (upd H4 tx (.lst (signsV (S al)))) p (.ins C dx (f3 al t tx))) d (.dT [])) p (.ins C dx (f4 al t tx d))) :=
        (((Same.x (p := p) (same_new htx)).self).put hd0).self
      have xb : ∀ b o, b ≠ p → H b = some o → H4 b = some o := x4
      have tT : SameT H4 (upd (upd (upd (upd H4 tx (.lst (signsV (S al)))) p (.ins C dx (f3 al t tx))) d (.dT [])) p (.ins C dx (f4 al t tx d))) := fun b xs e => xa b _ (fun z => by rw [z, hp4] at e; cases e) e
      refine ⟨none, none, rfl, ⟨upd_same, tT _ _ ht4, hP4.same tT, ?_, ?_⟩, fun b o hb e => xa b o hb (x4 b o hb e)⟩
      · rw [upd_ne txp, upd_ne hdtx, upd_ne txp, upd_same, etx]
      · rw [upd_ne hdp, upd_same]; rfl
    revert start
    show (∃ (v3 v4 : Option V), _ ∧ InitAt C (upd (upd (upd (upd H4 tx (.lst (signsV (S al)))) p (.ins C dx (f3 al t tx))) d (.dT [])) p (.ins C dx (f4 al t tx d))) p dx t tx d ws al ps 0 ∧ SameX p H (upd (upd (upd (upd H4 tx (.lst (signsV (S al)))) p (.ins C dx (f3 al t tx))) d (.dT [])) p (.ins C dx (f4 al t tx d)))) → tSeq _ _ _ _ (upd (upd (upd (upd H4 tx (.lst (signsV (S al)))) p (.ins C dx (f3 al t tx))) d (.dT [])) p (.ins C dx (f4 al t tx d)))
    generalize upd (upd (upd (upd H4 tx (.lst (signsV (S al)))) p (.ins C dx (f3 al t tx))) d (.dT [])) p (.ins C dx (f4 al t tx d)) = H5
    intro start
    have hlenw : ws.length = ps.length := hP4.length
    obtain ⟨_, _, _, i0, _⟩ := id start
    refine ⟨_, rfl, p, C, dx, _, _, rfl, i0.1, J.cl, J.n2, f4_pairs al t tx d, _, _, _, _, rfl, src_seq (b := false) i0.2.1, for_it walkG (fun i σ H' => ∃ (v3 v4 : Option V), σ = [some (V.ref p), some (.str (S al)), some (.ref pa), v3, v4, none, none, none, none] ∧ InitAt C H' p dx t tx d ws al ps i ∧ SameX p H H') start (fun i σ H' _ ⟨_, _, _, ia, _⟩ => ia.2.1) ?_ ?_⟩
    · rintro i x σ Ha Hb hi ⟨v3, v4, rfl, ia, xa⟩ ⟨Tt, xs, rfl, hT, rfl, v, hv, rfl⟩
      obtain ⟨⟨l, r⟩, hpi, qa, rfl, hqa⟩ := Paired.at ia.2.2.1 hv
      have ib := ia.same (same_new hT (o := .tup [.int (i : Int), .ref qa]))
      have xb : SameX p H (upd Ha Tt (.tup [.int (i : Int), .ref qa])) := xa.then (same_new hT)
      have hqb : (upd Ha Tt (.tup [.int (i : Int), .ref qa])) qa = some (.tup [.int (l : Int), .int (r : Int)]) := (same_new hT) _ _ hqa
      have hTb : (upd Ha Tt (.tup [.int (i : Int), .ref qa])) Tt = some (.tup [.int (i : Int), .ref qa]) := upd_same
      revert ib xb hqb hTb
      show InitAt C (upd Ha Tt (.tup [.int (i : Int), .ref qa])) p dx t tx d ws al ps i → SameX p H (upd Ha Tt (.tup [.int (i : Int), .ref qa])) → (upd Ha Tt (.tup [.int (i : Int), .ref qa])) qa = some (.tup [.int (l : Int), .int (r : Int)]) → (upd Ha Tt (.tup [.int (i : Int), .ref qa])) Tt = some (.tup [.int (i : Int), .ref qa]) → gTup K 2 _ _ _ (upd Ha Tt (.tup [.int (i : Int), .ref qa])) _
      generalize upd Ha Tt (.tup [.int (i : Int), .ref qa]) = Hb
      intro ib xb hqb hTb
      obtain ⟨b1, b2, b3, b4, b5⟩ := ib
      have hok := hprop i (l, r) hpi
      have htl : (textsOf al (ps.take i)).length ≤ 200 := by rw [textsOf_len, List.length_take]; omega
      refine ⟨Tt, _, rfl, SqT.of hTb, rfl, _, _, rfl, _, _, rfl, rfl, ?_⟩
      refine ⟨_, rfl, _, rfl, p, C, dx, _, _, rfl, b1, J.cl, J.n3, f4_texts al t tx d, _, rfl, p, C, dx, _, _, rfl, b1, J.cl, J.n4, f4_ranks al t tx d, _, rfl, al, textsOf al (ps.take i), ps.take i, (l : Int), (r : Int), tx, d, qa, rfl, b4, b5, hqb, (hprop.take i).wf, textsOf_al, (hprop.take i).short, by omega, by omega,
        fun p' e1 e2 ok Hc sc => ⟨_, rfl, iteF ?_⟩, fun hno => absurd hok (hno (l, r) rfl rfl)⟩
      have ic : InitAt C Hc p dx t tx d ws al ps i := InitAt.same ⟨b1, b2, b3, b4, b5⟩ sc
      have xc : SameX p H Hc := xb.then sc
      have hqc := sc _ _ hqb
      obtain ⟨c1, c2, c3, c4, c5⟩ := ic
      have hg1 : l < (textsOf al (ps.take i)).length := hok.1
      have hg2 : r < (textsOf al (ps.take i)).length := hok.2.1
      have hsum : ((textsOf al (ps.take i)).getD l []).length + ((textsOf al (ps.take i)).getD r []).length ≤ 40 := by
        have := hok.2.2.1
        rw [List.length_append] at this; exact this
      have hts : textsOf al (ps.take i) ++ [(textsOf al (ps.take i)).getD l [] ++ (textsOf al (ps.take i)).getD r []] = textsOf al (ps.take (i + 1)) := by rw [take_succ_of hpi, textsOf_snoc]
      refine ⟨_, rfl, p, C, dx, _, _, rfl, c1, J.cl, J.n3, f4_texts al t tx d, .inl ⟨rfl, _, SqL.of c4⟩, ?_⟩
      refine ⟨_, rfl, p, C, dx, _, _, rfl, c1, J.cl, J.n3, f4_texts al t tx d, _, rfl, qa, _, 0, _, rfl, rfl, SqT.of hqc, rfl, tx, _, _, _, rfl, rfl, SqL.of c4, atI_nat (strV_at hg1),
        _, rfl, p, C, dx, _, _, rfl, c1, J.cl, J.n3, f4_texts al t tx d, _, rfl, qa, _, 1, _, rfl, rfl, SqT.of hqc, rfl, tx, _, _, _, rfl, rfl, SqL.of c4, atI_nat (strV_at hg2), S _, S _, rfl, rfl, ?_, ?_⟩
      · rw [S_len, S_len]
        exact small_le (by omega)
      refine ⟨tx, _, _, rfl, rfl, c4, by rw [strV_len]; exact small1000 (by omega), ?_⟩
      rw [S_cat, strV_snoc, hts]
      have ntx : ∀ (b : Addr) (o : HO), Hc b = some o → (∀ ys, o ≠ .lst ys) → (upd Hc tx (.lst (strV (textsOf al (ps.take (i + 1)))))) b = some o := fun b o e hne => by
        rw [upd_ne (ne_of e c4 (hne _))]; exact e
      have hd2 := ntx d _ c5 (by intro ys z; cases z)
      have hq2 := ntx qa _ hqc (by intro ys z; cases z)
      refine ⟨_, rfl, _, rfl, p, C, dx, _, _, rfl, ntx p _ c1 (by intro ys z; cases z), J.cl, J.n4, f4_ranks al t tx d, _, rfl, d, _, rfl, DPut.t (k := pkey (l, r)) hd2 hq2 (by rw [kvsF_len, List.length_take]; exact small1000 (by omega)), ?_⟩
      have hnew : putK (kvsF 0 (ps.take i)) (pkey (l, r)) (V.int (i : Int)) = kvsF 0 (ps.take (i + 1)) := by
        have hnot : (l, r) ∉ ps.take i := fun hm => by
          have := cut_clean (hprop.take i).wf (lets al ((textsOf al (ps.take i)).getD l [] ++ (textsOf al (ps.take i)).getD r [])) _ hm
          rw [show cutL al.length (ps.take i) (lets al ((textsOf al (ps.take i)).getD l [] ++ (textsOf al (ps.take i)).getD r [])) = [l, r] from hok.2.2.2] at this
          exact this (by show (l, r) ∈ [(l, r)]; exact List.mem_cons_self ..)
        have h0 : valV (kvsF 0 (ps.take i)) (pkey (l, r)) = none := by rw [kvsF_get, if_neg hnot]
        rw [putK_new _ h0, take_succ_of hpi, kvsF_snoc, take_len_of hpi, Nat.zero_add]
      rw [hnew]
      have nd : ∀ (b : Addr) (o : HO), (upd Hc tx (.lst (strV (textsOf al (ps.take (i + 1)))))) b = some o → (∀ ys, o ≠ .dT ys) → (upd (upd Hc tx (.lst (strV (textsOf al (ps.take (i + 1)))))) d (.dT (kvsF 0 (ps.take (i + 1))))) b = some o := fun b o e hne => by
        rw [upd_ne (ne_of e hd2 (hne _))]; exact e
      have tT : SameT Hc (upd (upd Hc tx (.lst (strV (textsOf al (ps.take (i + 1)))))) d (.dT (kvsF 0 (ps.take (i + 1))))) := fun b xs e => nd b _ (ntx b _ e (by intro ys z; cases z)) (by intro ys z; cases z)
      refine ⟨_, _, rfl, ⟨nd p _ (ntx p _ c1 (by intro ys z; cases z)) (by intro ys z; cases z), tT _ _ c2, c3.same tT, nd tx _ upd_same (by intro ys z; cases z), upd_same⟩, ?_⟩
      exact (xc.put htx0).put hd00
    · rintro σ H6 ⟨v3, v4, rfl, ⟨c1, c2, c3, c4, c5⟩, x6⟩
      rw [hlenw, List.take_length] at c4 c5
      refine ⟨_, rfl, p, C, dx, _, _, rfl, c1, J.cl, J.n3, f4_texts al t tx d, _, _, _, _, rfl, src_seq (b := true) c4, fun D2 hD2 => dc_it walkG (fun i H' => Same H6 H' ∧ H' D2 = some (.dK (kvsT 0 ((textsOf al ps).take i)))) ⟨same_new hD2, upd_same⟩ (fun i H' _ ⟨sa, _⟩ => sa _ _ c4) ?_ ?_⟩
      · rintro i x Ha Hb hi ⟨sa, ha⟩ ⟨Tt, xs, rfl, hT, rfl, v, hv, rfl⟩
        have hvt : ∃ u, (textsOf al ps)[i]? = some u ∧ v = .str (S u) := by
          rw [strV, List.getElem?_map] at hv
          cases e : (textsOf al ps)[i]? with
          | none => rw [e] at hv; cases hv
          | some u => rw [e] at hv; exact ⟨u, rfl, (Option.some.inj hv).symm⟩
        obtain ⟨u, hu1, rfl⟩ := hvt
        have hne : D2 ≠ Tt := ne_of_none ha hT
        refine ⟨Tt, _, rfl, SqT.of upd_same, rfl, _, _, rfl, _, _, rfl, rfl, rfl, _, rfl, _, rfl, _, Sum.inr (S u), rfl, (upd_ne hne).trans ha, ?_, Same.put (Same.new sa hT) hD2, ?_⟩
        · rw [kvsT_len, List.length_take, textsOf_len]; exact small1000 (by omega)
        · have hnot : u ∉ (textsOf al ps).take i := fun hm => by
            obtain ⟨j, hj, ej⟩ := mem_take_get hm
            have := texts_inj hnd hprop ej hu1; omega
          have h0 : valV (kvsT 0 ((textsOf al ps).take i)) (Sum.inr (S u) : Key) = none := by rw [kvsT_get, if_neg hnot]
          rw [upd_same, putK_new _ h0, take_succ_of hu1, kvsT_snoc, take_len_of hu1, Nat.zero_add]
      · rintro H7 ⟨s7, h7⟩
        have en : (strV (textsOf al ps)).length = (textsOf al ps).length := strV_len _
        rw [en, List.take_length] at h7
        refine ⟨_, rfl, p, C, dx, _, rfl, s7 _ _ c1, J.cl, J.n5, lens t tx d |>.2.2.2, q _ (x6.then s7).self ⟨dx, t, tx, d, D2, ws, upd_same, ?_⟩⟩
        have nx : ∀ (b : Addr) (o : HO), H7 b = some o → (∀ fs, o ≠ .ins C dx fs) → (upd H7 p (.ins C dx (putF "_pieces_by_text" (.ref D2) (f4 al t tx d)))) b = some o := fun b o e hne => by
          rw [upd_ne (ne_of e (s7 _ _ c1) (hne _))]; exact e
        have tT : SameT H6 (upd H7 p (.ins C dx (putF "_pieces_by_text" (.ref D2) (f4 al t tx d)))) := fun b xs e => nx b _ (s7 _ _ e) (by intro fs z; cases z)
        exact ⟨tT _ _ c2, c3.same tT, nx tx _ (s7 _ _ c4) (by intro fs z; cases z), nx d _ (s7 _ _ c5) (by intro fs z; cases z), nx D2 _ h7 (by intro fs z; cases z)⟩
end
end RJ
end

section
set_option maxRecDepth 100000
set_option maxHeartbeats 4000000
namespace RJ
open PySem PySem.Spec PyProof.Rows L2

theorem joinL_nil : ∀ ys : List (List Nat), TL.joinL [] ys = ys.flatten
  | [] => rfl
  | [y] => by show y = y ++ []; rw [List.append_nil]
  | y :: z :: ys => by
    show y ++ ([] ++ TL.joinL [] (z :: ys)) = y ++ (z :: ys).flatten
    rw [List.nil_append, joinL_nil (z :: ys)]
def sp_has_piece (C : Addr) : Sp := fun vs H Q _ => ∃ (p : Addr) (x : V) (al : List Nat) (ps : List (Nat × Nat)), vs = [.ref p, x] ∧ JoinsAt C H p al ps ∧ Kind H x ∧ Q (.bl (numBelow x ((al.length + ps.length : Nat) : Int))) H
def sp_check_piece (C : Addr) : Sp := fun vs H Q _ => ∃ (p : Addr) (i : Nat) (al : List Nat) (ps : List (Nat × Nat)), vs = [.ref p, .int (i : Int)] ∧ JoinsAt C H p al ps ∧ i < al.length + ps.length ∧ Q .non H
def sp_text_of (C : Addr) : Sp := fun vs H Q _ => ∃ (p : Addr) (i : Nat) (al : List Nat) (ps : List (Nat × Nat)), vs = [.ref p, .int (i : Int)] ∧ JoinsAt C H p al ps ∧ i < al.length + ps.length ∧ Q (.str (S ((textsOf al ps).getD i []))) H
def sp_join_row (C : Addr) : Sp := fun vs H Q _ => ∃ (p a : Addr) (k : Bool) (row al : List Nat) (ps : List (Nat × Nat)), vs = [.ref p, .ref a] ∧ JoinsAt C H p al ps ∧ WF al.length ps ∧ RowAt k H a row ∧ row.length ≤ 1000 ∧ al.length ≤ 1000 ∧
  ∀ H' q k', Same H H' → (k = true → k' = true) → RowAt k' H' q (cutL al.length ps row) → Q (.ref q) H'
def sp_letters_of (C : Addr) : Sp := fun vs H Q _ => ∃ (p : Addr) (t al : List Nat) (ps : List (Nat × Nat)), vs = [.ref p, .str (S t)] ∧ JoinsAt C H p al ps ∧ (∀ c ∈ t, c ∈ al) ∧ t.length ≤ 1000 ∧
  ∀ H' q, Same H H' → H q = none → RowAt false H' q (lets al t) → Q (.ref q) H'
def sp_cut (C : Addr) : Sp := fun vs H Q _ => ∃ (p : Addr) (t al : List Nat) (ps : List (Nat × Nat)), vs = [.ref p, .str (S t)] ∧ JoinsAt C H p al ps ∧ WF al.length ps ∧ (∀ c ∈ t, c ∈ al) ∧ t.length ≤ 1000 ∧ al.length ≤ 1000 ∧
  ∀ H' q, Same H H' → RowAt false H' q (cutL al.length ps (lets al t)) → Q (.ref q) H'
def sp_text_of_row (C : Addr) : Sp := fun vs H Q _ => ∃ (p a : Addr) (b : Bool) (row al : List Nat) (ps : List (Nat × Nat)), vs = [.ref p, .ref a] ∧ JoinsAt C H p al ps ∧ Proper al ps ∧ RowAt b H a row ∧ (∀ i ∈ row, i < al.length + ps.length) ∧ row.length ≤ 1000 ∧
  ∀ H', Same H H' → Q (.str (S (textR (textsOf al ps) row))) H'
theorem sum_le {l : List (List Nat)} (h : ∀ t ∈ l, t.length ≤ 40) : ((l.map fun t => S t).map (·.length)).sum ≤ 40 * l.length := by
  induction l with
  | nil => exact Nat.le_refl _
  | cons t l ih =>
    have h1 := ih fun u hu => h u (List.mem_cons_of_mem _ hu)
    have h2 := h t (List.mem_cons_self ..)
    rw [List.map_cons, List.map_cons, List.sum_cons, S_len, List.length_cons]
    omega
section
variable {P : Program} {w : World} {K : PySem.W.Frag} {mg : Str → Option Value} {base : Heap}
theorem ok_has_piece {f C : Addr} {fd : FuncData} (F : C8.Fun K "has_piece" "Joins.has_piece" s_Joins_has_piece f fd) (T : Txt K mg) (J : JTxt K C) (c_is_number_below : C8.Cal P w K mg base 2 "is_number_below" sp_is_number_below []) : FnOk P w K mg base C8.CX0 3 f fd ["self", "piece"] (sp_has_piece C) := by
  refine C8.fn0 F sc_Joins_has_piece (fun vs H Q E h => ?_) (fun cdv A outer s H vs Q E hr h => ?_)
  · obtain ⟨p, x, al, ps, rfl, _⟩ := h; rfl
  · obtain ⟨p, x, al, ps, rfl, ⟨dx, t, tx, d, e, ws, h1, h2, h3, h4, h5, h6⟩, k, q⟩ := h
    refine ⟨_, (pss_one (ps_ret (C8.pe_c c_is_number_below hr (by first | decide | omega) (by rfl) (pa_cons (pv 1) (pa_cons (pe_callB call_len_seq (by rfl) T.b_len PySem.boot_len (pa_cons (pe_fld (pv 0) rfl) pa_nil)) pa_nil))))), ?_⟩
    refine ⟨_, rfl, _, rfl, p, C, dx, _, _, rfl, h1, J.cl, J.n3, f5_texts al t tx d e, tx, _, rfl, .inl (SqL.of h4), x, _, rfl, k, ?_⟩
    rw [strV_len, textsOf_len]; exact q
theorem ok_check_piece {f C : Addr} {fd : FuncData} (F : C8.Fun K "check_piece" "Joins.check_piece" s_Joins_check_piece f fd) (T : Txt K mg) (J : JTxt K C) (m_has_piece : C8.Met P w K mg base 3 C "has_piece" (sp_has_piece C) []) : FnOk P w K mg base C8.CX0 4 f fd ["self", "piece"] (sp_check_piece C) := by
  refine C8.fn0 F sc_Joins_check_piece (fun vs H Q E h => ?_) (fun cdv A outer s H vs Q E hr h => ?_)
  · obtain ⟨p, i, al, ps, rfl, _⟩ := h; rfl
  · obtain ⟨p, i, al, ps, rfl, hj, hi, q⟩ := h
    obtain ⟨dx, t, tx, d, e, ws, h1, h2, h3, h4, h5, h6⟩ := id hj
    refine ⟨_, (pss_one (ps_if (pt_not (pt_val (C8.pe_mt m_has_piece hr (by first | decide | omega) (pv 0) (pa_cons (pv 1) pa_nil)))) (pss_one ps_never) pss_nil)), ?_⟩
    refine ⟨_, rfl, p, dx, _, rfl, h1, f5_no al t tx d e (by decide +kernel) (by decide +kernel) (by decide +kernel) (by decide +kernel) (by decide +kernel), _, rfl, p, _, al, ps, rfl, hj, .int _, _, rfl, ?_⟩
    rw [numBelow_yes hi]
    exact iteF q
theorem ok_text_of {f C : Addr} {fd : FuncData} (F : C8.Fun K "text_of" "Joins.text_of" s_Joins_text_of f fd) (T : Txt K mg) (J : JTxt K C) (m_check_piece : C8.Met P w K mg base 4 C "check_piece" (sp_check_piece C) []) : FnOk P w K mg base C8.CX0 5 f fd ["self", "piece"] (sp_text_of C) := by
  refine C8.fn0 F sc_Joins_text_of (fun vs H Q E h => ?_) (fun cdv A outer s H vs Q E hr h => ?_)
  · obtain ⟨p, i, al, ps, rfl, _⟩ := h; rfl
  · obtain ⟨p, i, al, ps, rfl, hj, hi, q⟩ := h
    obtain ⟨dx, t, tx, d, e, ws, h1, h2, h3, h4, h5, h6⟩ := id hj
    refine ⟨_, (pss_cons (ps_expr (C8.pe_mt m_check_piece hr (by first | decide | omega) (pv 0) (pa_cons (pv 1) pa_nil)))
      (pss_one (ps_ret (pe_ix ix_list (pe_fld (pv 0) rfl) (pv 1) (fun _ _ => rfl))))), ?_⟩
    refine ⟨_, rfl, p, dx, _, rfl, h1, f5_no al t tx d e (by decide +kernel) (by decide +kernel) (by decide +kernel) (by decide +kernel) (by decide +kernel), _, rfl, p, _, al, ps, rfl, hj, hi, ?_⟩
    exact ⟨_, rfl, p, C, dx, _, _, rfl, h1, J.cl, J.n3, f5_texts al t tx d e, _, rfl, tx, _, _, _, rfl, rfl, SqL.of h4, atI_nat (strV_at (by rw [textsOf_len]; exact hi)), q⟩
end
end RJ
end

section
set_option maxRecDepth 100000
set_option maxHeartbeats 4000000
namespace RJ
open PySem PySem.Spec PyProof.Rows L2
theorem hu65_of {A : Around} {k : Nat} (hr : Room k A) : A.units + 65 < cLine := by have := hr.un; omega
theorem pe_never {X : Cx} {e : Expr} : PE X e (fun _ _ _ => False) := ⟨fun _ _ _ _ _ _ h => h.elim⟩

def sp_numbers : Sp := fun vs H Q _ => ∃ (c a : Int) (m : Nat), vs = [.int c, .int a, .int (m : Int)] ∧ 0 ≤ a ∧ a ≤ 1000 ∧ m ≤ 200 ∧
  ∀ H' p ns, Same H H' → H p = none → ns.length = m → (∀ n ∈ ns, n < 1000) → H' p = some (.lst (iv ns)) → Q (.ref p) H'
/-- the same data of this depth at most -/
def scalV : V → Bool
  | .non => true
  | .bl _ => true
  | .int _ => true
  | .str _ => true
  | _ => false
def SameD (H : Hp) : Nat → V → V → Prop
  | 0, x, y => x = y ∧ scalV x = true
  | n + 1, x, y => (x = y ∧ scalV x = true) ∨ ∃ a b xs ys, x = .ref a ∧ y = .ref b ∧ H a = some (.tup xs) ∧ H b = some (.tup ys) ∧ xs.length ≤ 1000 ∧ Paired (SameD H n) xs ys
theorem SameD.flat {H : Hp} {x : V} (h : scalV x = true) : ∀ n, SameD H n x x
  | 0 => ⟨rfl, h⟩
  | _ + 1 => .inl ⟨rfl, h⟩
theorem Paired.same {α : Type} {F : α → α → Prop} : ∀ {l : List α}, (∀ x ∈ l, F x x) → Paired F l l
  | [], _ => .nil
  | x :: l, h => .cons (h x (List.mem_cons_self ..)) (Paired.same fun y hy => h y (List.mem_cons_of_mem _ hy))
theorem SameD.row {H : Hp} {a b : Addr} {l : List Nat} (ha : H a = some (.tup (iv l))) (hb : H b = some (.tup (iv l))) (hl : l.length ≤ 1000) : SameD H 1 (.ref a) (.ref b) :=
  .inr ⟨a, b, _, _, rfl, rfl, ha, hb, by rw [iv_len]; exact hl, Paired.same fun x hx => by
    obtain ⟨n, _, rfl⟩ := List.mem_map.mp hx
    exact ⟨rfl, rfl⟩⟩
theorem SameD.mono {H H' : Hp} (s : Same H H') : ∀ {n : Nat} {x y : V}, SameD H n x y → SameD H' n x y
  | 0, _, _, h => h
  | n + 1, _, _, h => by
    rcases h with h | ⟨a, b, xs, ys, h1, h2, h3, h4, h5, h6⟩
    · exact .inl h
    · exact .inr ⟨a, b, xs, ys, h1, h2, s _ _ h3, s _ _ h4, h5, Paired.mapP h6 fun x y q => SameD.mono s q⟩
def sp_same (n : Nat) : Sp := fun vs H Q _ => ∃ x y, vs = [x, y] ∧ SameD H n x y ∧ ∀ H', Same H H' → Q (.bl true) H'
theorem emod_nat (z m : Int) (h : 0 < m) : ∃ n : Nat, z % m = (n : Int) ∧ (n : Int) < m := ⟨(z % m).toNat, by have := Int.emod_nonneg z (by omega : m ≠ 0); omega, by have := Int.emod_lt_of_pos z h; have := Int.emod_nonneg z (by omega : m ≠ 0); omega⟩
theorem abs_nonneg (c : Int) : 0 ≤ (if c < 0 then -c else c) := by split <;> omega
section
variable {P : Program} {w : World} {K : PySem.W.Frag} {mg : Str → Option Value} {base : Heap}
end
end RJ
end

section
set_option maxRecDepth 100000
set_option maxHeartbeats 4000000
namespace RJ
open PySem PySem.Spec PyProof.Rows L2

/-! ### the alphabet -/
/-- the signs that are drawn: all from blank to tilde but one -/
def SG : List Nat := ((List.range 127).drop 32).filter fun c => c != 37
theorem SG_len : SG.length = 94 := by decide +kernel
theorem SG_in : ∀ c ∈ SG, 32 ≤ c ∧ c ≤ 126 := by decide +kernel
/-- signs as values -/
def sv (ls : List Nat) : List Str := ls.map fun c => S [c]
theorem sv_inj {a b : Nat} (h : S [a] = S [b]) : a = b := by
  have := S_inj h
  exact List.head_eq_of_cons_eq this
theorem in_sv {c : Nat} {ls : List Nat} : inV (.str (S [c])) ((sv ls).map V.str) = decide (c ∈ ls) := by
  unfold inV sv
  rw [List.map_map, List.any_map]
  induction ls with
  | nil => rfl
  | cons d ls ih =>
    rw [List.any_cons, ih]
    show ((S [d] == S [c]) || decide (c ∈ ls)) = _
    by_cases h : d = c
    · subst h
      rw [beq_self_eq_true, Bool.true_or, decide_eq_true (List.mem_cons_self ..)]
    · rw [beq_eq_false_iff_ne.mpr fun e => h (sv_inj e), Bool.false_or]
      exact decide_eq_decide.mpr ⟨List.mem_cons_of_mem _, fun z => (List.mem_cons.mp z).resolve_left fun e => h e.symm⟩
theorem flat_sv (ls : List Nat) : ((sv ls).map V.str).all flatV = true := by
  unfold sv
  rw [List.map_map, List.all_map]
  exact List.all_eq_true.mpr fun _ _ => rfl
def hd1 (z : Str) : Nat := z.cps.toList.headD 0
theorem sv_perm {ys : List Str} {ls : List Nat} (h : ys.Perm (sv ls)) : ∃ al, ys = sv al ∧ al.Perm ls := by
  refine ⟨ys.map hd1, ?_, ?_⟩
  · unfold sv
    rw [List.map_map]
    conv => lhs; rw [← List.map_id ys]
    refine List.map_congr_left fun y hy => ?_
    obtain ⟨c, _, rfl⟩ := List.mem_map.mp (h.mem_iff.mp hy)
    rfl
  · have := h.map hd1
    unfold sv at this
    rw [List.map_map] at this
    have e : List.map (hd1 ∘ fun c => S [c]) ls = ls := by
      conv => rhs; rw [← List.map_id ls]
      exact List.map_congr_left fun c _ => rfl
    rw [e] at this; exact this
theorem asc_sorted : ∀ {al : List Nat}, sortedS (sv al) = true → al.Nodup → (ascL al).all id = true
  | [], _, _ => rfl
  | [_], _, _ => rfl
  | a :: b :: al, h, hn => by
    have h' : (!ltCps (S [b]).cps.toList (S [a]).cps.toList && risingS (S [b]) (sv al)) = true := h
    rw [Bool.and_eq_true, Bool.not_eq_true'] at h'
    have ih : (ascL (b :: al)).all id = true := asc_sorted (al := b :: al) h'.2 (List.nodup_cons.mp hn).2
    have hab : a ≠ b := fun e => (List.nodup_cons.mp hn).1 (e ▸ List.mem_cons_self ..)
    have hlt : a < b := by
      have h1 : ltCps [b] [a] = false := h'.1
      have h2 : ¬ b < a := fun z => by
        have : ltCps [b] [a] = true := by simp [ltCps, z]
        rw [this] at h1; cases h1
      omega
    show ((decide (a < b) :: ascL (b :: al)).all id) = true
    rw [List.all_cons, ih, decide_eq_true hlt]; rfl
theorem alOk_of {al : List Nat} (h1 : (ascL al).all id = true) (h2 : ∀ c ∈ al, c ∈ SG) (h3 : 1 ≤ al.length) (h4 : al.length ≤ 30) : alOk al = true := by
  unfold alOk
  rw [decide_eq_true ⟨h3, h4⟩, h1, Bool.true_and, Bool.true_and, List.all_map]
  exact List.all_eq_true.mpr fun c hc => decide_eq_true (SG_in c (h2 c hc))
theorem flat1 (al : List Nat) : (al.map fun c => [c]).flatten = al := by
  induction al with
  | nil => rfl
  | cons a al ih => rw [List.map_cons, List.flatten_cons, ih]; rfl
theorem join1 (al : List Nat) : PySem.Txt.join (S []) (sv al) = S al := by
  have e : sv al = (al.map fun c => [c]).map SX.S := by unfold sv; rw [List.map_map]; rfl
  rw [e, SX.join_S, joinL_nil, flat1]
theorem sum1 (al : List Nat) : ((sv al).map (·.length)).sum = al.length := by
  induction al with
  | nil => rfl
  | cons a al ih =>
    show (S [a]).length + ((sv al).map (·.length)).sum = _
    rw [ih, S_len, List.length_cons, List.length_cons, List.length_nil]; omega
def sp_alphabet : Sp := fun vs H Q _ => ∃ (p : Addr) (ns : List Nat) (k m : Nat), vs = [.ref p, .int (k : Int), .int (m : Int)] ∧ H p = some (.lst (iv ns)) ∧ k + m ≤ ns.length ∧ ns.length ≤ 1000 ∧ 1 ≤ m ∧ m ≤ 30 ∧
  ∀ H' al, Same H H' → alOk al = true → al.Nodup → 1 ≤ al.length → al.length ≤ 30 → ((∀ c ∈ al, c ∈ SG) ∧ al.length ≤ m) → Q (.str (S al)) H'
def sp_join_all : Sp := fun vs H Q _ => ∃ (p pr : Addr) (row : List Nat) (l r m : Nat), vs = [.ref p, .ref pr, .int (m : Int)] ∧ H p = some (.lst (iv row)) ∧ H pr = some (.tup (iv [l, r])) ∧ row.length ≤ 1000 ∧
  ∀ H' z, Same H H' → H z = none → H' z = some (.lst (iv (pass l r m row))) → Q (.ref z) H'
def nextAt (gone : Bool) (i : Nat) : Nat := bif gone then i + 1 else i
theorem shaped_ivT (l : List Nat) : SeqAt.shaped (.tuple (l.map fun (n : Nat) => PyData.int (n : Int))) = true := by
  have := shaped_iv l
  exact this
section
variable {P : Program} {w : World} {K : PySem.W.Frag} {mg : Str → Option Value} {base : Heap}
end
end RJ
end

section
set_option maxRecDepth 100000
set_option maxHeartbeats 4000000
namespace RJ
open PySem PySem.Spec PyProof.Rows L2

theorem Paired.both {α β : Type} {F : α → β → Prop} : ∀ {as : List α} {bs : List β} {i : Nat}, Paired F as bs → i < bs.length → ∃ a b, as[i]? = some a ∧ bs[i]? = some b ∧ F a b
  | _, _, _, .nil, h => absurd h (Nat.not_lt_zero _)
  | _, _, 0, .cons f _, _ => ⟨_, _, rfl, rfl, f⟩
  | _, _, i + 1, .cons _ t, h => Paired.both (i := i) t (Nat.lt_of_succ_lt_succ h)
def sp_staged : Sp := fun vs H Q _ => ∃ (p z : Addr) (us : List V) (ps : List (Nat × Nat)) (row : List Nat) (b : Nat), vs = [.int (b : Int), .ref p, .ref z] ∧ H p = some (.lst us) ∧ PairsAt H us ps ∧ H z = some (.lst (iv row)) ∧ row.length ≤ 1000 ∧ ps.length ≤ 1000 ∧
  ∀ H' y, Same H H' → H' y = some (.lst (iv (cutL b ps row))) → Q (.ref y) H'
def sp_is_proper : Sp := fun vs H Q _ => ∃ (al : List Nat) (tx pp pr : Addr) (us : List V) (ps : List (Nat × Nat)) (a b : Nat), vs = [.str (S al), .ref tx, .ref pp, .ref pr] ∧ H tx = some (.lst (strV (textsOf al ps))) ∧ H pp = some (.lst us) ∧ PairsAt H us ps ∧
  H pr = some (.tup (iv [a, b])) ∧ Proper al ps ∧ al.length ≤ 1000 ∧ ps.length ≤ 1000 ∧ a < (textsOf al ps).length ∧ b < (textsOf al ps).length ∧ ∀ H', Same H H' → Q (.bl (decide (okP al (textsOf al ps) ps (a, b)))) H'
section
variable {P : Program} {w : World} {K : PySem.W.Frag} {mg : Str → Option Value} {base : Heap}
end
end RJ
end

section
set_option maxRecDepth 100000
set_option maxHeartbeats 4000000
namespace RJ
open PySem PySem.Spec PyProof.Rows L2

theorem modOf {L : Nat} (hL : 1 ≤ L) (n : Int) : ∃ a : Nat, a < L ∧ n % (L : Int) = (a : Int) := by
  obtain ⟨a, h1, h2⟩ := emod_nat n (L : Int) (by omega)
  exact ⟨a, by omega, h1⟩
theorem lastOf {L : Nat} (hL : 1 ≤ L) (n : Int) : ∃ a : Nat, a < L ∧ (L : Int) - 1 - n % (if (L : Int) < 3 then (L : Int) else 3) = (a : Int) := by
  obtain ⟨c, h1, h2⟩ := emod_nat n (if (L : Int) < 3 then (L : Int) else 3) (by split <;> omega)
  rw [h1]
  refine ⟨L - 1 - c, by omega, ?_⟩
  split at h2 <;> omega
theorem signs_texts (al : List Nat) : signsV (S al) = strV (textsOf al []) := by
  unfold signsV strV textsOf
  rw [List.foldl_nil, List.map_map]; rfl
def sp_list : Sp := fun vs H Q _ => ∃ (p : Addr) (ns al : List Nat) (k m : Nat), vs = [.ref p, .int (k : Int), .str (S al), .int (m : Int)] ∧ H p = some (.lst (iv ns)) ∧ k + 2 * m ≤ ns.length ∧ ns.length ≤ 1000 ∧ al.length ≤ 500 ∧ 1 ≤ al.length ∧ m ≤ 100 ∧
  ∀ H' r pp tx us ps, Same H H' → H' r = some (.tup [.ref pp, .ref tx]) → H' pp = some (.lst us) → PairsAt H' us ps → H' tx = some (.lst (strV (textsOf al ps))) → Proper al ps → ps.length ≤ m → Q (.ref r) H'
section
variable {P : Program} {w : World} {K : PySem.W.Frag} {mg : Str → Option Value} {base : Heap}
end
end RJ
end

section
set_option maxRecDepth 100000
set_option maxHeartbeats 4000000
namespace RJ
open PySem PySem.Spec PyProof.Rows L2
/-! ### cutting by an own hand: mathematics -/
def nbAt (row : List Nat) (i : Nat) (p : Nat × Nat) : Prop := row[i]? = some p.1 ∧ row[i + 1]? = some p.2
theorem nb_mem {p : Nat × Nat} : ∀ {row : List Nat}, p ∈ adjs row → ∃ i, nbAt row i p
  | [], h => by cases h
  | [a], h => by cases h
  | a :: b :: t, h => by
    rw [adjs_cons2] at h
    rcases List.mem_cons.mp h with e | e
    · subst e; exact ⟨0, rfl, rfl⟩
    · obtain ⟨i, h1, h2⟩ := nb_mem (row := b :: t) e
      exact ⟨i + 1, h1, h2⟩
theorem nb_fun {row : List Nat} {i : Nat} {p q : Nat × Nat} (h : nbAt row i p) (g : nbAt row i q) : p = q := by
  obtain ⟨p1, p2⟩ := p
  obtain ⟨q1, q2⟩ := q
  have e1 : some p1 = some q1 := h.1.symm.trans g.1
  have e2 : some p2 = some q2 := h.2.symm.trans g.2
  cases e1; cases e2; rfl
theorem nb_split {row : List Nat} {i : Nat} {p : Nat × Nat} (h : nbAt row i p) : row = row.take i ++ p.1 :: p.2 :: row.drop (i + 2) := by
  have e1 := split_at h.1
  have e2 : row.drop (i + 1) = p.2 :: row.drop (i + 2) := by
    obtain ⟨h1, h2⟩ := List.getElem?_eq_some_iff.mp h.2
    rw [List.drop_eq_getElem_cons h1, h2]
  rw [e2] at e1; exact e1
theorem nb_front {row : List Nat} {i : Nat} {p : Nat × Nat} (h : nbAt row i p) (hno : ∀ m : Nat, m < i → ¬ nbAt row m p) : p ∉ adjs (row.take i ++ [p.1]) := fun hm => by
  have e : row.take i ++ [p.1] = row.take (i + 1) := by rw [take_succ_of h.1]
  rw [e] at hm
  obtain ⟨m, h1, h2⟩ := nb_mem hm
  rw [List.getElem?_take] at h1 h2
  by_cases c : m + 1 < i + 1
  · rw [if_pos (by omega)] at h1
    rw [if_pos c] at h2
    exact hno m (by omega) ⟨h1, h2⟩
  · rw [if_neg c] at h2; cases h2
def Scan (ps : List (Nat × Nat)) (row : List Nat) (k best place : Nat) : Prop :=
  best ≤ ps.length ∧ (∀ (i : Nat) (q : Nat × Nat), i < k → nbAt row i q → ∀ j : Nat, j < best → ps[j]? ≠ some q) ∧ (best < ps.length → ∃ p, ps[best]? = some p ∧ nbAt row place p ∧ ∀ i : Nat, i < place → ¬ nbAt row i p)
theorem Scan.zero (ps : List (Nat × Nat)) (row : List Nat) : Scan ps row 0 ps.length 0 := ⟨Nat.le_refl _, fun i q h => absurd h (Nat.not_lt_zero _), fun h => absurd h (Nat.lt_irrefl _)⟩
theorem Scan.keep {ps : List (Nat × Nat)} {row : List Nat} {k best place : Nat} (h : Scan ps row k best place) (g : ∀ q, nbAt row k q → ∀ j : Nat, j < best → ps[j]? ≠ some q) : Scan ps row (k + 1) best place := by
  obtain ⟨h1, h2, h3⟩ := h
  refine ⟨h1, fun i q hi hq => ?_, h3⟩
  by_cases c : i = k
  · subst c; exact g q hq
  · exact h2 i q (by omega) hq
theorem Scan.put {ps : List (Nat × Nat)} {row : List Nat} {k best place j : Nat} {q : Nat × Nat} (h : Scan ps row k best place) (hq : nbAt row k q) (hj : ps[j]? = some q) (hmin : ∀ m : Nat, m < j → ps[m]? ≠ some q) (hlt : j < best) : Scan ps row (k + 1) j k := by
  obtain ⟨h1, h2, h3⟩ := h
  refine ⟨by omega, fun i q' hi hq' m hm => ?_, fun _ => ⟨q, hj, hq, fun i hi hn => h2 i q hi hn j hlt hj⟩⟩
  by_cases c : i = k
  · subst c; rw [nb_fun hq' hq]; exact hmin m hm
  · exact h2 i q' (by omega) hq' m (by omega)
theorem Scan.still {b : Nat} {ps : List (Nat × Nat)} {row : List Nat} {k place : Nat} (h : Scan ps row k ps.length place) (hk : row.length ≤ k + 1) : cutL b ps row = row := by
  refine cut_done fun p hp hm => ?_
  obtain ⟨i, hi⟩ := nb_mem hm
  obtain ⟨j, hj⟩ := List.getElem?_of_mem hp
  have hjl := (List.getElem?_eq_some_iff.mp hj).1
  have hil := (List.getElem?_eq_some_iff.mp hi.2).1
  exact h.2.1 i p (by omega) hi j hjl hj
theorem Scan.step {b : Nat} {ps : List (Nat × Nat)} (hw : WF b ps) {row : List Nat} {k best place : Nat} (h : Scan ps row k best place) (hk : row.length ≤ k + 1) (hlt : best < ps.length) :
    cutL b ps (row.take place ++ (b + best) :: row.drop (place + 2)) = cutL b ps row ∧ (row.take place ++ (b + best) :: row.drop (place + 2)).length + 1 = row.length := by
  obtain ⟨h1, h2, h3⟩ := h
  obtain ⟨p, hp, hn, hno⟩ := h3 hlt
  have hl := (List.getElem?_eq_some_iff.mp hn.2).1
  refine ⟨?_, ?_⟩
  · have e := nb_split hn
    have := cut_first hw hp (u := row.take place) (v := row.drop (place + 2)) (nb_front hn hno) (fun j q hj hq hm => by
      rw [← e] at hm
      obtain ⟨i, hi⟩ := nb_mem hm
      have hil := (List.getElem?_eq_some_iff.mp hi.2).1
      exact h2 i q (by omega) hi j hj hq)
    rw [this, ← e]
  · rw [List.length_append, List.length_cons, List.length_take, List.length_drop]; omega
theorem first_at {p : Nat × Nat} : ∀ {ps : List (Nat × Nat)}, p ∈ ps → ∃ j : Nat, ps[j]? = some p ∧ ∀ m : Nat, m < j → ps[m]? ≠ some p
  | [], h => by cases h
  | q :: ps, h => by
    by_cases c : q = p
    · subst c; exact ⟨0, rfl, fun (m : Nat) (hm : m < 0) => absurd hm (Nat.not_lt_zero _)⟩
    · obtain ⟨j, h1, h2⟩ := first_at ((List.mem_cons.mp h).resolve_left fun e => c e.symm)
      refine ⟨j + 1, h1, fun m hm => ?_⟩
      cases m with
      | zero => exact fun e => c (Option.some.inj e)
      | succ m => exact h2 m (by omega)
/-! ### pairs as data -/
def pairD (p : Nat × Nat) : PyData := .tuple ([p.1, p.2].map fun (n : Nat) => PyData.int (n : Int))
theorem eqv_pair (p q : Nat × Nat) : PyData.eqv (pairD p) (pairD q) = decide (p = q) := by
  unfold pairD
  rw [PyData.eqv, eqv_iv]
  refine decide_eq_decide.mpr ?_
  obtain ⟨a, b⟩ := p
  obtain ⟨c, d⟩ := q
  simp
theorem any_pair (p : Nat × Nat) (ps : List (Nat × Nat)) : ((ps.map pairD).any fun z => PyData.eqv z (pairD p)) = decide (p ∈ ps) := by
  rw [List.any_map]
  induction ps with
  | nil => rfl
  | cons q ps ih =>
    rw [List.any_cons, ih]
    show (PyData.eqv (pairD q) (pairD p) || decide (p ∈ ps)) = _
    rw [eqv_pair]
    by_cases c : q = p
    · subst c; simp
    · rw [decide_eq_false c, Bool.false_or]
      exact decide_eq_decide.mpr ⟨List.mem_cons_of_mem _, fun h => (List.mem_cons.mp h).resolve_left fun e => c e.symm⟩
theorem dp_pairs {K : PySem.W.Frag} {H : Hp} : ∀ {us : List V} {ps : List (Nat × Nat)}, PairsAt H us ps → DpAll K H us (ps.map pairD)
  | _, _, .nil => .nil
  | _, _, .cons h t => by
    obtain ⟨q, rfl, hq⟩ := h
    exact .cons (.tup (SqT.of hq) (iv_dp [_, _])) (dp_pairs t)
theorem shaped_pair (p : Nat × Nat) : SeqAt.shaped (pairD p) = true := shaped_ivT [p.1, p.2]
theorem shaped_pairs (ps : List (Nat × Nat)) : SeqAt.shaped (.list (ps.map pairD)) = true := by
  have h1 : PyData.canLayAll0 (ps.map pairD) = true := by
    induction ps with
    | nil => simp [PyData.canLayAll0]
    | cons p ps ih => rw [List.map_cons, PyData.canLayAll0, ih]; simp [pairD, PyData.canLay0, PyData.canLayAll0]
  have h2 : PyData.depthAll (ps.map pairD) ≤ 1 := by
    clear h1
    induction ps with
    | nil => simp [PyData.depthAll]
    | cons p ps ih =>
      rw [List.map_cons, PyData.depthAll]
      have : PyData.depth (pairD p) = 1 := by simp [pairD, PyData.depth, PyData.depthAll]
      omega
  unfold SeqAt.shaped
  rw [PyData.canLay0, h1, PyData.depth, Bool.true_and]
  exact decide_eq_true (by omega)
theorem get_pairD {ps : List (Nat × Nat)} {m : Nat} {z : PyData} (h : (ps.map pairD)[m]? = some z) : ∃ q, ps[m]? = some q ∧ z = pairD q := by
  rw [List.getElem?_map] at h
  cases e : ps[m]? with
  | none => rw [e] at h; cases h
  | some q => rw [e] at h; exact ⟨q, rfl, (Option.some.inj h).symm⟩
end RJ
end

section
set_option maxRecDepth 100000
set_option maxHeartbeats 8000000
namespace RJ
open PySem PySem.Spec PyProof.Rows L2
def sp_slow : Sp := fun vs H Q _ => ∃ (pp : Addr) (us : List V) (ps : List (Nat × Nat)) (al t : List Nat), vs = [.str (S al), .ref pp, .str (S t)] ∧ H pp = some (.lst us) ∧ PairsAt H us ps ∧ WF al.length ps ∧ ps.length ≤ 1000 ∧ al.length ≤ 1000 ∧
  (∀ c ∈ t, c ∈ al) ∧ t.length ≤ 900 ∧ ∀ H' z, Same H H' → H' z = some (.tup (iv (cutL al.length ps (lets al t)))) → Q (.ref z) H'
theorem cut_to (l : List Nat) (k : Nat) : cutV (iv l) none (some (k : Int)) = iv (l.take k) := by
  unfold cutV
  rw [HT.sIx_nat, HT.sIx_none, List.drop_zero, iv_len, Nat.sub_zero]
  unfold iv
  rw [List.map_take]
  by_cases h : k ≤ l.length
  · rw [Nat.min_eq_left h]
  · rw [Nat.min_eq_right (by omega), List.take_of_length_le (by rw [List.length_map]; exact Nat.le_refl _), List.take_of_length_le (by rw [List.length_map]; omega)]
theorem cut_on (l : List Nat) (k : Nat) : cutV (iv l) (some (k : Int)) none = iv (l.drop k) := by
  unfold cutV
  rw [HT.sIx_nat, HT.sIx_none, iv_len]
  unfold iv
  rw [List.map_drop]
  by_cases h : k ≤ l.length
  · rw [Nat.min_eq_left h, List.take_of_length_le (by rw [List.length_drop, List.length_map]; exact Nat.le_refl _)]
  · rw [Nat.min_eq_right (by omega), List.drop_eq_nil_of_le (by rw [List.length_map]; exact Nat.le_refl _), List.drop_eq_nil_of_le (by rw [List.length_map]; omega)]
    exact List.take_nil
theorem iv_mid (u v : List Nat) (n : Nat) : iv u ++ [V.int (n : Int)] ++ iv v = iv (u ++ n :: v) := by
  unfold iv
  rw [List.map_append, List.map_cons, List.append_assoc]; rfl
theorem index_at {K : PySem.W.Frag} {H : Hp} {pp z : Addr} {us : List V} {ps : List (Nat × Nat)} {a b j : Nat} {Q : VK} (hpp : H pp = some (.lst us)) (hps : PairsAt H us ps) (hz : H z = some (.tup (iv [a, b]))) (hj : ps[j]? = some (a, b)) (hmin : ∀ m : Nat, m < j → ps[m]? ≠ some (a, b))
    (q : Q (.int (j : Int)) H) : rIndexD K (.ref pp) [.ref z] H Q := by
  refine ⟨pp, .ref z, pairD (a, b), ps.map pairD, j, pairD (a, b), rfl, rfl, .lst (SqL.of hpp) (dp_pairs hps), .tup (SqT.of hz) (iv_dp [a, b]), shaped_pairs ps, shaped_pair (a, b), ?_, ?_, fun m z' hm hz' => ?_, q⟩
  · rw [List.getElem?_map, hj]; rfl
  · rw [eqv_pair]; exact decide_eq_true rfl
  · obtain ⟨p, hp, rfl⟩ := get_pairD hz'
    rw [eqv_pair]
    exact decide_eq_false fun e => hmin m hm (by rw [hp, e])
section
variable {P : Program} {w : World} {K : PySem.W.Frag} {mg : Str → Option Value} {base : Heap}
end
end RJ
end

section
set_option maxRecDepth 100000
set_option maxHeartbeats 8000000
namespace RJ
open PySem PySem.Spec PyProof.Rows L2
abbrev s_law : Stmt := top 49
abbrev N_law : List Str := ["script", "pool", "alphabet", "made", "joins", "small", "texts", "counts", "low", "high", "many", "sides", "text"]
theorem sc_law : FnScope N_law ["script"] (C8.fnScope s_law) := C8.fnScope_by (by decide +kernel)
/-! ### cutting keeps the text -/
end RJ
end

section
set_option maxRecDepth 100000
set_option maxHeartbeats 4000000
namespace RJ
open PySem PySem.Spec PyProof.Rows L2
open PySem.W (minD AlikeAll alike alikeAll dataLt)
abbrev s_Joins_rank_of : Stmt := inClass (top 36) 7
abbrev N_Joins_rank_of : List Str := ["self", "left", "right"]
theorem sc_Joins_rank_of : FnScope N_Joins_rank_of ["self", "left", "right"] (C8.fnScope s_Joins_rank_of) := C8.fnScope_by (by decide +kernel)
abbrev s_Joins_parts_of : Stmt := inClass (top 36) 6
abbrev N_Joins_parts_of : List Str := ["self", "piece"]
theorem sc_Joins_parts_of : FnScope N_Joins_parts_of ["self", "piece"] (C8.fnScope s_Joins_parts_of) := C8.fnScope_by (by decide +kernel)
abbrev s_spine : Stmt := top 2
abbrev N_spine : List Str := ["joins", "piece", "side", "steps", "parts", "left", "right"]
theorem sc_spine : FnScope N_spine ["joins", "piece", "side"] (C8.fnScope s_spine) := C8.fnScope_by (by decide +kernel)
abbrev s_right_spine : Stmt := top 3
abbrev N_right_spine : List Str := ["joins", "piece"]
theorem sc_right_spine : FnScope N_right_spine ["joins", "piece"] (C8.fnScope s_right_spine) := C8.fnScope_by (by decide +kernel)
abbrev s_left_spine : Stmt := top 4
abbrev N_left_spine : List Str := ["joins", "piece"]
theorem sc_left_spine : FnScope N_left_spine ["joins", "piece"] (C8.fnScope s_left_spine) := C8.fnScope_by (by decide +kernel)
abbrev s_is_ahead_in_left : Stmt := top 5
abbrev N_is_ahead_in_left : List Str := ["rank", "bound"]
theorem sc_is_ahead_in_left : FnScope N_is_ahead_in_left ["rank", "bound"] (C8.fnScope s_is_ahead_in_left) := C8.fnScope_by (by decide +kernel)
abbrev s_is_ahead_in_right : Stmt := top 6
abbrev N_is_ahead_in_right : List Str := ["rank", "bound"]
theorem sc_is_ahead_in_right : FnScope N_is_ahead_in_right ["rank", "bound"] (C8.fnScope s_is_ahead_in_right) := C8.fnScope_by (by decide +kernel)
/-- a bound -/
def bdV : Option Nat → V
  | none => .non
  | some k => .int (k : Int)
/-- the parts of x, or nothing -/
def PartAt (al : List Nat) (ps : List (Nat × Nat)) (x : Nat) (H : Hp) (v : V) : Prop := (v = .non ∧ x < al.length) ∨ ∃ j pr g, v = .ref g ∧ x = al.length + j ∧ ps[j]? = some pr ∧ H g = some (.tup (iv [pr.1, pr.2]))
def sp_partsG (C : Addr) : Sp := fun vs H Q _ => ∃ (p : Addr) (al : List Nat) (ps : List (Nat × Nat)) (x : Nat), vs = [.ref p, .int (x : Int)] ∧ JoinsAt C H p al ps ∧ al.length ≤ 1000 ∧ x < al.length + ps.length ∧
  ∀ v, PartAt al ps x H v → Q v H
def sp_rank (C : Addr) : Sp := fun vs H Q _ => ∃ (p : Addr) (al : List Nat) (ps : List (Nat × Nat)) (x y : Nat), vs = [.ref p, .int (x : Int), .int (y : Int)] ∧ JoinsAt C H p al ps ∧ x < al.length + ps.length ∧ y < al.length + ps.length ∧
  ∀ H', Same H H' → Q (bdV (if (x, y) ∈ ps then some (ps.idxOf (x, y)) else none)) H'
/-- an entry of a spine -/
def StepAt (H : Hp) (v : V) (e : Nat × Option Nat) : Prop := ∃ q, v = .ref q ∧ H q = some (.tup [.int (e.1 : Int), bdV e.2])
theorem StepAt.same {H H' : Hp} {v : V} {e : Nat × Option Nat} (s : SameT H H') (h : StepAt H v e) : StepAt H' v e := by
  obtain ⟨q, h1, h2⟩ := h
  exact ⟨q, h1, s _ _ h2⟩
def sdOf (k : Nat) : Nat × Nat → Nat := if k = 1 then Prod.snd else Prod.fst
theorem sdOf_side (k : Nat) : Side (sdOf k) := by
  unfold sdOf
  split
  · exact side2
  · exact side1
def sp_spine (C : Addr) : Sp := fun vs H Q _ => ∃ (p : Addr) (al : List Nat) (ps : List (Nat × Nat)) (x k : Nat), vs = [.ref p, .int (x : Int), .int (k : Int)] ∧ JoinsAt C H p al ps ∧ Proper al ps ∧ al.length ≤ 400 ∧ ps.length ≤ 400 ∧ x < al.length + ps.length ∧ k < 2 ∧
  ∀ H' q us es, Same H H' → H' q = some (.tup us) → Paired (StepAt H') us es → IsSpine al.length ps (sdOf k) x es → es.length ≤ 1000 → Q (.ref q) H'
def sp_rspine (k : Nat) (C : Addr) : Sp := fun vs H Q _ => ∃ (p : Addr) (al : List Nat) (ps : List (Nat × Nat)) (x : Nat), vs = [.ref p, .int (x : Int)] ∧ JoinsAt C H p al ps ∧ Proper al ps ∧ al.length ≤ 400 ∧ ps.length ≤ 400 ∧ x < al.length + ps.length ∧
  ∀ H' q us es, Same H H' → H' q = some (.tup us) → Paired (StepAt H') us es → IsSpine al.length ps (sdOf k) x es → es.length ≤ 1000 → Q (.ref q) H'
def sp_aheadL : Sp := fun vs H Q _ => ∃ (r : Nat) (bd : Option Nat), vs = [.int (r : Int), bdV bd] ∧ (∀ k : Bool, (k = true ↔ upTo (r + 1) bd) → Q (.bl k) H)
def sp_aheadR : Sp := fun vs H Q _ => ∃ (r : Nat) (bd : Option Nat), vs = [.int (r : Int), bdV bd] ∧ (∀ k : Bool, (k = true ↔ upTo r bd) → Q (.bl k) H)
def sp_time : Sp := fun vs H Q _ => ∃ (r : Nat) (bl br : Option Nat), vs = [.int (r : Int), bdV bl, bdV br] ∧ (∀ k : Bool, (k = true ↔ upTo (r + 1) bl ∧ upTo r br) → Q (.bl k) H)
def sp_crossing (C : Addr) : Sp := fun vs H Q _ => ∃ (p : Addr) (al : List Nat) (ps : List (Nat × Nat)) (x y : Nat), vs = [.ref p, .int (x : Int), .int (y : Int)] ∧ JoinsAt C H p al ps ∧ Proper al ps ∧ al.length ≤ 400 ∧ ps.length ≤ 400 ∧ x < al.length + ps.length ∧ y < al.length + ps.length ∧
  ∀ H' c, Same H H' → CrossIs al.length ps x y c → Q (bdV c) H'
def sp_sides (C : Addr) : Sp := fun vs H Q _ => ∃ (p : Addr) (al : List Nat) (ps : List (Nat × Nat)) (x y : Nat), vs = [.ref p, .int (x : Int), .int (y : Int)] ∧ JoinsAt C H p al ps ∧ Proper al ps ∧ al.length ≤ 400 ∧ ps.length ≤ 400 ∧ x < al.length + ps.length ∧ y < al.length + ps.length ∧
  ∀ H' c, Same H H' → CrossIs al.length ps x y c → Q (.bl c.isNone) H'
theorem bdV_none {c : Option Nat} : decide (bdV c = V.non) = c.isNone := by
  cases c with
  | none => exact decide_eq_true rfl
  | some k => exact decide_eq_false (by intro h; cases h)
section
variable {P : Program} {w : World} {K : PySem.W.Frag} {mg : Str → Option Value} {base : Heap}
theorem ok_partsG {f C : Addr} {fd : FuncData} (F : C8.Fun K "parts_of" "Joins.parts_of" s_Joins_parts_of f fd) (T : Txt K mg) (J : JTxt K C) (m_check_piece : C8.Met P w K mg base 4 C "check_piece" (sp_check_piece C) []) : FnOk P w K mg base C8.CX0 5 f fd ["self", "piece"] (sp_partsG C) := by
  refine C8.fn0 F sc_Joins_parts_of (fun vs H Q E h => ?_) (fun cdv A outer s H vs Q E hr h => ?_)
  · obtain ⟨p, al, ps, x, rfl, _⟩ := h; rfl
  · obtain ⟨p, al, ps, x, rfl, hj, hal, hx, q⟩ := h
    obtain ⟨dx, t, tx, d, e, ws, h1, h2, h3, h4, h5, h6⟩ := id hj
    refine ⟨_, (pss_cons (ps_expr (C8.pe_mt m_check_piece hr (by first | decide | omega) (pv 0) (pa_cons (pv 1) pa_nil)))
      (pss_cons (ps_if (pt_cmpR op_lt (pv 1) (pe_callB call_len_str (by rfl) T.b_len PySem.boot_len (pa_cons (pe_fld (pv 0) rfl) pa_nil)) (nomark _)) (pss_one (ps_ret pe_non)) pss_nil)
      (pss_one (ps_ret (pe_ix ix_tup (pe_fld (pv 0) rfl) (pe_op op_sub (pv 1) (pe_callB call_len_str (by rfl) T.b_len PySem.boot_len (pa_cons (pe_fld (pv 0) rfl) pa_nil))) (fun _ _ => rfl)))))), ?_⟩
    refine ⟨_, rfl, p, dx, _, rfl, h1, f5_no al t tx d e (by decide +kernel) (by decide +kernel) (by decide +kernel) (by decide +kernel) (by decide +kernel), _, rfl, p, x, al, ps, rfl, hj, by omega, ?_⟩
    refine ⟨_, rfl, _, rfl, p, C, dx, _, _, rfl, h1, J.cl, J.n1, f5_alphabet al t tx d e, S al, rfl, by rw [S_len]; exact small_le hal, _, _, rfl, rfl, _, rfl, ?_⟩
    rw [S_len]
    by_cases c : x < al.length
    · rw [decide_eq_true (by omega : (x : Int) < (al.length : Int))]
      exact iteT (q _ (.inl ⟨rfl, c⟩))
    · rw [decide_eq_false (by omega : ¬ (x : Int) < (al.length : Int))]
      obtain ⟨j, rfl⟩ : ∃ j, x = al.length + j := ⟨x - al.length, by omega⟩
      obtain ⟨pr, hpr⟩ : ∃ pr, ps[j]? = some pr := ⟨_, List.getElem?_eq_getElem (by omega)⟩
      obtain ⟨u, hu, g, rfl, hg⟩ := Paired.at2 h3 hpr
      refine iteF ⟨_, rfl, p, C, dx, _, _, rfl, h1, J.cl, J.n2, f5_pairs al t tx d e, _, rfl, _, rfl, p, C, dx, _, _, rfl, h1, J.cl, J.n1, f5_alphabet al t tx d e, S al, rfl, by rw [S_len]; exact small_le hal, _, _, rfl, rfl, t, _, _, _, rfl, rfl, SqT.of h2, ?_, q _ (.inr ⟨j, pr, g, rfl, rfl, hpr, hg⟩)⟩
      rw [S_len, show ((al.length + j : Nat) : Int) - (al.length : Int) = (j : Int) by omega]
      exact atI_nat hu
theorem ok_rank {f C : Addr} {fd : FuncData} (F : C8.Fun K "rank_of" "Joins.rank_of" s_Joins_rank_of f fd) (T : Txt K mg) (J : JTxt K C) (m_check_piece : C8.Met P w K mg base 4 C "check_piece" (sp_check_piece C) []) : FnOk P w K mg base C8.CX0 5 f fd ["self", "left", "right"] (sp_rank C) := by
  refine C8.fn0 F sc_Joins_rank_of (fun vs H Q E h => ?_) (fun cdv A outer s H vs Q E hr h => ?_)
  · obtain ⟨p, al, ps, x, y, rfl, _⟩ := h; rfl
  · obtain ⟨p, al, ps, x, y, rfl, hj, hx, hy, q⟩ := h
    have hu := hu_of hr
    obtain ⟨dx, t, tx, d, e, ws, h1, h2, h3, h4, h5, h6⟩ := id hj
    refine ⟨_, (pss_cons (ps_expr (C8.pe_mt m_check_piece hr (by first | decide | omega) (pv 0) (pa_cons (pv 1) pa_nil)))
      (pss_cons (ps_expr (C8.pe_mt m_check_piece hr (by first | decide | omega) (pv 0) (pa_cons (pv 2) pa_nil)))
      (pss_one (ps_ret (pe_dget1 hu (pe_fld (pv 0) rfl) (pe_tup (pa_cons (pv 1) (pa_cons (pv 2) pa_nil))) ⟨by rfl, by rfl, by rfl, by rfl⟩))))), ?_⟩
    refine ⟨_, rfl, p, dx, _, rfl, h1, f5_no al t tx d e (by decide +kernel) (by decide +kernel) (by decide +kernel) (by decide +kernel) (by decide +kernel), _, rfl, p, x, al, ps, rfl, hj, hx, ?_⟩
    refine ⟨_, rfl, p, dx, _, rfl, h1, f5_no al t tx d e (by decide +kernel) (by decide +kernel) (by decide +kernel) (by decide +kernel) (by decide +kernel), _, rfl, p, y, al, ps, rfl, hj, hy, ?_⟩
    refine ⟨_, rfl, p, C, dx, _, _, rfl, h1, J.cl, J.n4, f5_ranks al t tx d e, d, rfl, .inr ⟨_, .inl h5⟩, _, rfl, _, rfl, by show 2 ≤ sizeLine; decide, fun z hz => ?_⟩
    have hg : DGet (upd H z (.tup [.int (x : Int), .int (y : Int)])) d (.ref z) (if (x, y) ∈ ps then some (V.int ((0 + ps.idxOf (x, y) : Nat) : Int)) else none) := by
      rw [← kvsF_get]
      exact DGet.t (k := pkey (x, y)) (same_new hz _ _ h5) upd_same
    refine ⟨_, hg, ?_⟩
    have := q _ (same_new (o := .tup [.int (x : Int), .int (y : Int)]) hz)
    by_cases c : (x, y) ∈ ps
    · rw [if_pos c] at this ⊢
      rw [Nat.zero_add]; exact this
    · rw [if_neg c] at this ⊢
      exact this
theorem ok_spine {f C : Addr} {fd : FuncData} (F : C8.Fun K "spine" "spine" s_spine f fd) (T : Txt K mg) (J : JTxt K C) (m_parts_of : C8.Met P w K mg base 5 C "parts_of" (sp_partsG C) []) (m_rank_of : C8.Met P w K mg base 5 C "rank_of" (sp_rank C) []) : FnOk P w K mg base C8.CX0 6 f fd ["joins", "piece", "side"] (sp_spine C) := by
  refine C8.fn0 F sc_spine (fun vs H Q E h => ?_) (fun cdv A outer s H vs Q E hr h => ?_)
  · obtain ⟨p, al, ps, x, k, rfl, _⟩ := h; rfl
  · obtain ⟨p, al, ps, x, k, rfl, hj, hprop, hal, hpl, hx, hk, q⟩ := h
    have hw := hprop.wf
    have met : ∀ H', Same H H' → ∃ dx fs, H' p = some (.ins C dx fs) ∧ fs.lookup ("parts_of" : Str) = none ∧ fs.lookup ("rank_of" : Str) = none := fun H' s' => by
      obtain ⟨dx, t, tx, d, e, ws, h1, _⟩ := hj.same s'
      exact ⟨dx, _, h1, f5_no al t tx d e (by decide +kernel) (by decide +kernel) (by decide +kernel) (by decide +kernel) (by decide +kernel), f5_no al t tx d e (by decide +kernel) (by decide +kernel) (by decide +kernel) (by decide +kernel) (by decide +kernel)⟩
    refine ⟨_, (pss_cons (ps_set (i := 3) sc_spine.nd rfl (Or.inl rfl) (pe_lst (pa_cons (pe_tup (pa_cons (pv 1) (pa_cons pe_non pa_nil))) pa_nil)))
      (pss_cons (ps_set (i := 4) sc_spine.nd rfl (Or.inl rfl) (C8.pe_mt m_parts_of hr (by first | decide | omega) (pv 0) (pa_cons (pv 1) pa_nil)))
      (pss_cons (ps_while PassesOwn.never (pt_cmpR op_notN (pv 4) pe_non (nomark _)) (pss_cons (ps_asg (pv 4) (pg_tup rfl (pgs_cons (pg_name (i := 5) sc_spine.nd rfl (Or.inl rfl)) (pgs_cons (pg_name (i := 6) sc_spine.nd rfl (Or.inl rfl)) pgs_nil))))
      (pss_cons (ps_expr (pe_bm PySem.F.plainAttrs_list PySem.F.slot_list_append PySem.F.type_list_append mt_append (pv 3) (pa_cons (pe_tup (pa_cons (pe_ix ix_tup (pv 4) (pv 2) (fun _ _ => rfl)) (pa_cons (C8.pe_mt m_rank_of hr (by first | decide | omega) (pv 0) (pa_cons (pv 5) (pa_cons (pv 6) pa_nil))) pa_nil))) pa_nil)))
      (pss_one (ps_set (i := 4) sc_spine.nd rfl (Or.inl rfl) (C8.pe_mt m_parts_of hr (by first | decide | omega) (pv 0) (pa_cons (pe_ix ix_tup (pv 4) (pv 2) (fun _ _ => rfl)) pa_nil)))))))
      (pss_one (ps_ret (pe_tupleOf (by rfl) T.b_tuple (pv 3))))))), ?_⟩
    refine ⟨_, rfl, by show 2 ≤ sizeLine; decide, fun z hz => ⟨by show 1 ≤ sizeLine; decide, fun D hD => ?_⟩⟩
    have s0 : Same H (upd (upd H z (.tup [.int (x : Int), .non])) D (.lst [.ref z])) := Same.new (same_new hz) hD
    have hD0 : H D = none := (same_new hz).free hD
    have hz0 : (upd (upd H z (.tup [.int (x : Int), .non])) D (.lst [.ref z])) z = some (.tup [.int (x : Int), .non]) := (upd_ne (ne_of_none upd_same hD)).trans upd_same
    obtain ⟨dx0, fs0, i1, i2, i3⟩ := met _ s0
    refine ⟨_, rfl, p, dx0, fs0, rfl, i1, i2, _, rfl, p, al, ps, x, rfl, hj.same s0, by omega, hx, fun v hv => ?_⟩
    refine ⟨fun m σ H' => ∃ (y : Nat) (v : V) (v5 v6 : Option V) (us : List V) (es : List (Nat × Option Nat)), σ = [some (.ref p), some (.int (x : Int)), some (.int (k : Int)), some (.ref D), some v, v5, v6] ∧ Same H H' ∧ H' D = some (.lst us) ∧ Paired (StepAt H') us es ∧ IsSpineTo al.length ps (sdOf k) x es y ∧ y < al.length + ps.length ∧ es.length + y ≤ x + 1 ∧ PartAt al ps y H' v ∧ m = y,
      ⟨x, x, v, none, none, _, _, rfl, s0, upd_same, .cons ⟨z, rfl, hz0⟩ .nil, IsSpineTo.start x, hx, by show 1 + x ≤ x + 1; omega, hv, rfl⟩, ?_⟩
    rintro m σ H2 ⟨y, v, v5, v6, us, es, rfl, s2, hD2, hus, hsp, hy, hle, hv, rfl⟩
    refine ⟨_, rfl, rfl, _, rfl, ?_⟩
    rcases hv with ⟨rfl, hlow⟩ | ⟨j, pr, g, rfl, rfl, hpr, hg⟩
    · refine iteF ⟨_, rfl, .inl ⟨D, us, rfl, SqL.of hD2, fun t ht => ?_⟩⟩
      exact q _ t us es (Same.new s2 ht) upd_same (Paired.mapP hus fun _ _ h => StepAt.same (Same.t (same_new ht)) h) (hsp.done hlow) (by omega)
    · refine iteT ?_
      have hj' := hw j pr hpr
      refine ⟨fun σ' H' => ∃ m', m' < al.length + j ∧ ∃ (y : Nat) (v : V) (v5 v6 : Option V) (us : List V) (es : List (Nat × Option Nat)), σ' = [some (.ref p), some (.int (x : Int)), some (.int (k : Int)), some (.ref D), some v, v5, v6] ∧ Same H H' ∧ H' D = some (.lst us) ∧ Paired (StepAt H') us es ∧ IsSpineTo al.length ps (sdOf k) x es y ∧ y < al.length + ps.length ∧ es.length + y ≤ x + 1 ∧ PartAt al ps y H' v ∧ m' = y, fun σ' H' z => z, ?_⟩
      have hsd : atI [V.int (pr.1 : Int), V.int (pr.2 : Int)] (k : Int) = some (V.int (sdOf k pr : Int)) := by
        have : k = 0 ∨ k = 1 := by omega
        rcases this with rfl | rfl <;> rfl
      have hlt : sdOf k pr < al.length + j := by rcases sdOf_side k pr with e | e <;> rw [e] <;> omega
      have hul : us.length = es.length := hus.length
      obtain ⟨dx1, fs1, j1, j2, j3⟩ := met _ s2
      refine ⟨_, rfl, g, _, rfl, SqT.of hg, rfl, _, _, rfl, _, _, rfl, rfl, ?_⟩
      refine ⟨_, rfl, .inl ⟨rfl, _, SqL.of hD2⟩, _, rfl, _, rfl, g, _, _, _, rfl, rfl, SqT.of hg, hsd, _, rfl, p, dx1, fs1, rfl, j1, j3, _, rfl, _, rfl, p, al, ps, pr.1, pr.2, rfl, hj.same s2, by omega, by omega, fun H3 s3 => ?_⟩
      rw [if_pos (List.mem_of_getElem? hpr), hprop.idx hpr]
      refine ⟨by show 2 ≤ sizeLine; decide, fun t ht => ?_⟩
      have s4 : Same H2 (upd H3 t (.tup [.int (sdOf k pr : Int), .int (j : Int)])) := Same.new s3 ht
      have hD4 := s4 _ _ hD2
      refine ⟨D, us, _, rfl, rfl, hD4, small1000 (by omega), ?_⟩
      have sT : SameT (upd H3 t (.tup [.int (sdOf k pr : Int), .int (j : Int)])) (upd (upd H3 t (.tup [.int (sdOf k pr : Int), .int (j : Int)])) D (.lst (us ++ [.ref t]))) := SameT.put hD4
      have s5 : Same H (upd (upd H3 t (.tup [.int (sdOf k pr : Int), .int (j : Int)])) D (.lst (us ++ [.ref t]))) := Same.put (s2.trans s4) hD0
      obtain ⟨dx2, fs2, l1, l2, _⟩ := met _ s5
      have hg5 := sT _ _ (s4 _ _ hg)
      refine ⟨_, rfl, p, dx2, fs2, rfl, l1, l2, _, rfl, _, rfl, g, _, _, _, rfl, rfl, SqT.of hg5, hsd, p, al, ps, sdOf k pr, rfl, hj.same s5, by omega, by omega, fun v' hv' => ?_⟩
      refine ⟨_, hlt, _, v', _, _, us ++ [.ref t], es ++ [(sdOf k pr, some j)], rfl, s5, upd_same, Paired.snoc ⟨t, rfl, sT _ _ upd_same⟩ (Paired.mapP hus fun _ _ h => StepAt.same sT (StepAt.same (Same.t s4) h)), hsp.next hpr, by omega, ?_, hv', rfl⟩
      rw [List.length_append, List.length_singleton]; omega
theorem ok_rspine {f C : Addr} {fd : FuncData} (F : C8.Fun K "right_spine" "right_spine" s_right_spine f fd) (T : Txt K mg) (J : JTxt K C) (c_spine : C8.Cal P w K mg base 6 "spine" (sp_spine C) []) : FnOk P w K mg base C8.CX0 7 f fd ["joins", "piece"] (sp_rspine 1 C) := by
  refine C8.fn0 F sc_right_spine (fun vs H Q E h => ?_) (fun cdv A outer s H vs Q E hr h => ?_)
  · obtain ⟨p, al, ps, x, rfl, _⟩ := h; rfl
  · obtain ⟨p, al, ps, x, rfl, hj, hprop, hal, hpl, hx, q⟩ := h
    refine ⟨_, (pss_one (ps_ret (C8.pe_c c_spine hr (by first | decide | omega) (by rfl) (pa_cons (pv 0) (pa_cons (pv 1) (pa_cons pe_int pa_nil)))))), ?_⟩
    exact ⟨_, rfl, _, rfl, p, al, ps, x, 1, rfl, hj, hprop, hal, hpl, hx, by decide, q⟩
theorem ok_lspine {f C : Addr} {fd : FuncData} (F : C8.Fun K "left_spine" "left_spine" s_left_spine f fd) (T : Txt K mg) (J : JTxt K C) (c_spine : C8.Cal P w K mg base 6 "spine" (sp_spine C) []) : FnOk P w K mg base C8.CX0 7 f fd ["joins", "piece"] (sp_rspine 0 C) := by
  refine C8.fn0 F sc_left_spine (fun vs H Q E h => ?_) (fun cdv A outer s H vs Q E hr h => ?_)
  · obtain ⟨p, al, ps, x, rfl, _⟩ := h; rfl
  · obtain ⟨p, al, ps, x, rfl, hj, hprop, hal, hpl, hx, q⟩ := h
    refine ⟨_, (pss_one (ps_ret (C8.pe_c c_spine hr (by first | decide | omega) (by rfl) (pa_cons (pv 0) (pa_cons (pv 1) (pa_cons pe_int pa_nil)))))), ?_⟩
    exact ⟨_, rfl, _, rfl, p, al, ps, x, 0, rfl, hj, hprop, hal, hpl, hx, by decide, q⟩
theorem ok_aheadL {f : Addr} {fd : FuncData} (F : C8.Fun K "is_ahead_in_left" "is_ahead_in_left" s_is_ahead_in_left f fd) (T : Txt K mg) : FnOk P w K mg base C8.CX0 1 f fd ["rank", "bound"] sp_aheadL := by
  refine C8.fn0 F sc_is_ahead_in_left (fun vs H Q E h => ?_) (fun cdv A outer s H vs Q E hr h => ?_)
  · obtain ⟨r, bd, rfl, _⟩ := h; rfl
  · obtain ⟨r, bd, rfl, q⟩ := h
    refine ⟨_, (pss_one (ps_ret (pe_or (pe_cmpR op_isN (pv 1) pe_non (nomark _)) (pe_one (pe_cmpR op_lt (pv 0) (pv 1) (nomark _)))))), ?_⟩
    cases bd with
    | none => exact ⟨_, rfl, rfl, _, rfl, iteT (q true ⟨(fun _ k e => by cases e), fun _ => rfl⟩)⟩
    | some k =>
      refine ⟨_, rfl, rfl, _, rfl, iteF ⟨_, rfl, _, rfl, _, _, rfl, rfl, q _ ?_⟩⟩
      rw [decide_eq_true_eq]
      exact ⟨fun h j e => by cases e; omega, fun h => by have := h k rfl; omega⟩
theorem ok_aheadR {f : Addr} {fd : FuncData} (F : C8.Fun K "is_ahead_in_right" "is_ahead_in_right" s_is_ahead_in_right f fd) (T : Txt K mg) : FnOk P w K mg base C8.CX0 1 f fd ["rank", "bound"] sp_aheadR := by
  refine C8.fn0 F sc_is_ahead_in_right (fun vs H Q E h => ?_) (fun cdv A outer s H vs Q E hr h => ?_)
  · obtain ⟨r, bd, rfl, _⟩ := h; rfl
  · obtain ⟨r, bd, rfl, q⟩ := h
    refine ⟨_, (pss_one (ps_ret (pe_or (pe_cmpR op_isN (pv 1) pe_non (nomark _)) (pe_one (pe_cmpR op_le (pv 0) (pv 1) (nomark _)))))), ?_⟩
    cases bd with
    | none => exact ⟨_, rfl, rfl, _, rfl, iteT (q true ⟨(fun _ k e => by cases e), fun _ => rfl⟩)⟩
    | some k =>
      refine ⟨_, rfl, rfl, _, rfl, iteF ⟨_, rfl, _, rfl, _, _, rfl, rfl, q _ ?_⟩⟩
      rw [decide_eq_true_eq]
      exact ⟨fun h j e => by cases e; omega, fun h => by have := h k rfl; omega⟩
end
end RJ
end

section
set_option maxRecDepth 100000
set_option maxHeartbeats 4000000
namespace RJ
open PySem PySem.Spec PyProof.Rows L2
open PySem.W (minD AlikeAll alike alikeAll dataLt)
def rkI : PyData → Int
  | .int r => r
  | _ => 0
theorem ints_alike (ts : List Nat) : AlikeAll (ts.map fun (n : Nat) => PyData.int (n : Int)) := by
  refine ⟨fun x hx y hy => ?_, fun x hx e => ?_⟩
  · obtain ⟨a, _, rfl⟩ := List.mem_map.mp hx
    obtain ⟨b, _, rfl⟩ := List.mem_map.mp hy
    simp [alike]
  · obtain ⟨a, _, rfl⟩ := List.mem_map.mp hx
    cases e
theorem ints_depth : ∀ ts : List Nat, PyData.depthAll (ts.map fun (n : Nat) => PyData.int (n : Int)) ≤ 60
  | [] => by simp [PyData.depthAll]
  | t :: ts => by
    have ih := ints_depth ts
    rw [List.map_cons, PyData.depthAll]
    exact Nat.max_le.mpr ⟨by simp [PyData.depth], ih⟩
/-- min of a list of numbers, None of none -/
theorem minD_row {K : PySem.W.Frag} {H : Hp} {D : Addr} {R : List Nat} {Q : VK} (hD : H D = some (.lst (iv R))) (q0 : R = [] → Q .non H) (q1 : ∀ n, n ∈ R → (∀ m ∈ R, n ≤ m) → Q (.int (n : Int)) H) : rMinD K [.ref D] [.non] H Q := by
  refine ⟨D, iv R, R.map fun (n : Nat) => PyData.int (n : Int), rfl, rfl, hD, iv_dp R, ints_alike R, ints_depth R, fun e => q0 (List.map_eq_nil_iff.mp e), fun d ds i x e hx hmin => ?_⟩
  obtain ⟨n, hn, rfl⟩ := iv_get hx
  refine q1 n (List.mem_of_getElem? hn) fun m hmR => ?_
  have hget : (R.map fun (n : Nat) => PyData.int (n : Int))[i]? = some (.int (n : Int)) := by rw [List.getElem?_map, hn]; rfl
  rw [hget] at hmin
  have hmin' := (Option.some.inj hmin).symm
  have hle := minD_le (rk := rkI) (Ok := fun d => ∃ x : Nat, d = .int (x : Int)) (fun x y ⟨a, ha⟩ ⟨b, hb⟩ h => by
      subst ha hb
      rw [PySem.W.dataLt_int] at h
      have := of_decide_eq_true h
      exact Int.le_of_lt this) (fun x y ⟨a, ha⟩ ⟨b, hb⟩ h => by
      subst ha hb
      rw [PySem.W.dataLt_int] at h
      have := of_decide_eq_false h
      exact Int.not_lt.mp this) ds d
    (fun z hz => by rw [← e] at hz; obtain ⟨a, _, rfl⟩ := List.mem_map.mp hz; exact ⟨a, rfl⟩)
    (.int (m : Int)) (by rw [← e]; exact List.mem_map.mpr ⟨m, hmR, rfl⟩)
  rw [hmin'] at hle
  have hle' : (n : Int) ≤ (m : Int) := hle
  omega
theorem lt_million {n : Nat} (h : n ≤ 1000000) : n < sizeLine := Nat.lt_of_le_of_lt h (by decide)
section
variable {P : Program} {w : World} {K : PySem.W.Frag} {mg : Str → Option Value} {base : Heap}
end
end RJ
end

section
set_option maxRecDepth 100000
set_option maxHeartbeats 8000000
namespace RJ
open PySem PySem.Spec PyProof.Rows L2

def castZ (row : List Nat) : List Int := row.map fun n : Nat => (n : Int)
theorem castZ_iv (row : List Nat) : (castZ row).map V.int = iv row := by rw [castZ, List.map_map]; rfl
def IsCutZ (al : List Nat) (ps : List (Nat × Nat)) (zs : List Int) : Prop := ∃ row : List Nat, zs = castZ row ∧ (∀ x ∈ row, x < al.length + ps.length) ∧ cutL al.length ps (lets al (textR (textsOf al ps) row)) = row
def JudgeZ (al : List Nat) (ps : List (Nat × Nat)) (t : List Nat) (zs : List Int) : Prop := ∃ row : List Nat, zs = castZ row ∧ (∀ x ∈ row, x < al.length + ps.length) ∧ cutL al.length ps (lets al (textR (textsOf al ps) row)) = row ∧ textR (textsOf al ps) row = t
theorem castZ_inj {a b : List Nat} (h : castZ a = castZ b) : a = b := by
  have := congrArg (List.map Int.toNat) h
  rw [castZ, castZ, List.map_map, List.map_map] at this
  have e : ∀ l : List Nat, l.map (Int.toNat ∘ fun n : Nat => (n : Int)) = l := fun l => by
    have : ∀ k ∈ l, (Int.toNat ∘ fun n : Nat => (n : Int)) k = k := fun k _ => rfl
    rw [List.map_congr_left this, List.map_id']
  rw [e, e] at this; exact this
theorem pieces_of {n : Nat} {zs : List Int} (h : ∀ z ∈ zs, numBelow (.int z) (n : Int) = true) : ∃ row : List Nat, zs = castZ row ∧ ∀ x ∈ row, x < n := by
  refine ⟨zs.map Int.toNat, ?_, fun x hx => ?_⟩
  · rw [castZ, List.map_map]
    have key : ∀ z ∈ zs, ((fun n : Nat => (n : Int)) ∘ Int.toNat) z = z := fun z hz => by
      obtain ⟨a, ha, _⟩ := numBelow_int (h z hz)
      rw [ha]; rfl
    rw [List.map_congr_left key, List.map_id']
  · obtain ⟨z, hz, rfl⟩ := List.mem_map.mp hx
    obtain ⟨a, ha, hlt⟩ := numBelow_int (h z hz)
    rw [ha]; exact hlt
theorem not_pieces {n : Nat} {zs : List Int} {z : Int} (hz : z ∈ zs) (h : numBelow (.int z) (n : Int) = false) : ¬ ∃ row : List Nat, zs = castZ row ∧ ∀ x ∈ row, x < n := by
  rintro ⟨row, rfl, hr⟩
  obtain ⟨a, ha, rfl⟩ := List.mem_map.mp hz
  rw [numBelow_yes (hr a ha)] at h; cases h
def sp_is_cut (C : Addr) : Sp := fun vs H Q _ => ∃ (p a : Addr) (b : Bool) (zs : List Int) (al : List Nat) (ps : List (Nat × Nat)), vs = [.ref p, .ref a] ∧ JoinsAt C H p al ps ∧ Proper al ps ∧ al.Nodup ∧ al.length ≤ 400 ∧ ps.length ≤ 400 ∧ SeqAt b H a (zs.map V.int) ∧ zs.length ≤ 1000 ∧
  ∀ H' k, Same H H' → (k = true ↔ IsCutZ al ps zs) → Q (.bl k) H'
def sp_judge (C : Addr) : Sp := fun vs H Q _ => ∃ (p a : Addr) (b : Bool) (zs : List Int) (al t : List Nat) (ps : List (Nat × Nat)), vs = [.ref p, .str (S t), .ref a] ∧ JoinsAt C H p al ps ∧ Proper al ps ∧ al.Nodup ∧ al.length ≤ 400 ∧ ps.length ≤ 400 ∧ SeqAt b H a (zs.map V.int) ∧ zs.length ≤ 1000 ∧
  ∀ H' k, Same H H' → (k = true ↔ JudgeZ al ps t zs) → Q (.bl k) H'
theorem all_calm {b : Nat} {ps : List (Nat × Nat)} {bs : List Bool} {qs : List (Nat × Nat)} (h : Paired (fun v (q : Nat × Nat) => ∃ c, CrossIs b ps q.1 q.2 c ∧ v = c.isNone) bs qs) : bs.all id = true ↔ ∀ q ∈ qs, ∀ r, ¬ Cross b ps q.1 q.2 r := by
  constructor
  · intro hb q hq r hc
    obtain ⟨i, hi⟩ := List.getElem?_of_mem hq
    obtain ⟨v, hv, c, hci, rfl⟩ := Paired.at2 h hi
    have := List.all_eq_true.mp hb _ (List.mem_of_getElem? hv)
    cases c with
    | none => exact hci r hc
    | some c => cases this
  · intro hq
    refine List.all_eq_true.mpr fun v hv => ?_
    obtain ⟨i, hi⟩ := List.getElem?_of_mem hv
    obtain ⟨q, hqi, c, hci, rfl⟩ := Paired.at h hi
    cases c with
    | none => rfl
    | some c => exact absurd hci.1 (hq q (List.mem_of_getElem? hqi) c)
section
variable {P : Program} {w : World} {K : PySem.W.Frag} {mg : Str → Option Value} {base : Heap}
end
end RJ
end

section
set_option maxRecDepth 100000
set_option maxHeartbeats 4000000
namespace RJ
open PySem PySem.Spec PyProof.Rows L2
abbrev s__law_pool : Stmt := top 38
abbrev N__law_pool : List Str := ["script", "many", "pool", "total", "cell", "rest", "k", "first", "second"]
theorem sc__law_pool : FnScope N__law_pool ["script", "many"] (C8.fnScope s__law_pool) := C8.fnScope_by (by decide +kernel)
abbrev s__law_draw : Stmt := top 39
abbrev N__law_draw : List Str := ["pool", "many"]
theorem sc__law_draw : FnScope N__law_draw ["pool", "many"] (C8.fnScope s__law_draw) := C8.fnScope_by (by decide +kernel)
abbrev s__law_alphabet : Stmt := top 40
abbrev N__law_alphabet : List Str := ["pool", "signs", "chosen", "k"]
theorem sc__law_alphabet : FnScope N__law_alphabet ["pool"] (C8.fnScope s__law_alphabet) := C8.fnScope_by (by decide +kernel)
/-! ### the pool -/
def PoolAt (p : Addr) (H : Hp) : Prop := ∃ ns : List Nat, H p = some (.lst (iv ns)) ∧ ns.length ≤ 1000
/-- all as it was but the pool -/
structure PSame (p : Addr) (H H' : Hp) : Prop where
  x : SameX p H H'
  at0 : PoolAt p H
  at1 : PoolAt p H'
section pool
variable {p : Addr}
theorem PSame.refl {H : Hp} (h : PoolAt p H) : PSame p H H := ⟨fun _ _ _ e => e, h, h⟩
theorem PSame.trans {H H1 H2 : Hp} (s : PSame p H H1) (u : PSame p H1 H2) : PSame p H H2 := ⟨fun b o h e => u.x b o h (s.x b o h e), s.at0, u.at1⟩
theorem PoolAt.same {H H' : Hp} (h : PoolAt p H) (s : Same H H') : PoolAt p H' := by
  obtain ⟨ns, h1, h2⟩ := h
  exact ⟨ns, s _ _ h1, h2⟩
theorem PSame.of {H H' : Hp} (h : PoolAt p H) (s : Same H H') : PSame p H H' := ⟨Same.x s, h, h.same s⟩
theorem PSame.then {H H1 H2 : Hp} (s : PSame p H H1) (u : Same H1 H2) : PSame p H H2 := s.trans (PSame.of s.at1 u)
theorem PSame.new {q : Addr} {H H1 : Hp} {o : HO} (s : PSame p H H1) (h : H1 q = none) : PSame p H (upd H1 q o) := s.then (same_new h)
theorem PoolAt.free {H : Hp} {q : Addr} (h : PoolAt p H) (hq : H q = none) : q ≠ p := by
  obtain ⟨ns, h1, _⟩ := h
  exact Ne.symm (ne_of_none h1 hq)
theorem PoolAt.put {H : Hp} {q : Addr} {o : HO} (h : PoolAt p H) (h1 : q ≠ p) : PoolAt p (upd H q o) := by
  obtain ⟨ns, e1, e2⟩ := h
  exact ⟨ns, (upd_ne (Ne.symm h1)).trans e1, e2⟩
/-- what is written where nothing stood, is kept out -/
theorem PSame.put {q : Addr} {H H1 : Hp} {o : HO} (s : PSame p H H1) (h : H q = none) : PSame p H (upd H1 q o) :=
  ⟨fun b u hb e => by rw [upd_ne (ne_of_none e h)]; exact s.x b u hb e, s.at0, s.at1.put (s.at0.free h)⟩
theorem PSame.none {q : Addr} {H H1 : Hp} (s : PSame p H H1) (h : H1 q = none) : H q = none := by
  have hne := s.at1.free h
  cases e : H q with
  | none => rfl
  | some o => rw [s.x q o hne e] at h; cases h
theorem PSame.lst {b : Addr} {H H' : Hp} {xs : List V} (s : PSame p H H') (hb : b ≠ p) (e : H b = some (.lst xs)) : H' b = some (.lst xs) := s.x b _ hb e
theorem PSame.tup {b : Addr} {H H' : Hp} {xs : List V} (s : PSame p H H') (e : H b = some (.tup xs)) : H' b = some (.tup xs) := by
  obtain ⟨ns, h1, _⟩ := s.at0
  exact s.x b _ (ne_of e h1 (fun z => by cases z)) e
theorem PSame.tt {H H' : Hp} (s : PSame p H H') : SameT H H' := fun b xs e => s.tup e
theorem JoinsAt.pool {C y : Addr} {H H' : Hp} {al : List Nat} {ps : List (Nat × Nat)} (h : JoinsAt C H y al ps) (s : PSame p H H') (hal : 0 < al.length) : JoinsAt C H' y al ps := by
  obtain ⟨dx, u, tx, d, e, ws, h1, h2, h3, h4, h5, h6⟩ := h
  obtain ⟨ns, e1, _⟩ := s.at0
  refine ⟨dx, u, tx, d, e, ws, s.x _ _ (ne_of h1 e1 (fun z => by cases z)) h1, s.tup h2, h3.same s.tt, s.x _ _ ?_ h4, s.x _ _ (ne_of h5 e1 (fun z => by cases z)) h5, s.x _ _ (ne_of h6 e1 (fun z => by cases z)) h6⟩
  rintro rfl
  rw [e1] at h4
  have hT : 0 < (textsOf al ps).length := by rw [textsOf_len]; omega
  cases hts : textsOf al ps with
  | nil => rw [hts] at hT; exact absurd hT (Nat.lt_irrefl _)
  | cons a b =>
    rw [hts] at h4
    have e2 : iv ns = strV (a :: b) := by injection h4 with h; injection h
    cases ns with
    | nil => cases e2
    | cons n ns =>
      have e3 : V.int (n : Int) = V.str (S a) := (List.cons.inj e2).1
      cases e3
end pool
def sp_pool (K : PySem.W.Frag) : Sp := fun vs H Q _ => ∃ (a : Addr) (zs : List Int) (m : Nat), vs = [.ref a, .int (m : Int)] ∧ SqL K H a (zs.map V.int) ∧ zs.length ≤ 63 ∧ m ≤ 1000 ∧ ∀ H' p, Same H H' → H p = none → PoolAt p H' → Q (.ref p) H'
def sp_drawB : Sp := fun vs H Q _ => ∃ (p : Addr) (m : Int), vs = [.ref p, .int m] ∧ PoolAt p H ∧ 0 < m ∧ ∀ (H' : Hp) (r : Nat), PSame p H H' → (r : Int) < m → Q (.int (r : Int)) H'
def sp_alphabetB : Sp := fun vs H Q _ => ∃ p : Addr, vs = [.ref p] ∧ PoolAt p H ∧
  ∀ H' al, PSame p H H' → alOk al = true → al.Nodup → 1 ≤ al.length → al.length ≤ 30 → (∀ c ∈ al, c ∈ SG) → Q (.str (S al)) H'
section
variable {P : Program} {w : World} {K : PySem.W.Frag} {mg : Str → Option Value} {base : Heap}
theorem ok_pool {f : Addr} {fd : FuncData} (F : C8.Fun K "_law_pool" "_law_pool" s__law_pool f fd) (T : Txt K mg) : FnOk P w K mg base C8.CX0 1 f fd ["script", "many"] (sp_pool K) := by
  refine C8.fn0 F sc__law_pool (fun vs H Q E h => ?_) (fun cdv A outer s H vs Q E hr h => ?_)
  · obtain ⟨a, zs, m, rfl, _⟩ := h; rfl
  · obtain ⟨a, zs, m, rfl, hS, hz, hm, q⟩ := h
    refine ⟨_, (pss_cons (ps_set (i := 2) sc__law_pool.nd rfl (Or.inl rfl) (pe_lst pa_nil))
      (pss_cons (ps_set (i := 3) sc__law_pool.nd rfl (Or.inl rfl) pe_int)
      (pss_cons (ps_for PassesOwn.never rfl (pi_list (pv 0)) (pg_name (i := 4) sc__law_pool.nd rfl (Or.inl rfl)) (pss_cons (ps_set (i := 5) sc__law_pool.nd rfl (Or.inl rfl) (pe_callTy call_int1 (by rfl) T.b_int (by decide +kernel) (pa_cons (pe_callB call_abs (by rfl) T.b_abs (by decide +kernel) (pa_cons (pv 4) pa_nil)) pa_nil)))
      (pss_cons (ps_if (pt_cmpR op_ge (pv 5) (pe_op op_pow pe_int pe_int) (nomark _)) (pss_one (ps_for PassesOwn.never rfl (pi_range1 rfl T.b_range (pa_cons (pe_callB (call_min2 rfl) (by rfl) T.b_min (by decide +kernel) (pa_cons pe_int (pa_cons (pe_op op_sub (pv 1) (pe_callB call_len_seq (by rfl) T.b_len PySem.boot_len (pa_cons (pv 2) pa_nil))) pa_nil))) pa_nil)) (pg_name (i := 6) sc__law_pool.nd rfl (Or.inl rfl)) (pss_cons (ps_expr (pe_bm PySem.F.plainAttrs_list PySem.F.slot_list_append PySem.F.type_list_append mt_append (pv 2) (pa_cons (pe_op op_mod (pe_callTy call_int1 (by rfl) T.b_int (by decide +kernel) (pa_cons (pv 5) pa_nil)) pe_int) pa_nil)))
      (pss_cons (ps_set (i := 5) sc__law_pool.nd rfl (Or.inl rfl) (pe_op op_fdiv (pv 5) pe_int))
      (pss_one (ps_if (pt_cmpR op_eq (pv 5) pe_int (nomark _)) (pss_one ps_break) pss_nil)))))) (pss_cons (ps_set (i := 7) sc__law_pool.nd rfl (Or.inl rfl) (pe_op op_mod (pe_callTy call_int1 (by rfl) T.b_int (by decide +kernel) (pa_cons (pe_op op_add (pe_op op_add (pe_op op_mul (pv 4) pe_int) (pe_op op_mul (pe_callB call_len_seq (by rfl) T.b_len PySem.boot_len (pa_cons (pv 2) pa_nil)) pe_int)) pe_int) pa_nil)) pe_int))
      (pss_cons (ps_set (i := 8) sc__law_pool.nd rfl (Or.inl rfl) (pe_op op_mod (pe_callTy call_int1 (by rfl) T.b_int (by decide +kernel) (pa_cons (pe_op op_add (pe_op op_mul (pv 7) (pv 7)) pe_int) pa_nil)) pe_int))
      (pss_cons (ps_expr (pe_bm PySem.F.plainAttrs_list PySem.F.slot_list_append PySem.F.type_list_append mt_append (pv 2) (pa_cons (pe_op op_mod (pe_callTy call_int1 (by rfl) T.b_int (by decide +kernel) (pa_cons (pe_op op_fdiv (pv 8) pe_int) pa_nil)) pe_int) pa_nil)))
      (pss_one (ps_expr (pe_bm PySem.F.plainAttrs_list PySem.F.slot_list_append PySem.F.type_list_append mt_append (pv 2) (pa_cons (pe_op op_mod (pe_op op_mod (pe_callTy call_int1 (by rfl) T.b_int (by decide +kernel) (pa_cons (pe_op op_add (pe_op op_mul (pv 8) pe_int) (pv 7)) pa_nil)) pe_int) pe_int) pa_nil))))))))
      (pss_one (ps_set (i := 3) sc__law_pool.nd rfl (Or.inl rfl) (pe_op op_mod (pe_callTy call_int1 (by rfl) T.b_int (by decide +kernel) (pa_cons (pe_op op_add (pe_op op_mul (pv 3) pe_int) (pv 4)) pa_nil)) pe_int))))))
      (pss_cons (ps_for PassesOwn.never rfl (pi_range1 rfl T.b_range (pa_cons (pv 1) pa_nil)) (pg_name (i := 6) sc__law_pool.nd rfl (Or.inl rfl)) (pss_cons (ps_set (i := 3) sc__law_pool.nd rfl (Or.inl rfl) (pe_op op_mod (pe_callTy call_int1 (by rfl) T.b_int (by decide +kernel) (pa_cons (pe_op op_add (pe_op op_add (pe_op op_mul (pv 3) pe_int) (pe_op op_mul (pv 6) pe_int)) pe_int) pa_nil)) pe_int))
      (pss_one (ps_expr (pe_bm PySem.F.plainAttrs_list PySem.F.slot_list_append PySem.F.type_list_append mt_append (pv 2) (pa_cons (pe_op op_mod (pe_callTy call_int1 (by rfl) T.b_int (by decide +kernel) (pa_cons (pe_op op_fdiv (pv 3) pe_int) pa_nil)) pe_int) pa_nil))))))
      (pss_cons (ps_set (i := 2) sc__law_pool.nd rfl (Or.inl rfl) (pe_slice sl_list (pv 2) po_none (po_some (pv 1))))
      (pss_cons (ps_expr (pe_bm0 PySem.F.plainAttrs_list PySem.F.slot_list_reverse PySem.F.type_list_reverse mt_reverse (pv 2)))
      (pss_one (ps_ret (pv 2))))))))), ?_⟩
    refine ⟨Nat.zero_le _, fun p hp => ?_⟩
    have hnew : ∀ (H' : Hp) (ns : List Nat) (z : Int), Same H H' → H' p = some (.lst (iv ns)) → ns.length ≤ 5000 → ∃ n : Nat, z % 2520 = (n : Int) ∧ ((iv ns).length < sizeLine) ∧ Same H (upd H' p (.lst (iv ns ++ [V.int (z % 2520)]))) ∧ (upd H' p (.lst (iv ns ++ [V.int (z % 2520)]))) p = some (.lst (iv (ns ++ [n]))) := fun H' ns z s' e hl => by
      obtain ⟨n, hn, _⟩ := emod_nat z 2520 (by decide)
      refine ⟨n, hn, by rw [iv_len]; exact Nat.lt_of_le_of_lt hl (by decide), Same.put s' hp, ?_⟩
      rw [upd_same, hn, iv_snoc]
    refine ⟨_, rfl, a, rfl, ⟨_, (same_new hp).seq hS⟩, for_it walk_list (fun i σ H' => ∃ (total : Int) (ns : List Nat) (v4 v5 v6 v7 v8 : Option V), σ = [some (.ref a), some (.int (m : Int)), some (.ref p), some (.int total), v4, v5, v6, v7, v8] ∧ Same H H' ∧ H' p = some (.lst (iv ns)) ∧ ns.length ≤ 60 * i)
      ⟨1, [], none, none, none, none, none, rfl, same_new hp, upd_same, Nat.zero_le _⟩ (fun i σ H' _ ⟨_, _, _, _, _, _, _, _, s', _⟩ => s'.seq hS) ?_ ?_⟩
    · rintro i x σ Ha Hb hi ⟨total, ns, v4, v5, v6, v7, v8, rfl, sa, hpb, hle⟩ ⟨rfl, hx⟩
      rw [List.length_map] at hi
      rw [List.getElem?_map] at hx
      obtain ⟨z, hz', rfl⟩ := Option.map_eq_some_iff.mp hx
      refine ⟨_, rfl, z, rfl, .inl ⟨_, rfl, ?_⟩⟩
      dsimp only [gName]
      show tSeq (tIfS _ _ _) _ _ [some (.ref a), some (.int (m : Int)), some (.ref p), some (.int total), some (.int z), some (.int (if z < 0 then -z else z)), v6, v7, v8] Hb
      show tTest _ _ _ _
      generalize hM : tAsg _ _ _ = M
      have key : ∀ (H' : Hp) (ns : List Nat) (w5 w6 w7 w8 : Option V), Same H H' → H' p = some (.lst (iv ns)) → ns.length ≤ 60 * (i + 1) → M [some (.ref a), some (.int (m : Int)), some (.ref p), some (.int total), some (.int z), w5, w6, w7, w8] H' := by
        intro H' ns w5 w6 w7 w8 s' e hl
        rw [← hM]
        exact ⟨_, rfl, _, _, rfl, rfl, .inr ⟨by decide, by decide⟩, _, rfl, _, _, rfl, rfl, .inl ⟨_, rfl, _, _, rfl, rfl, by show (0 : Int) < 1000003; decide, _, ns, _, _, _, _, _, rfl, s', e, hl⟩⟩
      have hi63 : i < 63 := by omega
      refine ⟨_, rfl, _, _, rfl, rfl, ⟨by decide, by decide, by decide⟩, _, _, rfl, rfl, _, rfl, ?_⟩
      obtain ⟨b, hb⟩ : ∃ b : Bool, b = decide (((10 : Int) ^ (18 : Int).toNat) ≤ (if z < 0 then -z else z)) := ⟨_, rfl⟩
      show (if decide (((10 : Int) ^ (18 : Int).toNat) ≤ (if z < 0 then -z else z)) = true then _ else _)
      rw [← hb]
      cases b with
      | true =>
        refine iteT ⟨_, rfl, _, rfl, p, _, rfl, .inl (SqL.of hpb), _, _, rfl, rfl, _, _, rfl, ?_⟩
        rw [iv_len]
        obtain ⟨n, hn⟩ : ∃ n : Int, n = (if (m : Int) - (ns.length : Int) < 60 then (m : Int) - (ns.length : Int) else 60) := ⟨_, rfl⟩
        have hn60 : n ≤ 60 ∧ -5000 ≤ n := by rw [hn]; split <;> omega
        rw [← hn]
        refine ⟨_, rfl, by omega, by omega, for_it walk_range (fun k σ H' => ∃ (rest : Int) (ns' : List Nat) (v6 : Option V), σ = [some (.ref a), some (.int (m : Int)), some (.ref p), some (.int total), some (.int z), some (.int rest), v6, v7, v8] ∧ Same H H' ∧ H' p = some (.lst (iv ns')) ∧ ns'.length ≤ 60 * i + k)
          ⟨_, ns, v6, rfl, sa, hpb, hle⟩ (fun _ _ _ _ _ => trivial) ?_ ?_⟩
        · rintro k x σ Hc Hd hk ⟨rest, ns', w6, rfl, sc, hpc, hlc⟩ ⟨rfl, hx⟩
          have hk60 : k < 60 := by omega
          obtain ⟨n1, en1, l1, s1, e1⟩ := hnew _ ns' rest sc hpc (by omega)
          refine ⟨_, rfl, .inl ⟨rfl, _, SqL.of hpc⟩, _, rfl, .inl ⟨_, rfl, _, _, rfl, rfl, by show (0 : Int) < 2520; decide, p, _, _, rfl, rfl, hpc, l1, ?_⟩⟩
          refine ⟨_, rfl, _, _, rfl, rfl, ⟨by decide, by decide⟩, ?_⟩
          refine ⟨_, rfl, rfl, _, rfl, ?_⟩
          obtain ⟨b2, hb2⟩ : ∃ b : Bool, b = decide (V.int (rest / 2520) = V.int 0) := ⟨_, rfl⟩
          show (if decide (V.int (rest / 2520) = V.int 0) = true then _ else _)
          rw [← hb2]
          have hl1 : (ns' ++ [n1]).length ≤ 60 * i + (k + 1) := by rw [List.length_append, List.length_singleton]; omega
          cases b2 with
          | true => exact iteT (key _ _ _ _ _ _ s1 e1 (by omega))
          | false => exact iteF ⟨_, ns' ++ [n1], _, rfl, s1, e1, hl1⟩
        · rintro σ Hc ⟨rest, ns', w6, rfl, sc, hpc, hlc⟩
          exact key _ _ _ _ _ _ sc hpc (by omega)
      | false =>
        refine iteF ⟨_, rfl, _, _, rfl, rfl, .inr ⟨by decide, by decide⟩, _, rfl, p, _, rfl, .inl (SqL.of hpb), _, _, rfl, rfl, .inr ⟨by decide, by decide⟩, _, _, rfl, rfl, _, _, rfl, rfl, .inl ⟨_, rfl, _, _, rfl, rfl, by show (0 : Int) < 2147483647; decide, ?_⟩⟩
        dsimp only [gName]
        generalize hf : ((z * 48271 + ((iv ns).length : Int) * 69621 + 11) % 2147483647) = fr
        have hfb : 0 ≤ fr ∧ fr < 2147483647 := by rw [← hf]; exact ⟨Int.emod_nonneg _ (by decide), Int.emod_lt_of_pos _ (by decide)⟩
        refine ⟨_, rfl, _, rfl, _, _, rfl, rfl, .inl ⟨by omega, by omega⟩, _, _, rfl, rfl, .inl ⟨_, rfl, _, _, rfl, rfl, by show (0 : Int) < 2147483629; decide, ?_⟩⟩
        dsimp only [gName]
        generalize hsc : ((fr * fr + 5) % 2147483629) = sc
        obtain ⟨n1, en1, l1, s1, e1⟩ := hnew _ ns (sc / 7) sa hpb (by omega)
        refine ⟨_, rfl, .inl ⟨rfl, _, SqL.of hpb⟩, _, rfl, _, _, rfl, rfl, ⟨by decide, by decide⟩, .inl ⟨_, rfl, _, _, rfl, rfl, by show (0 : Int) < 2520; decide, p, _, _, rfl, rfl, hpb, l1, ?_⟩⟩
        have hl1 : (ns ++ [n1]).length ≤ 60 * i + 1 := by rw [List.length_append, List.length_singleton]; omega
        have e1' : (upd Hb p (.lst (iv ns ++ [V.int (sc / 7 % 2520)]))) p = some (.lst (iv ns ++ [V.int (sc / 7 % 2520)])) := upd_same
        rw [e1] at e1'
        have ell : iv (ns ++ [n1]) = iv ns ++ [V.int (sc / 7 % 2520)] := by injection e1' with h; injection h
        obtain ⟨n2, en2, l2, s2, e2⟩ := hnew _ (ns ++ [n1]) ((sc * 16807 + fr) % 2147483587) s1 e1 (by omega)
        refine ⟨_, rfl, .inl ⟨rfl, _, SqL.of e1⟩, _, rfl, _, _, rfl, rfl, .inr ⟨by decide, by decide⟩, _, rfl, _, _, rfl, rfl, .inl ⟨_, rfl, _, _, rfl, rfl, by show (0 : Int) < 2147483587; decide, _, _, rfl, rfl, by show (0 : Int) < 2520; decide, p, _, _, rfl, rfl, e1, l2, ?_⟩⟩
        exact key _ _ _ _ _ _ s2 e2 (by rw [List.length_append, List.length_singleton]; omega)
    · rintro σ H1 ⟨total, ns, v4, v5, v6, v7, v8, rfl, sa, hpb, hle⟩
      rw [List.length_map] at hle
      have hle' : ns.length ≤ 3780 := by omega
      refine ⟨_, rfl, _, rfl, by omega, by omega, for_it walk_range (fun k σ H' => ∃ (total : Int) (ns' : List Nat) (v6 : Option V), σ = [some (.ref a), some (.int (m : Int)), some (.ref p), some (.int total), v4, v5, v6, v7, v8] ∧ Same H H' ∧ H' p = some (.lst (iv ns')) ∧ ns'.length ≤ 3780 + k)
        ⟨total, ns, v6, rfl, sa, hpb, hle'⟩ (fun _ _ _ _ _ => trivial) ?_ ?_⟩
      · rintro k x σ Hc Hd hk ⟨tot, ns', w6, rfl, sc, hpc, hlc⟩ ⟨rfl, hx⟩
        obtain rfl : x = V.int (k : Int) := hx.trans (congrArg V.int (Int.zero_add _))
        have hkm : k < m := by simpa using hk
        refine ⟨_, rfl, _, _, rfl, rfl, .inr ⟨by decide, by decide⟩, _, rfl, _, _, rfl, rfl, .inr ⟨by decide, by decide⟩, _, _, rfl, rfl, _, _, rfl, rfl, .inl ⟨_, rfl, _, _, rfl, rfl, by show (0 : Int) < 2147483647; decide, ?_⟩⟩
        dsimp only [gName]
        generalize hf : ((tot * 48271 + (k : Int) * 69621 + 17) % 2147483647) = t2
        obtain ⟨n1, en1, l1, s1, e1⟩ := hnew _ ns' (t2 / 5) sc hpc (by omega)
        exact ⟨_, rfl, .inl ⟨rfl, _, SqL.of hpc⟩, _, rfl, _, _, rfl, rfl, ⟨by decide, by decide⟩, .inl ⟨_, rfl, _, _, rfl, rfl, by show (0 : Int) < 2520; decide, p, _, _, rfl, rfl, hpc, l1, _, ns' ++ [n1], _, rfl, s1, e1, by rw [List.length_append, List.length_singleton]; omega⟩⟩
      · rintro σ H2 ⟨tot, ns', w6, rfl, sc, hpc, hlc⟩
        refine ⟨_, rfl, _, rfl, _, rfl, p, _, rfl, SqL.of hpc, fun p2 hp2 => ?_⟩
        rw [cut_to]
        refine ⟨_, rfl, .inl ⟨rfl, _, SqL.of upd_same⟩, p2, _, rfl, rfl, upd_same, _, rfl, ?_⟩
        refine q _ p2 (Same.put (Same.new sc hp2) (sc.free hp2)) (sc.free hp2) ⟨(ns'.take m).reverse, ?_, ?_⟩
        · rw [upd_same, iv, iv, List.map_reverse]
        · rw [List.length_reverse, List.length_take]; omega
theorem ok_drawB {f : Addr} {fd : FuncData} (F : C8.Fun K "_law_draw" "_law_draw" s__law_draw f fd) (T : Txt K mg) : FnOk P w K mg base C8.CX0 1 f fd ["pool", "many"] sp_drawB := by
  refine C8.fn0 F sc__law_draw (fun vs H Q E h => ?_) (fun cdv A outer s H vs Q E hr h => ?_)
  · obtain ⟨p, m, rfl, _⟩ := h; rfl
  · obtain ⟨p, m, rfl, hP, hm, q⟩ := h
    obtain ⟨ns, hp, hl⟩ := id hP
    refine ⟨_, (pss_cons (ps_if (pt_cmpR op_eq (pe_callB call_len_seq (by rfl) T.b_len PySem.boot_len (pa_cons (pv 0) pa_nil)) pe_int (nomark _)) (pss_one (ps_ret pe_int)) pss_nil)
      (pss_one (ps_ret (pe_op op_mod (pe_callTy call_int1 (by rfl) T.b_int (by decide +kernel) (pa_cons (pe_bm0 PySem.F.plainAttrs_list PySem.F.slot_list_pop PySem.F.type_list_pop mt_pop (pv 0)) pa_nil)) (pv 1))))), ?_⟩
    refine ⟨_, rfl, p, _, rfl, .inl (SqL.of hp), rfl, _, rfl, ?_⟩
    rw [iv_len]
    cases hns : ns.getLast? with
    | none =>
      have e : ns = [] := List.getLast?_eq_none_iff.mp hns
      subst e
      exact iteT (q H 0 (PSame.refl hP) (by omega))
    | some n =>
      obtain ⟨ms, rfl⟩ := List.getLast?_eq_some_iff.mp hns
      rw [show decide (V.int ((ms ++ [n]).length : Int) = V.int 0) = false from decide_eq_false (by intro z; injection z with z; rw [List.length_append, List.length_singleton] at z; omega)]
      have hiv : iv (ms ++ [n]) = iv ms ++ [V.int (n : Int)] := (iv_snoc ms n).symm
      refine iteF ⟨_, rfl, .inl ⟨rfl, _, SqL.of hp⟩, p, iv (ms ++ [n]), V.int (n : Int), rfl, rfl, hp, by rw [hiv]; simp, .inl ⟨_, rfl, _, rfl, _, _, rfl, rfl, hm, ?_⟩⟩
      obtain ⟨r, hr1, hr2⟩ := emod_nat (n : Int) m hm
      dsimp only [gName]
      rw [hr1, hiv, List.dropLast_concat]
      rw [List.length_append] at hl
      exact q _ r ⟨fun b o hb e => (upd_ne hb).trans e, hP, ms, upd_same, by omega⟩ hr2
end
end RJ
end

section
set_option maxRecDepth 100000
set_option maxHeartbeats 8000000
namespace RJ
open PySem PySem.Spec PyProof.Rows L2
abbrev s__law_staged : Stmt := top 41
abbrev N__law_staged : List Str := ["pairs", "letters", "row", "many", "rank", "out", "piece"]
theorem sc__law_staged : FnScope N__law_staged ["pairs", "letters", "row", "many"] (C8.fnScope s__law_staged) := C8.fnScope_by (by decide +kernel)
abbrev s__law_cut : Stmt := top 42
abbrev N__law_cut : List Str := ["pairs", "alphabet", "text", "sign"]
theorem sc__law_cut : FnScope N__law_cut ["pairs", "alphabet", "text"] (C8.fnScope s__law_cut) := C8.fnScope_by (by decide +kernel)
/-- ascending signs -/
theorem asc_of : ∀ {l : List Nat}, l.Pairwise (· < ·) → (ascL l).all id = true
  | [], _ => rfl
  | [_], _ => rfl
  | a :: b :: t, h => by
    have h1 := (List.pairwise_cons.mp h).1 b (List.mem_cons_self ..)
    have h2 := asc_of (List.pairwise_cons.mp h).2
    show (decide (a < b) && (ascL (b :: t)).all id) = true
    rw [decide_eq_true h1, h2]; rfl
theorem SG_asc : SG.Pairwise (· < ·) := by decide +kernel
/-- a dict of numbers, each with True -/
def dkeys (ks : List Nat) : List (Key × V) := ks.map fun (n : Nat) => ((Sum.inl (n : Int), .bl true) : Key × V)
theorem dkeys_val (n : Nat) : ∀ ks : List Nat, valV (dkeys ks) (.inl (n : Int)) = if n ∈ ks then some (.bl true) else none
  | [] => by rw [if_neg List.not_mem_nil]; exact valV_nil
  | k :: ks => by
    show valV (((Sum.inl (k : Int), .bl true) : Key × V) :: dkeys ks) _ = _
    by_cases h : k = n
    · subst h
      rw [valV_pos (p := ((Sum.inl (k : Int), .bl true) : Key × V)) rfl, if_pos (List.mem_cons_self ..)]
    · rw [valV_neg (p := ((Sum.inl (k : Int), .bl true) : Key × V)) (fun z => h (by have := Sum.inl.inj z; omega)), dkeys_val n ks]
      by_cases m : n ∈ ks
      · rw [if_pos m, if_pos (List.mem_cons_of_mem _ m)]
      · rw [if_neg m, if_neg fun z => by
          rcases List.mem_cons.mp z with e | e
          · exact h e.symm
          · exact m e]
theorem dkeys_put (n : Nat) (ks : List Nat) : putK (dkeys ks) (.inl (n : Int)) (.bl true) = if n ∈ ks then dkeys ks else dkeys (ks ++ [n]) := by
  by_cases m : n ∈ ks
  · rw [if_pos m]
    unfold putK
    rw [valV_any, dkeys_val, if_pos m]
    rw [if_pos (show (some (V.bl true)).isSome = true from rfl)]
    unfold dkeys
    rw [List.map_map]
    refine List.map_congr_left fun k _ => ?_
    show (if (Sum.inl (k : Int) : Key) = .inl (n : Int) then ((.inl (k : Int), .bl true) : Key × V) else (.inl (k : Int), .bl true)) = _
    split <;> rfl
  · rw [if_neg m, putK_new _ (by rw [dkeys_val, if_neg m])]
    unfold dkeys
    rw [List.map_append]; rfl
theorem dkeys_keys (ks : List Nat) : (dkeys ks).map (·.1) = (ks.map fun n : Nat => (n : Int)).map Sum.inl := by
  unfold dkeys
  rw [List.map_map, List.map_map]; rfl
theorem dkeys_len (ks : List Nat) : (dkeys ks).length = ks.length := by unfold dkeys; rw [List.length_map]
theorem perm_nat {ys : List Int} {ks : List Nat} (h : ys.Perm (ks.map fun n : Nat => (n : Int))) : ∃ l : List Nat, ys = l.map (fun n : Nat => (n : Int)) ∧ l.Perm ks := by
  refine ⟨ys.map Int.toNat, ?_, ?_⟩
  · rw [List.map_map]
    have key : ∀ y ∈ ys, ((fun n : Nat => (n : Int)) ∘ Int.toNat) y = y := fun y hy => by
      obtain ⟨n, _, rfl⟩ := List.mem_map.mp (h.mem_iff.mp hy)
      rfl
    rw [List.map_congr_left key, List.map_id']
  · have := h.map Int.toNat
    rw [List.map_map] at this
    have e : (ks.map (Int.toNat ∘ fun n : Nat => (n : Int))) = ks := by
      have : ∀ k ∈ ks, (Int.toNat ∘ fun n : Nat => (n : Int)) k = k := fun k _ => rfl
      rw [List.map_congr_left this, List.map_id']
    rw [e] at this
    exact this
theorem pair_lt {l : List Nat} (h : (l.map fun n : Nat => (n : Int)).Pairwise (· ≤ ·)) (hn : l.Nodup) : l.Pairwise (· < ·) := by
  induction l with
  | nil => exact .nil
  | cons a l ih =>
    rw [List.map_cons, List.pairwise_cons] at h
    rw [List.nodup_cons] at hn
    refine List.pairwise_cons.mpr ⟨fun b hb => ?_, ih h.2 hn.2⟩
    have h1 := h.1 (b : Int) (List.mem_map.mpr ⟨b, hb, rfl⟩)
    have h2 : a ≠ b := fun e => hn.1 (e ▸ hb)
    omega
theorem sg_map {l : List Nat} (h : l.Pairwise (· < ·)) (hb : ∀ n ∈ l, n < 94) : (l.map fun n => SG.getD n 0).Pairwise (· < ·) := by
  induction l with
  | nil => exact .nil
  | cons a l ih =>
    rw [List.pairwise_cons] at h
    rw [List.map_cons, List.pairwise_cons]
    refine ⟨fun c hc => ?_, ih h.2 fun n hn => hb n (List.mem_cons_of_mem _ hn)⟩
    obtain ⟨n, hn, rfl⟩ := List.mem_map.mp hc
    have h1 := h.1 n hn
    have h2 := hb n (List.mem_cons_of_mem _ hn)
    have h3 : a < SG.length := by rw [SG_len]; omega
    have h4 : n < SG.length := by rw [SG_len]; exact h2
    have := List.pairwise_iff_getElem.mp SG_asc a n h3 h4 h1
    rw [List.getD_eq_getElem?_getD, List.getD_eq_getElem?_getD, List.getElem?_eq_getElem h3, List.getElem?_eq_getElem h4]
    exact this
theorem pick12 (r : Nat) (hr : r < 12) : ∃ m : Nat, 1 ≤ m ∧ m ≤ 36 ∧ atI [V.int 1, V.int 2, V.int 2, V.int 3, V.int 3, V.int 4, V.int 5, V.int 9, V.int 2, V.int 3, V.int 4, V.int 36] (r : Int) = some (V.int (m : Int)) := by
  rcases r with _ | _ | _ | _ | _ | _ | _ | _ | _ | _ | _ | _ | r
  · exact ⟨1, by omega, by omega, rfl⟩
  · exact ⟨2, by omega, by omega, rfl⟩
  · exact ⟨2, by omega, by omega, rfl⟩
  · exact ⟨3, by omega, by omega, rfl⟩
  · exact ⟨3, by omega, by omega, rfl⟩
  · exact ⟨4, by omega, by omega, rfl⟩
  · exact ⟨5, by omega, by omega, rfl⟩
  · exact ⟨9, by omega, by omega, rfl⟩
  · exact ⟨2, by omega, by omega, rfl⟩
  · exact ⟨3, by omega, by omega, rfl⟩
  · exact ⟨4, by omega, by omega, rfl⟩
  · exact ⟨36, by omega, by omega, rfl⟩
  · omega
theorem smallB {n : Nat} (h : n ≤ 100000) : n < sizeLine := Nat.lt_of_le_of_lt h (by decide)
def sp_stagedB : Sp := fun vs H Q _ => ∃ (pp z : Addr) (us : List V) (ps : List (Nat × Nat)) (row : List Nat) (b m : Nat), vs = [.ref pp, .int (b : Int), .ref z, .int (m : Int)] ∧ H pp = some (.lst us) ∧ PairsAt H us ps ∧ WF b ps ∧ H z = some (.lst (iv row)) ∧ row.length ≤ 10000 ∧ m ≤ ps.length ∧ ps.length ≤ 1000 ∧ b ≤ 1000 ∧
  ∀ H' z', Same H H' → (z' = z ∨ H z' = none) → H' z' = some (.lst (iv (cutL b (ps.take m) row))) → Q (.ref z') H'
def sp_cutB : Sp := fun vs H Q _ => ∃ (pp : Addr) (us : List V) (ps : List (Nat × Nat)) (al t : List Nat), vs = [.ref pp, .str (S al), .str (S t)] ∧ H pp = some (.lst us) ∧ PairsAt H us ps ∧ WF al.length ps ∧ ps.length ≤ 1000 ∧ al.length ≤ 1000 ∧ (∀ c ∈ t, c ∈ al) ∧ t.length ≤ 10000 ∧
  ∀ H' z, Same H H' → H z = none → H' z = some (.lst (iv (cutL al.length ps (lets al t)))) → Q (.ref z) H'
section
variable {P : Program} {w : World} {K : PySem.W.Frag} {mg : Str → Option Value} {base : Heap}
theorem ok_alphabetB {f : Addr} {fd : FuncData} (F : C8.Fun K "_law_alphabet" "_law_alphabet" s__law_alphabet f fd) (T : Txt K mg) (c__law_draw : C8.Cal P w K mg base 1 "_law_draw" sp_drawB []) : FnOk P w K mg base C8.CX0 2 f fd ["pool"] sp_alphabetB := by
  refine C8.fn0 F sc__law_alphabet (fun vs H Q E h => ?_) (fun cdv A outer s H vs Q E hr h => ?_)
  · obtain ⟨p, rfl, _⟩ := h; rfl
  · obtain ⟨p, rfl, hP, q⟩ := h
    have hu := hu_of hr
    refine ⟨_, (pss_cons (ps_set (i := 1) sc__law_alphabet.nd rfl (Or.inr rfl) pe_str)
      (pss_cons (ps_set (i := 1) sc__law_alphabet.nd rfl (Or.inr rfl) (pe_op op_add_str (pv 1) pe_str))
      (pss_cons (ps_set (i := 2) sc__law_alphabet.nd rfl (Or.inl rfl) pe_dnewK)
      (pss_cons (ps_for PassesOwn.never rfl (pi_range1 rfl T.b_range (pa_cons (pe_ix ix_list (pe_lst (pa_cons pe_int (pa_cons pe_int (pa_cons pe_int (pa_cons pe_int (pa_cons pe_int (pa_cons pe_int (pa_cons pe_int (pa_cons pe_int (pa_cons pe_int (pa_cons pe_int (pa_cons pe_int (pa_cons pe_int pa_nil))))))))))))) (C8.pe_c c__law_draw hr (by first | decide | omega) (by rfl) (pa_cons (pv 0) (pa_cons pe_int pa_nil))) (fun _ _ => rfl)) pa_nil)) (pg_name (i := 3) sc__law_alphabet.nd rfl (Or.inl rfl)) (pss_one (ps_dput hu (pv 2) (C8.pe_c c__law_draw hr (by first | decide | omega) (by rfl) (pa_cons (pv 0) (pa_cons pe_int pa_nil))) pe_bl rfl)))
      (pss_one (ps_ret (pe_join pe_str (pe_lc (own := [("k", 3)]) (g := gName 3) (tt := tYes) rfl sc__law_alphabet.nd (pi_list (pe_slice sl_list (pe_callB (call_sortedDI rfl) (by rfl) T.b_sorted (by decide +kernel) (pa_cons (pv 2) pa_nil)) po_none (po_some pe_int))) (blkOk_by (N := N__law_alphabet) (sc := C8.fnScope s__law_alphabet) (by decide +kernel)) (fun _ _ _ _ _ => (pg_name (i := 3) sc__law_alphabet.nd rfl (Or.inl rfl))) (fun _ _ _ _ _ => pts_nil) (fun _ _ _ _ _ => (pe_ix ix_str (pv 1) (pv 3) (fun _ _ => rfl))))))))))), ?_⟩
    refine ⟨_, rfl, _, _, rfl, rfl, by decide +kernel, ?_⟩
    refine fun d hd => ?_
    have s0 : PSame p H (upd H d (.dK [])) := (PSame.refl hP).new hd
    have hdp : d ≠ p := hP.free hd
    refine ⟨by show 12 ≤ sizeLine; decide, fun L hL => ?_⟩
    have s1 := s0.new (o := .lst [V.int 1, V.int 2, V.int 2, V.int 3, V.int 3, V.int 4, V.int 5, V.int 9, V.int 2, V.int 3, V.int 4, V.int 36]) hL
    have hLp : L ≠ p := s0.at1.free hL
    have hLv : (upd (upd H d (.dK [])) L (.lst [V.int 1, V.int 2, V.int 2, V.int 3, V.int 3, V.int 4, V.int 5, V.int 9, V.int 2, V.int 3, V.int 4, V.int 36])) L = some (.lst [V.int 1, V.int 2, V.int 2, V.int 3, V.int 3, V.int 4, V.int 5, V.int 9, V.int 2, V.int 3, V.int 4, V.int 36]) := upd_same
    have hdL : (upd (upd H d (.dK [])) L (.lst [V.int 1, V.int 2, V.int 2, V.int 3, V.int 3, V.int 4, V.int 5, V.int 9, V.int 2, V.int 3, V.int 4, V.int 36])) d = some (.dK []) := (upd_ne (ne_of_none upd_same hL)).trans upd_same
    refine ⟨_, rfl, p, 12, rfl, s1.at1, by decide, fun H1 r1 s2 hr1 => ?_⟩
    obtain ⟨m, hm1, hm36, hsel⟩ := pick12 r1 (by omega)
    have sA := s1.trans s2
    have e1 : H1 d = some (.dK (dkeys [])) := s2.x d _ hdp hdL
    refine ⟨L, _, _, _, rfl, rfl, SqL.of (s2.lst hLp hLv), hsel, _, rfl, by omega, by omega, for_it walk_range (fun i σ H' => ∃ (ks : List Nat) (v3 : Option V), σ = [some (.ref p), some (.str (S SG)), some (.ref d), v3] ∧ PSame p H H' ∧ H' d = some (.dK (dkeys ks)) ∧ ks.Nodup ∧ (∀ k ∈ ks, k < 94) ∧ ks.length ≤ i ∧ (0 < i → 0 < ks.length))
      ⟨[], none, ?_, sA, e1, .nil, fun k hk => (List.not_mem_nil hk).elim, Nat.le_refl _, fun h => h⟩ (fun _ _ _ _ _ => trivial) ?_ ?_⟩
    · exact congrArg (fun z : Str => [some (V.ref p), some (.str z), some (.ref d), none]) (by decide +kernel : _ = S SG)
    · rintro i x σ Ha Hb hi ⟨ks, v3, rfl, sa, hd', hnd, hin, hle, hpos⟩ ⟨rfl, hx⟩
      have him : i < m := by simpa using hi
      refine ⟨_, rfl, _, rfl, p, 94, rfl, sa.at1, by decide, fun H2 n s3 hn => ?_⟩
      have hn94 : n < 94 := by omega
      have hd3 : H2 d = some (.dK (dkeys ks)) := s3.x d _ hdp hd'
      refine ⟨d, _, rfl, DPut.k (k := .inl (n : Int)) hd3 (by rw [dkeys_len]; exact small1000 (by omega)), ?_⟩
      rw [dkeys_put]
      have sc : PSame p H (upd H2 d (.dK (if n ∈ ks then dkeys ks else dkeys (ks ++ [n])))) := (sa.trans s3).put hd
      by_cases hm : n ∈ ks
      · rw [if_pos hm] at sc ⊢
        exact ⟨ks, _, rfl, sc, upd_same, hnd, hin, by omega, fun _ => List.length_pos_of_mem hm⟩
      · rw [if_neg hm] at sc ⊢
        refine ⟨ks ++ [n], _, rfl, sc, upd_same, ?_, ?_, ?_, fun _ => ?_⟩
        · exact List.nodup_append.mpr ⟨hnd, by simp, fun x hx y hy z => hm (by rw [List.mem_singleton.mp hy] at z; exact z ▸ hx)⟩
        · intro k hk
          rcases List.mem_append.mp hk with z | z
          · exact hin k z
          · rw [List.mem_singleton.mp z]; exact hn94
        · rw [List.length_append, List.length_singleton]; omega
        · rw [List.length_append, List.length_singleton]; omega
    · rintro σ H2 ⟨ks, v3, rfl, sa, hd', hnd, hin, hle, hpos⟩
      have hle' : ks.length ≤ m := by simpa using hle
      have hpos' : 0 < ks.length := hpos (Nat.lt_of_lt_of_le Nat.zero_lt_one hm1)
      refine ⟨⟨_, rfl⟩, _, rfl, d, dkeys ks, ks.map fun n : Nat => (n : Int), rfl, .inl hd', dkeys_keys ks, by rw [List.length_map]; omega, fun ys q0 hperm hsort hq0 => ?_⟩
      obtain ⟨l0, rfl, hl0⟩ := perm_nat hperm
      have hasc0 := pair_lt hsort (hl0.nodup_iff.mpr hnd)
      have el : ((l0.map fun n : Nat => (n : Int)).map V.int) = iv l0 := by rw [List.map_map]; rfl
      rw [el]
      have sp0 : PSame p H (upd H2 q0 (.lst (iv l0))) := sa.new hq0
      refine ⟨_, rfl, q0, _, rfl, SqL.of upd_same, fun q1 hq1 => ?_⟩
      rw [show (some (30 : Int)) = some ((30 : Nat) : Int) from rfl, cut_to]
      have sp : PSame p H (upd (upd H2 q0 (.lst (iv l0))) q1 (.lst (iv (l0.take 30)))) := sp0.new hq1
      obtain ⟨l, hl⟩ : ∃ l, l = l0.take 30 := ⟨_, rfl⟩
      rw [← hl] at sp ⊢
      have hasc : l.Pairwise (· < ·) := by rw [hl]; exact hasc0.sublist (List.take_sublist 30 l0)
      have hin' : ∀ n ∈ l, n < 94 := fun n hn => hin n (hl0.mem_iff.mp (by rw [hl] at hn; exact List.mem_of_mem_take hn))
      have hlen : 1 ≤ l.length ∧ l.length ≤ 30 := by have := hl0.length_eq; rw [hl, List.length_take]; omega
      refine ⟨q1, rfl, ⟨_, SqL.of upd_same⟩, fun D hD => lc_it walk_list (fun i H' => PSame p H H' ∧ H' q1 = some (.lst (iv l)) ∧ H' D = some (.lst ((sv ((l.map fun n => SG.getD n 0).take i)).map V.str))) ⟨sp.new hD, (upd_ne (ne_of_none upd_same hD)).trans upd_same, upd_same⟩ (fun i H' _ ⟨_, h, _⟩ => SqL.of h) ?_ ?_⟩
      · rintro i x Ha Hb hi ⟨sb, hpb, hDb⟩ ⟨rfl, hx⟩
        obtain ⟨n, hn, rfl⟩ := iv_get hx
        have hn94 := hin' n (List.mem_of_getElem? hn)
        have hc : SG[n]? = some (SG.getD n 0) := by rw [List.getD_eq_getElem?_getD, List.getElem?_eq_getElem (by rw [SG_len]; exact hn94)]; rfl
        refine ⟨rfl, _, rfl, _, rfl, S SG, _, SG.getD n 0, rfl, rfl, by decide +kernel, atI_nat hc, ?_⟩
        have hg : (l.map fun n => SG.getD n 0)[i]? = some (SG.getD n 0) := by rw [List.getElem?_map, hn]; rfl
        have hDq : D ≠ q1 := fun e => by rw [e, upd_same] at hD; cases hD
        refine ⟨_, hDb, ?_, ?_, (upd_ne (Ne.symm hDq)).trans hpb, ?_⟩
        · unfold sv; rw [List.length_map, List.length_map, List.length_take, List.length_map]; exact small1000 (by omega)
        · exact sb.put (sp.none hD)
        · rw [upd_same, take_succ_of hg]; unfold sv; rw [List.map_append, List.map_append]; rfl
      · rintro H3 ⟨sb, _, hDb⟩
        rw [iv_len, List.take_of_length_le (by rw [List.length_map]; exact Nat.le_refl _)] at hDb
        have hlm : (l.map fun n => SG.getD n 0).length = l.length := List.length_map _
        refine ⟨_, D, sv (l.map fun n => SG.getD n 0), rfl, rfl, .inl (SqL.of hDb), ?_, ?_⟩
        · rw [sum1, hlm]
          have : (sv (l.map fun n => SG.getD n 0)).length = l.length := by unfold sv; rw [List.length_map, hlm]
          show l.length + (sv (l.map fun n => SG.getD n 0)).length * 0 ≤ 16777216
          omega
        · have hp := sg_map hasc hin'
          have hsg : ∀ c ∈ l.map fun n => SG.getD n 0, c ∈ SG := fun c hc => by
            obtain ⟨n, hn, rfl⟩ := List.mem_map.mp hc
            rw [List.getD_eq_getElem?_getD, List.getElem?_eq_getElem (by rw [SG_len]; exact hin' n hn)]
            exact List.getElem_mem _
          have key := q H3 (l.map fun n => SG.getD n 0) sb (alOk_of (asc_of hp) hsg (by omega) (by omega)) (hp.imp fun h => Nat.ne_of_lt h) (by omega) (by omega) hsg
          rw [← join1 (l.map fun n => SG.getD n 0)] at key
          exact key
theorem ok_stagedB {f : Addr} {fd : FuncData} (F : C8.Fun K "_law_staged" "_law_staged" s__law_staged f fd) (T : Txt K mg) : FnOk P w K mg base C8.CX0 1 f fd ["pairs", "letters", "row", "many"] sp_stagedB := by
  refine C8.fn0 F sc__law_staged (fun vs H Q E h => ?_) (fun cdv A outer s H vs Q E hr h => ?_)
  · obtain ⟨pp, z, us, ps, row, b, m, rfl, _⟩ := h; rfl
  · obtain ⟨pp, z, us, ps, row, b, m, rfl, hpp, hps, hw, hz, hrl, hm, hpl, hb, q⟩ := h
    refine ⟨_, (pss_cons (ps_for PassesOwn.never rfl (pi_range1 rfl T.b_range (pa_cons (pv 3) pa_nil)) (pg_name (i := 4) sc__law_staged.nd rfl (Or.inl rfl)) (pss_cons (ps_set (i := 5) sc__law_staged.nd rfl (Or.inl rfl) (pe_lst pa_nil))
      (pss_cons (ps_for PassesOwn.never rfl (pi_list (pe_callTy call_list_of (by rfl) T.b_list (by decide +kernel) (pa_cons (pv 2) pa_nil))) (pg_name (i := 6) sc__law_staged.nd rfl (Or.inl rfl)) (pss_one (ps_if (PW.pt (pw_and (pt_cmpR op_gt (pe_callB call_len_seq (by rfl) T.b_len PySem.boot_len (pa_cons (pv 5) pa_nil)) pe_int (nomark _)) (pw_and (pt_cmpR op_eq (pv 6) (pe_ix ix_tup (pe_ix ix_list (pv 0) (pv 4) (fun _ _ => rfl)) pe_int (fun _ _ => rfl)) (nomark _)) (pw_and1 (pt_cmpR op_eq (pe_ix ix_list (pv 5) (pe_un un_neg pe_int) (fun _ _ => rfl)) (pe_ix ix_tup (pe_ix ix_list (pv 0) (pv 4) (fun _ _ => rfl)) pe_int (fun _ _ => rfl)) (nomark _)))))) (pss_one (ps_asg (pe_op op_add (pv 1) (pv 4)) (pg_sub (pv 5) (pe_un un_neg pe_int) set_list))) (pss_one (ps_expr (pe_bm PySem.F.plainAttrs_list PySem.F.slot_list_append PySem.F.type_list_append mt_append (pv 5) (pa_cons (pv 6) pa_nil)))))))
      (pss_one (ps_set (i := 2) sc__law_staged.nd rfl (Or.inl rfl) (pv 5))))))
      (pss_one (ps_ret (pv 2)))), ?_⟩
    refine ⟨_, rfl, _, rfl, by omega, by omega, for_it walk_range (fun i σ H' => ∃ (z' : Addr) (v4 v5 v6 : Option V), σ = [some (.ref pp), some (.int (b : Int)), some (.ref z'), some (.int (m : Int)), v4, v5, v6] ∧ Same H H' ∧ (z' = z ∨ H z' = none) ∧ H' z' = some (.lst (iv (cutL b (ps.take i) row))))
      ⟨z, none, none, none, rfl, Same.refl H, .inl rfl, by rw [List.take_zero]; exact hz⟩ (fun _ _ _ _ _ => trivial) ?_ ?_⟩
    · rintro i x σ Ha Hb hi ⟨z', v4, v5, v6, rfl, sa, hz', hzv⟩ ⟨rfl, hx⟩
      obtain rfl : x = V.int (i : Int) := hx.trans (congrArg V.int (Int.zero_add _))
      have him : i < ps.length := by have : i < m := by simpa using hi
                                     omega
      obtain ⟨u, pr, hu, hpr, g, rfl, hg⟩ := Paired.both hps him
      have hmne : b + i ≠ pr.1 := by have := (hw i pr hpr).1; omega
      have hcl := cutL_len b (ps.take i) row
      obtain ⟨R, hR⟩ : ∃ R, R = cutL b (ps.take i) row := ⟨_, rfl⟩
      rw [← hR] at hzv hcl
      refine ⟨Nat.zero_le _, fun J hJ => ?_⟩
      have sJ := same_new (o := .lst []) hJ
      refine ⟨_, rfl, z', _, rfl, .inl (SqL.of (sJ _ _ hzv)), fun zc hzc => ?_⟩
      have sC := Same.new (o := .lst (iv R)) sJ hzc
      have hJne : J ≠ zc := ne_of_none upd_same hzc
      refine ⟨zc, rfl, ⟨_, SqL.of upd_same⟩, for_it walk_list (fun k σ H' => ∃ v6 : Option V, σ = [some (.ref pp), some (.int (b : Int)), some (.ref z'), some (.int (m : Int)), some (.int (i : Int)), some (.ref J), v6] ∧ Same Hb H' ∧ H' zc = some (.lst (iv R)) ∧ H' J = some (.lst (iv ((R.take k).foldl (stepJ pr.1 pr.2 (b + i)) []))))
        ⟨v6, rfl, sC, upd_same, (upd_ne hJne).trans upd_same⟩ (fun _ _ _ _ ⟨_, _, _, h, _⟩ => SqL.of h) ?_ ?_⟩
      · rintro k x σ Hc Hd hk ⟨w6, rfl, s1, hzc', hd⟩ ⟨rfl, hx⟩
        obtain ⟨n, hn, rfl⟩ := iv_get hx
        have hfold := foldl_take_succ (f := stepJ pr.1 pr.2 (b + i)) hn []
        have hlen : ((R.take k).foldl (stepJ pr.1 pr.2 (b + i)) []).length < sizeLine := smallB (by
          have h1 := foldJ_len pr.1 pr.2 (b + i) (R.take k) []
          rw [List.length_take] at h1
          simp only [List.length_nil] at h1; omega)
        generalize hacc : (R.take k).foldl (stepJ pr.1 pr.2 (b + i)) [] = acc at hd hfold hlen
        have hppd := s1 _ _ (sa _ _ hpp)
        have hgd := s1 _ _ (sa _ _ hg)
        have fin : ∀ (acc' : List Nat), acc' = stepJ pr.1 pr.2 (b + i) acc n → ∃ v6 : Option V, [some (V.ref pp), some (.int (b : Int)), some (.ref z'), some (.int (m : Int)), some (.int (i : Int)), some (.ref J), some (.int (n : Int))] = [some (V.ref pp), some (.int (b : Int)), some (.ref z'), some (.int (m : Int)), some (.int (i : Int)), some (.ref J), v6] ∧ Same Hb (upd Hd J (.lst (iv acc'))) ∧ (upd Hd J (.lst (iv acc'))) zc = some (.lst (iv R)) ∧ (upd Hd J (.lst (iv acc'))) J = some (.lst (iv ((R.take (k + 1)).foldl (stepJ pr.1 pr.2 (b + i)) []))) := fun acc' e =>
          ⟨_, rfl, Same.put s1 hJ, (upd_ne (Ne.symm hJne)).trans hzc', by rw [upd_same, hfold, e]⟩
        refine ⟨_, rfl, J, _, rfl, .inl (SqL.of hd), _, _, rfl, rfl, _, rfl, ?_⟩
        rw [iv_len]
        cases hq : acc.getLast? with
        | none =>
          have e : acc = [] := List.getLast?_eq_none_iff.mp hq
          have hc : ¬ (acc.getLast? = some pr.1 ∧ n = pr.2) := by rw [hq]; rintro ⟨q, _⟩; cases q
          rw [decide_eq_false (by rw [e]; show ¬ (0 : Int) < ((0 : Nat) : Int); decide)]
          refine iteF (iteF ⟨_, rfl, .inl ⟨rfl, _, SqL.of hd⟩, _, rfl, J, _, _, rfl, rfl, hd, by rw [iv_len]; exact hlen, ?_⟩)
          rw [iv_snoc]
          exact fin _ (by rw [stepJ, if_neg hc])
        | some y =>
          have hne : acc ≠ [] := by intro e; rw [e] at hq; cases hq
          have hpos : 0 < acc.length := List.length_pos_iff.mpr hne
          rw [decide_eq_true (by omega : (0 : Int) < (acc.length : Int))]
          refine iteT ⟨_, rfl, _, rfl, _, rfl, pp, us, _, _, rfl, rfl, SqL.of hppd, atI_nat hu, g, _, _, _, rfl, rfl, SqT.of hgd, rfl, rfl, _, rfl, ?_⟩
          rw [nat_eq_int]
          by_cases c2 : n = pr.2
          · rw [decide_eq_true c2]
            refine iteT ⟨_, rfl, _, rfl, J, iv acc, _, _, rfl, rfl, SqL.of hd, atI_neg1 (iv_last hq), _, rfl, _, rfl, pp, us, _, _, rfl, rfl, SqL.of hppd, atI_nat hu, g, _, _, _, rfl, rfl, SqT.of hgd, rfl, rfl, _, rfl, ?_⟩
            rw [nat_eq_int]
            by_cases c1 : y = pr.1
            · rw [decide_eq_true c1]
              refine iteT ⟨_, rfl, _, rfl, _, _, rfl, rfl, _, rfl, _, rfl, J, iv acc, _, acc.length - 1, rfl, rfl, hd, by rw [iv_len]; exact ixN_neg1 hpos, ?_⟩
              have := iv_set_last (b + i) hne
              rw [show ((b + i : Nat) : Int) = (b : Int) + (i : Int) from rfl] at this
              rw [this]
              exact fin _ (by rw [stepJ, if_pos ⟨by rw [hq, c1], c2⟩])
            · rw [decide_eq_false c1]
              have hc : ¬ (acc.getLast? = some pr.1 ∧ n = pr.2) := by rw [hq]; rintro ⟨q, _⟩; exact c1 (Option.some.inj q)
              refine iteF ⟨_, rfl, .inl ⟨rfl, _, SqL.of hd⟩, _, rfl, J, _, _, rfl, rfl, hd, by rw [iv_len]; exact hlen, ?_⟩
              rw [iv_snoc]
              exact fin _ (by rw [stepJ, if_neg hc])
          · rw [decide_eq_false c2]
            have hc : ¬ (acc.getLast? = some pr.1 ∧ n = pr.2) := fun q => c2 q.2
            refine iteF (iteF ⟨_, rfl, .inl ⟨rfl, _, SqL.of hd⟩, _, rfl, J, _, _, rfl, rfl, hd, by rw [iv_len]; exact hlen, ?_⟩)
            rw [iv_snoc]
            exact fin _ (by rw [stepJ, if_neg hc])
      · rintro σ H1 ⟨w6, rfl, s1, _, hd⟩
        rw [iv_len, List.take_length, stepJ_all hmne, hR] at hd
        refine ⟨_, rfl, J, _, _, _, rfl, sa.trans s1, .inr (sa.free hJ), ?_⟩
        rw [hd, take_succ_of hpr, cutL_snoc, take_len_of hpr]
    · rintro σ H1 ⟨z', v4, v5, v6, rfl, sa, hz', hzv⟩
      refine ⟨_, rfl, q H1 z' sa hz' ?_⟩
      rw [hzv]; simp
theorem ok_cutB {f : Addr} {fd : FuncData} (F : C8.Fun K "_law_cut" "_law_cut" s__law_cut f fd) (T : Txt K mg) (c__law_staged : C8.Cal P w K mg base 1 "_law_staged" sp_stagedB []) : FnOk P w K mg base C8.CX0 2 f fd ["pairs", "alphabet", "text"] sp_cutB := by
  refine C8.fn0 F sc__law_cut (fun vs H Q E h => ?_) (fun cdv A outer s H vs Q E hr h => ?_)
  · obtain ⟨pp, us, ps, al, t, rfl, _⟩ := h; rfl
  · obtain ⟨pp, us, ps, al, t, rfl, hpp, hps, hw, hpl, hal, hin, htl, q⟩ := h
    refine ⟨_, (pss_one (ps_ret (C8.pe_c c__law_staged hr (by first | decide | omega) (by rfl) (pa_cons (pv 0) (pa_cons (pe_callB call_len_str (by rfl) T.b_len PySem.boot_len (pa_cons (pv 1) pa_nil)) (pa_cons (pe_lc (own := [("sign", 3)]) (g := gName 3) (tt := tYes) rfl sc__law_cut.nd (pi_str (pv 2)) (blkOk_by (N := N__law_cut) (sc := C8.fnScope s__law_cut) (by decide +kernel)) (fun _ _ _ _ _ => (pg_name (i := 3) sc__law_cut.nd rfl (Or.inl rfl))) (fun _ _ _ _ _ => pts_nil) (fun _ _ _ _ _ => (pe_bmK (K := K) rfl PySem.F.plainAttrs_str PySem.F.slot_str_find PySem.F.type_str_find mt_find (pv 1) (pa_cons (pv 3) pa_nil)))) (pa_cons (pe_callB call_len_seq (by rfl) T.b_len PySem.boot_len (pa_cons (pv 0) pa_nil)) pa_nil))))))), ?_⟩
    have hul : us.length = ps.length := hps.length
    refine ⟨_, rfl, _, rfl, S al, rfl, by rw [S_len]; exact small_le hal, _, rfl, S t, rfl, fun D0 hD0 => lc_it walk_str (fun i H' => Same H H' ∧ H' D0 = some (.lst (iv (lets al (t.take i))))) ⟨same_new hD0, upd_same⟩ (fun _ _ _ _ => trivial) ?_ ?_⟩
    · rintro i x Ha Hb hi ⟨sa, ha⟩ ⟨rfl, c, hc, rfl⟩
      rw [S_get] at hc
      obtain ⟨r, hfind⟩ := find_sign (hin c (List.mem_of_getElem? hc))
      have hf : Txt.find (S al) ⟨#[c]⟩ = (al.idxOf c : Int) := by unfold Txt.find; rw [hfind]
      refine ⟨rfl, _, rfl, rfl, _, rfl, S al, ⟨#[c]⟩, rfl, rfl, ?_⟩
      rw [hf]
      refine ⟨_, ha, ?_, Same.put sa hD0, ?_⟩
      · rw [iv_len, lets, List.length_map, List.length_take]; exact smallB (by omega)
      · rw [upd_same, iv_snoc, lets, lets, map_take_succ hc]
    rintro H1 ⟨s0, hy0⟩
    rw [S_size, List.take_length] at hy0
    refine ⟨_, rfl, pp, _, rfl, .inl (SqL.of (s0 _ _ hpp)), pp, D0, us, ps, lets al t, al.length, ps.length, by rw [S_len, hul]; rfl, s0 _ _ hpp, hps.same (Same.t s0), hw, hy0, by rw [lets, List.length_map]; exact htl, Nat.le_refl _, hpl, hal, fun H2 z' s2 hz' hzv => ?_⟩
    rw [List.take_length] at hzv
    refine q H2 z' (s0.trans s2) ?_ hzv
    rcases hz' with rfl | e
    · exact hD0
    · exact s0.free e
end
end RJ
end

section
set_option maxRecDepth 100000
set_option maxHeartbeats 8000000
namespace RJ
open PySem PySem.Spec PyProof.Rows L2
abbrev s__law_pairs : Stmt := top 43
abbrev N__law_pairs : List Str := ["pool", "alphabet", "limit", "pairs", "texts", "k", "left", "right", "row", "at", "text", "sign"]
theorem sc__law_pairs : FnScope N__law_pairs ["pool", "alphabet", "limit"] (C8.fnScope s__law_pairs) := C8.fnScope_by (by decide +kernel)
theorem cutS_mid (l : List Nat) {k m : Nat} (h : k + m ≤ l.length) : cutS (S l) (some (k : Int)) (some ((k + m : Nat) : Int)) = S ((l.drop k).take m) := by
  show (⟨(((S l).cps.toList.drop (HT.sIx (S l).length 0 (some (k : Int)))).take (HT.sIx (S l).length (S l).length (some ((k + m : Nat) : Int)) - HT.sIx (S l).length 0 (some (k : Int)))).toArray⟩ : Str) = ⟨((l.drop k).take m).toArray⟩
  rw [HT.sIx_nat, HT.sIx_nat, S_len, Nat.min_eq_left h, Nat.min_eq_left (show k ≤ l.length by omega), show k + m - k = m by omega]
theorem cutS_take (l : List Nat) (k : Nat) : cutS (S l) none (some (k : Int)) = S (l.take k) := by
  show (⟨(((S l).cps.toList.drop (HT.sIx (S l).length 0 none)).take (HT.sIx (S l).length (S l).length (some (k : Int)) - HT.sIx (S l).length 0 none)).toArray⟩ : Str) = ⟨(l.take k).toArray⟩
  rw [HT.sIx_nat, HT.sIx_none, S_len, Nat.sub_zero, List.drop_zero]
  have e : l.take (min k l.length) = l.take k := by
    by_cases h : k ≤ l.length
    · rw [Nat.min_eq_left h]
    · rw [Nat.min_eq_right (by omega), List.take_length, List.take_of_length_le (by omega)]
  exact congrArg (fun z : List Nat => (⟨z.toArray⟩ : Str)) e
/-- each two letters that follow one another, the last ones first -/
def chP (L : Nat) : List (Nat × Nat) := (List.range (L - 1)).map fun i => (L - 2 - i, L - 1 - i)
theorem chP_len (L : Nat) : (chP L).length = L - 1 := by rw [chP, List.length_map, List.length_range]
theorem chP_get {L i : Nat} (h : i < L - 1) : (chP L)[i]? = some (L - 2 - i, L - 1 - i) := by
  rw [chP, List.getElem?_map, List.getElem?_range h]; rfl
theorem idx_at {al : List Nat} (hnd : al.Nodup) {i c : Nat} (h : al[i]? = some c) : al.idxOf c = i := by
  obtain ⟨hi, e⟩ := List.getElem?_eq_some_iff.mp h
  rw [← e]; exact hnd.idxOf_getElem i hi
theorem chP_proper {al : List Nat} (hnd : al.Nodup) : Proper al (chP al.length) := by
  intro i p hp
  have hi : i < al.length - 1 := by rw [← chP_len]; exact (List.getElem?_eq_some_iff.mp hp).1
  rw [chP_get hi] at hp
  obtain rfl := Option.some.inj hp
  obtain ⟨c, hc⟩ : ∃ c, al[al.length - 2 - i]? = some c := ⟨_, List.getElem?_eq_getElem (by omega)⟩
  obtain ⟨d, hd⟩ : ∃ d, al[al.length - 1 - i]? = some d := ⟨_, List.getElem?_eq_getElem (by omega)⟩
  have ec := texts_letter (al := al) (ps := (chP al.length).take i) hc
  have ed := texts_letter (al := al) (ps := (chP al.length).take i) hd
  refine ⟨by rw [textsOf_len]; show al.length - 2 - i < _; omega, by rw [textsOf_len]; show al.length - 1 - i < _; omega, ?_, ?_⟩
  · show ((_ ++ _ : List Nat)).length ≤ 40
    rw [ec, ed]; show 2 ≤ 40; decide
  · show cutL al.length _ (lets al (_ ++ _)) = [al.length - 2 - i, al.length - 1 - i]
    rw [ec, ed]
    show cutL al.length _ [al.idxOf c, al.idxOf d] = _
    rw [idx_at hnd hc, idx_at hnd hd]
    refine cut_done fun q hq hm => ?_
    rw [adjs_cons2, adjs_one] at hm
    rw [List.mem_singleton.mp hm] at hq
    obtain ⟨j, hj⟩ := List.getElem?_of_mem hq
    have hji : j < i := by have := (List.getElem?_eq_some_iff.mp hj).1; rw [List.length_take] at this; omega
    rw [List.getElem?_take_of_lt hji, chP_get (by omega)] at hj
    have := congrArg Prod.fst (Option.some.inj hj)
    have : al.length - 2 - j = al.length - 2 - i := this
    omega
theorem chP_text {al : List Nat} {i c d : Nat} (hi : i < al.length - 1) (hc : al[al.length - 2 - i]? = some c) (hd : al[al.length - 1 - i]? = some d) : textsOf al ((chP al.length).take (i + 1)) = textsOf al ((chP al.length).take i) ++ [[c, d]] := by
  rw [take_succ_of (chP_get hi), textsOf_snoc]
  show _ ++ [(textsOf al _).getD (al.length - 2 - i) [] ++ (textsOf al _).getD (al.length - 1 - i) []] = _
  rw [texts_letter hc, texts_letter hd]; rfl
theorem sv_strV (al : List Nat) : (sv al).map V.str = strV (textsOf al []) := by
  unfold sv strV textsOf
  rw [List.foldl_nil, List.map_map, List.map_map]; rfl
def sp_pairsB : Sp := fun vs H Q _ => ∃ (p : Addr) (al : List Nat) (m : Nat), vs = [.ref p, .str (S al), .int (m : Int)] ∧ PoolAt p H ∧ al.Nodup ∧ 1 ≤ al.length ∧ al.length ≤ 30 ∧ m ≤ 30 ∧
  ∀ H' r pp tx us ps, PSame p H H' → pp ≠ p → tx ≠ p → H' r = some (.tup [.ref pp, .ref tx]) → H' pp = some (.lst us) → PairsAt H' us ps → H' tx = some (.lst (strV (textsOf al ps))) → Proper al ps → ps.length ≤ 30 → Q (.ref r) H'
section
variable {P : Program} {w : World} {K : PySem.W.Frag} {mg : Str → Option Value} {base : Heap}
theorem ok_pairsB {f : Addr} {fd : FuncData} (F : C8.Fun K "_law_pairs" "_law_pairs" s__law_pairs f fd) (T : Txt K mg) (c__law_draw : C8.Cal P w K mg base 1 "_law_draw" sp_drawB []) (c__law_cut : C8.Cal P w K mg base 2 "_law_cut" sp_cutB []) : FnOk P w K mg base C8.CX0 3 f fd ["pool", "alphabet", "limit"] sp_pairsB := by
  refine C8.fn0 F sc__law_pairs (fun vs H Q E h => ?_) (fun cdv A outer s H vs Q E hr h => ?_)
  · obtain ⟨p, al, m, rfl, _⟩ := h; rfl
  · obtain ⟨p, al, m, rfl, hP, hnd, h1, h30, hm, q⟩ := h
    have hu := hu_of hr
    have hu64 := hu64_of hr
    refine ⟨_, (pss_cons (ps_set (i := 3) sc__law_pairs.nd rfl (Or.inl rfl) (pe_lst pa_nil))
      (pss_cons (ps_setLc (own := [("sign", 11)]) (i := 4) (g := gName 11) (tt := tYes) rfl sc__law_pairs.nd rfl rfl (sw_true rfl rfl rfl (by decide +kernel)) (pi_str (pv 1)) (blkOk_by (N := N__law_pairs) (sc := C8.fnScope s__law_pairs) (by decide +kernel)) (fun _ _ _ _ _ => (pg_name (i := 11) sc__law_pairs.nd rfl (Or.inl rfl))) (fun _ _ _ _ _ => pts_nil) (fun _ _ _ _ _ => (pv 11)))
      (pss_cons (ps_if (PW.pt (pw_and (pt_cmpR op_gt (pe_callB call_len_str (by rfl) T.b_len PySem.boot_len (pa_cons (pv 1) pa_nil)) pe_int (nomark _)) (pw_and1 (pt_cmpR op_eq (C8.pe_c c__law_draw hr (by first | decide | omega) (by rfl) (pa_cons (pv 0) (pa_cons pe_int pa_nil))) pe_int (nomark _))))) (pss_cons (ps_setLc (own := [("k", 5)]) (i := 3) (g := gName 5) (tt := tYes) rfl sc__law_pairs.nd rfl rfl (sw_true rfl rfl rfl (by decide +kernel)) (pi_range3 rfl T.b_range (pa_cons (pe_op op_sub (pe_callB call_len_str (by rfl) T.b_len PySem.boot_len (pa_cons (pv 1) pa_nil)) pe_int) (pa_cons (pe_un un_neg pe_int) (pa_cons (pe_un un_neg pe_int) pa_nil)))) (blkOk_by (N := N__law_pairs) (sc := C8.fnScope s__law_pairs) (by decide +kernel)) (fun _ _ _ _ _ => (pg_name (i := 5) sc__law_pairs.nd rfl (Or.inl rfl))) (fun _ _ _ _ _ => pts_nil) (fun _ _ _ _ _ => (pe_tup (pa_cons (pv 5) (pa_cons (pe_op op_add (pv 5) pe_int) pa_nil)))))
      (pss_one (ps_ret (pe_tup (pa_cons (pv 3) (pa_cons (pe_op op_cat (pv 4) (pe_lc (own := [("k", 5)]) (g := gName 5) (tt := tYes) rfl sc__law_pairs.nd (pi_range3 rfl T.b_range (pa_cons (pe_op op_sub (pe_callB call_len_str (by rfl) T.b_len PySem.boot_len (pa_cons (pv 1) pa_nil)) pe_int) (pa_cons (pe_un un_neg pe_int) (pa_cons (pe_un un_neg pe_int) pa_nil)))) (blkOk_by (N := N__law_pairs) (sc := C8.fnScope s__law_pairs) (by decide +kernel)) (fun _ _ _ _ _ => (pg_name (i := 5) sc__law_pairs.nd rfl (Or.inl rfl))) (fun _ _ _ _ _ => pts_nil) (fun _ _ _ _ _ => (pe_slice sl_str (pv 1) (po_some (pv 5)) (po_some (pe_op op_add (pv 5) pe_int)))))) pa_nil)))))) pss_nil)
      (pss_cons (ps_for PassesOwn.never rfl (pi_range1 rfl T.b_range (pa_cons (pv 2) pa_nil)) (pg_name (i := 5) sc__law_pairs.nd rfl (Or.inl rfl)) (pss_cons (ps_set (i := 6) sc__law_pairs.nd rfl (Or.inl rfl) (C8.pe_c c__law_draw hr (by first | decide | omega) (by rfl) (pa_cons (pv 0) (pa_cons (pe_callB call_len_seq (by rfl) T.b_len PySem.boot_len (pa_cons (pv 4) pa_nil)) pa_nil))))
      (pss_cons (ps_set (i := 7) sc__law_pairs.nd rfl (Or.inl rfl) (C8.pe_c c__law_draw hr (by first | decide | omega) (by rfl) (pa_cons (pv 0) (pa_cons (pe_callB call_len_seq (by rfl) T.b_len PySem.boot_len (pa_cons (pv 4) pa_nil)) pa_nil))))
      (pss_cons (ps_if (pt_cmpR op_gt (C8.pe_c c__law_draw hr (by first | decide | omega) (by rfl) (pa_cons (pv 0) (pa_cons pe_int pa_nil))) pe_int (nomark _)) (pss_cons (ps_set (i := 8) sc__law_pairs.nd rfl (Or.inl rfl) (C8.pe_c c__law_cut hr (by first | decide | omega) (by rfl) (pa_cons (pv 3) (pa_cons (pv 1) (pa_cons (pe_op op_add_str (pe_ix ix_list (pv 4) (pv 6) (fun _ _ => rfl)) (pe_ix ix_list (pv 4) (pv 7) (fun _ _ => rfl))) pa_nil)))))
      (pss_cons (ps_set (i := 9) sc__law_pairs.nd rfl (Or.inl rfl) (C8.pe_c c__law_draw hr (by first | decide | omega) (by rfl) (pa_cons (pv 0) (pa_cons (pe_callB (call_max2 rfl) (by rfl) T.b_max (by decide +kernel) (pa_cons pe_int (pa_cons (pe_op op_sub (pe_callB call_len_seq (by rfl) T.b_len PySem.boot_len (pa_cons (pv 8) pa_nil)) pe_int) pa_nil))) pa_nil))))
      (pss_one (ps_if (pt_cmpR op_gt (pe_callB call_len_seq (by rfl) T.b_len PySem.boot_len (pa_cons (pv 8) pa_nil)) pe_int (nomark _)) (pss_cons (ps_set (i := 6) sc__law_pairs.nd rfl (Or.inl rfl) (pe_ix ix_list (pv 8) (pv 9) (fun _ _ => rfl)))
      (pss_one (ps_set (i := 7) sc__law_pairs.nd rfl (Or.inl rfl) (pe_ix ix_list (pv 8) (pe_op op_add (pv 9) pe_int) (fun _ _ => rfl))))) pss_nil)))) pss_nil)
      (pss_cons (ps_set (i := 10) sc__law_pairs.nd rfl (Or.inl rfl) (pe_op op_add_str (pe_ix ix_list (pv 4) (pv 6) (fun _ _ => rfl)) (pe_ix ix_list (pv 4) (pv 7) (fun _ _ => rfl))))
      (pss_one (ps_if (PW.pt (pw_and (pt_cmpR op_le (pe_callB call_len_str (by rfl) T.b_len PySem.boot_len (pa_cons (pv 10) pa_nil)) pe_int (nomark _)) (pw_and1 (pt_cmpR (op_eqD hu64) (C8.pe_c c__law_cut hr (by first | decide | omega) (by rfl) (pa_cons (pv 3) (pa_cons (pv 1) (pa_cons (pv 10) pa_nil)))) (pe_lst (pa_cons (pv 6) (pa_cons (pv 7) pa_nil))) (nomark _))))) (pss_cons (ps_expr (pe_bm PySem.F.plainAttrs_list PySem.F.slot_list_append PySem.F.type_list_append mt_append (pv 3) (pa_cons (pe_tup (pa_cons (pv 6) (pa_cons (pv 7) pa_nil))) pa_nil)))
      (pss_one (ps_expr (pe_bm PySem.F.plainAttrs_list PySem.F.slot_list_append PySem.F.type_list_append mt_append (pv 4) (pa_cons (pv 10) pa_nil))))) pss_nil)))))))
      (pss_one (ps_ret (pe_tup (pa_cons (pv 3) (pa_cons (pv 4) pa_nil))))))))), ?_⟩
    have hSl : (S al).length ≤ sizeLine := by rw [S_len]; exact small_le (by omega)
    refine ⟨Nat.zero_le _, fun pp hpp => ?_⟩
    have hppp : pp ≠ p := hP.free hpp
    have s0 := (PSame.refl hP).new (o := .lst []) hpp
    refine ⟨_, rfl, S al, rfl, fun tx htx => lc_it walk_str (fun i H' => PSame p H H' ∧ H' pp = some (.lst []) ∧ H' tx = some (.lst ((sv (al.take i)).map V.str))) ⟨s0.new htx, (upd_ne (ne_of_none upd_same htx)).trans upd_same, upd_same⟩ (fun _ _ _ _ => trivial) ?_ ?_⟩
    · rintro i x Ha Hb hi ⟨sa, hpb, ha⟩ ⟨rfl, c, hc, rfl⟩
      rw [S_get] at hc
      have hne : pp ≠ tx := ne_of_none upd_same htx
      refine ⟨rfl, _, rfl, _, ha, ?_, sa.put (s0.none htx), (upd_ne hne).trans hpb, ?_⟩
      · unfold sv; rw [List.length_map, List.length_map, List.length_take]; exact small1000 (by omega)
      · rw [upd_same, take_succ_of hc]; unfold sv; rw [List.map_append, List.map_append]; rfl
    rintro H1 ⟨s1, hp1, ht1⟩
    rw [S_size, List.take_length, sv_strV] at ht1
    have hne : pp ≠ tx := ne_of_none upd_same htx
    have htx0 : H tx = none := s0.none htx
    have htxp : tx ≠ p := hP.free htx0
    -- the chain
    dsimp only [gName]
    refine ⟨_, rfl, S al, rfl, hSl, _, _, rfl, rfl, _, rfl, ?_⟩
    rw [S_len]
    generalize hM : tSeq (tFor _ _ _) _ _ = M
    have key : ∀ H2, PSame p H1 H2 → M [some (.ref p), some (.str (S al)), some (.int (m : Int)), some (.ref pp), some (.ref tx), none, none, none, none, none, none, none] H2 := by
      intro H2 s12
      rw [← hM]
      have s2 := s1.trans s12
      refine ⟨_, rfl, _, rfl, by omega, by omega, for_it walk_range (fun i σ H' => ∃ (us : List V) (ps : List (Nat × Nat)) (v5 v6 v7 v8 v9 v10 : Option V), σ = [some (.ref p), some (.str (S al)), some (.int (m : Int)), some (.ref pp), some (.ref tx), v5, v6, v7, v8, v9, v10, none] ∧ PSame p H H' ∧
          H' pp = some (.lst us) ∧ PairsAt H' us ps ∧ H' tx = some (.lst (strV (textsOf al ps))) ∧ Proper al ps ∧ ps.length ≤ i)
        ⟨[], [], none, none, none, none, none, none, rfl, s2, s12.lst hppp hp1, .nil, s12.lst htxp ht1, Proper.nil al, Nat.le_refl _⟩ (fun _ _ _ _ _ => trivial) ?_ ?_⟩
      · rintro i x σ Ha Hb hi ⟨us, ps, v5, v6, v7, v8, v9, v10, rfl, sa, hpb, hps, htb, hprop, hle⟩ ⟨rfl, hx⟩
        have him : i < m := by simpa using hi
        obtain ⟨L, hLe⟩ : ∃ L, L = al.length + ps.length := ⟨_, rfl⟩
        have hLt : (textsOf al ps).length = L := by rw [textsOf_len, hLe]
        have hL : (strV (textsOf al ps)).length = L := by rw [strV_len, hLt]
        have pos : (0 : Int) < ((strV (textsOf al ps)).length : Int) := by rw [hL]; omega
        refine ⟨_, rfl, _, rfl, tx, _, rfl, .inl (SqL.of htb), p, _, rfl, sa.at1, pos, fun H3 a0 s3 ha0 => ?_⟩
        have sa3 := sa.trans s3
        refine ⟨_, rfl, _, rfl, tx, _, rfl, .inl (SqL.of (s3.lst htxp htb)), p, _, rfl, s3.at1, pos, fun H4 b0 s4 hb0 => ?_⟩
        have s34 := s3.trans s4
        rw [hL] at ha0 hb0
        dsimp only [gName]
        -- the draw
        refine ⟨_, rfl, p, 3, rfl, s34.at1, by decide, fun H5 r5 s5 hr5 => ⟨_, _, rfl, rfl, _, rfl, ?_⟩⟩
        have s35 := s34.trans s5
        generalize hM2 : tSeq (tAsg _ _) (tIfS _ _ _) _ = M2
        have key2 : ∀ (a b : Nat) (w8 w9 : Option V) (H6 : Hp), PSame p Hb H6 → a < L → b < L → M2 [some (.ref p), some (.str (S al)), some (.int (m : Int)), some (.ref pp), some (.ref tx), some x, some (.int (a : Int)), some (.int (b : Int)), w8, w9, v10, none] H6 := by
          intro a b w8 w9 H6 s6 ha hb
          rw [← hM2]
          have htx6 := s6.lst htxp htb
          have hpp6 := s6.lst hppp hpb
          have haT : a < (textsOf al ps).length := by rw [hLt]; exact ha
          have hbT : b < (textsOf al ps).length := by rw [hLt]; exact hb
          have hla : ((textsOf al ps).getD a []).length ≤ 40 := getD_short hprop.short a
          have hlb : ((textsOf al ps).getD b []).length ≤ 40 := getD_short hprop.short b
          have hmem : ∀ c ∈ (textsOf al ps).getD a [] ++ (textsOf al ps).getD b [], c ∈ al := fun c hc => by
            have key : ∀ i, c ∈ (textsOf al ps).getD i [] → c ∈ al := fun i hi => by
              rcases getD_mem_or (ts := textsOf al ps) (i := i) with m | m
              · exact textsOf_al _ m c hi
              · rw [m] at hi; cases hi
            rcases List.mem_append.mp hc with z | z
            · exact key _ z
            · exact key _ z
          refine ⟨_, rfl, _, rfl, tx, _, _, _, rfl, rfl, SqL.of htx6, atI_nat (strV_at haT), _, rfl, _, rfl, tx, _, _, _, rfl, rfl, SqL.of htx6, atI_nat (strV_at hbT), S _, S _, rfl, rfl, ?_, ?_⟩
          · rw [S_len, S_len]; exact small_le (by omega)
          rw [S_cat]
          obtain ⟨tt, htt⟩ : ∃ tt, tt = (textsOf al ps).getD a [] ++ (textsOf al ps).getD b [] := ⟨_, rfl⟩
          have htl : tt.length ≤ 80 := by rw [htt, List.length_append]; omega
          rw [← htt] at hmem ⊢
          refine ⟨_, rfl, S tt, rfl, by rw [S_len]; exact small_le (by omega), _, _, rfl, rfl, _, rfl, ?_⟩
          rw [S_len]
          by_cases h40 : tt.length ≤ 40
          · rw [decide_eq_true (by omega : (tt.length : Int) ≤ 40)]
            refine iteT ⟨_, rfl, _, rfl, _, rfl, pp, us, ps, al, tt, rfl, hpp6, hps.same s6.tt, hprop.wf, by omega, by omega, hmem, by omega, fun H7 y s7 hyn hy => ?_⟩
            refine ⟨_, rfl, _, rfl, by show 2 ≤ sizeLine; decide, fun D hD => ?_⟩
            have sd := Same.new (o := .lst [V.int (a : Int), V.int (b : Int)]) s7 hD
            have hyD : (upd H7 D (.lst [V.int (a : Int), V.int (b : Int)])) y = some (.lst (iv (cutL al.length ps (lets al tt)))) := (upd_ne (ne_of_none hy hD)).trans hy
            refine ⟨_, _, .lst (SqL.of hyD) (iv_dp _), .lst (SqL.of upd_same) (iv_dp [a, b]), shaped_iv _, shaped_iv [a, b], _, rfl, ?_⟩
            have ec : PyData.eqv (.list ((cutL al.length ps (lets al tt)).map fun (n : Nat) => PyData.int (n : Int))) (.list ([a, b].map fun (n : Nat) => PyData.int (n : Int))) = decide (cutL al.length ps (lets al tt) = [a, b]) := by rw [PyData.eqv, eqv_iv]
            have s8 := s6.then sd
            have hpp8 := sd _ _ hpp6
            have htx8 := sd _ _ htx6
            have hps8 := hps.same s8.tt
            by_cases hcut : cutL al.length ps (lets al tt) = [a, b]
            · rw [decide_eq_true hcut] at ec
              rw [ec]
              have hokp : okP al (textsOf al ps) ps (a, b) := ⟨haT, hbT, by rw [← htt]; exact h40, by rw [← htt]; exact hcut⟩
              have hul : us.length = ps.length := hps.length
              refine iteT ⟨_, rfl, .inl ⟨rfl, _, SqL.of hpp8⟩, _, rfl, _, rfl, by show 2 ≤ sizeLine; decide, fun g hg => ?_⟩
              have sg := same_new (o := .tup [V.int (a : Int), V.int (b : Int)]) hg
              have hpp9 := sg _ _ hpp8
              have htx9 := sg _ _ htx8
              have hps9 := hps8.same (Same.t sg)
              have g2v : (upd (upd H7 D (.lst [V.int (a : Int), V.int (b : Int)])) g (.tup [V.int (a : Int), V.int (b : Int)])) g = some (.tup [V.int (a : Int), V.int (b : Int)]) := upd_same
              have s9 := (sa.trans s8).new (o := .tup [V.int (a : Int), V.int (b : Int)]) hg
              generalize upd (upd H7 D (.lst [V.int (a : Int), V.int (b : Int)])) g (.tup [V.int (a : Int), V.int (b : Int)]) = H9 at *
              refine ⟨pp, us, _, rfl, rfl, hpp9, small1000 (by omega), ?_⟩
              have sT : SameT H9 (upd H9 pp (.lst (us ++ [.ref g]))) := SameT.put hpp9
              have t3 : (upd H9 pp (.lst (us ++ [.ref g]))) tx = some (.lst (strV (textsOf al ps))) := (upd_ne (Ne.symm hne)).trans htx9
              have p3 : (upd H9 pp (.lst (us ++ [.ref g]))) pp = some (.lst (us ++ [.ref g])) := upd_same
              have q3 : PairsAt (upd H9 pp (.lst (us ++ [.ref g]))) (us ++ [.ref g]) (ps ++ [(a, b)]) := Paired.snoc ⟨g, rfl, sT _ _ g2v⟩ (hps9.same sT)
              have s10 := s9.put (o := .lst (us ++ [.ref g])) hpp
              generalize upd H9 pp (.lst (us ++ [.ref g])) = H10 at *
              refine ⟨_, rfl, .inl ⟨rfl, _, SqL.of t3⟩, _, rfl, tx, _, _, rfl, rfl, t3, by rw [strV_len, textsOf_len]; exact small1000 (by omega), ?_⟩
              have et : strV (textsOf al ps) ++ [V.str (S tt)] = strV (textsOf al (ps ++ [(a, b)])) := by rw [strV_snoc, textsOf_snoc, htt]
              refine ⟨us ++ [.ref g], ps ++ [(a, b)], _, _, _, _, _, _, rfl, s10.put htx0, (upd_ne hne).trans p3, q3.same (SameT.put t3), by rw [upd_same, et], hprop.snoc hokp, by rw [List.length_append, List.length_singleton]; omega⟩
            · rw [decide_eq_false hcut] at ec
              rw [ec]
              exact iteF ⟨us, ps, _, _, _, _, _, _, rfl, sa.trans s8, hpp8, hps8, htx8, hprop, by omega⟩
          · rw [decide_eq_false (by omega : ¬ (tt.length : Int) ≤ 40)]
            exact iteF (iteF ⟨us, ps, _, _, _, _, _, _, rfl, sa.trans s6, hpp6, hps.same s6.tt, htx6, hprop, by omega⟩)
        obtain ⟨e, he⟩ : ∃ e : Bool, e = decide ((0 : Int) < (r5 : Int)) := ⟨_, rfl⟩
        show (if decide ((0 : Int) < (r5 : Int)) = true then _ else _)
        rw [← he]
        cases e with
        | false => exact iteF (key2 a0 b0 _ _ _ s35 (by omega) (by omega))
        | true =>
          have htx5 := s35.lst htxp htb
          have hpp5 := s35.lst hppp hpb
          have haT : a0 < (textsOf al ps).length := by omega
          have hbT : b0 < (textsOf al ps).length := by omega
          have hla : ((textsOf al ps).getD a0 []).length ≤ 40 := getD_short hprop.short a0
          have hlb : ((textsOf al ps).getD b0 []).length ≤ 40 := getD_short hprop.short b0
          have hmem : ∀ c ∈ (textsOf al ps).getD a0 [] ++ (textsOf al ps).getD b0 [], c ∈ al := fun c hc => by
            have key : ∀ i, c ∈ (textsOf al ps).getD i [] → c ∈ al := fun i hi => by
              rcases getD_mem_or (ts := textsOf al ps) (i := i) with m | m
              · exact textsOf_al _ m c hi
              · rw [m] at hi; cases hi
            rcases List.mem_append.mp hc with z | z
            · exact key _ z
            · exact key _ z
          refine iteT ⟨_, rfl, _, rfl, _, rfl, _, rfl, tx, _, _, _, rfl, rfl, SqL.of htx5, atI_nat (strV_at haT), _, rfl, _, rfl, tx, _, _, _, rfl, rfl, SqL.of htx5, atI_nat (strV_at hbT), S _, S _, rfl, rfl, ?_, ?_⟩
          · rw [S_len, S_len]; exact small_le (by omega)
          rw [S_cat]
          obtain ⟨tt, htt⟩ : ∃ tt, tt = (textsOf al ps).getD a0 [] ++ (textsOf al ps).getD b0 [] := ⟨_, rfl⟩
          have htl : tt.length ≤ 80 := by rw [htt, List.length_append]; omega
          rw [← htt] at hmem ⊢
          refine ⟨pp, us, ps, al, tt, rfl, hpp5, hps.same s35.tt, hprop.wf, by omega, by omega, hmem, by omega, fun H7 y s7 hyn hy => ?_⟩
          have s37 := s35.then s7
          have hyp : y ≠ p := s35.at1.free hyn
          obtain ⟨R, hR⟩ : ∃ R, R = cutL al.length ps (lets al tt) := ⟨_, rfl⟩
          have hRin : ∀ x ∈ R, x < al.length + ps.length := by rw [hR]; exact cut_lt hmem
          have hRl : R.length ≤ 80 := by have := cutL_len al.length ps (lets al tt); rw [← hR, lets, List.length_map] at this; omega
          rw [← hR] at hy
          obtain ⟨mx, hmx⟩ : ∃ mx : Int, mx = (if (R.length : Int) - 1 > 1 then (R.length : Int) - 1 else 1) := ⟨_, rfl⟩
          have hmxp : 0 < mx ∧ (1 < R.length → mx ≤ (R.length : Int) - 1) := by rw [hmx]; split <;> omega
          refine ⟨_, rfl, _, rfl, y, _, rfl, .inl (SqL.of hy), _, _, rfl, rfl, _, _, rfl, ?_⟩
          rw [iv_len, ← hmx]
          refine ⟨p, mx, rfl, s37.at1, hmxp.1, fun H8 r8 s8 hr8 => ?_⟩
          have s38 := s37.trans s8
          have hy8 := s8.lst hyp hy
          refine ⟨_, rfl, y, _, rfl, .inl (SqL.of hy8), _, _, rfl, rfl, _, rfl, ?_⟩
          rw [iv_len]
          by_cases hR1 : 1 < R.length
          · rw [decide_eq_true (by omega : (1 : Int) < (R.length : Int))]
            have hr81 : r8 + 1 < R.length := by have := hmxp.2 hR1; omega
            obtain ⟨u1, hu1⟩ : ∃ u, R[r8]? = some u := ⟨_, List.getElem?_eq_getElem (by omega)⟩
            obtain ⟨u2, hu2⟩ : ∃ u, R[r8 + 1]? = some u := ⟨_, List.getElem?_eq_getElem hr81⟩
            have hb1 := hRin u1 (List.mem_of_getElem? hu1)
            have hb2 := hRin u2 (List.mem_of_getElem? hu2)
            refine iteT ⟨_, rfl, _, rfl, y, _, _, _, rfl, rfl, SqL.of hy8, atI_nat (iv_at hu1), _, rfl, _, rfl, _, _, rfl, rfl, y, _, _, _, rfl, rfl, SqL.of hy8, atI_nat (iv_at hu2), ?_⟩
            exact key2 u1 u2 _ _ _ s38 (by omega) (by omega)
          · rw [decide_eq_false (by omega : ¬ (1 : Int) < (R.length : Int))]
            exact iteF (key2 a0 b0 _ _ _ s38 (by omega) (by omega))
      · rintro σ H3 ⟨us, ps, v5, v6, v7, v8, v9, v10, rfl, sa, hpb, hps, htb, hprop, hle⟩
        refine ⟨_, rfl, _, rfl, by show 2 ≤ sizeLine; decide, fun r hr' => ?_⟩
        have sN := same_new (o := .tup [.ref pp, .ref tx]) hr'
        have hle' : ps.length ≤ m := by simpa using hle
        exact q _ r pp tx us ps (sa.new hr') hppp htxp upd_same (sN _ _ hpb) (hps.same (Same.t sN)) (sN _ _ htb) hprop (by omega)
    by_cases hlen : 2 < al.length
    · rw [decide_eq_true (by omega : (2 : Int) < (al.length : Int))]
      refine iteT ⟨_, rfl, p, 5, rfl, s1.at1, by decide, fun H2 r2 s2 hr2 => ⟨rfl, _, rfl, ?_⟩⟩
      obtain ⟨e, he⟩ : ∃ e : Bool, e = decide (V.int (r2 : Int) = V.int 0) := ⟨_, rfl⟩
      show (if decide (V.int (r2 : Int) = V.int 0) = true then _ else _)
      rw [← he]
      cases e with
      | false => exact iteF (key H2 s2)
      | true =>
        have s12 := s1.trans s2
        have ht2 := s2.lst htxp ht1
        have hn : ((al.length : Int) - 2 - (-1)).toNat = al.length - 1 := by omega
        have rg : RgC ((al.length : Int) - 2) (-1) (-1) (al.length - 1) := by rw [← hn]; exact RgC.neg (by omega) (by omega) (by decide) (by decide)
        refine iteT ⟨_, rfl, S al, rfl, hSl, _, _, rfl, rfl, _, rfl, _, rfl, ?_⟩
        rw [S_len]
        refine ⟨_, _, _, _, rfl, rg, fun D hD => lc_it walk_rangeC (fun i H' => PSame p H H' ∧ H' tx = some (.lst (strV (textsOf al []))) ∧ ∃ us, H' D = some (.lst us) ∧ PairsAt H' us ((chP al.length).take i)) ⟨s12.new hD, (upd_ne (ne_of_none ht2 hD)).trans ht2, [], upd_same, .nil⟩ (fun _ _ _ _ => trivial) ?_ ?_⟩
        · rintro i x Ha Hb hi ⟨sa, hta, us, hDa, hpa⟩ ⟨rfl, hx⟩
          obtain rfl : x = V.int ((al.length - 2 - i : Nat) : Int) := hx.trans (congrArg V.int (by omega))
          refine ⟨rfl, _, rfl, _, rfl, _, _, rfl, rfl, by show 2 ≤ sizeLine; decide, fun g hg => ?_⟩
          have sg := same_new (o := .tup [V.int ((al.length - 2 - i : Nat) : Int), V.int (((al.length - 2 - i : Nat) : Int) + 1)]) hg
          have hDg := sg _ _ hDa
          have hul := hpa.length
          rw [List.length_take, chP_len] at hul
          have hDp : tx ≠ D := ne_of_none ht2 hD
          refine ⟨us, hDg, small1000 (by omega), (sa.new hg).put (s12.none hD), (upd_ne hDp).trans (sg _ _ hta), us ++ [.ref g], upd_same, ?_⟩
          rw [take_succ_of (chP_get hi)]
          refine Paired.snoc ⟨g, rfl, SameT.put hDg _ _ ?_⟩ ((hpa.same (Same.t sg)).same (SameT.put hDg))
          rw [upd_same]
          exact congrArg (fun z : Int => some (HO.tup [V.int ((al.length - 2 - i : Nat) : Int), V.int z])) (by omega : ((al.length - 2 - i : Nat) : Int) + 1 = ((al.length - 1 - i : Nat) : Int))
        rintro H3 ⟨s3, ht3, us, hD3, hp3⟩
        have hfull : (chP al.length).take (al.length - 1) = chP al.length := by rw [List.take_of_length_le (by rw [chP_len]; exact Nat.le_refl _)]
        rw [hfull] at hp3
        have hD0 : H D = none := s12.none hD
        refine ⟨_, rfl, _, rfl, _, rfl, S al, rfl, hSl, _, _, rfl, rfl, _, rfl, _, rfl, ?_⟩
        rw [S_len]
        refine ⟨_, _, _, _, rfl, rg, fun D2 hD2 => lc_it walk_rangeC (fun i H' => PSame p H H' ∧ H' tx = some (.lst (strV (textsOf al []))) ∧ H' D = some (.lst us) ∧ SameT H3 H' ∧ ∃ ts, H' D2 = some (.lst (strV ts)) ∧ textsOf al [] ++ ts = textsOf al ((chP al.length).take i) ∧ ts.length = i) ⟨s3.new hD2, (upd_ne (ne_of_none ht3 hD2)).trans ht3, (upd_ne (ne_of_none hD3 hD2)).trans hD3, Same.t (same_new hD2), [], upd_same, by rw [List.take_zero, List.append_nil], rfl⟩ (fun _ _ _ _ => trivial) ?_ ?_⟩
        · rintro i x Ha Hb hi ⟨sa, hta, hDa, sT, ts, hD2a, hts, htl⟩ ⟨rfl, hx⟩
          obtain rfl : x = V.int ((al.length - 2 - i : Nat) : Int) := hx.trans (congrArg V.int (by omega))
          obtain ⟨c, hc⟩ : ∃ c, al[al.length - 2 - i]? = some c := ⟨_, List.getElem?_eq_getElem (by omega)⟩
          obtain ⟨d, hd⟩ : ∃ d, al[al.length - 1 - i]? = some d := ⟨_, List.getElem?_eq_getElem (by omega)⟩
          refine ⟨rfl, _, rfl, _, rfl, _, rfl, _, rfl, _, _, rfl, rfl, _, rfl, S al, rfl, hSl, ?_⟩
          have e2 : (al.drop (al.length - 2 - i)).take 2 = [c, d] := by
            obtain ⟨hc1, hc2⟩ := List.getElem?_eq_some_iff.mp hc
            obtain ⟨hd1, hd2⟩ := List.getElem?_eq_some_iff.mp hd
            rw [List.drop_eq_getElem_cons hc1, List.take_succ_cons, hc2]
            have hd1' : al.length - 2 - i + 1 < al.length := by omega
            rw [List.drop_eq_getElem_cons hd1', List.take_succ_cons, List.take_zero]
            have : al[al.length - 2 - i + 1] = d := by rw [← hd2]; congr 1; omega
            rw [this]
          rw [show (((al.length - 2 - i : Nat) : Int) + 2) = ((al.length - 2 - i + 2 : Nat) : Int) from rfl, cutS_mid al (by omega), e2]
          have hne1 : tx ≠ D2 := ne_of_none ht3 hD2
          have hne2 : D ≠ D2 := ne_of_none hD3 hD2
          refine ⟨_, hD2a, ?_, sa.put (s3.none hD2), (upd_ne hne1).trans hta, (upd_ne hne2).trans hDa, fun b xs e => SameT.put hD2a _ _ (sT _ _ e), ts ++ [[c, d]], ?_, ?_, ?_⟩
          · rw [strV_len]; exact small1000 (by omega)
          · rw [upd_same, strV_snoc]
          · rw [← List.append_assoc, hts, chP_text hi hc hd]
          · rw [List.length_append, List.length_singleton, htl]
        · rintro H4 ⟨s4, ht4, hD4, sT, ts, hD24, hts, htl⟩
          rw [hfull] at hts
          refine ⟨tx, D2, _, _, rfl, rfl, ht4, hD24, by rw [strV_len, strV_len, textsOf_len, htl]; exact small_le (by show al.length + 0 + _ ≤ 1000; omega), fun t2 ht2' => ⟨by show 2 ≤ sizeLine; decide, fun r hr' => ?_⟩⟩
          have eT : strV (textsOf al []) ++ strV ts = strV (textsOf al (chP al.length)) := by rw [← hts, strV, strV, strV, List.map_append]
          have sN := Same.new (o := .tup [.ref D, .ref t2]) (same_new (o := .lst (strV (textsOf al []) ++ strV ts)) ht2') hr'
          have ht2v : (upd (upd H4 t2 (.lst (strV (textsOf al []) ++ strV ts))) r (.tup [.ref D, .ref t2])) t2 = some (.lst (strV (textsOf al (chP al.length)))) := by rw [upd_ne (ne_of_none upd_same hr'), upd_same, eT]
          exact q _ r D t2 us (chP al.length) (s4.then sN) (s12.at1.free hD) (s4.at1.free ht2') upd_same (sN _ _ hD4) ((hp3.same sT).same (Same.t sN)) ht2v (chP_proper hnd) (by rw [chP_len]; omega)
    · rw [decide_eq_false (by omega : ¬ (2 : Int) < (al.length : Int))]
      exact iteF (iteF (key H1 (PSame.refl s1.at1)))
end
end RJ
end

section
set_option maxRecDepth 100000
set_option maxHeartbeats 8000000
namespace RJ
open PySem PySem.Spec PyProof.Rows L2
abbrev s__law_same : Stmt := top 46
abbrev N__law_same : List Str := ["told", "due", "k"]
theorem sc__law_same : FnScope N__law_same ["told", "due"] (C8.fnScope s__law_same) := C8.fnScope_by (by decide +kernel)
theorem smallB_le {n : Nat} (h : n ≤ 100000) : n ≤ sizeLine := Nat.le_of_lt (smallB h)
theorem fold_memB {a : Array Nat} : ∀ (k : Nat) (b : Array Nat) (c : Nat), c ∈ ((List.replicate k a).foldl (· ++ ·) b).toList → c ∈ b.toList ∨ c ∈ a.toList
  | 0, _, _, h => .inl h
  | k + 1, b, c, h => by
    have h' : c ∈ ((List.replicate k a).foldl (· ++ ·) (b ++ a)).toList := h
    rcases fold_memB k (b ++ a) c h' with z | z
    · rw [Array.toList_append] at z
      exact List.mem_append.mp z
    · exact .inr z
theorem mul_memB {u : List Nat} {n : Int} {c : Nat} (h : c ∈ (PySem.Txt.mul (S u) n).cps.toList) : c ∈ u := by
  unfold PySem.Txt.mul at h
  split at h
  · cases h
  · split at h
    · exact h
    · rcases fold_memB _ _ c h with z | z
      · cases z
      · exact z
theorem mulB (u : List Nat) (n : Nat) : ∃ t : List Nat, PySem.Txt.mul (S u) (n : Int) = S t ∧ (∀ c ∈ t, c ∈ u) ∧ t.length ≤ u.length * n := by
  refine ⟨(PySem.Txt.mul (S u) (n : Int)).cps.toList, ?_, fun c hc => mul_memB hc, ?_⟩
  · show PySem.Txt.mul (S u) (n : Int) = ⟨(PySem.Txt.mul (S u) (n : Int)).cps.toList.toArray⟩
    rw [Array.toArray_toList]
  · have := len_mul_leN (x := S u) (n := (n : Int)) (L := u.length) (N := n) (by rw [S_len]; exact Nat.le_refl _) (Int.le_refl _)
    rw [Array.length_toList]; exact this
theorem mulB_ok {u : List Nat} {n : Nat} (h : u.length ≤ 40) (hn : n ≤ 7) : MulOk (S u) (n : Int) := by
  have e63 : (2 : Int) ^ 63 = 9223372036854775808 := by decide
  refine ⟨by rw [decide_eq_false (by omega), decide_eq_false (by omega)]; rfl, fun h1 _ => ?_, fun _ _ => ?_⟩
  · rw [S_len]
    have h2 : (1000 : Int) ≤ ((2 : Int) ^ 63 - 1) / (n : Int) := by
      refine (Int.le_ediv_iff_mul_le (by omega)).mpr ?_
      have : ((2 : Int) ^ 63 - 1) = 9223372036854775807 := by decide
      omega
    omega
  · rw [S_len]
    exact decide_eq_false (by
      have h3 : u.length * Int.toNat (n : Int) ≤ 40 * 7 := Nat.mul_le_mul h (by rw [Int.toNat_natCast]; exact hn)
      have := small1000 (n := u.length * Int.toNat (n : Int)) (by omega)
      omega)
theorem cutS_sub (l : List Nat) (lo hi : Option Int) : ∃ u, cutS (S l) lo hi = S u ∧ u.length ≤ l.length ∧ ∀ c ∈ u, c ∈ l := by
  refine ⟨(cutS (S l) lo hi).cps.toList, rfl, ?_, fun c hc => ?_⟩
  · have := cutS_length (S l) lo hi
    rw [S_len] at this
    exact this
  · exact List.mem_of_mem_drop (List.mem_of_mem_take hc)
theorem cut_midV (l : List Nat) (i k : Nat) (h : i + k ≤ l.length) : cutV (iv l) (some (i : Int)) (some ((i + k : Nat) : Int)) = iv ((l.drop i).take k) := by
  unfold cutV
  rw [HT.sIx_nat, HT.sIx_nat, iv_len, Nat.min_eq_left h, Nat.min_eq_left (show i ≤ l.length by omega), show i + k - i = k by omega]
  unfold iv
  rw [List.map_take, List.map_drop]
def sp_textB : Sp := fun vs H Q _ => ∃ (p tx : Addr) (al : List Nat) (ps : List (Nat × Nat)) (most : Nat), vs = [.ref p, .str (S al), .ref tx, .int (most : Int)] ∧ PoolAt p H ∧ H tx = some (.lst (strV (textsOf al ps))) ∧ tx ≠ p ∧ Proper al ps ∧ 1 ≤ al.length ∧ al.length ≤ 30 ∧ ps.length ≤ 100 ∧ most ≤ 60 ∧
  ∀ H' t, PSame p H H' → (∀ c ∈ t, c ∈ al) → t.length ≤ most → Q (.str (S t)) H'
def sp_joinedB : Sp := fun vs H Q _ => ∃ (tx a : Addr) (ts : List (List Nat)) (row : List Nat), vs = [.ref tx, .ref a] ∧ H tx = some (.lst (strV ts)) ∧ H a = some (.lst (iv row)) ∧ (∀ x ∈ row, x < ts.length) ∧ (∀ t ∈ ts, t.length ≤ 40) ∧ row.length ≤ 1000 ∧
  ∀ H', Same H H' → Q (.str (S (textR ts row))) H'
def sp_stretch : Sp := fun vs H Q _ => ∃ (p a : Addr) (row : List Nat), vs = [.ref p, .ref a] ∧ PoolAt p H ∧ H a = some (.lst (iv row)) ∧ a ≠ p ∧ row.length ≤ 1000 ∧
  ∀ H' z i k, PSame p H H' → H z = none → H' z = some (.lst (iv ((row.drop i).take k))) → Q (.ref z) H'
section
variable {P : Program} {w : World} {K : PySem.W.Frag} {mg : Str → Option Value} {base : Heap}
theorem ok_sameB0 {f : Addr} {fd : FuncData} (F : C8.Fun K "_law_same" "_law_same" s__law_same f fd) (T : Txt K mg) : FnOk P w K mg base C8.CX0 1 f fd ["told", "due"] (sp_same 0) := by
  refine C8.fn0 F sc__law_same (fun vs H Q E h => ?_) (fun cdv A outer s H vs Q E hr h => ?_)
  · obtain ⟨x, y, rfl, _⟩ := h; rfl
  · obtain ⟨x, y, rfl, ⟨rfl, hsc⟩, q⟩ := h
    refine ⟨_, (pss_cons (ps_if (pt_val (pe_callB call_isi (by rfl) T.b_isinstance (by decide +kernel) (pa_cons (pv 1) (pa_cons (pe_bltn (v := .ty "tuple") (u := .type "tuple") rfl T.b_tuple (by decide +kernel) rfl) pa_nil)))) (pss_cons (ps_if (PW.pt (pw_or (pt_not (pt_val (pe_callB call_isi (by rfl) T.b_isinstance (by decide +kernel) (pa_cons (pv 0) (pa_cons (pe_bltn (v := .ty "tuple") (u := .type "tuple") rfl T.b_tuple (by decide +kernel) rfl) pa_nil))))) (pw_or1 (pt_cmpR op_ne (pe_callB call_len_seq (by rfl) T.b_len PySem.boot_len (pa_cons (pv 0) pa_nil)) (pe_callB call_len_seq (by rfl) T.b_len PySem.boot_len (pa_cons (pv 1) pa_nil)) (nomark _))))) (pss_one (ps_ret pe_bl)) pss_nil)
      (pss_cons (ps_for PassesOwn.never rfl (pi_range1 rfl T.b_range (pa_cons (pe_callB call_len_seq (by rfl) T.b_len PySem.boot_len (pa_cons (pv 1) pa_nil)) pa_nil)) (pg_name (i := 2) sc__law_same.nd rfl (Or.inl rfl)) (pss_one (ps_if (pt_not (pt_val pe_never)) (pss_one (ps_ret pe_bl)) pss_nil)))
      (pss_one (ps_ret pe_bl)))) pss_nil)
      (pss_cons (ps_if (pt_cmpR op_isN (pv 1) pe_non (nomark _)) (pss_one (ps_ret (pe_cmpR op_isN (pv 0) pe_non (nomark _)))) pss_nil)
      (pss_cons (ps_if (pt_val (pe_callB call_isi (by rfl) T.b_isinstance (by decide +kernel) (pa_cons (pv 1) (pa_cons (pe_bltn (v := .ty "bool") (u := .type "bool") rfl T.b_bool (by decide +kernel) rfl) pa_nil)))) (pss_one (ps_ret (pe_and (pe_callB call_isi (by rfl) T.b_isinstance (by decide +kernel) (pa_cons (pv 0) (pa_cons (pe_bltn (v := .ty "bool") (u := .type "bool") rfl T.b_bool (by decide +kernel) rfl) pa_nil))) (pe_one (pe_cmpR op_eq (pv 0) (pv 1) (nomark _)))))) pss_nil)
      (pss_cons (ps_if (pt_val (pe_callB call_isi (by rfl) T.b_isinstance (by decide +kernel) (pa_cons (pv 1) (pa_cons (pe_bltn (v := .ty "str") (u := .type "str") rfl T.b_str (by decide +kernel) rfl) pa_nil)))) (pss_one (ps_ret (pe_and (pe_callB call_isi (by rfl) T.b_isinstance (by decide +kernel) (pa_cons (pv 0) (pa_cons (pe_bltn (v := .ty "str") (u := .type "str") rfl T.b_str (by decide +kernel) rfl) pa_nil))) (pe_one (pe_cmpR op_eq (pv 0) (pv 1) (nomark _)))))) pss_nil)
      (pss_one (ps_ret (pe_and (pe_callB call_isi (by rfl) T.b_isinstance (by decide +kernel) (pa_cons (pv 0) (pa_cons (pe_bltn (v := .ty "int") (u := .type "int") rfl T.b_int (by decide +kernel) rfl) pa_nil))) (pe_and (pe_not (pe_callB call_isi (by rfl) T.b_isinstance (by decide +kernel) (pa_cons (pv 0) (pa_cons (pe_bltn (v := .ty "bool") (u := .type "bool") rfl T.b_bool (by decide +kernel) rfl) pa_nil)))) (pe_one (pe_cmpR op_eq (pv 0) (pv 1) (nomark _))))))))))), ?_⟩
    cases x with
    | non => exact ⟨_, rfl, _, .ty "tuple", _, .type "tuple", false, rfl, .ty _, .base .non, kit_ty (by decide +kernel), _, rfl, iteF ⟨_, rfl, rfl, _, rfl, iteT ⟨_, rfl, rfl, q H (Same.refl H)⟩⟩⟩
    | str z =>
      refine ⟨_, rfl, _, .ty "tuple", .type "str", .type "tuple", false, rfl, .ty _, .base (.str z), kit_ty (by decide +kernel), _, rfl, iteF ⟨_, rfl, rfl, _, rfl, iteF ?_⟩⟩
      refine ⟨_, rfl, _, .ty "bool", .type "str", .type "bool", false, rfl, .ty _, .base (.str z), kit_ty (by decide +kernel), _, rfl, iteF ⟨_, rfl, _, .ty "str", .type "str", .type "str", true, rfl, .ty _, .base (.str z), kit_ty (by decide +kernel), _, rfl, iteT ⟨_, rfl, _, .ty "str", .type "str", .type "str", true, rfl, .ty _, .base (.str z), kit_ty (by decide +kernel), _, rfl, iteT ⟨_, rfl, _, rfl, rfl, ?_⟩⟩⟩⟩
      rw [decide_eq_true rfl]; exact q H (Same.refl H)
    | bl z =>
      refine ⟨_, rfl, _, .ty "tuple", .type "bool", .type "tuple", false, rfl, .ty _, .base (.bl z), kit_ty (by decide +kernel), _, rfl, iteF ⟨_, rfl, rfl, _, rfl, iteF ?_⟩⟩
      refine ⟨_, rfl, _, .ty "bool", .type "bool", .type "bool", true, rfl, .ty _, .base (.bl z), kit_ty (by decide +kernel), _, rfl, iteT ⟨_, rfl, _, .ty "bool", .type "bool", .type "bool", true, rfl, .ty _, .base (.bl z), kit_ty (by decide +kernel), _, rfl, iteT ⟨_, rfl, _, rfl, rfl, ?_⟩⟩⟩
      rw [decide_eq_true rfl]; exact q H (Same.refl H)
    | int z =>
      refine ⟨_, rfl, _, .ty "tuple", .type "int", .type "tuple", false, rfl, .ty _, .base (.int z), kit_ty (by decide +kernel), _, rfl, iteF ⟨_, rfl, rfl, _, rfl, iteF ?_⟩⟩
      refine ⟨_, rfl, _, .ty "bool", .type "int", .type "bool", false, rfl, .ty _, .base (.int z), kit_ty (by decide +kernel), _, rfl, iteF ⟨_, rfl, _, .ty "str", .type "int", .type "str", false, rfl, .ty _, .base (.int z), kit_ty (by decide +kernel), _, rfl, iteF ⟨_, rfl, _, .ty "int", .type "int", .type "int", true, rfl, .ty _, .base (.int z), kit_ty (by decide +kernel), _, rfl, iteT ⟨_, rfl, _, .ty "bool", .type "int", .type "bool", false, rfl, .ty _, .base (.int z), kit_ty (by decide +kernel), _, rfl, _, rfl, iteT ⟨_, rfl, _, rfl, rfl, ?_⟩⟩⟩⟩⟩
      rw [decide_eq_true rfl]; exact q H (Same.refl H)
    | byt z => cases hsc
    | flt z => cases hsc
    | ref z => cases hsc
    | ty z => cases hsc
theorem ok_sameBS {f : Addr} {fd : FuncData} {n k : Nat} (F : C8.Fun K "_law_same" "_law_same" s__law_same f fd) (T : Txt K mg) (c__law_same : C8.Cal P w K mg base k "_law_same" (sp_same n) []) : FnOk P w K mg base C8.CX0 (k + 1) f fd ["told", "due"] (sp_same (n + 1)) := by
  refine C8.fn0 F sc__law_same (fun vs H Q E h => ?_) (fun cdv A outer s H vs Q E hr h => ?_)
  · obtain ⟨x, y, rfl, _⟩ := h; rfl
  · obtain ⟨x, y, rfl, hxy, q⟩ := h
    refine ⟨_, (pss_cons (ps_if (pt_val (pe_callB call_isi (by rfl) T.b_isinstance (by decide +kernel) (pa_cons (pv 1) (pa_cons (pe_bltn (v := .ty "tuple") (u := .type "tuple") rfl T.b_tuple (by decide +kernel) rfl) pa_nil)))) (pss_cons (ps_if (PW.pt (pw_or (pt_not (pt_val (pe_callB call_isi (by rfl) T.b_isinstance (by decide +kernel) (pa_cons (pv 0) (pa_cons (pe_bltn (v := .ty "tuple") (u := .type "tuple") rfl T.b_tuple (by decide +kernel) rfl) pa_nil))))) (pw_or1 (pt_cmpR op_ne (pe_callB call_len_seq (by rfl) T.b_len PySem.boot_len (pa_cons (pv 0) pa_nil)) (pe_callB call_len_seq (by rfl) T.b_len PySem.boot_len (pa_cons (pv 1) pa_nil)) (nomark _))))) (pss_one (ps_ret pe_bl)) pss_nil)
      (pss_cons (ps_for PassesOwn.never rfl (pi_range1 rfl T.b_range (pa_cons (pe_callB call_len_seq (by rfl) T.b_len PySem.boot_len (pa_cons (pv 1) pa_nil)) pa_nil)) (pg_name (i := 2) sc__law_same.nd rfl (Or.inl rfl)) (pss_one (ps_if (pt_not (pt_val (C8.pe_c c__law_same hr (by first | decide | omega) (by rfl) (pa_cons (pe_ix ix_tup (pv 0) (pv 2) (fun _ _ => rfl)) (pa_cons (pe_ix ix_tup (pv 1) (pv 2) (fun _ _ => rfl)) pa_nil))))) (pss_one (ps_ret pe_bl)) pss_nil)))
      (pss_one (ps_ret pe_bl)))) pss_nil)
      (pss_cons (ps_if (pt_cmpR op_isN (pv 1) pe_non (nomark _)) (pss_one (ps_ret (pe_cmpR op_isN (pv 0) pe_non (nomark _)))) pss_nil)
      (pss_cons (ps_if (pt_val (pe_callB call_isi (by rfl) T.b_isinstance (by decide +kernel) (pa_cons (pv 1) (pa_cons (pe_bltn (v := .ty "bool") (u := .type "bool") rfl T.b_bool (by decide +kernel) rfl) pa_nil)))) (pss_one (ps_ret (pe_and (pe_callB call_isi (by rfl) T.b_isinstance (by decide +kernel) (pa_cons (pv 0) (pa_cons (pe_bltn (v := .ty "bool") (u := .type "bool") rfl T.b_bool (by decide +kernel) rfl) pa_nil))) (pe_one (pe_cmpR op_eq (pv 0) (pv 1) (nomark _)))))) pss_nil)
      (pss_cons (ps_if (pt_val (pe_callB call_isi (by rfl) T.b_isinstance (by decide +kernel) (pa_cons (pv 1) (pa_cons (pe_bltn (v := .ty "str") (u := .type "str") rfl T.b_str (by decide +kernel) rfl) pa_nil)))) (pss_one (ps_ret (pe_and (pe_callB call_isi (by rfl) T.b_isinstance (by decide +kernel) (pa_cons (pv 0) (pa_cons (pe_bltn (v := .ty "str") (u := .type "str") rfl T.b_str (by decide +kernel) rfl) pa_nil))) (pe_one (pe_cmpR op_eq (pv 0) (pv 1) (nomark _)))))) pss_nil)
      (pss_one (ps_ret (pe_and (pe_callB call_isi (by rfl) T.b_isinstance (by decide +kernel) (pa_cons (pv 0) (pa_cons (pe_bltn (v := .ty "int") (u := .type "int") rfl T.b_int (by decide +kernel) rfl) pa_nil))) (pe_and (pe_not (pe_callB call_isi (by rfl) T.b_isinstance (by decide +kernel) (pa_cons (pv 0) (pa_cons (pe_bltn (v := .ty "bool") (u := .type "bool") rfl T.b_bool (by decide +kernel) rfl) pa_nil)))) (pe_one (pe_cmpR op_eq (pv 0) (pv 1) (nomark _))))))))))), ?_⟩
    rcases hxy with ⟨rfl, hsc⟩ | ⟨a, b, xs, ys, rfl, rfl, ha, hb, hlen, hP⟩
    · cases x with
      | non => exact ⟨_, rfl, _, .ty "tuple", _, .type "tuple", false, rfl, .ty _, .base .non, kit_ty (by decide +kernel), _, rfl, iteF ⟨_, rfl, rfl, _, rfl, iteT ⟨_, rfl, rfl, q H (Same.refl H)⟩⟩⟩
      | str z =>
        refine ⟨_, rfl, _, .ty "tuple", .type "str", .type "tuple", false, rfl, .ty _, .base (.str z), kit_ty (by decide +kernel), _, rfl, iteF ⟨_, rfl, rfl, _, rfl, iteF ?_⟩⟩
        refine ⟨_, rfl, _, .ty "bool", .type "str", .type "bool", false, rfl, .ty _, .base (.str z), kit_ty (by decide +kernel), _, rfl, iteF ⟨_, rfl, _, .ty "str", .type "str", .type "str", true, rfl, .ty _, .base (.str z), kit_ty (by decide +kernel), _, rfl, iteT ⟨_, rfl, _, .ty "str", .type "str", .type "str", true, rfl, .ty _, .base (.str z), kit_ty (by decide +kernel), _, rfl, iteT ⟨_, rfl, _, rfl, rfl, ?_⟩⟩⟩⟩
        rw [decide_eq_true rfl]; exact q H (Same.refl H)
      | bl z =>
        refine ⟨_, rfl, _, .ty "tuple", .type "bool", .type "tuple", false, rfl, .ty _, .base (.bl z), kit_ty (by decide +kernel), _, rfl, iteF ⟨_, rfl, rfl, _, rfl, iteF ?_⟩⟩
        refine ⟨_, rfl, _, .ty "bool", .type "bool", .type "bool", true, rfl, .ty _, .base (.bl z), kit_ty (by decide +kernel), _, rfl, iteT ⟨_, rfl, _, .ty "bool", .type "bool", .type "bool", true, rfl, .ty _, .base (.bl z), kit_ty (by decide +kernel), _, rfl, iteT ⟨_, rfl, _, rfl, rfl, ?_⟩⟩⟩
        rw [decide_eq_true rfl]; exact q H (Same.refl H)
      | int z =>
        refine ⟨_, rfl, _, .ty "tuple", .type "int", .type "tuple", false, rfl, .ty _, .base (.int z), kit_ty (by decide +kernel), _, rfl, iteF ⟨_, rfl, rfl, _, rfl, iteF ?_⟩⟩
        refine ⟨_, rfl, _, .ty "bool", .type "int", .type "bool", false, rfl, .ty _, .base (.int z), kit_ty (by decide +kernel), _, rfl, iteF ⟨_, rfl, _, .ty "str", .type "int", .type "str", false, rfl, .ty _, .base (.int z), kit_ty (by decide +kernel), _, rfl, iteF ⟨_, rfl, _, .ty "int", .type "int", .type "int", true, rfl, .ty _, .base (.int z), kit_ty (by decide +kernel), _, rfl, iteT ⟨_, rfl, _, .ty "bool", .type "int", .type "bool", false, rfl, .ty _, .base (.int z), kit_ty (by decide +kernel), _, rfl, _, rfl, iteT ⟨_, rfl, _, rfl, rfl, ?_⟩⟩⟩⟩⟩
        rw [decide_eq_true rfl]; exact q H (Same.refl H)
      | byt z => cases hsc
      | flt z => cases hsc
      | ref z => cases hsc
      | ty z => cases hsc
    · have el : xs.length = ys.length := hP.length
      refine ⟨_, rfl, _, .ty "tuple", .type "tuple", .type "tuple", true, rfl, .ty _, .base (.tup hb), kit_ty (by decide +kernel), _, rfl, iteT ?_⟩
      refine ⟨_, rfl, _, .ty "tuple", .type "tuple", .type "tuple", true, rfl, .ty _, .base (.tup ha), kit_ty (by decide +kernel), _, rfl, iteF ?_⟩
      refine ⟨_, rfl, a, xs, rfl, .inr (SqT.of ha), _, rfl, b, ys, rfl, .inr (SqT.of hb), rfl, _, rfl, ?_⟩
      rw [el, decide_eq_true rfl]
      refine iteF ⟨_, rfl, b, ys, rfl, .inr (SqT.of hb), _, rfl, by omega, by omega, for_it walk_range (fun i σ H' => ∃ v2 : Option V, σ = [some (.ref a), some (.ref b), v2] ∧ Same H H') ⟨none, rfl, Same.refl H⟩ (fun _ _ _ _ _ => trivial) ?_ ?_⟩
      · rintro i x σ Ha Hb hi ⟨v2, rfl, sa⟩ ⟨rfl, rfl⟩
        have hi2 : i < ys.length := by simpa using hi
        have hi1 : i < xs.length := by omega
        obtain ⟨y, hy, hsame⟩ := Paired.at hP (List.getElem?_eq_getElem hi1)
        refine ⟨_, rfl, _, rfl, a, xs, _, _, rfl, rfl, SqT.of (sa _ _ ha), at_of (by simp) (List.getElem?_eq_getElem hi1), _, rfl, _, rfl, b, ys, _, _, rfl, rfl, SqT.of (sa _ _ hb), at_of (by simp) hy, _, _, rfl, SameD.mono sa hsame, fun H2 s2 => ⟨_, rfl, iteF ⟨_, rfl, sa.trans s2⟩⟩⟩
      · rintro σ H1 ⟨v2, rfl, sa⟩
        exact q H1 sa
end
end RJ
end

section
set_option maxRecDepth 100000
set_option maxHeartbeats 8000000
namespace RJ
open PySem PySem.Spec PyProof.Rows L2
abbrev s_following_masks : Stmt := top 7
abbrev N_following_masks : List Str := ["joins", "right_bounds", "left_bounds", "masks", "rank", "left", "right", "crossed", "piece", "bounds", "_"]
theorem sc_following_masks : FnScope N_following_masks ["joins"] (C8.fnScope s_following_masks) := C8.fnScope_by (by decide +kernel)
abbrev s_Joins___iter__ : Stmt := inClass (top 36) 3
abbrev N_Joins___iter__ : List Str := ["self"]
theorem sc_Joins___iter__ : FnScope N_Joins___iter__ ["self"] (C8.fnScope s_Joins___iter__) := C8.fnScope_by (by decide +kernel)
abbrev s_Joins_pieces : Stmt := inClass (top 36) 1
abbrev N_Joins_pieces : List Str := ["self"]
theorem sc_Joins_pieces : FnScope N_Joins_pieces ["self"] (C8.fnScope s_Joins_pieces) := C8.fnScope_by (by decide +kernel)
def sp_spineF (C : Addr) : Sp := fun vs H Q _ => ∃ (p : Addr) (al : List Nat) (ps : List (Nat × Nat)) (x k : Nat), vs = [.ref p, .int (x : Int), .int (k : Int)] ∧ JoinsAt C H p al ps ∧ Proper al ps ∧ al.length ≤ 400 ∧ ps.length ≤ 400 ∧ x < al.length + ps.length ∧ k < 2 ∧
  ∀ H' q o us es, Same H H' → H' q = some (.frz o (.tup us)) → o.dict = none → Paired (StepAt H') us es → IsSpine al.length ps (sdOf k) x es → es.length ≤ 1000 → Q (.ref q) H'
def sp_rspineF (k : Nat) (C : Addr) : Sp := fun vs H Q _ => ∃ (p : Addr) (al : List Nat) (ps : List (Nat × Nat)) (x : Nat), vs = [.ref p, .int (x : Int)] ∧ JoinsAt C H p al ps ∧ Proper al ps ∧ al.length ≤ 400 ∧ ps.length ≤ 400 ∧ x < al.length + ps.length ∧
  ∀ H' q o us es, Same H H' → H' q = some (.frz o (.tup us)) → o.dict = none → Paired (StepAt H') us es → IsSpine al.length ps (sdOf k) x es → es.length ≤ 1000 → Q (.ref q) H'
def sp_iter (C : Addr) : Sp := fun vs H Q _ => ∃ (p : Addr) (al : List Nat) (ps : List (Nat × Nat)), vs = [.ref p] ∧ JoinsAt C H p al ps ∧
  ∀ it pa us, H pa = some (.tup us) → PairsAt H us ps → H it = none → Q (.ref it) (upd H it (TupI it pa us.length 0))
def sp_pieces (C : Addr) : Sp := fun vs H Q _ => ∃ (p : Addr) (al : List Nat) (ps : List (Nat × Nat)), vs = [.ref p] ∧ JoinsAt C H p al ps ∧ Q (.int ((al.length + ps.length : Nat) : Int)) H
section
variable {P : Program} {w : World} {K : PySem.W.Frag} {mg : Str → Option Value} {base : Heap}
theorem ok_spineF {f C : Addr} {fd : FuncData} (F : C8.Fun K "spine" "spine" s_spine f fd) (T : Txt K mg) (J : JTxt K C) (m_parts_of : C8.Met P w K mg base 5 C "parts_of" (sp_partsG C) []) (m_rank_of : C8.Met P w K mg base 5 C "rank_of" (sp_rank C) []) : FnOk P w K mg base C8.CX0 6 f fd ["joins", "piece", "side"] (sp_spineF C) := by
  refine C8.fn0 F sc_spine (fun vs H Q E h => ?_) (fun cdv A outer s H vs Q E hr h => ?_)
  · obtain ⟨p, al, ps, x, k, rfl, _⟩ := h; rfl
  · obtain ⟨p, al, ps, x, k, rfl, hj, hprop, hal, hpl, hx, hk, q⟩ := h
    have hw := hprop.wf
    have met : ∀ H', Same H H' → ∃ dx fs, H' p = some (.ins C dx fs) ∧ fs.lookup ("parts_of" : Str) = none ∧ fs.lookup ("rank_of" : Str) = none := fun H' s' => by
      obtain ⟨dx, t, tx, d, e, ws, h1, _⟩ := hj.same s'
      exact ⟨dx, _, h1, f5_no al t tx d e (by decide +kernel) (by decide +kernel) (by decide +kernel) (by decide +kernel) (by decide +kernel), f5_no al t tx d e (by decide +kernel) (by decide +kernel) (by decide +kernel) (by decide +kernel) (by decide +kernel)⟩
    refine ⟨_, (pss_cons (ps_set (i := 3) sc_spine.nd rfl (Or.inl rfl) (pe_lst (pa_cons (pe_tup (pa_cons (pv 1) (pa_cons pe_non pa_nil))) pa_nil)))
      (pss_cons (ps_set (i := 4) sc_spine.nd rfl (Or.inl rfl) (C8.pe_mt m_parts_of hr (by first | decide | omega) (pv 0) (pa_cons (pv 1) pa_nil)))
      (pss_cons (ps_while PassesOwn.never (pt_cmpR op_notN (pv 4) pe_non (nomark _)) (pss_cons (ps_asg (pv 4) (pg_tup rfl (pgs_cons (pg_name (i := 5) sc_spine.nd rfl (Or.inl rfl)) (pgs_cons (pg_name (i := 6) sc_spine.nd rfl (Or.inl rfl)) pgs_nil))))
      (pss_cons (ps_expr (pe_bm PySem.F.plainAttrs_list PySem.F.slot_list_append PySem.F.type_list_append mt_append (pv 3) (pa_cons (pe_tup (pa_cons (pe_ix ix_tup (pv 4) (pv 2) (fun _ _ => rfl)) (pa_cons (C8.pe_mt m_rank_of hr (by first | decide | omega) (pv 0) (pa_cons (pv 5) (pa_cons (pv 6) pa_nil))) pa_nil))) pa_nil)))
      (pss_one (ps_set (i := 4) sc_spine.nd rfl (Or.inl rfl) (C8.pe_mt m_parts_of hr (by first | decide | omega) (pv 0) (pa_cons (pe_ix ix_tup (pv 4) (pv 2) (fun _ _ => rfl)) pa_nil)))))))
      (pss_one (ps_ret (pe_tupleOfF (by rfl) T.b_tuple (pv 3))))))), ?_⟩
    refine ⟨_, rfl, by show 2 ≤ sizeLine; decide, fun z hz => ⟨by show 1 ≤ sizeLine; decide, fun D hD => ?_⟩⟩
    have s0 : Same H (upd (upd H z (.tup [.int (x : Int), .non])) D (.lst [.ref z])) := Same.new (same_new hz) hD
    have hD0 : H D = none := (same_new hz).free hD
    have hz0 : (upd (upd H z (.tup [.int (x : Int), .non])) D (.lst [.ref z])) z = some (.tup [.int (x : Int), .non]) := (upd_ne (ne_of_none upd_same hD)).trans upd_same
    obtain ⟨dx0, fs0, i1, i2, i3⟩ := met _ s0
    refine ⟨_, rfl, p, dx0, fs0, rfl, i1, i2, _, rfl, p, al, ps, x, rfl, hj.same s0, by omega, hx, fun v hv => ?_⟩
    refine ⟨fun m σ H' => ∃ (y : Nat) (v : V) (v5 v6 : Option V) (us : List V) (es : List (Nat × Option Nat)), σ = [some (.ref p), some (.int (x : Int)), some (.int (k : Int)), some (.ref D), some v, v5, v6] ∧ Same H H' ∧ H' D = some (.lst us) ∧ Paired (StepAt H') us es ∧ IsSpineTo al.length ps (sdOf k) x es y ∧ y < al.length + ps.length ∧ es.length + y ≤ x + 1 ∧ PartAt al ps y H' v ∧ m = y,
      ⟨x, x, v, none, none, _, _, rfl, s0, upd_same, .cons ⟨z, rfl, hz0⟩ .nil, IsSpineTo.start x, hx, by show 1 + x ≤ x + 1; omega, hv, rfl⟩, ?_⟩
    rintro m σ H2 ⟨y, v, v5, v6, us, es, rfl, s2, hD2, hus, hsp, hy, hle, hv, rfl⟩
    refine ⟨_, rfl, rfl, _, rfl, ?_⟩
    rcases hv with ⟨rfl, hlow⟩ | ⟨j, pr, g, rfl, rfl, hpr, hg⟩
    · refine iteF ⟨_, rfl, D, us, rfl, SqL.of hD2, fun t o ht ho => ?_⟩
      exact q _ t o us es (Same.new s2 ht) upd_same ho (Paired.mapP hus fun _ _ h => StepAt.same (Same.t (same_new ht)) h) (hsp.done hlow) (by omega)
    · refine iteT ?_
      have hj' := hw j pr hpr
      refine ⟨fun σ' H' => ∃ m', m' < al.length + j ∧ ∃ (y : Nat) (v : V) (v5 v6 : Option V) (us : List V) (es : List (Nat × Option Nat)), σ' = [some (.ref p), some (.int (x : Int)), some (.int (k : Int)), some (.ref D), some v, v5, v6] ∧ Same H H' ∧ H' D = some (.lst us) ∧ Paired (StepAt H') us es ∧ IsSpineTo al.length ps (sdOf k) x es y ∧ y < al.length + ps.length ∧ es.length + y ≤ x + 1 ∧ PartAt al ps y H' v ∧ m' = y, fun σ' H' z => z, ?_⟩
      have hsd : atI [V.int (pr.1 : Int), V.int (pr.2 : Int)] (k : Int) = some (V.int (sdOf k pr : Int)) := by
        have : k = 0 ∨ k = 1 := by omega
        rcases this with rfl | rfl <;> rfl
      have hlt : sdOf k pr < al.length + j := by rcases sdOf_side k pr with e | e <;> rw [e] <;> omega
      have hul : us.length = es.length := hus.length
      obtain ⟨dx1, fs1, j1, j2, j3⟩ := met _ s2
      refine ⟨_, rfl, g, _, rfl, SqT.of hg, rfl, _, _, rfl, _, _, rfl, rfl, ?_⟩
      refine ⟨_, rfl, .inl ⟨rfl, _, SqL.of hD2⟩, _, rfl, _, rfl, g, _, _, _, rfl, rfl, SqT.of hg, hsd, _, rfl, p, dx1, fs1, rfl, j1, j3, _, rfl, _, rfl, p, al, ps, pr.1, pr.2, rfl, hj.same s2, by omega, by omega, fun H3 s3 => ?_⟩
      rw [if_pos (List.mem_of_getElem? hpr), hprop.idx hpr]
      refine ⟨by show 2 ≤ sizeLine; decide, fun t ht => ?_⟩
      have s4 : Same H2 (upd H3 t (.tup [.int (sdOf k pr : Int), .int (j : Int)])) := Same.new s3 ht
      have hD4 := s4 _ _ hD2
      refine ⟨D, us, _, rfl, rfl, hD4, small1000 (by omega), ?_⟩
      have sT : SameT (upd H3 t (.tup [.int (sdOf k pr : Int), .int (j : Int)])) (upd (upd H3 t (.tup [.int (sdOf k pr : Int), .int (j : Int)])) D (.lst (us ++ [.ref t]))) := SameT.put hD4
      have s5 : Same H (upd (upd H3 t (.tup [.int (sdOf k pr : Int), .int (j : Int)])) D (.lst (us ++ [.ref t]))) := Same.put (s2.trans s4) hD0
      obtain ⟨dx2, fs2, l1, l2, _⟩ := met _ s5
      have hg5 := sT _ _ (s4 _ _ hg)
      refine ⟨_, rfl, p, dx2, fs2, rfl, l1, l2, _, rfl, _, rfl, g, _, _, _, rfl, rfl, SqT.of hg5, hsd, p, al, ps, sdOf k pr, rfl, hj.same s5, by omega, by omega, fun v' hv' => ?_⟩
      refine ⟨_, hlt, _, v', _, _, us ++ [.ref t], es ++ [(sdOf k pr, some j)], rfl, s5, upd_same, Paired.snoc ⟨t, rfl, sT _ _ upd_same⟩ (Paired.mapP hus fun _ _ h => StepAt.same sT (StepAt.same (Same.t s4) h)), hsp.next hpr, by omega, ?_, hv', rfl⟩
      rw [List.length_append, List.length_singleton]; omega
theorem ok_rspineF {f C : Addr} {fd : FuncData} (F : C8.Fun K "right_spine" "right_spine" s_right_spine f fd) (T : Txt K mg) (J : JTxt K C) (c_spineF : C8.Cal P w K mg base 6 "spine" (sp_spineF C) []) : FnOk P w K mg base C8.CX0 7 f fd ["joins", "piece"] (sp_rspineF 1 C) := by
  refine C8.fn0 F sc_right_spine (fun vs H Q E h => ?_) (fun cdv A outer s H vs Q E hr h => ?_)
  · obtain ⟨p, al, ps, x, rfl, _⟩ := h; rfl
  · obtain ⟨p, al, ps, x, rfl, hj, hprop, hal, hpl, hx, q⟩ := h
    refine ⟨_, (pss_one (ps_ret (C8.pe_c c_spineF hr (by first | decide | omega) (by rfl) (pa_cons (pv 0) (pa_cons (pv 1) (pa_cons pe_int pa_nil)))))), ?_⟩
    exact ⟨_, rfl, _, rfl, p, al, ps, x, 1, rfl, hj, hprop, hal, hpl, hx, by decide, q⟩
theorem ok_lspineF {f C : Addr} {fd : FuncData} (F : C8.Fun K "left_spine" "left_spine" s_left_spine f fd) (T : Txt K mg) (J : JTxt K C) (c_spineF : C8.Cal P w K mg base 6 "spine" (sp_spineF C) []) : FnOk P w K mg base C8.CX0 7 f fd ["joins", "piece"] (sp_rspineF 0 C) := by
  refine C8.fn0 F sc_left_spine (fun vs H Q E h => ?_) (fun cdv A outer s H vs Q E hr h => ?_)
  · obtain ⟨p, al, ps, x, rfl, _⟩ := h; rfl
  · obtain ⟨p, al, ps, x, rfl, hj, hprop, hal, hpl, hx, q⟩ := h
    refine ⟨_, (pss_one (ps_ret (C8.pe_c c_spineF hr (by first | decide | omega) (by rfl) (pa_cons (pv 0) (pa_cons (pv 1) (pa_cons pe_int pa_nil)))))), ?_⟩
    exact ⟨_, rfl, _, rfl, p, al, ps, x, 0, rfl, hj, hprop, hal, hpl, hx, by decide, q⟩
theorem ok_iter {f C : Addr} {fd : FuncData} (F : C8.Fun K "__iter__" "Joins.__iter__" s_Joins___iter__ f fd) (T : Txt K mg) (J : JTxt K C) : FnOk P w K mg base C8.CX0 1 f fd ["self"] (sp_iter C) := by
  refine C8.fn0 F sc_Joins___iter__ (fun vs H Q E h => ?_) (fun cdv A outer s H vs Q E hr h => ?_)
  · obtain ⟨p, al, ps, rfl, _⟩ := h; rfl
  · obtain ⟨p, al, ps, rfl, ⟨dx, t, tx, d, e, ws, h1, h2, h3, h4, h5, h6⟩, q⟩ := h
    refine ⟨_, (pss_one (ps_ret (pe_callB call_iterT (by rfl) T.b_iter (by decide +kernel) (pa_cons (pe_fld (pv 0) rfl) pa_nil)))), ?_⟩
    exact ⟨_, rfl, p, C, dx, _, _, rfl, h1, J.cl, J.n2, f5_pairs al t tx d e, t, ws, rfl, h2, fun it hit => q it t ws h2 h3 hit⟩
theorem ok_pieces {f C : Addr} {fd : FuncData} (F : C8.Fun K "pieces" "Joins.pieces" s_Joins_pieces f fd) (T : Txt K mg) (J : JTxt K C) : FnOk P w K mg base C8.CX0 1 f fd ["self"] (sp_pieces C) := by
  refine C8.fn0 F sc_Joins_pieces (fun vs H Q E h => ?_) (fun cdv A outer s H vs Q E hr h => ?_)
  · obtain ⟨p, al, ps, rfl, _⟩ := h; rfl
  · obtain ⟨p, al, ps, rfl, ⟨dx, t, tx, d, e, ws, h1, h2, h3, h4, h5, h6⟩, q⟩ := h
    refine ⟨_, (pss_one (ps_ret (pe_callB call_len_seq (by rfl) T.b_len PySem.boot_len (pa_cons (pe_fld (pv 0) rfl) pa_nil)))), ?_⟩
    refine ⟨_, rfl, p, C, dx, _, _, rfl, h1, J.cl, J.n3, f5_texts al t tx d e, tx, _, rfl, .inl (SqL.of h4), ?_⟩
    rw [strV_len, textsOf_len]; exact q
end
end RJ
end

section
set_option maxRecDepth 100000
set_option maxHeartbeats 8000000
namespace RJ
open PySem PySem.Spec PyProof.Rows L2
theorem for_own {it0 pa : Addr} {xs : List V} {g : TG} {tb : TS} {D : Ends} {σ : L2.St} {H : Hp} (Pv : Nat → L2.St → Hp → Prop) (h0 : Pv 0 σ H) (hG : ∀ i σ H, i ≤ xs.length → Pv i σ H → H pa = some (.tup xs) ∧ H it0 = some (TupI it0 pa xs.length i))
    (hs : ∀ i x T σ H, i < xs.length → Pv i σ H → xs[i]? = some x → H T = none → g (.ref T) σ (upd (upd H it0 (TupI it0 pa xs.length (i + 1))) T (.tup [.int (i : Nat), x])) fun σ2 H2 => tb { D with nx := Pv (i + 1), ct := Pv (i + 1), bk := D.nx } σ2 H2) (hd : ∀ σ H, Pv xs.length σ H → D.nx σ H) :
    ∃ W : Nat → Nat → L2.St → Hp → Prop, (∃ m, W 0 m σ H) ∧ ∀ i m σ H, W i m σ H → ((ItEO it0 pa xs).stop i H ∧ D.nx σ H) ∨ ((ItEO it0 pa xs).go i H ∧ ∃ N : L2.St → Hp → Prop, (∀ σ' H', N σ' H' → ∃ m', m' < m ∧ W (i + 1) m' σ' H') ∧
      ∀ x H', (ItEO it0 pa xs).yld i H x H' → g x σ H' fun σ2 H2 => tb { D with nx := N, ct := N, bk := D.nx } σ2 H2) := by
  refine ⟨fun i m σ H => m = xs.length - i ∧ i ≤ xs.length ∧ Pv i σ H, ⟨xs.length, rfl, Nat.zero_le _, h0⟩, ?_⟩
  rintro i m σ H ⟨rfl, hi, p⟩
  obtain ⟨g1, g2⟩ := hG i σ H hi p
  by_cases hlt : i < xs.length
  · refine .inr ⟨⟨g1, g2, hlt⟩, Pv (i + 1), fun σ' H' p' => ⟨xs.length - (i + 1), by omega, rfl, hlt, p'⟩, fun v H' y => ?_⟩
    obtain ⟨T, x, rfl, hT, hx, rfl⟩ := y
    exact hs i x T σ H hlt p hx hT
  · have e : i = xs.length := by omega
    subst e
    exact .inl ⟨⟨g1, g2, rfl⟩, hd σ H p⟩
/-- the bounds of a spine as a dict -/
def BdsAt (b : Nat) (ps : List (Nat × Nat)) (sd : Nat × Nat → Nat) (H : Hp) (v : V) (x : Nat) : Prop := ∃ d kvs, v = .ref d ∧ H d = some (.dK kvs) ∧ (∀ (y : Nat) bd, Spn b ps sd x y bd → valV kvs (.inl (y : Int)) = some (bdV bd)) ∧ ∀ y : Nat, (∀ bd, ¬ Spn b ps sd x y bd) → valV kvs (.inl (y : Int)) = none
theorem BdsAt.same {b : Nat} {ps : List (Nat × Nat)} {sd : Nat × Nat → Nat} {H H' : Hp} {v : V} {x : Nat} (h : BdsAt b ps sd H v x) (s : Same H H') : BdsAt b ps sd H' v x := by
  obtain ⟨d, kvs, e, hd, r⟩ := h
  exact ⟨d, kvs, e, s _ _ hd, r⟩
theorem BdsAt.samex {b : Nat} {ps : List (Nat × Nat)} {sd : Nat × Nat → Nat} {H H' : Hp} {v : V} {x : Nat} {R : Addr} {us : List V} (h : BdsAt b ps sd H v x) (hR : H R = some (.lst us)) (s : SameX R H H') : BdsAt b ps sd H' v x := by
  obtain ⟨d, kvs, e, hd, r⟩ := h
  exact ⟨d, kvs, e, s _ _ (fun z => by rw [z, hR] at hd; cases hd) hd, r⟩
theorem steps_dict {K : PySem.W.Frag} {H : Hp} : ∀ {us : List V} {es : List (Nat × Option Nat)}, Paired (StepAt H) us es → ∃ ads : List Addr, us = ads.map V.ref ∧ Paired (fun p (kv : Key × V) => SqT K H p [kV kv.1, kv.2]) ads (es.map fun e => ((.inl (e.1 : Int) : Key), bdV e.2))
  | _, _, .nil => ⟨[], rfl, .nil⟩
  | _, _, .cons ⟨q, e, h⟩ t => by
    subst e
    obtain ⟨ads, e, r⟩ := steps_dict (K := K) t
    subst e
    exact ⟨q :: ads, rfl, .cons (SqT.of h) r⟩
theorem spine_bds {b : Nat} {ps : List (Nat × Nat)} {sd : Nat × Nat → Nat} {x : Nat} {es : List (Nat × Option Nat)} (hs : Side sd) (hw : WF b ps) (h : IsSpine b ps sd x es) :
    (∀ (y : Nat) bd, Spn b ps sd x y bd → valV (mergeK [] (es.map fun e => ((.inl (e.1 : Int) : Key), bdV e.2))) (.inl (y : Int)) = some (bdV bd)) ∧ ∀ y : Nat, (∀ bd, ¬ Spn b ps sd x y bd) → valV (mergeK [] (es.map fun e => ((.inl (e.1 : Int) : Key), bdV e.2))) (.inl (y : Int)) = none := by
  refine ⟨fun y bd hy => mergeK_hit _ _ _ _ (List.mem_map.mpr ⟨(y, bd), h.all y bd hy, rfl⟩) fun p hp e => ?_, fun y hy => ?_⟩
  · obtain ⟨q, hq, rfl⟩ := List.mem_map.mp hp
    have e : (q.1 : Int) = (y : Int) := Sum.inl.inj e
    have e : q.1 = y := by omega
    have h1 := h.ok q hq
    rw [e] at h1
    rw [Spn.uniq hs hw x h1 hy]
  · rw [mergeK_miss _ _ _ fun p hp e => ?_]
    · rfl
    · obtain ⟨q, hq, rfl⟩ := List.mem_map.mp hp
      have e : (q.1 : Int) = (y : Int) := Sum.inl.inj e
      have e : q.1 = y := by omega
      have h1 := h.ok q hq
      rw [e] at h1
      exact hy _ h1
/-- for each piece the pieces that stand on its right -/
def MasksAt (b : Nat) (ps : List (Nat × Nat)) (n : Nat) (Ms : List Nat) : Prop := Ms.length = b + ps.length ∧ ∀ x q, x < b + ps.length → q < b + ps.length → ∃ m, Ms[x]? = some m ∧ (m.testBit q = true ↔ ∀ r, r < n → ¬ Cross b ps x q r)
def sp_masks (C : Addr) : Sp := fun vs H Q _ => ∃ (p : Addr) (al : List Nat) (ps : List (Nat × Nat)), vs = [.ref p] ∧ JoinsAt C H p al ps ∧ Proper al ps ∧ al.length ≤ 400 ∧ ps.length ≤ 400 ∧
  ∀ H' q Ms, Same H H' → H' q = some (.tup (iv Ms)) → MasksAt al.length ps ps.length Ms → Q (.ref q) H'
section
variable {P : Program} {w : World} {K : PySem.W.Frag} {mg : Str → Option Value} {base : Heap}
theorem ok_masks {f C : Addr} {fd : FuncData} (F : C8.Fun K "following_masks" "following_masks" s_following_masks f fd) (T : Txt K mg) (J : JTxt K C) (p_pieces : PrpC P w K mg base 1 C "pieces" (sp_pieces C)) (m___iter__ : C8.Met P w K mg base 1 C "__iter__" (sp_iter C) [])
    (c_right_spineF : C8.Cal P w K mg base 7 "right_spine" (sp_rspineF 1 C) []) (c_left_spineF : C8.Cal P w K mg base 7 "left_spine" (sp_rspineF 0 C) []) (c_is_ahead_in_left : C8.Cal P w K mg base 1 "is_ahead_in_left" sp_aheadL []) (c_is_ahead_in_right : C8.Cal P w K mg base 1 "is_ahead_in_right" sp_aheadR []) :
    FnOk P w K mg base C8.CX0 8 f fd ["joins"] (sp_masks C) := by
  refine C8.fn0 F sc_following_masks (fun vs H Q E h => ?_) (fun cdv A outer s H vs Q E hr h => ?_)
  · obtain ⟨p, al, ps, rfl, _⟩ := h; rfl
  · obtain ⟨p, al, ps, rfl, hj, hprop, hal, hpl, q⟩ := h
    have hu := hu_of hr
    have hw := hprop.wf
    have ins : ∀ H', JoinsAt C H' p al ps → ∃ dx fs, H' p = some (.ins C dx fs) := fun H' hj' => by
      obtain ⟨dx, t, tx, d, e, ws, h1, _⟩ := hj'
      exact ⟨dx, _, h1⟩
    refine ⟨_, (pss_cons (ps_setLc (own := [("piece", 8)]) (i := 1) (g := gName 8) (tt := tYes) rfl sc_following_masks.nd rfl rfl (sw_true rfl rfl rfl (by decide +kernel)) (pi_range1 rfl T.b_range (pa_cons (pe_prp p_pieces hr (by first | decide | omega) (pv 0)) pa_nil)) (blkOk_by (N := N_following_masks) (sc := C8.fnScope s_following_masks) (by decide +kernel)) (fun _ _ _ _ _ => (pg_name (i := 8) sc_following_masks.nd rfl (Or.inl rfl))) (fun _ _ _ _ _ => pts_nil) (fun _ _ _ _ _ => (pe_callTy (call_dictTK (K := K) rfl rfl) (by rfl) T.b_dict (by decide +kernel) (pa_cons (C8.pe_c c_right_spineF hr (by first | decide | omega) (by rfl) (pa_cons (pv 0) (pa_cons (pv 8) pa_nil))) pa_nil))))
      (pss_cons (ps_setLc (own := [("piece", 8)]) (i := 2) (g := gName 8) (tt := tYes) rfl sc_following_masks.nd rfl rfl (sw_true rfl rfl rfl (by decide +kernel)) (pi_range1 rfl T.b_range (pa_cons (pe_prp p_pieces hr (by first | decide | omega) (pv 0)) pa_nil)) (blkOk_by (N := N_following_masks) (sc := C8.fnScope s_following_masks) (by decide +kernel)) (fun _ _ _ _ _ => (pg_name (i := 8) sc_following_masks.nd rfl (Or.inl rfl))) (fun _ _ _ _ _ => pts_nil) (fun _ _ _ _ _ => (pe_callTy (call_dictTK (K := K) rfl rfl) (by rfl) T.b_dict (by decide +kernel) (pa_cons (C8.pe_c c_left_spineF hr (by first | decide | omega) (by rfl) (pa_cons (pv 0) (pa_cons (pv 8) pa_nil))) pa_nil))))
      (pss_cons (ps_setLc (own := [("_", 10)]) (i := 3) (g := gName 10) (tt := tYes) rfl sc_following_masks.nd rfl rfl (sw_true rfl rfl rfl (by decide +kernel)) (pi_range1 rfl T.b_range (pa_cons (pe_prp p_pieces hr (by first | decide | omega) (pv 0)) pa_nil)) (blkOk_by (N := N_following_masks) (sc := C8.fnScope s_following_masks) (by decide +kernel)) (fun _ _ _ _ _ => (pg_name (i := 10) sc_following_masks.nd rfl (Or.inl rfl))) (fun _ _ _ _ _ => pts_nil) (fun _ _ _ _ _ => (pe_op op_sub (pe_op op_oneShl pe_int (pe_prp p_pieces hr (by first | decide | omega) (pv 0))) pe_int)))
      (pss_cons (ps_for PassesOwn.never rfl (pi_enumO rfl T.b_enumerate m___iter__ hr (by first | decide | omega) (pa_cons (pv 0) pa_nil)) (pg_tup rfl (pgs_cons (pg_name (i := 4) sc_following_masks.nd rfl (Or.inl rfl)) (pgs_cons (pg_tup rfl (pgs_cons (pg_name (i := 5) sc_following_masks.nd rfl (Or.inl rfl)) (pgs_cons (pg_name (i := 6) sc_following_masks.nd rfl (Or.inl rfl)) pgs_nil))) pgs_nil))) (pss_cons (ps_set (i := 7) sc_following_masks.nd rfl (Or.inl rfl) pe_int)
      (pss_cons (ps_for PassesOwn.never rfl (pi_enumG rfl T.b_enumerate (pa_cons (pv 2) pa_nil)) (pg_tup rfl (pgs_cons (pg_name (i := 8) sc_following_masks.nd rfl (Or.inl rfl)) (pgs_cons (pg_name (i := 9) sc_following_masks.nd rfl (Or.inl rfl)) pgs_nil))) (pss_one (ps_if (PW.pt (pw_and (pt_cmp (pc_din hu (pv 6) (pv 9))) (pw_and1 (pt_val (C8.pe_c c_is_ahead_in_right hr (by first | decide | omega) (by rfl) (pa_cons (pv 4) (pa_cons (pe_dget hu (pv 9) (pv 6) (fun _ _ => rfl)) pa_nil))))))) (pss_one (ps_aug (i := 7) sc_following_masks.nd rfl (Or.inl rfl) (pe_op op_oneShl pe_int (pv 8)) ip_add)) pss_nil)))
      (pss_one (ps_for PassesOwn.never rfl (pi_enumG rfl T.b_enumerate (pa_cons (pv 1) pa_nil)) (pg_tup rfl (pgs_cons (pg_name (i := 8) sc_following_masks.nd rfl (Or.inl rfl)) (pgs_cons (pg_name (i := 9) sc_following_masks.nd rfl (Or.inl rfl)) pgs_nil))) (pss_one (ps_if (PW.pt (pw_and (pt_cmp (pc_din hu (pv 5) (pv 9))) (pw_and1 (pt_val (C8.pe_c c_is_ahead_in_left hr (by first | decide | omega) (by rfl) (pa_cons (pv 4) (pa_cons (pe_dget hu (pv 9) (pv 5) (fun _ _ => rfl)) pa_nil))))))) (pss_one (ps_augS (pv 3) (pv 8) get_listN (pe_un un_inv (pv 7)) iop_and set_list)) pss_nil)))))))
      (pss_one (ps_ret (pe_tupleOf (by rfl) T.b_tuple (pv 3)))))))), ?_⟩
    -- the bounds of the right spines
    obtain ⟨dx, fs, h1⟩ := ins H hj
    refine ⟨_, rfl, p, dx, fs, rfl, h1, p, al, ps, rfl, hj, ?_⟩
    refine ⟨_, rfl, by omega, by omega, fun R hR => lc_it walk_range (fun i H' => Same H H' ∧ ∃ us, H' R = some (.lst us) ∧ Paired (BdsAt al.length ps Prod.snd H') us (List.range i)) ⟨same_new hR, [], upd_same, .nil⟩ (fun _ _ _ _ => trivial) ?_ ?_⟩
    · rintro i x Ha Hb hi ⟨sa, us, ha, hP⟩ ⟨rfl, hx⟩
      obtain rfl : x = V.int (i : Int) := hx.trans (congrArg V.int (Int.zero_add _))
      have hi : i < al.length + ps.length := by rw [Int.toNat_natCast] at hi; exact hi
      refine ⟨rfl, _, rfl, _, rfl, p, al, ps, i, rfl, hj.same sa, hprop, hal, hpl, hi, fun H3 z o ws es s3 hz ho hws hsp hel => ?_⟩
      have hsp : IsSpine al.length ps Prod.snd i es := hsp
      obtain ⟨ads, rfl, hads⟩ := steps_dict (K := K) hws
      refine ⟨z, o, ads, _, rfl, hz, ho, hads, fun d hd => ?_⟩
      have hls : us.length = i := by have := hP.length; rwa [List.length_range] at this
      have ha3 := s3 _ _ ha
      have hne : R ≠ d := ne_of_none ha3 hd
      have s4 := Same.new (o := .dK (mergeK [] (es.map fun e => ((.inl (e.1 : Int) : Key), bdV e.2)))) s3 hd
      refine ⟨us, s4 _ _ ha, small1000 (by omega), Same.put (sa.trans s4) hR, us ++ [.ref d], upd_same, ?_⟩
      rw [List.range_succ]
      have hm := spine_bds side2 hw hsp
      exact Paired.snoc (F := BdsAt al.length ps Prod.snd _) ⟨d, _, rfl, (upd_ne (Ne.symm hne)).trans upd_same, hm⟩ (Paired.mapP hP fun _ _ h => BdsAt.samex h ha (SameX.self (Same.x s4)))
    rintro H1 ⟨s1, rs, hR1, hP1⟩
    rw [Int.toNat_natCast] at hP1
    have hj1 := hj.same s1
    obtain ⟨dx1, fs1, g1⟩ := ins H1 hj1
    refine ⟨_, rfl, p, dx1, fs1, rfl, g1, p, al, ps, rfl, hj1, ?_⟩
    refine ⟨_, rfl, by omega, by omega, fun L hL => lc_it walk_range (fun i H' => Same H1 H' ∧ ∃ us, H' L = some (.lst us) ∧ Paired (BdsAt al.length ps Prod.fst H') us (List.range i)) ⟨same_new hL, [], upd_same, .nil⟩ (fun _ _ _ _ => trivial) ?_ ?_⟩
    · rintro i x Ha Hb hi ⟨sa, us, ha, hP⟩ ⟨rfl, hx⟩
      obtain rfl : x = V.int (i : Int) := hx.trans (congrArg V.int (Int.zero_add _))
      have hi : i < al.length + ps.length := by rw [Int.toNat_natCast] at hi; exact hi
      refine ⟨rfl, _, rfl, _, rfl, p, al, ps, i, rfl, hj1.same sa, hprop, hal, hpl, hi, fun H3 z o ws es s3 hz ho hws hsp hel => ?_⟩
      have hsp : IsSpine al.length ps Prod.fst i es := hsp
      obtain ⟨ads, rfl, hads⟩ := steps_dict (K := K) hws
      refine ⟨z, o, ads, _, rfl, hz, ho, hads, fun d hd => ?_⟩
      have hls : us.length = i := by have := hP.length; rwa [List.length_range] at this
      have ha3 := s3 _ _ ha
      have hne : L ≠ d := ne_of_none ha3 hd
      have s4 := Same.new (o := .dK (mergeK [] (es.map fun e => ((.inl (e.1 : Int) : Key), bdV e.2)))) s3 hd
      refine ⟨us, s4 _ _ ha, small1000 (by omega), Same.put (sa.trans s4) hL, us ++ [.ref d], upd_same, ?_⟩
      rw [List.range_succ]
      have hm := spine_bds side1 hw hsp
      exact Paired.snoc (F := BdsAt al.length ps Prod.fst _) ⟨d, _, rfl, (upd_ne (Ne.symm hne)).trans upd_same, hm⟩ (Paired.mapP hP fun _ _ h => BdsAt.samex h ha (SameX.self (Same.x s4)))
    rintro H2 ⟨s2, ls, hL2, hP2⟩
    rw [Int.toNat_natCast] at hP2
    have hj2 := hj1.same s2
    have hR2 := s2 _ _ hR1
    have hP1 := Paired.mapP hP1 fun _ _ h => BdsAt.same h s2
    obtain ⟨dx2, fs2, g2⟩ := ins H2 hj2
    refine ⟨_, rfl, p, dx2, fs2, rfl, g2, p, al, ps, rfl, hj2, ?_⟩
    refine ⟨_, rfl, by omega, by omega, fun M hM => lc_it walk_range (fun i H' => Same H2 H' ∧ H' M = some (.lst (iv (List.replicate i (2 ^ (al.length + ps.length) - 1))))) ⟨same_new hM, upd_same⟩ (fun _ _ _ _ => trivial) ?_ ?_⟩
    · rintro i x Ha Hb hi ⟨sa, ha⟩ ⟨rfl, hx⟩
      have hi : i < al.length + ps.length := by rw [Int.toNat_natCast] at hi; exact hi
      have hja := hj2.same sa
      obtain ⟨dx3, fs3, g3⟩ := ins Hb hja
      refine ⟨rfl, _, rfl, p, dx3, fs3, rfl, g3, p, al, ps, rfl, hja, _, rfl, rfl, by omega, _, _, rfl, rfl, _, ha, by rw [iv_len, List.length_replicate]; exact small1000 (by omega), Same.put sa hM, ?_⟩
      have e1 : ((2 : Int) ^ (al.length + ps.length) - 1) = ((2 ^ (al.length + ps.length) - 1 : Nat) : Int) := by
        have : 0 < 2 ^ (al.length + ps.length) := Nat.two_pow_pos _
        rw [Int.natCast_sub this, Int.natCast_pow]; rfl
      rw [upd_same]
      show some (HO.lst (iv (List.replicate i (2 ^ (al.length + ps.length) - 1)) ++ [V.int ((2 : Int) ^ (al.length + ps.length) - 1)])) = _
      rw [e1, iv_snoc, ← List.replicate_succ']
    rintro H3 ⟨s3, hM3⟩
    rw [Int.toNat_natCast] at hM3
    have hj3 := hj2.same s3
    obtain ⟨dx3, fs3, g3⟩ := ins H3 hj3
    refine ⟨_, rfl, p, dx3, fs3, rfl, g3, p, al, ps, rfl, hj3, fun it pa us hpa hus hit => ⟨it, pa, us, rfl, upd_same, ?_⟩⟩
    have hul : us.length = ps.length := hus.length
    have npi : pa ≠ it := ne_of_none hpa hit
    have nMi : M ≠ it := ne_of_none hM3 hit
    have hM2 : H2 M = none := hM
    have hit2 : H2 it = none := s3.free hit
    have npM : pa ≠ M := fun z => by rw [z, hM3] at hpa; cases hpa
    have hpa2 : H3 pa = some (.tup us) := hpa
    refine for_own (fun i σ H' => ∃ (v4 v5 v6 v7 v8 v9 : Option V) (Ms : List Nat), σ = [some (.ref p), some (.ref R), some (.ref L), some (.ref M), v4, v5, v6, v7, v8, v9, none] ∧ Same H2 H' ∧ H' pa = some (.tup us) ∧ PairsAt H' us ps ∧ H' it = some (TupI it pa us.length i) ∧ H' M = some (.lst (iv Ms)) ∧ MasksAt al.length ps i Ms)
      ⟨none, none, none, none, none, none, _, rfl, Same.put s3 hit2, (upd_ne npi).trans hpa, hus.same (fun b xs e => (upd_ne (ne_of_none e hit)).trans e), upd_same, (upd_ne nMi).trans hM3, ?_⟩ (fun i σ H' _ ⟨_, _, _, _, _, _, _, _, _, h1, _, h2, _⟩ => ⟨h1, h2⟩) ?_ ?_
    · refine ⟨by rw [List.length_replicate], fun x q hx hq => ⟨2 ^ (al.length + ps.length) - 1, by rw [List.getElem?_replicate, if_pos hx], ?_⟩⟩
      rw [Nat.testBit_two_pow_sub_one, decide_eq_true hq]
      exact ⟨fun _ r hr => absurd hr (Nat.not_lt_zero _), fun _ => rfl⟩
    · rintro i x T σ Hb hi ⟨v4, v5, v6, v7, v8, v9, Ms, rfl, sb, hpb, hub, hib, hMb, hMs⟩ hx hT
      obtain ⟨pr, hpr, g, rfl, hg⟩ := Paired.at hub hx
      have hil : i < ps.length := by omega
      have nTi : it ≠ T := ne_of_none hib hT
      have ngi : g ≠ it := fun z => by rw [z, hib] at hg; cases hg
      obtain ⟨Hc, hHc⟩ : ∃ Hc, Hc = upd (upd Hb it (TupI it pa us.length (i + 1))) T (.tup [.int (i : Nat), .ref g]) := ⟨_, rfl⟩
      have sX : SameX it Hb Hc := fun b o hb e => by rw [hHc]; exact (upd_ne (ne_of_none e hT)).trans ((upd_ne hb).trans e)
      have hic : Hc it = some (TupI it pa us.length (i + 1)) := by rw [hHc]; exact (upd_ne nTi).trans upd_same
      have hTc : Hc T = some (.tup [.int (i : Nat), .ref g]) := by rw [hHc]; exact upd_same
      have sc : Same H2 Hc := by rw [hHc]; exact Same.new (Same.put sb hit2) ((upd_ne (Ne.symm nTi)).trans hT)
      have hgc := sX _ _ ngi hg
      have hpc := sX _ _ npi hpb
      have hMc := sX _ _ nMi hMb
      have huc : PairsAt Hc us ps := hub.same fun b xs e => sX _ _ (fun z => by rw [z, hib] at e; cases e) e
      have hRc := sc _ _ hR2
      have hLc := sc _ _ hL2
      have hP1c := Paired.mapP hP1 fun _ _ h => BdsAt.same h sc
      have hP2c := Paired.mapP hP2 fun _ _ h => BdsAt.same h sc
      rw [← hHc]
      clear hHc sX
      have hrl : rs.length = al.length + ps.length := by have := hP1.length; rwa [List.length_range] at this
      have hll : ls.length = al.length + ps.length := by have := hP2.length; rwa [List.length_range] at this
      refine ⟨T, _, rfl, SqT.of hTc, rfl, _, _, rfl, _, _, rfl, g, _, rfl, SqT.of hgc, rfl, _, _, rfl, _, _, rfl, rfl, rfl, ?_⟩
      refine ⟨_, rfl, _, _, _, _, rfl, src_seq (b := true) hLc, for_it walkG (fun j σ H' => ∃ (c : Nat) (v8 v9 : Option V), σ = [some (.ref p), some (.ref R), some (.ref L), some (.ref M), some (.int (i : Int)), some (.int (pr.1 : Int)), some (.int (pr.2 : Int)), some (.int (c : Int)), v8, v9, none] ∧ Same Hc H' ∧ c < 2 ^ j ∧
          ∀ q, q < j → (c.testBit q = true ↔ ∃ bd, Spn al.length ps Prod.fst q pr.2 bd ∧ upTo i bd)) ⟨0, v8, v9, rfl, Same.refl Hc, by decide, fun q hq => absurd hq (Nat.not_lt_zero _)⟩ (fun j σ H' _ ⟨_, _, _, _, sa, _⟩ => sa _ _ hLc) ?_ ?_⟩
      · rintro j x σ Ha Hd hj2 ⟨c, v8, v9, rfl, sa, hc, hbit⟩ ⟨T2, ys, rfl, hT2, rfl, v, hv, rfl⟩
        have hjn : j < al.length + ps.length := by have := (List.getElem?_eq_some_iff.mp hv).1; omega
        obtain ⟨q', hq', d, kvs, rfl, hd, hh, hm⟩ := Paired.at hP2c hv
        rw [List.getElem?_range hjn] at hq'
        cases hq'
        have s5 := Same.new (o := .tup [.int (j : Int), .ref d]) sa hT2
        have DG : DGet (upd Ha T2 (.tup [.int (j : Int), .ref d])) d (.int (pr.2 : Int)) (valV kvs (.inl (pr.2 : Int))) := DGet.k (k := .inl (pr.2 : Int)) (s5 _ _ hd)
        have hc2 : c < 2 ^ (j + 1) := Nat.lt_trans hc (Nat.pow_lt_pow_right (by decide) (Nat.lt_succ_self j))
        have no : ¬ (∃ bd, Spn al.length ps Prod.fst j pr.2 bd ∧ upTo i bd) → ∀ q, q < j + 1 → (c.testBit q = true ↔ ∃ bd, Spn al.length ps Prod.fst q pr.2 bd ∧ upTo i bd) := fun hno q hq => by
          rcases Nat.lt_succ_iff_lt_or_eq.mp hq with h | h
          · exact hbit q h
          · subst h
            rw [Nat.testBit_lt_two_pow hc]
            exact ⟨fun z => (by cases z), fun z => absurd z hno⟩
        refine ⟨T2, _, rfl, SqT.of upd_same, rfl, _, _, rfl, _, _, rfl, rfl, ?_⟩
        refine ⟨_, rfl, _, rfl, d, _, rfl, DG, _, rfl, ?_⟩
        by_cases cS : ∃ bd, Spn al.length ps Prod.fst j pr.2 bd
        · obtain ⟨bd, hs⟩ := cS
          rw [hh _ _ hs] at DG ⊢
          refine iteT ⟨_, rfl, _, rfl, _, rfl, d, _, rfl, DG, i, bd, rfl, fun k hk => ⟨k, rfl, ?_⟩⟩
          cases k with
          | true =>
            refine iteT ⟨_, rfl, _, rfl, j, rfl, rfl, by omega, _, _, rfl, rfl, c + 2 ^ j, some (.int (j : Int)), some (.ref d), ?_, s5, ?_, fun q hq => ?_⟩
            · have e9 : ((c : Int) + 2 ^ j) = ((c + 2 ^ j : Nat) : Int) := by rw [Int.natCast_add, Int.natCast_pow]; rfl
              show [some (.ref p), some (.ref R), some (.ref L), some (.ref M), some (.int (i : Int)), some (.int (pr.1 : Int)), some (.int (pr.2 : Int)), some (V.int ((c : Int) + 2 ^ j)), some (.int (j : Int)), some (.ref d), none] = _
              rw [e9]
            · rw [Nat.pow_succ]; omega
            · rw [bit_add hc (by omega)]
              by_cases e : q = j
              · subst e
                rw [if_pos rfl]
                exact ⟨fun _ => ⟨bd, hs, hk.mp rfl⟩, fun _ => rfl⟩
              · rw [if_neg e]
                exact hbit q (by omega)
          | false =>
            refine iteF ⟨c, _, _, rfl, s5, hc2, no fun ⟨bd', h1, h2⟩ => ?_⟩
            rw [Spn.uniq side1 hw j h1 hs] at h2
            cases hk.mpr h2
        · rw [hm _ fun bd h => cS ⟨bd, h⟩]
          exact iteF (iteF ⟨c, _, _, rfl, s5, hc2, no fun ⟨bd', h1, _⟩ => cS ⟨bd', h1⟩⟩)
      · rintro σ He ⟨c, v8, v9, rfl, se, hc, hbit⟩
        rw [hll] at hbit
        have hRM : R ≠ M := ne_of_none hR2 hM2
        refine ⟨_, rfl, _, _, _, _, rfl, src_seq (b := true) (se _ _ hRc), for_it walkG (fun j σ H' => ∃ (v8 v9 : Option V) (Ns : List Nat), σ = [some (.ref p), some (.ref R), some (.ref L), some (.ref M), some (.int (i : Int)), some (.int (pr.1 : Int)), some (.int (pr.2 : Int)), some (.int (c : Int)), v8, v9, none] ∧ SameX M He H' ∧ H' M = some (.lst (iv Ns)) ∧ Ns.length = Ms.length ∧
            ∀ x m, Ms[x]? = some m → ∃ m', Ns[x]? = some m' ∧ ∀ q, (m'.testBit q = true ↔ m.testBit q = true ∧ ¬ (x < j ∧ (∃ bd, Spn al.length ps Prod.snd x pr.1 bd ∧ upTo (i + 1) bd) ∧ c.testBit q = true)))
          ⟨v8, v9, Ms, rfl, fun _ _ _ e => e, se _ _ hMc, rfl, fun x m hm => ⟨m, hm, fun q => ⟨fun h => ⟨h, fun z => absurd z.1 (Nat.not_lt_zero _)⟩, fun h => h.1⟩⟩⟩ (fun j σ H' _ ⟨_, _, _, _, sa, _⟩ => sa _ _ hRM (se _ _ hRc)) ?_ ?_⟩
        · rintro j x σ Ha Hd hj2 ⟨v8, v9, Ns, rfl, sa, hMa, hNl, hN⟩ ⟨T2, ys, rfl, hT2, rfl, v, hv, rfl⟩
          have hjn : j < al.length + ps.length := by have := (List.getElem?_eq_some_iff.mp hv).1; omega
          obtain ⟨q', hq', d, kvs, rfl, hd, hh, hm⟩ := Paired.at hP1c hv
          rw [List.getElem?_range hjn] at hq'
          cases hq'
          have ndM : d ≠ M := fun z => by rw [z, hMc] at hd; cases hd
          have s5 : SameX M He (upd Ha T2 (.tup [.int (j : Int), .ref d])) := fun b o hb e => (upd_ne (ne_of_none (sa b o hb e) hT2)).trans (sa b o hb e)
          have hM5 : (upd Ha T2 (.tup [.int (j : Int), .ref d])) M = some (.lst (iv Ns)) := (upd_ne (ne_of_none hMa hT2)).trans hMa
          have DG : DGet (upd Ha T2 (.tup [.int (j : Int), .ref d])) d (.int (pr.1 : Int)) (valV kvs (.inl (pr.1 : Int))) := DGet.k (k := .inl (pr.1 : Int)) (s5 _ _ ndM (se _ _ hd))
          have no : ¬ (∃ bd, Spn al.length ps Prod.snd j pr.1 bd ∧ upTo (i + 1) bd) → ∀ x m, Ms[x]? = some m → ∃ m', Ns[x]? = some m' ∧ ∀ q, (m'.testBit q = true ↔ m.testBit q = true ∧ ¬ (x < j + 1 ∧ (∃ bd, Spn al.length ps Prod.snd x pr.1 bd ∧ upTo (i + 1) bd) ∧ c.testBit q = true)) := fun hno x m hx => by
            obtain ⟨m', h1, h2⟩ := hN x m hx
            refine ⟨m', h1, fun q => (h2 q).trans ?_⟩
            constructor
            · rintro ⟨a, b⟩
              refine ⟨a, fun ⟨z1, z2, z3⟩ => b ⟨?_, z2, z3⟩⟩
              rcases Nat.lt_succ_iff_lt_or_eq.mp z1 with h | h
              · exact h
              · subst h; exact absurd z2 hno
            · rintro ⟨a, b⟩
              exact ⟨a, fun ⟨z1, z2, z3⟩ => b ⟨by omega, z2, z3⟩⟩
          refine ⟨T2, _, rfl, SqT.of upd_same, rfl, _, _, rfl, _, _, rfl, rfl, ?_⟩
          refine ⟨_, rfl, _, rfl, d, _, rfl, DG, _, rfl, ?_⟩
          by_cases cS : ∃ bd, Spn al.length ps Prod.snd j pr.1 bd
          · obtain ⟨bd, hs⟩ := cS
            rw [hh _ _ hs] at DG ⊢
            refine iteT ⟨_, rfl, _, rfl, _, rfl, d, _, rfl, DG, i, bd, rfl, fun k hk => ⟨k, rfl, ?_⟩⟩
            cases k with
            | true =>
              obtain ⟨m0, hm0⟩ : ∃ m0, Ms[j]? = some m0 := ⟨_, List.getElem?_eq_getElem (by rw [hMs.1]; exact hjn)⟩
              obtain ⟨m1, hm1, hq1⟩ := hN j m0 hm0
              have hjl : j < Ns.length := (List.getElem?_eq_some_iff.mp hm1).1
              refine iteT ⟨_, rfl, _, rfl, M, _, j, _, rfl, rfl, hM5, iv_at hm1, _, rfl, _, rfl, _, _, rfl, rfl, M, _, (j : Int), j, rfl, rfl, hM5, ?_, _, _, Ns.set j (m1 - (m1 &&& c)), rfl, ?_, ?_, by rw [List.length_set]; exact hNl, fun x m hx => ?_⟩
              · unfold ixN
                rw [iv_len, if_pos (Int.natCast_nonneg _), if_pos (by omega), Int.toNat_natCast]
              · exact fun b o hb e => (upd_ne hb).trans (s5 b o hb e)
              · rw [upd_same]
                show some (HO.lst ((iv Ns).set j (V.int (Builtin.bitAnd (m1 : Int) (Builtin.bitNot (c : Int)))))) = _
                rw [bitAnd_not]
                unfold iv
                rw [List.map_set]
              · by_cases e : x = j
                · subst e
                  rw [hm0] at hx
                  cases hx
                  refine ⟨_, List.getElem?_set_self hjl, fun q => ?_⟩
                  rw [bit_sub_and, Bool.and_eq_true, Bool.not_eq_true', hq1 q]
                  constructor
                  · rintro ⟨⟨a, _⟩, b⟩
                    exact ⟨a, fun ⟨_, _, z⟩ => by rw [b] at z; cases z⟩
                  · rintro ⟨a, b⟩
                    refine ⟨⟨a, fun ⟨z, _⟩ => absurd z (Nat.lt_irrefl _)⟩, ?_⟩
                    cases hcq : c.testBit q with
                    | false => rfl
                    | true => exact absurd ⟨Nat.lt_succ_self _, ⟨bd, hs, hk.mp rfl⟩, hcq⟩ b
                · obtain ⟨m', h1, h2⟩ := hN x m hx
                  refine ⟨m', by rw [List.getElem?_set_ne (Ne.symm e)]; exact h1, fun q => (h2 q).trans ?_⟩
                  constructor
                  · rintro ⟨a, b⟩
                    exact ⟨a, fun ⟨z1, z2, z3⟩ => b ⟨by omega, z2, z3⟩⟩
                  · rintro ⟨a, b⟩
                    exact ⟨a, fun ⟨z1, z2, z3⟩ => b ⟨by omega, z2, z3⟩⟩
            | false =>
              refine iteF ⟨_, _, Ns, rfl, s5, hM5, hNl, no fun ⟨bd', h1, h2⟩ => ?_⟩
              rw [Spn.uniq side2 hw j h1 hs] at h2
              cases hk.mpr h2
          · rw [hm _ fun bd h => cS ⟨bd, h⟩]
            exact iteF (iteF ⟨_, _, Ns, rfl, s5, hM5, hNl, no fun ⟨bd', h1, _⟩ => cS ⟨bd', h1⟩⟩)
        · rintro σ Hf ⟨v8, v9, Ns, rfl, sx, hMf, hNl, hN⟩
          rw [hrl] at hN
          refine ⟨_, _, _, _, _, _, Ns, rfl, fun b o e => sx b o (ne_of_none e hM2) ((sc.trans se) b o e), sx _ _ npM (se _ _ hpc), huc.same fun b xs e => sx b _ (fun z => by rw [z, hMc] at e; cases e) (se _ _ e), sx _ _ (Ne.symm nMi) (se _ _ hic), hMf, by rw [hNl]; exact hMs.1, fun x q hxn hq => ?_⟩
          obtain ⟨m, hm, hb⟩ := hMs.2 x q hxn hq
          obtain ⟨m', hm', hb'⟩ := hN x m hm
          refine ⟨m', hm', (hb' q).trans ?_⟩
          rw [hb, hbit q hq]
          constructor
          · rintro ⟨a, b⟩ r hr hcr
            rcases Nat.lt_succ_iff_lt_or_eq.mp hr with h | h
            · exact a r h hcr
            · subst h
              obtain ⟨p', bx, by', e1, e2, e3, e4, e5⟩ := hcr
              rw [hpr] at e1
              cases e1
              exact b ⟨hxn, ⟨bx, e2, e4⟩, ⟨by', e3, e5⟩⟩
          · intro a
            refine ⟨fun r hr => a r (by omega), fun ⟨_, ⟨bx, e2, e4⟩, ⟨by', e3, e5⟩⟩ => a i (Nat.lt_succ_self _) ⟨pr, bx, by', hpr, e2, e3, e4, e5⟩⟩
    · rintro σ H' ⟨v4, v5, v6, v7, v8, v9, Ms, rfl, sb, hpb, hub, hib, hMb, hMs⟩
      rw [hul] at hMs
      refine ⟨_, rfl, .inl ⟨M, _, rfl, SqL.of hMb, fun z hz => q _ z Ms (Same.new ((s1.trans s2).trans sb) hz) upd_same hMs⟩⟩
end
end RJ
end

section
set_option maxRecDepth 100000
set_option maxHeartbeats 8000000
namespace RJ
open PySem PySem.Spec PyProof.Rows L2
abbrev s_choices_behind : Stmt := top 8
abbrev N_choices_behind : List Str := ["joins", "masks", "choices", "mask", "piece"]
theorem sc_choices_behind : FnScope N_choices_behind ["joins"] (C8.fnScope s_choices_behind) := C8.fnScope_by (by decide +kernel)
abbrev s__law_few_letters : Stmt := top 44
abbrev N__law_few_letters : List Str := ["pool"]
theorem sc__law_few_letters : FnScope N__law_few_letters ["pool"] (C8.fnScope s__law_few_letters) := C8.fnScope_by (by decide +kernel)
abbrev s__law_sides : Stmt := top 45
abbrev N__law_sides : List Str := ["made", "alphabet", "out", "left", "row", "k", "cut"]
theorem sc__law_sides : FnScope N__law_sides ["made", "alphabet"] (C8.fnScope s__law_sides) := C8.fnScope_by (by decide +kernel)
/-- tuples of pieces, lists of numbers, lists of bools, each at its address -/
def TupAt (H : Hp) (v : V) (r : List Nat) : Prop := ∃ q, v = .ref q ∧ H q = some (.tup (iv r))
def LstAt (H : Hp) (v : V) (r : List Nat) : Prop := ∃ q, v = .ref q ∧ H q = some (.lst (iv r))
def BlsAt (H : Hp) (v : V) (r : List Bool) : Prop := ∃ q, v = .ref q ∧ H q = some (.lst (r.map V.bl))
theorem TupAt.same {H H' : Hp} {v : V} {r : List Nat} (h : TupAt H v r) (s : Same H H') : TupAt H' v r := by
  obtain ⟨q, e, h⟩ := h; exact ⟨q, e, s _ _ h⟩
theorem LstAt.same {H H' : Hp} {v : V} {r : List Nat} (h : LstAt H v r) (s : Same H H') : LstAt H' v r := by
  obtain ⟨q, e, h⟩ := h; exact ⟨q, e, s _ _ h⟩
theorem BlsAt.same {H H' : Hp} {v : V} {r : List Bool} (h : BlsAt H v r) (s : Same H H') : BlsAt H' v r := by
  obtain ⟨q, e, h⟩ := h; exact ⟨q, e, s _ _ h⟩
abbrev TupsAt (H : Hp) (vs : List V) (rs : List (List Nat)) : Prop := Paired (TupAt H) vs rs
abbrev LstsAt (H : Hp) (vs : List V) (rs : List (List Nat)) : Prop := Paired (LstAt H) vs rs
abbrev BlssAt (H : Hp) (vs : List V) (rs : List (List Bool)) : Prop := Paired (BlsAt H) vs rs
theorem TupsAt.same {H H' : Hp} {vs : List V} {rs : List (List Nat)} (h : TupsAt H vs rs) (s : Same H H') : TupsAt H' vs rs := Paired.mapP h fun _ _ x => TupAt.same x s
theorem LstsAt.same {H H' : Hp} {vs : List V} {rs : List (List Nat)} (h : LstsAt H vs rs) (s : Same H H') : LstsAt H' vs rs := Paired.mapP h fun _ _ x => LstAt.same x s
theorem BlssAt.same {H H' : Hp} {vs : List V} {rs : List (List Bool)} (h : BlssAt H vs rs) (s : Same H H') : BlssAt H' vs rs := Paired.mapP h fun _ _ x => BlsAt.same x s
/-- the same, but for what is being built at t -/
def LstN (t : Addr) (H : Hp) (v : V) (r : List Nat) : Prop := ∃ q, v = .ref q ∧ q ≠ t ∧ H q = some (.lst (iv r))
def BlsN (t : Addr) (H : Hp) (v : V) (r : List Bool) : Prop := ∃ q, v = .ref q ∧ q ≠ t ∧ H q = some (.lst (r.map V.bl))
theorem LstN.put {t : Addr} {H H' : Hp} {o : HO} {v : V} {r : List Nat} (h : LstN t H v r) (s : Same H H') : LstN t (upd H' t o) v r := by
  obtain ⟨q, e, n, h⟩ := h; exact ⟨q, e, n, (upd_ne n).trans (s _ _ h)⟩
theorem BlsN.put {t : Addr} {H H' : Hp} {o : HO} {v : V} {r : List Bool} (h : BlsN t H v r) (s : Same H H') : BlsN t (upd H' t o) v r := by
  obtain ⟨q, e, n, h⟩ := h; exact ⟨q, e, n, (upd_ne n).trans (s _ _ h)⟩
theorem LstN.same {t : Addr} {H H' : Hp} {v : V} {r : List Nat} (h : LstN t H v r) (s : Same H H') : LstN t H' v r := by
  obtain ⟨q, e, n, h⟩ := h; exact ⟨q, e, n, s _ _ h⟩
theorem BlsN.same {t : Addr} {H H' : Hp} {v : V} {r : List Bool} (h : BlsN t H v r) (s : Same H H') : BlsN t H' v r := by
  obtain ⟨q, e, n, h⟩ := h; exact ⟨q, e, n, s _ _ h⟩
theorem LstN.ats {t : Addr} {H : Hp} {vs : List V} {rs : List (List Nat)} (h : Paired (LstN t H) vs rs) : LstsAt H vs rs := Paired.mapP h fun _ _ ⟨q, e, _, h⟩ => ⟨q, e, h⟩
theorem BlsN.ats {t : Addr} {H : Hp} {vs : List V} {rs : List (List Bool)} (h : Paired (BlsN t H) vs rs) : BlssAt H vs rs := Paired.mapP h fun _ _ ⟨q, e, _, h⟩ => ⟨q, e, h⟩
/-- the same, new since H0 -/
def LstG (t : Addr) (H0 H : Hp) (v : V) (r : List Nat) : Prop := ∃ q, v = .ref q ∧ q ≠ t ∧ H0 q = none ∧ H q = some (.lst (iv r))
def BlsG (t : Addr) (H0 H : Hp) (v : V) (r : List Bool) : Prop := ∃ q, v = .ref q ∧ q ≠ t ∧ H0 q = none ∧ H q = some (.lst (r.map V.bl))
theorem LstG.put {t : Addr} {H0 H H' : Hp} {o : HO} {v : V} {r : List Nat} (h : LstG t H0 H v r) (s : Same H H') : LstG t H0 (upd H' t o) v r := by
  obtain ⟨q, e, n, f, h⟩ := h; exact ⟨q, e, n, f, (upd_ne n).trans (s _ _ h)⟩
theorem BlsG.put {t : Addr} {H0 H H' : Hp} {o : HO} {v : V} {r : List Bool} (h : BlsG t H0 H v r) (s : Same H H') : BlsG t H0 (upd H' t o) v r := by
  obtain ⟨q, e, n, f, h⟩ := h; exact ⟨q, e, n, f, (upd_ne n).trans (s _ _ h)⟩
def LstF (H0 H : Hp) (v : V) (r : List Nat) : Prop := ∃ q, v = .ref q ∧ H0 q = none ∧ H q = some (.lst (iv r))
def BlsF (H0 H : Hp) (v : V) (r : List Bool) : Prop := ∃ q, v = .ref q ∧ H0 q = none ∧ H q = some (.lst (r.map V.bl))
theorem LstG.fs {t : Addr} {H0 H : Hp} {vs : List V} {rs : List (List Nat)} (h : Paired (LstG t H0 H) vs rs) : Paired (LstF H0 H) vs rs := Paired.mapP h fun _ _ ⟨q, e, _, f, h⟩ => ⟨q, e, f, h⟩
theorem BlsG.fs {t : Addr} {H0 H : Hp} {vs : List V} {rs : List (List Bool)} (h : Paired (BlsG t H0 H) vs rs) : Paired (BlsF H0 H) vs rs := Paired.mapP h fun _ _ ⟨q, e, _, f, h⟩ => ⟨q, e, f, h⟩
theorem LstF.pool {p : Addr} {H0 H : Hp} {vs : List V} {rs : List (List Nat)} (h : Paired (LstF H0 H) vs rs) (hP : PoolAt p H0) : Paired (LstN p H) vs rs := Paired.mapP h fun _ _ ⟨q, e, f, h⟩ => ⟨q, e, hP.free f, h⟩
theorem BlsF.pool {p : Addr} {H0 H : Hp} {vs : List V} {rs : List (List Bool)} (h : Paired (BlsF H0 H) vs rs) (hP : PoolAt p H0) : Paired (BlsN p H) vs rs := Paired.mapP h fun _ _ ⟨q, e, f, h⟩ => ⟨q, e, hP.free f, h⟩
theorem LstN.ps {p : Addr} {H H' : Hp} {vs : List V} {rs : List (List Nat)} (h : Paired (LstN p H) vs rs) (s : PSame p H H') : Paired (LstN p H') vs rs := Paired.mapP h fun _ _ ⟨q, e, n, h⟩ => ⟨q, e, n, s.lst n h⟩
theorem BlsN.ps {p : Addr} {H H' : Hp} {vs : List V} {rs : List (List Bool)} (h : Paired (BlsN p H) vs rs) (s : PSame p H H') : Paired (BlsN p H') vs rs := Paired.mapP h fun _ _ ⟨q, e, n, h⟩ => ⟨q, e, n, s.x _ _ n h⟩
theorem asc_take : ∀ (l : List Nat) (n : Nat), (ascL l).all id = true → (ascL (l.take n)).all id = true
  | [], n, _ => by rw [List.take_nil]; rfl
  | [a], 0, _ => rfl
  | [a], n + 1, _ => by rw [List.take_succ_cons, List.take_nil]; rfl
  | a :: b :: t, 0, _ => rfl
  | a :: b :: t, 1, _ => rfl
  | a :: b :: t, n + 2, h => by
    have h' : (decide (a < b) && (ascL (b :: t)).all id) = true := h
    rw [Bool.and_eq_true] at h'
    have ih := asc_take (b :: t) (n + 1) h'.2
    show (decide (a < b) && (ascL (b :: t.take n)).all id) = true
    rw [h'.1]
    exact ih
theorem strV_mem' {ts : List (List Nat)} {i : Nat} {x : V} (h : (strV ts)[i]? = some x) : ∃ t, ts[i]? = some t ∧ x = .str (S t) := by
  unfold strV at h
  rw [List.getElem?_map] at h
  obtain ⟨t, ht, rfl⟩ := Option.map_eq_some_iff.mp h
  exact ⟨t, ht, rfl⟩
theorem rg_iv (n : Nat) : rgV 0 (n : Int) = iv (List.range n) := by
  unfold rgV iv
  rw [Int.sub_zero, Int.toNat_natCast]
  exact List.map_congr_left fun i _ => congrArg V.int (Int.zero_add _)
def sp_choices (C : Addr) : Sp := fun vs H Q _ => ∃ (p : Addr) (al : List Nat) (ps : List (Nat × Nat)), vs = [.ref p] ∧ JoinsAt C H p al ps ∧ Proper al ps ∧ al.Nodup ∧ 1 ≤ al.length ∧ al.length ≤ 400 ∧ ps.length ≤ 400 ∧
  ∀ H' q us, Same H H' → H' q = some (.tup us) → TupsAt H' us (chRows (al.length + ps.length) (sideB al ps)) → Q (.ref q) H'
def sp_conts : Sp := fun vs H Q _ => ∃ (a : Addr) (us : List V) (N m : Nat) (S : Nat → Nat → Bool), vs = [.ref a, .int (m : Int)] ∧ H a = some (.tup us) ∧ TupsAt H us (chRows N S) ∧ N ≤ 800 ∧ m ≤ 900 ∧
  ∀ H' q ws, Same H H' → H' q = some (.lst ws) → LstsAt H' ws ((List.range (m + 1)).map (tabW N S)) → Q (.ref q) H'
def sp_few : Sp := fun vs H Q _ => ∃ p : Addr, vs = [.ref p] ∧ PoolAt p H ∧
  ∀ H' al, PSame p H H' → alOk al = true → al.Nodup → 1 ≤ al.length → al.length ≤ 4 → (∀ c ∈ al, c ∈ SG) → Q (.str (S al)) H'
def boolRows (N : Nat) (S : Nat → Nat → Bool) : List (List Bool) := (List.range N).map fun x => (List.range N).map (S x)
def sp_lsides : Sp := fun vs H Q _ => ∃ (r pp tx : Addr) (us : List V) (al : List Nat) (ps : List (Nat × Nat)), vs = [.ref r, .str (S al)] ∧ H r = some (.tup [.ref pp, .ref tx]) ∧ H pp = some (.lst us) ∧ PairsAt H us ps ∧ H tx = some (.lst (strV (textsOf al ps))) ∧ Proper al ps ∧ al.Nodup ∧ al.length ≤ 30 ∧ ps.length ≤ 100 ∧
  ∀ H' q ws, Same H H' → H q = none → H' q = some (.lst ws) → Paired (BlsF H H') ws (boolRows (al.length + ps.length) (sideB al ps)) → Q (.ref q) H'
def sp_lafter : Sp := fun vs H Q _ => ∃ (a : Addr) (us : List V) (N m : Nat) (S : Nat → Nat → Bool), vs = [.ref a, .int (m : Int)] ∧ H a = some (.lst us) ∧ BlssAt H us (boolRows N S) ∧ N ≤ 200 ∧ m ≤ 900 ∧
  ∀ H' q ws, Same H H' → H q = none → H' q = some (.lst ws) → Paired (LstF H H') ws ((List.range (m + 1)).map (rowW N S)) → Q (.ref q) H'
section
variable {P : Program} {w : World} {K : PySem.W.Frag} {mg : Str → Option Value} {base : Heap}
theorem ok_choices {f C : Addr} {fd : FuncData} (F : C8.Fun K "choices_behind" "choices_behind" s_choices_behind f fd) (T : Txt K mg) (J : JTxt K C) (p_pieces : PrpC P w K mg base 1 C "pieces" (sp_pieces C)) (c_following_masks : C8.Cal P w K mg base 8 "following_masks" (sp_masks C) []) :
    FnOk P w K mg base C8.CX0 9 f fd ["joins"] (sp_choices C) := by
  refine C8.fn0 F sc_choices_behind (fun vs H Q E h => ?_) (fun cdv A outer s H vs Q E hr h => ?_)
  · obtain ⟨p, al, ps, rfl, _⟩ := h; rfl
  · obtain ⟨p, al, ps, rfl, hj, hprop, hnd, hal1, hal, hpl, q⟩ := h
    have ins : ∀ H', JoinsAt C H' p al ps → ∃ dx fs, H' p = some (.ins C dx fs) := fun H' hj' => by
      obtain ⟨dx, t, tx, d, e, ws, h1, _⟩ := hj'
      exact ⟨dx, _, h1⟩
    obtain ⟨N, hN⟩ : ∃ N, N = al.length + ps.length := ⟨_, rfl⟩
    refine ⟨_, (pss_cons (ps_set (i := 1) sc_choices_behind.nd rfl (Or.inl rfl) (C8.pe_c c_following_masks hr (by first | decide | omega) (by rfl) (pa_cons (pv 0) pa_nil)))
      (pss_cons (ps_setLc (own := [("mask", 3)]) (i := 2) (g := gName 3) (tt := tYes) rfl sc_choices_behind.nd rfl rfl (sw_true rfl rfl rfl (by decide +kernel)) (pi_tup (pv 1)) (blkOk_by (N := N_choices_behind) (sc := C8.fnScope s_choices_behind) (by decide +kernel)) (fun _ _ _ _ _ => (pg_name (i := 3) sc_choices_behind.nd rfl (Or.inr rfl))) (fun _ _ _ _ _ => pts_nil) (fun _ _ _ _ _ => (pe_tupleOfK (K := K) rfl (by rfl) T.b_tuple (pe_lc (own := [("piece", 4)]) (g := gName 4)  rfl sc_choices_behind.nd (pi_range1 rfl T.b_range (pa_cons (pe_prp p_pieces hr (by first | decide | omega) (pv 0)) pa_nil)) (blkOk_nest (N := N_choices_behind) (sc0 := C8.fnScope s_choices_behind) rfl (by decide +kernel)) (fun _ _ _ _ _ => (pg_name (i := 4) sc_choices_behind.nd rfl (Or.inl rfl))) (fun _ _ _ _ _ => pts_one (pt_truthK (K := K) rfl (pe_op op_and (pe_op op_shrN (pv 3) (pv 4)) pe_int) (fun _ => rfl))) (fun _ _ _ _ _ => (pv 4))))))
      (pss_one (ps_ret (pe_op op_catA (pe_tupleOf (by rfl) T.b_tuple (pv 2)) (pe_tup (pa_cons (pe_tupRg (by rfl) (by rfl) T.b_tuple (prg_1 rfl T.b_range (pe_prp p_pieces hr (by first | decide | omega) (pv 0)))) pa_nil))))))), ?_⟩
    refine ⟨_, rfl, p, al, ps, rfl, hj, hprop, hal, hpl, fun H1 mk Ms s1 hmk hMs => ?_⟩
    rw [← hN] at q
    have hMl : Ms.length = N := by rw [hN]; exact hMs.1
    refine ⟨_, rfl, mk, rfl, ⟨_, SqT.of hmk⟩, fun D hD => lc_it walk_tup (fun i H' => Same H1 H' ∧ ∃ us, H' D = some (.lst us) ∧ TupsAt H' us ((List.range i).map (chs N (sideB al ps)))) ⟨same_new hD, [], upd_same, .nil⟩ (fun i H' _ ⟨s', _⟩ => SqT.of (s' _ _ hmk)) ?_ ?_⟩
    · rintro i x Ha Hb hi ⟨sa, us, ha, hus⟩ ⟨rfl, hx⟩
      obtain ⟨m, hm, rfl⟩ := iv_get hx
      have hiN : i < N := by rw [iv_len, hMl] at hi; exact hi
      have hjb := (hj.same s1).same sa
      obtain ⟨dx, fs, hins⟩ := ins _ hjb
      refine ⟨rfl, _, rfl, p, dx, fs, rfl, hins, p, al, ps, rfl, hjb, ?_⟩
      rw [← hN]
      refine ⟨_, rfl, by omega, by omega, fun D2 hD2 => ?_⟩
      refine lc_it walk_range (fun j H' => Same Hb H' ∧ H' D2 = some (.lst (iv ((List.range j).filter (sideB al ps i))))) ⟨same_new hD2, upd_same⟩ (fun _ _ _ _ => trivial) ?_ ?_
      · rintro j x Hc Hd hj2 ⟨sc, hc⟩ ⟨rfl, hx2⟩
        obtain rfl : x = V.int (j : Int) := hx2.trans (congrArg V.int (Int.zero_add _))
        have hjN : j < N := by simpa using hj2
        obtain ⟨m', hm', hbit⟩ := hMs.2 i j (by rw [← hN]; exact hiN) (by rw [← hN]; exact hjN)
        rw [hm] at hm'
        cases hm'
        have hsb : sideB al ps i j = m.testBit j := by
          rw [Bool.eq_iff_iff, hbit, sideB_iff hnd hprop (by rw [← hN]; exact hiN) (by rw [← hN]; exact hjN)]
          exact ⟨fun h r _ => h r, fun h r hc => h r hc.lt hc⟩
        refine ⟨rfl, _, rfl, _, rfl, (m : Int), j, rfl, rfl, _, _, rfl, rfl, sideB al ps i j, ?_, ?_⟩
        · show sideB al ps i j = (Builtin.bitAnd ((m : Int) / 2 ^ j) 1 != 0)
          rw [bit_one, hsb, Nat.testBit_eq_decide_div_mod_eq]
          rcases Nat.mod_two_eq_zero_or_one (m / 2 ^ j) with e | e <;> rw [e] <;> rfl
        have hfl : ((List.range j).filter (sideB al ps i)).length ≤ 800 := by
          have := List.length_filter_le (sideB al ps i) (List.range j)
          rw [List.length_range] at this
          omega
        cases hS : sideB al ps i j with
        | true =>
          refine iteT ⟨_, rfl, _, hc, by rw [iv_len]; exact small1000 (by omega), Same.put sc hD2, ?_⟩
          rw [upd_same, List.range_succ, List.filter_append, List.filter_cons, hS, if_pos rfl, iv_snoc]; rfl
        | false =>
          refine iteF ⟨sc, ?_⟩
          rw [List.range_succ, List.filter_append, List.filter_cons, hS, if_neg (by decide), List.filter_nil, List.append_nil]; exact hc
      · rintro H3 ⟨s3, h3⟩
        rw [Int.toNat_natCast] at h3
        have hDb := s3 _ _ ha
        have hul : us.length = i := by have := hus.length; rwa [List.length_map, List.length_range] at this
        refine .inl ⟨D2, _, rfl, SqL.of h3, fun t ht => ?_⟩
        have s4 := Same.new (o := .tup (iv (chs N (sideB al ps) i))) s3 ht
        refine ⟨us, s4 _ _ ha, small1000 (by omega), Same.put (sa.trans s4) hD, us ++ [.ref t], upd_same, ?_⟩
        rw [List.range_succ, List.map_append]
        have sx : ∀ {v : V} {r : List Nat}, TupAt H3 v r → TupAt (upd (upd H3 t (.tup (iv (chs N (sideB al ps) i)))) D (.lst (us ++ [.ref t]))) v r := fun {v r} ⟨q, e, h⟩ => ⟨q, e, by
          rw [upd_ne (ne_of h hDb (fun z => by cases z)), upd_ne (ne_of_none h ht)]; exact h⟩
        exact Paired.snoc (F := TupAt _) ⟨t, rfl, by rw [upd_ne (Ne.symm (ne_of_none hDb ht)), upd_same]; rfl⟩ (Paired.mapP (hus.same s3) fun _ _ h => sx h)
    · rintro H2 ⟨s2, us, hD2, hus⟩
      rw [iv_len, hMl] at hus
      have hjz := (hj.same s1).same s2
      refine ⟨_, rfl, .inl ⟨D, _, rfl, SqL.of hD2, fun t ht => ?_⟩⟩
      have st := Same.new (o := .tup us) s2 ht
      have hjt := (hj.same s1).same st
      obtain ⟨dx, fs, hins⟩ := ins _ hjt
      refine ⟨_, rfl, p, dx, fs, rfl, hins, p, al, ps, rfl, hjt, ?_⟩
      rw [← hN]
      refine ⟨_, rfl, RgOk.of_le (by omega) (by omega) (by omega) (by omega), fun r hr2 => ?_⟩
      rw [rg_iv]
      refine ⟨by show 1 ≤ sizeLine; decide, fun z hz => ?_⟩
      have sr := Same.new (o := .tup (iv (List.range N))) st hr2
      have sz := Same.new (o := .tup [.ref r]) sr hz
      have hul : us.length = N := by have := hus.length; rwa [List.length_map, List.length_range] at this
      have hne : us ≠ [] := fun e => by rw [e] at hul; rw [List.length_nil] at hul; omega
      have htz : (upd (upd (upd H2 t (.tup us)) r (.tup (iv (List.range N)))) z (.tup [.ref r])) t = some (.tup us) := (same_new hz) _ _ ((same_new hr2) _ _ upd_same)
      refine ⟨t, z, us, [.ref r], rfl, rfl, SqT.of htz, SqT.of upd_same, small_le (by rw [List.length_singleton]; omega), fun e => absurd e hne, fun _ e => (by cases e), fun _ _ w hw => ?_⟩
      have sw := Same.new (o := .tup (us ++ [.ref r])) sz hw
      have s0 := s1.trans sw
      refine q _ w _ s0 upd_same ?_
      refine Paired.snoc ⟨r, rfl, (same_new hw) _ _ ((same_new hz) _ _ upd_same)⟩ (hus.same ?_)
      exact Same.new (Same.new (Same.new (same_new ht) hr2) hz) hw
theorem ok_few {f : Addr} {fd : FuncData} (F : C8.Fun K "_law_few_letters" "_law_few_letters" s__law_few_letters f fd) (T : Txt K mg) (c__law_alphabet : C8.Cal P w K mg base 2 "_law_alphabet" sp_alphabetB []) : FnOk P w K mg base C8.CX0 3 f fd ["pool"] sp_few := by
  refine C8.fn0 F sc__law_few_letters (fun vs H Q E h => ?_) (fun cdv A outer s H vs Q E hr h => ?_)
  · obtain ⟨p, rfl, _⟩ := h; rfl
  · obtain ⟨p, rfl, hP, q⟩ := h
    refine ⟨_, (pss_one (ps_ret (pe_slice sl_str (C8.pe_c c__law_alphabet hr (by first | decide | omega) (by rfl) (pa_cons (pv 0) pa_nil)) po_none (po_some pe_int)))), ?_⟩
    refine ⟨_, rfl, p, rfl, hP, fun H1 al s1 hok hnd h1 h30 hSG => ⟨_, rfl, S al, rfl, by rw [S_len]; exact small_le (by omega), ?_⟩⟩
    rw [show (some (4 : Int)) = some ((4 : Nat) : Int) from rfl, cutS_take]
    have hasc : ∀ c ∈ al.take 4, c ∈ al := fun c hc => List.mem_of_mem_take hc
    have hl : (al.take 4).length ≤ 4 ∧ 1 ≤ (al.take 4).length := by rw [List.length_take]; omega
    refine q H1 (al.take 4) s1 (alOk_of (asc_take al 4 ?_) (fun c hc => hSG c (hasc c hc)) hl.2 (by omega)) (hnd.sublist (List.take_sublist 4 al)) hl.2 hl.1 fun c hc => hSG c (hasc c hc)
    unfold alOk at hok
    rw [Bool.and_eq_true, Bool.and_eq_true] at hok
    exact hok.2.1
theorem ok_lsides {f : Addr} {fd : FuncData} (F : C8.Fun K "_law_sides" "_law_sides" s__law_sides f fd) (T : Txt K mg) (c__law_cut : C8.Cal P w K mg base 2 "_law_cut" sp_cutB []) : FnOk P w K mg base C8.CX0 3 f fd ["made", "alphabet"] sp_lsides := by
  refine C8.fn0 F sc__law_sides (fun vs H Q E h => ?_) (fun cdv A outer s H vs Q E hr h => ?_)
  · obtain ⟨r, pp, tx, us, al, ps, rfl, _⟩ := h; rfl
  · obtain ⟨r, pp, tx, us, al, ps, rfl, hr0, hpp, hps, htx, hprop, hnd, hal, hpl, q⟩ := h
    refine ⟨_, (pss_cons (ps_set (i := 2) sc__law_sides.nd rfl (Or.inl rfl) (pe_lst pa_nil))
      (pss_cons (ps_for PassesOwn.never rfl (pi_list (pe_ix ix_tup (pv 0) pe_int (fun _ _ => rfl))) (pg_name (i := 3) sc__law_sides.nd rfl (Or.inl rfl)) (pss_cons (ps_set (i := 4) sc__law_sides.nd rfl (Or.inl rfl) (pe_lst pa_nil))
      (pss_cons (ps_for PassesOwn.never rfl (pi_range1 rfl T.b_range (pa_cons (pe_callB call_len_seq (by rfl) T.b_len PySem.boot_len (pa_cons (pe_ix ix_tup (pv 0) pe_int (fun _ _ => rfl)) pa_nil)) pa_nil)) (pg_name (i := 5) sc__law_sides.nd rfl (Or.inl rfl)) (pss_cons (ps_set (i := 6) sc__law_sides.nd rfl (Or.inl rfl) (C8.pe_c c__law_cut hr (by first | decide | omega) (by rfl) (pa_cons (pe_ix ix_tup (pv 0) pe_int (fun _ _ => rfl)) (pa_cons (pv 1) (pa_cons (pe_op op_add_str (pv 3) (pe_ix ix_list (pe_ix ix_tup (pv 0) pe_int (fun _ _ => rfl)) (pv 5) (fun _ _ => rfl))) pa_nil)))))
      (pss_one (ps_expr (pe_bm PySem.F.plainAttrs_list PySem.F.slot_list_append PySem.F.type_list_append mt_append (pv 4) (pa_cons (pe_and (pe_cmpR op_eq (pe_callB call_len_seq (by rfl) T.b_len PySem.boot_len (pa_cons (pv 6) pa_nil)) pe_int (nomark _)) (pe_and (pe_cmpR op_eq (pe_ix ix_list (pv 6) pe_int (fun _ _ => rfl)) (pv 5) (nomark _)) (pe_one (pe_cmpR op_eq (pe_ix ix_list (pe_ix ix_tup (pv 0) pe_int (fun _ _ => rfl)) (pe_ix ix_list (pv 6) pe_int (fun _ _ => rfl)) (fun _ _ => rfl)) (pv 3) (nomark _))))) pa_nil))))))
      (pss_one (ps_expr (pe_bm PySem.F.plainAttrs_list PySem.F.slot_list_append PySem.F.type_list_append mt_append (pv 2) (pa_cons (pv 4) pa_nil)))))))
      (pss_one (ps_ret (pv 2))))), ?_⟩
    refine ⟨Nat.zero_le _, fun t ht => ?_⟩
    have s0 := same_new (o := .lst []) ht
    have hTl : (textsOf al ps).length = al.length + ps.length := textsOf_len al ps
    refine ⟨_, rfl, r, _, _, _, rfl, rfl, SqT.of (s0 _ _ hr0), rfl, tx, rfl, ⟨_, SqL.of (s0 _ _ htx)⟩, for_it walk_list (fun i σ H' => ∃ (ws : List V) (v3 v4 v5 v6 : Option V), σ = [some (.ref r), some (.str (S al)), some (.ref t), v3, v4, v5, v6] ∧ Same H H' ∧ H' t = some (.lst ws) ∧ Paired (BlsG t H H') ws ((List.range i).map fun x => (List.range (al.length + ps.length)).map (sideB al ps x)))
      ⟨[], none, none, none, none, rfl, s0, upd_same, .nil⟩ (fun i σ H' _ ⟨_, _, _, _, _, _, s', _⟩ => SqL.of (s' _ _ htx)) ?_ ?_⟩
    · rintro i x σ Ha Hb hi ⟨ws, v3, v4, v5, v6, rfl, sa, hta, hws⟩ ⟨rfl, hx⟩
      obtain ⟨tx0, htx0, rfl⟩ := strV_mem' hx
      have hiN : i < al.length + ps.length := by rw [strV_len, hTl] at hi; exact hi
      have e0 : tx0 = TX al ps i := by rw [TX, List.getD_eq_getElem?_getD, htx0]; rfl
      subst e0
      have hTT : ∀ k, ∀ c ∈ TX al ps k, c ∈ al := fun k c hc => by
        rcases getD_mem_or (ts := textsOf al ps) (i := k) with m | m
        · exact textsOf_al _ m c hc
        · rw [TX, m] at hc; cases hc
      refine ⟨Nat.zero_le _, fun D hD => ?_⟩
      have s1 := Same.new (o := .lst []) sa hD
      have sD := same_new (o := .lst []) hD
      have hDt : D ≠ t := Ne.symm (ne_of_none hta hD)
      refine ⟨_, rfl, r, _, _, _, rfl, rfl, SqT.of (s1 _ _ hr0), rfl, tx, _, rfl, .inl (SqL.of (s1 _ _ htx)), _, rfl, by rw [strV_len, hTl]; omega, by rw [strV_len, hTl]; omega, for_it walk_range (fun k σ H' => ∃ v5 v6 : Option V, σ = [some (.ref r), some (.str (S al)), some (.ref t), some (.str (S (TX al ps i))), some (.ref D), v5, v6] ∧ Same Hb H' ∧ H' D = some (.lst (((List.range k).map (sideB al ps i)).map V.bl)))
        ⟨v5, v6, rfl, sD, upd_same⟩ (fun _ _ _ _ _ => trivial) ?_ ?_⟩
      · rintro k x σ Hc Hd hk ⟨v5, v6, rfl, sc, hDc⟩ ⟨rfl, hx2⟩
        obtain rfl : x = V.int (k : Int) := hx2.trans (congrArg V.int (Int.zero_add _))
        have hkN : k < al.length + ps.length := by rw [strV_len, hTl, Int.toNat_natCast] at hk; exact hk
        have su := sa.trans sc
        have hla : (TX al ps i).length ≤ 40 := getD_short hprop.short i
        have hlb : ((textsOf al ps).getD k []).length ≤ 40 := getD_short hprop.short k
        have hbT := strV_at (ts := textsOf al ps) (i := k) (by rw [hTl]; exact hkN)
        refine ⟨_, rfl, r, _, _, _, rfl, rfl, SqT.of (su _ _ hr0), rfl, _, rfl, _, rfl, _, rfl, r, _, _, _, rfl, rfl, SqT.of (su _ _ hr0), rfl, _, rfl, tx, _, _, _, rfl, rfl, SqL.of (su _ _ htx), atI_nat hbT, S _, S _, rfl, rfl, by rw [S_len, S_len]; exact small_le (by omega), ?_⟩
        rw [S_cat]
        refine ⟨pp, us, ps, al, _, rfl, su _ _ hpp, hps.same (Same.t su), hprop.wf, by omega, by omega, fun c hc => ?_, by rw [List.length_append]; omega, fun He z s3 hzn hz => ?_⟩
        · rcases List.mem_append.mp hc with m | m
          · exact hTT _ _ m
          · exact hTT _ _ m
        have sv := su.trans s3
        have hDe := s3 _ _ hDc
        have fin : ∀ b, b = sideB al ps i k → ∃ (l : Addr) (xs : List V) (y : V), V.ref D = V.ref l ∧ [V.bl b] = [y] ∧ He l = some (.lst xs) ∧ xs.length < sizeLine ∧ ∃ v5 v6 : Option V, [some (V.ref r), some (.str (S al)), some (.ref t), some (.str (S (TX al ps i))), some (.ref D), some (.int (k : Int)), some (.ref z)] = [some (.ref r), some (.str (S al)), some (.ref t), some (.str (S (TX al ps i))), some (.ref D), v5, v6] ∧ Same Hb (upd He l (.lst (xs ++ [y]))) ∧ (upd He l (.lst (xs ++ [y]))) D = some (.lst (((List.range (k + 1)).map (sideB al ps i)).map V.bl)) := fun b hb =>
          ⟨D, _, _, rfl, rfl, hDe, by rw [List.length_map, List.length_map, List.length_range]; exact small1000 (by omega), _, _, rfl, Same.put (sc.trans s3) hD, by rw [upd_same, List.range_succ, List.map_append, List.map_append, hb]; rfl⟩
        refine ⟨_, rfl, .inl ⟨rfl, _, SqL.of hDe⟩, _, rfl, z, _, rfl, .inl (SqL.of hz), rfl, _, rfl, ?_⟩
        rw [iv_len]
        obtain ⟨cl, hcl⟩ : ∃ cl, cl = cutL al.length ps (lets al (TX al ps i ++ (textsOf al ps).getD k [])) := ⟨_, rfl⟩
        have hlt : ∀ x ∈ cl, x < al.length + ps.length := by
          rw [hcl]
          exact cut_lt fun c hc => (List.mem_append.mp hc).elim (hTT _ c) (hTT _ c)
        have hsb : sideB al ps i k = decide (cl = [i, k]) := by rw [hcl]; rfl
        rw [← hcl] at hz ⊢
        by_cases h2 : cl.length = 2
        · rw [decide_eq_true (by rw [h2]; rfl)]
          obtain ⟨c0, c1, rfl⟩ : ∃ c0 c1, cl = [c0, c1] := by
            match cl, h2 with
            | [c0, c1], _ => exact ⟨c0, c1, rfl⟩
          refine iteT ⟨_, rfl, z, _, _, _, rfl, rfl, SqL.of hz, rfl, _, rfl, rfl, _, rfl, ?_⟩
          by_cases h3 : c1 = k
          · subst h3
            rw [decide_eq_true rfl]
            have h0 := hlt c0 (List.mem_cons_self ..)
            refine iteT ⟨_, rfl, r, _, _, _, rfl, rfl, SqT.of (sv _ _ hr0), rfl, _, rfl, z, _, _, _, rfl, rfl, SqL.of hz, rfl, tx, _, _, _, rfl, rfl, SqL.of (sv _ _ htx), atI_nat (strV_at (by rw [hTl]; exact h0)), _, rfl, rfl, ?_⟩
            refine fin _ ?_
            rw [hsb]
            refine decide_eq_decide.mpr ⟨fun e => ?_, fun e => ?_⟩
            · injection e with e
              have e := S_inj e
              have g0 : (textsOf al ps)[c0]? = some ((textsOf al ps).getD c0 []) := by rw [List.getD_eq_getElem?_getD, List.getElem?_eq_getElem (by rw [hTl]; exact h0)]; rfl
              rw [e] at g0
              rw [texts_inj hnd hprop g0 htx0]
            · injection e with e; rw [e]
          · rw [decide_eq_false (fun e => h3 (by injection e with e; omega))]
            refine iteF (fin _ ?_)
            rw [hsb, decide_eq_false (fun e => h3 (by injection e with _ e; injection e))]
        · rw [decide_eq_false (fun e => h2 (by injection e with e; omega))]
          refine iteF (fin _ ?_)
          rw [hsb, decide_eq_false (fun e => h2 (by rw [e]; rfl))]
      · rintro σ He ⟨v5, v6, rfl, sc, hDc⟩
        rw [strV_len, hTl, Int.toNat_natCast] at hDc
        have htc := sc _ _ hta
        have hwl : ws.length = i := by rw [hws.length, List.length_map, List.length_range]
        refine ⟨_, rfl, .inl ⟨rfl, _, SqL.of htc⟩, _, rfl, t, ws, _, rfl, rfl, htc, small1000 (by omega), ws ++ [.ref D], _, _, _, _, rfl, Same.put (sa.trans sc) ht, upd_same, ?_⟩
        rw [List.range_succ, List.map_append]
        exact Paired.snoc ⟨D, rfl, hDt, sa.free hD, (upd_ne hDt).trans hDc⟩ (Paired.mapP hws fun _ _ h => BlsG.put h sc)
    · rintro σ H2 ⟨ws, v3, v4, v5, v6, rfl, sa, hta, hws⟩
      rw [strV_len, hTl] at hws
      exact ⟨_, rfl, q _ t ws sa ht hta (BlsG.fs hws)⟩
end
end RJ
end

section
set_option maxRecDepth 100000
set_option maxHeartbeats 8000000
namespace RJ
open PySem PySem.Spec PyProof.Rows L2
abbrev s__law_texts : Stmt := top 47
abbrev N__law_texts : List Str := ["alphabet", "many", "texts", "k", "more", "text", "sign"]
theorem sc__law_texts : FnScope N__law_texts ["alphabet", "many"] (C8.fnScope s__law_texts) := C8.fnScope_by (by decide +kernel)
def sp_countcuts (C : Addr) : Sp := fun vs H Q _ => ∃ (p : Addr) (m : Nat) (al : List Nat) (ps : List (Nat × Nat)), vs = [.ref p, .int (m : Int)] ∧ JoinsAt C H p al ps ∧ Proper al ps ∧ al.Nodup ∧ 1 ≤ al.length ∧ al.length ≤ 400 ∧ ps.length ≤ 400 ∧ m ≤ 800 ∧
  ∀ H', Same H H' → Q (.int ((w0 (al.length + ps.length) (sideB al ps) m : Nat) : Int)) H'
def sp_counted : Sp := fun vs H Q _ => ∃ (a : Addr) (us : List V) (N m : Nat) (S : Nat → Nat → Bool), vs = [.ref a, .int (m : Int)] ∧ H a = some (.lst us) ∧ BlssAt H us (boolRows N S) ∧ N ≤ 200 ∧ m ≤ 800 ∧
  ∀ H', Same H H' → Q (.int ((w0 N S m : Nat) : Int)) H'
def sp_sums : Sp := fun vs H Q _ => ∃ (a : Addr) (us : List V) (rows : List (List Nat)) (n : Nat), vs = [.ref a, .int (n : Int)] ∧ H a = some (.lst us) ∧ LstsAt H us rows ∧ (∀ r ∈ rows, r.length ≤ n) ∧ n ≤ 900 ∧
  ∀ H' q, Same H H' → H q = none → H' q = some (.lst (iv (sumsAt rows n))) → Q (.ref q) H'
def sp_tbp (C : Addr) : Sp := fun vs H Q _ => ∃ (p : Addr) (m : Nat) (al : List Nat) (ps : List (Nat × Nat)), vs = [.ref p, .int (m : Int)] ∧ JoinsAt C H p al ps ∧ Proper al ps ∧ al.Nodup ∧ 1 ≤ al.length ∧ al.length ≤ 400 ∧ ps.length ≤ 400 ∧ m ≤ 800 ∧
  ∀ H' q, Same H H' → H' q = some (.tup (iv (cnts (al.length + ps.length) (sideB al ps) (lnT al ps) (List.range (al.length + ps.length)) m))) → Q (.ref q) H'
def sp_ltexts : Sp := fun vs H Q _ => ∃ (al : List Nat) (n : Nat), vs = [.str (S al), .int (n : Int)] ∧ 1 ≤ al.length ∧ al.length ≤ 30 ∧ n ≤ 100 ∧ al.length ^ n ≤ 100 ∧
  ∀ H' q, Same H H' → H q = none → H' q = some (.lst (strV (allT al n))) → Q (.ref q) H'
def sp_lbyp : Sp := fun vs H Q _ => ∃ (r pp tx : Addr) (us : List V) (al : List Nat) (ps : List (Nat × Nat)) (n : Nat), vs = [.ref r, .str (S al), .int (n : Int)] ∧ H r = some (.tup [.ref pp, .ref tx]) ∧ H pp = some (.lst us) ∧ PairsAt H us ps ∧ Proper al ps ∧ al.Nodup ∧ 1 ≤ al.length ∧ al.length ≤ 30 ∧ ps.length ≤ 100 ∧ n ≤ 100 ∧ al.length ^ n ≤ 100 ∧
  ∀ H' q, Same H H' → H' q = some (.tup (iv (cnts (al.length + ps.length) (sideB al ps) (lnT al ps) (List.range (al.length + ps.length)) n))) → Q (.ref q) H'
theorem rowW_sum' {N : Nat} {S : Nat → Nat → Bool} {m : Nat} (h : 0 < m) : (rowW N S (m - 1)).sum = w0 N S m := by
  obtain ⟨k, rfl⟩ : ∃ k, m = k + 1 := ⟨m - 1, by omega⟩
  rfl
theorem take_getD (r : List Nat) (j k : Nat) : (r.take j).getD k 0 = if k < j then r.getD k 0 else 0 := by
  rw [List.getD_eq_getElem?_getD, List.getD_eq_getElem?_getD, List.getElem?_take]
  split <;> rfl
theorem set_map {n j c : Nat} {f g : Nat → Nat} (hj : j < n) (h1 : g j = f j + c) (h2 : ∀ k, k ≠ j → g k = f k) : ((List.range n).map f).set j (f j + c) = (List.range n).map g := by
  refine List.ext_getElem? fun k => ?_
  rw [List.getElem?_set, List.length_map, List.length_range, List.getElem?_map, List.getElem?_map]
  by_cases e : j = k
  · subst e
    rw [if_pos rfl, if_pos hj, List.getElem?_range hj, ← h1]; rfl
  · rw [if_neg e]
    cases hk : (List.range n)[k]? with
    | none => rfl
    | some x =>
      have : x = k := by
        obtain ⟨a, b⟩ := List.getElem?_eq_some_iff.mp hk
        rw [List.getElem_range] at b; exact b.symm
      subst this
      show some (f x) = some (g x)
      rw [h2 x (fun z => e z.symm)]
theorem ixN_nat {n j : Nat} (h : j < n) : ixN n (j : Int) = some j := by
  unfold ixN
  rw [if_pos (Int.natCast_nonneg _), if_pos (by omega), Int.toNat_natCast]
theorem iv_set (l : List Nat) (j m : Nat) : (iv l).set j (V.int (m : Int)) = iv (l.set j m) := by unfold iv; rw [List.map_set]
/-- a table: a list of lists of numbers, none of it at t -/
def TabN (N : Nat) (S : Nat → Nat → Bool) (ln : Nat → Nat) (t : Addr) (H : Hp) (v : V) (n : Nat) : Prop := ∃ g vs, v = .ref g ∧ g ≠ t ∧ H g = some (.lst vs) ∧ Paired (LstN t H) vs ((chRows N S).map fun ch => cnts N S ln ch n)
theorem TabN.same {N : Nat} {S : Nat → Nat → Bool} {ln : Nat → Nat} {t : Addr} {H H' : Hp} {v : V} {n : Nat} (h : TabN N S ln t H v n) (s : Same H H') : TabN N S ln t H' v n := by
  obtain ⟨g, vs, e, n1, h1, h2⟩ := h
  exact ⟨g, vs, e, n1, s _ _ h1, Paired.mapP h2 fun _ _ x => LstN.same x s⟩
theorem TabN.put {N : Nat} {S : Nat → Nat → Bool} {ln : Nat → Nat} {t : Addr} {H H' : Hp} {o : HO} {v : V} {n : Nat} (h : TabN N S ln t H v n) (s : Same H H') : TabN N S ln t (upd H' t o) v n := by
  obtain ⟨g, vs, e, n1, h1, h2⟩ := h
  exact ⟨g, vs, e, n1, (upd_ne n1).trans (s _ _ h1), Paired.mapP h2 fun _ _ x => LstN.put x s⟩
theorem LstN.other {t a : Addr} {H : Hp} {o : HO} : ∀ {vs : List V} {rs : List (List Nat)}, Paired (LstN a H) vs rs → (∀ v ∈ vs, v ≠ V.ref t) → Paired (LstN t (upd H t o)) vs rs
  | _, _, .nil, _ => .nil
  | _, _, .cons ⟨q, e, _, h⟩ r, hn => .cons ⟨q, e, fun z => hn _ (List.mem_cons_self ..) (by rw [e, z]), (upd_ne (fun z => hn _ (List.mem_cons_self ..) (by rw [e, z]))).trans h⟩ (LstN.other r fun v hv => hn v (List.mem_cons_of_mem _ hv))
section
variable {P : Program} {w : World} {K : PySem.W.Frag} {mg : Str → Option Value} {base : Heap}
theorem ok_ltexts {f : Addr} {fd : FuncData} (F : C8.Fun K "_law_texts" "_law_texts" s__law_texts f fd) (T : Txt K mg) : FnOk P w K mg base C8.CX0 1 f fd ["alphabet", "many"] sp_ltexts := by
  refine C8.fn0 F sc__law_texts (fun vs H Q E h => ?_) (fun cdv A outer s H vs Q E hr h => ?_)
  · obtain ⟨al, n, rfl, _⟩ := h; rfl
  · obtain ⟨al, n, rfl, h1, h30, hn, hp, q⟩ := h
    have hsz : sizeLine = 16777216 := sizeLine_eq
    have hpow : ∀ k, k ≤ n → (allT al k).length ≤ 100 := fun k hk => by
      rw [allT_len]
      exact Nat.le_trans (Nat.pow_le_pow_right h1 hk) hp
    refine ⟨_, (pss_cons (ps_set (i := 2) sc__law_texts.nd rfl (Or.inl rfl) (pe_lst (pa_cons pe_str pa_nil)))
      (pss_cons (ps_for PassesOwn.never rfl (pi_range1 rfl T.b_range (pa_cons (pv 1) pa_nil)) (pg_name (i := 3) sc__law_texts.nd rfl (Or.inl rfl)) (pss_cons (ps_set (i := 4) sc__law_texts.nd rfl (Or.inl rfl) (pe_lst pa_nil))
      (pss_cons (ps_for PassesOwn.never rfl (pi_list (pe_callTy call_list_of (by rfl) T.b_list (by decide +kernel) (pa_cons (pv 2) pa_nil))) (pg_name (i := 5) sc__law_texts.nd rfl (Or.inr rfl)) (pss_one (ps_expr (pe_bm PySem.F.plainAttrs_list PySem.F.slot_list_extend PySem.F.type_list_extend mt_extend (pv 4) (pa_cons (pe_lc (own := [("sign", 6)]) (g := gName 6) (tt := tYes) rfl sc__law_texts.nd (pi_str (pv 0)) (blkOk_by (N := N__law_texts) (sc := C8.fnScope s__law_texts) (by decide +kernel)) (fun _ _ _ _ _ => (pg_name (i := 6) sc__law_texts.nd rfl (Or.inl rfl))) (fun _ _ _ _ _ => pts_nil) (fun _ _ _ _ _ => (pe_op op_add_str (pv 5) (pv 6)))) pa_nil)))))
      (pss_one (ps_set (i := 2) sc__law_texts.nd rfl (Or.inl rfl) (pv 4))))))
      (pss_one (ps_ret (pv 2))))), ?_⟩
    refine ⟨by show 1 ≤ sizeLine; omega, fun T0 hT0 => ?_⟩
    refine ⟨_, rfl, _, rfl, by omega, by omega, for_it walk_range (fun i σ H' => ∃ (T : Addr) (v3 v4 v5 : Option V), σ = [some (.str (S al)), some (.int (n : Int)), some (.ref T), v3, v4, v5, none] ∧ Same H H' ∧ H T = none ∧ H' T = some (.lst (strV (allT al i))))
      ⟨T0, none, none, none, rfl, same_new hT0, hT0, upd_same⟩ (fun _ _ _ _ _ => trivial) ?_ ?_⟩
    · rintro i x σ Ha Hb hi ⟨T, v3, v4, v5, rfl, sa, hTn, hT⟩ ⟨rfl, hx⟩
      have hin : i < n := by simpa using hi
      have hal1 := hpow i (by omega)
      have hal2 := hpow (i + 1) (by omega)
      refine ⟨Nat.zero_le _, fun M hM => ?_⟩
      have sM := same_new (o := .lst []) hM
      refine ⟨_, rfl, T, _, rfl, .inl (SqL.of (sM _ _ hT)), fun L hL => ?_⟩
      have sL := same_new (o := .lst (strV (allT al i))) hL
      have hML : (upd (upd Hb M (.lst [])) L (.lst (strV (allT al i)))) M = some (.lst []) := sL _ _ upd_same
      have nLM : L ≠ M := Ne.symm (ne_of_none upd_same hL)
      have sB := sM.trans sL
      have fL : (upd (upd Hb M (.lst [])) L (.lst (strV (allT al i)))) L = some (.lst (strV (allT al i))) := upd_same
      generalize upd (upd Hb M (.lst [])) L (.lst (strV (allT al i))) = G1 at hML sB fL ⊢
      refine ⟨L, rfl, ⟨_, SqL.of fL⟩, for_it walk_list (fun j σ H' => ∃ v5 : Option V, σ = [some (.str (S al)), some (.int (n : Int)), some (.ref T), some x, some (.ref M), v5, none] ∧ SameX M G1 H' ∧ H' M = some (.lst (strV (((allT al i).take j).flatMap fun t => al.map fun c => t ++ [c]))))
        ⟨v5, rfl, Same.x (Same.refl _), hML⟩ (fun j σ H' _ ⟨_, _, s', _⟩ => SqL.of (s' _ _ nLM fL)) ?_ ?_⟩
      · rintro j y σ Hc Hd hj ⟨v5, rfl, sc, hMc⟩ ⟨rfl, hx2⟩
        obtain ⟨t, ht, rfl⟩ := strV_mem' hx2
        have htl : t.length = i := (allT_mem.mp (List.mem_of_getElem? ht)).1
        refine ⟨_, rfl, .inl ⟨rfl, _, SqL.of hMc⟩, _, rfl, S al, rfl, fun D hD => lc_it walk_str (fun k H' => Same Hd H' ∧ H' D = some (.lst (strV ((al.take k).map fun c => t ++ [c])))) ⟨same_new hD, upd_same⟩ (fun _ _ _ _ => trivial) ?_ ?_⟩
        · rintro k z He Hf hk ⟨se, he⟩ ⟨rfl, c, hc, rfl⟩
          rw [S_get] at hc
          rw [str1]
          refine ⟨rfl, _, rfl, _, rfl, S _, S _, rfl, rfl, by rw [S_len, S_len]; show t.length + 1 ≤ sizeLine; omega, ?_⟩
          rw [S_cat]
          refine ⟨_, he, ?_, Same.put se hD, ?_⟩
          · rw [strV_len, List.length_map, List.length_take]; omega
          · rw [upd_same, take_succ_of hc, List.map_append, strV_snoc]; rfl
        · rintro He ⟨se, he⟩
          rw [S_size, List.take_length] at he
          have hMe := se _ _ hMc
          have hflat : ∀ m, (((allT al i).take m).flatMap fun t => al.map fun c => t ++ [c]).length ≤ 100 := fun m => by
            have e0 : (((allT al i).take m).flatMap fun t => al.map fun c => t ++ [c]).length ≤ (allT al (i + 1)).length := by
              rw [show allT al (i + 1) = (allT al i).flatMap fun t => al.map fun c => t ++ [c] from rfl]
              conv => rhs; rw [← List.take_append_drop m (allT al i), List.flatMap_append, List.length_append]
              exact Nat.le_add_right _ _
            omega
          refine ⟨M, D, _, _, rfl, rfl, hMe, he, by rw [strV_len, strV_len, List.length_map]; have := hflat j; omega, _, rfl, ?_, ?_⟩
          · exact fun b o hb e => (upd_ne hb).trans (se _ _ (sc b o hb e))
          · rw [upd_same, take_succ_of ht, List.flatMap_append]
            show some (HO.lst (strV _ ++ strV _)) = some (HO.lst (strV _))
            unfold strV
            rw [← List.map_append, List.flatMap_cons, List.flatMap_nil, List.append_nil]
      · rintro σ He ⟨v5, rfl, sc, hMc⟩
        rw [strV_len, List.take_length] at hMc
        have hM0 : H M = none := sa.free hM
        refine ⟨_, rfl, M, _, _, _, rfl, ?_, hM0, hMc⟩
        exact fun b o e => sc b o (ne_of_none e hM0) (sB _ _ (sa _ _ e))
    · rintro σ H2 ⟨T, v3, v4, v5, rfl, sa, hTn, hT⟩
      rw [Int.toNat_natCast] at hT
      exact ⟨_, rfl, q _ T sa hTn hT⟩
end
end RJ
end

section
set_option maxRecDepth 100000
set_option maxHeartbeats 8000000
namespace RJ
open PySem PySem.Spec PyProof.Rows L2
open PySem.W (minD AlikeAll alike alikeAll dataLt)
/-! ### as data -/
def pdW (x : WT) : PyData := .tuple [.int x.1, .str (S x.2)]
theorem pdW_inj {x y : WT} (h : pdW x = pdW y) : x = y := by
  obtain ⟨a, b⟩ := x
  obtain ⟨c, d⟩ := y
  injection h with h
  injection h with h1 h2
  injection h1 with h1
  injection h2 with h2 _
  injection h2 with h2
  have : b = d := by
    have := congrArg (fun s : Str => s.cps.toList) h2
    simpa [S] using this
  rw [show a = c from h1, this]
theorem pdW_lt (x y : WT) : dataLt (pdW x) (pdW y) = decide (ltW x y) := by
  have h := PySem.W.dataLt_pair (x := .int x.1) (y := .str (S x.2)) (x' := .int y.1) (y' := .str (S y.2)) (by simp [alike]) (by simp [alike])
  refine (show dataLt (pdW x) (pdW y) = _ from h).trans ?_
  by_cases e : x.1 = y.1
  · have e1 : PyData.eqv (.int x.1) (.int y.1) = true := by rw [PyData.eqv]; exact beq_iff_eq.mpr e
    rw [if_pos e1]
    have e3 : dataLt (.str (S x.2)) (.str (S y.2)) = decide (x.2 < y.2) := by
      exact PySem.W.dataLt_str _ _
    by_cases e2 : PyData.eqv (.str (S x.2)) (.str (S y.2)) = true
    · rw [if_pos e2]
      have : x.2 = y.2 := by
        rw [PyData.eqv] at e2
        have := congrArg (fun s : Str => s.cps.toList) (eq_of_beq e2)
        simpa [S] using this
      refine (decide_eq_false fun z => ?_).symm
      rcases z with z | ⟨_, z⟩
      · omega
      · rw [this] at z; exact List.lt_irrefl _ z
    · rw [if_neg e2, e3]
      refine decide_eq_decide.mpr ⟨fun z => .inr ⟨e, z⟩, fun z => ?_⟩
      rcases z with z | ⟨_, z⟩
      · omega
      · exact z
  · have e1 : PyData.eqv (.int x.1) (.int y.1) = false := by rw [PyData.eqv]; exact beq_eq_false_iff_ne.mpr e
    rw [e1, if_neg Bool.false_ne_true, PySem.W.dataLt_int]
    refine decide_eq_decide.mpr ⟨fun z => .inl z, fun z => ?_⟩
    rcases z with z | ⟨z, _⟩
    · exact z
    · exact absurd z e
theorem minW : ∀ (ys : List WT) (y : WT), ∃ m, minD (pdW y) (ys.map pdW) = pdW m ∧ m ∈ y :: ys ∧ ∀ z ∈ y :: ys, ¬ ltW z m
  | [], y => ⟨y, rfl, List.mem_cons_self .., fun z hz => by rw [List.mem_singleton.mp hz]; exact ltW_irrefl y⟩
  | x :: ys, y => by
    have e : minD (pdW y) ((x :: ys).map pdW) = minD (pdW (if ltW x y then x else y)) (ys.map pdW) := by
      show minD (if dataLt (pdW x) (pdW y) = true then pdW x else pdW y) (ys.map pdW) = _
      rw [pdW_lt]
      by_cases c : ltW x y
      · rw [if_pos (decide_eq_true c), if_pos c]
      · rw [if_neg (by rw [decide_eq_false c]; exact Bool.false_ne_true), if_neg c]
    obtain ⟨m, h1, h2, h3⟩ := minW ys (if ltW x y then x else y)
    refine ⟨m, e.trans h1, ?_, fun z hz => ?_⟩
    · rcases List.mem_cons.mp h2 with h | h
      · rw [h]
        by_cases c : ltW x y
        · rw [if_pos c]; exact List.mem_cons_of_mem _ (List.mem_cons_self ..)
        · rw [if_neg c]; exact List.mem_cons_self ..
      · exact List.mem_cons_of_mem _ (List.mem_cons_of_mem _ h)
    · have h0 := h3 _ (List.mem_cons_self ..)
      intro zm
      by_cases c : ltW x y
      · rw [if_pos c] at h0
        rcases List.mem_cons.mp hz with h | h
        · subst h
          exact h0 (ltW_trans c zm)
        · rcases List.mem_cons.mp h with h | h
          · subst h; exact h0 zm
          · exact h3 z (List.mem_cons_of_mem _ h) zm
      · rw [if_neg c] at h0
        rcases List.mem_cons.mp hz with h | h
        · subst h; exact h0 zm
        · rcases List.mem_cons.mp h with h | h
          · subst h; exact c (ltW_of zm h0)
          · exact h3 z (List.mem_cons_of_mem _ h) zm
/-- a (number, text) on the heap -/
def WtAt (H : Hp) (v : V) (x : WT) : Prop := ∃ q, v = .ref q ∧ H q = some (.tup [.int x.1, .str (S x.2)])
theorem WtAt.same {H H' : Hp} {v : V} {x : WT} (h : WtAt H v x) (s : Same H H') : WtAt H' v x := by
  obtain ⟨q, e, h⟩ := h
  exact ⟨q, e, s _ _ h⟩
theorem WtAt.put {H : Hp} {v : V} {x : WT} {t : Addr} {l : List V} {o : HO} (h : WtAt H v x) (ht : H t = some (.lst l)) : WtAt (upd H t o) v x := by
  obtain ⟨q, e, h⟩ := h
  exact ⟨q, e, (upd_ne (fun z => by rw [z, ht] at h; cases h)).trans h⟩
theorem wts_dp {K : PySem.W.Frag} {H : Hp} : ∀ {xs : List V} {l : List WT}, Paired (WtAt H) xs l → DpAll K H xs (l.map pdW)
  | _, _, .nil => .nil
  | _, _, .cons ⟨q, e, h⟩ r => by
    subst e
    exact .cons (.tup (SqT.of h) (.cons (.int _) (.cons (.str _) .nil))) (wts_dp r)
theorem wts_alike (l : List WT) : AlikeAll (l.map pdW) := by
  refine ⟨fun x hx y hy => ?_, fun x hx e => ?_⟩
  · obtain ⟨a, _, rfl⟩ := List.mem_map.mp hx
    obtain ⟨b, _, rfl⟩ := List.mem_map.mp hy
    simp [pdW, alike, alikeAll]
  · obtain ⟨a, _, rfl⟩ := List.mem_map.mp hx
    cases e
theorem wts_depth : ∀ l : List WT, PyData.depthAll (l.map pdW) ≤ 60
  | [] => by simp [PyData.depthAll]
  | t :: l => by
    have ih := wts_depth l
    rw [List.map_cons, PyData.depthAll]
    refine Nat.max_le.mpr ⟨?_, ih⟩
    simp [pdW, PyData.depth, PyData.depthAll]
theorem minD_wt {H : Hp} {xs : List V} {l : List WT} {d : PyData} {ds : List PyData} {i : Nat} {x : V} (hp : Paired (WtAt H) xs l) (e : l.map pdW = d :: ds) (hx : xs[i]? = some x) (hi : (l.map pdW)[i]? = some (minD d ds)) : ∃ m, LeastO l (some m) ∧ WtAt H x m := by
  cases l with
  | nil => cases e
  | cons y ys =>
    rw [List.map_cons] at e
    injection e with e1 e2
    subst e1; subst e2
    obtain ⟨m, k1, k2, k3⟩ := minW ys y
    rw [k1] at hi
    obtain ⟨z, hz, hw⟩ := Paired.at hp hx
    rw [List.getElem?_map, hz] at hi
    have : z = m := pdW_inj (Option.some.inj hi)
    subst this
    exact ⟨z, ⟨k2, k3⟩, hw⟩
theorem rMinD_wt {K : PySem.W.Frag} {H : Hp} {a : Addr} {xs : List V} {l : List WT} {Q : VK} (ha : H a = some (.lst xs)) (hp : Paired (WtAt H) xs l) (h0 : l = [] → Q .non H) (h1 : ∀ m x, LeastO l (some m) → WtAt H x m → Q x H) : rMinD K [V.ref a] [V.non] H Q := by
  refine ⟨a, xs, l.map pdW, rfl, rfl, ha, wts_dp hp, wts_alike l, wts_depth l, fun e => h0 (List.map_eq_nil_iff.mp e), fun d ds i x e hx hi => ?_⟩
  cases l with
  | nil => cases e
  | cons y ys =>
    rw [List.map_cons] at e
    injection e with e1 e2
    subst e1; subst e2
    obtain ⟨m, k1, k2, k3⟩ := minW ys y
    rw [k1] at hi
    obtain ⟨z, hz, hw⟩ := Paired.at hp hx
    rw [List.getElem?_map, hz] at hi
    have : z = m := pdW_inj (Option.some.inj hi)
    subst this
    exact h1 z x ⟨k2, k3⟩ hw
theorem rMinL_wt {K : PySem.W.Frag} {H : Hp} {a : Addr} {xs : List V} {l : List WT} {Q : VK} (ha : H a = some (.lst xs)) (hp : Paired (WtAt H) xs l) (hne : l ≠ []) (h1 : ∀ m x, LeastO l (some m) → WtAt H x m → Q x H) : rMinL K [V.ref a] H Q := by
  cases l with
  | nil => exact absurd rfl hne
  | cons y ys =>
    refine ⟨a, xs, pdW y, ys.map pdW, rfl, ha, wts_dp hp, wts_alike (y :: ys), wts_depth (y :: ys), fun i x hx hi => ?_⟩
    obtain ⟨m, k1, k2, k3⟩ := minW ys y
    rw [k1] at hi
    obtain ⟨z, hz, hw⟩ := Paired.at hp hx
    have hi' : ((y :: ys).map pdW)[i]? = some (pdW m) := hi
    rw [List.getElem?_map, hz] at hi'
    have : z = m := pdW_inj (Option.some.inj hi')
    subst this
    exact h1 z x ⟨k2, k3⟩ hw
end RJ
end

section
set_option maxRecDepth 100000
set_option maxHeartbeats 8000000
namespace RJ
open PySem PySem.Spec PyProof.Rows L2
abbrev s_lowest_worth : Stmt := top 12
abbrev N_lowest_worth : List Str := ["joins", "many", "worth", "behind", "texts", "tables", "letters", "table", "choices", "fitting", "rests", "found", "piece", "_", "rest"]
theorem sc_lowest_worth : FnScope N_lowest_worth ["joins", "many", "worth"] (C8.fnScope s_lowest_worth) := C8.fnScope_by (by decide +kernel)
abbrev s_fewest : Stmt := top 10
abbrev N_fewest : List Str := ["joins", "many"]
theorem sc_fewest : FnScope N_fewest ["joins", "many"] (C8.fnScope s_fewest) := C8.fnScope_by (by decide +kernel)
abbrev s_most : Stmt := top 11
abbrev N_most : List Str := ["joins", "many", "worth", "text"]
theorem sc_most : FnScope N_most ["joins", "many"] (C8.fnScope s_most) := C8.fnScope_by (by decide +kernel)
/-- a (number, text), or None -/
def WtO (H : Hp) (v : V) : Option WT → Prop
  | none => v = .non
  | some x => WtAt H v x
theorem WtO.same {H H' : Hp} {v : V} {o : Option WT} (h : WtO H v o) (s : Same H H') : WtO H' v o := by
  cases o with
  | none => exact h
  | some x => exact WtAt.same h s
theorem WtO.put {H : Hp} {v : V} {o : Option WT} {t : Addr} {l : List V} {ob : HO} (h : WtO H v o) (ht : H t = some (.lst l)) : WtO (upd H t ob) v o := by
  cases o with
  | none => exact h
  | some x => exact WtAt.put h ht
def TabO (N : Nat) (S : Nat → Nat → Bool) (tx : Nat → List Nat) (w : Int) (t : Addr) (H : Hp) (v : V) (n : Nat) : Prop := ∃ g vs, v = .ref g ∧ g ≠ t ∧ H g = some (.lst vs) ∧ Paired (WtO H) vs ((chRows N S).map fun ch => bB N S tx w ch n)
theorem TabO.same {N : Nat} {S : Nat → Nat → Bool} {tx : Nat → List Nat} {w : Int} {t : Addr} {H H' : Hp} {v : V} {n : Nat} (h : TabO N S tx w t H v n) (s : Same H H') : TabO N S tx w t H' v n := by
  obtain ⟨g, vs, e, n1, h1, h2⟩ := h
  exact ⟨g, vs, e, n1, s _ _ h1, Paired.mapP h2 fun _ _ x => WtO.same x s⟩
theorem TabO.put {N : Nat} {S : Nat → Nat → Bool} {tx : Nat → List Nat} {w : Int} {t : Addr} {H : Hp} {o : HO} {v : V} {n : Nat} {l : List V} (h : TabO N S tx w t H v n) (ht : H t = some (.lst l)) : TabO N S tx w t (upd H t o) v n := by
  obtain ⟨g, vs, e, n1, h1, h2⟩ := h
  exact ⟨g, vs, e, n1, (upd_ne n1).trans h1, Paired.mapP h2 fun _ _ x => WtO.put x ht⟩
def RestAt (N : Nat) (S : Nat → Nat → Bool) (tx : Nat → List Nat) (w : Int) (n : Nat) (H : Hp) (v : V) (p : Nat) : Prop := ∃ q rv, v = .ref q ∧ H q = some (.tup [.int (p : Int), rv]) ∧ WtO H rv (bB N S tx w (chs N S p) (n - (tx p).length))
theorem RestAt.same {N : Nat} {S : Nat → Nat → Bool} {tx : Nat → List Nat} {w : Int} {n : Nat} {H H' : Hp} {v : V} {p : Nat} (h : RestAt N S tx w n H v p) (s : Same H H') : RestAt N S tx w n H' v p := by
  obtain ⟨q, rv, e, h1, h2⟩ := h
  exact ⟨q, rv, e, s _ _ h1, WtO.same h2 s⟩
theorem RestAt.put {N : Nat} {S : Nat → Nat → Bool} {tx : Nat → List Nat} {w : Int} {n : Nat} {H : Hp} {v : V} {p : Nat} {t : Addr} {l : List V} {o : HO} (h : RestAt N S tx w n H v p) (ht : H t = some (.lst l)) : RestAt N S tx w n (upd H t o) v p := by
  obtain ⟨q, rv, e, h1, h2⟩ := h
  exact ⟨q, rv, e, (upd_ne (fun z => by rw [z, ht] at h1; cases h1)).trans h1, WtO.put h2 ht⟩
def TXf (al : List Nat) (ps : List (Nat × Nat)) : Nat → List Nat := fun p => (textsOf al ps).getD p []
def sp_lowest (C : Addr) : Sp := fun vs H Q _ => ∃ (p : Addr) (m : Nat) (w : Int) (al : List Nat) (ps : List (Nat × Nat)), vs = [.ref p, .int (m : Int), .int w] ∧ JoinsAt C H p al ps ∧ Proper al ps ∧ al.Nodup ∧ 1 ≤ al.length ∧ al.length ≤ 400 ∧ ps.length ≤ 400 ∧ m ≤ 800 ∧
  ∀ H' q x, Same H H' → Best (InB (al.length + ps.length) (sideB al ps) (TXf al ps) w (List.range (al.length + ps.length)) m) x → H' q = some (.tup [.int x.1, .str (S x.2)]) → Q (.ref q) H'
section
variable {P : Program} {w : World} {K : PySem.W.Frag} {mg : Str → Option Value} {base : Heap}
theorem ok_lowest {f C : Addr} {fd : FuncData} (F : C8.Fun K "lowest_worth" "lowest_worth" s_lowest_worth f fd) (T : Txt K mg) (J : JTxt K C) (p_pieces : PrpC P w K mg base 1 C "pieces" (sp_pieces C)) (m_text_of : C8.Met P w K mg base 5 C "text_of" (sp_text_of C) []) (c_choices_behind : C8.Cal P w K mg base 9 "choices_behind" (sp_choices C) []) :
    FnOk P w K mg base C8.CX0 10 f fd ["joins", "many", "worth"] (sp_lowest C) := by
  refine C8.fn0 F sc_lowest_worth (fun vs H Q E h => ?_) (fun cdv A outer s H vs Q E hr h => ?_)
  · obtain ⟨p, m, w, al, ps, rfl, _⟩ := h; rfl
  · obtain ⟨p, m, w, al, ps, rfl, hj, hprop, hnd, hal1, hal, hpl, hm, q⟩ := h
    have hu64 := hu64_of hr
    have ins : ∀ H', JoinsAt C H' p al ps → ∃ dx fs, H' p = some (.ins C dx fs) ∧ fs.lookup ("text_of" : Str) = none := fun H' hj' => by
      obtain ⟨dx, t, tx, d, e, ws, h1, _⟩ := hj'
      exact ⟨dx, _, h1, f5_no al t tx d e (by decide +kernel) (by decide +kernel) (by decide +kernel) (by decide +kernel) (by decide +kernel)⟩
    have hpos : ∀ p, p < al.length + ps.length → 1 ≤ (TXf al ps p).length := ln_pos hnd hprop
    have hsh : ∀ i, (TXf al ps i).length ≤ 40 := fun i => getD_short hprop.short i
    refine ⟨_, (pss_cons (ps_set (i := 3) sc_lowest_worth.nd rfl (Or.inl rfl) (C8.pe_c c_choices_behind hr (by first | decide | omega) (by rfl) (pa_cons (pv 0) pa_nil)))
      (pss_cons (ps_set (i := 4) sc_lowest_worth.nd rfl (Or.inr rfl) (pe_lc (own := [("piece", 12)]) (g := gName 12) (tt := tYes) rfl sc_lowest_worth.nd (pi_range1 rfl T.b_range (pa_cons (pe_prp p_pieces hr (by first | decide | omega) (pv 0)) pa_nil)) (blkOk_by (N := N_lowest_worth) (sc := C8.fnScope s_lowest_worth) (by decide +kernel)) (fun _ _ _ _ _ => (pg_name (i := 12) sc_lowest_worth.nd rfl (Or.inl rfl))) (fun _ _ _ _ _ => pts_nil) (fun _ _ _ _ _ => (C8.pe_mt m_text_of hr (by first | decide | omega) (pv 0) (pa_cons (pv 12) pa_nil)))))
      (pss_cons (ps_set (i := 5) sc_lowest_worth.nd rfl (Or.inr rfl) (pe_lst (pa_cons (pe_lc (own := [("_", 13)]) (g := gName 13) (tt := tYes) rfl sc_lowest_worth.nd (pi_tup (pv 3)) (blkOk_by (N := N_lowest_worth) (sc := C8.fnScope s_lowest_worth) (by decide +kernel)) (fun _ _ _ _ _ => (pg_name (i := 13) sc_lowest_worth.nd rfl (Or.inl rfl))) (fun _ _ _ _ _ => pts_nil) (fun _ _ _ _ _ => (pe_tup (pa_cons pe_int (pa_cons pe_str pa_nil))))) pa_nil)))
      (pss_cons (ps_for PassesOwn.never rfl (pi_range2 rfl T.b_range (pa_cons pe_int (pa_cons (pe_op op_add (pv 1) pe_int) pa_nil))) (pg_name (i := 6) sc_lowest_worth.nd rfl (Or.inr rfl)) (pss_cons (ps_set (i := 7) sc_lowest_worth.nd rfl (Or.inl rfl) (pe_lst pa_nil))
      (pss_cons (ps_for PassesOwn.never rfl (pi_tup (pv 3)) (pg_name (i := 8) sc_lowest_worth.nd rfl (Or.inl rfl)) (pss_cons (ps_setLc (own := [("piece", 12)]) (i := 9) (g := gName 12)  rfl sc_lowest_worth.nd rfl rfl (sw_true rfl rfl rfl (by decide +kernel)) (pi_tup (pv 8)) (blkOk_by (N := N_lowest_worth) (sc := C8.fnScope s_lowest_worth) (by decide +kernel)) (fun _ _ _ _ _ => (pg_name (i := 12) sc_lowest_worth.nd rfl (Or.inl rfl))) (fun _ _ _ _ _ => pts_one (pt_cmpR op_le (pe_callB call_len_str (by rfl) T.b_len PySem.boot_len (pa_cons (pe_ix (ix_listK (K := K) rfl) (pv 4) (pv 12) (fun _ _ => rfl)) pa_nil)) (pv 6) (nomark _))) (fun _ _ _ _ _ => (pv 12)))
      (pss_cons (ps_setLc (own := [("piece", 12)]) (i := 10) (g := gName 12) (tt := tYes) rfl sc_lowest_worth.nd rfl rfl (sw_true rfl rfl rfl (by decide +kernel)) (pi_list (pv 9)) (blkOk_by (N := N_lowest_worth) (sc := C8.fnScope s_lowest_worth) (by decide +kernel)) (fun _ _ _ _ _ => (pg_name (i := 12) sc_lowest_worth.nd rfl (Or.inl rfl))) (fun _ _ _ _ _ => pts_nil) (fun _ _ _ _ _ => (pe_tup (pa_cons (pv 12) (pa_cons (pe_ix (ix_listK (K := K) rfl) (pe_ix (ix_listK (K := K) rfl) (pv 5) (pe_op op_sub (pv 6) (pe_callB call_len_str (by rfl) T.b_len PySem.boot_len (pa_cons (pe_ix (ix_listK (K := K) rfl) (pv 4) (pv 12) (fun _ _ => rfl)) pa_nil))) (fun _ _ => rfl)) (pv 12) (fun _ _ => rfl)) pa_nil)))))
      (pss_cons (ps_setLc (own := [("piece", 12), ("rest", 14)]) (i := 11) (g := gTup K 2 (gCons (gName 12) (gCons (gName 14) (gNil))))  rfl sc_lowest_worth.nd rfl rfl (sw_true rfl rfl rfl (by decide +kernel)) (pi_list (pv 10)) (blkOk_by (N := N_lowest_worth) (sc := C8.fnScope s_lowest_worth) (by decide +kernel)) (fun _ _ _ _ _ => (pg_tup rfl (pgs_cons (pg_name (i := 12) sc_lowest_worth.nd rfl (Or.inl rfl)) (pgs_cons (pg_name (i := 14) sc_lowest_worth.nd rfl (Or.inl rfl)) pgs_nil)))) (fun _ _ _ _ _ => pts_one (pt_cmpR op_notN (pv 14) pe_non (nomark _))) (fun _ _ _ _ _ => (pe_tup (pa_cons (pe_op op_add (pv 2) (pe_ix (ix_tupK (K := K) rfl) (pv 14) pe_int (fun _ _ => rfl))) (pa_cons (pe_op op_add_str (pe_ix (ix_listK (K := K) rfl) (pv 4) (pv 12) (fun _ _ => rfl)) (pe_ix (ix_tupK (K := K) rfl) (pv 14) pe_int (fun _ _ => rfl))) pa_nil)))))
      (pss_one (ps_expr (pe_bm PySem.F.plainAttrs_list PySem.F.slot_list_append PySem.F.type_list_append mt_append (pv 7) (pa_cons (pe_callBK (cr_minD rfl hu64) (by rfl) T.b_min (by decide +kernel) (pa_cons (pv 11) pa_nil) (pk_cons pe_non pk_nil)) pa_nil))))))))
      (pss_one (ps_expr (pe_bm PySem.F.plainAttrs_list PySem.F.slot_list_append PySem.F.type_list_append mt_append (pv 5) (pa_cons (pv 7) pa_nil)))))))
      (pss_one (ps_ret (pe_ix ix_list (pe_ix ix_list (pv 5) (pv 1) (fun _ _ => rfl)) (pe_un un_neg pe_int) (fun _ _ => rfl)))))))), ?_⟩
    refine ⟨_, rfl, p, al, ps, rfl, hj, hprop, hnd, hal1, hal, hpl, fun H1 bq us s1 hbq hus => ?_⟩
    obtain ⟨N, hN⟩ : ∃ N, N = al.length + ps.length := ⟨_, rfl⟩
    rw [← hN] at q hus hpos
    have hul : us.length = N + 1 := by rw [hus.length, chRows_len]
    -- texts
    have hj1 := hj.same s1
    obtain ⟨dx1, fs1, i1, _⟩ := ins _ hj1
    refine ⟨_, rfl, p, dx1, fs1, rfl, i1, p, al, ps, rfl, hj1, ?_⟩
    rw [← hN]
    refine ⟨_, rfl, by omega, by omega, fun D hD => lc_it walk_range (fun i H' => Same H1 H' ∧ H' D = some (.lst (strV ((List.range i).map (TXf al ps))))) ⟨same_new hD, upd_same⟩ (fun _ _ _ _ => trivial) ?_ ?_⟩
    · rintro i x Ha Hb hi ⟨sa, hb⟩ ⟨rfl, hx⟩
      obtain rfl : x = V.int (i : Int) := hx.trans (congrArg V.int (Int.zero_add _))
      have hiN : i < N := by simpa using hi
      have hja := hj1.same sa
      obtain ⟨dx2, fs2, i2, i3⟩ := ins _ hja
      refine ⟨rfl, _, rfl, p, dx2, fs2, rfl, i2, i3, _, rfl, p, i, al, ps, rfl, hja, by rw [← hN]; exact hiN, _, hb, by rw [strV_len, List.length_map, List.length_range]; exact small1000 (by omega), Same.put sa hD, ?_⟩
      rw [upd_same, List.range_succ, List.map_append]
      unfold strV
      rw [List.map_append]; rfl
    rintro H2 ⟨s2, hD2⟩
    rw [Int.toNat_natCast] at hD2
    have hus2 := hus.same s2
    have hbq2 := s2 _ _ hbq
    obtain ⟨Sd, hS⟩ : ∃ Sd, Sd = sideB al ps := ⟨_, rfl⟩
    obtain ⟨tx, htx⟩ : ∃ tx, tx = TXf al ps := ⟨_, rfl⟩
    rw [← hS, ← htx] at q
    rw [← hS] at hus2
    rw [← htx] at hpos hD2 hsh
    -- the first table
    refine ⟨_, rfl, bq, rfl, ⟨_, SqT.of hbq2⟩, fun D0 hD0 => lc_it walk_tup (fun i H' => Same H2 H' ∧ ∃ vs, H' D0 = some (.lst vs) ∧ Paired (WtO H') vs (((chRows N Sd).take i).map fun ch => bB N Sd tx w ch 0)) ⟨same_new hD0, [], upd_same, .nil⟩ (fun i H' _ ⟨s', _⟩ => SqT.of (s' _ _ hbq2)) ?_ ?_⟩
    · rintro i x Ha Hb hi ⟨sa, vs, hb, hvs⟩ ⟨rfl, hx⟩
      obtain ⟨ch, hch, _⟩ := Paired.at hus2 hx
      have hvl : vs.length = i := by rw [hvs.length, List.length_map, List.length_take, chRows_len]; omega
      refine ⟨rfl, by show 2 ≤ sizeLine; decide, fun E1 hE1 => ?_⟩
      have sE := same_new (o := .tup [.int 0, .str (Str.ofString "")]) hE1
      have hbE := sE _ _ hb
      refine ⟨vs, hbE, small1000 (by omega), Same.put (sa.trans sE) hD0, vs ++ [.ref E1], upd_same, ?_⟩
      rw [take_succ_of hch, List.map_append]
      refine Paired.snoc ?_ (Paired.mapP hvs fun _ _ h => WtO.put (WtO.same h sE) hbE)
      show WtO _ _ (bB N Sd tx w ch 0)
      rw [bB_zero hpos (chRows_lt (List.mem_of_getElem? hch))]
      exact WtAt.put (x := (0, [])) ⟨E1, rfl, upd_same⟩ hbE
    rintro H3 ⟨s3, vs0, hD03, hvs0⟩
    rw [hul, List.take_of_length_le (by rw [chRows_len]; exact Nat.le_refl _)] at hvs0
    refine ⟨by show 1 ≤ sizeLine; decide, fun t ht => ?_⟩
    have s4 := Same.new (o := .lst [.ref D0]) s3 ht
    have ht2 : H2 t = none := s3.free ht
    have nD : D ≠ t := ne_of_none (s3 _ _ hD2) ht
    have n0 : D0 ≠ t := ne_of_none hD03 ht
    have hm1 : ((1 + (m : Int) - 1).toNat) = m := by omega
    refine ⟨_, rfl, _, _, rfl, rfl, _, _, rfl, ⟨by decide, by decide, by omega, by omega⟩, for_it walk_range (fun i σ H' => ∃ (ts : List V) (v6 v7 v8 v9 v10 v11 : Option V), σ = [some (.ref p), some (.int (m : Int)), some (.int w), some (.ref bq), some (.ref D), some (.ref t), v6, v7, v8, v9, v10, v11, none, none, none] ∧ Same H2 H' ∧ H' t = some (.lst ts) ∧ Paired (TabO N Sd tx w t H') ts (List.range (i + 1)))
      ⟨[.ref D0], none, none, none, none, none, none, rfl, s4, upd_same, .cons ⟨D0, vs0, rfl, n0, (same_new ht) _ _ hD03, Paired.mapP hvs0 fun _ _ h => WtO.same h (same_new ht)⟩ .nil⟩ (fun _ _ _ _ _ => trivial) ?_ ?_⟩
    · rintro i x σ Ha Hb hi ⟨ts, v6, v7, v8, v9, v10, v11, rfl, sa, hta, hts⟩ ⟨rfl, hx⟩
      have him : i < m := by omega
      obtain ⟨n, hn⟩ : ∃ n, n = i + 1 := ⟨_, rfl⟩
      have ex : x = V.int (n : Int) := by rw [hx]; exact congrArg V.int (by omega)
      subst ex
      have htl : ts.length = n := by rw [hts.length, List.length_range, hn]
      refine ⟨Nat.zero_le _, fun Tb hTb => ?_⟩
      have sT := same_new (o := .lst []) hTb
      have nTt : Tb ≠ t := Ne.symm (ne_of_none hta hTb)
      refine ⟨_, rfl, bq, rfl, ⟨_, SqT.of (sT _ _ (sa _ _ hbq2))⟩, for_it walk_tup (fun j σ H' => ∃ (vs : List V) (v8 v9 v10 v11 : Option V), σ = [some (.ref p), some (.int (m : Int)), some (.int w), some (.ref bq), some (.ref D), some (.ref t), some (.int (n : Int)), some (.ref Tb), v8, v9, v10, v11, none, none, none] ∧ Same Hb H' ∧ H' Tb = some (.lst vs) ∧ Paired (WtO H') vs (((chRows N Sd).take j).map fun ch => bB N Sd tx w ch n))
        ⟨[], v8, v9, v10, v11, rfl, sT, upd_same, .nil⟩ (fun j σ H' _ ⟨_, _, _, _, _, _, s', _⟩ => SqT.of (s' _ _ (sa _ _ hbq2))) ?_ ?_⟩
      · rintro j x σ Hc Hd hj ⟨vs, v8, v9, v10, v11, rfl, sc, hTc, hvs⟩ ⟨rfl, hx2⟩
        obtain ⟨ch, hch, g, rfl, hg⟩ := Paired.at hus2 hx2
        have hchm : ch ∈ chRows N Sd := List.mem_of_getElem? hch
        have hchN := chRows_lt hchm
        have hgc := sc _ _ (sa _ _ hg)
        have hDc := sc _ _ (sa _ _ hD2)
        have htc := sc _ _ hta
        refine ⟨_, rfl, g, rfl, ⟨_, SqT.of hgc⟩, fun R hR => lc_it walk_tup (fun k H' => Same Hd H' ∧ H' R = some (.lst (iv ((ch.take k).filter fun p => decide ((tx p).length ≤ n))))) ⟨same_new hR, upd_same⟩ (fun k H' _ ⟨s', _⟩ => SqT.of (s' _ _ hgc)) ?_ ?_⟩
        · rintro k x He Hf hk ⟨se, he⟩ ⟨rfl, hx3⟩
          obtain ⟨y, hy, rfl⟩ := iv_get hx3
          have hyN := hchN y (List.mem_of_getElem? hy)
          have hat : (strV ((List.range N).map tx))[y]? = some (.str (RJ.S (tx y))) := by unfold strV; rw [List.getElem?_map, List.getElem?_map, List.getElem?_range hyN]; rfl
          have hDe := se _ _ hDc
          have hfl : ((ch.take k).filter fun p => decide ((tx p).length ≤ n)).length ≤ 800 := by
            refine Nat.le_trans (List.length_filter_le _ _) (Nat.le_trans (List.length_take_le' _ _) (Nat.le_trans (chRows_len_le hchm) (by omega)))
          refine ⟨rfl, _, rfl, _, rfl, D, _, _, _, rfl, rfl, SqL.of hDe, atI_nat hat, _, rfl, by rw [S_len]; have := hsh y; exact small_le (by omega), _, rfl, _, _, rfl, rfl, _, rfl, ?_⟩
          rw [S_len]
          by_cases hle : (tx y).length ≤ n
          · rw [decide_eq_true (by omega : (((tx y).length : Nat) : Int) ≤ (n : Int))]
            refine iteT ⟨_, rfl, _, he, by rw [iv_len]; exact small1000 (by omega), Same.put se hR, ?_⟩
            rw [upd_same, take_succ_of hy, List.filter_append, List.filter_cons, decide_eq_true hle, if_pos rfl, iv_snoc]; rfl
          · rw [decide_eq_false (by omega : ¬ (((tx y).length : Nat) : Int) ≤ (n : Int))]
            refine iteF ⟨se, ?_⟩
            rw [take_succ_of hy, List.filter_append, List.filter_cons, decide_eq_false hle, if_neg Bool.false_ne_true, List.filter_nil, List.append_nil]; exact he
        rintro He ⟨se, he⟩
        rw [iv_len, List.take_length] at he
        obtain ⟨ft, hft⟩ : ∃ ft, ft = ch.filter fun p => decide ((tx p).length ≤ n) := ⟨_, rfl⟩
        rw [← hft] at he
        have hftm : ∀ y ∈ ft, y < N ∧ (tx y).length ≤ n := fun y hy => by
          rw [hft, List.mem_filter, decide_eq_true_eq] at hy
          exact ⟨hchN y hy.1, hy.2⟩
        have hftl : ft.length ≤ 800 := by
          rw [hft]
          exact Nat.le_trans (List.length_filter_le _ _) (Nat.le_trans (chRows_len_le hchm) (by omega))
        refine ⟨_, rfl, R, rfl, ⟨_, SqL.of he⟩, fun R2 hR2 => lc_it walk_list (fun k H' => Same He H' ∧ ∃ xs, H' R2 = some (.lst xs) ∧ Paired (RestAt N Sd tx w n H') xs (ft.take k)) ⟨same_new hR2, [], upd_same, .nil⟩ (fun k H' _ ⟨s', _⟩ => SqL.of (s' _ _ he)) ?_ ?_⟩
        · rintro k x Hf Hg hk ⟨sf, xs, hf, hxs⟩ ⟨rfl, hx3⟩
          obtain ⟨y, hy, rfl⟩ := iv_get hx3
          obtain ⟨hyN, hle⟩ := hftm y (List.mem_of_getElem? hy)
          have hat : (strV ((List.range N).map tx))[y]? = some (.str (RJ.S (tx y))) := by unfold strV; rw [List.getElem?_map, List.getElem?_map, List.getElem?_range hyN]; rfl
          have h1y := hpos y hyN
          have sdf := se.trans sf
          have hDe := sdf _ _ hDc
          obtain ⟨tv, htv, g2, vs2, rfl, ng2, hg2, hvs2⟩ := Paired.at2 hts (show (List.range (i + 1))[n - (tx y).length]? = some (n - (tx y).length) from List.getElem?_range (by omega))
          obtain ⟨cv, hcv, hcw⟩ := Paired.at2 hvs2 (show ((chRows N Sd).map fun ch => bB N Sd tx w ch (n - (tx y).length))[y]? = some (bB N Sd tx w (chs N Sd y) (n - (tx y).length)) by rw [List.getElem?_map, chRows_at hyN]; rfl)
          have e1 : ((n : Int) - (((tx y).length : Nat) : Int)) = ((n - (tx y).length : Nat) : Int) := by omega
          have hxl : xs.length = k := by rw [hxs.length, List.length_take]; rw [iv_len] at hk; omega
          refine ⟨rfl, _, rfl, _, rfl, _, rfl, _, rfl, _, rfl, D, _, _, _, rfl, rfl, SqL.of hDe, atI_nat hat, _, rfl, by rw [S_len]; have := hsh y; exact small_le (by omega), _, _, rfl, rfl, t, _, _, _, rfl, rfl, SqL.of (sdf _ _ htc), (by rw [S_len, e1]; exact atI_nat htv), _, rfl, g2, _, _, _, rfl, rfl, SqL.of (sdf _ _ (sc _ _ hg2)), atI_nat hcv, by show 2 ≤ sizeLine; decide, fun E1 hE1 => ?_⟩
          have sE := same_new (o := .tup [.int (y : Int), cv]) hE1
          have hfE := sE _ _ hf
          refine ⟨xs, hfE, small1000 (by rw [iv_len] at hk; omega), Same.put (sf.trans sE) hR2, xs ++ [.ref E1], upd_same, ?_⟩
          rw [take_succ_of hy]
          refine Paired.snoc (RestAt.put ⟨E1, cv, rfl, upd_same, WtO.same hcw (sc.trans (sdf.trans sE))⟩ hfE) (Paired.mapP hxs fun _ _ h => RestAt.put (RestAt.same h sE) hfE)
        rintro Hf ⟨sf, xs, hf, hxs⟩
        rw [iv_len, List.take_length] at hxs
        have hxl : xs.length = ft.length := hxs.length
        refine ⟨_, rfl, R2, rfl, ⟨_, SqL.of hf⟩, fun R3 hR3 => lc_it walk_list (fun k H' => Same Hf H' ∧ ∃ ys, H' R3 = some (.lst ys) ∧ Paired (WtAt H') ys (fndB N Sd tx w n (ft.take k))) ⟨same_new hR3, [], upd_same, .nil⟩ (fun k H' _ ⟨s', _⟩ => SqL.of (s' _ _ hf)) ?_ ?_⟩
        · rintro k x Hg Hh hk ⟨sg, ys, hg2, hys⟩ ⟨rfl, hx3⟩
          obtain ⟨y, hy, q0, rv, rfl, hq0, hrv⟩ := Paired.at hxs hx3
          obtain ⟨hyN, hle⟩ := hftm y (List.mem_of_getElem? hy)
          have hat : (strV ((List.range N).map tx))[y]? = some (.str (RJ.S (tx y))) := by unfold strV; rw [List.getElem?_map, List.getElem?_map, List.getElem?_range hyN]; rfl
          have hyl : ys.length ≤ 800 := by
            rw [hys.length]
            exact Nat.le_trans (fndB_len _ _) (Nat.le_trans (List.length_take_le' _ _) hftl)
          have hDg := ((se.trans sf).trans sg) _ _ hDc
          refine ⟨q0, _, rfl, SqT.of (sg _ _ hq0), rfl, _, _, rfl, _, _, rfl, rfl, rfl, _, rfl, rfl, _, rfl, ?_⟩
          rw [take_succ_of hy, fndB_snoc]
          have hrv' := WtO.same hrv sg
          cases hbo : bB N Sd tx w (chs N Sd y) (n - (tx y).length) with
          | none =>
            rw [hbo] at hrv'
            obtain rfl : rv = .non := hrv'
            refine iteF ⟨sg, ys, hg2, ?_⟩
            rw [List.append_nil]; exact hys
          | some b =>
            rw [hbo] at hrv'
            obtain ⟨q1, rfl, hq1⟩ := hrv'
            have hbl := bB_len hpos (fun x hx => chs_lt hx) hbo
            refine iteT ⟨_, rfl, _, rfl, q1, _, _, _, rfl, rfl, SqT.of hq1, rfl, _, _, rfl, rfl, _, rfl, _, rfl, D, _, _, _, rfl, rfl, SqL.of hDg, atI_nat hat, _, rfl, q1, _, _, _, rfl, rfl, SqT.of hq1, rfl, _, _, rfl, rfl, by rw [S_len, S_len]; have := hsh y; exact small_le (by omega), by show 2 ≤ sizeLine; decide, fun E1 hE1 => ?_⟩
            have sE := same_new (o := .tup [.int (w + b.1), .str (RJ.S (tx y) ++ RJ.S b.2)]) hE1
            have hgE := sE _ _ hg2
            refine ⟨ys, hgE, small1000 (by omega), Same.put (sg.trans sE) hR3, ys ++ [.ref E1], upd_same, ?_⟩
            refine Paired.snoc (WtAt.put ⟨E1, rfl, by rw [S_cat]; exact upd_same⟩ hgE) (Paired.mapP hys fun _ _ h => WtAt.put (WtAt.same h sE) hgE)
        rintro Hg ⟨sg, ys, hg3, hys⟩
        rw [hxl, List.take_length] at hys
        have hTg := (se.trans (sf.trans sg)) _ _ hTc
        have hvl : vs.length = j := by rw [hvs.length, List.length_map, List.length_take, chRows_len]; rw [hul] at hj; omega
        have sdg := se.trans (sf.trans sg)
        have key : ∀ v, WtO Hg v (bB N Sd tx w ch n) → (∃ (vs' : List V) (v8 v9 v10 v11 : Option V), [some (V.ref p), some (.int (m : Int)), some (.int w), some (.ref bq), some (.ref D), some (.ref t), some (.int (n : Int)), some (.ref Tb), some (V.ref g), some (V.ref R), some (V.ref R2), some (V.ref R3), none, none, none] = [some (.ref p), some (.int (m : Int)), some (.int w), some (.ref bq), some (.ref D), some (.ref t), some (.int (n : Int)), some (.ref Tb), v8, v9, v10, v11, none, none, none] ∧ Same Hb (upd Hg Tb (.lst (vs ++ [v]))) ∧ upd Hg Tb (.lst (vs ++ [v])) Tb = some (.lst vs') ∧ Paired (WtO (upd Hg Tb (.lst (vs ++ [v])))) vs' (((chRows N Sd).take (j + 1)).map fun ch => bB N Sd tx w ch n)) := by
          intro v hv
          refine ⟨vs ++ [v], _, _, _, _, rfl, Same.put (sc.trans sdg) hTb, upd_same, ?_⟩
          rw [take_succ_of hch, List.map_append]
          exact Paired.snoc (WtO.put hv hTg) (Paired.mapP hvs fun _ _ h => WtO.put (WtO.same h sdg) hTg)
        have hn0 : 0 < n := by omega
        refine ⟨_, rfl, .inl ⟨rfl, _, SqL.of hTg⟩, _, rfl, R3, ys, (fndB N Sd tx w n ft).map pdW, rfl, rfl, hg3, wts_dp hys, wts_alike _, wts_depth _, fun e => ?_, fun d ds i x e hx hi => ?_⟩
        · exact ⟨Tb, vs, _, rfl, rfl, hTg, small1000 (by omega), key .non (by rw [bB_next (r := none) hpos hchN hn0 (by rw [← hft]; exact List.map_eq_nil_iff.mp e)]; rfl)⟩
        · obtain ⟨mm, hm, hx⟩ := minD_wt hys e hx hi
          exact ⟨Tb, vs, _, rfl, rfl, hTg, small1000 (by omega), key x (by rw [bB_next (r := some mm) hpos hchN hn0 (by rw [← hft]; exact hm)]; exact hx)⟩
      · rintro σ He ⟨vs, v8, v9, v10, v11, rfl, sc, hTc, hvs⟩
        rw [hul, List.take_of_length_le (by rw [chRows_len]; exact Nat.le_refl _)] at hvs
        have htc := sc _ _ hta
        refine ⟨_, rfl, .inl ⟨rfl, _, SqL.of htc⟩, _, rfl, t, ts, _, rfl, rfl, htc, small1000 (by omega), ts ++ [.ref Tb], _, _, _, _, _, _, rfl, Same.put (sa.trans sc) ht2, upd_same, ?_⟩
        rw [List.range_succ]
        refine Paired.snoc ⟨Tb, vs, rfl, nTt, (upd_ne nTt).trans hTc, ?_⟩ (Paired.mapP hts fun _ _ h => TabO.put (TabO.same h sc) htc)
        rw [← hn]
        exact Paired.mapP hvs fun _ _ h => WtO.put h htc
    · rintro σ Hz ⟨ts, v6, v7, v8, v9, v10, v11, rfl, sa, hta, hts⟩
      have em : ((m : Int) + 1 - 1).toNat = m := by omega
      rw [em] at hts
      obtain ⟨tv, htv, g2, vs2, rfl, ng2, hg2, hvs2⟩ := Paired.at2 hts (show (List.range (m + 1))[m]? = some m from List.getElem?_range (by omega))
      have hlast : ((chRows N Sd).map fun ch => bB N Sd tx w ch m)[N]? = some (bB N Sd tx w (List.range N) m) := by
        rw [List.getElem?_map, chRows, List.getElem?_append_right (by rw [List.length_map, List.length_range]; exact Nat.le_refl _), List.length_map, List.length_range, Nat.sub_self]; rfl
      obtain ⟨cv, hcv, hcw⟩ := Paired.at2 hvs2 hlast
      have hvl : vs2.length = N + 1 := by rw [hvs2.length, List.length_map, chRows_len]
      have hbo := bB_ok (S := Sd) (tx := tx) (w := w) hpos (ch := List.range N) (fun x hx => List.mem_range.mp hx) m
      obtain ⟨x0, hx0⟩ := inB_some hnd hprop hal1 w m
      have hx0 : InB N Sd tx w (List.range N) m x0 := by rw [hN, hS, htx]; exact hx0
      cases hb : bB N Sd tx w (List.range N) m with
      | none =>
        rw [hb] at hbo
        exact absurd hx0 (hbo x0)
      | some x =>
        rw [hb] at hbo hcw
        obtain ⟨q1, rfl, hq1⟩ := hcw
        exact ⟨_, rfl, _, rfl, t, _, _, _, rfl, rfl, SqL.of hta, atI_nat htv, _, rfl, g2, _, _, _, rfl, rfl, SqL.of hg2, atI_neg1 (by rw [List.getLast?_eq_getElem?, hvl]; exact hcv), q _ q1 x (s1.trans (s2.trans sa)) hbo hq1⟩
def sp_fewest (C : Addr) : Sp := fun vs H Q _ => ∃ (p : Addr) (m : Nat) (al : List Nat) (ps : List (Nat × Nat)), vs = [.ref p, .int (m : Int)] ∧ JoinsAt C H p al ps ∧ Proper al ps ∧ al.Nodup ∧ 1 ≤ al.length ∧ al.length ≤ 400 ∧ ps.length ≤ 400 ∧ m ≤ 800 ∧
  ∀ H' q x, Same H H' → Best (InB (al.length + ps.length) (sideB al ps) (TXf al ps) 1 (List.range (al.length + ps.length)) m) x → H' q = some (.tup [.int x.1, .str (S x.2)]) → Q (.ref q) H'
def sp_most (C : Addr) : Sp := fun vs H Q _ => ∃ (p : Addr) (m : Nat) (al : List Nat) (ps : List (Nat × Nat)), vs = [.ref p, .int (m : Int)] ∧ JoinsAt C H p al ps ∧ Proper al ps ∧ al.Nodup ∧ 1 ≤ al.length ∧ al.length ≤ 400 ∧ ps.length ≤ 400 ∧ m ≤ 800 ∧
  ∀ H' q x, Same H H' → Best (InB (al.length + ps.length) (sideB al ps) (TXf al ps) (-1) (List.range (al.length + ps.length)) m) x → H' q = some (.tup [.int (-x.1), .str (S x.2)]) → Q (.ref q) H'
theorem ok_fewest {f C : Addr} {fd : FuncData} (F : C8.Fun K "fewest" "fewest" s_fewest f fd) (T : Txt K mg) (c_lowest_worth : C8.Cal P w K mg base 10 "lowest_worth" (sp_lowest C) []) : FnOk P w K mg base C8.CX0 11 f fd ["joins", "many"] (sp_fewest C) := by
  refine C8.fn0 F sc_fewest (fun vs H Q E h => ?_) (fun cdv A outer s H vs Q E hr h => ?_)
  · obtain ⟨p, m, al, ps, rfl, _⟩ := h; rfl
  · obtain ⟨p, m, al, ps, rfl, hj, hprop, hnd, hal1, hal, hpl, hm, q⟩ := h
    refine ⟨_, (pss_one (ps_ret (C8.pe_c c_lowest_worth hr (by first | decide | omega) (by rfl) (pa_cons (pv 0) (pa_cons (pv 1) (pa_cons pe_int pa_nil)))))), ?_⟩
    exact ⟨_, rfl, _, rfl, p, m, 1, al, ps, rfl, hj, hprop, hnd, hal1, hal, hpl, hm, fun H1 q1 x s1 hb hq => q H1 q1 x s1 hb hq⟩
theorem ok_most {f C : Addr} {fd : FuncData} (F : C8.Fun K "most" "most" s_most f fd) (T : Txt K mg) (c_lowest_worth : C8.Cal P w K mg base 10 "lowest_worth" (sp_lowest C) []) : FnOk P w K mg base C8.CX0 11 f fd ["joins", "many"] (sp_most C) := by
  refine C8.fn0 F sc_most (fun vs H Q E h => ?_) (fun cdv A outer s H vs Q E hr h => ?_)
  · obtain ⟨p, m, al, ps, rfl, _⟩ := h; rfl
  · obtain ⟨p, m, al, ps, rfl, hj, hprop, hnd, hal1, hal, hpl, hm, q⟩ := h
    refine ⟨_, (pss_cons (ps_asg (C8.pe_c c_lowest_worth hr (by first | decide | omega) (by rfl) (pa_cons (pv 0) (pa_cons (pv 1) (pa_cons (pe_un un_neg pe_int) pa_nil)))) (pg_tup rfl (pgs_cons (pg_name (i := 2) sc_most.nd rfl (Or.inl rfl)) (pgs_cons (pg_name (i := 3) sc_most.nd rfl (Or.inl rfl)) pgs_nil))))
      (pss_one (ps_ret (pe_tup (pa_cons (pe_un un_neg (pv 2)) (pa_cons (pv 3) pa_nil)))))), ?_⟩
    refine ⟨_, rfl, _, rfl, _, rfl, p, m, -1, al, ps, rfl, hj, hprop, hnd, hal1, hal, hpl, hm, fun H1 q1 x s1 hb hq => ?_⟩
    exact ⟨q1, _, rfl, SqT.of hq, rfl, _, _, rfl, _, _, rfl, rfl, _, rfl, _, rfl, _, rfl, by show 2 ≤ sizeLine; decide, fun E1 hE1 => q _ E1 x (Same.new s1 hE1) hb upd_same⟩
end
end RJ
end

section
set_option maxRecDepth 100000
set_option maxHeartbeats 16000000
namespace RJ
open PySem PySem.Spec PyProof.Rows L2
abbrev s__law_best : Stmt := top 48
abbrev N__law_best : List Str := ["made", "sides", "many", "step", "table", "at", "row", "piece", "ahead", "found", "last", "one", "best", "k"]
theorem sc__law_best : FnScope N__law_best ["made", "sides", "many", "step"] (C8.fnScope s__law_best) := C8.fnScope_by (by decide +kernel)
noncomputable def ksB (N : Nat) (S : Nat → Nat → Bool) (tx : Nat → List Nat) (w : Int) (n J : Nat) : List Nat := (List.range J).filter fun p => (bF N S tx w p n).isSome
def kvB (vf : Nat → V) (ks : List Nat) : List (Key × V) := ks.map fun (p : Nat) => (Sum.inl (p : Int), vf p)
theorem valV_kvB (vf : Nat → V) (p : Nat) : ∀ ks : List Nat, valV (kvB vf ks) (.inl (p : Int)) = if p ∈ ks then some (vf p) else none
  | [] => rfl
  | k :: ks => by
    show valV ((Sum.inl (k : Int), vf k) :: kvB vf ks) _ = _
    by_cases h : k = p
    · rw [valV_pos (p := ((Sum.inl (k : Int), vf k) : Key × V)) (by show (Sum.inl (k : Int) : Key) = Sum.inl (p : Int); rw [h]), if_pos (by rw [h]; exact List.mem_cons_self ..), h]
    · rw [valV_neg (p := ((Sum.inl (k : Int), vf k) : Key × V)) (fun z => h (by have z : (Sum.inl (k : Int) : Key) = Sum.inl (p : Int) := z; injection z with z; omega)), valV_kvB vf p ks]
      by_cases hm : p ∈ ks
      · rw [if_pos hm, if_pos (List.mem_cons_of_mem _ hm)]
      · rw [if_neg hm, if_neg (fun z => by rcases List.mem_cons.mp z with z | z; exact h z.symm; exact hm z)]
theorem kvB_len (vf : Nat → V) (ks : List Nat) : (kvB vf ks).length = ks.length := by unfold kvB; rw [List.length_map]
theorem kvB_put {vf : Nat → V} {ks : List Nat} {p : Nat} (v : V) (h : p ∉ ks) : putK (kvB vf ks) (.inl (p : Int)) v = kvB (fun q => if q = p then v else vf q) (ks ++ [p]) := by
  rw [putK_new _ (by rw [valV_kvB, if_neg h])]
  unfold kvB
  rw [List.map_append]
  refine congr (congrArg _ (List.map_congr_left fun q hq => ?_)) ?_
  · show _ = (Sum.inl (q : Int), if q = p then v else vf q)
    rw [if_neg (fun z => h (by rw [← z]; exact hq))]
  · show [(Sum.inl (p : Int), v)] = [(Sum.inl (p : Int), if p = p then v else vf p)]
    rw [if_pos rfl]
theorem ksB_len (N : Nat) (S : Nat → Nat → Bool) (tx : Nat → List Nat) (w : Int) (n J : Nat) : (ksB N S tx w n J).length ≤ J := by
  have := List.length_filter_le (fun p => (bF N S tx w p n).isSome) (List.range J)
  rwa [List.length_range] at this
theorem ksB_mem {N : Nat} {S : Nat → Nat → Bool} {tx : Nat → List Nat} {w : Int} {n J p : Nat} : p ∈ ksB N S tx w n J ↔ p < J ∧ ∃ x, bF N S tx w p n = some x := by
  unfold ksB
  rw [List.mem_filter, List.mem_range, Option.isSome_iff_exists]
/-- a table: pieces to their best -/
def DTb (N : Nat) (S : Nat → Nat → Bool) (tx : Nat → List Nat) (w : Int) (H : Hp) (d : Addr) (n J : Nat) : Prop := ∃ vf : Nat → V, H d = some (.dK (kvB vf (ksB N S tx w n J))) ∧ ∀ p x, p < J → bF N S tx w p n = some x → WtAt H (vf p) x
theorem DTb.same {N : Nat} {S : Nat → Nat → Bool} {tx : Nat → List Nat} {w : Int} {H H' : Hp} {d : Addr} {n J : Nat} (h : DTb N S tx w H d n J) (s : Same H H') : DTb N S tx w H' d n J := by
  obtain ⟨vf, h1, h2⟩ := h
  exact ⟨vf, s _ _ h1, fun p x hp hx => WtAt.same (h2 p x hp hx) s⟩
theorem WtAt.putO {H : Hp} {v : V} {x : WT} {t : Addr} {u o : HO} (h : WtAt H v x) (ht : H t = some u) (hu : ∀ xs, u ≠ .tup xs) : WtAt (upd H t o) v x := by
  obtain ⟨q, e, h⟩ := h
  exact ⟨q, e, (upd_ne (fun z => by rw [z, ht] at h; exact hu _ (by injection h))).trans h⟩
theorem DTb.put {N : Nat} {S : Nat → Nat → Bool} {tx : Nat → List Nat} {w : Int} {H : Hp} {d t : Addr} {n J : Nat} {u o : HO} (h : DTb N S tx w H d n J) (ht : H t = some u) (hu : ∀ xs, u ≠ .tup xs) (hne : d ≠ t) : DTb N S tx w (upd H t o) d n J := by
  obtain ⟨vf, h1, h2⟩ := h
  exact ⟨vf, (upd_ne hne).trans h1, fun p x hp hx => WtAt.putO (h2 p x hp hx) ht hu⟩
/-- one piece more -/
theorem DTb.more {N : Nat} {S : Nat → Nat → Bool} {tx : Nat → List Nat} {w : Int} {H : Hp} {d : Addr} {n p : Nat} {v : V} {x : WT} (h : DTb N S tx w H d n p) (hb : bF N S tx w p n = some x) (hv : WtAt H v x) : ∀ vf, H d = some (.dK (kvB vf (ksB N S tx w n p))) → (∀ q y, q < p → bF N S tx w q n = some y → WtAt H (vf q) y) → DTb N S tx w (upd H d (.dK (putK (kvB vf (ksB N S tx w n p)) (.inl (p : Int)) v))) d n (p + 1) := by
  intro vf h1 h2
  refine ⟨fun q => if q = p then v else vf q, ?_, fun q y hq hy => ?_⟩
  · rw [upd_same, kvB_put v (fun z => Nat.lt_irrefl _ (ksB_mem.mp z).1)]
    have : ksB N S tx w n (p + 1) = ksB N S tx w n p ++ [p] := by
      unfold ksB
      rw [List.range_succ, List.filter_append, List.filter_cons, hb]; rfl
    rw [this]
  · show WtAt _ (if q = p then v else vf q) y
    by_cases e : q = p
    · subst e
      rw [hb] at hy
      cases hy
      rw [if_pos rfl]
      exact WtAt.putO hv h1 (fun xs z => by cases z)
    · rw [if_neg e]
      exact WtAt.putO (h2 q y (by omega) hy) h1 (fun xs z => by cases z)
theorem DTb.none {N : Nat} {S : Nat → Nat → Bool} {tx : Nat → List Nat} {w : Int} {H : Hp} {d : Addr} {n p : Nat} (h : DTb N S tx w H d n p) (hb : bF N S tx w p n = none) : DTb N S tx w H d n (p + 1) := by
  obtain ⟨vf, h1, h2⟩ := h
  have : ksB N S tx w n (p + 1) = ksB N S tx w n p := by
    unfold ksB
    rw [List.range_succ, List.filter_append, List.filter_cons, hb]
    show _ ++ [] = _
    rw [List.append_nil]
  refine ⟨vf, by rw [this]; exact h1, fun q y hq hy => ?_⟩
  rcases Nat.lt_succ_iff_lt_or_eq.mp hq with e | e
  · exact h2 q y e hy
  · subst e; rw [hb] at hy; cases hy
theorem DTb.zero {N : Nat} {S : Nat → Nat → Bool} {tx : Nat → List Nat} {w : Int} {H : Hp} {d : Addr} {n : Nat} (h : H d = some (.dK [])) : DTb N S tx w H d n 0 := ⟨fun _ => .non, h, fun p x hp _ => absurd hp (Nat.not_lt_zero _)⟩
def sp_lbest : Sp := fun vs H Q _ => ∃ (r pp tx sd : Addr) (us : List V) (al : List Nat) (ps : List (Nat × Nat)) (m : Nat) (w : Int), vs = [.ref r, .ref sd, .int (m : Int), .int w] ∧ (w = 1 ∨ w = -1) ∧ H r = some (.tup [.ref pp, .ref tx]) ∧ H tx = some (.lst (strV (textsOf al ps))) ∧ H sd = some (.lst us) ∧ BlssAt H us (boolRows (al.length + ps.length) (sideB al ps)) ∧ Proper al ps ∧ al.Nodup ∧ 1 ≤ al.length ∧ al.length ≤ 30 ∧ ps.length ≤ 100 ∧ m ≤ 100 ∧
  ∀ H' q x, Same H H' → Best (InB (al.length + ps.length) (sideB al ps) (TXf al ps) w (List.range (al.length + ps.length)) m) x → H' q = some (.tup [.int (x.1 * w), .str (S x.2)]) → Q (.ref q) H'
section
variable {P : Program} {w : World} {K : PySem.W.Frag} {mg : Str → Option Value} {base : Heap}
theorem ok_lbest {f : Addr} {fd : FuncData} (F : C8.Fun K "_law_best" "_law_best" s__law_best f fd) (T : Txt K mg) : FnOk P w K mg base C8.CX0 1 f fd ["made", "sides", "many", "step"] sp_lbest := by
  refine C8.fn0 F sc__law_best (fun vs H Q E h => ?_) (fun cdv A outer s H vs Q E hr h => ?_)
  · obtain ⟨r, pp, tx, sd, us, al, ps, m, w, rfl, _⟩ := h; rfl
  · obtain ⟨r, pp, txa, sd, us, al, ps, m, w, rfl, hw, hr0, htx, hsd, hus, hprop, hnd, h1, h30, hpl, hm, q⟩ := h
    have hu := hu_of hr
    have hu64 := hu64_of hr
    have hsz : sizeLine = 16777216 := sizeLine_eq
    have hpos : ∀ p, p < al.length + ps.length → 1 ≤ (TXf al ps p).length := ln_pos hnd hprop
    have hsh : ∀ i, (TXf al ps i).length ≤ 40 := fun i => getD_short hprop.short i
    have hat : ∀ p, p < al.length + ps.length → (strV (textsOf al ps))[p]? = some (.str (RJ.S (TXf al ps p))) := fun p hp => strV_at (by rw [textsOf_len]; exact hp)
    obtain ⟨N, hN⟩ : ∃ N, N = al.length + ps.length := ⟨_, rfl⟩
    rw [← hN] at q hus hpos hat
    have hTl : (strV (textsOf al ps)).length = N := by rw [strV_len, textsOf_len, hN]
    obtain ⟨Sd, hS⟩ : ∃ Sd, Sd = sideB al ps := ⟨_, rfl⟩
    obtain ⟨tx, htxe⟩ : ∃ tx, tx = TXf al ps := ⟨_, rfl⟩
    rw [← hS] at hus
    rw [← htxe] at hpos hsh hat
    rw [← hS, ← htxe] at q
    refine ⟨_, (pss_cons (ps_set (i := 4) sc__law_best.nd rfl (Or.inr rfl) (pe_lc (own := [("k", 13)]) (g := gName 13) (tt := tYes) rfl sc__law_best.nd (pi_range1 rfl T.b_range (pa_cons (pe_op op_add (pv 2) pe_int) pa_nil)) (blkOk_by (N := N__law_best) (sc := C8.fnScope s__law_best) (by decide +kernel)) (fun _ _ _ _ _ => (pg_name (i := 13) sc__law_best.nd rfl (Or.inl rfl))) (fun _ _ _ _ _ => pts_nil) (fun _ _ _ _ _ => pe_dnewK)))
      (pss_cons (ps_for PassesOwn.never rfl (pi_range2 rfl T.b_range (pa_cons pe_int (pa_cons (pe_op op_add (pv 2) pe_int) pa_nil))) (pg_name (i := 5) sc__law_best.nd rfl (Or.inl rfl)) (pss_cons (ps_set (i := 6) sc__law_best.nd rfl (Or.inl rfl) (pe_ix ix_list (pv 4) (pv 5) (fun _ _ => rfl)))
      (pss_one (ps_for PassesOwn.never rfl (pi_range1 rfl T.b_range (pa_cons (pe_callB call_len_seq (by rfl) T.b_len PySem.boot_len (pa_cons (pe_ix ix_tup (pv 0) pe_int (fun _ _ => rfl)) pa_nil)) pa_nil)) (pg_name (i := 7) sc__law_best.nd rfl (Or.inl rfl)) (pss_cons (ps_set (i := 8) sc__law_best.nd rfl (Or.inl rfl) (pe_op op_sub (pv 5) (pe_callB call_len_str (by rfl) T.b_len PySem.boot_len (pa_cons (pe_ix ix_list (pe_ix ix_tup (pv 0) pe_int (fun _ _ => rfl)) (pv 7) (fun _ _ => rfl)) pa_nil))))
      (pss_cons (ps_set (i := 9) sc__law_best.nd rfl (Or.inl rfl) (pe_lst pa_nil))
      (pss_cons (ps_if (pt_cmpR op_eq (pv 8) pe_int (nomark _)) (pss_one (ps_expr (pe_bm PySem.F.plainAttrs_list PySem.F.slot_list_append PySem.F.type_list_append mt_append (pv 9) (pa_cons (pe_tup (pa_cons (pv 3) (pa_cons (pe_ix ix_list (pe_ix ix_tup (pv 0) pe_int (fun _ _ => rfl)) (pv 7) (fun _ _ => rfl)) pa_nil))) pa_nil)))) pss_nil)
      (pss_cons (ps_if (pt_cmpR op_gt (pv 8) pe_int (nomark _)) (pss_one (ps_for PassesOwn.never rfl (pi_list (pe_callTy (call_listD rfl) (by rfl) T.b_list (by decide +kernel) (pa_cons (pe_ix ix_list (pv 4) (pv 8) (fun _ _ => rfl)) pa_nil))) (pg_name (i := 10) sc__law_best.nd rfl (Or.inl rfl)) (pss_one (ps_if (pt_val (pe_ix ix_list (pe_ix ix_list (pv 1) (pv 10) (fun _ _ => rfl)) (pv 7) (fun _ _ => rfl))) (pss_cons (ps_set (i := 11) sc__law_best.nd rfl (Or.inl rfl) (pe_dget hu (pe_ix ix_list (pv 4) (pv 8) (fun _ _ => rfl)) (pv 10) (fun _ _ => rfl)))
      (pss_one (ps_expr (pe_bm PySem.F.plainAttrs_list PySem.F.slot_list_append PySem.F.type_list_append mt_append (pv 9) (pa_cons (pe_tup (pa_cons (pe_op op_add (pe_ix ix_tup (pv 11) pe_int (fun _ _ => rfl)) (pv 3)) (pa_cons (pe_op op_add_str (pe_ix ix_tup (pv 11) pe_int (fun _ _ => rfl)) (pe_ix ix_list (pe_ix ix_tup (pv 0) pe_int (fun _ _ => rfl)) (pv 7) (fun _ _ => rfl))) pa_nil))) pa_nil))))) pss_nil)))) pss_nil)
      (pss_one (ps_if (pt_cmpR op_gt (pe_callB call_len_seq (by rfl) T.b_len PySem.boot_len (pa_cons (pv 9) pa_nil)) pe_int (nomark _)) (pss_one (ps_dput hu (pv 6) (pv 7) (pe_callB (cr_minL rfl hu64) (by rfl) T.b_min (by decide +kernel) (pa_cons (pv 9) pa_nil)) rfl)) pss_nil))))))))))
      (pss_cons (ps_if (pt_cmpR op_eq (pv 2) pe_int (nomark _)) (pss_one (ps_ret (pe_tup (pa_cons pe_int (pa_cons pe_str pa_nil))))) pss_nil)
      (pss_cons (ps_set (i := 12) sc__law_best.nd rfl (Or.inl rfl) (pe_callB (cr_minL rfl hu64) (by rfl) T.b_min (by decide +kernel) (pa_cons (pe_lock (pe_lc (own := [("piece", 7)]) (g := gName 7) (tt := tYes) rfl sc__law_best.nd (pi_keys (pe_ix ix_list (pv 4) (pv 2) (fun _ _ => rfl))) (blkOk_by (N := N__law_best) (sc := C8.fnScope s__law_best) (by decide +kernel)) (fun _ _ _ _ _ => (pg_name (i := 7) sc__law_best.nd rfl (Or.inl rfl))) (fun _ _ _ _ _ => pts_nil) (fun _ _ _ _ _ => (pe_dget hu (pe_ix (ix_listK (K := K) rfl) (pv 4) (pv 2) (fun _ _ => rfl)) (pv 7) (fun _ _ => rfl))))) pa_nil)))
      (pss_one (ps_ret (pe_tup (pa_cons (pe_op op_mul (pe_ix ix_tup (pv 12) pe_int (fun _ _ => rfl)) (pv 3)) (pa_cons (pe_ix ix_tup (pv 12) pe_int (fun _ _ => rfl)) pa_nil))))))))), ?_⟩
    refine ⟨_, rfl, _, _, rfl, rfl, _, rfl, by omega, by omega, fun D hD => lc_it walk_range (fun i H' => Same H H' ∧ ∃ ds : List Addr, H' D = some (.lst (ds.map V.ref)) ∧ ds.length = i ∧ ds.Nodup ∧ (∀ d ∈ ds, d ≠ D ∧ H d = none ∧ H' d = some (.dK []))) ⟨same_new hD, [], upd_same, rfl, List.nodup_nil, fun d hd => nomatch hd⟩ (fun _ _ _ _ => trivial) ?_ ?_⟩
    · rintro i x Ha Hb hi ⟨sa, ds, hb, hdl, hdn, hds⟩ ⟨rfl, hx⟩
      have hin : i < m + 1 := by omega
      refine ⟨rfl, fun d hd => ?_⟩
      have sd1 := same_new (o := .dK []) hd
      have nd : d ≠ D := Ne.symm (ne_of_none hb hd)
      refine ⟨_, sd1 _ _ hb, by rw [List.length_map]; omega, Same.put (sa.trans sd1) hD, ds ++ [d], by rw [upd_same, List.map_append]; rfl, by rw [List.length_append, hdl]; rfl, ?_, fun d' hd' => ?_⟩
      · refine List.nodup_append.mpr ⟨hdn, List.nodup_cons.mpr ⟨List.not_mem_nil, List.nodup_nil⟩, fun a ha b hb2 e => ?_⟩
        rw [List.mem_singleton.mp hb2] at e
        have := (hds a ha).2.2
        rw [e, hd] at this; cases this
      · rcases List.mem_append.mp hd' with h | h
        · obtain ⟨a, b, c⟩ := hds d' h
          exact ⟨a, b, (upd_ne a).trans (sd1 _ _ c)⟩
        · rw [List.mem_singleton.mp h]
          exact ⟨nd, sa.free hd, (upd_ne nd).trans upd_same⟩
    rintro H1 ⟨s1, ds, hD1, hdl, hdn', hds⟩
    have en : ((m : Int) + 1).toNat = m + 1 := by omega
    rw [en] at hdl
    have hdn : ∀ n, n ≤ m → ∃ d, ds[n]? = some d := fun n hn => ⟨_, List.getElem?_eq_getElem (by omega)⟩
    have hdV : ∀ {n d}, ds[n]? = some d → (ds.map V.ref)[n]? = some (V.ref d) := fun {n d} h => by rw [List.getElem?_map, h]; rfl
    have hdf : ∀ {n d}, ds[n]? = some d → d ≠ D ∧ H d = none := fun {n d} h => ⟨(hds d (List.mem_of_getElem? h)).1, (hds d (List.mem_of_getElem? h)).2.1⟩
    have hdd : ∀ {i j d e}, i ≠ j → ds[i]? = some d → ds[j]? = some e → d ≠ e := fun {i j d e} hij hi hj z => by
      subst z
      obtain ⟨a1, b1⟩ := List.getElem?_eq_some_iff.mp hi
      obtain ⟨a2, b2⟩ := List.getElem?_eq_some_iff.mp hj
      rcases Nat.lt_or_gt_of_ne hij with c | c
      · exact List.pairwise_iff_getElem.mp hdn' i j a1 a2 c (b1.trans b2.symm)
      · exact List.pairwise_iff_getElem.mp hdn' j i a2 a1 c (b2.trans b1.symm)
    refine ⟨_, rfl, _, _, rfl, rfl, _, _, rfl, ⟨by decide, by decide, by omega, by omega⟩, for_it walk_range (fun i σ H' => ∃ (v5 v6 v7 v8 v9 v10 v11 : Option V), σ = [some (.ref r), some (.ref sd), some (.int (m : Int)), some (.int w), some (.ref D), v5, v6, v7, v8, v9, v10, v11, none, none] ∧ Same H H' ∧ H' D = some (.lst (ds.map V.ref)) ∧ ∀ n d, ds[n]? = some d → DTb N Sd tx w H' d n (if n ≤ i then N else 0))
      ⟨none, none, none, none, none, none, none, rfl, s1, hD1, fun n d h => ?_⟩ (fun _ _ _ _ _ => trivial) ?_ ?_⟩
    · have hd0 := (hds d (List.mem_of_getElem? h)).2.2
      by_cases hn : n ≤ 0
      · rw [if_pos hn]
        obtain rfl : n = 0 := by omega
        have : ksB N Sd tx w 0 N = [] := by
          refine List.eq_nil_iff_forall_not_mem.mpr fun p hp => ?_
          obtain ⟨hp1, x, hx⟩ := ksB_mem.mp hp
          rw [bF_less hpos hp1 (hpos p hp1)] at hx
          cases hx
        exact ⟨fun _ => .non, by rw [this]; exact hd0, fun p x hp hx => by rw [bF_less hpos hp (hpos p hp)] at hx; cases hx⟩
      · rw [if_neg hn]; exact DTb.zero hd0
    · rintro i x σ Ha Hb hi ⟨v5, v6, v7, v8, v9, v10, v11, rfl, sa, hDa, hda⟩ ⟨rfl, hx⟩
      have him : i < m := by omega
      obtain ⟨n, hn⟩ : ∃ n, n = i + 1 := ⟨_, rfl⟩
      have ex : x = V.int (n : Int) := by rw [hx]; exact congrArg V.int (by omega)
      subst ex
      obtain ⟨dn, hdnn⟩ := hdn n (by omega)
      refine ⟨_, rfl, _, rfl, D, _, _, _, rfl, rfl, SqL.of hDa, atI_nat (hdV hdnn), ?_⟩
      refine ⟨_, rfl, r, _, _, _, rfl, rfl, SqT.of (sa _ _ hr0), rfl, txa, _, rfl, .inl (SqL.of (sa _ _ htx)), _, rfl, by rw [hTl]; omega, by rw [hTl]; omega, for_it walk_range (fun j σ H' => ∃ (v7 v8 v9 v10 v11 : Option V), σ = [some (.ref r), some (.ref sd), some (.int (m : Int)), some (.int w), some (.ref D), some (.int (n : Int)), some (.ref dn), v7, v8, v9, v10, v11, none, none] ∧ Same H H' ∧ H' D = some (.lst (ds.map V.ref)) ∧ ∀ n' d, ds[n']? = some d → DTb N Sd tx w H' d n' (if n' < n then N else if n' = n then j else 0))
        ⟨v7, v8, v9, v10, v11, rfl, sa, hDa, fun n' d h => ?_⟩ (fun _ _ _ _ _ => trivial) ?_ ?_⟩
      · have h0 := hda n' d h
        by_cases c : n' < n
        · rw [if_pos (by omega)] at h0
          rw [if_pos c]; exact h0
        · rw [if_neg (by omega)] at h0
          rw [if_neg c, ite_self]; exact h0
      · rintro p x σ Hc Hd hj ⟨v7, v8, v9, v10, v11, rfl, sc, hDc, hdc⟩ ⟨rfl, hx2⟩
        obtain rfl : x = V.int (p : Int) := hx2.trans (congrArg V.int (Int.zero_add _))
        have hpN : p < N := by rw [hTl, Int.toNat_natCast] at hj; exact hj
        have hpT := hat p hpN
        have hp1 := hpos p hpN
        have hsp := hsh p
        refine ⟨_, rfl, _, rfl, r, _, _, _, rfl, rfl, SqT.of (sc _ _ hr0), rfl, _, rfl, txa, _, _, _, rfl, rfl, SqL.of (sc _ _ htx), atI_nat hpT, _, rfl, by rw [S_len]; exact small_le (by omega), _, _, rfl, rfl, ?_⟩
        rw [S_len]
        have hdnD := hdc n dn hdnn
        rw [if_neg (Nat.lt_irrefl _), if_pos rfl] at hdnD
        obtain ⟨vf, hvf1, hvf2⟩ := hdnD
        refine ⟨Nat.zero_le _, fun Fa hF => ?_⟩
        have hFx : H Fa = none := sc.free hF
        have sF := same_new (o := .lst []) hF
        have fF : (upd Hd Fa (.lst [])) Fa = some (.lst []) := upd_same
        have skip : ∀ G, Same Hd G → bF N Sd tx w p n = none → Same H G ∧ G D = some (.lst (ds.map V.ref)) ∧ ∀ n' d, ds[n']? = some d → DTb N Sd tx w G d n' (if n' < n then N else if n' = n then p + 1 else 0) := fun G sG hb => by
          refine ⟨sc.trans sG, sG _ _ hDc, fun n' d hd => ?_⟩
          have h0 := (hdc n' d hd).same sG
          by_cases c : n' < n
          · rw [if_pos c] at h0 ⊢; exact h0
          · rw [if_neg c] at h0 ⊢
            by_cases e : n' = n
            · rw [if_pos e] at h0 ⊢
              rw [e] at h0 ⊢
              exact DTb.none h0 hb
            · rw [if_neg e] at h0 ⊢; exact h0
        have fin : ∀ G vv xx, Same Hd G → bF N Sd tx w p n = some xx → WtAt G vv xx → Same H (upd G dn (.dK (putK (kvB vf (ksB N Sd tx w n p)) (.inl (p : Int)) vv))) ∧ (upd G dn (.dK (putK (kvB vf (ksB N Sd tx w n p)) (.inl (p : Int)) vv))) D = some (.lst (ds.map V.ref)) ∧ ∀ n' d, ds[n']? = some d → DTb N Sd tx w (upd G dn (.dK (putK (kvB vf (ksB N Sd tx w n p)) (.inl (p : Int)) vv))) d n' (if n' < n then N else if n' = n then p + 1 else 0) := fun G vv xx sG hb hv => by
          have hGn := sG _ _ hvf1
          refine ⟨Same.put (sc.trans sG) (hdf hdnn).2, (upd_ne (Ne.symm (hdf hdnn).1)).trans (sG _ _ hDc), fun n' d hd => ?_⟩
          by_cases e : n' = n
          · subst e
            rw [hdnn] at hd
            cases hd
            rw [if_neg (Nat.lt_irrefl _), if_pos rfl]
            exact DTb.more ⟨vf, hGn, fun q x hq hx => (hvf2 q x hq hx).same sG⟩ hb hv vf hGn fun q x hq hx => (hvf2 q x hq hx).same sG
          · have h0 := (hdc n' d hd).same sG
            rw [if_neg e] at h0 ⊢
            exact DTb.put h0 hGn (fun xs z => by cases z) (hdd e hd hdnn)
        have hkl : (kvB vf (ksB N Sd tx w n p)).length < sizeLine := by
          rw [kvB_len]
          have := ksB_len N Sd tx w n p
          omega
        have made : ∀ {G : Hp}, Same Hd G → G r = some (.tup [.ref pp, .ref txa]) ∧ G txa = some (.lst (strV (textsOf al ps))) := fun s => ⟨s _ _ (sc _ _ hr0), s _ _ (sc _ _ htx)⟩
        refine ⟨_, rfl, rfl, _, rfl, ?_⟩
        rcases Nat.lt_trichotomy (tx p).length n with c | c | c
        · rw [decide_eq_false (fun e => by injection e with e; omega)]
          refine iteF ⟨_, rfl, _, _, rfl, rfl, _, rfl, ?_⟩
          rw [decide_eq_true (show (0 : Int) < (n : Int) - (((tx p).length : Nat) : Int) by omega)]
          have e1 : ((n : Int) - (((tx p).length : Nat) : Int)) = ((n - (tx p).length : Nat) : Int) := by omega
          obtain ⟨n', hn'⟩ : ∃ n', n' = n - (tx p).length := ⟨_, rfl⟩
          rw [← hn'] at e1
          obtain ⟨d2, hd2⟩ := hdn n' (by omega)
          have hd2D := hdc n' d2 hd2
          rw [if_pos (by omega)] at hd2D
          obtain ⟨vf2, hv1, hv2⟩ := hd2D
          obtain ⟨ks, hks⟩ : ∃ ks, ks = ksB N Sd tx w n' N := ⟨_, rfl⟩
          rw [← hks] at hv1
          have hksm : ∀ q, q ∈ ks ↔ q < N ∧ ∃ x, bF N Sd tx w q n' = some x := fun q => by rw [hks]; exact ksB_mem
          have hksl : ks.length ≤ N := by rw [hks]; exact ksB_len ..
          refine iteT ⟨_, rfl, _, rfl, D, _, _, _, rfl, rfl, SqL.of (sF _ _ hDc), (by rw [e1]; exact atI_nat (hdV hd2)), d2, _, rfl, .inl (sF _ _ hv1), fun L hL => ?_⟩
          have sL := Same.new (o := .lst ((kvB vf2 ks).map fun kv => kV kv.1)) sF hL
          have nLF : Fa ≠ L := ne_of_none fF hL
          have lL : (kvB vf2 ks).map (fun kv => kV kv.1) = iv ks := by unfold kvB iv; rw [List.map_map]; rfl
          refine ⟨L, rfl, ⟨_, SqL.of upd_same⟩, for_it walk_list (fun j σ H' => ∃ (ys : List V) (v10 v11 : Option V), σ = [some (.ref r), some (.ref sd), some (.int (m : Int)), some (.int w), some (.ref D), some (.int (n : Int)), some (.ref dn), some (.int (p : Int)), some (.int ((n : Int) - (((tx p).length : Nat) : Int))), some (.ref Fa), v10, v11, none, none] ∧ Same Hd H' ∧ H' L = some (.lst ((kvB vf2 ks).map fun kv => kV kv.1)) ∧ H' Fa = some (.lst ys) ∧ Paired (WtAt H') ys (fndF N Sd tx w n p (ks.take j)))
            ⟨[], v10, v11, rfl, sL, upd_same, (upd_ne nLF).trans fF, .nil⟩ (fun j σ H' _ ⟨_, _, _, _, _, h, _⟩ => SqL.of h) ?_ ?_⟩
          · rintro j y σ He Hf hj2 ⟨ys, v10, v11, rfl, se, hLe, hFe, hys⟩ ⟨rfl, hy⟩
            rw [lL] at hy
            obtain ⟨q, hq, rfl⟩ := iv_get hy
            obtain ⟨hqN, x, hx⟩ := (hksm q).mp (List.mem_of_getElem? hq)
            obtain ⟨sq, hs1, hs2⟩ : ∃ sq, us[q]? = some (.ref sq) ∧ H sq = some (.lst (((List.range N).map (Sd q)).map V.bl)) := by
              have h1 : (boolRows N Sd)[q]? = some ((List.range N).map (Sd q)) := by rw [boolRows, List.getElem?_map, List.getElem?_range hqN]; rfl
              obtain ⟨v, h2, sq, rfl, h3⟩ := Paired.at2 hus h1
              exact ⟨sq, h2, h3⟩
            have hsv : (((List.range N).map (Sd q)).map V.bl)[p]? = some (V.bl (Sd q p)) := by
              rw [List.getElem?_map, List.getElem?_map, List.getElem?_range hpN]; rfl
            have hyl : ys.length ≤ 200 := by
              rw [hys.length]
              refine Nat.le_trans (List.length_filterMap_le _ _) (Nat.le_trans (List.length_take_le' _ _) (by omega))
            refine ⟨_, rfl, _, rfl, sd, _, _, _, rfl, rfl, SqL.of (se _ _ (sc _ _ hsd)), atI_nat hs1, _, rfl, sq, _, _, _, rfl, rfl, SqL.of (se _ _ (sc _ _ hs2)), atI_nat hsv, Sd q p, rfl, ?_⟩
            cases hSb : Sd q p with
            | false =>
              refine iteF ⟨ys, _, _, rfl, se, hLe, hFe, ?_⟩
              rw [take_succ_of hq, fndF_snoc, hSb, if_neg Bool.false_ne_true, List.append_nil]; exact hys
            | true =>
              have hvq := (hv2 q x hqN hx).same se
              obtain ⟨q1, hq1e, hq1⟩ := hvq
              have hxl := bF_len hpos hqN hx
              have hd2f := se _ _ hv1
              have hget : DGet Hf d2 (.int (q : Int)) (some (.ref q1)) := by
                have := DGet.k (k := .inl (q : Int)) hd2f
                rw [valV_kvB, if_pos ((hksm q).mpr ⟨hqN, x, hx⟩), hq1e] at this
                exact this
              refine iteT ⟨_, rfl, _, rfl, D, _, _, _, rfl, rfl, SqL.of (se _ _ hDc), (by rw [e1]; exact atI_nat (hdV hd2)), _, rfl, d2, _, rfl, hget, ?_⟩
              refine ⟨_, rfl, .inl ⟨rfl, _, SqL.of hFe⟩, _, rfl, q1, _, _, _, rfl, rfl, SqT.of hq1, rfl, _, rfl, _, _, rfl, rfl, _, rfl, q1, _, _, _, rfl, rfl, SqT.of hq1, rfl, _, rfl, r, _, _, _, rfl, rfl, SqT.of (made se).1, rfl, _, rfl, txa, _, _, _, rfl, rfl, SqL.of (made se).2, atI_nat hpT, _, _, rfl, rfl, by rw [S_len, S_len]; exact small_le (by omega), by show 2 ≤ sizeLine; omega, fun t1 ht1 => ?_⟩
              have st1 := same_new (o := .tup [.int (x.1 + w), .str (RJ.S x.2 ++ RJ.S (tx p))]) ht1
              have hF1 := st1 _ _ hFe
              refine ⟨Fa, ys, _, rfl, rfl, hF1, by omega, ys ++ [.ref t1], _, _, rfl, Same.put (se.trans st1) hF, (upd_ne (Ne.symm nLF)).trans (st1 _ _ hLe), upd_same, ?_⟩
              rw [take_succ_of hq, fndF_snoc, hSb, if_pos rfl, ← hn', hx]
              exact Paired.snoc (WtAt.put ⟨t1, rfl, by rw [S_cat]; exact upd_same⟩ hF1) (Paired.mapP hys fun _ _ h => WtAt.put (WtAt.same h st1) hF1)
          · rintro σ He ⟨ys, v10, v11, rfl, se, hLe, hFe, hys⟩
            rw [lL, iv_len, List.take_length] at hys
            have hmore : ∀ r, LeastO (fndF N Sd tx w n p ks) r → bF N Sd tx w p n = r := fun r hr => bF_more hpos hpN c (fun q hq => ((hksm q).mp hq).1) (fun q hq hnq => by
              cases e : bF N Sd tx w q (n - (tx p).length) with
              | none => rfl
              | some x => exact absurd ((hksm q).mpr ⟨hq, x, by rw [hn']; exact e⟩) hnq) hr
            have hyl := hys.length
            have hfl : (fndF N Sd tx w n p ks).length ≤ 200 := Nat.le_trans (List.length_filterMap_le _ _) (by omega)
            cases hl : fndF N Sd tx w n p ks with
            | nil =>
              rw [hl] at hys hmore
              have hy0 : ys = [] := by cases hys; rfl
              subst hy0
              obtain ⟨k1, k2, k3⟩ := skip He se (hmore none rfl)
              refine ⟨_, rfl, Fa, _, rfl, .inl (SqL.of hFe), _, _, rfl, rfl, _, rfl, ?_⟩
              exact iteF ⟨_, _, _, _, _, rfl, k1, k2, k3⟩
            | cons z zs =>
              rw [hl] at hys hmore hyl hfl
              refine ⟨_, rfl, Fa, _, rfl, .inl (SqL.of hFe), _, _, rfl, rfl, _, rfl, ?_⟩
              rw [decide_eq_true (show (0 : Int) < (ys.length : Int) by rw [hyl, List.length_cons]; omega)]
              refine iteT ⟨_, rfl, Fa, ys, pdW z, zs.map pdW, rfl, hFe, wts_dp hys, wts_alike (z :: zs), wts_depth (z :: zs), fun i x hx hi => ?_⟩
              obtain ⟨mm, hm2, hxm⟩ := minD_wt hys rfl hx hi
              obtain ⟨k1, k2, k3⟩ := fin He x mm se (hmore (some mm) hm2) hxm
              exact ⟨_, rfl, _, rfl, dn, _, rfl, DPut.k (k := .inl (p : Int)) (se _ _ hvf1) hkl, _, _, _, _, _, rfl, k1, k2, k3⟩
        · rw [decide_eq_true (by rw [c]; exact congrArg V.int (by omega))]
          refine iteT ⟨_, rfl, .inl ⟨rfl, _, SqL.of fF⟩, _, rfl, _, rfl, r, _, _, _, rfl, rfl, SqT.of (made sF).1, rfl, _, rfl, txa, _, _, _, rfl, rfl, SqL.of (made sF).2, atI_nat hpT, by show 2 ≤ sizeLine; omega, fun t1 ht1 => ?_⟩
          have st1 := same_new (o := .tup [.int w, .str (RJ.S (tx p))]) ht1
          have hF1 := st1 _ _ fF
          refine ⟨Fa, [], _, rfl, rfl, hF1, by show 0 < sizeLine; omega, ?_⟩
          have se := Same.put (o := .lst ([] ++ [.ref t1])) (sF.trans st1) hF
          have hFe : (upd (upd (upd Hd Fa (.lst [])) t1 (.tup [.int w, .str (RJ.S (tx p))])) Fa (.lst ([] ++ [.ref t1]))) Fa = some (.lst [.ref t1]) := upd_same
          have hw1 : WtAt (upd (upd (upd Hd Fa (.lst [])) t1 (.tup [.int w, .str (RJ.S (tx p))])) Fa (.lst ([] ++ [.ref t1]))) (.ref t1) (w, tx p) := WtAt.put ⟨t1, rfl, upd_same⟩ hF1
          generalize upd (upd (upd Hd Fa (.lst [])) t1 (.tup [.int w, .str (RJ.S (tx p))])) Fa (.lst ([] ++ [.ref t1])) = He at se hFe hw1 ⊢
          refine ⟨_, rfl, _, _, rfl, rfl, _, rfl, ?_⟩
          rw [decide_eq_false (show ¬ (0 : Int) < (n : Int) - (((tx p).length : Nat) : Int) by omega)]
          refine iteF ⟨_, rfl, Fa, _, rfl, .inl (SqL.of hFe), _, _, rfl, rfl, _, rfl, ?_⟩
          have hys : Paired (WtAt He) [V.ref t1] [(w, tx p)] := .cons hw1 .nil
          refine iteT ⟨_, rfl, Fa, [.ref t1], pdW (w, tx p), [], rfl, hFe, wts_dp hys, wts_alike [(w, tx p)], wts_depth [(w, tx p)], fun i x hx hi => ?_⟩
          obtain ⟨mm, hm2, hxm⟩ := minD_wt hys rfl hx hi
          have hmm : mm = (w, tx p) := List.mem_singleton.mp hm2.1
          obtain ⟨k1, k2, k3⟩ := fin He x mm se (by rw [hmm, ← c]; exact bF_same hpos hpN) hxm
          exact ⟨_, rfl, _, rfl, dn, _, rfl, DPut.k (k := .inl (p : Int)) (se _ _ hvf1) hkl, _, _, _, _, _, rfl, k1, k2, k3⟩
        · rw [decide_eq_false (fun e => by injection e with e; omega)]
          refine iteF ⟨_, rfl, _, _, rfl, rfl, _, rfl, ?_⟩
          rw [decide_eq_false (show ¬ (0 : Int) < (n : Int) - (((tx p).length : Nat) : Int) by omega)]
          refine iteF ⟨_, rfl, Fa, _, rfl, .inl (SqL.of fF), _, _, rfl, rfl, _, rfl, ?_⟩
          obtain ⟨k1, k2, k3⟩ := skip _ sF (bF_less hpos hpN c)
          exact iteF ⟨_, _, _, _, _, rfl, k1, k2, k3⟩
      · rintro σ He ⟨v7, v8, v9, v10, v11, rfl, sc, hDc, hdc⟩
        rw [hTl, Int.toNat_natCast] at hdc
        refine ⟨_, _, _, _, _, _, _, rfl, sc, hDc, fun n2 d h => ?_⟩
        have h0 := hdc n2 d h
        by_cases c : n2 ≤ i + 1
        · rw [if_pos c]
          by_cases e : n2 = n
          · rw [if_neg (by omega), if_pos e] at h0; exact h0
          · rw [if_pos (by omega)] at h0; exact h0
        · rw [if_neg c]
          rw [if_neg (by omega), if_neg (by omega)] at h0; exact h0
    · rintro σ H2 ⟨v5, v6, v7, v8, v9, v10, v11, rfl, sa, hDa, hda⟩
      have em : ((m : Int) + 1 - 1).toNat = m := by omega
      rw [em] at hda
      obtain ⟨dm, hdmm⟩ := hdn m (Nat.le_refl m)
      have hdmD := hda m dm hdmm
      rw [if_pos (Nat.le_refl m)] at hdmD
      obtain ⟨vf, hv1, hv2⟩ := hdmD
      refine ⟨_, rfl, rfl, _, rfl, ?_⟩
      by_cases hm0 : m = 0
      · subst hm0
        refine iteT ⟨by show 2 ≤ sizeLine; omega, fun E1 hE1 => q _ E1 (0, []) (Same.new sa hE1) ⟨(inB_zero hpos fun x hx => List.mem_range.mp hx).mpr rfl, fun y hy => ?_⟩ ?_⟩
        · rw [(inB_zero hpos fun x hx => List.mem_range.mp hx).mp hy]; exact ltW_irrefl _
        · rw [upd_same, show ((0, []) : WT).1 * w = 0 from Int.zero_mul w]; rfl
      · rw [decide_eq_false (fun e => hm0 (by injection e with e; omega))]
        obtain ⟨ks, hks⟩ : ∃ ks, ks = ksB N Sd tx w m N := ⟨_, rfl⟩
        rw [← hks] at hv1
        have hksm : ∀ q, q ∈ ks ↔ q < N ∧ ∃ x, bF N Sd tx w q m = some x := fun q => by rw [hks]; exact ksB_mem
        have hksl : ks.length ≤ N := by rw [hks]; exact ksB_len ..
        refine iteF ⟨dm, _, hv1, trivial, fun od => ?_⟩
        have hDl : (upd H2 dm (.frz od (.dK (kvB vf ks)))) D = some (.lst (ds.map V.ref)) := (upd_ne (Ne.symm (hdf hdmm).1)).trans hDa
        refine ⟨_, rfl, _, rfl, D, _, _, _, rfl, rfl, SqL.of hDl, atI_nat (hdV hdmm), dm, od, rfl, .inl ⟨_, upd_same, fun R hR => lc_it walk_keys (fun j H' => Same (upd H2 dm (.frz od (.dK (kvB vf ks)))) H' ∧ ∃ xs, H' R = some (.lst xs) ∧ Paired (WtAt H2) xs ((ks.take j).filterMap fun q => bF N Sd tx w q m)) ⟨same_new hR, [], upd_same, .nil⟩ (fun j H' _ ⟨s', _⟩ => s' _ _ upd_same) ?_ ?_⟩⟩
        · rintro j x He Hf hj ⟨se, xs, hRe, hxs⟩ ⟨rfl, kk, vv, hkv, rfl⟩
          have hjk : j < ks.length := by rw [← kvB_len vf ks]; exact hj
          obtain ⟨q, hq⟩ : ∃ q, ks[j]? = some q := ⟨_, List.getElem?_eq_getElem hjk⟩
          have hkv2 : (kk, vv) = ((Sum.inl (q : Int) : Key), vf q) := by
            unfold kvB at hkv
            rw [List.getElem?_map, hq] at hkv
            exact (Option.some.inj hkv).symm
          injection hkv2 with hk1 hk2
          subst hk1 hk2
          obtain ⟨hqN, x, hx⟩ := (hksm q).mp (List.mem_of_getElem? hq)
          have hdf2 : Hf dm = some (.frz od (.dK (kvB vf ks))) := se _ _ upd_same
          have hget : DGet Hf dm (.int (q : Int)) (some (vf q)) := by
            refine .inl ⟨kvB vf ks, .inl (q : Int), .inr ⟨od, hdf2⟩, rfl, ?_⟩
            rw [valV_kvB, if_pos (List.mem_of_getElem? hq)]
          have hxl : xs.length ≤ 200 := by
            rw [hxs.length]
            exact Nat.le_trans (List.length_filterMap_le _ _) (Nat.le_trans (List.length_take_le' _ _) (by omega))
          refine ⟨rfl, _, rfl, _, rfl, D, _, _, _, rfl, rfl, SqL.of (se _ _ hDl), atI_nat (hdV hdmm), _, rfl, dm, _, rfl, hget, xs, hRe, by omega, Same.put se hR, xs ++ [vf q], upd_same, ?_⟩
          rw [take_succ_of hq, List.filterMap_append, List.filterMap_cons, hx]
          exact Paired.snoc (hv2 q x hqN hx) hxs
        · rintro Hf ⟨se, xs, hRe, hxs⟩
          rw [kvB_len, List.take_length] at hxs
          have hdmf : Hf dm = some (.frz od (.dK (kvB vf ks))) := se _ _ upd_same
          have nR : R ≠ dm := fun z => by rw [z, upd_same] at hR; cases hR
          have hR3 : (upd Hf dm (.dK (kvB vf ks))) R = some (.lst xs) := (upd_ne nR).trans hRe
          have s3 : Same H2 (upd Hf dm (.dK (kvB vf ks))) := fun a o e => by
            by_cases c : a = dm
            · subst c; rw [upd_same, ← e, hv1]
            · rw [upd_ne c]; exact se _ _ ((upd_ne c).trans e)
          generalize upd Hf dm (.dK (kvB vf ks)) = H3 at hR3 s3 ⊢
          have hxs3 : Paired (WtAt H3) xs (ks.filterMap fun q => bF N Sd tx w q m) := Paired.mapP hxs fun _ _ h => WtAt.same h s3
          have hmp : 0 < m := by omega
          obtain ⟨x0, hx0⟩ := inB_some hnd hprop h1 w m
          have hx0 : InB N Sd tx w (List.range N) m x0 := by rw [hN, hS, htxe]; exact hx0
          obtain ⟨p0, hp0, hf0⟩ := (inB_inF hmp).mp hx0
          have hp0 := List.mem_range.mp hp0
          have hne : ks.filterMap (fun q => bF N Sd tx w q m) ≠ [] := fun e => by
            cases hb : bF N Sd tx w p0 m with
            | none =>
              have := bF_ok (S := Sd) (tx := tx) (w := w) hpos hp0 m
              rw [hb] at this
              exact this x0 hf0
            | some b =>
              have hmem : b ∈ ks.filterMap (fun q => bF N Sd tx w q m) := List.mem_filterMap.mpr ⟨p0, (hksm p0).mpr ⟨hp0, b, hb⟩, hb⟩
              rw [e] at hmem; cases hmem
          obtain ⟨l, hl⟩ : ∃ l, l = ks.filterMap fun q => bF N Sd tx w q m := ⟨_, rfl⟩
          rw [← hl] at hxs3 hne
          have hbest : ∀ mm, LeastO l (some mm) → Best (InB N Sd tx w (List.range N) m) mm := fun mm hmm => best_all hpos hmp (l := ks) (fun q hq => ((hksm q).mp hq).1) (fun q hq hnq => by
            cases e : bF N Sd tx w q m with
            | none => rfl
            | some x => exact absurd ((hksm q).mpr ⟨hq, x, e⟩) hnq) (by rw [← hl]; exact hmm)
          cases l with
          | nil => exact absurd rfl hne
          | cons z zs =>
            refine ⟨hdmf, R, xs, pdW z, zs.map pdW, rfl, hR3, wts_dp hxs3, wts_alike (z :: zs), wts_depth (z :: zs), fun i x hx hi => ?_⟩
            obtain ⟨mm, hm2, q1, rfl, hq1⟩ := minD_wt hxs3 rfl hx hi
            exact ⟨_, rfl, q1, _, _, _, rfl, rfl, SqT.of hq1, rfl, _, rfl, _, _, rfl, rfl, .inr (by rcases hw with rfl | rfl <;> exact ⟨by decide, by decide⟩), _, rfl, q1, _, _, _, rfl, rfl, SqT.of hq1, rfl, by show 2 ≤ sizeLine; omega, fun E1 hE1 => q _ E1 mm (Same.new (sa.trans s3) hE1) (hbest mm hm2) upd_same⟩
end
end RJ
end

section
set_option maxRecDepth 100000
set_option maxHeartbeats 16000000
namespace RJ
open PySem PySem.Spec PyProof.Rows L2
theorem asc_pw : ∀ l : List Nat, (ascL l).all id = true → l.Pairwise (· < ·)
  | [], _ => .nil
  | [x], _ => List.pairwise_singleton _ _
  | x :: y :: l, h => by
    have h' : (decide (x < y) :: ascL (y :: l)).all id = true := h
    rw [List.all_cons, Bool.and_eq_true] at h'
    have h1 : x < y := of_decide_eq_true h'.1
    have ih := asc_pw (y :: l) h'.2
    refine List.pairwise_cons.mpr ⟨fun z hz => ?_, ih⟩
    rcases List.mem_cons.mp hz with e | e
    · rw [e]; exact h1
    · exact Nat.lt_trans h1 ((List.pairwise_cons.mp ih).1 z e)
theorem alOk_pw {al : List Nat} (h : alOk al = true) : al.Pairwise (· < ·) := by
  unfold alOk at h
  rw [Bool.and_eq_true, Bool.and_eq_true] at h
  exact asc_pw al h.2.1
theorem first_ix (c : Nat) : ∀ cs : List Nat, c ∈ cs → ∃ j : Nat, cs[j]? = some c ∧ ∀ (m z : Nat), m < j → cs[m]? = some z → z ≠ c
  | [], h => nomatch h
  | x :: cs, h => by
    by_cases e : x = c
    · exact ⟨0, by rw [e]; rfl, fun m z hm => absurd hm (Nat.not_lt_zero _)⟩
    · obtain ⟨j, h1, h2⟩ := first_ix c cs (by rcases List.mem_cons.mp h with z | z; exact absurd z.symm e; exact z)
      refine ⟨j + 1, h1, fun m z hm hz => ?_⟩
      cases m with
      | zero => cases hz; exact e
      | succ m => exact h2 m z (by omega) hz
theorem samePr {H : Hp} {a b : Addr} {i j : Int} {s t : Str} (ha : H a = some (.tup [.int i, .str s])) (hb : H b = some (.tup [.int j, .str t])) (e1 : i = j) (e2 : s = t) : SameD H 1 (.ref a) (.ref b) := by
  subst e1; subst e2
  exact .inr ⟨a, b, _, _, rfl, rfl, ha, hb, (by show 2 ≤ 1000; decide), .cons (SameD.flat rfl 0) (.cons (SameD.flat rfl 0) .nil)⟩
theorem ix_nat {cs : List Nat} {c : Nat} (hc : c ∈ cs) : ∃ j : Nat, cs[j]? = some c ∧ (∀ (m z : Nat), m < j → cs[m]? = some z → z ≠ c) ∧ (iv cs).all flatV = true ∧ (iv cs)[j]? = some (.int (c : Int)) ∧ eqV (.int (c : Int)) (.int (c : Int)) = true ∧ ∀ (m : Nat) (z' : V), m < j → (iv cs)[m]? = some z' → eqV z' (.int (c : Int)) = false := by
  obtain ⟨j, h1, h2⟩ := first_ix c cs hc
  refine ⟨j, h1, h2, ?_, iv_at h1, by simp [eqV], fun m z' hm hz => ?_⟩
  · refine List.all_eq_true.mpr fun v hv => ?_
    obtain ⟨n, _, rfl⟩ := List.mem_map.mp hv
    rfl
  · obtain ⟨y, hy, rfl⟩ := iv_get hz
    have := h2 m y hm hy
    simp [eqV]
    omega
def sp_law (K : PySem.W.Frag) : Sp := fun vs H Q _ => ∃ (a : Addr) (zs : List Int), vs = [.ref a] ∧ SqL K H a (zs.map V.int) ∧ zs.length ≤ 63 ∧ ∀ H', Q (.bl true) H'
section
variable {P : Program} {w : World} {K : PySem.W.Frag} {mg : Str → Option Value} {base : Heap}
theorem ok_law {f C : Addr} {fd : FuncData} (F : C8.Fun K "law" "law" s_law f fd) (T : Txt K mg) (J : JTxt K C) (c__law_pool : C8.Cal P w K mg base 1 "_law_pool" (sp_pool K) []) (c__law_few_letters : C8.Cal P w K mg base 3 "_law_few_letters" sp_few []) (c__law_pairs : C8.Cal P w K mg base 3 "_law_pairs" sp_pairsB [])
    (c__law_draw : C8.Cal P w K mg base 1 "_law_draw" sp_drawB []) (k_Joins : C8.Mak P w K mg base 4 "Joins" C (sp_init C) []) (c__law_texts : C8.Cal P w K mg base 1 "_law_texts" sp_ltexts []) (c__law_cut : C8.Cal P w K mg base 2 "_law_cut" sp_cutB []) (c_fewest : C8.Cal P w K mg base 11 "fewest" (sp_fewest C) []) (c_most : C8.Cal P w K mg base 11 "most" (sp_most C) [])
    (c__law_sides : C8.Cal P w K mg base 3 "_law_sides" sp_lsides []) (c__law_best : C8.Cal P w K mg base 1 "_law_best" sp_lbest []) (c__law_same : C8.Cal P w K mg base 2 "_law_same" (sp_same 1) []) :
    FnOk P w K mg base C8.CX0 14 f fd ["script"] (sp_law K) := by
  refine C8.fn0 F sc_law (fun vs H Q E h => ?_) (fun cdv A outer s H vs Q E hr h => ?_)
  · obtain ⟨a, zs, rfl, _⟩ := h; rfl
  · obtain ⟨a, zs, rfl, hS, hlen, q⟩ := h
    have hsz : sizeLine = 16777216 := sizeLine_eq
    refine ⟨_, (pss_cons (ps_set (i := 1) sc_law.nd rfl (Or.inl rfl) (C8.pe_c c__law_pool hr (by first | decide | omega) (by rfl) (pa_cons (pv 0) (pa_cons pe_int pa_nil))))
      (pss_cons (ps_set (i := 2) sc_law.nd rfl (Or.inr rfl) (C8.pe_c c__law_few_letters hr (by first | decide | omega) (by rfl) (pa_cons (pv 1) pa_nil)))
      (pss_cons (ps_set (i := 3) sc_law.nd rfl (Or.inr rfl) (C8.pe_c c__law_pairs hr (by first | decide | omega) (by rfl) (pa_cons (pv 1) (pa_cons (pv 2) (pa_cons (C8.pe_c c__law_draw hr (by first | decide | omega) (by rfl) (pa_cons (pv 1) (pa_cons pe_int pa_nil))) pa_nil)))))
      (pss_cons (ps_set (i := 4) sc_law.nd rfl (Or.inl rfl) (C8.pe_mk k_Joins hr (by first | decide | omega) (by rfl) (pa_cons (pv 2) (pa_cons (pe_callTy call_list_of (by rfl) T.b_list (by decide +kernel) (pa_cons (pe_ix ix_tup (pv 3) pe_int (fun _ _ => rfl)) pa_nil)) pa_nil))))
      (pss_cons (ps_set (i := 5) sc_law.nd rfl (Or.inl rfl) (C8.pe_c c__law_draw hr (by first | decide | omega) (by rfl) (pa_cons (pv 1) (pa_cons (pe_ix ix_list (pe_lst (pa_cons pe_int (pa_cons pe_int (pa_cons pe_int (pa_cons pe_int (pa_cons pe_int pa_nil)))))) (pe_callB call_len_str (by rfl) T.b_len PySem.boot_len (pa_cons (pv 2) pa_nil)) (fun _ _ => rfl)) pa_nil))))
      (pss_cons (ps_set (i := 6) sc_law.nd rfl (Or.inl rfl) (C8.pe_c c__law_texts hr (by first | decide | omega) (by rfl) (pa_cons (pv 2) (pa_cons (pv 5) pa_nil))))
      (pss_cons (ps_setLc (own := [("text", 12)]) (i := 7) (g := gName 12) (tt := tYes) rfl sc_law.nd rfl rfl (sw_true rfl rfl rfl (by decide +kernel)) (pi_list (pv 6)) (blkOk_by (N := N_law) (sc := C8.fnScope s_law) (by decide +kernel)) (fun _ _ _ _ _ => (pg_name (i := 12) sc_law.nd rfl (Or.inl rfl))) (fun _ _ _ _ _ => pts_nil) (fun _ _ _ _ _ => (pe_callB (call_len_seqK (K := K) rfl) (by rfl) T.b_len PySem.boot_len (pa_cons (C8.pe_c c__law_cut hr (by first | decide | omega) (by rfl) (pa_cons (pe_ix (ix_tupK (K := K) rfl) (pv 3) pe_int (fun _ _ => rfl)) (pa_cons (pv 2) (pa_cons (pv 12) pa_nil)))) pa_nil))))
      (pss_cons (ps_set (i := 8) sc_law.nd rfl (Or.inl rfl) (pe_callB (cr_min rfl) (by rfl) T.b_min (by decide +kernel) (pa_cons (pv 7) pa_nil)))
      (pss_cons (ps_set (i := 9) sc_law.nd rfl (Or.inl rfl) (pe_callB (cr_max rfl) (by rfl) T.b_max (by decide +kernel) (pa_cons (pv 7) pa_nil)))
      (pss_cons (ps_if (pt_not (pt_val (C8.pe_c c__law_same hr (by first | decide | omega) (by rfl) (pa_cons (C8.pe_c c_fewest hr (by first | decide | omega) (by rfl) (pa_cons (pv 4) (pa_cons (pv 5) pa_nil))) (pa_cons (pe_tup (pa_cons (pv 8) (pa_cons (pe_ix ix_list (pv 6) (pe_bm PySem.F.plainAttrs_list PySem.F.slot_list_index PySem.F.type_list_index mt_index (pv 7) (pa_cons (pv 8) pa_nil)) (fun _ _ => rfl)) pa_nil))) pa_nil))))) (pss_one (ps_ret pe_bl)) pss_nil)
      (pss_cons (ps_if (pt_not (pt_val (C8.pe_c c__law_same hr (by first | decide | omega) (by rfl) (pa_cons (C8.pe_c c_most hr (by first | decide | omega) (by rfl) (pa_cons (pv 4) (pa_cons (pv 5) pa_nil))) (pa_cons (pe_tup (pa_cons (pv 9) (pa_cons (pe_ix ix_list (pv 6) (pe_bm PySem.F.plainAttrs_list PySem.F.slot_list_index PySem.F.type_list_index mt_index (pv 7) (pa_cons (pv 9) pa_nil)) (fun _ _ => rfl)) pa_nil))) pa_nil))))) (pss_one (ps_ret pe_bl)) pss_nil)
      (pss_cons (ps_set (i := 10) sc_law.nd rfl (Or.inl rfl) (C8.pe_c c__law_draw hr (by first | decide | omega) (by rfl) (pa_cons (pv 1) (pa_cons pe_int pa_nil))))
      (pss_cons (ps_set (i := 11) sc_law.nd rfl (Or.inl rfl) (C8.pe_c c__law_sides hr (by first | decide | omega) (by rfl) (pa_cons (pv 3) (pa_cons (pv 2) pa_nil))))
      (pss_cons (ps_if (pt_not (pt_val (C8.pe_c c__law_same hr (by first | decide | omega) (by rfl) (pa_cons (C8.pe_c c_fewest hr (by first | decide | omega) (by rfl) (pa_cons (pv 4) (pa_cons (pv 10) pa_nil))) (pa_cons (C8.pe_c c__law_best hr (by first | decide | omega) (by rfl) (pa_cons (pv 3) (pa_cons (pv 11) (pa_cons (pv 10) (pa_cons pe_int pa_nil))))) pa_nil))))) (pss_one (ps_ret pe_bl)) pss_nil)
      (pss_one (ps_ret (C8.pe_c c__law_same hr (by first | decide | omega) (by rfl) (pa_cons (C8.pe_c c_most hr (by first | decide | omega) (by rfl) (pa_cons (pv 4) (pa_cons (pv 10) pa_nil))) (pa_cons (C8.pe_c c__law_best hr (by first | decide | omega) (by rfl) (pa_cons (pv 3) (pa_cons (pv 11) (pa_cons (pv 10) (pa_cons (pe_un un_neg pe_int) pa_nil))))) pa_nil))))))))))))))))))), ?_⟩
    refine ⟨_, rfl, a, zs, 260, rfl, hS, hlen, by decide, fun H1 p s1 hp1 hP1 => ?_⟩
    refine ⟨_, rfl, p, rfl, hP1, fun H2 al s2 hok hnd h1 h30 hSG => ?_⟩
    refine ⟨_, rfl, _, rfl, _, rfl, p, 8, rfl, s2.at1, by decide, fun H3 m s3 hm => ⟨p, al, m, rfl, s3.at1, hnd, h1, by omega, by omega, fun H4 r pp tx us ps s4 hppp htxp hr0 hpp hps htx hprop hpl => ?_⟩⟩
    -- the list
    refine ⟨_, rfl, _, rfl, r, _, _, _, rfl, rfl, SqT.of hr0, rfl, pp, us, rfl, .inl (SqL.of hpp), fun pa hpa y dx ny ndx nex => ?_⟩
    have npa : pa ≠ y := ne_of_none upd_same ny
    have npd : pa ≠ dx := ne_of_none upd_same ndx
    have sM : ∀ (b : Addr) (o : HO), H4 b = some o → b ≠ y ∧ (upd (upd (upd H4 pa (.lst us)) dx (.own y)) y (.ins C dx [])) b = some o := fun b o e => by
      have e1 : (upd H4 pa (.lst us)) b = some o := (upd_ne (ne_of_none e hpa)).trans e
      have hby := ne_of_none e1 ny
      exact ⟨hby, (upd_ne hby).trans ((upd_ne (ne_of_none e1 ndx)).trans e1)⟩
    refine ⟨y, pa, dx, true, al, ps, us, rfl, upd_same, (upd_ne npa).trans ((upd_ne npd).trans upd_same), hps.same (fun b xs e => (sM b _ e).2), hok, hnd, by omega, hprop, by omega, fun H5 sx hj => ⟨rfl, ?_⟩⟩
    have s5 : Same H4 H5 := fun b o e => sx b o (sM b o e).1 (sM b o e).2
    clear sM sx
    have hP5 := s4.at1.same s5
    have hr5 := s5 _ _ hr0
    have hpp5 := s5 _ _ hpp
    have hps5 := hps.same (Same.t s5)
    have htx5 := s5 _ _ htx
    have hw := hprop.wf
    clear hr0 hpp hps htx
    have hj9 : ∀ {H' : Hp}, PSame p H5 H' → JoinsAt C H' y al ps := fun s => hj.pool s h1
    have hr9 : ∀ {H' : Hp}, PSame p H5 H' → H' r = some (.tup [.ref pp, .ref tx]) := fun s => s.tup hr5
    have hpp9 : ∀ {H' : Hp}, PSame p H5 H' → H' pp = some (.lst us) := fun s => s.lst hppp hpp5
    have hps9 : ∀ {H' : Hp}, PSame p H5 H' → PairsAt H' us ps := fun s => hps5.same s.tt
    have htx9 : ∀ {H' : Hp}, PSame p H5 H' → H' tx = some (.lst (strV (textsOf al ps))) := fun s => s.lst htxp htx5
    have hpw := alOk_pw hok
    obtain ⟨bd, hbd, hb0, hbp⟩ : ∃ bd : Nat, atI [V.int 1, V.int 13, V.int 7, V.int 5, V.int 4] (al.length : Int) = some (.int (bd : Int)) ∧ 0 < bd ∧ ∀ n, n < bd → n ≤ 100 ∧ al.length ^ n ≤ 100 := by
      have : al.length = 1 ∨ al.length = 2 ∨ al.length = 3 ∨ al.length = 4 := by omega
      rcases this with e | e | e | e <;> rw [e]
      · exact ⟨13, rfl, by decide, fun n hn => ⟨by omega, by rw [Nat.one_pow]; decide⟩⟩
      · exact ⟨7, rfl, by decide, fun n hn => ⟨by omega, Nat.le_trans (Nat.pow_le_pow_right (by decide) (by omega : n ≤ 6)) (by decide)⟩⟩
      · exact ⟨5, rfl, by decide, fun n hn => ⟨by omega, Nat.le_trans (Nat.pow_le_pow_right (by decide) (by omega : n ≤ 4)) (by decide)⟩⟩
      · exact ⟨4, rfl, by decide, fun n hn => ⟨by omega, Nat.le_trans (Nat.pow_le_pow_right (by decide) (by omega : n ≤ 3)) (by decide)⟩⟩
    refine ⟨_, rfl, by show 5 ≤ sizeLine; omega, fun L2 hL2 => ?_⟩
    have k9 := (PSame.refl hP5).new (o := .lst [.int 1, .int 13, .int 7, .int 5, .int 4]) hL2
    have fL2 : (upd H5 L2 (.lst [.int 1, .int 13, .int 7, .int 5, .int 4])) L2 = some (.lst [.int 1, .int 13, .int 7, .int 5, .int 4]) := upd_same
    generalize upd H5 L2 (.lst [.int 1, .int 13, .int 7, .int 5, .int 4]) = G2 at k9 fL2 ⊢
    refine ⟨_, rfl, S al, rfl, by rw [S_len]; exact small_le (by omega), L2, _, _, _, rfl, rfl, SqL.of fL2, (by rw [S_len]; exact hbd), p, (bd : Int), rfl, k9.at1, by omega, fun H10 small s10 hsm => ?_⟩
    obtain ⟨hs100, hspow⟩ := hbp small (by omega)
    have k10 := k9.trans s10
    refine ⟨_, rfl, _, rfl, al, small, rfl, h1, by omega, hs100, hspow, fun H11 tt s11 httn htt => ?_⟩
    have k11 := k10.then s11
    have htl : (allT al small).length ≤ 100 := by rw [allT_len]; exact hspow
    have htl0 : 0 < (allT al small).length := by rw [allT_len]; exact Nat.pow_pos h1
    -- counts
    obtain ⟨cf, hcf⟩ : ∃ cf : List Nat → Nat, cf = fun t => (CT al ps t).length := ⟨_, rfl⟩
    refine ⟨_, rfl, tt, rfl, ⟨_, SqL.of htt⟩, fun D hD => lc_it walk_list (fun i H' => Same H11 H' ∧ H' D = some (.lst (iv (((allT al small).take i).map cf)))) ⟨same_new hD, upd_same⟩ (fun i H' _ ⟨s', _⟩ => SqL.of (s' _ _ htt)) ?_ ?_⟩
    · rintro i x Ha Hb hi ⟨sa, hb⟩ ⟨rfl, hx⟩
      obtain ⟨u, hu, rfl⟩ := strV_mem' hx
      obtain ⟨hul, huin⟩ := allT_mem.mp (List.mem_of_getElem? hu)
      have kb := k11.then sa
      have hi' : i < (allT al small).length := (List.getElem?_eq_some_iff.mp hu).1
      refine ⟨rfl, _, rfl, r, _, _, _, rfl, rfl, SqT.of (hr9 kb), rfl, _, rfl, _, rfl, pp, us, ps, al, u, rfl, hpp9 kb, hps9 kb, hprop.wf, by omega, by omega, huin, by omega, fun Hc z sc hzn hz => ?_⟩
      refine ⟨z, _, rfl, .inl (SqL.of hz), ?_⟩
      rw [iv_len]
      refine ⟨_, sc _ _ hb, by rw [iv_len, List.length_map, List.length_take]; exact small1000 (by omega), Same.put (sa.trans sc) hD, ?_⟩
      rw [upd_same, take_succ_of hu, List.map_append, iv_snoc, hcf]; rfl
    rintro H12 ⟨s12, hD12⟩
    rw [strV_len, List.take_length] at hD12
    have k12 := k11.then s12
    have htt12 := s12 _ _ htt
    obtain ⟨cs, hcs⟩ : ∃ cs, cs = (allT al small).map cf := ⟨_, rfl⟩
    rw [← hcs] at hD12
    have hcl : cs.length = (allT al small).length := by rw [hcs, List.length_map]
    have hiv : iv cs = (cs.map fun (n : Nat) => (n : Int)).map V.int := by unfold iv; rw [List.map_map]; rfl
    have hDi : SqL K H12 D ((cs.map fun (n : Nat) => (n : Int)).map V.int) := by rw [← hiv]; exact SqL.of hD12
    have hcat : ∀ {j c : Nat}, cs[j]? = some c → ∃ t, (allT al small)[j]? = some t ∧ cf t = c := fun {j c} h => by
      rw [hcs, List.getElem?_map] at h
      exact Option.map_eq_some_iff.mp h
    refine ⟨_, rfl, D, _, rfl, hDi, by rw [List.length_map]; omega, fun lo hlo hlo2 => ?_⟩
    obtain ⟨low, hlow, rfl⟩ := List.mem_map.mp hlo
    refine ⟨_, rfl, D, _, rfl, hDi, by rw [List.length_map]; omega, fun hg hhi hhi2 => ?_⟩
    obtain ⟨high, hhigh, rfl⟩ := List.mem_map.mp hhi
    have hlow2 : ∀ c ∈ cs, low ≤ c := fun c hc => by have := hlo2 _ (List.mem_map.mpr ⟨c, hc, rfl⟩); omega
    have hhigh2 : ∀ c ∈ cs, c ≤ high := fun c hc => by have := hhi2 _ (List.mem_map.mpr ⟨c, hc, rfl⟩); omega
    clear hlo hlo2 hhi hhi2
    have first : ∀ (w : Int) (c j : Nat) (t : List Nat), (allT al small)[j]? = some t → cf t = c → (∀ c' ∈ cs, w * (c : Int) ≤ w * (c' : Int)) → (∀ c' : Nat, w * (c' : Int) = w * (c : Int) → c' = c) → (∀ m z, m < j → cs[m]? = some z → z ≠ c) → Best (InB (al.length + ps.length) (sideB al ps) (TXf al ps) w (List.range (al.length + ps.length)) small) (w * (c : Int), t) := by
      intro w c j t ht htc hle hinj hfst
      have e := best_first hpw (f := fun t => w * ((CT al ps t).length : Int)) ht (fun u hu => ?_) (fun j2 u hj2 hu e => ?_)
      · have e2 : w * ((CT al ps t).length : Int) = w * (c : Int) := by rw [← htc, hcf]
        have e := Best.congr (fun x => (inB_texts (ps := ps) hnd hprop (w := w) (n := small) (x := x)).symm) e
        show Best _ (w * (c : Int), t)
        rw [← e2]
        exact e
      · have h := hle (cf u) (by rw [hcs]; exact List.mem_map.mpr ⟨u, hu, rfl⟩)
        rw [← htc, hcf] at h; exact h
      · have h := hinj (cf u) (by rw [← htc, hcf]; exact e)
        exact hfst j2 (cf u) hj2 (by rw [hcs, List.getElem?_map, hu]; rfl) h
    -- fewest
    refine ⟨_, rfl, _, rfl, y, small, al, ps, rfl, hj9 k12, hprop, hnd, h1, by omega, by omega, by omega, fun H13 t1 x1 s13 hb1 ht1 => ?_⟩
    have k13 := k12.then s13
    have hD13 := s13 _ _ hD12
    obtain ⟨j, hj1, hj2, g1, g2, g3, g4⟩ := ix_nat hlow
    obtain ⟨t, htj, htc⟩ := hcat hj1
    refine ⟨_, rfl, _, rfl, _, rfl, .inl ⟨rfl, _, SqL.of hD13⟩, _, rfl, D, iv cs, .int (low : Int), j, .int (low : Int), rfl, rfl, SqL.of hD13, rfl, g1, g2, g3, g4, tt, _, _, _, rfl, rfl, SqL.of (s13 _ _ htt12), atI_nat (by rw [strV, List.getElem?_map, htj]; rfl), by show 2 ≤ sizeLine; omega, fun t2 ht2 => ?_⟩
    have e1 := Best.uniq hb1 (first 1 low j t htj htc (fun c' hc' => by have := hlow2 c' hc'; omega) (fun c' h => by omega) hj2)
    have sN := same_new (o := .tup [.int (low : Int), .str (S t)]) ht2
    have k14 := k13.then sN
    refine ⟨_, _, rfl, samePr (sN _ _ ht1) upd_same (by rw [e1]; exact Int.one_mul _) (by rw [e1]), fun H14 s14 => ⟨true, rfl, iteF ?_⟩⟩
    have k15 := k14.then s14
    have s15 := s13.trans (sN.trans s14)
    have hD15 := s15 _ _ hD12
    have htt15 := s15 _ _ htt12
    clear s15 s14 sN ht2 ht1 k14 k13 hb1 e1
    -- most
    refine ⟨_, rfl, _, rfl, y, small, al, ps, rfl, hj9 k15, hprop, hnd, h1, by omega, by omega, by omega, fun H16 t3 x3 s16 hb3 ht3 => ?_⟩
    have k16 := k15.then s16
    have hD16 := s16 _ _ hD15
    obtain ⟨j', hj1', hj2', g1', g2', g3', g4'⟩ := ix_nat hhigh
    obtain ⟨t', htj', htc'⟩ := hcat hj1'
    refine ⟨_, rfl, _, rfl, _, rfl, .inl ⟨rfl, _, SqL.of hD16⟩, _, rfl, D, iv cs, .int (high : Int), j', .int (high : Int), rfl, rfl, SqL.of hD16, rfl, g1', g2', g3', g4', tt, _, _, _, rfl, rfl, SqL.of (s16 _ _ htt15), atI_nat (by rw [strV, List.getElem?_map, htj']; rfl), by show 2 ≤ sizeLine; omega, fun t4 ht4 => ?_⟩
    have e3 := Best.uniq hb3 (first (-1) high j' t' htj' htc' (fun c' hc' => by have := hhigh2 c' hc'; omega) (fun c' h => by omega) hj2')
    have sN := same_new (o := .tup [.int (high : Int), .str (S t')]) ht4
    have k17 := k16.then sN
    refine ⟨_, _, rfl, samePr (sN _ _ ht3) upd_same (by rw [e3]; show -(-1 * (high : Int)) = high; omega) (by rw [e3]), fun H17 s17 => ⟨true, rfl, iteF ?_⟩⟩
    have k18 := k17.then s17
    clear ht4 ht3 sN hb3 e3 s17 hD16 s16
    refine ⟨_, rfl, p, 13, rfl, k18.at1, by decide, fun H18 m2 s18 hm2 => ?_⟩
    have k19 := k18.trans s18
    refine ⟨_, rfl, _, rfl, r, pp, tx, us, al, ps, rfl, hr9 k19, hpp9 k19, hps9 k19, htx9 k19, hprop, hnd, by omega, by omega, fun H19 sd su s19 hsdn hsd hss => ?_⟩
    have k20 := k19.then s19
    have nsd : sd ≠ p := k19.at1.free hsdn
    have hss := BlsF.pool hss k19.at1
    have hsd9 : ∀ {H' : Hp}, PSame p H19 H' → H' sd = some (.lst su) := fun s => s.lst nsd hsd
    have hss9 : ∀ {H' : Hp}, PSame p H19 H' → BlssAt H' su (boolRows (al.length + ps.length) (sideB al ps)) := fun s => BlsN.ats (BlsN.ps hss s)
    refine ⟨_, rfl, _, rfl, y, m2, al, ps, rfl, hj9 k20, hprop, hnd, h1, by omega, by omega, by omega, fun H20 t5 x5 s20 hb5 ht5 => ?_⟩
    have k21 := k20.then s20
    have q21 := (PSame.refl k20.at1).then s20
    refine ⟨_, rfl, _, rfl, _, rfl, r, pp, tx, sd, su, al, ps, m2, 1, rfl, .inl rfl, hr9 k21, htx9 k21, hsd9 q21, hss9 q21, hprop, hnd, h1, by omega, by omega, by omega, fun H21 t6 x6 s21 hb6 ht6 => ?_⟩
    have e5 := Best.uniq hb5 hb6
    refine ⟨_, _, rfl, samePr (s21 _ _ ht5) ht6 (by rw [e5]; exact (Int.mul_one _).symm) (by rw [e5]), fun H22 s22 => ⟨true, rfl, iteF ?_⟩⟩
    have k22 := (k21.then s21).then s22
    have q22 := (q21.then s21).then s22
    clear ht5 ht6 hb5 hb6 e5
    refine ⟨_, rfl, _, rfl, y, m2, al, ps, rfl, hj9 k22, hprop, hnd, h1, by omega, by omega, by omega, fun H23 t7 x7 s23 hb7 ht7 => ?_⟩
    have k23 := k22.then s23
    have q23 := q22.then s23
    refine ⟨_, rfl, _, rfl, _, rfl, _, rfl, r, pp, tx, sd, su, al, ps, m2, -1, rfl, .inr rfl, hr9 k23, htx9 k23, hsd9 q23, hss9 q23, hprop, hnd, h1, by omega, by omega, by omega, fun H24 t8 x8 s24 hb8 ht8 => ?_⟩
    have e7 := Best.uniq hb7 hb8
    exact ⟨_, _, rfl, samePr (s24 _ _ ht7) ht8 (by rw [e7]; omega) (by rw [e7]), fun H25 s25 => q _⟩
end
end RJ
end

section
set_option maxRecDepth 100000
set_option maxHeartbeats 4000000
namespace RJ
open PySem PySem.Spec PyProof.Rows L2
theorem all_mk {l : PySem.W.OpenLaw} {w : World} {K : PySem.W.Frag} {h : Heap} {mg : Str → Option Value} {fa C f0 f1 f2 f3 f4 f5 f6 f7 f8 f9 f10 f11 f12 f13 f14 f15 f16 f17 f18 f19 f20 f21 f22 f23 f24 f25 f26 f27 f28 f29 f30 f31 f32 f33 f34 f35 f36 f37 f38 f39 : Addr} (X : K.In h) (G : h.Ns mainGlobals mg) (hfa : mg "law" = some (.ref fa))
    {od0 an0 od1 an1 od2 an2 od3 an3 od4 an4 od5 an5 od6 an6 od7 an7 od8 an8 od9 an9 od10 an10 od11 an11 od12 an12 od13 an13 od14 an14 od15 an15 od16 an16 od17 an17 od18 an18 od19 an19 od20 an20 od21 an21 od22 an22 od23 an23 od24 an24 od25 an25 od26 an26 od27 an27 od28 an28 od29 an29 od30 an30 od31 an31 od32 an32 od33 an33 od34 an34 od35 an35 od36 an36 od37 an37 od38 an38 od39 an39 : Option Addr} {sl0 sl1 sl2 sl3 sl4 sl5 sl6 sl7 sl8 sl9 sl10 sl11 sl12 sl13 sl14 sl15 sl16 sl17 sl18 sl19 sl20 sl21 sl22 sl23 sl24 sl25 sl26 sl27 sl28 sl29 sl30 sl31 sl32 sl33 sl34 sl35 sl36 sl37 sl38 sl39 : Array (Option Value)} {oc0 kV0 dc0 pm0 cd0 ct0 oc1 kV1 dc1 pm1 cd1 ct1 oc2 kV2 dc2 pm2 cd2 ct2 oc3 kV3 dc3 pm3 cd3 ct3 oc4 kV4 dc4 pm4 cd4 ct4 oc5 kV5 dc5 pm5 cd5 ct5 oc6 kV6 dc6 pm6 cd6 ct6 oc7 kV7 dc7 pm7 cd7 ct7 oc8 kV8 dc8 pm8 cd8 ct8 oc9 kV9 dc9 pm9 cd9 ct9 oc10 kV10 dc10 pm10 cd10 ct10 oc11 kV11 dc11 pm11 cd11 ct11 oc12 kV12 dc12 pm12 cd12 ct12 oc13 kV13 dc13 pm13 cd13 ct13 oc14 kV14 dc14 pm14 cd14 ct14 oc15 kV15 dc15 pm15 cd15 ct15 oc16 kV16 dc16 pm16 cd16 ct16 oc17 kV17 dc17 pm17 cd17 ct17 oc18 kV18 dc18 pm18 cd18 ct18 oc19 kV19 dc19 pm19 cd19 ct19 oc20 kV20 dc20 pm20 cd20 ct20 oc21 kV21 dc21 pm21 cd21 ct21 oc22 kV22 dc22 pm22 cd22 ct22 oc23 kV23 dc23 pm23 cd23 ct23 oc24 kV24 dc24 pm24 cd24 ct24 oc25 kV25 dc25 pm25 cd25 ct25 oc26 kV26 dc26 pm26 cd26 ct26 oc27 kV27 dc27 pm27 cd27 ct27 oc28 kV28 dc28 pm28 cd28 ct28 oc29 kV29 dc29 pm29 cd29 ct29 oc30 kV30 dc30 pm30 cd30 ct30 oc31 kV31 dc31 pm31 cd31 ct31 oc32 kV32 dc32 pm32 cd32 ct32 oc33 kV33 dc33 pm33 cd33 ct33 oc34 kV34 dc34 pm34 cd34 ct34 oc35 kV35 dc35 pm35 cd35 ct35 oc36 kV36 dc36 pm36 cd36 ct36 oc37 kV37 dc37 pm37 cd37 ct37 oc38 kV38 dc38 pm38 cd38 ct38 oc39 kV39 dc39 pm39 cd39 ct39 : Value} {tk0 tk1 : Tok} {pp21 : Addr} {rest21 : List Value}
    (aC : PySem.W.nsIn K mainGlobals "Joins" = some (some (.ref C))) (a0 : PySem.W.nsIn K mainGlobals "spine" = some (some (.ref f0))) (l0 : K.lookup f0 = some ⟨oc0, od0, .func (PySem.W.fnOf "spine" "spine" (C8.fnArgs s_spine) (C8.fnBody s_spine) (C8.fnScope s_spine) .none kV0 dc0 pm0 an0 cd0 ct0), sl0⟩) (c0 : PySem.W.codeIn K cd0 "spine" = true)
    (k0 : PySem.W.keepIn K (.ref f0) = true) (a1 : PySem.W.nsIn K mainGlobals "right_spine" = some (some (.ref f1))) (l1 : K.lookup f1 = some ⟨oc1, od1, .func (PySem.W.fnOf "right_spine" "right_spine" (C8.fnArgs s_right_spine) (C8.fnBody s_right_spine) (C8.fnScope s_right_spine) .none kV1 dc1 pm1 an1 cd1 ct1), sl1⟩) (c1 : PySem.W.codeIn K cd1 "right_spine" = true)
    (k1 : PySem.W.keepIn K (.ref f1) = true) (a2 : PySem.W.nsIn K mainGlobals "left_spine" = some (some (.ref f2))) (l2 : K.lookup f2 = some ⟨oc2, od2, .func (PySem.W.fnOf "left_spine" "left_spine" (C8.fnArgs s_left_spine) (C8.fnBody s_left_spine) (C8.fnScope s_left_spine) .none kV2 dc2 pm2 an2 cd2 ct2), sl2⟩) (c2 : PySem.W.codeIn K cd2 "left_spine" = true)
    (k2 : PySem.W.keepIn K (.ref f2) = true) (a3 : PySem.W.nsIn K mainGlobals "is_ahead_in_left" = some (some (.ref f3))) (l3 : K.lookup f3 = some ⟨oc3, od3, .func (PySem.W.fnOf "is_ahead_in_left" "is_ahead_in_left" (C8.fnArgs s_is_ahead_in_left) (C8.fnBody s_is_ahead_in_left) (C8.fnScope s_is_ahead_in_left) .none kV3 dc3 pm3 an3 cd3 ct3), sl3⟩) (c3 : PySem.W.codeIn K cd3 "is_ahead_in_left" = true)
    (k3 : PySem.W.keepIn K (.ref f3) = true) (a4 : PySem.W.nsIn K mainGlobals "is_ahead_in_right" = some (some (.ref f4))) (l4 : K.lookup f4 = some ⟨oc4, od4, .func (PySem.W.fnOf "is_ahead_in_right" "is_ahead_in_right" (C8.fnArgs s_is_ahead_in_right) (C8.fnBody s_is_ahead_in_right) (C8.fnScope s_is_ahead_in_right) .none kV4 dc4 pm4 an4 cd4 ct4), sl4⟩) (c4 : PySem.W.codeIn K cd4 "is_ahead_in_right" = true)
    (k4 : PySem.W.keepIn K (.ref f4) = true) (a5 : PySem.W.nsIn K mainGlobals "following_masks" = some (some (.ref f5))) (l5 : K.lookup f5 = some ⟨oc5, od5, .func (PySem.W.fnOf "following_masks" "following_masks" (C8.fnArgs s_following_masks) (C8.fnBody s_following_masks) (C8.fnScope s_following_masks) .none kV5 dc5 pm5 an5 cd5 ct5), sl5⟩) (c5 : PySem.W.codeIn K cd5 "following_masks" = true)
    (k5 : PySem.W.keepIn K (.ref f5) = true) (a6 : PySem.W.nsIn K mainGlobals "choices_behind" = some (some (.ref f6))) (l6 : K.lookup f6 = some ⟨oc6, od6, .func (PySem.W.fnOf "choices_behind" "choices_behind" (C8.fnArgs s_choices_behind) (C8.fnBody s_choices_behind) (C8.fnScope s_choices_behind) .none kV6 dc6 pm6 an6 cd6 ct6), sl6⟩) (c6 : PySem.W.codeIn K cd6 "choices_behind" = true)
    (k6 : PySem.W.keepIn K (.ref f6) = true) (a7 : PySem.W.nsIn K mainGlobals "fewest" = some (some (.ref f7))) (l7 : K.lookup f7 = some ⟨oc7, od7, .func (PySem.W.fnOf "fewest" "fewest" (C8.fnArgs s_fewest) (C8.fnBody s_fewest) (C8.fnScope s_fewest) .none kV7 dc7 pm7 an7 cd7 ct7), sl7⟩) (c7 : PySem.W.codeIn K cd7 "fewest" = true)
    (k7 : PySem.W.keepIn K (.ref f7) = true) (a8 : PySem.W.nsIn K mainGlobals "most" = some (some (.ref f8))) (l8 : K.lookup f8 = some ⟨oc8, od8, .func (PySem.W.fnOf "most" "most" (C8.fnArgs s_most) (C8.fnBody s_most) (C8.fnScope s_most) .none kV8 dc8 pm8 an8 cd8 ct8), sl8⟩) (c8 : PySem.W.codeIn K cd8 "most" = true)
    (k8 : PySem.W.keepIn K (.ref f8) = true) (a9 : PySem.W.nsIn K mainGlobals "lowest_worth" = some (some (.ref f9))) (l9 : K.lookup f9 = some ⟨oc9, od9, .func (PySem.W.fnOf "lowest_worth" "lowest_worth" (C8.fnArgs s_lowest_worth) (C8.fnBody s_lowest_worth) (C8.fnScope s_lowest_worth) .none kV9 dc9 pm9 an9 cd9 ct9), sl9⟩) (c9 : PySem.W.codeIn K cd9 "lowest_worth" = true)
    (k9 : PySem.W.keepIn K (.ref f9) = true) (a10 : PySem.W.nsIn K mainGlobals "is_integer" = some (some (.ref f10))) (l10 : K.lookup f10 = some ⟨oc10, od10, .func (PySem.W.fnOf "is_integer" "is_integer" (C8.fnArgs s_is_integer) (C8.fnBody s_is_integer) (C8.fnScope s_is_integer) .none kV10 dc10 pm10 an10 cd10 ct10), sl10⟩) (c10 : PySem.W.codeIn K cd10 "is_integer" = true)
    (k10 : PySem.W.keepIn K (.ref f10) = true) (a11 : PySem.W.nsIn K mainGlobals "is_number_below" = some (some (.ref f11))) (l11 : K.lookup f11 = some ⟨oc11, od11, .func (PySem.W.fnOf "is_number_below" "is_number_below" (C8.fnArgs s_is_number_below) (C8.fnBody s_is_number_below) (C8.fnScope s_is_number_below) .none kV11 dc11 pm11 an11 cd11 ct11), sl11⟩) (c11 : PySem.W.codeIn K cd11 "is_number_below" = true)
    (k11 : PySem.W.keepIn K (.ref f11) = true) (a12 : PySem.W.nsIn K mainGlobals "is_sign" = some (some (.ref f12))) (l12 : K.lookup f12 = some ⟨oc12, od12, .func (PySem.W.fnOf "is_sign" "is_sign" (C8.fnArgs s_is_sign) (C8.fnBody s_is_sign) (C8.fnScope s_is_sign) .none kV12 dc12 pm12 an12 cd12 ct12), sl12⟩) (c12 : PySem.W.codeIn K cd12 "is_sign" = true)
    (k12 : PySem.W.keepIn K (.ref f12) = true) (a13 : PySem.W.nsIn K mainGlobals "is_alphabet" = some (some (.ref f13))) (l13 : K.lookup f13 = some ⟨oc13, od13, .func (PySem.W.fnOf "is_alphabet" "is_alphabet" (C8.fnArgs s_is_alphabet) (C8.fnBody s_is_alphabet) (C8.fnScope s_is_alphabet) .none kV13 dc13 pm13 an13 cd13 ct13), sl13⟩) (c13 : PySem.W.codeIn K cd13 "is_alphabet" = true)
    (k13 : PySem.W.keepIn K (.ref f13) = true) (a14 : PySem.W.nsIn K mainGlobals "check_alphabet" = some (some (.ref f14))) (l14 : K.lookup f14 = some ⟨oc14, od14, .func (PySem.W.fnOf "check_alphabet" "check_alphabet" (C8.fnArgs s_check_alphabet) (C8.fnBody s_check_alphabet) (C8.fnScope s_check_alphabet) .none kV14 dc14 pm14 an14 cd14 ct14), sl14⟩) (c14 : PySem.W.codeIn K cd14 "check_alphabet" = true)
    (k14 : PySem.W.keepIn K (.ref f14) = true) (a15 : PySem.W.nsIn K mainGlobals "letter_row" = some (some (.ref f15))) (l15 : K.lookup f15 = some ⟨oc15, od15, .func (PySem.W.fnOf "letter_row" "letter_row" (C8.fnArgs s_letter_row) (C8.fnBody s_letter_row) (C8.fnScope s_letter_row) .none kV15 dc15 pm15 an15 cd15 ct15), sl15⟩) (c15 : PySem.W.codeIn K cd15 "letter_row" = true)
    (k15 : PySem.W.keepIn K (.ref f15) = true) (a16 : PySem.W.nsIn K mainGlobals "join_neighbors" = some (some (.ref f16))) (l16 : K.lookup f16 = some ⟨oc16, od16, .func (PySem.W.fnOf "join_neighbors" "join_neighbors" (C8.fnArgs s_join_neighbors) (C8.fnBody s_join_neighbors) (C8.fnScope s_join_neighbors) .none kV16 dc16 pm16 an16 cd16 ct16), sl16⟩) (c16 : PySem.W.codeIn K cd16 "join_neighbors" = true)
    (k16 : PySem.W.keepIn K (.ref f16) = true) (a17 : PySem.W.nsIn K mainGlobals "lowest_join" = some (some (.ref f17))) (l17 : K.lookup f17 = some ⟨oc17, od17, .func (PySem.W.fnOf "lowest_join" "lowest_join" (C8.fnArgs s_lowest_join) (C8.fnBody s_lowest_join) (C8.fnScope s_lowest_join) .none kV17 dc17 pm17 an17 cd17 ct17), sl17⟩) (c17 : PySem.W.codeIn K cd17 "lowest_join" = true)
    (k17 : PySem.W.keepIn K (.ref f17) = true) (a18 : PySem.W.nsIn K mainGlobals "join_down" = some (some (.ref f18))) (l18 : K.lookup f18 = some ⟨oc18, od18, .func (PySem.W.fnOf "join_down" "join_down" (C8.fnArgs s_join_down) (C8.fnBody s_join_down) (C8.fnScope s_join_down) .none kV18 dc18 pm18 an18 cd18 ct18), sl18⟩) (c18 : PySem.W.codeIn K cd18 "join_down" = true)
    (k18 : PySem.W.keepIn K (.ref f18) = true) (a19 : PySem.W.nsIn K mainGlobals "may_follow" = some (some (.ref f19))) (l19 : K.lookup f19 = some ⟨oc19, od19, .func (PySem.W.fnOf "may_follow" "may_follow" (C8.fnArgs s_may_follow) (C8.fnBody s_may_follow) (C8.fnScope s_may_follow) .none kV19 dc19 pm19 an19 cd19 ct19), sl19⟩) (c19 : PySem.W.codeIn K cd19 "may_follow" = true)
    (k19 : PySem.W.keepIn K (.ref f19) = true) (a20 : PySem.W.findIn K (.ref C) "__init__" = some (some (.ref f20))) (i20 : PySem.W.isFn K (.ref f20) = true) (l20 : K.lookup f20 = some ⟨oc20, od20, .func (PySem.W.fnOf "__init__" "Joins.__init__" (C8.fnArgs s_Joins___init__) (C8.fnBody s_Joins___init__) (C8.fnScope s_Joins___init__) .none kV20 dc20 pm20 an20 cd20 ct20), sl20⟩)
    (c20 : PySem.W.codeIn K cd20 "Joins.__init__" = true) (k20 : PySem.W.keepIn K (.ref f20) = true) (a21 : PySem.W.findIn K (.ref C) "pieces" = some (some (.ref pp21))) (s21 : PySem.W.specialIn K (.ref pp21) "__get__" = some (some (.builtin "property.__get__")))
    (t21 : PySem.W.takesIn K (.ref pp21) = some true) (r21 : PySem.W.recIn K pp21 "property" = some (.ref f21 :: rest21)) (l21 : K.lookup f21 = some ⟨oc21, od21, .func (PySem.W.fnOf "pieces" "Joins.pieces" (C8.fnArgs s_Joins_pieces) (C8.fnBody s_Joins_pieces) (C8.fnScope s_Joins_pieces) .none kV21 dc21 pm21 an21 cd21 ct21), sl21⟩) (c21 : PySem.W.codeIn K cd21 "Joins.pieces" = true)
    (k21 : PySem.W.keepIn K (.ref f21) = true) (a22 : PySem.W.findIn K (.ref C) "__iter__" = some (some (.ref f22))) (i22 : PySem.W.isFn K (.ref f22) = true) (l22 : K.lookup f22 = some ⟨oc22, od22, .func (PySem.W.fnOf "__iter__" "Joins.__iter__" (C8.fnArgs s_Joins___iter__) (C8.fnBody s_Joins___iter__) (C8.fnScope s_Joins___iter__) .none kV22 dc22 pm22 an22 cd22 ct22), sl22⟩)
    (c22 : PySem.W.codeIn K cd22 "Joins.__iter__" = true) (k22 : PySem.W.keepIn K (.ref f22) = true) (a23 : PySem.W.findIn K (.ref C) "text_of" = some (some (.ref f23))) (i23 : PySem.W.isFn K (.ref f23) = true)
    (l23 : K.lookup f23 = some ⟨oc23, od23, .func (PySem.W.fnOf "text_of" "Joins.text_of" (C8.fnArgs s_Joins_text_of) (C8.fnBody s_Joins_text_of) (C8.fnScope s_Joins_text_of) .none kV23 dc23 pm23 an23 cd23 ct23), sl23⟩) (c23 : PySem.W.codeIn K cd23 "Joins.text_of" = true) (k23 : PySem.W.keepIn K (.ref f23) = true) (a24 : PySem.W.findIn K (.ref C) "parts_of" = some (some (.ref f24)))
    (i24 : PySem.W.isFn K (.ref f24) = true) (l24 : K.lookup f24 = some ⟨oc24, od24, .func (PySem.W.fnOf "parts_of" "Joins.parts_of" (C8.fnArgs s_Joins_parts_of) (C8.fnBody s_Joins_parts_of) (C8.fnScope s_Joins_parts_of) .none kV24 dc24 pm24 an24 cd24 ct24), sl24⟩) (c24 : PySem.W.codeIn K cd24 "Joins.parts_of" = true) (k24 : PySem.W.keepIn K (.ref f24) = true)
    (a25 : PySem.W.findIn K (.ref C) "rank_of" = some (some (.ref f25))) (i25 : PySem.W.isFn K (.ref f25) = true) (l25 : K.lookup f25 = some ⟨oc25, od25, .func (PySem.W.fnOf "rank_of" "Joins.rank_of" (C8.fnArgs s_Joins_rank_of) (C8.fnBody s_Joins_rank_of) (C8.fnScope s_Joins_rank_of) .none kV25 dc25 pm25 an25 cd25 ct25), sl25⟩) (c25 : PySem.W.codeIn K cd25 "Joins.rank_of" = true)
    (k25 : PySem.W.keepIn K (.ref f25) = true) (a26 : PySem.W.findIn K (.ref C) "has_piece" = some (some (.ref f26))) (i26 : PySem.W.isFn K (.ref f26) = true) (l26 : K.lookup f26 = some ⟨oc26, od26, .func (PySem.W.fnOf "has_piece" "Joins.has_piece" (C8.fnArgs s_Joins_has_piece) (C8.fnBody s_Joins_has_piece) (C8.fnScope s_Joins_has_piece) .none kV26 dc26 pm26 an26 cd26 ct26), sl26⟩)
    (c26 : PySem.W.codeIn K cd26 "Joins.has_piece" = true) (k26 : PySem.W.keepIn K (.ref f26) = true) (a27 : PySem.W.findIn K (.ref C) "check_piece" = some (some (.ref f27))) (i27 : PySem.W.isFn K (.ref f27) = true)
    (l27 : K.lookup f27 = some ⟨oc27, od27, .func (PySem.W.fnOf "check_piece" "Joins.check_piece" (C8.fnArgs s_Joins_check_piece) (C8.fnBody s_Joins_check_piece) (C8.fnScope s_Joins_check_piece) .none kV27 dc27 pm27 an27 cd27 ct27), sl27⟩) (c27 : PySem.W.codeIn K cd27 "Joins.check_piece" = true) (k27 : PySem.W.keepIn K (.ref f27) = true) (a28 : PySem.W.nsIn K mainGlobals "_law_pool" = some (some (.ref f28)))
    (l28 : K.lookup f28 = some ⟨oc28, od28, .func (PySem.W.fnOf "_law_pool" "_law_pool" (C8.fnArgs s__law_pool) (C8.fnBody s__law_pool) (C8.fnScope s__law_pool) .none kV28 dc28 pm28 an28 cd28 ct28), sl28⟩) (c28 : PySem.W.codeIn K cd28 "_law_pool" = true) (k28 : PySem.W.keepIn K (.ref f28) = true) (a29 : PySem.W.nsIn K mainGlobals "_law_draw" = some (some (.ref f29)))
    (l29 : K.lookup f29 = some ⟨oc29, od29, .func (PySem.W.fnOf "_law_draw" "_law_draw" (C8.fnArgs s__law_draw) (C8.fnBody s__law_draw) (C8.fnScope s__law_draw) .none kV29 dc29 pm29 an29 cd29 ct29), sl29⟩) (c29 : PySem.W.codeIn K cd29 "_law_draw" = true) (k29 : PySem.W.keepIn K (.ref f29) = true) (a30 : PySem.W.nsIn K mainGlobals "_law_alphabet" = some (some (.ref f30)))
    (l30 : K.lookup f30 = some ⟨oc30, od30, .func (PySem.W.fnOf "_law_alphabet" "_law_alphabet" (C8.fnArgs s__law_alphabet) (C8.fnBody s__law_alphabet) (C8.fnScope s__law_alphabet) .none kV30 dc30 pm30 an30 cd30 ct30), sl30⟩) (c30 : PySem.W.codeIn K cd30 "_law_alphabet" = true) (k30 : PySem.W.keepIn K (.ref f30) = true) (a31 : PySem.W.nsIn K mainGlobals "_law_staged" = some (some (.ref f31)))
    (l31 : K.lookup f31 = some ⟨oc31, od31, .func (PySem.W.fnOf "_law_staged" "_law_staged" (C8.fnArgs s__law_staged) (C8.fnBody s__law_staged) (C8.fnScope s__law_staged) .none kV31 dc31 pm31 an31 cd31 ct31), sl31⟩) (c31 : PySem.W.codeIn K cd31 "_law_staged" = true) (k31 : PySem.W.keepIn K (.ref f31) = true) (a32 : PySem.W.nsIn K mainGlobals "_law_cut" = some (some (.ref f32)))
    (l32 : K.lookup f32 = some ⟨oc32, od32, .func (PySem.W.fnOf "_law_cut" "_law_cut" (C8.fnArgs s__law_cut) (C8.fnBody s__law_cut) (C8.fnScope s__law_cut) .none kV32 dc32 pm32 an32 cd32 ct32), sl32⟩) (c32 : PySem.W.codeIn K cd32 "_law_cut" = true) (k32 : PySem.W.keepIn K (.ref f32) = true) (a33 : PySem.W.nsIn K mainGlobals "_law_pairs" = some (some (.ref f33)))
    (l33 : K.lookup f33 = some ⟨oc33, od33, .func (PySem.W.fnOf "_law_pairs" "_law_pairs" (C8.fnArgs s__law_pairs) (C8.fnBody s__law_pairs) (C8.fnScope s__law_pairs) .none kV33 dc33 pm33 an33 cd33 ct33), sl33⟩) (c33 : PySem.W.codeIn K cd33 "_law_pairs" = true) (k33 : PySem.W.keepIn K (.ref f33) = true) (a34 : PySem.W.nsIn K mainGlobals "_law_few_letters" = some (some (.ref f34)))
    (l34 : K.lookup f34 = some ⟨oc34, od34, .func (PySem.W.fnOf "_law_few_letters" "_law_few_letters" (C8.fnArgs s__law_few_letters) (C8.fnBody s__law_few_letters) (C8.fnScope s__law_few_letters) .none kV34 dc34 pm34 an34 cd34 ct34), sl34⟩) (c34 : PySem.W.codeIn K cd34 "_law_few_letters" = true) (k34 : PySem.W.keepIn K (.ref f34) = true) (a35 : PySem.W.nsIn K mainGlobals "_law_sides" = some (some (.ref f35)))
    (l35 : K.lookup f35 = some ⟨oc35, od35, .func (PySem.W.fnOf "_law_sides" "_law_sides" (C8.fnArgs s__law_sides) (C8.fnBody s__law_sides) (C8.fnScope s__law_sides) .none kV35 dc35 pm35 an35 cd35 ct35), sl35⟩) (c35 : PySem.W.codeIn K cd35 "_law_sides" = true) (k35 : PySem.W.keepIn K (.ref f35) = true) (a36 : PySem.W.nsIn K mainGlobals "_law_same" = some (some (.ref f36)))
    (l36 : K.lookup f36 = some ⟨oc36, od36, .func (PySem.W.fnOf "_law_same" "_law_same" (C8.fnArgs s__law_same) (C8.fnBody s__law_same) (C8.fnScope s__law_same) .none kV36 dc36 pm36 an36 cd36 ct36), sl36⟩) (c36 : PySem.W.codeIn K cd36 "_law_same" = true) (k36 : PySem.W.keepIn K (.ref f36) = true) (a37 : PySem.W.nsIn K mainGlobals "_law_texts" = some (some (.ref f37)))
    (l37 : K.lookup f37 = some ⟨oc37, od37, .func (PySem.W.fnOf "_law_texts" "_law_texts" (C8.fnArgs s__law_texts) (C8.fnBody s__law_texts) (C8.fnScope s__law_texts) .none kV37 dc37 pm37 an37 cd37 ct37), sl37⟩) (c37 : PySem.W.codeIn K cd37 "_law_texts" = true) (k37 : PySem.W.keepIn K (.ref f37) = true) (a38 : PySem.W.nsIn K mainGlobals "_law_best" = some (some (.ref f38)))
    (l38 : K.lookup f38 = some ⟨oc38, od38, .func (PySem.W.fnOf "_law_best" "_law_best" (C8.fnArgs s__law_best) (C8.fnBody s__law_best) (C8.fnScope s__law_best) .none kV38 dc38 pm38 an38 cd38 ct38), sl38⟩) (c38 : PySem.W.codeIn K cd38 "_law_best" = true) (k38 : PySem.W.keepIn K (.ref f38) = true) (a39 : PySem.W.nsIn K mainGlobals "law" = some (some (.ref f39)))
    (l39 : K.lookup f39 = some ⟨oc39, od39, .func (PySem.W.fnOf "law" "law" (C8.fnArgs s_law) (C8.fnBody s_law) (C8.fnScope s_law) .none kV39 dc39 pm39 an39 cd39 ct39), sl39⟩) (c39 : PySem.W.codeIn K cd39 "law" = true) (k39 : PySem.W.keepIn K (.ref f39) = true) (pgC : PySem.W.plainGet K C Str.empty = true)
    (hdC : PySem.W.hasDictIn K C = true) (poC : PySem.W.plainOver K C = true) (saC : PySem.W.findIn K (.ref C) "__setattr__" = some (some (.builtin "object.__setattr__"))) (mkC : PySem.W.makesIn K C = true)
    (kcC : PySem.W.keepIn K (.ref C) = true) (nC0 : PySem.W.findIn K (.ref C) "alphabet" = some none) (nC1 : PySem.W.findIn K (.ref C) "pairs" = some none) (nC2 : PySem.W.findIn K (.ref C) "_texts" = some none)
    (nC3 : PySem.W.findIn K (.ref C) "_ranks" = some none) (nC4 : PySem.W.findIn K (.ref C) "_pieces_by_text" = some none) (z0 : PySem.W.nsIn K mainGlobals "isinstance" = some none) (z1 : PySem.W.nsIn K mainGlobals "len" = some none)
    (z2 : PySem.W.nsIn K mainGlobals "min" = some none) (z3 : PySem.W.nsIn K mainGlobals "all" = some none) (z4 : PySem.W.nsIn K mainGlobals "abs" = some none) (z5 : PySem.W.nsIn K mainGlobals "int" = some none)
    (z6 : PySem.W.nsIn K mainGlobals "bool" = some none) (z7 : PySem.W.nsIn K mainGlobals "str" = some none) (z8 : PySem.W.nsIn K mainGlobals "tuple" = some none) (z9 : PySem.W.nsIn K mainGlobals "list" = some none)
    (z10 : PySem.W.nsIn K mainGlobals "zip" = some none) (z11 : PySem.W.nsIn K mainGlobals "enumerate" = some none) (z12 : PySem.W.nsIn K mainGlobals "range" = some none) (z13 : PySem.W.nsIn K mainGlobals "sorted" = some none)
    (z14 : PySem.W.nsIn K mainGlobals "max" = some none) (z15 : PySem.W.nsIn K mainGlobals "dict" = some none) (z16 : PySem.W.nsIn K mainGlobals "iter" = some none) (v0 : PySem.W.nsIn K mainGlobals "MOST_LETTERS" = some (some (.int 30 tk0)))
    (v1 : PySem.W.nsIn K mainGlobals "MOST_SIGNS_OF_PIECE" = some (some (.int 40 tk1))) :
    ∃ fd : FuncData, (∀ (s : Shared) (v : Value), BindsTo s fd ⟨[v], []⟩ [("script", v)]) ∧ ∀ base : Heap, K.In base → base.Ns mainGlobals mg → FnOk l.prog w K mg base C8.CX0 14 fa fd ["script"] (sp_law K) := by
  have e := hfa.symm.trans (PySem.W.mg_of X G a39)
  cases e
  have T : Txt K mg := ⟨PySem.W.mg_none_of X G z0, PySem.W.mg_none_of X G z1, PySem.W.mg_none_of X G z2, PySem.W.mg_none_of X G z3, PySem.W.mg_none_of X G z4, PySem.W.mg_none_of X G z5, PySem.W.mg_none_of X G z6, PySem.W.mg_none_of X G z7, PySem.W.mg_none_of X G z8, PySem.W.mg_none_of X G z9, PySem.W.mg_none_of X G z10, PySem.W.mg_none_of X G z11, PySem.W.mg_none_of X G z12, PySem.W.mg_none_of X G z13, PySem.W.mg_none_of X G z14, PySem.W.mg_none_of X G z15, PySem.W.mg_none_of X G z16, ⟨_, PySem.W.mg_of X G v0, ⟨_, rfl⟩⟩, ⟨_, PySem.W.mg_of X G v1, ⟨_, rfl⟩⟩⟩
  have J : JTxt K C := ⟨⟨pgC, hdC, poC, saC⟩, nC0, nC1, nC2, nC3, nC4⟩
  have F0 : C8.Fun K "spine" "spine" s_spine f0 _ := ⟨⟨_, _, _, _, _, _, _, _, _, _, rfl, l0, c0⟩⟩
  have b0 := F0.binds rfl (ps := ["joins", "piece", "side"]) fun _ _ _ _ _ _ us hl => match us, hl with | [_, _, _], _ => rfl
  have F1 : C8.Fun K "right_spine" "right_spine" s_right_spine f1 _ := ⟨⟨_, _, _, _, _, _, _, _, _, _, rfl, l1, c1⟩⟩
  have b1 := F1.binds rfl (ps := ["joins", "piece"]) fun _ _ _ _ _ _ us hl => match us, hl with | [_, _], _ => rfl
  have F2 : C8.Fun K "left_spine" "left_spine" s_left_spine f2 _ := ⟨⟨_, _, _, _, _, _, _, _, _, _, rfl, l2, c2⟩⟩
  have b2 := F2.binds rfl (ps := ["joins", "piece"]) fun _ _ _ _ _ _ us hl => match us, hl with | [_, _], _ => rfl
  have F3 : C8.Fun K "is_ahead_in_left" "is_ahead_in_left" s_is_ahead_in_left f3 _ := ⟨⟨_, _, _, _, _, _, _, _, _, _, rfl, l3, c3⟩⟩
  have b3 := F3.binds rfl (ps := ["rank", "bound"]) fun _ _ _ _ _ _ us hl => match us, hl with | [_, _], _ => rfl
  have F4 : C8.Fun K "is_ahead_in_right" "is_ahead_in_right" s_is_ahead_in_right f4 _ := ⟨⟨_, _, _, _, _, _, _, _, _, _, rfl, l4, c4⟩⟩
  have b4 := F4.binds rfl (ps := ["rank", "bound"]) fun _ _ _ _ _ _ us hl => match us, hl with | [_, _], _ => rfl
  have F5 : C8.Fun K "following_masks" "following_masks" s_following_masks f5 _ := ⟨⟨_, _, _, _, _, _, _, _, _, _, rfl, l5, c5⟩⟩
  have b5 := F5.binds rfl (ps := ["joins"]) fun _ _ _ _ _ _ us hl => match us, hl with | [_], _ => rfl
  have F6 : C8.Fun K "choices_behind" "choices_behind" s_choices_behind f6 _ := ⟨⟨_, _, _, _, _, _, _, _, _, _, rfl, l6, c6⟩⟩
  have b6 := F6.binds rfl (ps := ["joins"]) fun _ _ _ _ _ _ us hl => match us, hl with | [_], _ => rfl
  have F7 : C8.Fun K "fewest" "fewest" s_fewest f7 _ := ⟨⟨_, _, _, _, _, _, _, _, _, _, rfl, l7, c7⟩⟩
  have b7 := F7.binds rfl (ps := ["joins", "many"]) fun _ _ _ _ _ _ us hl => match us, hl with | [_, _], _ => rfl
  have F8 : C8.Fun K "most" "most" s_most f8 _ := ⟨⟨_, _, _, _, _, _, _, _, _, _, rfl, l8, c8⟩⟩
  have b8 := F8.binds rfl (ps := ["joins", "many"]) fun _ _ _ _ _ _ us hl => match us, hl with | [_, _], _ => rfl
  have F9 : C8.Fun K "lowest_worth" "lowest_worth" s_lowest_worth f9 _ := ⟨⟨_, _, _, _, _, _, _, _, _, _, rfl, l9, c9⟩⟩
  have b9 := F9.binds rfl (ps := ["joins", "many", "worth"]) fun _ _ _ _ _ _ us hl => match us, hl with | [_, _, _], _ => rfl
  have F10 : C8.Fun K "is_integer" "is_integer" s_is_integer f10 _ := ⟨⟨_, _, _, _, _, _, _, _, _, _, rfl, l10, c10⟩⟩
  have b10 := F10.binds rfl (ps := ["value"]) fun _ _ _ _ _ _ us hl => match us, hl with | [_], _ => rfl
  have F11 : C8.Fun K "is_number_below" "is_number_below" s_is_number_below f11 _ := ⟨⟨_, _, _, _, _, _, _, _, _, _, rfl, l11, c11⟩⟩
  have b11 := F11.binds rfl (ps := ["value", "end"]) fun _ _ _ _ _ _ us hl => match us, hl with | [_, _], _ => rfl
  have F12 : C8.Fun K "is_sign" "is_sign" s_is_sign f12 _ := ⟨⟨_, _, _, _, _, _, _, _, _, _, rfl, l12, c12⟩⟩
  have b12 := F12.binds rfl (ps := ["sign"]) fun _ _ _ _ _ _ us hl => match us, hl with | [_], _ => rfl
  have F13 : C8.Fun K "is_alphabet" "is_alphabet" s_is_alphabet f13 _ := ⟨⟨_, _, _, _, _, _, _, _, _, _, rfl, l13, c13⟩⟩
  have b13 := F13.binds rfl (ps := ["text"]) fun _ _ _ _ _ _ us hl => match us, hl with | [_], _ => rfl
  have F14 : C8.Fun K "check_alphabet" "check_alphabet" s_check_alphabet f14 _ := ⟨⟨_, _, _, _, _, _, _, _, _, _, rfl, l14, c14⟩⟩
  have b14 := F14.binds rfl (ps := ["text"]) fun _ _ _ _ _ _ us hl => match us, hl with | [_], _ => rfl
  have F15 : C8.Fun K "letter_row" "letter_row" s_letter_row f15 _ := ⟨⟨_, _, _, _, _, _, _, _, _, _, rfl, l15, c15⟩⟩
  have b15 := F15.binds rfl (ps := ["alphabet", "text"]) fun _ _ _ _ _ _ us hl => match us, hl with | [_, _], _ => rfl
  have F16 : C8.Fun K "join_neighbors" "join_neighbors" s_join_neighbors f16 _ := ⟨⟨_, _, _, _, _, _, _, _, _, _, rfl, l16, c16⟩⟩
  have b16 := F16.binds rfl (ps := ["row", "pair", "piece"]) fun _ _ _ _ _ _ us hl => match us, hl with | [_, _, _], _ => rfl
  have F17 : C8.Fun K "lowest_join" "lowest_join" s_lowest_join f17 _ := ⟨⟨_, _, _, _, _, _, _, _, _, _, rfl, l17, c17⟩⟩
  have b17 := F17.binds rfl (ps := ["ranks", "row"]) fun _ _ _ _ _ _ us hl => match us, hl with | [_, _], _ => rfl
  have F18 : C8.Fun K "join_down" "join_down" s_join_down f18 _ := ⟨⟨_, _, _, _, _, _, _, _, _, _, rfl, l18, c18⟩⟩
  have b18 := F18.binds rfl (ps := ["ranks", "letters", "row"]) fun _ _ _ _ _ _ us hl => match us, hl with | [_, _, _], _ => rfl
  have F19 : C8.Fun K "may_follow" "may_follow" s_may_follow f19 _ := ⟨⟨_, _, _, _, _, _, _, _, _, _, rfl, l19, c19⟩⟩
  have b19 := F19.binds rfl (ps := ["alphabet", "texts", "ranks", "pair"]) fun _ _ _ _ _ _ us hl => match us, hl with | [_, _, _, _], _ => rfl
  have F20 : C8.Fun K "__init__" "Joins.__init__" s_Joins___init__ f20 _ := ⟨⟨_, _, _, _, _, _, _, _, _, _, rfl, l20, c20⟩⟩
  have b20 := F20.binds rfl (ps := ["self", "alphabet", "pairs"]) fun _ _ _ _ _ _ us hl => match us, hl with | [_, _, _], _ => rfl
  have F21 : C8.Fun K "pieces" "Joins.pieces" s_Joins_pieces f21 _ := ⟨⟨_, _, _, _, _, _, _, _, _, _, rfl, l21, c21⟩⟩
  have b21 := F21.binds rfl (ps := ["self"]) fun _ _ _ _ _ _ us hl => match us, hl with | [_], _ => rfl
  have F22 : C8.Fun K "__iter__" "Joins.__iter__" s_Joins___iter__ f22 _ := ⟨⟨_, _, _, _, _, _, _, _, _, _, rfl, l22, c22⟩⟩
  have b22 := F22.binds rfl (ps := ["self"]) fun _ _ _ _ _ _ us hl => match us, hl with | [_], _ => rfl
  have F23 : C8.Fun K "text_of" "Joins.text_of" s_Joins_text_of f23 _ := ⟨⟨_, _, _, _, _, _, _, _, _, _, rfl, l23, c23⟩⟩
  have b23 := F23.binds rfl (ps := ["self", "piece"]) fun _ _ _ _ _ _ us hl => match us, hl with | [_, _], _ => rfl
  have F24 : C8.Fun K "parts_of" "Joins.parts_of" s_Joins_parts_of f24 _ := ⟨⟨_, _, _, _, _, _, _, _, _, _, rfl, l24, c24⟩⟩
  have b24 := F24.binds rfl (ps := ["self", "piece"]) fun _ _ _ _ _ _ us hl => match us, hl with | [_, _], _ => rfl
  have F25 : C8.Fun K "rank_of" "Joins.rank_of" s_Joins_rank_of f25 _ := ⟨⟨_, _, _, _, _, _, _, _, _, _, rfl, l25, c25⟩⟩
  have b25 := F25.binds rfl (ps := ["self", "left", "right"]) fun _ _ _ _ _ _ us hl => match us, hl with | [_, _, _], _ => rfl
  have F26 : C8.Fun K "has_piece" "Joins.has_piece" s_Joins_has_piece f26 _ := ⟨⟨_, _, _, _, _, _, _, _, _, _, rfl, l26, c26⟩⟩
  have b26 := F26.binds rfl (ps := ["self", "piece"]) fun _ _ _ _ _ _ us hl => match us, hl with | [_, _], _ => rfl
  have F27 : C8.Fun K "check_piece" "Joins.check_piece" s_Joins_check_piece f27 _ := ⟨⟨_, _, _, _, _, _, _, _, _, _, rfl, l27, c27⟩⟩
  have b27 := F27.binds rfl (ps := ["self", "piece"]) fun _ _ _ _ _ _ us hl => match us, hl with | [_, _], _ => rfl
  have F28 : C8.Fun K "_law_pool" "_law_pool" s__law_pool f28 _ := ⟨⟨_, _, _, _, _, _, _, _, _, _, rfl, l28, c28⟩⟩
  have b28 := F28.binds rfl (ps := ["script", "many"]) fun _ _ _ _ _ _ us hl => match us, hl with | [_, _], _ => rfl
  have F29 : C8.Fun K "_law_draw" "_law_draw" s__law_draw f29 _ := ⟨⟨_, _, _, _, _, _, _, _, _, _, rfl, l29, c29⟩⟩
  have b29 := F29.binds rfl (ps := ["pool", "many"]) fun _ _ _ _ _ _ us hl => match us, hl with | [_, _], _ => rfl
  have F30 : C8.Fun K "_law_alphabet" "_law_alphabet" s__law_alphabet f30 _ := ⟨⟨_, _, _, _, _, _, _, _, _, _, rfl, l30, c30⟩⟩
  have b30 := F30.binds rfl (ps := ["pool"]) fun _ _ _ _ _ _ us hl => match us, hl with | [_], _ => rfl
  have F31 : C8.Fun K "_law_staged" "_law_staged" s__law_staged f31 _ := ⟨⟨_, _, _, _, _, _, _, _, _, _, rfl, l31, c31⟩⟩
  have b31 := F31.binds rfl (ps := ["pairs", "letters", "row", "many"]) fun _ _ _ _ _ _ us hl => match us, hl with | [_, _, _, _], _ => rfl
  have F32 : C8.Fun K "_law_cut" "_law_cut" s__law_cut f32 _ := ⟨⟨_, _, _, _, _, _, _, _, _, _, rfl, l32, c32⟩⟩
  have b32 := F32.binds rfl (ps := ["pairs", "alphabet", "text"]) fun _ _ _ _ _ _ us hl => match us, hl with | [_, _, _], _ => rfl
  have F33 : C8.Fun K "_law_pairs" "_law_pairs" s__law_pairs f33 _ := ⟨⟨_, _, _, _, _, _, _, _, _, _, rfl, l33, c33⟩⟩
  have b33 := F33.binds rfl (ps := ["pool", "alphabet", "limit"]) fun _ _ _ _ _ _ us hl => match us, hl with | [_, _, _], _ => rfl
  have F34 : C8.Fun K "_law_few_letters" "_law_few_letters" s__law_few_letters f34 _ := ⟨⟨_, _, _, _, _, _, _, _, _, _, rfl, l34, c34⟩⟩
  have b34 := F34.binds rfl (ps := ["pool"]) fun _ _ _ _ _ _ us hl => match us, hl with | [_], _ => rfl
  have F35 : C8.Fun K "_law_sides" "_law_sides" s__law_sides f35 _ := ⟨⟨_, _, _, _, _, _, _, _, _, _, rfl, l35, c35⟩⟩
  have b35 := F35.binds rfl (ps := ["made", "alphabet"]) fun _ _ _ _ _ _ us hl => match us, hl with | [_, _], _ => rfl
  have F36 : C8.Fun K "_law_same" "_law_same" s__law_same f36 _ := ⟨⟨_, _, _, _, _, _, _, _, _, _, rfl, l36, c36⟩⟩
  have b36 := F36.binds rfl (ps := ["told", "due"]) fun _ _ _ _ _ _ us hl => match us, hl with | [_, _], _ => rfl
  have F37 : C8.Fun K "_law_texts" "_law_texts" s__law_texts f37 _ := ⟨⟨_, _, _, _, _, _, _, _, _, _, rfl, l37, c37⟩⟩
  have b37 := F37.binds rfl (ps := ["alphabet", "many"]) fun _ _ _ _ _ _ us hl => match us, hl with | [_, _], _ => rfl
  have F38 : C8.Fun K "_law_best" "_law_best" s__law_best f38 _ := ⟨⟨_, _, _, _, _, _, _, _, _, _, rfl, l38, c38⟩⟩
  have b38 := F38.binds rfl (ps := ["made", "sides", "many", "step"]) fun _ _ _ _ _ _ us hl => match us, hl with | [_, _, _, _], _ => rfl
  have F39 : C8.Fun K "law" "law" s_law fa _ := ⟨⟨_, _, _, _, _, _, _, _, _, _, rfl, l39, c39⟩⟩
  refine ⟨PySem.W.fnOf "law" "law" (C8.fnArgs s_law) (C8.fnBody s_law) (C8.fnScope s_law) .none kV39 dc39 pm39 an39 cd39 ct39, fun s v => .of_eq rfl, fun base _ _ => ?_⟩
  have c_is_integer : C8.Cal l.prog w K mg base 1 "is_integer" sp_is_integer [] := ⟨⟨f10, _, _, _, ok_is_integer F10 T, PySem.W.mg_of X G a10, k10, b10, .nil⟩⟩
  have c_is_number_below : C8.Cal l.prog w K mg base 2 "is_number_below" sp_is_number_below [] := ⟨⟨f11, _, _, _, ok_is_number_below F11 T c_is_integer, PySem.W.mg_of X G a11, k11, b11, .nil⟩⟩
  have c_is_sign : C8.Cal l.prog w K mg base 1 "is_sign" sp_is_sign [] := ⟨⟨f12, _, _, _, ok_is_sign F12 T, PySem.W.mg_of X G a12, k12, b12, .nil⟩⟩
  have c_is_alphabet : C8.Cal l.prog w K mg base 2 "is_alphabet" sp_is_alphabet [] := ⟨⟨f13, _, _, _, ok_is_alphabet F13 T c_is_sign, PySem.W.mg_of X G a13, k13, b13, .nil⟩⟩
  have c_check_alphabet : C8.Cal l.prog w K mg base 3 "check_alphabet" sp_check_alphabet [] := ⟨⟨f14, _, _, _, ok_check_alphabet F14 T c_is_alphabet, PySem.W.mg_of X G a14, k14, b14, .nil⟩⟩
  have c_letter_row : C8.Cal l.prog w K mg base 1 "letter_row" sp_letter_row [] := ⟨⟨f15, _, _, _, ok_letter_row F15 T, PySem.W.mg_of X G a15, k15, b15, .nil⟩⟩
  have c_join_neighbors : C8.Cal l.prog w K mg base 1 "join_neighbors" sp_join_neighbors [] := ⟨⟨f16, _, _, _, ok_join_neighbors F16 T, PySem.W.mg_of X G a16, k16, b16, .nil⟩⟩
  have c_lowest_join : C8.Cal l.prog w K mg base 1 "lowest_join" sp_lowest_join [] := ⟨⟨f17, _, _, _, ok_lowest_join F17 T, PySem.W.mg_of X G a17, k17, b17, .nil⟩⟩
  have c_join_down : C8.Cal l.prog w K mg base 2 "join_down" sp_join_down [] := ⟨⟨f18, _, _, _, ok_join_down F18 T c_lowest_join c_join_neighbors, PySem.W.mg_of X G a18, k18, b18, .nil⟩⟩
  have c_may_follow : C8.Cal l.prog w K mg base 3 "may_follow" sp_may_follow [] := ⟨⟨f19, _, _, _, ok_may_follow F19 T c_is_number_below c_join_down c_letter_row, PySem.W.mg_of X G a19, k19, b19, .nil⟩⟩
  have k_Joins : C8.Mak l.prog w K mg base 4 "Joins" C (sp_init C) [] := ⟨⟨f20, _, _, _, ⟨mkC, a20, i20, kcC⟩, ok_init F20 T J c_check_alphabet c_may_follow, PySem.W.mg_of X G aC, b20, .nil⟩⟩
  have m_has_piece : C8.Met l.prog w K mg base 3 C "has_piece" (sp_has_piece C) [] := ⟨⟨f26, _, _, _, J.cl, ⟨a26, i26, k26⟩, ok_has_piece F26 T J c_is_number_below, b26, .nil⟩⟩
  have m_check_piece : C8.Met l.prog w K mg base 4 C "check_piece" (sp_check_piece C) [] := ⟨⟨f27, _, _, _, J.cl, ⟨a27, i27, k27⟩, ok_check_piece F27 T J m_has_piece, b27, .nil⟩⟩
  have m_text_of : C8.Met l.prog w K mg base 5 C "text_of" (sp_text_of C) [] := ⟨⟨f23, _, _, _, J.cl, ⟨a23, i23, k23⟩, ok_text_of F23 T J m_check_piece, b23, .nil⟩⟩
  have m_parts_ofG : C8.Met l.prog w K mg base 5 C "parts_of" (sp_partsG C) [] := ⟨⟨f24, _, _, _, J.cl, ⟨a24, i24, k24⟩, ok_partsG F24 T J m_check_piece, b24, .nil⟩⟩
  have m_rank_of : C8.Met l.prog w K mg base 5 C "rank_of" (sp_rank C) [] := ⟨⟨f25, _, _, _, J.cl, ⟨a25, i25, k25⟩, ok_rank F25 T J m_check_piece, b25, .nil⟩⟩
  have c_spine : C8.Cal l.prog w K mg base 6 "spine" (sp_spine C) [] := ⟨⟨f0, _, _, _, ok_spine F0 T J m_parts_ofG m_rank_of, PySem.W.mg_of X G a0, k0, b0, .nil⟩⟩
  have c_right_spine : C8.Cal l.prog w K mg base 7 "right_spine" (sp_rspine 1 C) [] := ⟨⟨f1, _, _, _, ok_rspine F1 T J c_spine, PySem.W.mg_of X G a1, k1, b1, .nil⟩⟩
  have c_left_spine : C8.Cal l.prog w K mg base 7 "left_spine" (sp_rspine 0 C) [] := ⟨⟨f2, _, _, _, ok_lspine F2 T J c_spine, PySem.W.mg_of X G a2, k2, b2, .nil⟩⟩
  have c_is_ahead_in_left : C8.Cal l.prog w K mg base 1 "is_ahead_in_left" sp_aheadL [] := ⟨⟨f3, _, _, _, ok_aheadL F3 T, PySem.W.mg_of X G a3, k3, b3, .nil⟩⟩
  have c_is_ahead_in_right : C8.Cal l.prog w K mg base 1 "is_ahead_in_right" sp_aheadR [] := ⟨⟨f4, _, _, _, ok_aheadR F4 T, PySem.W.mg_of X G a4, k4, b4, .nil⟩⟩
  have c__law_pool : C8.Cal l.prog w K mg base 1 "_law_pool" (sp_pool K) [] := ⟨⟨f28, _, _, _, ok_pool F28 T, PySem.W.mg_of X G a28, k28, b28, .nil⟩⟩
  have c__law_draw : C8.Cal l.prog w K mg base 1 "_law_draw" sp_drawB [] := ⟨⟨f29, _, _, _, ok_drawB F29 T, PySem.W.mg_of X G a29, k29, b29, .nil⟩⟩
  have c__law_alphabet : C8.Cal l.prog w K mg base 2 "_law_alphabet" sp_alphabetB [] := ⟨⟨f30, _, _, _, ok_alphabetB F30 T c__law_draw, PySem.W.mg_of X G a30, k30, b30, .nil⟩⟩
  have c__law_staged : C8.Cal l.prog w K mg base 1 "_law_staged" sp_stagedB [] := ⟨⟨f31, _, _, _, ok_stagedB F31 T, PySem.W.mg_of X G a31, k31, b31, .nil⟩⟩
  have c__law_cut : C8.Cal l.prog w K mg base 2 "_law_cut" sp_cutB [] := ⟨⟨f32, _, _, _, ok_cutB F32 T c__law_staged, PySem.W.mg_of X G a32, k32, b32, .nil⟩⟩
  have c__law_pairs : C8.Cal l.prog w K mg base 3 "_law_pairs" sp_pairsB [] := ⟨⟨f33, _, _, _, ok_pairsB F33 T c__law_draw c__law_cut, PySem.W.mg_of X G a33, k33, b33, .nil⟩⟩
  have c_same0 : C8.Cal l.prog w K mg base 1 "_law_same" (sp_same 0) [] := ⟨⟨f36, _, _, _, ok_sameB0 F36 T, PySem.W.mg_of X G a36, k36, b36, .nil⟩⟩
  have c_same1 : C8.Cal l.prog w K mg base 2 "_law_same" (sp_same 1) [] := ⟨⟨f36, _, _, _, ok_sameBS F36 T c_same0, PySem.W.mg_of X G a36, k36, b36, .nil⟩⟩
  have c_same2 : C8.Cal l.prog w K mg base 3 "_law_same" (sp_same 2) [] := ⟨⟨f36, _, _, _, ok_sameBS F36 T c_same1, PySem.W.mg_of X G a36, k36, b36, .nil⟩⟩
  have m___iter__ : C8.Met l.prog w K mg base 1 C "__iter__" (sp_iter C) [] := ⟨⟨f22, _, _, _, J.cl, ⟨a22, i22, k22⟩, ok_iter F22 T J, b22, .nil⟩⟩
  have p_pieces : PrpC l.prog w K mg base 1 C "pieces" (sp_pieces C) := ⟨⟨pp21, f21, _, _, J.cl, ⟨a21, s21, t21, ⟨_, r21⟩⟩, ok_pieces F21 T J, b21⟩⟩
  have c_spineF : C8.Cal l.prog w K mg base 6 "spine" (sp_spineF C) [] := ⟨⟨f0, _, _, _, ok_spineF F0 T J m_parts_ofG m_rank_of, PySem.W.mg_of X G a0, k0, b0, .nil⟩⟩
  have c_right_spineF : C8.Cal l.prog w K mg base 7 "right_spine" (sp_rspineF 1 C) [] := ⟨⟨f1, _, _, _, ok_rspineF F1 T J c_spineF, PySem.W.mg_of X G a1, k1, b1, .nil⟩⟩
  have c_left_spineF : C8.Cal l.prog w K mg base 7 "left_spine" (sp_rspineF 0 C) [] := ⟨⟨f2, _, _, _, ok_lspineF F2 T J c_spineF, PySem.W.mg_of X G a2, k2, b2, .nil⟩⟩
  have c_following_masks : C8.Cal l.prog w K mg base 8 "following_masks" (sp_masks C) [] := ⟨⟨f5, _, _, _, ok_masks F5 T J p_pieces m___iter__ c_right_spineF c_left_spineF c_is_ahead_in_left c_is_ahead_in_right, PySem.W.mg_of X G a5, k5, b5, .nil⟩⟩
  have c_choices_behind : C8.Cal l.prog w K mg base 9 "choices_behind" (sp_choices C) [] := ⟨⟨f6, _, _, _, ok_choices F6 T J p_pieces c_following_masks, PySem.W.mg_of X G a6, k6, b6, .nil⟩⟩
  have c__law_few_letters : C8.Cal l.prog w K mg base 3 "_law_few_letters" sp_few [] := ⟨⟨f34, _, _, _, ok_few F34 T c__law_alphabet, PySem.W.mg_of X G a34, k34, b34, .nil⟩⟩
  have c__law_sides : C8.Cal l.prog w K mg base 3 "_law_sides" sp_lsides [] := ⟨⟨f35, _, _, _, ok_lsides F35 T c__law_cut, PySem.W.mg_of X G a35, k35, b35, .nil⟩⟩
  have c__law_texts : C8.Cal l.prog w K mg base 1 "_law_texts" sp_ltexts [] := ⟨⟨f37, _, _, _, ok_ltexts F37 T, PySem.W.mg_of X G a37, k37, b37, .nil⟩⟩
  have c_lowest_worth : C8.Cal l.prog w K mg base 10 "lowest_worth" (sp_lowest C) [] := ⟨⟨f9, _, _, _, ok_lowest F9 T J p_pieces m_text_of c_choices_behind, PySem.W.mg_of X G a9, k9, b9, .nil⟩⟩
  have c_fewest : C8.Cal l.prog w K mg base 11 "fewest" (sp_fewest C) [] := ⟨⟨f7, _, _, _, ok_fewest F7 T c_lowest_worth, PySem.W.mg_of X G a7, k7, b7, .nil⟩⟩
  have c_most : C8.Cal l.prog w K mg base 11 "most" (sp_most C) [] := ⟨⟨f8, _, _, _, ok_most F8 T c_lowest_worth, PySem.W.mg_of X G a8, k8, b8, .nil⟩⟩
  have c__law_best : C8.Cal l.prog w K mg base 1 "_law_best" sp_lbest [] := ⟨⟨f38, _, _, _, ok_lbest F38 T, PySem.W.mg_of X G a38, k38, b38, .nil⟩⟩
  exact ok_law F39 T J c__law_pool c__law_few_letters c__law_pairs c__law_draw k_Joins c__law_texts c__law_cut c_fewest c_most c__law_sides c__law_best c_same1
theorem walk {l : PySem.W.OpenLaw} {q : Program} {loose : List Str} {XP : (Str → Option Value) → Heap → Prop} {YP : World → Heap → Prop} {d : DefRec} {K : Params → PySem.W.Frag} (hn : l.most = some 63) (hdf : d.params.defaults = [])
    (hY : ∀ (w : World) (h : Heap), YP w h → (K w.params).In h)
    (F : ∀ (w : World) (mg : Str → Option Value) (fa : Addr) (h : Heap), (K w.params).In h → h.Ns mainGlobals mg → mg d.name = some (.ref fa) →
      ∃ fd : FuncData, (∀ (s : Shared) (u : Value), BindsTo s fd ⟨[u], []⟩ [("script", u)]) ∧ ∀ base : Heap, (K w.params).In base → base.Ns mainGlobals mg → FnOk l.prog w (K w.params) mg base C8.CX0 14 fa fd ["script"] (sp_law (K w.params))) :
    PySem.W.WalkO q loose XP YP l.row.toRowW d [] (fun f vs => PySem.call f vs) :=
  L2.walk_of (n := 63) (k := 14) (x := "script") (CX := fun _ => C8.CX0) (sp := fun w => sp_law (K w.params)) hn (by decide) hdf ⟨rfl, by decide, by decide⟩ hY F (fun _ _ a ns hl _ hS => ⟨a, ns, rfl, hS, hl, fun _ => rfl⟩) fun _ _ _ _ _ z => z
end RJ
end

section
open PySem PySem.W PyProof.Rows
set_option maxRecDepth 100000 in
set_option maxHeartbeats 0 in
theorem PySem.Challenge.cw_rankedjoins_k34_fewest_and_most_holds : PySem.Challenge.rw_rankedjoins_k34_fewest_and_most.Holds := by
  w_on; o_law; k_head; (case hw => w_witness2)
  k_fill
  refine RJ.walk (l := PySem.Challenge.rw_rankedjoins_k34_fewest_and_most) rfl rfl (fun w h Y => PySem.W.kIn_of Y) ?F
  case F =>
    intro w mg fa h KX G hmg
    refine' RJ.all_mk KX G hmg ?aC ?a0 ?l0 ?c0 ?k0 ?a1 ?l1 ?c1 ?k1 ?a2 ?l2 ?c2 ?k2 ?a3 ?l3 ?c3 ?k3 ?a4 ?l4 ?c4 ?k4 ?a5 ?l5 ?c5 ?k5 ?a6 ?l6 ?c6 ?k6 ?a7 ?l7 ?c7 ?k7 ?a8 ?l8 ?c8 ?k8 ?a9 ?l9 ?c9 ?k9 ?a10 ?l10 ?c10 ?k10 ?a11 ?l11 ?c11 ?k11 ?a12 ?l12 ?c12 ?k12 ?a13 ?l13 ?c13 ?k13 ?a14 ?l14 ?c14 ?k14 ?a15 ?l15 ?c15 ?k15 ?a16 ?l16 ?c16 ?k16 ?a17 ?l17 ?c17 ?k17 ?a18 ?l18 ?c18 ?k18 ?a19 ?l19 ?c19 ?k19 ?a20 ?i20 ?l20 ?c20 ?k20 ?a21 ?s21 ?t21 ?r21 ?l21 ?c21 ?k21 ?a22 ?i22 ?l22 ?c22 ?k22 ?a23 ?i23 ?l23 ?c23 ?k23 ?a24 ?i24 ?l24 ?c24 ?k24 ?a25 ?i25 ?l25 ?c25 ?k25 ?a26 ?i26 ?l26 ?c26 ?k26 ?a27 ?i27 ?l27 ?c27 ?k27 ?a28 ?l28 ?c28 ?k28 ?a29 ?l29 ?c29 ?k29 ?a30 ?l30 ?c30 ?k30 ?a31 ?l31 ?c31 ?k31 ?a32 ?l32 ?c32 ?k32 ?a33 ?l33 ?c33 ?k33 ?a34 ?l34 ?c34 ?k34 ?a35 ?l35 ?c35 ?k35 ?a36 ?l36 ?c36 ?k36 ?a37 ?l37 ?c37 ?k37 ?a38 ?l38 ?c38 ?k38 ?a39 ?l39 ?c39 ?k39 ?pgC ?hdC ?poC ?saC ?mkC ?kcC ?nC0 ?nC1 ?nC2 ?nC3 ?nC4 ?z0 ?z1 ?z2 ?z3 ?z4 ?z5 ?z6 ?z7 ?z8 ?z9 ?z10 ?z11 ?z12 ?z13 ?z14 ?z15 ?z16 ?v0 ?v1
    (case aC => k_is); (case a0 => k_is); (case l0 => k_is); (case c0 => k_is); (case k0 => k_is); (case a1 => k_is)
    (case l1 => k_is); (case c1 => k_is); (case k1 => k_is); (case a2 => k_is); (case l2 => k_is); (case c2 => k_is)
    (case k2 => k_is); (case a3 => k_is); (case l3 => k_is); (case c3 => k_is); (case k3 => k_is); (case a4 => k_is)
    (case l4 => k_is); (case c4 => k_is); (case k4 => k_is); (case a5 => k_is); (case l5 => k_is); (case c5 => k_is)
    (case k5 => k_is); (case a6 => k_is); (case l6 => k_is); (case c6 => k_is); (case k6 => k_is); (case a7 => k_is)
    (case l7 => k_is); (case c7 => k_is); (case k7 => k_is); (case a8 => k_is); (case l8 => k_is); (case c8 => k_is)
    (case k8 => k_is); (case a9 => k_is); (case l9 => k_is); (case c9 => k_is); (case k9 => k_is); (case a10 => k_is)
    (case l10 => k_is); (case c10 => k_is); (case k10 => k_is); (case a11 => k_is); (case l11 => k_is); (case c11 => k_is)
    (case k11 => k_is); (case a12 => k_is); (case l12 => k_is); (case c12 => k_is); (case k12 => k_is); (case a13 => k_is)
    (case l13 => k_is); (case c13 => k_is); (case k13 => k_is); (case a14 => k_is); (case l14 => k_is); (case c14 => k_is)
    (case k14 => k_is); (case a15 => k_is); (case l15 => k_is); (case c15 => k_is); (case k15 => k_is); (case a16 => k_is)
    (case l16 => k_is); (case c16 => k_is); (case k16 => k_is); (case a17 => k_is); (case l17 => k_is); (case c17 => k_is)
    (case k17 => k_is); (case a18 => k_is); (case l18 => k_is); (case c18 => k_is); (case k18 => k_is); (case a19 => k_is)
    (case l19 => k_is); (case c19 => k_is); (case k19 => k_is); (case a20 => k_is); (case i20 => k_is); (case l20 => k_is)
    (case c20 => k_is); (case k20 => k_is); (case a21 => k_is); (case s21 => k_is); (case t21 => k_is); (case r21 => k_is)
    (case l21 => k_is); (case c21 => k_is); (case k21 => k_is); (case a22 => k_is); (case i22 => k_is); (case l22 => k_is)
    (case c22 => k_is); (case k22 => k_is); (case a23 => k_is); (case i23 => k_is); (case l23 => k_is); (case c23 => k_is)
    (case k23 => k_is); (case a24 => k_is); (case i24 => k_is); (case l24 => k_is); (case c24 => k_is); (case k24 => k_is)
    (case a25 => k_is); (case i25 => k_is); (case l25 => k_is); (case c25 => k_is); (case k25 => k_is); (case a26 => k_is)
    (case i26 => k_is); (case l26 => k_is); (case c26 => k_is); (case k26 => k_is); (case a27 => k_is); (case i27 => k_is)
    (case l27 => k_is); (case c27 => k_is); (case k27 => k_is); (case a28 => k_is); (case l28 => k_is); (case c28 => k_is)
    (case k28 => k_is); (case a29 => k_is); (case l29 => k_is); (case c29 => k_is); (case k29 => k_is); (case a30 => k_is)
    (case l30 => k_is); (case c30 => k_is); (case k30 => k_is); (case a31 => k_is); (case l31 => k_is); (case c31 => k_is)
    (case k31 => k_is); (case a32 => k_is); (case l32 => k_is); (case c32 => k_is); (case k32 => k_is); (case a33 => k_is)
    (case l33 => k_is); (case c33 => k_is); (case k33 => k_is); (case a34 => k_is); (case l34 => k_is); (case c34 => k_is)
    (case k34 => k_is); (case a35 => k_is); (case l35 => k_is); (case c35 => k_is); (case k35 => k_is); (case a36 => k_is)
    (case l36 => k_is); (case c36 => k_is); (case k36 => k_is); (case a37 => k_is); (case l37 => k_is); (case c37 => k_is)
    (case k37 => k_is); (case a38 => k_is); (case l38 => k_is); (case c38 => k_is); (case k38 => k_is); (case a39 => k_is)
    (case l39 => k_is); (case c39 => k_is); (case k39 => k_is); (case pgC => k_is); (case hdC => k_is); (case poC => k_is)
    (case saC => k_is); (case mkC => k_is); (case kcC => k_is); (case nC0 => k_is); (case nC1 => k_is); (case nC2 => k_is)
    (case nC3 => k_is); (case nC4 => k_is); (case z0 => k_is); (case z1 => k_is); (case z2 => k_is); (case z3 => k_is)
    (case z4 => k_is); (case z5 => k_is); (case z6 => k_is); (case z7 => k_is); (case z8 => k_is); (case z9 => k_is)
    (case z10 => k_is); (case z11 => k_is); (case z12 => k_is); (case z13 => k_is); (case z14 => k_is); (case z15 => k_is)
    (case z16 => k_is); (case v0 => k_is); (case v1 => k_is)
end
