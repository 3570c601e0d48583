/- Plain facts on packed bytes: what one token does, where a row of tokens ends, bytes copied from behind, more room, rows behind one another. Conditions: none. -/
import Derived.Test.YtkgmelhigjjbbaaPure
namespace Go.Proofs.Ytkgmelhigjjbbaa.Lz
set_option linter.unusedSimpArgs false
set_option linter.unusedVariables false

/-- n bytes more, each that which stands d ahead of its place -/
def back : Nat → Nat → List UInt8 → List UInt8
  | 0, _, o => o
  | n + 1, d, o => back n d o ++ [(back n d o).getD ((back n d o).length - d) 0]
theorem back_len (n d : Nat) (o : List UInt8) : (back n d o).length = o.length + n := by
  induction n with
  | zero => rfl
  | succ n ih => simp [back, ih]; omega
theorem back_front (n d : Nat) (o : List UInt8) (j : Nat) (hj : j < o.length) : (back n d o)[j]? = o[j]? := by
  induction n with
  | zero => rfl
  | succ n ih => rw [back, List.getElem?_append_left (by rw [back_len]; omega), ih]
theorem back_get (d : Nat) (o : List UInt8) (h0 : 0 < d) (hd : d ≤ o.length) : ∀ (n i : Nat), i < n → (back n d o)[o.length + i]? = o[o.length - d + i % d]? := by
  intro n
  induction n with
  | zero => intro i hi; omega
  | succ n ih =>
    intro i hi
    rcases Nat.lt_or_ge i n with h | h
    · rw [back, List.getElem?_append_left (by rw [back_len]; omega), ih i h]
    · have hin : i = n := by omega
      subst hin
      rw [back, List.getElem?_append_right (by rw [back_len]; omega)]
      have hz : o.length + i - (back i d o).length = 0 := by rw [back_len]; omega
      rw [hz]
      have hlen := back_len i d o
      have hb : (back i d o).length - d < (back i d o).length := by omega
      have hm := Nat.mod_lt i h0
      have hx : (back i d o)[(back i d o).length - d]? = o[o.length - d + i % d]? := by
        rcases Nat.lt_or_ge i d with h1 | h1
        · rw [Nat.mod_eq_of_lt h1, back_front _ _ _ _ (by omega)]
          congr 1; omega
        · rw [show (back i d o).length - d = o.length + (i - d) from by omega, ih (i - d) (by omega), Nat.mod_eq_sub_mod h1]
      have hy : o.length - d + i % d < o.length := by omega
      rw [List.getElem?_eq_getElem hb, List.getElem?_eq_getElem hy] at hx
      rw [List.getElem?_eq_getElem hy, ← hx]
      simp [List.getD, List.getElem?_eq_getElem hb]
theorem back_ext {d : Nat} {o l : List UInt8} {n : Nat} (h0 : 0 < d) (hd : d ≤ o.length) (hl : l.length = o.length + n) (hf : ∀ j, j < o.length → l[j]? = o[j]?) (hb : ∀ i, i < n → l[o.length + i]? = o[o.length - d + i % d]?) : l = back n d o := by
  refine List.ext_getElem? fun j => ?_
  rcases Nat.lt_or_ge j o.length with h | h
  · rw [hf j h, back_front _ _ _ _ h]
  · rcases Nat.lt_or_ge (j - o.length) n with h1 | h1
    · have := hb (j - o.length) h1
      have h2 := back_get d o h0 hd n (j - o.length) h1
      rw [show o.length + (j - o.length) = j from by omega] at this h2
      rw [this, h2]
    · rw [List.getElem?_eq_none (by omega), List.getElem?_eq_none (by rw [back_len]; omega)]
/-- a piece of what was copied, copied again -/
theorem back_piece {d : Nat} {o : List UInt8} (h0 : 0 < d) (hd : d ≤ o.length) (a m : Nat) (ha : d ∣ a) (hm : m ≤ a + d) :
    back a d o ++ ((back a d o).drop (o.length - d)).take m = back (a + m) d o := by
  have hlen := back_len a d o
  obtain ⟨c, rfl⟩ := ha
  refine back_ext h0 hd (by rw [List.length_append, List.length_take, List.length_drop, hlen]; omega) (fun j hj => ?_) (fun i hi => ?_)
  · rw [List.getElem?_append_left (by omega), back_front _ _ _ _ hj]
  · rcases Nat.lt_or_ge i (d * c) with h | h
    · rw [List.getElem?_append_left (by omega), back_get d o h0 hd _ _ h]
    · rw [List.getElem?_append_right (by omega), List.getElem?_take_of_lt (by omega), List.getElem?_drop, hlen]
      have e0 : i = d * c + (i - d * c) := by omega
      have e1 : i % d = (i - d * c) % d := by
        conv => lhs; rw [e0]
        rw [Nat.mul_add_mod]
      rw [e1]
      generalize hk : i - d * c = k at *
      have e2 : o.length - d + (o.length + i - (o.length + d * c)) = o.length - d + k := by omega
      rw [e2]
      rcases Nat.lt_or_ge k d with h1 | h1
      · rw [Nat.mod_eq_of_lt h1, back_front _ _ _ _ (by omega)]
      · rw [show o.length - d + k = o.length + (k - d) from by omega, back_get d o h0 hd _ _ (by omega), Nat.mod_eq_sub_mod h1]
theorem back_pre {d : Nat} {o : List UInt8} (p : List UInt8) (h0 : 0 < d) (hd : d ≤ o.length) (n : Nat) : back n d (p ++ o) = p ++ back n d o := by
  induction n with
  | zero => rfl
  | succ n ih =>
    rw [back, back, ih, List.append_assoc]
    congr 2
    have hl := back_len n d o
    simp only [List.length_append]
    rw [List.getD_eq_getElem?_getD, List.getD_eq_getElem?_getD, List.getElem?_append_right (by omega)]
    congr 3
    omega
theorem back_add (n m d : Nat) (o : List UInt8) : back (n + m) d o = back m d (back n d o) := by
  induction m with
  | zero => rfl
  | succ m ih => rw [← Nat.add_assoc, back, back, ih]

structure St where
  x : List UInt8
  out : List UInt8
  lit : Nat
inductive Nx where
  | stop (e : Nat)
  | next (s : St)

/-- one token -/
def step (room : Nat) (s : St) : Nx :=
  if s.x = [] then .stop 0 else
  if Pu.rvE s.x ≠ 0 then .stop (Pu.rvE s.x) else
  if Pu.rvV s.x / 2 = 0 then .stop 22 else
  if Pu.rvV s.x % 2 = 1 then
    if Pu.rvE (s.x.drop (Pu.rvN s.x)) ≠ 0 then .stop (Pu.rvE (s.x.drop (Pu.rvN s.x))) else
    if Pu.rvV (s.x.drop (Pu.rvN s.x)) = 0 ∨ s.out.length < Pu.rvV (s.x.drop (Pu.rvN s.x)) then .stop 22 else
    if room - s.out.length < Pu.rvV s.x / 2 then .stop 24 else
    .next ⟨(s.x.drop (Pu.rvN s.x)).drop (Pu.rvN (s.x.drop (Pu.rvN s.x))), back (Pu.rvV s.x / 2) (Pu.rvV (s.x.drop (Pu.rvN s.x))) s.out, s.lit⟩
  else
    if room - s.out.length < Pu.rvV s.x / 2 then .stop 24 else
    if (s.x.drop (Pu.rvN s.x)).length < Pu.rvV s.x / 2 then .stop 21 else
    .next ⟨(s.x.drop (Pu.rvN s.x)).drop (Pu.rvV s.x / 2), s.out ++ (s.x.drop (Pu.rvN s.x)).take (Pu.rvV s.x / 2), s.lit + Pu.rvV s.x / 2⟩

inductive Ends (room : Nat) : St → St → Nat → Prop
  | stop {s : St} {e : Nat} (h : step room s = .stop e) : Ends room s s e
  | next {s s' r : St} {e : Nat} (h : step room s = .next s') (k : Ends room s' r e) : Ends room s r e
theorem Ends.same {room : Nat} {s r r' : St} {e e' : Nat} (h : Ends room s r e) (h' : Ends room s r' e') : r = r' ∧ e = e' := by
  induction h with
  | stop h =>
    cases h' with
    | stop k => rw [h] at k; injection k with k; exact ⟨rfl, k⟩
    | next k _ => rw [h] at k; cases k
  | next h _ ih =>
    cases h' with
    | stop k => rw [h] at k; cases k
    | next k k2 => rw [h] at k; injection k with k; subst k; exact ih k2

/-- what packed bytes come to: the bytes, how many by literals, the error -/
inductive Walks (room : Nat) : List UInt8 → List UInt8 → Nat → Nat → Prop
  | nil : Walks room [] [] 0 21
  | raw {r : List UInt8} (h : r.length ≤ room) : Walks room (0 :: r) r r.length 0
  | long {r : List UInt8} (h : room < r.length) : Walks room (0 :: r) [] 0 24
  | form {a : UInt8} {r : List UInt8} (h : 1 < a.toNat) : Walks room (a :: r) [] 0 22
  | toks {r : List UInt8} {s : St} {e : Nat} (h : Ends room ⟨r, [], 0⟩ s e) : Walks room (1 :: r) s.out s.lit e
theorem Walks.same {room : Nat} {b o o' : List UInt8} {n n' e e' : Nat} (h : Walks room b o n e) (h' : Walks room b o' n' e') : o = o' ∧ n = n' ∧ e = e' := by
  cases h with
  | nil => cases h'; exact ⟨rfl, rfl, rfl⟩
  | raw h =>
    cases h' with
    | raw => exact ⟨rfl, rfl, rfl⟩
    | long k => omega
    | form k => exact absurd k (by decide)
  | long h =>
    cases h' with
    | raw k => omega
    | long => exact ⟨rfl, rfl, rfl⟩
    | form k => exact absurd k (by decide)
  | form h =>
    cases h' with
    | raw => exact absurd h (by decide)
    | long => exact absurd h (by decide)
    | form => exact ⟨rfl, rfl, rfl⟩
    | toks => exact absurd h (by decide)
  | toks h =>
    cases h' with
    | form k => exact absurd k (by decide)
    | toks k =>
      obtain ⟨rfl, rfl⟩ := Ends.same h k
      exact ⟨rfl, rfl, rfl⟩
end Go.Proofs.Ytkgmelhigjjbbaa.Lz
